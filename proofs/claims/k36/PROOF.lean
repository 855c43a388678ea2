import PyProof.Rows.All
import PyProof.StrBlock2
import PyProof.Rows.StrIntSpec
import KE.KItemsList
import KE.KDictLaws
import PyProof.SumWalkG
import KE.KRevIter
import PyProof.ListRange
import PyProof.Rows.SortWalk
import KE.KSortedM
import PyProof.Rows.SortStr
import KE.KIntText
import PyProof.Rows.ListMul
import PyProof.ReprHeadsTuple
import Wide.All
import OpenK.AllK
import Wide.FinOn
import Lean
import PyProof.EqAt
import PyProof.EqKinds
import PyProof.TupleCall
import PyProof.NeKinds
import PyProof.DictUpdate
import KE.KDictList
import KE.KEqDict
import PyProof.Draws
import PyProof.Rows.EnumRows
import PyProof.StationsW
import PyProof.ExcClass3
import PyProof.RulesAs
import PyProof.ExcBaseAll.ValueError
import PyProof.InstStoreFacts
import PyProof.ExcArgsOwn
import PyProof.NsDelKeeps
import KE.RegKIsAll
import PyProof.Rows.LoopZipPat
import PyProof.StrLawsRepr
import KE.KDictOf
import PyProof.WalksS
import PyProof.AttrMissHeap
import PySem.Challenge.RW_goaltrail_k36_keeps
set_option Elab.async false
set_option linter.all false
set_option maxRecDepth 100000
set_option autoImplicit true
set_option relaxedAutoImplicit true
set_option genSizeOf false
set_option bootstrap.genMatcherCode false
set_option compiler.extract_closed false
open PySem.Str (ofString)
open PySem.PyData (keyHash)
open List (length_cons length_map length_nil)
section
open PySem PySem.Spec PyProof.Rows
def Zi:=@wpAny_bind
def Zj:=@List.getElem?_eq_getElem
def Zk:=@Heap.get?_push_of_some
def Zl:=@List.length_append
def Zm:=@List.size_toArray
def Zn:=@Nat.le_refl
def Zo:=@List.map_append
def Zp:=@wpAny_pure
def Zq:=@List.mem_singleton
def Zr:=@Bool.false_ne_true
def Zs:=@Heap.lt_size
def Zt:=@Bool.false_xor
def Zu:=@List.mem_cons
def Zv:=@Heap.get?_push_size
def Zw:=@Option.some.inj
def Zx:=@List.mem_cons_of_mem
def Zy:=@List.length_singleton
def Zz:=@List.getElem?_cons_zero
def Z0:=@Nat.zero_le
def Z1:=@Nat.ne_of_lt
def Z2:=@List.getD_eq_getElem?_getD
def Z3:=@decide_eq_false
def Z4:=@F.plainAttrs_list
def Z5:=@List.map_cons
def Z6:=@List.not_mem_nil
def Z7:=@List.length_take
def Z8:=@of_decide_eq_true
def Z9:=@Heap.get?_update_other
def Yc:=@Nat.lt_of_lt_of_le
def Yd:=@List.mem_cons_self
def Ye:=@decide_eq_true
def Yg:=@List.append_nil
def Yh:=@Option.some.injEq
def Yi:=@List.getElem?_eq_some_iff
def Yj:=@PassesOwn.never
def Yk:=@List.getElem?_map
def Yl:=@List.mem_append_right
def Ym:=@Heap.get?_update_self
def Yn:=@Nat.le_trans
def Yo:=@List.take_of_length_le
def Yp:=@PySem.mem_of_lookup
def Yq:=@List.getElem_mem
def Yr:=@wpAny_field
def Ys:=@List.mem_map
def Yt:=@List.mem_append
def Yu:=@Array.getElem?_eq_some_iff
def Yv:=@F.slot_list_append
def Yw:=@PySem.boot_len
def Yx:=@List.take_length
def Yy:=@wpAny_loadPart_at
def Yz:=@List.reverse_cons
def Y0:=@List.append_assoc
def Y1:=@F.type_list_append
def Y2:=@List.getElem?_cons_succ
def Y3:=@sizeLine_eq
def Y4:=@List.mem_of_getElem?
def Y5:=@builtinLookup_eq_fast
def Y6:=@wpAny_ite_split
def Y7:=@wpAny_holding
def Y8:=@wpAny_specialOf
def Y9:=@Heap.size_push
def Xj:=@PyProof.Rows.callWith_type1
def Xk:=@wpAny_call_entry
def Xl:=@strLen_append
def Xm:=@or_false
def Xn:=@congrArg
def Xo:=@Nat.lt_irrefl
def Xp:=@Bool.and_eq_true
def Xq:=@List.nodup_append
def Xr:=@wpAny_isSubtype_exc
def Xs:=@beq_eq_false_iff_ne
def Xu:=@typeLookup_type
def Xv:=@List.nodup_cons
def Xw:=@List.find?_cons
def Xx:=@of_decide_eq_false
def Xy:=@List.contains_cons
def Xz:=@List.cons_append
def X0:=@List.all_eq_true
def X8:=@Nat.ne_of_gt
def X9:=@Nat.mul_le_mul_right
def Wa:=@wpAny_truthy_bool
def Wb:=@wpAny_mono
def Wc:=@SeqAt.EqAt.same
def We:=@List.replicate_succ
def Wf:=@List.lookup_cons
def Wg:=@wpAny_seqItems
def Wh:=@List.mem_range
def Wi:=@Bool.false_eq_true
def Wj:=@Obj.isFreed_of_fields
def Wk:=@List.drop_eq_getElem_cons
def Wl:=@wpAny_updateSeq
def Wm:=@F.slot_zip_next
def Wn:=@Bool.eq_iff_iff
def Wo:=@wpAny_newObj_type
def Wp:=@lookup_relabel_local
def Wq:=@Nat.zero_add
def Wr:=@List.flatMap_cons
def Ws:=@List.any_cons
def Wt:=@Array.getElem?_setIfInBounds_ne
def Wu:=@F.plain_extend_loop
def Wv:=@Array.length_toList
def Ww:=@wpAny_setField
def Wx:=@joinParts_cons
def Wz:=@isSubtype_type
def W0:=@decide_eq_decide
def W1:=@W.kia_one
def W2:=@wpAny_setField_rec
def W3:=@wpAny_Call_Name_kw
def W4:=@tupleKind_room_in1
def W5:=@Option.map_eq_none_iff
def W6:=@wpAny_passesOwn
def W7:=@F.slot_list_pop
def W8:=@wpAny_attempt
def W9:=@List.getElem?_eq_none
def Va:=@Array.getElem?_toList
def Vb:=@Nat.lt_succ_of_lt
def Vc:=@Array.getD_eq_getD_getElem?
def Vd:=@wpAny_rule
def Ve:=@wpAny_isInstance
def Vf:=@Nat.le_add_right
def Vg:=@Array.getElem?_eq_getElem
def Vh:=@Heap.SameBut.update
def Vi:=@wpAny_execs_nil
def Vj:=@Nat.min_eq_left
def Vk:=@F.type_list_pop
def Vl:=@call_meets
def Vm:=@Obj.data_mapFields
def Vn:=@F.slot_list_insert
def Vo:=@F.slot_list_extend
def Vp:=@Calls.spliced_cons
def Vq:=@Calls.Constant_str
def Vr:=@wpAny_of_eq
def Vs:=@wpAny_nextOf_list_item
def Vt:=@codeAny_mono
def Vu:=@List.take_zero
def Vv:=@List.find?_cons_of_pos
def Vw:=@List.find?_cons_of_neg
def Vx:=@Calls.spliced_nil
def Vy:=@boot_list
def Vz:=@beq_self_eq_true
def V0:=@List.length_drop
def V1:=@List.map_take
def V2:=@Bool.true_and
def V3:=@if_false
def V4:=@Obj.data_mapDictKeys
def V5:=@List.mem_of_mem_take
def V6:=@List.mem_append_left
def V7:=@FormattedValue_plain
def V8:=@F.excBase_ValueError
def V9:=@Bool.and_eq_true_iff
def Ua:=@List.forIn_cons
def Ub:=@List.map_eq_nil_iff
def Uc:=@List.length_reverse
def Ud:=@W.callWith_K
def Ue:=@Nat.succ.inj
def Uf:=@wpAny_call
def Ug:=@SeqAt.EqAt.str_str
def Uh:=@SeqAt.EqAt.int_int
def Ui:=@List.nodup_iff_pairwise_ne
def Uj:=@List.forIn_nil
def Uk:=@List.find?_eq_none
def Ul:=@F.type_list_insert
def Um:=@wpAny_pyIter_list
def Uo:=@atKey_none_of_get
def Uq:=@Sum.inr.inj
def Ur:=@Nat.le_succ
def Us:=@List.take_add_one
def Ut:=@List.flatten_cons
def Uu:=@Int.toNat_natCast
def Uv:=@F.args_zip_next_1
def Uw:=@wpAny_standAt
def Ux:=@wpAny_comprehension_free
def Uy:=@Paired.length
def Uz:=@List.all_cons
def U0:=@wpAny_execs_cons
def U1:=@boot_int
def U2:=@Nat.lt_succ_self
def U3:=@List.filter_cons
def U4:=@Int.eq_ofNat_of_zero_le
def U5:=@F.entry_zip_next
def U6:=@beq_iff_eq
def U7:=@Option.map_eq_some_iff
def U8:=@List.map_nil
def U9:=@List.getElem?_set_self
def Ta:=@Calls.callWith_builtin
def Tb:=@Bool.or_true
def Tc:=@W.methodCall_KW
def Td:=@List.nil_append
def Te:=@List.cons.injEq
def Tf:=@F.slot_int_rmul
def Tg:=@formatField_int_small
def Th:=@wpAny_letGo
def Ti:=@List.getElem?_set_ne
def Tj:=@SeqAt.RcNeAt.tuples
def Tk:=@List.filterMap_cons
def Tl:=@plainId_quiet
def Tm:=@typeIs_int
def Tn:=@slot_tuple_getitem
def To:=@slot_dict_contains
def Tp:=@SeqAt.EqAt.str_int
def Tq:=@SeqAt.EqAt.of_refs
def Tr:=@SeqAt.EqAt.int_str
def Ts:=@List.append_of_mem
def Tt:=@F.type_list_extend
def Tu:=@AutoListH.list___mul___list_int_3
def Tv:=@wpAny_assign_Name
def Tw:=@decide_eq_true_eq
def Tx:=@call_meetsIn
def Ty:=@PySem.Within.cons
def Tz:=@Option.isSome_map
def T0:=@Obj.cls_mapFields
def T1:=@Nat.succ_mul
def T3:=@Nat.add_zero
def T4:=@List.map_map
def T5:=@List.find?_append
def T6:=@F.plainAttrs_dict
def T7:=@plainObj_wpAny_Assign_Attribute
def T8:=@wpAny_pyHash_str
def T9:=@wpAny_pyHash_int
def Sa:=@wpAny_lookBehind
def Sb:=@pastItsLine_dict
def Sc:=@SeqAt.eq_tupleAt
def Sd:=@List.drop_length
def Se:=@List.any_eq_true
def Sf:=@Paired.snoc
def Sg:=@Nat.one_mul
def Sh:=@List.take_append_of_le_length
def Si:=@Nat.not_lt_zero
def Sj:=@List.range_succ
def Sk:=@List.of_mem_zip
def Sl:=@F.slot_dict_get
def Sn:=@isSubtype_stop
def So:=@boot_tuple
def Sq:=@Nat.not_lt
def Sr:=@JoinedStr_many
def Ss:=@Calls.Name_function_global
def Su:=@Bool.and_false
def Sv:=@wpAny_binaryOp_repeat_ref
def Sw:=@List.getElem?_append_left
def Sx:=@wpAny_onRaise
def Sy:=@joinParts_nil
def Sz:=@W.plainGet_of
def S0:=@Option.isSome_iff_exists
def S2:=@List.getElem?_take_of_lt
def S3:=@List.cons.inj
def S4:=@Bool.or_false
def S5:=@Bool.false_or
def S6:=@wpAny_nsSet1
def S7:=@subscriptTail_builtinR
def S8:=@codeAny_compStart_list
def S9:=@Nat.le_of_lt
def Ra:=@Nat.add_comm
def Rb:=@F.slot_dict_setdefault
def Rc:=@wpAny_notOrdered_dict
def Re:=@wpAny_nextOf_list_end
def Rf:=@int___rmul___int_list
def Rg:=@codeAny_handlers_test
def Rh:=@List.take_append_drop
def Ri:=@List.mem_iff_getElem?
def Rj:=@List.length_replicate
def Rk:=@List.getElem?_toArray
def Rm:=@wpAny_updateSeq_pair
def Ro:=@wpAny_updateDictKeys
def Rp:=@wpAny_newFunctionEnv
def Rq:=@wpAny_loadName_local
def Rr:=@storedH_new
def Rt:=@codeAny_call_builtin
def Ru:=@W.kitx_list
def Rv:=@Str.ext'
def Rw:=@List.reverse_reverse
def Rx:=@F.args_list_extend_2
def Ry:=@Calls.evalArgs_plain
def Rz:=@Around.under_plainId
def R0:=@wpAny_loadName_cell
def R1:=@wpAny_handleBy_cons
def R3:=@PySem.wpAt_of_wpAny
def R5:=@Obj.isFreed_of_dict
def R6:=@List.reverse_append
def R7:=@List.getElem_of_mem
def R8:=@List.getElem?_range
def R9:=@List.flatMap_append
def Qa:=@Heap.get?_update_ne
def Qb:=@F.entry_list_extend
def Qc:=@F.entry_extend_loop
def Qd:=@wpAny_Name
def Qe:=@decide_eq_true_iff
def Qf:=@Subscript_
def Qg:=@SeqAt.RcNeAt.lists
def Qh:=@List.mem_filterMap
def Qi:=@List.forIn_toArray
def Qj:=@List.findIdx?_cons
def Qk:=@Int.emod_lt_of_pos
def Ql:=@F.args_tuple_add_2
def Qm:=@F.args_list_init_2
def Qn:=@Code.quiet_builtin
end
abbrev FG:=PySem.W.Frag
noncomputable section
theorem qk[Decidable p](h:decide p=true:=by decide +kernel):p:=of_decide_eq_true h
theorem qo{p:Prop}(h:p:=by omega):p:=h
theorem qd{p:Prop}(h:p:=by decide):p:=h
theorem qz{p:Prop}(h:p:=by simp):p:=h
theorem qn{p:Prop}(h:p:=by exact⟨rfl,rfl,rfl,qk,rfl,qk,qk⟩):p:=h
namespace L2
open PySem PySem.Spec PyProof.Rows
abbrev Key:=Sum Int Str
def b3u:Key->Value->Bool
 | .inl k,v=>Value.isInt k v
 | .inr x,v=>Value.isStrOf x v
def keyH(w:World):Key->Int
 | .inl k=>hashInt k
 | .inr x=>hashStr w x
theorem a2u:∀{k:Key}{v:Value},b3u k v=true->(∃i t,k=Sum.inl i/\v=Value.int i t)\/(∃x t,k=Sum.inr x/\v=Value.str x t)
 | .inl i,v,h=>by
  obtain⟨t,e⟩:=Value.isInt_shape (k:=i) (v:=v) h;exact .inl ⟨i,t,rfl,e⟩
 | .inr x,v,h=>by
  obtain⟨t,e⟩:=Value.isStrOf_shape (x:=x) (v:=v) h;exact .inr ⟨x,t,rfl,e⟩
theorem c6p(i:Int)(t:Tok):b3u (.inl i) (.int i t)=true:=by simp[b3u,Value.isInt]
theorem c6q(x:Str)(t:Tok):b3u (.inr x) (.str x t)=true:=by simp[b3u,Value.isStrOf]
theorem c6r(a b:Int):decide ((Sum.inl a:Key)=Sum.inl b)=(a==b):=by
 by_cases e:a=b
 ·subst e;simp
 ·have h:¬(Sum.inl a:Key)=Sum.inl b:=λq=>e (Sum.inl.inj q)
  rw[Z3 h];exact(Xs.mpr e).symm
theorem c6s(a b:Str):decide ((Sum.inr a:Key)=Sum.inr b)=decide (a=b):=by
 by_cases e:a=b
 ·subst e;simp
 ·have h:¬(Sum.inr a:Key)=Sum.inr b:=λq=>e (Uq q)
  rw[Z3 h,Z3 e]
theorem c6t(a:Int)(b:Str):decide ((Sum.inl a:Key)=Sum.inr b)=false:=Z3 (λq=>nomatch q)
theorem c6u(a:Str)(b:Int):decide ((Sum.inr a:Key)=Sum.inl b)=false:=Z3 (λq=>nomatch q)
def a1p(prog:Program)(w:World):PySem.KeyKind prog w Key where
 is:=b3u
 hash:=keyH w
 inj:=λv a b ha hb=>by
  rcases a2u ha with⟨i,t,rfl,rfl⟩|⟨x,t,rfl,rfl⟩
  ·rcases a2u hb with⟨j,u,rfl,e⟩|⟨y,u,rfl,e⟩
   ·injection e with e1 _;rw[e1]
   ·exact nomatch e
  ·rcases a2u hb with⟨j,u,rfl,e⟩|⟨y,u,rfl,e⟩
   ·exact nomatch e
   ·injection e with e1 _;rw[e1]
 byValue:=λk v h=>by
  rcases a2u h with⟨i,t,rfl,rfl⟩|⟨x,t,rfl,rfl⟩<;>rfl
 pyHash:=λhv h=>by
  rcases a2u hv with⟨i,t,rfl,rfl⟩|⟨x,t,rfl,rfl⟩
  ·exact T9 h
  ·exact T8 h
 eqBool:=λhu hv h=>by
  rcases a2u hu with⟨i,t,rfl,rfl⟩|⟨x,t,rfl,rfl⟩
  ·rcases a2u hv with⟨j,u,rfl,rfl⟩|⟨y,u,rfl,rfl⟩
   ·rw[c6r]at h;exact wpAny_eqBool_int h
   ·rw[c6t]at h;exact Tr i t y u _ _ _ _ h
  ·rcases a2u hv with⟨j,u,rfl,rfl⟩|⟨y,u,rfl,rfl⟩
   ·rw[c6u]at h;exact Tp x t j u _ _ _ _ h
   ·rw[c6s]at h;exact wpAny_eqBool_str h
 «strs»:=λk x t v h=>by
  rcases a2u h with⟨i,u,rfl,e⟩|⟨y,u,rfl,e⟩
  ·exact nomatch e
  ·injection e with e1 _
   subst e1;cases v<;>rfl
theorem a9o(prog:Program)(w:World)(i:Int)(t:Tok):(a1p prog w).is (.inl i) (.int i t)=true:=c6p i t
theorem a9p(prog:Program)(w:World)(x:Str)(t:Tok):(a1p prog w).is (.inr x) (.str x t)=true:=c6q x t
inductive V where
 |non|bl(b:Bool)|int(i:Int)|str(x:Str)|byt(b:Array UInt8)|flt(b:UInt64)|ref(a:Addr)|ty(n:String)
 deriving DecidableEq
def RelV:V->Value->Prop
 | .non,u=>u=Value.none
 | .bl b,u=>u=Value.bool b
 | .int i,u=>∃t,u=Value.int i t
 | .str x,u=>∃t,u=Value.str x t
 | .byt b,u=>∃t,u=Value.bytes b t
 | .flt b,u=>∃t,u=Value.float b t
 | .ref a,u=>u=Value.ref a
 | .ty n,u=>u=Value.type n
abbrev Vals:List V->List Value->Prop:=Paired RelV
theorem Vals.length(r:Vals xs us):xs.length=us.length:=Uy r
theorem Vals.get:∀{xs:List V}{us:List Value}{i:Nat}{x:V},Vals xs us->xs[i]? =some x->∃u,us[i]? =some u/\RelV x u
 |_,_,_,_,.nil,e=>by simp at e
 |_,_,0,_,.cons r _,e=>by simp at e;subst e;exact⟨_,rfl,r⟩
 |_,_,i+1,x,.cons _ t,e=>by
  obtain⟨u,h1,h2⟩:=Vals.get (i:=i) (x:=x) t (by simpa using e);exact⟨u,by simpa using h1,h2⟩
theorem Vals.append:∀{xs ys:List V}{us ws:List Value},Vals xs us->Vals ys ws->Vals (xs++ys) (us++ws)
 |_,_,_,_,.nil,s=>s
 |_,_,_,_,.cons r t,s=>.cons r (Vals.append t s)
theorem Vals.take:∀{xs:List V}{us:List Value}(n:Nat),Vals xs us->Vals (xs.take n) (us.take n)
 |_,_,0,_=>.nil
 |_,_,_+1,.nil=>.nil
 |_,_,n+1,.cons r t=>.cons r (Vals.take n t)
theorem Vals.drop:∀{xs:List V}{us:List Value}(n:Nat),Vals xs us->Vals (xs.drop n) (us.drop n)
 |_,_,0,r=>r
 |_,_,_+1,.nil=>.nil
 |_,_,n+1,.cons _ t=>Vals.drop n t
def RelO:Option V->Option Value->Prop
 |some v,some u=>RelV v u
 |none,none=>True
 |_,_=>False
def KV:List (κ×V)->List (κ×Value)->Prop:=Paired λ(p:κ×V) (q:κ×Value)=>p.1=q.1/\RelV p.2 q.2
def kV:Key->V
 | .inl i=>.int i
 | .inr x=>.str x
inductive HO where
 |lst(xs:List V)
 |tup(xs:List V)
 |dK(kvs:List (Key×V))|dT(kvs:List (List Key×V))
 |set(S:Int->Bool)(n:Nat)
 |ins(C dx:Addr)(fs:List (Str×V))
 |own(x:Addr)
 |xd(fs:List (Str×V))
 |met(f x:Addr)
 |rng(lo hi:Int)
 |frz(o:Obj)(u:HO)
 |tbl(ps:Array Value)
 |ext(φ:Heap->Prop)
abbrev Hp:=Addr->Option HO
def upd(H:Hp)(a:Addr)(o:HO):Hp:=λb=>if b=a then some o else H b
theorem a0c:upd H a o a=some o:=by unfold upd;rw[if_pos rfl]
theorem a0f(h:b≠a):upd H a o b=H b:=by unfold upd;rw[if_neg h]
theorem a1a{H:Hp}{a b:Addr}{o u:HO}(h:H a=some o)(h':H b=some u)(d:o≠u):a≠b:=by
 intro e;subst e;rw[h]at h';exact d (Zw h')
theorem a0w{H:Hp}{a b:Addr}{o:HO}(h:H a=some o)(h':H b=none):a≠b:=by
 intro e;subst e;rw[h]at h';cases h'
section
variable(P:Program)(w:World)
def a1r(H:Hp)(h:Heap)(a:Addr):HO->Prop
 | .lst xs=>xs.length<=sizeLine/\∃(its:List Value)(n:Nat),Vals xs its/\h.get? a=some { cls:=.type "list",data:=.seq its.toArray n}
 | .tup xs=>xs.length<=sizeLine/\∃its:List Value,Vals xs its/\IsTup h a its.toArray
 | .dK kvs=>kvs.length<=sizeLine/\(a==sysModules)=false/\∃vs,KV kvs vs/\h.DictOf (a1p P w) a vs
 | .dT kvs=>kvs.length<=sizeLine/\(a==sysModules)=false/\∃xs:List (List Key×Addr×Value),
   Paired (λ(p:List Key×V) (q:List Key×Addr×Value)=>p.1=q.1/\H q.2.1=some (.tup (p.1.map kV))/\RelV p.2 q.2.2) kvs xs/\
   ∃o es ep,h.get? a=some o/\o.ExactDict/\o.data=.dict es ep/\es.toList=xs.map (entryOfKey (tupleKind (a1p P w)))/\(xs.map (·.1)).Nodup
 | .set S n=>h.SetOf (intKind P w) a S n
 | .ins C dx fs=>H dx=some (.own a)/\fs.length<=1000/\dx≠a/\h.get? a=some (W.instObj C dx)/\
   ∃mA,h.Ns1 dx mA/\(∀f,RelO (fs.lookup f) (mA f))/\PySem.Within mA (fs.map (·.1))
 | .own _=>∃o,h.get? a=some o
 | .xd fs=>∃mA,h.Ns1 a mA/\∀f,RelO (fs.lookup f) (mA f)
 | .rng lo hi=>∃t u v,h.get? a=some { cls:=.type "range",data:=.fields #[.int lo t,.int hi u,.int 1 v]}
 | .frz o u=>h.get? a=some o/\a1r H h a u
 | .tbl ps=>h.get? a=some { cls:=.none,data:=.fields ps}
 | .met f x=>h.get? a=some (W.methodObj (.ref f) (.ref x))
 | .ext φ=>φ h/\(∃o,h.get? a=some o)/\∀h1 h2:Heap,φ h1->(∀o,h1.get? a=some o->h2.get? a=some o)->φ h2
def HOk(H:Hp)(h:Heap):Prop:=∀a o,H a=some o->a1r P w H h a o
end
section
variable{P:Program}{w:World}{H H':Hp}{h h':Heap}{a:Addr}{o:HO}
theorem a1r.lt(x:a1r P w H h a o):a<h.objs.size:=by
 cases o with
 |lst xs=>obtain⟨_,_,_,_,e⟩:=x;exact Zs e
 |tup xs=>obtain⟨_,_,_,p⟩:=x;exact p.lt
 |dK kvs=>obtain⟨_,_,_,_,o,_,_,e,_⟩:=x;exact Zs e
 |dT kvs=>obtain⟨_,_,_,_,o,_,_,e,_⟩:=x;exact Zs e
 |set S n=>obtain⟨o,_,_,_,e,_⟩:=x;exact Zs e
 |ins C dx fs=>obtain⟨_,_,_,e,_⟩:=x;exact Zs e
 |own y=>obtain⟨_,e⟩:=x;exact Zs e
 |xd fs=>obtain⟨_,⟨_,_,_,e,_⟩,_⟩:=x;exact Zs e
 |rng lo hi=>obtain⟨_,_,_,e⟩:=x;exact Zs e
 |frz ob u=>obtain⟨e,_⟩:=x;exact Zs e
 |tbl ps=>exact Zs (show h.get? a=some _ from x)
 |met f y=>exact Zs (show h.get? a=some _ from x)
 |ext φ=>obtain⟨_,⟨_,e⟩,_⟩:=x;exact Zs e
theorem Paired.mapP:∀{l₁:List α}{l₂:List β},Paired F l₁ l₂->(∀a b,F a b->G a b)->Paired G l₁ l₂
 |_,_,.nil,_=>.nil
 |_,_,.cons r t,f=>.cons (f _ _ r) (Paired.mapP t f)
theorem a1r.stay(x:a1r P w H h a o)(k:∀b u,(b=a\/H b=some (.own a))->h.get? b=some u->h'.get? b=some u)
  (ho:∀b,H b=some (.own a)->H' b=some (.own a))(ht:∀b xs,H b=some (.tup xs)->H' b=some (.tup xs)):a1r P w H' h' a o:=by
 induction o with
 |lst xs=>obtain⟨z,its,n,r,e⟩:=x;exact⟨z,its,n,r,k _ _ (.inl rfl) e⟩
 |tup xs=>obtain⟨z,its,r,ob,e,c⟩:=x;exact⟨z,its,r,ob,k _ _ (.inl rfl) e,c⟩
 |dK kvs=>obtain⟨z,y,vs,r,ob,es,ep,e,c⟩:=x;exact⟨z,y,vs,r,ob,es,ep,k _ _ (.inl rfl) e,c⟩
 |dT kvs=>
  obtain⟨z,y,xs,r,ob,es,ep,e,c⟩:=x;exact⟨z,y,xs,Paired.mapP r λp q z=>⟨z.1,ht _ _ z.2.1,z.2.2⟩,ob,es,ep,k _ _ (.inl rfl) e,c⟩
 |set S n=>obtain⟨ob,es,ep,t,e,c⟩:=x;exact⟨ob,es,ep,t,k _ _ (.inl rfl) e,c⟩
 |ins C dx fs=>
  obtain⟨d,z,ne,e,mA,⟨od,es,ep,e2,c⟩,r⟩:=x;exact⟨ho _ d,z,ne,k _ _ (.inl rfl) e,mA,⟨od,es,ep,k _ _ (.inr d) e2,c⟩,r⟩
 |own y=>obtain⟨ob,e⟩:=x;exact⟨ob,k _ _ (.inl rfl) e⟩
 |xd fs=>obtain⟨mA,⟨od,es,ep,e,c⟩,r⟩:=x;exact⟨mA,⟨od,es,ep,k _ _ (.inl rfl) e,c⟩,r⟩
 |rng lo hi=>obtain⟨t,u,v,e⟩:=x;exact⟨t,u,v,k _ _ (.inl rfl) e⟩
 |frz ob u ih=>obtain⟨e,q⟩:=x;exact⟨k _ _ (.inl rfl) e,ih q⟩
 |tbl ps=>
  have e:h.get? a=some { cls:=.none,data:=.fields ps}:=x
  show h'.get? a=some { cls:=.none,data:=.fields ps}
  exact k a _ (.inl rfl) e
 |met f y=>
  have e:h.get? a=some (W.methodObj (.ref f) (.ref y)):=x
  show h'.get? a=some (W.methodObj (.ref f) (.ref y))
  exact k a _ (.inl rfl) e
 |ext φ=>obtain⟨p,⟨o,e⟩,st⟩:=x;exact⟨st _ _ p λo q=>k _ _ (.inl rfl) q,⟨o,k _ _ (.inl rfl) e⟩,st⟩
theorem HOk.lt(x:HOk P w H h)(e:H a=some o):a<h.objs.size:=(x a o e).lt
theorem HOk.fresh(x:HOk P w H h)(e:h.objs.size<=a):H a=none:=by
 cases q:H a with
 |none=>rfl
 |some u=>exact absurd (Yc (x.lt q) e) (Xo _)
theorem HOk.kept(x:HOk P w H h)(k:∀b u,h.get? b=some u->h'.get? b=some u):HOk P w H h':=λa o e=>
 (x a o e).stay (λb u _ q=>k b u q) (λ_ q=>q) λ_ _ q=>q
theorem HOk.laid(x:HOk P w H h)(k:∀b u,h.get? b=some u->h'.get? b=some u)(hp:h.objs.size<=a)(new:a1r P w (upd H a o) h' a o):HOk P w (upd H a o) h':=λb u e=>by
 have hn:=x.fresh hp
 by_cases hb:b=a
 ·subst hb;rw[a0c]at e;cases e;exact new
 ·rw[a0f hb]at e;exact(x b u e).stay (λc v _ q=>k c v q) (λc q=>by rw[a0f (a0w q hn)];exact q) λc xs q=>by rw[a0f (a0w q hn)];exact q
end
def Rd(H:Hp)(a:Addr)(u:HO):Prop:=H a=some u\/∃o,H a=some (.frz o u)
theorem Rd.ok(r:Rd H a u)(x:HOk P w H h):a1r P w H h a u:=by
 rcases r with r|⟨o,r⟩
 ·exact x a u r
 ·obtain⟨_,q⟩:=x a _ r;exact q
def Mut:Option HO->Prop
 |some (.lst _)=>True
 |some (.dK _)=>True
 |some (.dT _)=>True
 |some (.set _ _)=>True
 |some (.ins _ _ _)=>True
 |some (.ext _)=>True
 |_=>False
section
variable{P:Program}{w:World}{H:Hp}{h h':Heap}{x e:Addr}{o':HO}
theorem HOk.write(ok:HOk P w H h)(mu:Mut (H x))(he:e=x\/H e=some (.own x))(k:∀b u,b≠e->h.get? b=some u->h'.get? b=some u)(heo:∃u,h'.get? e=some u)
  (new:a1r P w (upd H x o') h' x o'):HOk P w (upd H x o') h':=λb u q=>by
 have nown:∀c y,H c=some (.own y)->c≠x:=λc y r z=>by subst z;rw[r]at mu;exact mu
 have ntup:∀c xs,H c=some (.tup xs)->c≠x:=λc xs r z=>by subst z;rw[r]at mu;exact mu
 by_cases hb:b=x
 ·subst hb;rw[a0c]at q;cases q;exact new
 ·rw[a0f hb]at q
  by_cases hbe:b=e
  ·have q':H b=some (.own x):=by
    rcases he with z|z
    ·exact absurd (hbe.trans z) hb
    ·rw[hbe];exact z
   rw[q]at q';cases q';obtain⟨v,hv⟩:=heo;exact⟨v,by rw[hbe];exact hv⟩
  ·refine(ok b u q).stay (λc v hc r=>k c v ?_ r) (λc r=>by rw[a0f (nown c b r)];exact r) λc xs r=>by rw[a0f (ntup c xs r)];exact r
   rcases hc with rfl|hc
   ·exact hbe
   ·rintro rfl
    rcases he with z|z
    ·exact nown c b hc z
    ·rw[hc]at z;cases z;exact hb rfl
end
structure Un(fs ex:List Addr)(H H':Hp)(h h':Heap):Prop where
 keep:∀b o,h.get? b=some o->H b=none->b∉fs->b∉ex->h'.get? b=some o
 slot:∀b o,h.get? b=some o->H b=none->b∈fs->b∉ex->∃sl,h'.get? b=some { o with slots:=sl}
 free:∀b o,h.get? b=some o->H b=none->b∉ex->H' b=none
 there:∀b o,h.get? b=some o->b∉ex->∃o',h'.get? b=some o'
 tups:∀b xs,H b=some (.tup xs)->H' b=some (.tup xs)
 frzs:∀b o u,H b=some (.frz o u)->H' b=some (.frz o u)
 tbls:∀b ps,H b=some (.tbl ps)->∃more,H' b=some (.tbl (ps++more))
section
variable{fs fs' ex ex':List Addr}{H H1 H2:Hp}{h h1 h2 h':Heap}{a x e:Addr}{o:HO}
theorem Un.any(u:Un fs ex H H1 h h1)(q:h.get? b=some ob)(n:H b=none)(hx:b∉ex):∃sl,h1.get? b=some { ob with slots:=sl}:=by
 by_cases hb:b∈fs
 ·exact u.slot b ob q n hb hx
 ·exact⟨ob.slots,u.keep b ob q n hb hx⟩
theorem Un.kept(k:∀b u,h.get? b=some u->h'.get? b=some u):Un fs ex H H h h':=
 ⟨λb ob q _ _ _=>k b ob q,λb ob q _ _ _=>⟨ob.slots,k b ob q⟩,λ_ _ _ n _=>n,λb ob q _=>⟨ob,k b ob q⟩,λ_ _ q=>q,λ_ _ _ q=>q,λ_ ps q=>⟨#[],by rw[q];simp⟩⟩
theorem Un.refl:Un fs ex H H h h:=Un.kept λ_ _ q=>q
theorem Un.laid(k:∀b u,h.get? b=some u->h'.get? b=some u)(hp:h.objs.size<=a)(hn:H a=none):Un fs ex H (upd H a o) h h' where
 keep:=λb u q _ _ _=>k b u q
 slot:=λb u q _ _ _=>⟨u.slots,k b u q⟩
 free:=λb u q n _=>by rw[a0f (Z1 (Yc (Zs q) hp))];exact n
 there:=λb u q _=>⟨u,k b u q⟩
 tups:=λb xs q=>by rw[a0f (a0w q hn)];exact q
 frzs:=λb u xs q=>by rw[a0f (a0w q hn)];exact q
 tbls:=λb ps q=>⟨#[],by rw[a0f (a0w q hn),q];simp⟩
theorem Un.write(mu:Mut (H x))(he:e=x\/H e=some (.own x))(k:∀b u,b≠e->h.get? b=some u->h'.get? b=some u)(heo:∃u,h'.get? e=some u):Un fs ex H (upd H x o) h h':=by
 have hx:∀b,H b=none->b≠x:=λb n z=>by subst z;rw[n]at mu;exact mu
 have hb:∀b,H b=none->b≠e:=λb n z=>by
  subst z;rcases he with r|r
  ·exact hx b n r
  ·rw[n]at r;cases r
 have hm:∀b u,H b=some u->¬Mut (some u)->b≠x:=λb u q nm z=>by subst z;rw[q]at mu;exact nm mu
 refine⟨λb u q n _ _=>k b u (hb b n) q,λb u q n _ _=>⟨u.slots,k b u (hb b n) q⟩,λb u q n _=>by rw[a0f (hx b n)];exact n,λb u q _=>?_,
  λb xs q=>by rw[a0f (hm b _ q λz=>z)];exact q,λb u xs q=>by rw[a0f (hm b _ q λz=>z)];exact q,λb ps q=>⟨#[],by rw[a0f (hm b _ q λz=>z),q];simp⟩⟩
 by_cases hbe:b=e
 ·subst hbe;exact heo
 ·exact⟨u,k b u hbe q⟩
end
noncomputable def trk(h:Heap)(H:Hp):List Addr:=(List.range h.objs.size).filter λa=>(H a).isSome
def hidT(h:Heap)(H:Hp):Heap:=W.hideAll h (trk h H)
theorem c6v(h:Heap)(H:Hp):(hidT h H).objs.size=h.objs.size:=W.hideAll_size _ _
theorem d0z{h:Heap}(e:h.get? b=some o)(n:H b=none):(hidT h H).get? b=some o:=
 W.hideAll_get _ e λhm=>by
  have q:(H b).isSome=true:=(List.mem_filter.mp hm).2;rw[n]at q;simp at q
theorem of_hidT(e:(hidT h H).get? b=some o):h.get? b=some o/\H b=none:=by
 have e':h.get? b=some o:=W.of_hideAll (trk h H) e;refine⟨e',?_⟩;cases q:H b with
 |none=>rfl
 |some x=>
  have hm:b∈trk h H:=List.mem_filter.mpr ⟨Wh.mpr (Zs e'),by simp[q]⟩;have z:(hidT h H).get? b=none:=W.hideAll_none (trk h H) hm;rw[z]at e;cases e
noncomputable def allNews(g h:Heap)(L:Addr):List (Addr×Obj):=(List.range h.objs.size).filterMap λa=>if a=L\/(g.get? a).isSome=true then none else(h.get? a).map λo=>(a,o)
noncomputable def rest(g h:Heap)(L d:Addr):List (Addr×Obj):=(allNews g h L).filter λp=>decide (p.1≠d)
structure Mod(K:W.Frag)(mg:Str->Option Value)(base:Heap):Prop where
 kin:K.In base
 glob:base.Ns mainGlobals mg
 blt:∃mb,base.Ns builtinsNs mb/\∀x:Str,x≠"__name__"->mb x=bootBuiltins x
 nolimit:base.NoLimit
structure Cx where
 prog:Program
 w:World
 K:W.Frag
 mg:Str->Option Value
 base:Heap
 A:Around
 N:List Str
 s₀:Shared
 H₀:Hp
 env:Env
 outer:List Env
 stack:List Env
 ex:List Addr
 fn:Str->Bool
 calm:Bool
 pn:List (Addr×Obj)
 xe:Value->Shared->Prop
noncomputable def frs(l:List Env):List Addr:=l.filterMap (·.frame)
abbrev Cx.fs(X:Cx):List Addr:=frs X.outer
def Vis(sc:Scope)(x:Str):Prop:=sc.names.lookup x=some .local\/sc.names.lookup x=some .cell\/sc.names.lookup x=some .free
def Loc(sc:Scope)(x:Str):Prop:=sc.names.lookup x=some .local\/sc.names.lookup x=some .cell
def Look(env:Env)(h:Heap)(m:Str->Option Value)(x:Str)(u:Value):Prop:=
 (env.kindOf x=some .local/\m x=some u)\/((env.kindOf x=some .cell\/env.kindOf x=some .free)/\∃c,env.cells.lookup x=some c/\h.IsCell c (some u))
structure Cx.Ok(X:Cx):Prop where
 mod:Mod X.K X.mg X.base
 kind:X.env.scope.kind=.function
 glob:X.env.globals=mainGlobals
 blt:X.env.builtins=builtinsNs
 above:X.s₀.heap.objs.size<=X.env.locals
 inj:∀x y c,X.env.cells.lookup x=some c->X.env.cells.lookup y=some c->x=y
 has:∀x,(X.env.kindOf x=some .cell\/X.env.kindOf x=some .free)->∃c,X.env.cells.lookup x=some c
 cab:∀x c,X.fn x=true->X.env.cells.lookup x=some c->X.s₀.heap.objs.size<=c
 hd:X.calm=true->X.A.handled=none
 frames:X.A.frames=some X.stack
 stk:X.stack=X.outer\/(X.stack=X.env::X.outer/\X.env.frame=some X.env.locals)
 exf:∀b∈X.ex,b≠X.env.locals/\∀x c,X.env.cells.lookup x=some c->c≠b
 bs:∀b o,X.base.get? b=some o->X.s₀.heap.get? b=some o/\X.H₀ b=none
 bsz:X.base.objs.size<=X.s₀.heap.objs.size
 noex:∀b o,X.base.get? b=some o->b∉X.ex
 exfs:∀b∈X.ex,b∉X.fs
 funs:X.s₀.heap.FunFrames X.base X.outer
 frf:∀b∈X.fs,X.H₀ b=none
structure Inv(X:Cx)(pj:List (Addr×Obj))(σ:List (Option V))(H:Hp)(s:Shared):Prop where
 ok:X.Ok
 os:s.os=X.s₀.os
 bare:AllBare s.gens
 base:Un X.fs X.ex X.H₀ H X.s₀.heap s.heap
 loc:∃m,s.heap.Ns X.env.locals m/\∀(i:Nat)(x:Str)(v:V),X.N[i]? =some x->σ[i]? =some (some v)->Vis X.env.scope x->∃u,RelV v u/\Look X.env s.heap m x u
 cell:∀x c,X.env.cells.lookup x=some c->∃v,s.heap.IsCell c v
 free:H X.env.locals=none
 freeC:∀x c,X.env.cells.lookup x=some c->H c=none
 pin:∀p∈X.pn++pj,s.heap.get? p.1=some p.2/\H p.1=none/\p.1≠X.env.locals/\p.1∉X.fs/\∀v,p.2.data≠.cell v
 hok:HOk X.prog X.w H s.heap
 len:σ.length=X.N.length
section
variable{X:Cx}{pj:List (Addr×Obj)}{σ:List (Option V)}{H H':Hp}{s:Shared}{h':Heap}
theorem Cx.Ok.nofr(ok:X.Ok)(e:X.base.get? b=some o):b∉X.fs:=λhb=>by
 have:=(ok.funs.mem hb).1;rw[e]at this;cases this
theorem Inv.bs(I:Inv X pj σ H s):∀b o,X.base.get? b=some o->s.heap.get? b=some o/\H b=none:=λb o e=>
 ⟨I.base.keep b o (I.ok.bs b o e).1 (I.ok.bs b o e).2 (I.ok.nofr e) (I.ok.noex b o e),I.base.free b o (I.ok.bs b o e).1 (I.ok.bs b o e).2 (I.ok.noex b o e)⟩
theorem Inv.bk(I:Inv X pj σ H s):∀b o,X.base.get? b=some o->s.heap.get? b=some o:=λb o e=>(I.bs b o e).1
theorem Inv.mod(I:Inv X pj σ H s):Mod X.K X.mg X.base:=I.ok.mod
theorem Inv.kIn(I:Inv X pj σ H s):X.K.In s.heap:=I.ok.mod.kin.keeps I.bk
theorem Inv.fr(I:Inv X pj σ H s):∃m,Fr X.base X.env.locals s.heap m:=
 let⟨m,hn,_⟩:=I.loc
 ⟨m,hn,I.bk,Yn I.ok.bsz I.ok.above⟩
theorem Inv.lt(I:Inv X pj σ H s):X.env.locals<s.heap.objs.size:=let⟨_,hn,_⟩:=I.loc;hn.lt
theorem Inv.sz(I:Inv X pj σ H s):X.s₀.heap.objs.size<=s.heap.objs.size:=Yn I.ok.above (S9 I.lt)
theorem Inv.nofs(I:Inv X pj σ H s){a:Addr}(h:s.heap.objs.size<=a):a∉X.fs:=λhb=>by
 obtain⟨_,o,ho,_⟩:=I.ok.funs.mem hb;exact absurd (Yc (Zs ho) (Yn I.sz h)) (Xo _)
theorem Inv.cne(I:Inv X pj σ H s):∀x c,X.env.cells.lookup x=some c->c≠X.env.locals:=λx c e z=>by
 obtain⟨v,o,ho,hd⟩:=I.cell x c e;obtain⟨m,⟨o',es,ep,ho',hd',_⟩,_⟩:=I.loc;rw[z,ho']at ho;cases ho;rw[hd']at hd;cases hd
theorem Inv.funs(I:Inv X pj σ H s):s.heap.FunFrames X.base X.outer:=by
 have all:∀(l:List Env),(∀b∈frs l,b∈X.fs)->X.s₀.heap.FunFrames X.base l->s.heap.FunFrames X.base l:=by
  intro l
  induction l with
  |nil=>intro _ _;trivial
  |cons env r ih=>
   intro hs hl;obtain⟨hk,⟨L,o,hf,hn,ho,hd⟩,hr⟩:=hl;have hL:L∈X.fs:=hs L (by unfold frs;rw[Tk,hf];exact Yd);obtain⟨sl,e⟩:=I.base.slot L o ho (I.ok.frf L hL) hL λz=>I.ok.exfs L z hL
   exact⟨hk,⟨L,_,hf,hn,e,hd⟩,ih (λb hb=>hs b (by unfold frs;rw[Tk,hf];exact Zx _ hb)) hr⟩
 exact all X.outer (λ_ hb=>hb) I.ok.funs
theorem Inv.stack(I:Inv X pj σ H s):s.heap.FunFrames X.base X.stack:=by
 rcases I.ok.stk with e|⟨e,hf⟩
 ·rw[e];exact I.funs
 ·rw[e];obtain⟨m,hn,_⟩:=I.loc;refine .cons (by rw[I.ok.kind];decide) hf hn ?_ I.funs;exact Heap.get?_none_of_le (Yn I.ok.bsz I.ok.above)
theorem Inv.stkSub(I:Inv X pj σ H s):∀b∈frs X.stack,b∈X.env.locals::X.fs:=λb hb=>by
 rcases I.ok.stk with e|⟨e,hf⟩
 ·rw[e]at hb;exact Zx _ hb
 ·rw[e]at hb;unfold frs at hb;rw[Tk,hf]at hb;exact hb
theorem Inv.stkFree(I:Inv X pj σ H s):∀b∈frs X.stack,H b=none:=λb hb=>by
 rcases Zu.mp (I.stkSub b hb)with e|hb
 ·rw[e];exact I.free
 ·obtain⟨_,o,ho,_⟩:=I.ok.funs.mem hb;exact I.base.free b o ho (I.ok.frf b hb) λz=>I.ok.exfs b z hb
theorem Inv.step{g':Array GenState}{t':Nat}{d':Drawn}{ch:List Addr}(I:Inv X pj σ H s)
  (hch:∀b∈ch,(b∈X.ex\/X.s₀.heap.objs.size<=b)/\b≠X.env.locals/\(∀x c,X.env.cells.lookup x=some c->c≠b)/\∀p∈X.pn++pj,p.1≠b)
  (keep:∀b o,b≠X.env.locals->b∉X.fs->b∉ch->s.heap.get? b=some o->H b=none->h'.get? b=some o)
  (slot:∀b o,b≠X.env.locals->b∈X.fs->b∉ch->s.heap.get? b=some o->H b=none->∃sl,h'.get? b=some { o with slots:=sl})(free:∀b o,b∉ch->s.heap.get? b=some o->H b=none->H' b=none)
  (there:∀b o,b∉ch->s.heap.get? b=some o->∃o',h'.get? b=some o')
  (tups:∀b xs,H b=some (.tup xs)->H' b=some (.tup xs))(frzs:∀b o u,H b=some (.frz o u)->H' b=some (.frz o u))(tbls:∀b ps,H b=some (.tbl ps)->∃more,H' b=some (.tbl (ps++more)))
  (ns:∀m,s.heap.Ns X.env.locals m->h'.Ns X.env.locals m)(hok:HOk X.prog X.w H' h')(hg:AllBare g'):
  Inv X pj σ H' { s with heap:=h',gens:=g',drawn:=d',toks:=t'}:=by
 have neL:∀b o,X.s₀.heap.get? b=some o->b≠X.env.locals:=λb o e=>Z1 (Yc (Zs e) I.ok.above)
 have neC:∀b o,X.s₀.heap.get? b=some o->b∉X.ex->b∉ch:=λb o e hx hb=>by
  rcases(hch b hb).1 with z|z
  ·exact hx z
  ·exact absurd (Yc (Zs e) z) (Xo _)
 have cellK:∀x c,X.env.cells.lookup x=some c->∀v,s.heap.IsCell c v->h'.IsCell c v:=λx c e v ⟨o,ho,hd⟩=>by
  have nch:c∉ch:=λz=>(hch c z).2.2.1 x c e rfl
  by_cases hc:c∈X.fs
  ·obtain⟨sl,q⟩:=slot c o (I.cne x c e) hc nch ho (I.freeC x c e);exact⟨_,q,hd⟩
  ·exact⟨o,keep c o (I.cne x c e) hc nch ho (I.freeC x c e),hd⟩
 refine⟨I.ok,I.os,hg,⟨λb o e n hb hx=>?_,λb o e n hb hx=>?_,λb o e n hx=>?_,λb o e hx=>?_,λb xs e=>tups b xs (I.base.tups b xs e),λb o xs e=>frzs b o xs (I.base.frzs b o xs e),λb ps e=>?_⟩,?_,λx c e=>?_,?_,λx c e=>?_,λp hp=>?_,hok,I.len⟩
 ·exact keep b o (neL b o e) hb (neC b o e hx) (I.base.keep b o e n hb hx) (I.base.free b o e n hx)
 ·obtain⟨sl,e1⟩:=I.base.slot b o e n hb hx;obtain⟨sl',e2⟩:=slot b _ (neL b o e) hb (neC b o e hx) e1 (I.base.free b o e n hx);exact⟨sl',e2⟩
 ·obtain⟨o',e1⟩:=I.base.there b o e hx;exact free b o' (neC b o e hx) e1 (I.base.free b o e n hx)
 ·obtain⟨o',e1⟩:=I.base.there b o e hx;exact there b o' (neC b o e hx) e1
 ·obtain⟨m1,e1⟩:=I.base.tbls b ps e;obtain⟨m2,e2⟩:=tbls b _ e1;exact⟨m1++m2,by rw[e2,Array.append_assoc]⟩
 ·obtain⟨m,hn,hl⟩:=I.loc;refine⟨m,ns m hn,λi x v e1 e2 e3=>?_⟩;obtain⟨u,r,l⟩:=hl i x v e1 e2 e3;refine⟨u,r,?_⟩;rcases l with l|⟨k,c,e,z⟩
  ·exact .inl l
  ·exact .inr ⟨k,c,e,cellK x c e _ z⟩
 ·obtain⟨v,z⟩:=I.cell x c e;exact⟨v,cellK x c e v z⟩
 ·obtain⟨m,⟨o,_,_,ho,_⟩,_⟩:=I.loc;exact free _ o (λz=>(hch _ z).2.1 rfl) ho I.free
 ·obtain⟨v,o,ho,hd⟩:=I.cell x c e;exact free c o (λz=>(hch c z).2.2.1 x c e rfl) ho (I.freeC x c e)
 ·obtain⟨e,n,ne,nf,d⟩:=I.pin p hp;have nch:p.1∉ch:=λz=>(hch p.1 z).2.2.2 p hp rfl
  exact⟨keep p.1 p.2 ne nf nch e n,free p.1 p.2 nch e n,ne,nf,d⟩
theorem Inv.un(I:Inv X pj σ H s)(u:Un X.fs [] H H' s.heap h')(hok:HOk X.prog X.w H' h'):Inv X pj σ H' { s with heap:=h',toks:=t'}:=by
 obtain⟨m,⟨o,es,ep,ho,r⟩,_⟩:=id I.loc;obtain⟨sl,hL⟩:=u.any ho I.free qz
 exact I.step (g':=s.gens) (d':=s.drawn) (ch:=[]) (λ_ z=>nomatch z) (λb o _ hb _ e n=>u.keep b o e n hb qz) (λb o _ hb _ e n=>u.slot b o e n hb qz) (λb o _ e n=>u.free b o e n qz) (λb o _ e=>u.there b o e qz) u.tups u.frzs u.tbls (λm' hm=>by
  obtain⟨o',es',ep',ho',r'⟩:=hm;rw[ho]at ho';cases ho'
  exact⟨_,es',ep',hL,r'⟩) hok I.bare
theorem Inv.call(I:Inv X pj σ H s)(u:Un (frs X.stack) ch H H' s.heap h')(hok:HOk X.prog X.w H' h')(hg:AllBare g')
  (hch:∀b∈ch,(b∈X.ex\/X.s₀.heap.objs.size<=b)/\b≠X.env.locals/\(∀x c,X.env.cells.lookup x=some c->c≠b)/\∀p∈X.pn++pj,p.1≠b):
  Inv X pj σ H' { s with heap:=h',gens:=g',drawn:=d',toks:=t'}:=by
 obtain⟨m,⟨o,es,ep,ho,r⟩,_⟩:=id I.loc;obtain⟨sl,hL⟩:=u.any ho I.free λz=>(hch _ z).2.1 rfl
 exact I.step (ch:=ch) hch (λb o hL hb hc e n=>u.keep b o e n (λz=>(Zu.mp (I.stkSub b z)).elim hL hb) hc) (λb o _ _ hc e n=>u.any e n hc) (λb o hc e n=>u.free b o e n hc) (λb o hc e=>u.there b o e hc) u.tups u.frzs u.tbls (λm' hm=>by
  obtain⟨o',es',ep',ho',r'⟩:=hm;rw[ho]at ho';cases ho'
  exact⟨_,es',ep',hL,r'⟩) hok hg
theorem Inv.turned(I:Inv X pj σ H s)(k:∀b o,b≠it->s.heap.get? b=some o->h'.get? b=some o)(hn:H it=none)(hL:it≠X.env.locals)
  (h1:it∈X.ex\/X.s₀.heap.objs.size<=it)(h2:∀x c,X.env.cells.lookup x=some c->c≠it)(h3:∀p∈X.pn++pj,p.1≠it):Inv X pj σ H { s with heap:=h',toks:=t'}:=by
 have nit:∀b u,H b=some u->b≠it:=λb u e z=>by rw[z,hn]at e;cases e
 refine I.step (g':=s.gens) (d':=s.drawn) (ch:=[it]) (λb hb=>?_) (λb o _ _ hc e _=>k b o (λz=>hc (by simp[z])) e) (λb o _ _ hc e _=>⟨o.slots,k b o (λz=>hc (by simp[z])) e⟩) (λ_ _ _ _ n=>n)
  (λb o hc e=>⟨o,k b o (λz=>hc (by simp[z])) e⟩) (λ_ _ e=>e) (λ_ _ _ e=>e) (λb ps e=>⟨#[],by rw[e];simp⟩) (λm hm=>?_) (λb u e=>?_) I.bare
 ·have e:b=it:=by simpa using hb
  subst e;exact⟨h1,hL,h2,h3⟩
 ·obtain⟨o,es,ep,ho,r⟩:=hm;exact⟨o,es,ep,k _ o (Ne.symm hL) ho,r⟩
 ·refine(I.hok b u e).stay (λc v hc q=>k c v ?_ q) (λ_ q=>q) λ_ _ q=>q
  rcases hc with z|z
  ·rw[z];exact nit b u e
  ·exact nit c _ z
theorem Inv.tok(I:Inv X pj σ H s)(t:Nat):Inv X pj σ H { s with toks:=t}:=I.un (h':=s.heap) (t':=t) Un.refl I.hok
theorem Inv.kept(I:Inv X pj σ H s)(k:∀b u,s.heap.get? b=some u->h'.get? b=some u):Inv X pj σ H { s with heap:=h',toks:=t'}:=I.un (Un.kept k) (I.hok.kept k)
theorem Inv.laid{a:Addr}{o:HO}{t':Nat}(I:Inv X pj σ H s)(k:∀b u,s.heap.get? b=some u->h'.get? b=some u)(hp:s.heap.objs.size<=a)(new:a1r X.prog X.w (upd H a o) h' a o):
  Inv X pj σ (upd H a o) { s with heap:=h',toks:=t'}:=I.un (Un.laid k hp (I.hok.fresh hp)) (I.hok.laid k hp new)
theorem Inv.write(I:Inv X pj σ H s)(mu:Mut (H x))(he:e=x\/H e=some (.own x))(k:∀b u,b≠e->s.heap.get? b=some u->h'.get? b=some u)(heo:∃u,h'.get? e=some u)
  (new:a1r X.prog X.w (upd H x o) h' x o):Inv X pj σ (upd H x o) { s with heap:=h',toks:=t'}:=I.un (Un.write mu he k heo) (I.hok.write mu he k heo new)
theorem Inv.pins_of(I:Inv X pj σ H s)(h:∀p∈pins',s.heap.get? p.1=some p.2/\H p.1=none/\p.1≠X.env.locals/\p.1∉X.fs/\∀v,p.2.data≠.cell v):Inv X pins' σ H s:=
 ⟨I.ok,I.os,I.bare,I.base,I.loc,I.cell,I.free,I.freeC,λp hp=>(Yt.mp hp).elim (λz=>I.pin p (V6 _ z)) (h p),I.hok,I.len⟩
theorem b5b{N:List Str}(hN:N.Nodup){i j:Nat}(a:N[i]? =some x)(b:N[j]? =some x):i=j:=by
 obtain⟨h1,e1⟩:=Yi.mp a;obtain⟨h2,e2⟩:=Yi.mp b;exact(List.getElem_inj hN).mp (e1.trans e2.symm)
theorem b9g(I:Inv X pj σ H s)(hN:X.N.Nodup)(hi:X.N[i]? =some x)(hx:Loc X.env.scope x)(r:RelV v u)
  (h:∀s',Inv X pj (σ.set i (some v)) H s'->(∃a,Heap.SameBut a s.heap s'.heap/\(a=X.env.locals\/X.env.cells.lookup x=some a))->Q () s')(hf:X.fn x=true\/X.env.scope.names.lookup x=some .local:=by first|exact .inl rfl|exact .inr rfl|assumption):wpAny M A (storeName X.env x u) Q E s:=by
 obtain⟨m,hn,hl⟩:=id I.loc;have hcls:(X.env.scope.kind==.class|| (X.env.scope.kind==.module&&X.env.locals !=X.env.globals))=false:=by rw[I.ok.kind];rfl
 have hiσ:i<σ.length:=by rw[I.len];exact(Yi.mp hi).1
 have cne:=I.cne;have tracked:∀{a:Addr}{h':Heap},(∃o,s.heap.get? a=some o/\H a=none)->Heap.SameBut a s.heap h'->HOk X.prog X.w H h':=λ{a h'} ha hs b ob e=>by
  obtain⟨_,_,hfree⟩:=ha;refine(I.hok b ob e).stay (λc w' hc q=>(hs.2 c ?_).trans q) (λ_ q=>q) λ_ _ q=>q
  rintro rfl
  rcases hc with rfl|hc
  ·rw[hfree]at e;cases e
  ·rw[hfree]at hc;cases hc
 rcases hx with hk|hk
 ·refine wpAny_storeName_local hk hn (λh' hn' hs=>?_) hcls;obtain⟨oL,_,_,hoL,_⟩:=id hn;refine h _ ⟨I.ok,I.os,I.bare,⟨λb o e n hb hx=>?_,λb o e n hb hx=>?_,I.base.free,λb o e hx=>?_,I.base.tups,I.base.frzs,I.base.tbls⟩,⟨_,hn',λj y v' e1 e2 e3=>?_⟩,λy c e=>?_,I.free,I.freeC,λp hp=>?_,tracked ⟨oL,hoL,I.free⟩ hs,by simpa using I.len⟩ ⟨_,hs,.inl rfl⟩
  ·exact(hs.2 b (Z1 (Yc (Zs e) I.ok.above))).trans (I.base.keep b o e n hb hx)
  ·obtain⟨sl,e1⟩:=I.base.slot b o e n hb hx;exact⟨sl,(hs.2 b (Z1 (Yc (Zs e) I.ok.above))).trans e1⟩
  ·obtain⟨o',e1⟩:=I.base.there b o e hx;exact⟨o',(hs.2 b (Z1 (Yc (Zs e) I.ok.above))).trans e1⟩
  ·by_cases hj:j=i
   ·subst hj;rw[hi]at e1;cases e1;rw[U9 hiσ]at e2;cases e2;exact⟨u,r,.inl ⟨hk,qz⟩⟩
   ·rw[Ti (Ne.symm hj)]at e2;obtain⟨u',r',q⟩:=hl j y v' e1 e2 e3;refine⟨u',r',?_⟩;rcases q with⟨k,e⟩|⟨k,c,e,z⟩
    ·refine .inl ⟨k,?_⟩;have:y≠x:=λe=>hj (b5b hN e1 (e▸hi))
     simp[this,e]
    ·exact .inr ⟨k,c,e,z.sameBut hs (cne y c e)⟩
  ·obtain⟨w',z⟩:=I.cell y c e;exact⟨w',z.sameBut hs (cne y c e)⟩
  ·obtain⟨e,n,ne,nf,d⟩:=I.pin p hp;exact⟨(hs.2 p.1 ne).trans e,n,ne,nf,d⟩
 ·have hfn:X.fn x=true:=by
   rcases hf with z|z
   ·exact z
   ·rw[z]at hk;cases hk
  obtain⟨c,hc⟩:=I.ok.has x (.inl hk);obtain⟨w',z⟩:=I.cell x c hc;refine wpAny_storeName_cell I.ok.kind hk hc z (λh' hc' hs=>?_);obtain⟨oc,hoc,hocd⟩:=id z;refine h { s with heap:=h'} ⟨I.ok,I.os,I.bare,⟨λb o e n hb hx=>?_,λb o e n hb hx=>?_,I.base.free,λb o e hx=>?_,I.base.tups,I.base.frzs,I.base.tbls⟩,⟨m,hn.sameBut hs (Ne.symm (cne x c hc)),λj y v' e1 e2 e3=>?_⟩,λy c' e=>?_,I.free,I.freeC,λp hp=>?_,tracked ⟨oc,hoc,I.freeC x c hc⟩ hs,by simpa using I.len⟩ ⟨c,hs,.inr hc⟩
  ·exact(hs.2 b (Z1 (Yc (Zs e) (I.ok.cab x c hfn hc)))).trans (I.base.keep b o e n hb hx)
  ·obtain⟨sl,e1⟩:=I.base.slot b o e n hb hx;exact⟨sl,(hs.2 b (Z1 (Yc (Zs e) (I.ok.cab x c hfn hc)))).trans e1⟩
  ·obtain⟨o',e1⟩:=I.base.there b o e hx;exact⟨o',(hs.2 b (Z1 (Yc (Zs e) (I.ok.cab x c hfn hc)))).trans e1⟩
  ·by_cases hj:j=i
   ·subst hj;rw[hi]at e1;cases e1;rw[U9 hiσ]at e2;cases e2;exact⟨u,r,.inr ⟨.inl hk,c,hc,hc'⟩⟩
   ·rw[Ti (Ne.symm hj)]at e2;obtain⟨u',r',q⟩:=hl j y v' e1 e2 e3;refine⟨u',r',?_⟩;rcases q with q|⟨k,c',e,z'⟩
    ·exact .inl q
    ·refine .inr ⟨k,c',e,z'.sameBut hs ?_⟩
     rintro rfl
     exact hj (b5b hN e1 (I.ok.inj _ _ _ e hc▸hi))
  ·by_cases hcc:c'=c
   ·subst hcc;exact⟨_,hc'⟩
   ·obtain⟨w2,z2⟩:=I.cell y c' e;exact⟨w2,z2.sameBut hs hcc⟩
  ·obtain⟨e,n,ne,nf,d⟩:=I.pin p hp;refine⟨(hs.2 p.1 ?_).trans e,n,ne,nf,d⟩;intro q;rw[q,hoc]at e;have q':oc=p.2:=Zw e;exact d w' (by rw[<-q'];exact hocd)
theorem a6o(I:Inv X pj σ H s)(hN:X.N.Nodup)(hi:X.N[i]? =some x)(hx:Loc X.env.scope x)(r:RelV v u)
  (h:∀s',Inv X pj (σ.set i (some v)) H s'->Q () s')(hf:X.fn x=true\/X.env.scope.names.lookup x=some .local:=by first|exact .inl rfl|exact .inr rfl|assumption):wpAny M A (storeName X.env x u) Q E s:=
 b9g I hN hi hx r (λs' I' _=>h s' I') hf
theorem Inv.call'{s':Shared}(I:Inv X pj σ H s)(ho:s'.os=s.os)(u:Un (frs X.stack) ch H H' s.heap s'.heap)(hok:HOk X.prog X.w H' s'.heap)(hg:AllBare s'.gens)
  (hch:∀b∈ch,(b∈X.ex\/X.s₀.heap.objs.size<=b)/\b≠X.env.locals/\(∀x c,X.env.cells.lookup x=some c->c≠b)/\∀p∈X.pn++pj,p.1≠b):Inv X pj σ H' s':=by
 obtain⟨h',g',d',t',o'⟩:=s';have e:o'=s.os:=ho;subst e;exact I.call (g':=g') (t':=t') (d':=d') u hok hg hch
end
abbrev XK:=Value->Option Addr->Hp->Prop
abbrev St:=List (Option V)
abbrev VK:=V->Hp->Prop
abbrev TE:=St->Hp->VK->Prop
abbrev TT:=St->Hp->(Bool->Hp->Prop)->Prop
abbrev TA:=St->Hp->(List V->Hp->Prop)->Prop
structure Ends where
 nx:St->Hp->Prop
 rt:VK
 bk:St->Hp->Prop:=λ_ _=>False
 ct:St->Hp->Prop:=λ_ _=>False
abbrev TS:=Ends->St->Hp->Prop
def EP(X:Cx)(pj:List (Addr×Obj))(σ:St)(Q:VK)(u:Value)(s':Shared):Prop:=∃v H',Inv X pj σ H' s'/\RelV v u/\Q v H'
def TP(X:Cx)(pj:List (Addr×Obj))(σ:St)(Q:Bool->Hp->Prop)(b:Bool)(s':Shared):Prop:=∃H',Inv X pj σ H' s'/\Q b H'
def AP(X:Cx)(pj:List (Addr×Obj))(σ:St)(Q:List V->Hp->Prop)(us:List Value)(s':Shared):Prop:=∃vs H',Inv X pj σ H' s'/\Vals vs us/\Q vs H'
def SP(X:Cx)(pj:List (Addr×Obj))(D:Ends)(f:Flow)(s':Shared):Prop:=
 match f with
 | .next=>∃σ' H',Inv X pj σ' H' s'/\D.nx σ' H'
 | .brk=>∃σ' H',Inv X pj σ' H' s'/\D.bk σ' H'
 | .cont=>∃σ' H',Inv X pj σ' H' s'/\D.ct σ' H'
 | .ret u=>∃v σ' H',Inv X pj σ' H' s'/\RelV v u/\D.rt v H'
def PE(X:Cx)(e:Expr)(t:TE):Prop:=
 ∀(pj:List (Addr×Obj))(s:Shared)(σ:St)(H:Hp)(Q:VK),Inv X pj σ H s->t σ H Q->wpAny (model X.prog X.w) X.A (eval e X.env) (EP X pj σ Q) X.xe s
def PT(X:Cx)(e:Expr)(t:TT):Prop:=
 ∀(pj:List (Addr×Obj))(s:Shared)(σ:St)(H:Hp)(Q:Bool->Hp->Prop),Inv X pj σ H s->t σ H Q->wpAny (model X.prog X.w) X.A (isTrue e X.env (eval e X.env)) (TP X pj σ Q) X.xe s
def PW(X:Cx)(e:Expr)(t:TT):Prop:=
 ∀(whole:Sem Value)(pj:List (Addr×Obj))(s:Shared)(σ:St)(H:Hp)(Q:Bool->Hp->Prop),Inv X pj σ H s->t σ H Q->wpAny (model X.prog X.w) X.A (isTrue e X.env whole) (TP X pj σ Q) X.xe s
theorem PW.pt(h:PW X e t):PT X e t:=h _
def PA(X:Cx)(es:List Expr)(t:TA):Prop:=
 ∀(pos:Pos)(pj:List (Addr×Obj))(s:Shared)(σ:St)(H:Hp)(Q:List V->Hp->Prop),Inv X pj σ H s->t σ H Q->wpAny (model X.prog X.w) X.A (spliced (backTo pos (starEach es X.env))) (AP X pj σ Q) X.xe s
def PS(X:Cx)(st:Stmt)(t:TS):Prop:=
 ∀(pj:List (Addr×Obj))(s:Shared)(σ:St)(H:Hp)(D:Ends),Inv X pj σ H s->t D σ H->wpAny (model X.prog X.w) X.A (exec st X.env) (SP X pj D) X.xe s
def PSs(X:Cx)(st:List Stmt)(t:TS):Prop:=
 ∀(pj:List (Addr×Obj))(s:Shared)(σ:St)(H:Hp)(D:Ends),Inv X pj σ H s->t D σ H->wpAny (model X.prog X.w) X.A (execs st X.env) (SP X pj D) X.xe s
theorem thn{α:Type}{t:Sem α}{Q Q':α->Shared->Prop}{M:Model}{A:Around}{E:Value->Shared->Prop}{s:Shared}(h:wpAny M A t Q E s)(hQ:∀a s,Q a s->Q' a s):wpAny M A t Q' E s:=Wb h hQ λ_ _ x=>x
section
variable{X:Cx}
def tVar(i:Nat):TE:=λσ H Q=>∃v,σ[i]? =some (some v)/\Q v H
def tC(v:V):TE:=λ_ H Q=>Q v H
theorem pe_var{i:Nat}{x:Str}{pos:Pos}(hN:X.N[i]? =some x)(hv:Vis X.env.scope x)(hd:(x==("__debug__":Str))=false:=by decide)(hcd:(x==("__classdict__":Str))=false:=by decide):PE X (.Name x pos) (tVar i):=by
 intro pj s σ H Q I h;obtain⟨v,e,h⟩:=h;obtain⟨m,hn,hl⟩:=I.loc;obtain⟨u,r,l⟩:=hl i x v hN e hv;have fin:EP X pj σ Q u s:=⟨v,H,I,r,h⟩;rcases l with⟨hk,hm⟩|⟨hk,c,hc,hcell⟩
 ·exact Qd (Rq I.ok.kind hk hn hm fin) hd
 ·rcases hk with hk|hk
  ·exact Qd (R0 I.ok.kind hk hc hcell fin) hd
  ·exact Qd (wpAny_loadName_free I.ok.kind hk hc hcell fin hcd) hd
theorem a0e{i j pos}:PE X (.Constant (.int i) j pos) (tC (.int i)):=λ_ _ _ H _ I h=>wpAny_Constant_int ⟨.int i,H,I.tok _,⟨_,rfl⟩,h⟩
theorem a4b{b j pos}:PE X (.Constant (.bool b) j pos) (tC (.bl b)):=λ_ _ _ H _ I h=>Constant_bool ⟨.bl b,H,I,rfl,h⟩
theorem a5i{j pos}:PE X (.Constant .none j pos) (tC .non):=λ_ _ _ H _ I h=>Constant_none ⟨.non,H,I,rfl,h⟩
theorem a0v{x j pos}:PE X (.Constant (.str x) j pos) (tC (.str x)):=λ_ _ _ H _ I h=>Vq ⟨.str x,H,I.tok _,⟨_,rfl⟩,h⟩
def Gl(X:Cx)(x:Str):Prop:=X.env.kindOf x=some .globalImplicit
theorem a6p{E:Value->Shared->Prop}{pj:List (Addr×Obj)}{s:Shared}{σ:St}{H:Hp}{x:Str}{u:Value}{pos:Pos}{Q:Value->Shared->Prop}(I:Inv X pj σ H s)(hg:Gl X x)(hm:X.mg x=some u)(h:Q u s)
  (hd:(x==("__debug__":Str))=false:=by decide):wpAny (model X.prog X.w) X.A (eval (.Name x pos) X.env) Q E s:=
 Ss I.ok.kind hg (Calls.loadGlobal_global (by rw[I.ok.glob];exact I.mod.glob.keeps I.bk) hm h) hd
theorem a5z{E:Value->Shared->Prop}{pj:List (Addr×Obj)}{s:Shared}{σ:St}{H:Hp}{x:Str}{u:Value}{pos:Pos}{Q:Value->Shared->Prop}(I:Inv X pj σ H s)(hg:Gl X x)(hm:X.mg x=none)(hv:bootBuiltins x=some u)(h:Q u s)
  (hn:x≠"__name__":=by decide)(hd:(x==("__debug__":Str))=false:=by decide):wpAny (model X.prog X.w) X.A (eval (.Name x pos) X.env) Q E s:=by
 obtain⟨mb,h1,h2⟩:=I.mod.blt;exact Ss I.ok.kind hg (Calls.loadGlobal_builtin (by rw[I.ok.glob];exact I.mod.glob.keeps I.bk) hm (by rw[I.ok.blt];exact h1.keeps I.bk) ((h2 x hn).trans hv) h) hd
theorem c3z(hg:Gl X x)(hm:X.mg x=some u)(r:RelV v u)(hd:(x==("__debug__":Str))=false:=by decide):PE X (.Name x pos) (tC v):=
 λ_ _ _ H _ I h=>a6p I hg hm ⟨v,H,I,r,h⟩ hd
theorem pe_bltn{x:Str}{v:V}{u:Value}{pos:Pos}(hg:Gl X x)(hm:X.mg x=none)(hv:bootBuiltins x=some u)(r:RelV v u)(hn:x≠"__name__":=by decide)(hd:(x==("__debug__":Str))=false:=by decide):PE X (.Name x pos) (tC v):=
 λ_ _ _ H _ I h=>a5z I hg hm hv ⟨v,H,I,r,h⟩ hn hd
variable{a b:Expr}{ta tb:TE}{pos:Pos}
variable{tA tB':TT}{rest:List Expr}
def tAnd(t u:TT):TT:=λσ H Q=>t σ H λc H1=>if c=true then u σ H1 Q else Q false H1
def tOr(t u:TT):TT:=λσ H Q=>t σ H λc H1=>if c=true then Q true H1 else u σ H1 Q
def tNot(t:TT):TT:=λσ H Q=>t σ H λc H1=>Q (!c) H1
theorem a9x(ha:PT X a tA):PW X (.BoolOp .And [a] pos) tA:=by
 intro wh pj s σ H Q I h;refine isTrue_and (thn (ha pj s σ H Q I h) λc s1 e=>?_);cases c with
 |true=>exact isTrue_and_nil e
 |false=>exact e
theorem c1b(ha:PT X a tA):PW X (.BoolOp .Or [a] pos) tA:=by
 intro wh pj s σ H Q I h;refine isTrue_or (thn (ha pj s σ H Q I h) λc s1 e=>?_);cases c with
 |false=>exact isTrue_or_nil e
 |true=>exact e
theorem a8j(ha:PT X a tA)(hb:PW X (.BoolOp .And (b::rest) pos) tB'):PW X (.BoolOp .And (a::b::rest) pos) (tAnd tA tB'):=by
 intro wh pj s σ H Q I h;refine isTrue_and (thn (ha pj s σ H _ I h) λc s1 z9=>?_);obtain⟨H1,I1,q1⟩:=z9;cases c with
 |true=>exact hb wh pj s1 σ H1 Q I1 q1
 |false=>exact⟨H1,I1,q1⟩
theorem pw_or(ha:PT X a tA)(hb:PW X (.BoolOp .Or (b::rest) pos) tB'):PW X (.BoolOp .Or (a::b::rest) pos) (tOr tA tB'):=by
 intro wh pj s σ H Q I h;refine isTrue_or (thn (ha pj s σ H _ I h) λc s1 z9=>?_);obtain⟨H1,I1,q1⟩:=z9;cases c with
 |true=>exact⟨H1,I1,q1⟩
 |false=>exact hb wh pj s1 σ H1 Q I1 q1
theorem a9y(ha:PT X a tA):PT X (.UnaryOp .Not a pos) (tNot tA):=by
 intro pj s σ H Q I h;exact isTrue_not (ha pj s σ H (λc H1=>Q (!c) H1) I h)
def tAndV(ta tb:TE):TE:=λσ H Q=>ta σ H λx H1=>∃c,x=.bl c/\if c=true then tb σ H1 Q else Q (.bl false) H1
def tOrV(ta tb:TE):TE:=λσ H Q=>ta σ H λx H1=>∃c,x=.bl c/\if c=true then Q (.bl true) H1 else tb σ H1 Q
theorem a4o{op}(h:PE X a t):PE X (.BoolOp op [a] pos) t:=λpj s σ H Q I hw=>BoolOp_one (h pj s σ H Q I hw)
theorem pe_and(ha:PE X a ta)(hb:PE X (.BoolOp .And (b::rest) pos) tb):PE X (.BoolOp .And (a::b::rest) pos) (tAndV ta tb):=by
 intro pj s σ H Q I h;refine BoolOp_and (thn (ha pj s σ H _ I h) λv s1 z9=>?_);obtain⟨x,H1,I1,r1,q1⟩:=z9;obtain⟨c,rfl,q1⟩:=q1;cases r1;refine Wa ?_;cases c with
 |true=>exact hb pj s1 σ H1 Q I1 q1
 |false=>exact⟨.bl false,H1,I1,rfl,q1⟩
theorem pe_or(ha:PE X a ta)(hb:PE X (.BoolOp .Or (b::rest) pos) tb):PE X (.BoolOp .Or (a::b::rest) pos) (tOrV ta tb):=by
 intro pj s σ H Q I h;refine BoolOp_or (thn (ha pj s σ H _ I h) λv s1 z9=>?_);obtain⟨x,H1,I1,r1,q1⟩:=z9;obtain⟨c,rfl,q1⟩:=q1;cases r1;refine Wa ?_;cases c with
 |false=>exact hb pj s1 σ H1 Q I1 q1
 |true=>exact⟨.bl true,H1,I1,rfl,q1⟩
def tIf(t:TT)(ta tb:TE):TE:=λσ H Q=>t σ H λc H1=>if c=true then ta σ H1 Q else tb σ H1 Q
theorem d1a(hc:PT X c tA)(ha:PE X a ta)(hb:PE X b tb):PE X (.IfExp c a b pos) (tIf tA ta tb):=by
 intro pj s σ H Q I h;refine wpAny_IfExp (thn (hc pj s σ H _ I h) λd s1 z9=>?_);obtain⟨H1,I1,q1⟩:=z9;cases d with
 |true=>exact ha pj s1 σ H1 Q I1 q1
 |false=>exact hb pj s1 σ H1 Q I1 q1
end
def SqL(K:W.Frag)(H:Hp)(a:Addr)(xs:List V):Prop:=
 Rd H a (.lst xs)\/
  ∃(o:Obj)(its:Array Value)(n:Nat),K.lookup a=some o/\o.cls=.type "list"/\o.dict=none/\o.data=.seq its n/\its.size<=sizeLine/\Vals xs its.toList
def SqT(K:W.Frag)(H:Hp)(a:Addr)(xs:List V):Prop:=
 Rd H a (.tup xs)\/
  ∃(o:Obj)(its:Array Value)(n:Nat),K.lookup a=some o/\o.cls=.type "tuple"/\o.data=.seq its n/\its.size<=sizeLine/\Vals xs its.toList
noncomputable def absV:Value->Option V
 | .none=>some .non
 | .bool b=>some (.bl b)
 | .int i _=>some (.int i)
 | .str x _=>some (.str x)
 | .bytes b _=>some (.byt b)
 | .float b _=>some (.flt b)
 | .ref a=>some (.ref a)
 | .type n=>some (.ty n)
 |_=>none
theorem RelV.abs(r:RelV x u):absV u=some x:=by
 cases x with
 |non=>cases r;rfl
 |bl _=>cases r;rfl
 |int _=>obtain⟨t,rfl⟩:=r;rfl
 |str _=>obtain⟨t,rfl⟩:=r;rfl
 |byt _=>obtain⟨t,rfl⟩:=r;rfl
 |flt _=>obtain⟨t,rfl⟩:=r;rfl
 |ref _=>cases r;rfl
 |ty _=>cases r;rfl
theorem RelV.inj(r:RelV x u)(q:RelV y u):x=y:=Zw (r.abs.symm.trans q.abs)
theorem Vals.inj(h:Vals xs us)(g:Vals ys us):xs=ys:=by
 induction h generalizing ys with
 |nil=>cases g;rfl
 |cons r _ ih=>cases g with
  |cons r' t'=>rw[r.inj r',ih t']
section
variable{X:Cx}{pj:List (Addr×Obj)}{σ:St}{H:Hp}{s:Shared}{a:Addr}{xs ys:List V}
theorem SqL.of{K:FG}(h:H a=some (.lst xs)):SqL K H a xs:=.inl (.inl h)
theorem SqT.of{K:FG}(h:H a=some (.tup xs)):SqT K H a xs:=.inl (.inl h)
theorem Inv.list(I:Inv X pj σ H s)(h:SqL X.K H a xs):∃its:List Value,Vals xs its/\PlainL s.heap a its.toArray/\xs.length<=sizeLine:=by
 rcases h with h|⟨o,its,n,hk,hc,hd,hs,hz,r⟩
 ·obtain⟨z,its,n,r,e⟩:=h.ok I.hok;exact⟨its,r,⟨_,n,e,rfl,rfl,rfl⟩,z⟩
 ·refine⟨its.toList,r,⟨o,n,I.kIn a o hk,hc,hd,by simpa using hs⟩,?_⟩;have e:=r.length;simp only[Wv]at e;omega
theorem Inv.tuple(I:Inv X pj σ H s)(h:SqT X.K H a xs):∃its:List Value,Vals xs its/\IsTup s.heap a its.toArray/\xs.length<=sizeLine:=by
 rcases h with h|⟨o,its,n,hk,hc,hs,hz,r⟩
 ·obtain⟨z,its,r,p⟩:=h.ok I.hok;exact⟨its,r,p,z⟩
 ·refine⟨its.toList,r,⟨o,I.kIn a o hk,hc,n,by simpa using hs⟩,?_⟩;have e:=r.length;simp only[Wv]at e;omega
theorem Inv.list_inj(I:Inv X pj σ H s)(h:SqL X.K H a xs)(h':SqL X.K H a ys):xs=ys:=by
 obtain⟨its,r,⟨o,n,e,_,_,d⟩,_⟩:=I.list h;obtain⟨its',r',⟨o',n',e',_,_,d'⟩,_⟩:=I.list h';rw[e]at e';cases e';rw[d]at d'
 injection d' with d1 _
 have:its=its':=by simpa using Xn Array.toList d1
 subst this;exact r.inj r'
theorem Inv.tuple_inj(I:Inv X pj σ H s)(h:SqT X.K H a xs)(h':SqT X.K H a ys):xs=ys:=by
 obtain⟨its,r,⟨o,e,_,n,d⟩,_⟩:=I.tuple h;obtain⟨its',r',⟨o',e',_,n',d'⟩,_⟩:=I.tuple h';rw[e]at e';cases e';rw[d]at d'
 injection d' with d1 _
 have:its=its':=by simpa using Xn Array.toList d1
 subst this;exact r.inj r'
end
abbrev Cx.wish(X:Cx)(E:Value->Shared->Prop):Cx:={ X with xe:=E}
abbrev Cx.nox(X:Cx):Cx:=X.wish λ_ _=>False
theorem Cx.Ok.wish{X:Cx}(ok:X.Ok)(E:Value->Shared->Prop):(X.wish E).Ok:=
 ⟨ok.mod,ok.kind,ok.glob,ok.blt,ok.above,ok.inj,ok.has,ok.cab,ok.hd,ok.frames,ok.stk,ok.exf,ok.bs,ok.bsz,ok.noex,ok.exfs,ok.funs,ok.frf⟩
theorem Cx.Ok.unwish{X:Cx}(ok:(X.wish E).Ok):X.Ok:=
 ⟨ok.mod,ok.kind,ok.glob,ok.blt,ok.above,ok.inj,ok.has,ok.cab,ok.hd,ok.frames,ok.stk,ok.exf,ok.bs,ok.bsz,ok.noex,ok.exfs,ok.funs,ok.frf⟩
section
variable{X:Cx}{pj:List (Addr×Obj)}{σ:St}{H:Hp}{s:Shared}{E:Value->Shared->Prop}
theorem Inv.wish(I:Inv X pj σ H s)(E:Value->Shared->Prop):Inv (X.wish E) pj σ H s:=⟨I.ok.wish E,I.os,I.bare,I.base,I.loc,I.cell,I.free,I.freeC,I.pin,I.hok,I.len⟩
theorem Inv.unwish(I:Inv (X.wish E) pj σ H s):Inv X pj σ H s:=⟨I.ok.unwish,I.os,I.bare,I.base,I.loc,I.cell,I.free,I.freeC,I.pin,I.hok,I.len⟩
theorem SP.unwish(h:SP (X.wish E) pj D f s'):SP X pj D f s':=by
 cases f with
 |next=>obtain⟨σ',H',I,q⟩:=h;exact⟨σ',H',I.unwish,q⟩
 |brk=>obtain⟨σ',H',I,q⟩:=h;exact⟨σ',H',I.unwish,q⟩
 |cont=>obtain⟨σ',H',I,q⟩:=h;exact⟨σ',H',I.unwish,q⟩
 |ret u=>obtain⟨v,σ',H',I,r,q⟩:=h;exact⟨v,σ',H',I.unwish,r,q⟩
theorem PSs.nox{st:List Stmt}{t:TS}(h:PSs X.nox st t):PSs X st t:=λpj s σ H D I hw=>
 Wb (h pj s σ H D (I.wish _) hw) (λ_ _ q=>q.unwish) λ_ _ z=>False.elim z
end
section
variable{X:Cx}{st:Stmt}{rest:List Stmt}{t u:TS}{e:Expr}{te:TE}{pos:Pos}
def tNext:TS:=λD σ H=>D.nx σ H
def tSeq(t u:TS):TS:=λD σ H=>t { D with nx:=u D} σ H
theorem a0u:PSs X [] tNext:=λ_ _ σ H _ I h=>Vi ⟨σ,H,I,h⟩
theorem a0d(h1:PS X st t)(h2:PSs X rest u):PSs X (st::rest) (tSeq t u):=by
 intro pj s σ H D I h;refine U0 (thn (h1 pj s σ H { D with nx:=u D} I h) λf s1 q=>?_);cases f with
 |next=>
  obtain⟨σ',H',I',q⟩:=q;exact h2 pj s1 σ' H' D I' q
 |ret v=>exact q
 |brk=>exact q
 |cont=>exact q
theorem a0g(h1:PS X st t):PSs X [st] t:=by
 intro pj s σ H D I h;refine U0 (thn (h1 pj s σ H D I h) λf s1 q=>?_);cases f with
 |next=>exact Vi q
 |ret v=>exact q
 |brk=>exact q
 |cont=>exact q
theorem Inv.quiet{pj:List (Addr×Obj)}{σ:St}{H:Hp}{s:Shared}(I:Inv X pj σ H s):interactive X.env=false:=by simp[interactive,I.ok.kind]
def tDrop(te:TE):TS:=λD σ H=>te σ H λ_ H1=>D.nx σ H1
theorem a1m(he:PE X e te)(hs:swapsWith e none pos.line X.env=pure false:=by rfl):PS X (.Expr e pos) (tDrop te):=by
 intro pj s σ H D I h;exact wpAny_Expr_any (thn (he pj s σ H _ I h) λv s1 ⟨x,H1,I1,r1,q1⟩=>⟨σ,H1,I1,q1⟩) I.quiet hs
def tRet(te:TE):TS:=λD σ H=>te σ H D.rt
theorem a0o(he:PE X e te):PS X (.Return (some e) pos) (tRet te):=by
 intro pj s σ H D I h;exact wpAny_Return_some (thn (he pj s σ H _ I h) λv s1 ⟨x,H1,I1,r1,q1⟩=>⟨x,σ,H1,I1,r1,q1⟩)
def tIfS(c:TT)(t u:TS):TS:=λD σ H=>c σ H λb H1=>if b=true then t D σ H1 else u D σ H1
theorem a1d(hc:PT X c tc)(ha:PSs X a t)(hb:PSs X b u):PS X (.If c a b pos) (tIfS tc t u):=by
 intro pj s σ H D I h;refine wpAny_If (thn (hc pj s σ H _ I h) λd s1 z9=>?_);obtain⟨H1,I1,q1⟩:=z9;cases d with
 |true=>exact ha pj s1 σ H1 D I1 q1
 |false=>exact hb pj s1 σ H1 D I1 q1
def tNever:TS:=λ_ _ _=>False
theorem a4c:PS X st tNever:=λ_ _ _ _ _ _ h=>h.elim
end
abbrev TG:=V->St->Hp->(St->Hp->Prop)->Prop
abbrev TGs:=List V->St->Hp->(St->Hp->Prop)->Prop
def PG(X:Cx)(target:Expr)(t:TG):Prop:=
 ∀(pj:List (Addr×Obj))(s:Shared)(σ:St)(H:Hp)(v:V)(u:Value)(Q:St->Hp->Prop),Inv X pj σ H s->RelV v u->t v σ H Q->
  wpAny (model X.prog X.w) X.A (assign target X.env u) (λ_ s'=>∃σ' H',Inv X pj σ' H' s'/\Q σ' H') X.xe s
def PGs(X:Cx)(ts:List Expr)(t:TGs):Prop:=
 ∀(pj:List (Addr×Obj))(s:Shared)(σ:St)(H:Hp)(vs:List V)(us:List Value)(Q:St->Hp->Prop),Inv X pj σ H s->Vals vs us->t vs σ H Q->
  wpAny (model X.prog X.w) X.A (assignInOrder ((assignEach ts X.env).map (·.2)) us) (λ_ s'=>∃σ' H',Inv X pj σ' H' s'/\Q σ' H') X.xe s
abbrev TSet:=V->V->V->Hp->(Hp->Prop)->Prop
def PSet(X:Cx)(t:TSet):Prop:=
 ∀(pj:List (Addr×Obj))(s:Shared)(σ:St)(H:Hp)(o i v:V)(ov iv u:Value)(Q:Hp->Prop),Inv X pj σ H s->RelV o ov->RelV i iv->RelV v u->t o i v H Q->
  wpAny (model X.prog X.w) X.A (setItem ov iv u) (λ_ s'=>∃H',Inv X pj σ H' s'/\Q H') X.xe s
abbrev TIp:=V->V->Hp->VK->Prop
def PIp(X:Cx)(op:Operator)(t:TIp):Prop:=
 ∀(pj:List (Addr×Obj))(s:Shared)(σ:St)(H:Hp)(x y:V)(v u:Value)(Q:VK),Inv X pj σ H s->RelV x v->RelV y u->t x y H Q->
  wpAny (model X.prog X.w) X.A (inplaceOp op v u) (EP X pj σ Q) X.xe s
section
variable{X:Cx}{pos:Pos}
def b1c(i:Nat):TG:=λv σ H Q=>Q (σ.set i (some v)) H
theorem a1f(hN:X.N.Nodup)(hi:X.N[i]? =some x)(hx:Loc X.env.scope x)(hf:X.fn x=true\/X.env.scope.names.lookup x=some .local:=by first|exact .inl rfl|exact .inr rfl|assumption):PG X (.Name x pos) (b1c i):=by
 intro pj s σ H v u Q I r h;exact Tv (a6o I hN hi hx r (λs' I'=>⟨_,H,I',h⟩) hf)
def gNil:TGs:=λvs σ H Q=>vs=[]/\Q σ H
def gCons(t:TG)(u:TGs):TGs:=λvs σ H Q=>∃v r,vs=v::r/\t v σ H λσ' H'=>u r σ' H' Q
theorem a3k:PGs X [] gNil:=by
 intro pj s σ H vs us Q I r h;obtain⟨e,h⟩:=h;subst e;cases r;exact assignInOrder_nil ⟨σ,H,I,h⟩
theorem a1j(h1:PG X e t)(h2:PGs X es u)
  (hs:(assignEach (e::es) X.env).map (·.2)=assign e X.env::(assignEach es X.env).map (·.2):=by rfl):PGs X (e::es) (gCons t u):=by
 intro pj s σ H vs us Q I r h;obtain⟨v,vr,e1,h⟩:=h;subst e1;cases r with
 |cons r rr=>
  rw[hs];refine assignInOrder_cons (thn (h1 pj s σ H _ _ _ I r h) λ_ s1 z9=>?_);obtain⟨σ1,H1,I1,q1⟩:=z9;exact h2 pj s1 σ1 H1 _ _ Q I1 rr q1
def gTup(K:W.Frag)(n:Nat)(t:TGs):TG:=λv σ H Q=>∃a xs,v=.ref a/\SqT K H a xs/\xs.length=n/\t xs σ H Q
theorem c6w{es:List Expr}{k:Nat}{t:TGs}{n:Nat}(hc:X.calm=true)(h:PGs X es t)
  (hn:(assignEach es X.env).length=n:=by rfl)(hst:(assignEach es X.env).findIdx? (·.1)=none:=by rfl):PG X (.Tuple es k pos) (gTup X.K n t):=by
 intro pj s σ H v u Q I r hw;obtain⟨a,xs,e1,hq,hl,hw⟩:=hw;subst e1;cases r;obtain⟨its,rv,ht,hz⟩:=I.tuple hq;refine assign_Tuple_tuple (I.ok.hd hc) ht (by simp[hn,<-hl,rv.length]) hst λh' hx=>?_
 have I1:Inv X pj σ H { s with heap:=h'}:=I.kept (t':=s.toks) λb o e=>hx b o (Z1 (Zs e)) e
 exact h pj _ σ H xs _ Q I1 (by simpa using rv) hw
def gSub(to ti:TE)(t:TSet):TG:=λv σ H Q=>to σ H λo H1=>ti σ H1 λi H2=>t o i v H2 λH3=>Q σ H3
theorem pg_sub(ho:PE X o to)(hi:PE X i ti)(hs:PSet X t)
  (ha:∀v,assign (.Subscript o i pos) X.env v=(do
   let ov <-holding [v] (eval o X.env)
   let iv <-holding [v,ov] (eval i X.env)
   standAt pos
   holding [v,ov,iv] (setItem ov iv v)
   release [v,ov,iv] []):=by intro _;rfl):PG X (.Subscript o i pos) (gSub to ti t):=by
 intro pj s σ H v u Q I r h;rw[ha];refine Zi (Y7 (thn (ho pj s σ H _ I h) λov s1 z9=>?_));obtain⟨x,H1,I1,r1,q1⟩:=z9;refine Zi (Y7 (thn (hi pj s1 σ H1 _ I1 q1) λiv s2 z9=>?_));obtain⟨y,H2,I2,r2,q2⟩:=z9;refine Zi (Uw (Zi (Y7 (thn (hs pj s2 σ H2 x y v ov iv u _ I2 r1 r2 r q2) λ_ s3 z9=>?_))));obtain⟨H3,I3,q3⟩:=z9;exact wpAny_release ⟨σ,H3,I3,q3⟩
def tAsg(te:TE)(g:TG):TS:=λD σ H=>te σ H λx H1=>g x σ H1 D.nx
theorem b6e(he:PE X e te)(hg:PG X tg g)(hs:swapsWithSole [tg] e pos.line X.env=pure false:=by rfl)(hw:swappedStores [tg] e X.env=pure none:=by rfl)
  (h1:(assignEach [tg] X.env).map (·.2)=[assign tg X.env]:=by rfl):PS X (.Assign [tg] e pos) (tAsg te g):=by
 intro pj s σ H D I h;refine wpAny_Assign_stores (thn (he pj s σ H _ I h) λv s1 ⟨x,H1,I1,r1,q1⟩=>?_) hs hw;rw[h1];exact thn (hg pj s1 σ H1 x v _ I1 r1 q1) λ_ s2 q=>q
theorem a0p(hN:X.N.Nodup)(hi:X.N[i]? =some x)(hx:Loc X.env.scope x)(he:PE X e te)(hs:swapsWith e (some (.Name x pos')) pos.line X.env=pure false:=by rfl)(hf:X.fn x=true\/X.env.scope.names.lookup x=some .local:=by first|exact .inl rfl|exact .inr rfl|assumption):
  PS X (.Assign [.Name x pos'] e pos) (tAsg te (b1c i)):=by
 intro pj s σ H D I h;refine wpAny_Assign_Name (thn (he pj s σ H _ I h) λv s1 ⟨y,H1,I1,r1,q1⟩=>?_) hs;exact a6o I1 hN hi hx r1 (λs2 I2=>⟨_,H1,I2,q1⟩) hf
def tAug(i:Nat)(te:TE)(ti:TIp):TS:=λD σ H=>∃x,σ[i]? =some (some x)/\te σ H λy H1=>ti x y H1 λz H2=>D.nx (σ.set i (some z)) H2
theorem ps_aug(hN:X.N.Nodup)(hi:X.N[i]? =some x)(hx:Loc X.env.scope x)(he:PE X e te)(ho:PIp X op ti)(hf:X.fn x=true\/X.env.scope.names.lookup x=some .local:=by first|exact .inl rfl|exact .inr rfl|assumption):
  PS X (.AugAssign (.Name x pos') op e pos) (tAug i te ti):=by
 intro pj s σ H D I h;obtain⟨v,e1,h⟩:=h;obtain⟨m,hn,hl⟩:=I.loc;have vis:Vis X.env.scope x:=by rcases hx with k|k;exact .inl k;exact .inr (.inl k)
 obtain⟨u,r,l⟩:=hl i x v hi e1 vis;refine wpAny_AugAssign_Name ?_;have go:wpAny (model X.prog X.w) X.A (eval e X.env) (λw s₂=>wpAny (model X.prog X.w) X.A (inplaceOp op u w) (λr s₃=>wpAny (model X.prog X.w) X.A (storeName X.env x r) (λ_=>SP X pj D .next) X.xe s₃) X.xe s₂) X.xe s:=by
  refine thn (he pj s σ H _ I h) λw s1 z9=>?_
  obtain⟨y,H1,I1,r1,q1⟩:=z9;refine thn (ho pj s1 σ H1 v y u w _ I1 r r1 q1) λz s2 z9=>?_
  obtain⟨zv,H2,I2,r2,q2⟩:=z9;exact a6o I2 hN hi hx r2 (λs3 I3=>⟨_,H2,I3,q2⟩) hf
 rcases l with⟨hk,hm⟩|⟨hk,c,hc,hcell⟩
 ·exact Rq I.ok.kind hk hn hm go
 ·rcases hk with hk|hk
  ·exact R0 I.ok.kind hk hc hcell go
  ·rcases hx with k|k
   ·have:X.env.scope.names.lookup x=some .free:=hk;rw[k]at this;cases this
   ·have:X.env.scope.names.lookup x=some .free:=hk;rw[k]at this;cases this
end
section
variable{X:Cx}{pos:Pos}
def c1c(c:TT)(tb:TS):TS:=λD σ H=>∃W:Nat->St->Hp->Prop,(∃m,W m σ H)/\∀m σ H,W m σ H->
 c σ H λb H1=>if b=true then ∃N:St->Hp->Prop,(∀σ' H',N σ' H'->∃m',m'<m/\W m' σ' H')/\tb { D with nx:=N,ct:=N,bk:=D.nx} σ H1 else D.nx σ H1
theorem a5n(hp:PassesOwn (model X.prog X.w) X.A X.env X.xe)(hc:PT X c tc)(hb:PSs X body tb):PS X (.While c body [] pos) (c1c tc tb):=by
 intro pj s σ H D I h;obtain⟨W,⟨m0,w0⟩,turn⟩:=h;refine wpAny_While (codeAny_whileLoop (λn s'=>∃σ' H',Inv X pj σ' H' s'/\W n σ' H') ?_ m0 ⟨σ,H,I,w0⟩)
 rintro n s1 ⟨σ1,H1,I1,w1⟩
 refine W6 hp (thn (hc pj s1 σ1 H1 _ I1 (turn n σ1 H1 w1)) λb s2 z9=>?_);obtain⟨H2,I2,q2⟩:=z9;cases b with
 |true=>
  obtain⟨N,hN,q2⟩:=q2;rw[if_pos rfl];refine W6 hp (thn (hb pj s2 σ1 H2 _ I2 q2) λf s3 q3=>?_);cases f with
  |next=>
   obtain⟨σ3,H3,I3,n3⟩:=q3;obtain⟨m',hm,w3⟩:=hN σ3 H3 n3;exact⟨m',hm,σ3,H3,I3,w3⟩
  |cont=>
   obtain⟨σ3,H3,I3,n3⟩:=q3;obtain⟨m',hm,w3⟩:=hN σ3 H3 n3;exact⟨m',hm,σ3,H3,I3,w3⟩
  |brk=>exact q3
  |ret v=>exact q3
 |false=>
  rw[if_neg Zr];exact Vi ⟨σ1,H2,I2,q2⟩
end
structure It where
 go:Nat->Hp->Prop
 yld:Nat->Hp->V->Hp->Prop
 stop:Nat->Hp->Prop
def FpOk(X:Cx)(pj:List (Addr×Obj))(H:Hp)(b:Addr):Prop:=
 H b=none/\b≠X.env.locals/\b∉X.fs/\(b∈X.ex\/X.s₀.heap.objs.size<=b)/\(∀x c,X.env.cells.lookup x=some c->c≠b)/\∀p∈X.pn++pj,p.1≠b
theorem Inv.fpOk{X:Cx}{pj:List (Addr×Obj)}{σ:St}{H H':Hp}{s:Shared}{b:Addr}(I:Inv X pj σ H s)(hb:s.heap.objs.size<=b)(hn:H' b=none):FpOk X pj H' b:=by
 refine⟨hn,X8 (Yc I.lt hb),I.nofs hb,.inr (Yn I.sz hb),λx c e z=>?_,λp hp z=>?_⟩
 ·obtain⟨v,q⟩:=I.cell x c e;exact absurd (Yc q.lt (by rw[z];exact hb)) (Xo _)
 ·exact absurd (Yc (Zs (I.pin p hp).1) (by rw[z];exact hb)) (Xo _)
structure Turn(P:Program)(w:World)(K:W.Frag)(tg:Expr)(J:It)(fp:List Addr)(it:Addr)(tn:Nat->Heap->Prop):Prop where
 mem:it∈fp
 obj:∀i h,tn i h->∀b∈fp,∃o,h.get? b=some o/\∀v,o.data≠.cell v
 keep:∀i h h',tn i h->(∀b∈fp,∀o,h.get? b=some o->h'.get? b=some o)->tn i h'
 item:∀(X:Cx),X.prog=P->X.w=w->X.K=K->X.calm=true->∀(i:Nat)(pj:List (Addr×Obj))(s:Shared)(σ:St)(H:Hp)(E:Value->Shared->Prop),Inv X pj σ H s->(∀b∈fp,FpOk X pj H b)->tn i s.heap->J.go i H->
  wpAny (model P w) X.A (pyNext (.ref it)) (λr s1=>∃u,r=some u/\
   wpAny (model P w) X.A (letOwnedTupleGo tg (.ref it) u) (λ_ s2=>∃x H',Inv X pj σ H' s2/\RelV x u/\J.yld i H x H'/\tn (i+1) s2.heap/\∀b∈fp,H' b=none) E s1) E s
 done:∀(X:Cx),X.prog=P->X.w=w->X.K=K->X.calm=true->∀(i:Nat)(pj:List (Addr×Obj))(s:Shared)(σ:St)(H:Hp)(E:Value->Shared->Prop),Inv X pj σ H s->(∀b∈fp,FpOk X pj H b)->tn i s.heap->J.stop i H->
  wpAny (model P w) X.A (pyNext (.ref it)) (λr s1=>r=none/\Inv X pj σ H s1) E s
 self:∀(A:Around)(i:Nat)(s:Shared)(Q:Value->Shared->Prop)(E:Value->Shared->Prop),tn i s.heap->Q (.ref it) s->wpAny (model P w) A (pyIter (.ref it)) Q E s
abbrev TI:=St->Hp->(It->Hp->Prop)->Prop
def PIE(X:Cx)(pj:List (Addr×Obj))(σ:St)(tg:Expr)(R:It->Hp->Prop)(itv:Value)(s2:Shared):Prop:=
 ∃(it:Addr)(fp:List Addr)(tn:Nat->Heap->Prop)(J:It)(H':Hp),itv=.ref it/\Inv X pj σ H' s2/\Turn X.prog X.w X.K tg J fp it tn/\tn 0 s2.heap/\(∀b∈fp,FpOk X pj H' b)/\R J H'
def PI(X:Cx)(tg iter:Expr)(wi:TI):Prop:=
 ∀(pj:List (Addr×Obj))(s:Shared)(σ:St)(H:Hp)(R:It->Hp->Prop),Inv X pj σ H s->wi σ H R->
  wpAny (model X.prog X.w) X.A (eval iter X.env) (λv s1=>wpAny (model X.prog X.w) X.A (pyIter v) (PIE X pj σ tg R) X.xe s1) X.xe s
theorem c0p{s:Shared}(ho:s.heap.get? it=some o)(hc:o.cls=.type n)(hd:o.data=.fields vs)
  (hn:["enumerate","zip","dict_itemiterator","dict_reverseitemiterator","odict_iterator","itertools.zip_longest","itertools.pairwise"].contains n=false)(hQ:Q () s):wpAny M A (letOwnedTupleGo tg (.ref it) u) Q E s:=by
 unfold letOwnedTupleGo;cases tg<;>first
  |exact Zp hQ
  | (cases u<;>first
    |exact Zp hQ
    | (refine Zi (wpAny_load ho ?_)
       rw[hc,hd]
       show wpAny M A (if(["enumerate","zip","dict_itemiterator","dict_reverseitemiterator","odict_iterator","itertools.zip_longest","itertools.pairwise"].contains n&&vs[0]? ==some (rawInt _))=true then _ else _) Q E s
       rw[if_neg (by intro h;rw[hn,Bool.false_and]at h;cases h)]
       exact Zp hQ))
def Itl(K:W.Frag)(a:Addr):It:=
 ⟨λi H=>∃xs x,SqL K H a xs/\xs[i]? =some x,λi H x H'=>H'=H/\∀xs,SqL K H a xs->xs[i]? =some x,λi H=>∃xs,SqL K H a xs/\xs.length<=i⟩
def Itt(K:W.Frag)(a:Addr):It:=
 ⟨λi H=>∃xs x,SqT K H a xs/\xs[i]? =some x,λi H x H'=>H'=H/\∀xs,SqT K H a xs->xs[i]? =some x,λi H=>∃xs,SqT K H a xs/\xs.length<=i⟩
def Itr(lo:Int)(n:Nat):It:=⟨λi _=>i<n,λi H x H'=>H'=H/\x=.int (lo+i),λi _=>n<=i⟩
theorem c6x{P:Program}{w:World}{K:FG}{tg:Expr}(a it:Addr):Turn P w K tg (Itl K a) [it] it (λi h=>h.IsListIter it a i) where
 mem:=by simp
 obj:=λi h st b hb=>by
  have e:b=it:=by simpa using hb
  subst e;obtain⟨o,e,c,d⟩:=st;exact⟨o,e,λv z=>by rw[d]at z;cases z⟩
 keep:=λi h h' st k=>st.at λo e=>k it qz o e
 item:=by
  intro X hP hw hK hc i pj s σ H E I hf st hg;subst hP hw hK;obtain⟨xs,x,hq,hx⟩:=hg;obtain⟨its,rv,p,hz⟩:=I.list hq;obtain⟨u,hu,ru⟩:=rv.get hx;obtain⟨f0,f1,f2,f3,f4,f5⟩:=hf it qz;refine wpAny_pyNext_list_item st p.isList (x:=u) (by simpa using hu) λh' st' sb=>?_
  have I1:Inv X pj σ H { s with heap:=h'}:=I.turned (t':=s.toks) (λb o hb e=>(sb.2 b hb).trans e) f0 f1 f3 f4 f5;obtain⟨o,e,c,d⟩:=id st';exact⟨u,rfl,c0p (s:={ s with heap:=h'}) e c d qd ⟨x,H,I1,ru,⟨rfl,λys hy=>by rw[I.list_inj hy hq];exact hx⟩,st',λb hb=>(hf b hb).1⟩⟩
 done:=by
  intro X hP hw hK hc i pj s σ H E I hf st hg;subst hP hw hK;obtain⟨xs,hq,hx⟩:=hg;obtain⟨its,rv,p,hz⟩:=I.list hq;obtain⟨f0,f1,f2,f3,f4,f5⟩:=hf it qz;have hl:=rv.length;exact wpAny_pyNext_list_end (I.ok.hd hc) st p.isList (by simp;omega) λh' eb=>⟨rfl,I.turned (t':=s.toks) (λb o hb e=>eb b o hb e) f0 f1 f3 f4 f5⟩
 self:=λ_ _ _ _ _ st h=>wpAny_pyIter_listiter st h
theorem c5i{P:Program}{w:World}{K:FG}{tg:Expr}(a it:Addr):Turn P w K tg (Itt K a) [it] it (λi h=>h.IsTupleIter it a i) where
 mem:=by simp
 obj:=λi h st b hb=>by
  have e:b=it:=by simpa using hb
  subst e;obtain⟨o,e,c,d⟩:=st;exact⟨o,e,λv z=>by rw[d]at z;cases z⟩
 keep:=λi h h' st k=>st.at λo e=>k it qz o e
 item:=by
  intro X hP hw hK hc i pj s σ H E I hf st hg;subst hP hw hK;obtain⟨xs,x,hq,hx⟩:=hg;obtain⟨its,rv,p,hz⟩:=I.tuple hq;obtain⟨u,hu,ru⟩:=rv.get hx;obtain⟨f0,f1,f2,f3,f4,f5⟩:=hf it qz;refine wpAny_pyNext_tuple_item st (show s.heap.IsTuple a its.toArray from p) (x:=u) (by simpa using hu) λh' st' sb=>?_
  have I1:Inv X pj σ H { s with heap:=h'}:=I.turned (t':=s.toks) (λb o hb e=>(sb.2 b hb).trans e) f0 f1 f3 f4 f5;obtain⟨o,e,c,d⟩:=id st';exact⟨u,rfl,c0p (s:={ s with heap:=h'}) e c d qd ⟨x,H,I1,ru,⟨rfl,λys hy=>by rw[I.tuple_inj hy hq];exact hx⟩,st',λb hb=>(hf b hb).1⟩⟩
 done:=by
  intro X hP hw hK hc i pj s σ H E I hf st hg;subst hP hw hK;obtain⟨xs,hq,hx⟩:=hg;obtain⟨its,rv,p,hz⟩:=I.tuple hq;obtain⟨f0,f1,f2,f3,f4,f5⟩:=hf it qz;have hl:=rv.length;exact wpAny_pyNext_tuple_end (I.ok.hd hc) st (show s.heap.IsTuple a its.toArray from p) (by simp;omega) λh' eb=>⟨rfl,I.turned (t':=s.toks) (λb o hb e=>eb b o hb e) f0 f1 f3 f4 f5⟩
 self:=λ_ _ _ _ _ st h=>wpAny_pyIter_tupleiter st h
theorem c5j{P:Program}{w:World}{K:FG}{tg:Expr}(it:Addr)(lo:Int)(n:Nat):Turn P w K tg (Itr lo n) [it] it (λi h=>IsRangeIter h it (lo+(i:Nat)*1) ((n:Int)-(i:Nat)) 1) where
 mem:=by simp
 obj:=λi h st b hb=>by
  have e:b=it:=by simpa using hb
  subst e
  exact⟨_,st,λv z=>by
   have z':Data.fields _=Data.cell v:=z
   cases z'⟩
 keep:=λi h h' st k=>k it qz _ st
 item:=by
  intro X hP hw hK hc i pj s σ H E I hf st hg;subst hP hw hK;obtain⟨f0,f1,f2,f3,f4,f5⟩:=hf it qz;have W:=Walks.range (prog:=X.prog) (w:=X.w) (I.ok.hd hc) it lo 1 n;refine W.item i s _ _ hg st λv h' tk hv st' kk=>?_
  obtain⟨t,rfl⟩:=hv;have I1:Inv X pj σ H { s with heap:=h',toks:=tk}:=I.turned (λb o hb e=>kk b o (by simpa using hb) e) f0 f1 f3 f4 f5;refine⟨_,rfl,c0p (s:={ s with heap:=h',toks:=tk}) (n:="range_iterator") st' rfl rfl qd ⟨.int (lo+i),H,I1,⟨t,?_⟩,⟨rfl,rfl⟩,st',λb hb=>(hf b hb).1⟩⟩;rw[Int.mul_one]
 done:=by
  intro X hP hw hK hc i pj s σ H E I hf st hg;subst hP hw hK;obtain⟨f0,f1,f2,f3,f4,f5⟩:=hf it qz;exact wpAny_pyNext_range_end (I.ok.hd hc) st (by have:n<=i:=hg;omega) λh' eb=>⟨rfl,I.turned (t':=s.toks) (λb o hb e=>eb b o hb e) f0 f1 f3 f4 f5⟩
 self:=λ_ _ _ _ _ st h=>wpAny_pyIter_rangeiter st h
section
variable{X:Cx}{tg:Expr}
def iList(K:W.Frag)(tl:TE):TI:=λσ H R=>tl σ H λx H1=>∃a,x=.ref a/\(∃xs,SqL K H1 a xs)/\R (Itl K a) H1
def iTup(K:W.Frag)(tl:TE):TI:=λσ H R=>tl σ H λx H1=>∃a,x=.ref a/\(∃xs,SqT K H1 a xs)/\R (Itt K a) H1
theorem pi_list(hl:PE X l tl):PI X tg l (iList X.K tl):=by
 intro pj s σ H R I h;refine thn (hl pj s σ H _ I h) λv s1 z9=>?_
 obtain⟨x,H1,I1,r1,q1⟩:=z9;obtain⟨a,e,⟨xs,hq⟩,q⟩:=q1;subst e;cases r1;obtain⟨its,rv,p,hz⟩:=I1.list hq;refine Um p.isList ?_;refine⟨s1.heap.objs.size,[s1.heap.objs.size],_,_,H1,rfl,I1.kept (t':=s1.toks) λb o e=>Zk _ e,c6x a _,⟨_,Zv _ rfl,rfl,rfl⟩,λb hb=>?_,q⟩;have e:b=s1.heap.objs.size:=by simpa using hb
 subst e;exact I1.fpOk (Zn _) (I1.hok.fresh (Zn _))
theorem pi_tup(hl:PE X l tl):PI X tg l (iTup X.K tl):=by
 intro pj s σ H R I h;refine thn (hl pj s σ H _ I h) λv s1 z9=>?_
 obtain⟨x,H1,I1,r1,q1⟩:=z9;obtain⟨a,e,⟨xs,hq⟩,q⟩:=q1;subst e;cases r1;obtain⟨its,rv,p,hz⟩:=I1.tuple hq;refine wpAny_pyIter_tuple (show s1.heap.IsTuple a its.toArray from p) ?_;refine⟨s1.heap.objs.size,[s1.heap.objs.size],_,_,H1,rfl,I1.kept (t':=s1.toks) λb o e=>Zk _ e,c5i a _,⟨_,Zv _ rfl,rfl,rfl⟩,λb hb=>?_,q⟩;have e:b=s1.heap.objs.size:=by simpa using hb
 subst e;exact I1.fpOk (Zn _) (I1.hok.fresh (Zn _))
theorem d1b{pj:List (Addr×Obj)}{σ:St}{H:Hp}{s:Shared}{R:It->Hp->Prop}{E:Value->Shared->Prop}{lo hi:Int}{t u v:Tok}{tk:Nat}(I:Inv X pj σ H s)(h1:-(2^62)<=lo)(h2:lo<2^62)(h3:-(2^62)<=hi)(h4:hi<2^62)
  (q:R (Itr lo (hi-lo).toNat) H):wpAny (model X.prog X.w) X.A (pyIter (.ref s.heap.objs.size)) (PIE X pj σ tg R) E { s with heap:=s.heap.push { cls:=.type "range",data:=.fields #[.int lo t,.int hi u,.int 1 v]},toks:=tk}:=by
 refine wpAny_pyIter_range (IsRange.new ..) (small_one h1 h2 h3 h4) ?_;have I1:Inv X pj σ H { s with heap:=s.heap.push { cls:=.type "range",data:=.fields #[.int lo t,.int hi u,.int 1 v]},toks:=tk}:=I.kept λb o e=>Zk _ e
 refine⟨(s.heap.push { cls:=.type "range",data:=.fields #[.int lo t,.int hi u,.int 1 v]}).objs.size,[(s.heap.push { cls:=.type "range",data:=.fields #[.int lo t,.int hi u,.int 1 v]}).objs.size],_,_,H,rfl,
  I1.kept (t':=tk) λb o e=>Zk _ e,c5j _ lo (hi-lo).toNat,?_,λb hb=>?_,q⟩
 ·have e1:lo+((0:Nat):Int)*1=lo:=by simp
  have e2:(((hi-lo).toNat:Nat):Int)-((0:Nat):Int)=Builtin.Range.rangeSize lo hi 1:=by rw[rangeSize_one];split<;>omega
  show IsRangeIter _ _ (lo+((0:Nat):Int)*1) ((((hi-lo).toNat:Nat):Int)-((0:Nat):Int)) 1
  rw[e1,e2];exact Zv _ rfl
 ·have e:b=(s.heap.push { cls:=.type "range",data:=.fields #[.int lo t,.int hi u,.int 1 v]}).objs.size:=by simpa using hb
  subst e;exact I1.fpOk (Zn _) (I1.hok.fresh (Zn _))
def iRng1(ta:TA):TI:=λσ H R=>ta σ H λvs H1=>∃j:Int,vs=[.int j]/\-(2^62)<=j/\j<2^62/\R (Itr 0 j.toNat) H1
theorem a8x(hg:Gl X "range")(hm:X.mg "range"=none)(ha:PA X [a] ta)(hs:starEach [a] X.env=[(false,eval a X.env)]:=by rfl):PI X tg (.Call (.Name "range" p) [a] [] pos) (iRng1 ta):=by
 intro pj s σ H R I h;refine Call_ (a5z I hg hm boot_range (Xj (thn (ha pos pj s σ H _ I h) λus s1 ⟨vs,H1,I1,r1,q1⟩=>?_) hs rfl));obtain⟨j,e,q1,q2,q⟩:=q1;subst e;cases r1 with
 |cons r rr=>
  cases rr;obtain⟨t,rfl⟩:=r;exact call_range_1 (d1b I1 qo qo q1 q2 (by simpa using q))
def tFor(wi:TI)(g:TG)(tb:TS):TS:=λD σ H=>wi σ H λJ H1=>∃W:Nat->Nat->St->Hp->Prop,(∃m,W 0 m σ H1)/\∀i m σ H,W i m σ H->
 (J.stop i H/\D.nx σ H)\/(J.go i H/\∃N:St->Hp->Prop,(∀σ' H',N σ' H'->∃m',m'<m/\W (i+1) m' σ' H')/\∀x H',J.yld i H x H'->g x σ H' λσ2 H2=>tb { D with nx:=N,ct:=N,bk:=D.nx} σ2 H2)
def a9z(fp:List Addr)(h:Heap):List (Addr×Obj):=fp.filterMap λb=>(h.get? b).map λo=>(b,o)
theorem a4y{h:Heap}(hb:b∈fp)(e:h.get? b=some o):(b,o)∈a9z fp h:=Qh.mpr ⟨b,hb,by rw[e];rfl⟩
theorem c6y(hp:p∈a9z fp h):p.1∈fp/\h.get? p.1=some p.2:=by
 obtain⟨b,hb,e⟩:=Qh.mp hp;cases q:h.get? b with
 |none=>rw[q]at e;cases e
 |some o=>
  rw[q]at e;have e':(b,o)=p:=Zw e;subst e';exact⟨hb,q⟩
theorem Inv.pinned{pj:List (Addr×Obj)}{σ:St}{H:Hp}{s:Shared}{fp:List Addr}(I:Inv X pj σ H s)(hf:∀b∈fp,FpOk X pj H b)(ho:∀b∈fp,∃o,s.heap.get? b=some o/\∀v,o.data≠.cell v):Inv X (pj++a9z fp s.heap) σ H s:=
 I.pins_of λp hp=>(Yt.mp hp).elim (λz=>I.pin p (Yl _ z)) λz=>by
  obtain⟨hb,e⟩:=c6y z;obtain⟨f0,f1,f2,_⟩:=hf p.1 hb;obtain⟨o,e',d⟩:=ho p.1 hb;rw[e]at e';cases e';exact⟨e,f0,f1,f2,d⟩
theorem Inv.unpinned{pj pl:List (Addr×Obj)}{σ:St}{H:Hp}{s:Shared}(I:Inv X (pj++pl) σ H s):Inv X pj σ H s:=I.pins_of λp hp=>I.pin p (Yl _ (V6 _ hp))
theorem a3i(hp:PassesOwn (model X.prog X.w) X.A X.env X.xe)(hc:X.calm=true)(hi:PI X tg iter wi)(hg:PG X tg g)(hb:PSs X body tb)
  (hs:∀x,foldedSetIterable iter X.env x=pure x:=by intro _;rfl):PS X (.For tg iter body [] pos) (tFor wi g tb):=by
 intro pj s σ H D I h;refine wpAny_For (thn (hi pj s σ H _ I h) λv s1 h1=>thn h1 λitv s2 h2=>?_) hs;obtain⟨it,fp,tn,J,H2,e,I2,T,st2,f2,W,⟨m0,w0⟩,turn⟩:=h2;subst e;have stat:∀{H':Hp},(∀b∈fp,H' b=none)->∀b∈fp,FpOk X pj H' b:=λhn b hb=>⟨hn b hb,(f2 b hb).2⟩
 refine codeAny_forLoop_any (λn s'=>∃i σ' H',Inv X pj σ' H' s'/\tn i s'.heap/\(∀b∈fp,H' b=none)/\W i n σ' H') ?_ m0 ⟨0,σ,H2,I2,st2,λb hb=>(f2 b hb).1,w0⟩
 rintro n s3 ⟨i,σ3,H3,I3,st3,fr3,w3⟩
 rcases turn i n σ3 H3 w3 with⟨stop,qn⟩|⟨go,N,hN,step⟩
 ·refine W6 hp (thn (T.done X rfl rfl rfl hc i pj s3 σ3 H3 X.xe I3 (stat fr3) st3 stop) λr s4 ⟨hr,I4⟩=>?_);subst hr;exact Vi ⟨σ3,H3,I4,qn⟩
 ·refine W6 hp (thn (T.item X rfl rfl rfl hc i pj s3 σ3 H3 X.xe I3 (stat fr3) st3 go) λr s4 ⟨u,hr,h4⟩=>?_);subst hr;refine W6 hp (thn h4 λ_ s5 z9=>?_);obtain⟨x,H5,I5,r5,y5,st5,fr5⟩:=z9;have I5':=I5.pinned (stat fr5) (T.obj _ _ st5);refine W6 hp (thn (hg _ s5 σ3 H5 x u _ I5' r5 (step x H5 y5)) λ_ s6 z9=>?_);obtain⟨σ6,H6,I6,q6⟩:=z9;refine W6 hp (thn (hb _ s6 σ6 H6 _ I6 q6) λf s7 q7=>?_);have again:∀{σ7:St}{H7:Hp},Inv X (pj++a9z fp s5.heap) σ7 H7 s7->N σ7 H7->∃m,m<n/\∃i σ' H',Inv X pj σ' H' s7/\tn i s7.heap/\(∀b∈fp,H' b=none)/\W i m σ' H':=λ{σ7 H7} I7 n7=>by
   obtain⟨m',hm,w7⟩:=hN σ7 H7 n7;refine⟨m',hm,i+1,σ7,H7,I7.unpinned,T.keep _ _ _ st5 λb hb o e=>(I7.pin (b,o) (Yl _ (Yl _ (a4y hb e)))).1,λb hb=>?_,w7⟩;obtain⟨o,e,d⟩:=T.obj _ _ st5 b hb;exact(I7.pin (b,o) (Yl _ (Yl _ (a4y hb e)))).2.1
  cases f with
  |next=>obtain⟨σ7,H7,I7,n7⟩:=q7;exact again I7 n7
  |cont=>obtain⟨σ7,H7,I7,n7⟩:=q7;exact again I7 n7
  |brk=>obtain⟨σ7,H7,I7,q7⟩:=q7;exact⟨σ7,H7,I7.unpinned,q7⟩
  |ret v=>obtain⟨x7,σ7,H7,I7,r7,q7⟩:=q7;exact⟨x7,σ7,H7,I7.unpinned,r7,q7⟩
end
abbrev R2:=V->V->Hp->VK->Prop
def OpR(X:Cx)(f:Value->Value->Sem Value)(r:R2):Prop:=
 ∀(pj:List (Addr×Obj))(s:Shared)(σ:St)(H:Hp)(x y:V)(v u:Value)(Q:VK),Inv X pj σ H s->RelV x v->RelV y u->r x y H Q->
  wpAny (model X.prog X.w) X.A (f v u) (EP X pj σ Q) X.xe s
def UnR(X:Cx)(f:Value->Sem Value)(r:V->Hp->VK->Prop):Prop:=
 ∀(pj:List (Addr×Obj))(s:Shared)(σ:St)(H:Hp)(x:V)(v:Value)(Q:VK),Inv X pj σ H s->RelV x v->r x H Q->
  wpAny (model X.prog X.w) X.A (f v) (EP X pj σ Q) X.xe s
def a3r(X:Cx)(f:Value)(r:List V->Hp->VK->Prop):Prop:=
 ∀(pj:List (Addr×Obj))(s:Shared)(σ:St)(H:Hp)(xs:List V)(us:List Value)(Q:VK),Inv X pj σ H s->Vals xs us->r xs H Q->
  wpAny (model X.prog X.w) X.A (call f us) (EP X pj σ Q) X.xe s
def TruR(X:Cx)(r:V->Hp->(Bool->Hp->Prop)->Prop):Prop:=
 ∀(pj:List (Addr×Obj))(s:Shared)(σ:St)(H:Hp)(x:V)(v:Value)(Q:Bool->Hp->Prop),Inv X pj σ H s->RelV x v->r x H Q->
  wpAny (model X.prog X.w) X.A (truthy v) (TP X pj σ Q) X.xe s
def tOp(r:R2)(ta tb:TE):TE:=λσ H Q=>ta σ H λx H1=>tb σ H1 λy H2=>r x y H2 Q
def tUn(r:V->Hp->VK->Prop)(ta:TE):TE:=λσ H Q=>ta σ H λx H1=>r x H1 Q
def rI(C:Int->Int->Prop)(g:Int->Int->V):R2:=λx y H Q=>∃i j,x=.int i/\y=.int j/\C i j/\Q (g i j) H
def rI0(g:Int->Int->V):R2:=λx y H Q=>∃i j,x=.int i/\y=.int j/\Q (g i j) H
def rU(g:Int->V):V->Hp->VK->Prop:=λx H Q=>∃i,x=.int i/\Q (g i) H
section
variable{X:Cx}{a b c:Expr}{ta tb tc:TE}{pos:Pos}
theorem binT(ha:PE X a ta)(hb:PE X b tb){pj:List (Addr×Obj)}{s:Shared}{σ:St}{H:Hp}{R:V->V->Hp->Prop}(I:Inv X pj σ H s)
  (h:ta σ H λx H1=>tb σ H1 λy H2=>R x y H2){Q:Value->Shared->Prop}{f:Value->Value->Sem Value}
  (hf:∀v u s2 x y H2,Inv X pj σ H2 s2->RelV x v->RelV y u->R x y H2->wpAny (model X.prog X.w) X.A (f v u) Q X.xe s2):
  wpAny (model X.prog X.w) X.A (eval a X.env) (λv s₁=>wpAny (model X.prog X.w) X.A (eval b X.env) (λu s₂=>wpAny (model X.prog X.w) X.A (f v u) Q X.xe s₂) X.xe s₁) X.xe s:=by
 refine thn (ha pj s σ H _ I h) λv s1 z9=>?_
 obtain⟨x,H1,I1,r1,q1⟩:=z9;refine thn (hb pj s1 σ H1 _ I1 q1) λu s2 z9=>?_
 obtain⟨y,H2,I2,r2,q2⟩:=z9;exact hf v u s2 x y H2 I2 r1 r2 q2
theorem a1h(ho:OpR X (binaryOp op) r)(ha:PE X a ta)(hb:PE X b tb):PE X (.BinOp a op b pos) (tOp r ta tb):=by
 intro pj s σ H Q I h;exact wpAny_BinOp (binT ha hb I h λv u s2 x y H2 I2 rx ry q=>ho pj s2 σ H2 x y v u Q I2 rx ry q)
theorem pe_un(ho:UnR X (unaryOp op) r)(ha:PE X a ta):PE X (.UnaryOp op a pos) (tUn r ta):=by
 intro pj s σ H Q I h;exact UnaryOp_ (thn (ha pj s σ H _ I h) λv s1 ⟨x,H1,I1,r1,q1⟩=>ho pj s1 σ H1 x v Q I1 r1 q1)
theorem opI{f:Value->Value->Sem Value}{C:Int->Int->Prop}{g:Int->Int->Int}
  (rule:∀(i j:Int)(t u:Tok)(s:Shared)(Q:Value->Shared->Prop)(E:Value->Shared->Prop),C i j->Q (.int (g i j) s.toks) { s with toks:=s.toks+1}->wpAny (model X.prog X.w) X.A (f (.int i t) (.int j u)) Q E s):
  OpR X f (rI C λi j=>.int (g i j)):=by
 intro pj s σ H x y v u Q I rx ry h;obtain⟨i,j,rfl,rfl,hc,q⟩:=h;obtain⟨t,rfl⟩:=rx;obtain⟨t',rfl⟩:=ry;exact rule i j t t' s _ _ hc ⟨.int (g i j),H,I.tok _,⟨_,rfl⟩,q⟩
theorem opI0{f:Value->Value->Sem Value}{g:Int->Int->Int}
  (rule:∀(i j:Int)(t u:Tok)(s:Shared)(Q:Value->Shared->Prop)(E:Value->Shared->Prop),Q (.int (g i j) s.toks) { s with toks:=s.toks+1}->wpAny (model X.prog X.w) X.A (f (.int i t) (.int j u)) Q E s):
  OpR X f (rI0 λi j=>.int (g i j)):=by
 intro pj s σ H x y v u Q I rx ry h;obtain⟨i,j,rfl,rfl,q⟩:=h;obtain⟨t,rfl⟩:=rx;obtain⟨t',rfl⟩:=ry;exact rule i j t t' s _ _ ⟨.int (g i j),H,I.tok _,⟨_,rfl⟩,q⟩
theorem opB0{f:Value->Value->Sem Value}{g:Int->Int->Bool}
  (rule:∀(i j:Int)(t u:Tok)(s:Shared)(Q:Value->Shared->Prop)(E:Value->Shared->Prop),Q (.bool (g i j)) s->wpAny (model X.prog X.w) X.A (f (.int i t) (.int j u)) Q E s):
  OpR X f (rI0 λi j=>.bl (g i j)):=by
 intro pj s σ H x y v u Q I rx ry h;obtain⟨i,j,rfl,rfl,q⟩:=h;obtain⟨t,rfl⟩:=rx;obtain⟨t',rfl⟩:=ry;exact rule i j t t' s _ _ ⟨.bl (g i j),H,I,rfl,q⟩
def CPow(i j:Int):Prop:=0<=j/\j<=1000000/\i.natAbs<2^64
def CMul(i j:Int):Prop:=(-(2^64)<i/\i<2^64)\/(-(2^64)<j/\j<2^64)
theorem CMul.ok(h:CMul i j):IntMulOk i j:=by
 rcases h with⟨h1,h2⟩|⟨h1,h2⟩
 ·exact .of_left (intBits_le_64 h1 h2)
 ·exact .of_right (intBits_le_64 h1 h2)
theorem op_add:OpR X (binaryOp .Add) (rI0 λi j=>.int (i+j)):=opI0 λ_ _ _ _ _ _ _ q=>add_int q
theorem op_sub:OpR X (binaryOp .Sub) (rI0 λi j=>.int (i-j)):=opI0 λ_ _ _ _ _ _ _ q=>sub_int q
theorem op_mod:OpR X (binaryOp .Mod) (rI (λ_ j=>0<j) λi j=>.int (i%j)):=opI λi j _ _ _ _ _ hc q=>by
 have h1:(0:Int)<j:=hc;exact mod_int' qo (by rw[Int.fmod_eq_emod_of_nonneg i qo];exact q)
theorem op_pow:OpR X (binaryOp .Pow) (rI CPow λi j=>.int (i^j.toNat)):=opI λ_ _ _ _ _ _ _ hc q=>pow_int_small hc.1 hc.2.1 hc.2.2 q
theorem iop_add:OpR X (inplaceOp .Add) (rI0 λi j=>.int (i+j)):=opI0 λ_ _ _ _ _ _ _ q=>iadd_int q
theorem unI{f:Value->Sem Value}{g:Int->Int}
  (rule:∀(i:Int)(t:Tok)(s:Shared)(Q:Value->Shared->Prop)(E:Value->Shared->Prop),Q (.int (g i) s.toks) { s with toks:=s.toks+1}->wpAny (model X.prog X.w) X.A (f (.int i t)) Q E s):
  UnR X f (rU λi=>.int (g i)):=by
 intro pj s σ H x v Q I rx h;obtain⟨i,rfl,q⟩:=h;obtain⟨t,rfl⟩:=rx;exact rule i t s _ _ ⟨.int (g i),H,I.tok _,⟨_,rfl⟩,q⟩
theorem un_neg:UnR X (unaryOp .USub) (rU λi=>.int (-i)):=unI λ_ _ _ _ _ q=>neg_int q
end
noncomputable def scal:V->V->Bool
 | .non,.non=>true| .non,.int _=>true| .int _,.non=>true| .non,.bl _=>true| .bl _,.non=>true| .non,.str _=>true| .str _,.non=>true
 | .int _,.int _=>true| .bl _,.bl _=>true| .str _,.str _=>true| .byt _,.byt _=>true
 | .int _,.str _=>true| .str _,.int _=>true| .bl _,.str _=>true| .str _,.bl _=>true
 |_,_=>false
def rEq:R2:=λx y H Q=>scal x y=true/\Q (.bl (decide (x=y))) H
def rNe:R2:=λx y H Q=>scal x y=true/\Q (.bl (!decide (x=y))) H
theorem c4a:decide (V.int i=V.int j)=(i==j):=by
 rw[Wn]
 simp
theorem c6z:decide (V.bl i=V.bl j)=(i==j):=by
 rw[Wn]
 simp
theorem c4b:decide (V.str i=V.str j)=(i==j):=by
 rw[Wn]
 simp
theorem c4c:decide (V.byt i=V.byt j)=(i.toList==j.toList):=by
 rw[Wn];cases i;cases j
 simp
section
variable{X:Cx}{a b c:Expr}{ta tb tc:TE}{pos:Pos}
theorem a1l{pj:List (Addr×Obj)}{σ:St}{H:Hp}{s:Shared}{Q:VK}{k k':Bool}(I:Inv X pj σ H s)(q:Q (.bl k) H)(e:k=k'):EP X pj σ Q (.bool k') s:=by
 subst e;exact⟨.bl k,H,I,rfl,q⟩
theorem op_eq:OpR X (compareOp .Eq) rEq:=by
 intro pj s σ H x y v u Q I rx ry h;obtain⟨hs,q⟩:=h;cases x with
 |non=>
  cases rx;cases y with
  |non=>cases ry;exact PySem.EqNone.eq_none_none (a1l I q qz)
  |bl j=>cases ry;exact PySem.EqNone.eq_none_bool (a1l I q qz)
  |int j=>obtain⟨t',rfl⟩:=ry;exact PySem.EqNone.eq_none_int (a1l I q qz)
  |str j=>obtain⟨t',rfl⟩:=ry;exact PySem.EqNone.eq_none_str (a1l I q qz)
  |_=>exact absurd (show false=true from hs) Zr
 |bl i=>
  cases rx;cases y with
  |non=>cases ry;exact PySem.EqNone.eq_bool_none (a1l I q qz)
  |bl j=>cases ry;exact eq_bool (a1l I q c6z)
  |str j=>obtain⟨t',rfl⟩:=ry;exact PySem.EqMixed.eq_bool_str (a1l I q qz)
  |_=>exact absurd (show false=true from hs) Zr
 |int i=>
  obtain⟨t,rfl⟩:=rx;cases y with
  |non=>cases ry;exact PySem.EqNone.eq_int_none (a1l I q qz)
  |int j=>obtain⟨t',rfl⟩:=ry;exact eq_int (a1l I q c4a)
  |str j=>obtain⟨t',rfl⟩:=ry;exact PySem.EqMixed.eq_int_str (a1l I q qz)
  |_=>exact absurd (show false=true from hs) Zr
 |str i=>
  obtain⟨t,rfl⟩:=rx;cases y with
  |non=>cases ry;exact PySem.EqNone.eq_str_none (a1l I q qz)
  |bl j=>cases ry;exact PySem.EqMixed.eq_str_bool (a1l I q qz)
  |int j=>obtain⟨t',rfl⟩:=ry;exact PySem.EqMixed.eq_str_int (a1l I q qz)
  |str j=>obtain⟨t',rfl⟩:=ry;exact eq_str (a1l I q c4b)
  |_=>exact absurd (show false=true from hs) Zr
 |byt i=>
  obtain⟨t,rfl⟩:=rx;cases y with
  |byt j=>obtain⟨t',rfl⟩:=ry;exact W.eq_bytes (a1l I q c4c)
  |_=>exact absurd (show false=true from hs) Zr
 |_=>cases y<;>exact absurd (show false=true from hs) Zr
theorem op_ne:OpR X (compareOp .NotEq) rNe:=by
 intro pj s σ H x y v u Q I rx ry h;obtain⟨hs,q⟩:=h;cases x with
 |non=>
  cases rx;cases y with
  |non=>cases ry;exact PySem.EqNone.ne_none_none (a1l I q qz)
  |bl j=>cases ry;exact PySem.EqNone.ne_none_bool (a1l I q qz)
  |int j=>obtain⟨t',rfl⟩:=ry;exact PySem.EqNone.ne_none_int (a1l I q qz)
  |str j=>obtain⟨t',rfl⟩:=ry;exact PySem.EqNone.ne_none_str (a1l I q qz)
  |_=>exact absurd (show false=true from hs) Zr
 |bl i=>
  cases rx;cases y with
  |non=>cases ry;exact PySem.EqNone.ne_bool_none (a1l I q qz)
  |bl j=>cases ry;exact ne_bool (a1l I q (Xn not c6z))
  |str j=>obtain⟨t',rfl⟩:=ry;exact PySem.EqMixed.ne_bool_str (a1l I q qz)
  |_=>exact absurd (show false=true from hs) Zr
 |int i=>
  obtain⟨t,rfl⟩:=rx;cases y with
  |non=>cases ry;exact PySem.EqNone.ne_int_none (a1l I q qz)
  |int j=>obtain⟨t',rfl⟩:=ry;exact ne_int (a1l I q (Xn not c4a))
  |str j=>obtain⟨t',rfl⟩:=ry;exact PySem.EqMixed.ne_int_str (a1l I q qz)
  |_=>exact absurd (show false=true from hs) Zr
 |str i=>
  obtain⟨t,rfl⟩:=rx;cases y with
  |non=>cases ry;exact PySem.EqNone.ne_str_none (a1l I q qz)
  |bl j=>cases ry;exact PySem.EqMixed.ne_str_bool (a1l I q qz)
  |int j=>obtain⟨t',rfl⟩:=ry;exact PySem.EqMixed.ne_str_int (a1l I q qz)
  |str j=>obtain⟨t',rfl⟩:=ry;exact ne_str (a1l I q (Xn not c4b))
  |_=>exact absurd (show false=true from hs) Zr
 |byt i=>
  obtain⟨t,rfl⟩:=rx;cases y with
  |byt j=>obtain⟨t',rfl⟩:=ry;exact W.ne_bytes (a1l I q (Xn not c4c))
  |_=>exact absurd (show false=true from hs) Zr
 |_=>cases y<;>exact absurd (show false=true from hs) Zr
theorem op_lt:OpR X (compareOp .Lt) (rI0 λi j=>.bl (decide (i<j))):=opB0 λ_ _ _ _ _ _ _ q=>lt_int q
theorem op_le:OpR X (compareOp .LtE) (rI0 λi j=>.bl (decide (i<=j))):=opB0 λ_ _ _ _ _ _ _ q=>le_int q
theorem op_gt:OpR X (compareOp .Gt) (rI0 λi j=>.bl (decide (j<i))):=opB0 λ_ _ _ _ _ _ _ q=>gt_int q
theorem op_ge:OpR X (compareOp .GtE) (rI0 λi j=>.bl (decide (j<=i))):=opB0 λ_ _ _ _ _ _ _ q=>ge_int q
theorem c7a:OpR X (compareOp .In) (λx y H Q=>∃i j,x=.str i/\y=.str j/\Q (.bl (!(Builtin.Str.occurrences j i 0 j.length 1).isEmpty)) H):=by
 intro pj s σ H x y v u Q I rx ry h;obtain⟨i,j,rfl,rfl,q⟩:=h;obtain⟨t,rfl⟩:=rx;obtain⟨t',rfl⟩:=ry;exact in_str (a1l I q rfl)
theorem op_isN:OpR X (compareOp .Is) (λx y H Q=>y=.non/\Q (.bl (decide (x=.non))) H):=by
 intro pj s σ H x y v u Q I rx ry h;obtain⟨rfl,q⟩:=h;cases ry;refine is_none_gen (a1l I q ?_);cases x<;>first
  | (cases rx;rfl)
  | (obtain⟨t,rfl⟩:=rx;rfl)
theorem OpR.or(h:OpR X f r)(h':OpR X f r'):OpR X f (λx y H Q=>r x y H Q\/r' x y H Q):=by
 intro pj s σ H x y v u Q I rx ry q;rcases q with q|q
 ·exact h pj s σ H x y v u Q I rx ry q
 ·exact h' pj s σ H x y v u Q I rx ry q
theorem a0t(b:Expr)(h:op≠.In:=by decide)(h2:op≠.NotIn:=by decide):behindInMarks op b=false:=by
 have e1:(op==CmpOp.In)=false:=by cases op<;>first|rfl|exact absurd rfl h
 have e2:(op==CmpOp.NotIn)=false:=by cases op<;>first|rfl|exact absurd rfl h2
 cases b<;>simp[behindInMarks,e1,e2]
theorem a2a(ho:OpR X (compareOp op) r)(ha:PE X a ta)(hb:PE X b tb)(hm:behindInMarks op b=false):PE X (.Compare a [op] [b] pos) (tOp r ta tb):=by
 intro pj s σ H Q I h;exact wpAny_Compare1 (binT ha hb I h λv u s2 x y H2 I2 rx ry q=>ho pj s2 σ H2 x y v u Q I2 rx ry q) hm
def tTest(t:TE):TT:=λσ H Q=>t σ H λx H'=>∃k,x=.bl k/\Q k H'
theorem pt_cmpR(ho:OpR X (compareOp op) r)(ha:PE X a ta)(hb:PE X b tb)(hm:behindInMarks op b=false):PT X (.Compare a [op] [b] pos) (tTest (tOp r ta tb)):=by
 intro pj s σ H Q I h
 refine wpAny_isTrue_Compare1 (thn (ha pj s σ H _ I h) λv s1 ⟨x,H1,I1,r1,q1⟩=>thn (hb pj s1 σ H1 _ I1 q1) λu s2 ⟨y,H2,I2,r2,q2⟩=>
  thn (ho pj s2 σ H2 x y v u _ I2 r1 r2 q2) λc s3 ⟨z,H3,I3,r3,k,e,q3⟩=>?_) hm
 subst e;cases r3;exact Wa ⟨H3,I3,q3⟩
def c1d(r r':R2)(ta tb tc:TE):TE:=λσ H Q=>ta σ H λx H1=>tb σ H1 λy H2=>r x y H2 λz H3=>∃k,z=.bl k/\
 (if k=true then tc σ H3 λw' H4=>r' y w' H4 Q else Q (.bl false) H3)
theorem d1c(ho:OpR X (compareOp op) r)(ho':OpR X (compareOp op') r')(ha:PE X a ta)(hb:PE X b tb)(hc:PE X c tc)
  (hm:lastMarks [op,op'] [b,c]=false:=by with_unfolding_all rfl):PT X (.Compare a [op,op'] [b,c] pos) (tTest (c1d r r' ta tb tc)):=by
 intro pj s σ H Q I h
 refine isTrue_chain (thn (ha pj s σ H _ I h) λv s1 ⟨x,H1,I1,r1,q1⟩=>test_link (thn (hb pj s1 σ H1 _ I1 q1) λu s2 ⟨y,H2,I2,r2,q2⟩=>
  thn (ho pj s2 σ H2 x y v u _ I2 r1 r2 q2) λd s3 ⟨z,H3,I3,r3,k,e,q3⟩=>?_)) hm
 subst e;cases r3;refine Wa ?_;cases k with
 |false=>
  obtain⟨k',e',q'⟩:=q3;cases e';exact ite_ff ⟨H3,I3,q'⟩
 |true=>
  refine ite_tt (test_last (thn (hc pj s3 σ H3 _ I3 q3) λw' s4 ⟨z',H4,I4,r4,q4⟩=>thn (ho' pj s4 σ H4 y z' u w' _ I4 r2 r4 q4) λd' s5 z9=>?_));obtain⟨z2,H5,I5,r5,k2,e2,q5⟩:=z9;subst e2;cases r5;exact Wa ⟨H5,I5,q5⟩
def TruV(K:W.Frag)(x:V)(H:Hp)(k:Bool):Prop:=
 match x with
 | .non=>k=false
 | .bl b=>k=b
 | .int i=>k=(i !=0)
 | .str y=>y.length<=sizeLine/\k=((y.length:Int) !=0)
 | .byt y=>y.size<=sizeLine/\k=((y.size:Int) !=0)
 | .ref p=>(∃xs,SqL K H p xs/\k= !xs.isEmpty)\/(∃xs,SqT K H p xs/\k= !xs.isEmpty)\/∃kvs,H p=some (.dK kvs)/\k= !kvs.isEmpty
 |_=>False
theorem c5k{κ:Type}{kvs:List (κ×V)}{vs:List (κ×Value)}(r:KV kvs vs):(!vs.isEmpty)= !kvs.isEmpty:=by
 cases r<;>rfl
theorem b6f(r:Vals xs its):(!its.toArray.isEmpty)= !xs.isEmpty:=by
 cases r<;>simp
theorem b2j:(sizeLine:Nat)<2^63:=by rw[Y3];decide
theorem c7b:TruR X (λx H Q=>∃k,TruV X.K x H k/\Q k H):=by
 intro pj s σ H x v Q I rx h;obtain⟨k,e,q⟩:=h;have hl:=b2j;have hs:sizeLine=16777216:=Y3;cases x with
 |non=>
  cases rx;have e':k=false:=e;subst e';exact truthy_none ⟨H,I,q⟩
 |bl b=>
  cases rx;have e':k=b:=e;subst e';exact Wa ⟨H,I,q⟩
 |int i=>
  obtain⟨t,rfl⟩:=rx;have e':k=(i !=0):=e;subst e';exact PySem.P.truthy_int ⟨H,I,q⟩
 |str y=>
  obtain⟨t,rfl⟩:=rx;obtain⟨hy,e'⟩:y.length<=sizeLine/\k=((y.length:Int) !=0):=e;subst e';exact PySem.P.truthy_str qo ⟨H,I.tok _,q⟩
 |byt y=>
  obtain⟨t,rfl⟩:=rx;obtain⟨hy,e'⟩:y.size<=sizeLine/\k=((y.size:Int) !=0):=e;subst e';exact W.truthy_bytes qo ⟨H,I.tok _,q⟩
 |ref p=>
  cases rx;have e':(∃xs,SqL X.K H p xs/\k= !xs.isEmpty)\/(∃xs,SqT X.K H p xs/\k= !xs.isEmpty)\/∃kvs,H p=some (.dK kvs)/\k= !kvs.isEmpty:=e;rcases e' with⟨xs,hx,e'⟩|⟨xs,hx,e'⟩|⟨kvs,hx,e'⟩
  ·subst e';obtain⟨its,r,pl,hz⟩:=I.list hx;have hlen:=r.length;exact wpAny_truthy_list pl.isList (by simp only[Zm];omega) ⟨H,I.tok _,by rw[b6f r];exact q⟩
  ·subst e';obtain⟨its,r,pl,hz⟩:=I.tuple hx;have hlen:=r.length;exact truthy_tuple pl (by simp only[Zm];omega) ⟨H,I.tok _,by rw[b6f r];exact q⟩
  ·subst e';obtain⟨hz,hS,vs,r,m⟩:kvs.length<=sizeLine/\(p==sysModules)=false/\∃vs,KV kvs vs/\s.heap.DictOf (a1p X.prog X.w) p vs:=I.hok p _ hx;have hlen:kvs.length=vs.length:=Uy r;exact wpAny_truthy_dict hS m qo ⟨H,I.tok _,by rw[c5k r];exact q⟩
 |_=>exact(show False from e).elim
theorem c5l:OpR X (binaryOp .Add) (λx y H Q=>∃i j,x=.str i/\y=.str j/\i.length+j.length<=sizeLine/\Q (.str (i++j)) H):=by
 intro pj s σ H x y v u Q I rx ry h;obtain⟨i,j,rfl,rfl,hz,q⟩:=h;obtain⟨t,rfl⟩:=rx;obtain⟨t',rfl⟩:=ry;exact add_str (λt' tk=>⟨.str (i++j),H,I.tok _,⟨_,rfl⟩,q⟩) hz
theorem c3e:OpR X (inplaceOp .Add) (λx y H Q=>∃i j,x=.str i/\y=.str j/\i.length+j.length<=sizeLine/\Q (.str (i++j)) H):=by
 intro pj s σ H x y v u Q I rx ry h;obtain⟨i,j,rfl,rfl,hz,q⟩:=h;obtain⟨t,rfl⟩:=rx;obtain⟨t',rfl⟩:=ry;exact iadd_str (λt' tk=>⟨.str (i++j),H,I.tok _,⟨_,rfl⟩,q⟩) hz
theorem vals1(r:Vals [x] us):∃u,us=[u]/\RelV x u:=by
 cases r with
 |cons r1 r2=>cases r2;exact⟨_,rfl,r1⟩
theorem c0q(r:Vals [x,y] us):∃u w',us=[u,w']/\RelV x u/\RelV y w':=by
 cases r with
 |cons r1 r2=>
  cases r2 with
  |cons r3 r4=>cases r4;exact⟨_,_,rfl,r1,r3⟩
theorem c7c:a3r X (.type "int") (λxs H Q=>(∃i,xs=[.int i]/\Q (.int i) H)\/∃k,xs=[.bl k]/\Q (.int (if k then 1 else 0)) H):=by
 intro pj s σ H xs us Q I r h;rcases h with⟨i,rfl,q⟩|⟨k,rfl,q⟩
 ·obtain⟨u,rfl,t,rfl⟩:=vals1 r;exact call_int_int ⟨.int i,H,I,⟨_,rfl⟩,q⟩
 ·obtain⟨u,rfl,r1⟩:=vals1 r;cases r1;exact call_int_bool ⟨.int (if k then 1 else 0),H,I.tok _,⟨_,rfl⟩,q⟩
def LenV(K:W.Frag)(x:V)(H:Hp)(n:Nat):Prop:=
 match x with
 | .str y=>y.length<=sizeLine/\n=y.length
 | .byt y=>y.size<=sizeLine/\n=y.size
 | .ref p=>(∃xs,SqL K H p xs/\n=xs.length)\/∃xs,SqT K H p xs/\n=xs.length
 |_=>False
theorem d1d:a3r X (.builtin "len") (λxs H Q=>∃x n,xs=[x]/\LenV X.K x H n/\Q (.int n) H):=by
 intro pj s σ H xs us Q I r h;obtain⟨x,n,rfl,e,q⟩:=h;obtain⟨u,rfl,rx⟩:=vals1 r;have hl:=b2j;have hs:sizeLine=16777216:=Y3;cases x with
 |str y=>
  obtain⟨t,rfl⟩:=rx;obtain⟨hy,e'⟩:y.length<=sizeLine/\n=y.length:=e;subst e';exact len_str qo ⟨.int _,H,I.tok _,⟨_,rfl⟩,q⟩
 |byt y=>
  obtain⟨t,rfl⟩:=rx;obtain⟨hy,e'⟩:y.size<=sizeLine/\n=y.size:=e;subst e';exact W.len_bytes qo ⟨.int _,H,I.tok _,⟨_,rfl⟩,q⟩
 |ref p=>
  cases rx;have e':(∃xs,SqL X.K H p xs/\n=xs.length)\/∃xs,SqT X.K H p xs/\n=xs.length:=e;rcases e' with⟨xs,hx,e'⟩|⟨xs,hx,e'⟩
  ·subst e';obtain⟨its,r',pl,hz⟩:=I.list hx;have hlen:=r'.length;exact Calls.call_len_list pl.isList (by simp only[Zm];omega) ⟨.int xs.length,H,I.tok _,⟨_,by simp only[Zm];rw[hlen]⟩,q⟩
  ·subst e';obtain⟨its,r',pl,hz⟩:=I.tuple hx;have hlen:=r'.length;exact len_tuple pl (by simp only[Zm];omega) ⟨.int xs.length,H,I.tok _,⟨_,by simp only[Zm];rw[hlen]⟩,q⟩
 |_=>exact(show False from e).elim
end
structure ObjM(h:Heap)(x dx C:Addr)(mA:Str->Option Value):Prop where
 obj:h.get? x=some (W.instObj C dx)
 ns:h.Ns1 dx mA
 ne:dx≠x
theorem c7d{h:Heap}(n:h.Ns1 dx mA):∃od,h.get? dx=some od/\∀name,W.lookIn name od=some (mA name):=by
 obtain⟨o,es,ep,ho,hd,hk,_,hm⟩:=n;refine⟨o,ho,λname=>?_⟩;have e:=hm name;unfold nsFind findBy at e;rw[<-Array.find?_toList]at e;unfold W.lookIn;rw[hd]
 dsimp only
 split
 ·rename_i y q;rw[q]at e;exact Xn some e
 ·rename_i q;rw[q]at e;have a:es.toList.any (·.refKey)=false:=by
   rw[List.any_eq_false];intro y hy;obtain⟨z,t,hkey⟩:=hk y (Array.mem_toList_iff.mp hy)
   simp[DictEntry.refKey,hkey]
  have a':¬es.toList.any (·.refKey)=true:=by rw[a];exact Zr
  rw[if_neg a'];exact Xn some e
theorem ObjM.look(I:ObjM h x dx C mA):∃od,W.InstAt h x (W.instObj C dx) C (some od)/\∀name,W.lookIn name od=some (mA name):=
 let⟨od,ho,hl⟩:=c7d I.ns
 ⟨od,⟨I.obj,rfl,rfl,ho⟩,hl⟩
section
variable{prog:Program}{w:World}{A:Around}{E:Value->Shared->Prop}{s:Shared}{K:W.Frag}{x dx C f:Addr}{mA:Str->Option Value}{name:Str}{v:Value}
theorem get_map(X:K.In s.heap)(I:ObjM s.heap x dx C mA)(hg:W.plainGet K C name=true)(hh:W.hasDictIn K C=true)
  (ha:W.findIn K (.ref C) name=some none)(hv:mA name=some v)(hv':W.handedIn v=true)(h:Q v { s with toks:=s.toks+1}):
  wpAny (model prog w) A (getAttr (.ref x) name expr) Q E s:=by
 obtain⟨od,J,hl⟩:=I.look;exact W.get_value X J (Sz hg).1 (W.findObj_own hh ha rfl (by rw[hl,hv])) hv' h
theorem d1e(X:K.In s.heap)(I:ObjM s.heap x dx C mA)(hg:W.plainGet K C name=true)
  (hf:W.findIn K (.ref C) name=some (some (.ref f)))(ht:W.isFn K (.ref f)=true)(hv:mA name=none)(h:Q (.ref f,[.ref x]) s):
  wpAny (model prog w) A (getMethod (.ref x) name pl) Q E s:=by
 obtain⟨od,J,hl⟩:=I.look;exact W.method_fn X J (Sz hg).1 (Sz hg).2 hf (U6.mp ht) (by show(W.lookIn name od).map (·.isSome)=some false;rw[hl,hv];rfl) h
theorem set_map(X:K.In s.heap)(I:ObjM s.heap x dx C mA)
  (hs:W.findIn K (.ref C) "__setattr__"=some (some (.builtin "object.__setattr__")))(hp:W.plainOver K C=true)(ht:W.takerIn K C name=some none)(hh:W.hasDictIn K C=true)
  (hw:PySem.Within mA ns)(hsz:ns.length<=sizeLine)
  (h:∀h',ObjM h' x dx C (λy=>if y=name then some v else mA y)->Heap.SameBut dx s.heap h'->Q () { s with heap:=h',toks:=s.toks+2}):
  wpAny (model prog w) A (setAttr (.ref x) name v) Q E s:=by
 obtain⟨od,J,hl⟩:=I.look;refine W.set_plain X J hs (W.osa_open (s:={ s with toks:=s.toks+1}) (r:=none) X J hp ht λb=>?_);obtain⟨cd,hc,hd'⟩:=W.any_some hh;have hx:s.heap.get? x=some ⟨.ref C,some dx,.plain,#[]⟩:=I.obj;refine Zi (Zp (Zi (Zi (wpAny_loadPart hx (Zi (W.Looks.here (s:={ s with toks:=s.toks+1}) (W.looks_clsIn X hc) ?_))))));rw[hd'];refine Zp (a:=some dx) (Zi (Zp (Zi ?_)));refine S6 (s:={ s with toks:=s.toks+1}) I.ns λh' hn2 hs2=>?_
 obtain⟨oD,esD,epD,hoD,hdD,hcD⟩:=hn2.count (Ty name v hw);refine Zi (Sa hoD (by rw[hdD];exact Sb (Yn hcD (by rw[length_cons];omega))) ?_);exact Zp (h _ ⟨(hs2.2 _ (Ne.symm I.ne)).trans I.obj,hn2,I.ne⟩ hs2)
theorem d1f(X:K.In s.heap)(hm:W.makesIn K C=true)
  (hi:W.findIn K (.ref C) "__init__"=some (some (.ref f)))(hf:W.typeIn K (.ref f)=some (.type "function"))
  (h:codeAny (model prog w) (A.under (.builtin "type.__call__" ⟨.ref C::vs,kw⟩)) (.call (.ref f) ⟨.ref (s.heap.objs.size+1)::vs,kw⟩) (W.InitBack (s.heap.objs.size+1) R)
   { s with heap:=(s.heap.push W.emptyDict).push (W.instObj C s.heap.objs.size)}):
  codeAny (model prog w) A (.call (.ref C) ⟨vs,kw⟩) R s:=by
 obtain⟨hh,g,d,t,os⟩:=s;exact W.make_core (W.makes_of X hm) (W.looks_findIn X hi) (λself=>W.bind_fn X self hf) (.inl rfl) h
end
noncomputable def putF(f:Str)(v:V):List (Str×V)->List (Str×V)
 | []=>[(f,v)]
 | (g,x)::r=>if g=f then(g,v)::r else(g,x)::putF f v r
theorem a9q(f g:Str)(v:V):∀fs:List (Str×V),(putF f v fs).lookup g=if g=f then some v else fs.lookup g
 | []=>by
  show List.lookup g [(f,v)]=_
  by_cases h:g=f
  ·have hb:(g==f)=true:=U6.mpr h;simp only[List.lookup,hb,if_pos h]
  ·have hb:(g==f)=false:=Xs.mpr h;simp only[List.lookup,hb,if_neg h]
 | (k,x)::r=>by
  have ih:=a9q f g v r;rw[show putF f v ((k,x)::r)=(if k=f then(k,v)::r else(k,x)::putF f v r)from rfl]
  by_cases hk:k=f
  ·rw[if_pos hk]
   by_cases h:g=k
   ·have hb:(g==k)=true:=U6.mpr h;simp only[List.lookup,hb,if_pos (h.trans hk)]
   ·have hb:(g==k)=false:=Xs.mpr h;simp only[List.lookup,hb,if_neg (λe:g=f=>h (e.trans hk.symm))]
  ·rw[if_neg hk]
   by_cases h:g=k
   ·have hb:(g==k)=true:=U6.mpr h;simp only[List.lookup,hb,if_neg (λe:g=f=>hk (h.symm.trans e))]
   ·have hb:(g==k)=false:=Xs.mpr h;simp only[List.lookup,hb];exact ih
theorem b2k(f:Str)(v:V):∀fs:List (Str×V),f∈(putF f v fs).map (·.1)/\∀g,g∈fs.map (·.1)->g∈(putF f v fs).map (·.1)
 | []=>⟨by simp[putF],λg h=>by simp at h⟩
 | (k,x)::r=>by
  obtain⟨i1,i2⟩:=b2k f v r;rw[show putF f v ((k,x)::r)=(if k=f then(k,v)::r else(k,x)::putF f v r)from rfl]
  by_cases hk:k=f
  ·rw[if_pos hk];subst hk;exact⟨qz,λg h=>by simpa using h⟩
  ·rw[if_neg hk];refine⟨?_,λg h=>?_⟩
   ·rw[Z5];exact Zx _ i1
   ·rw[Z5]at h ⊢;rcases Zu.mp h with e|e
    ·exact Zu.mpr (.inl e)
    ·exact Zx _ (i2 g e)
theorem b4n(f:Str)(v:V):∀fs:List (Str×V),(putF f v fs).length<=fs.length+1
 | []=>by simp[putF]
 | (k,x)::r=>by
  have ih:=b4n f v r;rw[show putF f v ((k,x)::r)=(if k=f then(k,v)::r else(k,x)::putF f v r)from rfl]
  by_cases hk:k=f
  ·rw[if_pos hk,length_cons,length_cons];omega
  ·rw[if_neg hk,length_cons,length_cons];omega
theorem RelO.some_of(r:RelO (some v) o):∃u,o=some u/\RelV v u:=by
 cases o with
 |none=>exact(show False from r).elim
 |some u=>exact⟨u,rfl,r⟩
theorem RelO.none_of(r:RelO none o):o=none:=by
 cases o with
 |none=>rfl
 |some u=>exact(show False from r).elim
theorem c7e(r:RelV v u):W.handedIn u=true:=by
 cases v with
 |non=>cases(show u=Value.none from r);rfl
 |bl b=>cases(show u=Value.bool b from r);rfl
 |int i=>obtain⟨t,e⟩:=(show ∃t,u=Value.int i t from r);cases e;rfl
 |str x=>obtain⟨t,e⟩:=(show ∃t,u=Value.str x t from r);cases e;rfl
 |byt b=>obtain⟨t,e⟩:=(show ∃t,u=Value.bytes b t from r);cases e;rfl
 |flt b=>obtain⟨t,e⟩:=(show ∃t,u=Value.float b t from r);cases e;rfl
 |ref a=>cases(show u=Value.ref a from r);rfl
 |ty n=>cases(show u=Value.type n from r);rfl
section
variable{P:Program}{w:World}{H H':Hp}{h h':Heap}{a C dx:Addr}{fs fs':List (Str×V)}
theorem b3v(hok:HOk P w H h)(e:H a=some (.ins C dx fs)):∃mA,ObjM h a dx C mA/\(∀f,RelO (fs.lookup f) (mA f))/\PySem.Within mA (fs.map (·.1))/\fs.length<=1000/\H dx=some (.own a):=by
 obtain⟨d,z,ne,ob,mA,n,r,q⟩:=(show a1r P w H h a (.ins C dx fs)from hok a _ e);exact⟨mA,⟨ob,n,ne⟩,r,q,z,d⟩
end
structure Cls(K:W.Frag)(C:Addr):Prop where
 pg:W.plainGet K C Str.empty=true
 hd:W.hasDictIn K C=true
 po:W.plainOver K C=true
 sa:W.findIn K (.ref C) "__setattr__"=some (some (.builtin "object.__setattr__"))
theorem Cls.get{K:FG}{C:Addr}(c:Cls K C)(f:Str):W.plainGet K C f=true:=c.pg
def a0x(K:W.Frag)(C:Addr)(f:Str):Prop:=W.findIn K (.ref C) f=some none
theorem a0x.taker{K:FG}{C:Addr}{f:Str}(n:a0x K C f):W.takerIn K C f=some none:=by
 unfold W.takerIn;rw[show W.findIn K (.ref C) f=some none from n];rfl
structure Meth(K:W.Frag)(C:Addr)(m:Str)(f:Addr):Prop where
 at_:W.findIn K (.ref C) m=some (some (.ref f))
 fn:W.isFn K (.ref f)=true
 kp:W.keepIn K (.ref f)=true
section
variable{X:Cx}{pj:List (Addr×Obj)}{σ:St}{H:Hp}{s:Shared}{a C dx:Addr}{fs:List (Str×V)}{f:Str}{v:V}{A:Around}{E:Value->Shared->Prop}
theorem b6g(I:Inv X pj σ H s)(e:H a=some (.ins C dx fs))(c:Cls X.K C)(n:a0x X.K C f)(l:fs.lookup f=some v)
  (h:∀u s',Inv X pj σ H s'->RelV v u->Q u s'):wpAny (model X.prog X.w) A (getAttr (.ref a) f b) Q E s:=by
 obtain⟨mA,O,r,_,_,_⟩:=b3v I.hok e;obtain⟨u,hu,ru⟩:=RelO.some_of (v:=v) (o:=mA f) (by rw[<-l];exact r f);exact get_map I.kIn O (c.get f) c.hd n hu (c7e ru) (h u _ (I.tok _) ru)
theorem b1d(I:Inv X pj σ H s)(e:H a=some (.ins C dx fs))(c:Cls X.K C)(k:Meth X.K C m g)(l:fs.lookup m=none)
  (h:Q (.ref g,[.ref a]) s):wpAny (model X.prog X.w) A (getMethod (.ref a) m pl) Q E s:=by
 obtain⟨mA,O,r,_,_,_⟩:=b3v I.hok e;have hn:mA m=none:=RelO.none_of (by rw[<-l];exact r m);exact d1e I.kIn O (c.get m) k.at_ k.fn hn h
theorem b6h(I:Inv X pj σ H s)(e:H a=some (.ins C dx fs))(c:Cls X.K C)(n:a0x X.K C f)(hl:fs.length<1000)(ry:RelV y u)
  (h:∀s',Inv X pj σ (upd H a (.ins C dx (putF f y fs))) s'->Q () s'):wpAny (model X.prog X.w) A (setAttr (.ref a) f u) Q E s:=by
 obtain⟨mA,O,r,wi,_,ho⟩:=b3v I.hok e;have hz:(fs.map (·.1)).length<=sizeLine:=by rw[length_map,Y3];omega
 refine set_map I.kIn O c.sa c.po n.taker c.hd wi hz λh' O' sb=>h _ ?_
 have hd:∃o,h'.get? dx=some o:=let⟨o,_,_,e',_⟩:=O'.ns;⟨o,e'⟩
 refine I.write (x:=a) (e:=dx) (by rw[e];exact True.intro) (.inr ho) (λb q hb z=>(sb.2 b hb).trans z) hd ?_;refine⟨by rw[a0f O.ne];exact ho,?_,O.ne,O'.obj,_,O'.ns,λg=>?_,λg hg=>?_⟩
 ·have:=b4n f y fs;omega
 ·show RelO ((putF f y fs).lookup g) (if g=f then some u else mA g)
  rw[a9q]
  by_cases q:g=f
  ·rw[if_pos q,if_pos q];exact ry
  ·rw[if_neg q,if_neg q];exact r g
 ·by_cases q:g=f
  ·rw[q];exact(b2k f y fs).1
  ·refine(b2k f y fs).2 g (wi g λz=>hg ?_)
   show(if g=f then some u else mA g)=none
   rw[if_neg q];exact z
theorem Inv.made(I:Inv X pj σ H s):Inv X pj σ (upd (upd H s.heap.objs.size (.own (s.heap.objs.size+1))) (s.heap.objs.size+1) (.ins C s.heap.objs.size []))
  { s with heap:=(s.heap.push W.emptyDict).push (W.instObj C s.heap.objs.size)}:=by
 have e1:(s.heap.push W.emptyDict).get? s.heap.objs.size=some W.emptyDict:=Zv s.heap rfl;have e2:((s.heap.push W.emptyDict).push (W.instObj C s.heap.objs.size)).get? (s.heap.objs.size+1)=some (W.instObj C s.heap.objs.size):=by
  have:=Zv (s.heap.push W.emptyDict) (o:=W.instObj C s.heap.objs.size) rfl;rwa[Y9]at this
 have e3:(s.heap.push W.emptyDict).Ns s.heap.objs.size (λ_=>none):=⟨W.emptyDict,#[],_,e1,rfl,(λe he=>absurd he qz),λ_=>rfl⟩;have I1:=I.laid (a:=s.heap.objs.size) (o:=.own (s.heap.objs.size+1)) (h':=s.heap.push W.emptyDict) (t':=s.toks) (λb u q=>Zk _ q) (Zn _) ⟨_,e1⟩;refine I1.laid (a:=s.heap.objs.size+1) (o:=.ins C s.heap.objs.size []) (t':=s.toks) (λb u q=>Zk _ q) (Nat.le_of_eq (Y9 _ _)) ?_;have ne:s.heap.objs.size≠s.heap.objs.size+1:=Z1 (U2 _);refine⟨by rw[a0f ne,a0c],Z0 _,ne,e2,λ_=>none,(Heap.Ns1.of_empty e3).at λo q=>Zk _ q,λ_=>True.intro,λy hy=>absurd rfl hy⟩
theorem attr_of(hb:attributeBase e f env (eval e env)=eval e env)
  (h:wpAny (model prog w) A (eval e env) (λo s₁=>wpAny (model prog w) A (getAttr o f true) Q E s₁) E s):wpAny (model prog w) A (eval (.Attribute e f pos) env) Q E s:=
 Attribute_any_ h (by rw[arm_eval_Attribute,hb])
end
def tFld(K:W.Frag)(ta:TE)(f:Str):TE:=λσ H Q=>ta σ H λx H1=>∃a C dx fs v,x=.ref a/\H1 a=some (.ins C dx fs)/\Cls K C/\a0x K C f/\fs.lookup f=some v/\Q v H1
def sFld(K:W.Frag)(ta tv:TE)(f:Str):TS:=λD σ H=>tv σ H λy H1=>ta σ H1 λx H2=>∃a C dx fs,x=.ref a/\H2 a=some (.ins C dx fs)/\Cls K C/\a0x K C f/\fs.length<1000/\
 D.nx σ (upd H2 a (.ins C dx (putF f y fs)))
def InOp(X:Cx)(op:Operator)(rd:V->V->Hp->VK->Prop):Prop:=
 ∀(pj:List (Addr×Obj))(s:Shared)(σ:St)(H:Hp)(x y:V)(u v:Value)(Q:VK),Inv X pj σ H s->RelV x u->RelV y v->rd x y H Q->wpAny (model X.prog X.w) X.A (inplaceOp op u v) (EP X pj σ Q) X.xe s
def c4d(K:W.Frag)(ta tv:TE)(rd:V->V->Hp->VK->Prop)(f:Str):TS:=λD σ H=>ta σ H λx H1=>∃a C dx fs v,x=.ref a/\H1 a=some (.ins C dx fs)/\Cls K C/\a0x K C f/\fs.lookup f=some v/\
 tv σ H1 λy H2=>rd v y H2 λz H3=>∃dx' fs',H3 a=some (.ins C dx' fs')/\fs'.length<1000/\D.nx σ (upd H3 a (.ins C dx' (putF f z fs')))
section
variable{X:Cx}{o e value:Expr}{f:Str}{pos pos' tpos:Pos}{ta tv:TE}
theorem a0r(he:PE X e ta)(hb:attributeBase e f X.env (eval e X.env)=eval e X.env):PE X (.Attribute e f pos) (tFld X.K ta f):=by
 intro pj s σ H Q I h;refine attr_of hb (thn (he pj s σ H _ I h) λu s1 z9=>?_);obtain⟨x,H1,I1,rx,a,C,dx,fs,v,ex,ea,c,n,l,q⟩:=z9;subst ex;obtain rfl:u=Value.ref a:=rx;exact b6g I1 ea c n l λu' s2 I2 ru=>⟨v,H1,I2,ru,q⟩
theorem a1i(ha:PE X o ta)(hv:PE X value tv)(hs:swapsWith value (some (.Attribute o f pos')) pos.line X.env=pure false):PS X (.Assign [.Attribute o f pos'] value pos) (sFld X.K ta tv f):=by
 intro pj s σ H D I h;refine T7 (thn (hv pj s σ H _ I h) λu s1 ⟨y,H1,I1,ry,q⟩=>thn (ha pj s1 σ H1 _ I1 q) λov s2 ⟨x,H2,I2,rx,a,C,dx,fs,ex,ea,c,n,l,q2⟩=>?_) hs;subst ex;obtain rfl:ov=Value.ref a:=rx;exact b6h I2 ea c n l ry λs3 I3=>⟨σ,_,I3,q2⟩
theorem b2l(ha:PE X o ta)(hv:PE X value tv)(hop:InOp X op rd):PS X (.AugAssign (.Attribute o f tpos) op value pos) (c4d X.K ta tv rd f):=by
 intro pj s σ H D I h;refine wpAny_AugAssign_AttributeAny (thn (ha pj s σ H _ I h) λov s1 z9=>?_);obtain⟨x,H1,I1,rx,a,C,dx,fs,v,ex,ea,c,n,l,q⟩:=z9;subst ex;obtain rfl:ov=Value.ref a:=rx;refine b6g I1 ea c n l λu s2 I2 ru=>thn (hv pj s2 σ H1 _ I2 q) λw3 s3 ⟨y,H2,I3,ry,q3⟩=>thn (hop pj s3 σ H2 v y u w3 _ I3 ru ry q3) λw4 s4 z9=>?_
 obtain⟨z,H3,I4,rz,dx',fs',ea',l',q4⟩:=z9;exact b6h I4 ea' c n l' rz λs5 I5=>⟨σ,_,I5,q4⟩
end
section
variable{X:Cx}{pj:List (Addr×Obj)}{σ:St}{H:Hp}{s:Shared}{A:Around}{E:Value->Shared->Prop}{Q:Value->Shared->Prop}{c:Value}{b:Bool}
inductive TyOf(K:W.Frag)(H:Hp):V->Value->Prop where
 |non:TyOf K H .non (.type "NoneType")
 |bl (x:Bool):TyOf K H (.bl x) (.type "bool")
 |int (i:Int):TyOf K H (.int i) (.type "int")
 |str (x:Str):TyOf K H (.str x) (.type "str")
 |flt (x:UInt64):TyOf K H (.flt x) (.type "float")
 |lst {a:Addr} {xs:List V} (e:H a=some (.lst xs)):TyOf K H (.ref a) (.type "list")
 |frz {a:Addr} {o:Obj} {xs:List V} (e:H a=some (.frz o (.lst xs))):TyOf K H (.ref a) (.type "list")
 |tup {a:Addr} {xs:List V} (e:H a=some (.tup xs)):TyOf K H (.ref a) (.type "tuple")
 |dK {a:Addr} {kvs:List (Key×V)} (e:H a=some (.dK kvs)):TyOf K H (.ref a) (.type "dict")
 |dT {a:Addr} {kvs:List (List Key×V)} (e:H a=some (.dT kvs)):TyOf K H (.ref a) (.type "dict")
 |ins {a C dx:Addr} {fs:List (Str×V)} (e:H a=some (.ins C dx fs)) (cl:Cls K C) (ha:W.findIn K (.ref C) "__class__"=some (some (.builtin "object.__class__")))
   (hn:W.specialIn K (.builtin "object.__class__") "__get__"=some (some (.builtin "getset_descriptor.__get__"))) (htk:W.takesIn K (.builtin "object.__class__")=some true)
   (hm:W.mroIn K C (.type "object")=some true):TyOf K H (.ref a) (.ref C)
theorem a7h(I:Inv X pj σ H s)(rx:RelV x u)(ty:TyOf X.K H x t)(e:W.kitOne X.K t c=some b)(h:∀tk,Q (.bool b) { s with toks:=tk}):
  wpAny (model X.prog X.w) A (call (.builtin "isinstance") [u,c]) Q E s:=by
 cases ty with
 |non=>cases(show u=Value.none from rx);exact W1 W.kitx_none I.kIn True.intro e (λz=>nomatch z) h
 |bl y=>cases(show u=Value.bool y from rx);exact W1 W.kitx_bool I.kIn True.intro e (λz=>nomatch z) h
 |int i=>obtain⟨t,q⟩:=(show ∃t,u=Value.int i t from rx);cases q;exact W1 W.kitx_int I.kIn True.intro e (λz=>nomatch z) h
 |str y=>obtain⟨t,q⟩:=(show ∃t,u=Value.str y t from rx);cases q;exact W1 W.kitx_str I.kIn True.intro e (λz=>nomatch z) h
 |flt y=>obtain⟨t,q⟩:=(show ∃t,u=Value.float y t from rx);cases q;exact W1 W.kitx_float I.kIn True.intro e (λz=>nomatch z) h
 | @lst a xs ea=>
  cases(show u=Value.ref a from rx)
  obtain⟨_,_,n,_,h1⟩:=(show a1r X.prog X.w H s.heap a (.lst xs)from I.hok a _ ea);exact W1 Ru I.kIn ⟨_,h1,rfl⟩ e (λz=>nomatch z) h
 | @frz a ob xs ea=>
  cases(show u=Value.ref a from rx)
  obtain⟨_,_,_,n,_,h1⟩:=(show a1r X.prog X.w H s.heap a (.frz ob (.lst xs))from I.hok a _ ea);exact W1 Ru I.kIn ⟨_,h1,rfl⟩ e (λz=>nomatch z) h
 | @tup a xs ea=>
  cases(show u=Value.ref a from rx)
  obtain⟨_,_,_,p⟩:=(show a1r X.prog X.w H s.heap a (.tup xs)from I.hok a _ ea);obtain⟨o,h1,h2,_⟩:=p;exact W1 W.kitx_tuple I.kIn ⟨o,h1,h2⟩ e (λz=>nomatch z) h
 | @dK a kvs ea=>
  cases(show u=Value.ref a from rx)
  obtain⟨_,_,vs,_,p⟩:=(show a1r X.prog X.w H s.heap a (.dK kvs)from I.hok a _ ea);obtain⟨o,es,ep,h1,h2,_⟩:=p;exact W1 W.kitx_dict I.kIn ⟨o,h1,h2.1⟩ e (λz=>nomatch z) h
 | @dT a kvs ea=>
  cases(show u=Value.ref a from rx)
  obtain⟨_,_,xs,_,o,es,ep,h1,h2,_⟩:=(show a1r X.prog X.w H s.heap a (.dT kvs)from I.hok a _ ea);exact W1 W.kitx_dict I.kIn ⟨o,h1,h2.1⟩ e (λz=>nomatch z) h
 | @ins a C dx fs ea cl ha hn htk hm=>
  cases(show u=Value.ref a from rx)
  obtain⟨mA,O,_⟩:=b3v I.hok ea;obtain⟨od,J,_⟩:=O.look;exact W1 (W.kitx_own (cl.get _) cl.hd ha hn htk hm) I.kIn J e (λz=>nomatch z) h
end
structure Room(k:Nat)(A:Around):Prop where
 hd:A.handled=none
 dp:A.depth+3*k+5<recursionLimit
 un:A.units+16*k+200<cLine
 gd:A.guards=some []
theorem Room.mono(r:Room k A)(h:j<=k):Room j A:=⟨r.hd,by have:=r.dp;omega,by have:=r.un;omega,r.gd⟩
theorem Room.o(r:Room k A)(h:j<=k:=by first|decide|exact Nat.le_refl _|exact Nat.le_add_left_of_le qd|omega):Room j A:=r.mono h
theorem Room.deeper(r:Room (k+1) A)(env:Env):Room k (A.deeper env):=
 ⟨r.hd,by have:=r.dp;show A.depth+1+3*k+5<_;omega,by have:=r.un;show A.units+3+16*k+200<_;omega,r.gd⟩
theorem c5m{A:Around}:(A.under (.builtin "type.__call__" ⟨.ref C::us,kw⟩)).depth=A.depth+1:=by
 first|rfl|simp[Around.under,Code.weight,Code.isCreation,Code.isGuard,Code.isCaller,Code.frames,Code.isFrame,guardIds]
theorem c5n{A:Around}:(A.under (.builtin "type.__call__" ⟨.ref C::us,kw⟩)).units=A.units+1:=by
 first|rfl|simp[Around.under,Code.cUnits,Code.frames,Code.isFrame]
theorem c3f{A:Around}:(A.under (.builtin "type.__call__" ⟨.ref C::us,kw⟩)).guards=A.guards:=by
 first|rfl|simp[Around.under,Code.guards,Code.isGuard,guardIds,pushGuards]
theorem Room.make(r:Room (k+1) A)(C:Addr)(us:List Value)(kw:List (Str×Value)):Room k (A.under (.builtin "type.__call__" ⟨.ref C::us,kw⟩)):=
 ⟨r.hd,by have:=r.dp;rw[c5m];omega,by have:=r.un;rw[c5n];omega,c3f.trans r.gd⟩
theorem Room.depth(r:Room k A):A.depth<recursionLimit:=by have:=r.dp;omega
theorem Room.units(r:Room k A):A.units+64<cLine:=by have:=r.un;omega
def tNil:TA:=λ_ H Q=>Q [] H
def tCons(ta:TE)(tr:TA):TA:=λσ H Q=>ta σ H λx H1=>tr σ H1 λxs H2=>Q (x::xs) H2
section
variable{X:Cx}{e:Expr}{es:List Expr}{te:TE}{t:TA}{pos:Pos}
theorem a0b:PA X [] tNil:=λ_ _ _ _ H Q I h=>Vx ⟨[],H,I,.nil,h⟩
theorem pa_cons(ha:PE X e te)(hr:PA X es t)(hs:starEach (e::es) X.env=(false,eval e X.env)::starEach es X.env:=by rfl):PA X (e::es) (tCons te t):=by
 intro pos pj s σ H Q I h;rw[hs]
 show wpAny _ _ (spliced ((false,eval e X.env)::backTo pos (starEach es X.env))) _ _ s
 refine Vp (thn (ha pj s σ H _ I h) λu s1 z9=>?_);obtain⟨x,H1,I1,r1,q1⟩:=z9;exact thn (hr pos pj s1 σ H1 _ I1 q1) λus s2 ⟨xs,H2,I2,r2,q2⟩=>⟨x::xs,H2,I2,.cons r1 r2,q2⟩
def tTup(t:TA):TE:=λσ H Q=>t σ H λxs H1=>xs.length<=sizeLine/\∀p,H1 p=none->Q (.ref p) (upd H1 p (.tup xs))
def tLst(t:TA):TE:=λσ H Q=>t σ H λxs H1=>xs.length<=sizeLine/\∀p,H1 p=none->Q (.ref p) (upd H1 p (.lst xs))
theorem a0s{x1}(h:PA X es t):PE X (.Tuple es x1 pos) (tTup t):=by
 intro pj s σ H Q I hq;refine wpAny_Tuple_spliced (thn (h pos pj s σ H _ I hq) λus s1 ⟨xs,H1,I1,r,z,q⟩=>⟨by rw[<-r.length];exact z,?_⟩);have hf:H1 s1.heap.objs.size=none:=I1.hok.fresh (Zn _);refine⟨.ref s1.heap.objs.size,upd H1 s1.heap.objs.size (.tup xs),I1.laid (t':=s1.toks) (λb u e=>Zk _ e) (Zn _) ?_,rfl,q _ hf⟩;exact⟨z,us,r,⟨_,Zv _ rfl,rfl,_,rfl⟩⟩
theorem a1e(h:PA X es t):PE X (.List es pos) (tLst t):=by
 intro pj s σ H Q I hq;refine wpAny_List_spliced (thn (h pos pj s σ H _ I hq) λus s1 ⟨xs,H1,I1,r,z,q⟩=>⟨by rw[<-r.length];exact z,?_⟩);have hf:H1 s1.heap.objs.size=none:=I1.hok.fresh (Zn _);refine⟨.ref s1.heap.objs.size,upd H1 s1.heap.objs.size (.lst xs),I1.laid (t':=s1.toks) (λb u e=>Zk _ e) (Zn _) ?_,rfl,q _ hf⟩;exact⟨z,us,0,r,Zv _ rfl⟩
end
abbrev Sp:=List V->Hp->VK->XK->Prop
abbrev CXT:=List Env->Hp->Shared->XK->Value->Shared->Prop
structure Env0(P:Program)(w:World)(K:W.Frag)(mg:Str->Option Value)(base:Heap)(A:Around)(outer:List Env)(s:Shared)(H:Hp):Prop where
 frames:A.frames=some outer
 mod:Mod K mg base
 bs:∀b o,base.get? b=some o->s.heap.get? b=some o/\H b=none
 bsz:base.objs.size<=s.heap.objs.size
 funs:s.heap.FunFrames base outer
 frf:∀b∈frs outer,H b=none
 hok:HOk P w H s.heap
 bare:AllBare s.gens
def CE(outer:List Env)(P:Program)(w:World)(H:Hp)(s:Shared)(Q:VK)(u:Value)(s':Shared):Prop:=
 ∃v H',s'.os=s.os/\AllBare s'.gens/\Un (frs outer) [] H H' s.heap s'.heap/\HOk P w H' s'.heap/\RelV v u/\Q v H'
def CR(CX:CXT)(outer:List Env)(P:Program)(w:World)(H:Hp)(s:Shared)(Q:VK)(E:XK)(r:Result)(s':Shared):Prop:=
 match r with
 | .ok (.ret u)=>CE outer P w H s Q u s'
 | .ok _=>False
 | .error e=>CX outer H s E e s'
structure FnOk(P:Program)(w:World)(K:W.Frag)(mg:Str->Option Value)(base:Heap)(CX:CXT)(k:Nat)(f:Addr)(fd:FuncData)(ps:List Str)(sp:Sp):Prop where
 len:∀vs H Q E,sp vs H Q E->vs.length=ps.length
 run:∀(A:Around)(outer:List Env)(s:Shared)(H:Hp)(args:Args)(us:List Value)(vs:List V)(Q:VK)(E:XK),Room k A->Env0 P w K mg base A outer s H->BindsTo s fd args (ps.zip us)->Vals vs us->sp vs H Q E->
  codeAny (model P w) A (.call (.ref f) args) (CR CX outer P w H s Q E) s
theorem Env0.make{P:Program}{w:World}{K:FG}{mg:Str->Option Value}{base:Heap}{A:Around}{outer:List Env}{s:Shared}{H:Hp}(e:Env0 P w K mg base A outer s H)(C:Addr)(us:List Value)(kw:List (Str×Value)):
  Env0 P w K mg base (A.under (.builtin "type.__call__" ⟨.ref C::us,kw⟩)) outer s H:=⟨by first|exact e.frames| (simpa[Around.under,Code.envs,Code.isFrame,pushEnvs]using e.frames),e.mod,e.bs,e.bsz,e.funs,e.frf,e.hok,e.bare⟩
section
variable{X:Cx}{pj:List (Addr×Obj)}{σ:St}{H:Hp}{s s':Shared}
theorem Inv.env0(I:Inv X pj σ H s):Env0 X.prog X.w X.K X.mg X.base X.A X.stack s H:=
 ⟨I.ok.frames,I.ok.mod,I.bs,Yn I.ok.bsz I.sz,I.stack,I.stkFree,I.hok,I.bare⟩
theorem Inv.after(I:Inv X pj σ H s)(h:CE X.stack X.prog X.w H s Q u s'):EP X pj σ Q u s':=by
 obtain⟨v,H',os,bare,un,hok,r,q⟩:=h;obtain⟨hh,g,d,t,os'⟩:=s';obtain rfl:os'=s.os:=os;exact⟨v,H',I.call (h':=hh) (g':=g) (d':=d) (t':=t) (ch:=[]) un hok bare (λb z=>absurd z qz),r,q⟩
end
def tCall(sp:Sp)(dvs:List V)(E:XK)(t:TA):TE:=λσ H Q=>t σ H λvs H1=>sp (vs++dvs) H1 Q E
def tMeth(C:Addr)(m:Str)(sp:Sp)(dvs:List V)(E:XK)(ta:TE)(t:TA):TE:=λσ H Q=>ta σ H λx H1=>∃a dx fs,x=.ref a/\H1 a=some (.ins C dx fs)/\fs.lookup m=none/\
 t σ H1 λvs H2=>sp (x::(vs++dvs)) H2 Q E
def tMake(C:Addr)(sp:Sp)(dvs:List V)(E:XK)(t:TA):TE:=λσ H Q=>t σ H λvs H1=>∀x dx,H1 x=none->H1 dx=none->dx≠x->
 sp (.ref x::(vs++dvs)) (upd (upd H1 dx (.own x)) x (.ins C dx [])) (λv H2=>v=.non/\Q (.ref x) H2) E
def Binds(K:W.Frag)(fd:FuncData)(ps:List Str)(ds:List Value):Prop:=
 ∀(s:Shared)(us:List Value),K.In s.heap->(us++ds).length=ps.length->BindsTo s fd ⟨us,[]⟩ (ps.zip (us++ds))
theorem Binds.all{K:FG}{fd:FuncData}{ps:List Str}(h:∀us:List Value,us.length=ps.length->bindArgs fd ⟨us,[]⟩=pure (ps.zip us)):Binds K fd ps []:=λs us _ hl=>by
 rw[Yg]at hl ⊢;exact .of_eq (h us hl)
def a5j(CX:CXT)(X:Cx)(E:XK):Prop:=∀(pj:List (Addr×Obj))(σ:St)(H:Hp)(s:Shared)(e:Value)(s':Shared),Inv X pj σ H s->CX X.stack H s E e s'->X.xe e s'
section
variable{X:Cx}{CX:CXT}{k:Nat}{f C:Addr}{fd:FuncData}{ps:List Str}{sp:Sp}{dvs:List V}{ds:List Value}{E:XK}{x m:Str}{p pos apos:Pos}{e o:Expr}{es:List Expr}{ta:TE}{t:TA}
theorem c1e{pj:List (Addr×Obj)}{σ:St}{H:Hp}{s:Shared}{Q:VK}{us:List Value}{vs:List V}(F:FnOk X.prog X.w X.K X.mg X.base CX k f fd ps sp)(hr:Room k X.A)(hb:Binds X.K fd ps ds)(hd:Vals dvs ds)(hx:a5j CX X E)
  (I:Inv X pj σ H s)(r:Vals vs us)(h:sp (vs++dvs) H Q E):wpAny (model X.prog X.w) X.A (call (.ref f) us) (EP X pj σ Q) X.xe s:=by
 have r2:Vals (vs++dvs) (us++ds):=r.append hd;have hl:(us++ds).length=ps.length:=by rw[<-r2.length];exact F.len _ _ _ _ h
 refine Uf (Vt (F.run X.A X.stack s H ⟨us,[]⟩ (us++ds) (vs++dvs) Q E hr I.env0 (hb s us I.kIn hl) r2 h) λr s' hq=>?_);cases r with
 |error e=>exact hx pj σ H s e s' I hq
 |ok fl=>
  cases fl with
  |ret u=>exact I.after hq
  |next=>exact False.elim hq
  |brk=>exact False.elim hq
  |cont=>exact False.elim hq
theorem a0l(F:FnOk X.prog X.w X.K X.mg X.base CX k f fd ps sp)(hr:Room k X.A)(hg:Gl X x)(hm:X.mg x=some (.ref f))(hk:W.keepIn X.K (.ref f)=true)(hb:Binds X.K fd ps ds)(hd:Vals dvs ds)(hx:a5j CX X E)
  (ha:PA X (e::es) t)(hdb:(x==("__debug__":Str))=false:=by decide)(he:starEach (e::es) X.env=(false,eval e X.env)::starEach es X.env:=by rfl)(hpl:(backTo pos (starEach es X.env)).any (·.1)=false:=by rfl):
  PE X (.Call (.Name x p) (e::es) [] pos) (tCall sp dvs E t):=by
 intro pj s σ H Q I h;refine W3 (a6p I hg hm ?_ hdb);refine Ud (h₀:=X.base) I.ok.mod.kin hk (thn (ha pos pj s σ H _ I h) λus s1 ⟨vs,H1,I1,r,q⟩=>⟨I1.kIn,?_⟩) he hpl;exact c1e F hr hb hd hx I1 r q
theorem a2s{pl:Sem Bool}(he:PE X o ta)(c:Cls X.K C)(hm:Meth X.K C m f)(F:FnOk X.prog X.w X.K X.mg X.base CX k f fd ps sp)(hr:Room k X.A)(hb:Binds X.K fd ps ds)(hd:Vals dvs ds)(hx:a5j CX X E)(ha:PA X (e::es) t)
  (hst:starEach (e::es) X.env=(false,eval e X.env)::starEach es X.env:=by rfl)(hpl:(backTo pos (starEach es X.env)).any (·.1)=false:=by rfl)
  (ht:eval (.Call (.Attribute o m apos) (e::es) [] pos) X.env=(do
   let ov <-eval o X.env
   standAt apos.atName
   let(f,first) <-holding [ov] (getMethod ov m pl)
   callWith pos f first (backTo pos (starEach (e::es) X.env)) (backToKw pos (keywordEach [] X.env))):=by rfl):
  PE X (.Call (.Attribute o m apos) (e::es) [] pos) (tMeth C m sp dvs E ta t):=by
 intro pj s σ H Q I h;refine Tc (pl:=pl) (thn (he pj s σ H _ I h) λu s1 ⟨x,H1,I1,rx,a,dx,fs,ex,ea,l,q⟩=>?_) ht;subst ex;obtain rfl:u=Value.ref a:=rx;refine b1d I1 ea c hm l ?_;refine Ud (first:=[.ref a]) (h₀:=X.base) I.ok.mod.kin hm.kp (thn (ha pos pj s1 σ H1 _ I1 q) λus s2 ⟨vs,H2,I2,r,q2⟩=>⟨I2.kIn,?_⟩) hst hpl;exact c1e (us:=.ref a::us) (vs:=.ref a::vs) F hr hb hd hx I2 (.cons rfl r) q2
theorem a8k{pl:Sem Bool}(he:PE X o ta)(c:Cls X.K C)(hm:Meth X.K C m f)(F:FnOk X.prog X.w X.K X.mg X.base CX k f fd ps sp)(hr:Room k X.A)(hb:Binds X.K fd ps ds)(hd:Vals dvs ds)(hx:a5j CX X E)
  (ht:eval (.Call (.Attribute o m apos) [] [] pos) X.env=(do
   let ov <-eval o X.env
   standAt apos.atName
   let(f,first) <-holding [ov] (getMethod ov m pl)
   callWith pos f first (backTo pos (starEach [] X.env)) (backToKw pos (keywordEach [] X.env))):=by rfl):
  PE X (.Call (.Attribute o m apos) [] [] pos) (tMeth C m sp dvs E ta tNil):=by
 intro pj s σ H Q I h;refine Tc (pl:=pl) (thn (he pj s σ H _ I h) λu s1 ⟨x,H1,I1,rx,a,dx,fs,ex,ea,l,q⟩=>?_) ht;subst ex;obtain rfl:u=Value.ref a:=rx;refine b1d I1 ea c hm l ?_;exact W.callWith_K0 (first:=[.ref a]) I1.kIn hm.kp (c1e (us:=[.ref a]) (vs:=[.ref a]) F hr hb hd hx I1 (.cons rfl .nil) q)
structure Mk(K:W.Frag)(C f:Addr):Prop where
 makes:W.makesIn K C=true
 init:W.findIn K (.ref C) "__init__"=some (some (.ref f))
 fn:W.isFn K (.ref f)=true
 kp:W.keepIn K (.ref C)=true
theorem d1g{pj:List (Addr×Obj)}{σ:St}{H:Hp}{s:Shared}{Q:VK}{us:List Value}{vs:List V}(M:Mk X.K C f)(F:FnOk X.prog X.w X.K X.mg X.base CX k f fd ps sp)(hr:Room (k+1) X.A)(hb:Binds X.K fd ps ds)(hd:Vals dvs ds)
  (hx:a5j CX X E)(I:Inv X pj σ H s)(r:Vals vs us)
  (h:∀x dx,H x=none->H dx=none->dx≠x->sp (.ref x::(vs++dvs)) (upd (upd H dx (.own x)) x (.ins C dx [])) (λv H2=>v=.non/\Q (.ref x) H2) E):
  wpAny (model X.prog X.w) X.A (call (.ref C) us) (EP X pj σ Q) X.xe s:=by
 have hq:=h (s.heap.objs.size+1) s.heap.objs.size (I.hok.fresh (Ur _)) (I.hok.fresh (Zn _)) (Z1 (U2 _));have I2:=Inv.made (C:=C) I;have r2:Vals (V.ref (s.heap.objs.size+1)::(vs++dvs)) (Value.ref (s.heap.objs.size+1)::(us++ds)):=.cons rfl (r.append hd);have hl:(Value.ref (s.heap.objs.size+1)::us++ds).length=ps.length:=by
  have e:=r2.length;rw[F.len _ _ _ _ hq]at e;exact e.symm
 refine Uf (d1f (f:=f) I.kIn M.makes M.init (U6.mp M.fn) (Vt (F.run _ X.stack _ _ ⟨Value.ref (s.heap.objs.size+1)::us,[]⟩ (Value.ref (s.heap.objs.size+1)::(us++ds)) _ _ E (hr.make C us [])
  (I2.env0.make C us []) (hb _ (Value.ref (s.heap.objs.size+1)::us) I2.kIn hl) r2 hq) λr s' hq'=>?_))
 cases r with
 |error e=>exact hx pj σ _ _ e s' I2 hq'
 |ok fl=>
  cases fl with
  |ret u=>
   obtain⟨v,H',I3,rv,ev,q3⟩:=I2.after hq';subst ev;exact⟨rv,⟨V.ref (s.heap.objs.size+1),H',I3,rfl,q3⟩⟩
  |next=>exact False.elim hq'
  |brk=>exact False.elim hq'
  |cont=>exact False.elim hq'
theorem b0a(M:Mk X.K C f)(F:FnOk X.prog X.w X.K X.mg X.base CX k f fd ps sp)(hr:Room (k+1) X.A)(hg:Gl X x)(hm:X.mg x=some (.ref C))(hb:Binds X.K fd ps ds)(hd:Vals dvs ds)(hx:a5j CX X E)
  (ha:PA X (e::es) t)(hdb:(x==("__debug__":Str))=false:=by decide)(he:starEach (e::es) X.env=(false,eval e X.env)::starEach es X.env:=by rfl)(hpl:(backTo pos (starEach es X.env)).any (·.1)=false:=by rfl):
  PE X (.Call (.Name x p) (e::es) [] pos) (tMake C sp dvs E t):=by
 intro pj s σ H Q I h;refine W3 (a6p I hg hm ?_ hdb);refine Ud (h₀:=X.base) I.ok.mod.kin M.kp (thn (ha pos pj s σ H _ I h) λus s1 ⟨vs,H1,I1,r,q⟩=>⟨I1.kIn,?_⟩) he hpl;exact d1g M F hr hb hd hx I1 r q
end
structure a0q(N P:List Str)(sc:Scope):Prop where
 kind:sc.kind=.function
 co:sc.isCoroutine=false
 gen:sc.isGenerator=false
 nd:N.Nodup
 pre:N.take P.length=P
 par:∀x∈P,sc.names.lookup x=some .local\/sc.names.lookup x=some .cell
 nofree:∀y∈sc.names,y.2≠.free
theorem b9h{kindOf:Str->Option NameKind}:∀{binds:List (Str×Value)}{m:Str->Option Value},(∀v,(x,v)∉binds)->bindL kindOf binds m x=m x
 | [],_,_=>rfl
 | (n,v)::r,m,h=>by
  unfold bindL;rw[b9h λw hw=>h w (Zx _ hw)]
  split
  ·have:x≠n:=by rintro rfl;exact h v Yd
   simp[this]
  ·rfl
theorem b9i{kindOf:Str->Option NameKind}:∀{binds:List (Str×Value)}{m:Str->Option Value},(∀v,(x,v)∉binds)->bindC kindOf binds m x=m x
 | [],_,_=>rfl
 | (n,v)::r,m,h=>by
  unfold bindC;rw[b9i λw hw=>h w (Zx _ hw)]
  split
  ·rfl
  ·have:x≠n:=by rintro rfl;exact h v Yd
   simp[this]
theorem b9j{kindOf:Str->Option NameKind}:∀{P:List Str}{vs:List Value}{i:Nat}{m:Str->Option Value},P.Nodup->P[i]? =some x->vs[i]? =some v->kindOf x=some .local->
  bindL kindOf (P.zip vs) m x=some v
 | [],_,_,_,_,h,_,_=>by simp at h
 |_::_,[],_,_,_,_,h,_=>by simp at h
 |p::P,w::vs,0,m,nd,h1,h2,hk=>by
  simp at h1 h2;subst h1;subst h2
  show bindL kindOf ((p,w)::P.zip vs) m p=_
  unfold bindL;rw[b9h λv hv=>(Xv.mp nd).1 (Sk hv).1,if_pos hk]
  simp
 |p::P,w::vs,i+1,m,nd,h1,h2,hk=>by
  show bindL kindOf ((p,w)::P.zip vs) m x=_
  unfold bindL;exact b9j (i:=i) (Xv.mp nd).2 (by simpa using h1) (by simpa using h2) hk
theorem b9k{kindOf:Str->Option NameKind}:∀{P:List Str}{vs:List Value}{i:Nat}{m:Str->Option Value},P.Nodup->P[i]? =some x->vs[i]? =some v->kindOf x≠some .local->
  bindC kindOf (P.zip vs) m x=some v
 | [],_,_,_,_,h,_,_=>by simp at h
 |_::_,[],_,_,_,_,h,_=>by simp at h
 |p::P,w::vs,0,m,nd,h1,h2,hk=>by
  simp at h1 h2;subst h1;subst h2
  show bindC kindOf ((p,w)::P.zip vs) m p=_
  unfold bindC;rw[b9i λv hv=>(Xv.mp nd).1 (Sk hv).1,if_neg hk]
  simp
 |p::P,w::vs,i+1,m,nd,h1,h2,hk=>by
  show bindC kindOf ((p,w)::P.zip vs) m x=_
  unfold bindC;exact b9k (i:=i) (Xv.mp nd).2 (by simpa using h1) (by simpa using h2) hk
def start(N:List Str)(vs:List V):St:=vs.map some++List.replicate (N.length-vs.length) none
noncomputable def cxOf(CX:CXT)(P:Program)(w:World)(K:W.Frag)(mg:Str->Option Value)(base:Heap)(N:List Str)(qual:Str)(scope:Scope)(f:Addr)(cd:Value)(A:Around)(outer:List Env)(s:Shared)(H:Hp)(E:XK):Cx where
 prog:=P
 w:=w
 K:=K
 mg:=mg
 base:=base
 A:=A.deeper (envOfC qual scope s.heap.objs.size f cd)
 N:=N
 s₀:=s
 H₀:=H
 env:=envOfC qual scope s.heap.objs.size f cd
 outer:=outer
 stack:=envOfC qual scope s.heap.objs.size f cd::outer
 ex:=[]
 calm:=true
 fn:=λ_=>true
 pn:=[]
 xe:=λe s'=>wpAny (model P w) (A.deeper (envOfC qual scope s.heap.objs.size f cd)) (leaving (envOfC qual scope s.heap.objs.size f cd) e) (λ_ s''=>CX outer H s E e s'') (λe' s''=>CX outer H s E e' s'') s'
theorem c1f{sc:Scope}(h:sc.names.lookup x=some .cell):∃c,(cellsFrom n sc.names []).lookup x=some c:=by
 have q:=W.cellsFrom_some sc.names n [] (.inl h);exact S0.mp q
theorem c7g{CX:CXT}{P:Program}{w:World}{K:FG}{mg:Str->Option Value}{base:Heap}{N ps:List Str}{qual:Str}{scope:Scope}{f:Addr}{cd:Value}{A:Around}{outer:List Env}{s s1:Shared}{H:Hp}{E:XK}{us:List Value}{vs:List V}
  (S:a0q N ps scope)(hd:A.handled=none)(e0:Env0 P w K mg base A outer s H)(hl:vs.length=ps.length)(r:Vals vs us)
  (x:InCallC s s.heap.objs.size (bindL (envOfC qual scope s.heap.objs.size f cd).kindOf (ps.zip us) λ_=>none) (cellsFrom (s.heap.objs.size+1) scope.names []) (bindC (envOfC qual scope s.heap.objs.size f cd).kindOf (ps.zip us) λ_=>none) s1):
  Inv (cxOf CX P w K mg base N qual scope f cd A outer s H E) [] (start N vs) H s1:=by
 have hpl:ps.length<=N.length:=by have:=Xn List.length S.pre;rw[Z7]at this;omega
 obtain⟨h1,tk,rfl,hk⟩:=x.done;have noA:∀b:Addr,b∉(cxOf CX P w K mg base N qual scope f cd A outer s H E).ex:=λb z=>absurd (show b∈([]:List Addr)from z) qz
 refine⟨⟨e0.mod,S.kind,rfl,rfl,Zn _,λy z c h1 h2=>?_,λy hy=>?_,λy c _ h=>?_,λ_=>hd,Around.frames_deeper e0.frames,.inr ⟨rfl,rfl⟩,λb z=>absurd z (noA b),e0.bs,e0.bsz,λb _ _=>noA b,λb z=>absurd z (noA b),e0.funs,e0.frf⟩,
  rfl,e0.bare,Un.kept hk,⟨_,x.toInCall.ns,λi y v h1 h2 h3=>?_⟩,λy c h=>⟨_,x.cell y c h⟩,e0.hok.fresh (Zn _),λy c h=>?_,λp hp=>absurd (show p∈([]:List (Addr×Obj))from hp) qz,e0.hok.kept hk,?_⟩
 ·exact name_of_addr x.apart (Yp h1) (Yp h2)
 ·have hy:scope.names.lookup y=some .cell\/scope.names.lookup y=some .free:=hy;rcases hy with hy|hy
  ·exact c1f hy
  ·exact absurd rfl (S.nofree _ (Yp hy))
 ·exact S9 (x.above y c (Yp h))
 ·have hi:i<vs.length:=by
   unfold start at h2
   by_cases hi:i<vs.length
   ·exact hi
   ·rw[List.getElem?_append_right (by simpa using hi)]at h2;rw[List.getElem?_replicate]at h2;split at h2<;>cases h2
  have ha:vs[i]? =some v:=by
   unfold start at h2;rw[Sw (by simpa using hi),Yk]at h2;cases e:vs[i]? with
   |none=>rw[e]at h2;cases h2
   |some a=>rw[e]at h2;cases h2;rfl
  obtain⟨u,hu,rv⟩:=r.get ha;have hp:ps[i]? =some y:=by
   rw[<-S.pre,S2 qo];exact h1
  have ndP:ps.Nodup:=by rw[<-S.pre];exact S.nd.sublist (List.take_sublist _ _)
  refine⟨u,rv,?_⟩;rcases S.par y (Y4 hp)with k|k
  ·exact .inl ⟨k,b9j ndP hp hu k⟩
  ·obtain⟨c,e⟩:=c1f (n:=s.heap.objs.size+1) k;refine .inr ⟨.inl k,c,e,?_⟩;have q:=x.cell y c e;rw[b9k ndP hp hu (by show scope.names.lookup y≠_;rw[k];decide)]at q;exact q
 ·exact e0.hok.fresh (S9 (x.above y c (Yp h)))
 ·unfold start
  show _=N.length
  rw[Zl,length_map,Rj];omega
theorem fn_of{CX:CXT}{P:Program}{w:World}{K:FG}{mg:Str->Option Value}{base:Heap}{k:Nat}{f:Addr}{name qual:Str}{params:Arguments}{body:List Stmt}{scope:Scope}{dV kV doc pm cdv ct oc:Value}{an od:Option Addr}
  {osl:Array (Option Value)}{N ps:List Str}{sp:Sp}(lk:K.lookup f=some ⟨oc,od,.func (W.fnOf name qual params body scope dV kV doc pm an cdv ct),osl⟩)(hcd:W.codeIn K cdv qual=true)(S:a0q N ps scope)
  (len:∀vs H Q E,sp vs H Q E->vs.length=ps.length)
  (hbody:∀(A:Around)(outer:List Env)(s:Shared)(H:Hp)(vs:List V)(Q:VK)(E:XK),Room k (A.deeper (envOfC qual scope s.heap.objs.size f cdv))->sp vs H Q E->
   ∃t,PSs (cxOf CX P w K mg base N qual scope f cdv A outer s H E) body t/\t { nx:=λ_ H'=>Q .non H',rt:=Q} (start N vs) H):
  FnOk P w K mg base CX (k+1) f (W.fnOf name qual params body scope dV kV doc pm an cdv ct) ps sp:=by
 refine⟨len,λA outer s H args us vs Q E hr e0 hb r hsp=>?_⟩;have hl:=len _ _ _ _ hsp;have KX:K.In s.heap:=e0.mod.kin.keeps λb o e=>(e0.bs b o e).1
 have lim:s.heap.NoLimit:=e0.mod.nolimit.keeps λb o e=>(e0.bs b o e).1
 have hkind:∀y∈ps.zip us,scope.names.lookup y.1=some .local\/(scope.names.lookup y.1=some .cell/\((cellsFrom (s.heap.objs.size+1) scope.names []).lookup y.1).isSome=true):=λ⟨n,v⟩ hy=>by
  rcases S.par n (Sk hy).1 with q|q
  ·exact .inl q
  ·exact .inr ⟨q,W.cellsFrom_some _ _ _ (.inl q)⟩
 refine codeAny_call_function hr.depth (KX _ _ lk) rfl S.co S.gen rfl (W.codeRec_of KX hcd) (hb _ _ _ _ ?_);refine wpAny_newFunctionEnv_cells S.kind hkind λenv he s1 x=>?_
 subst he;refine⟨lim.keeps x.toInCall.keep,codeAny_func ?_⟩;obtain⟨t,ht,hq⟩:=hbody A outer s H vs Q E (hr.deeper _) hsp;have I:Inv (cxOf CX P w K mg base N qual scope f cdv A outer s H E) [] (start N vs) H s1:=c7g S hr.hd e0 hl r x;refine Wb (ht [] s1 (start N vs) H _ I hq) (λfl s' hs=>?_) λe s' hs=>hs
 have fin:∀{σ':St}{H':Hp}{v:V}{u:Value},Inv (cxOf CX P w K mg base N qual scope f cdv A outer s H E) [] σ' H' s'->RelV v u->Q v H'->CE outer P w H s Q u s':=
  λ{σ' H' v u} J rv q=>⟨v,H',J.os,J.bare,J.base,J.hok,rv,q⟩
 cases fl with
 |ret u=>
  obtain⟨v,σ',H',J,rv,q⟩:=hs;exact fin J rv q
 |next=>
  obtain⟨σ',H',J,q⟩:=hs;exact fin (v:=V.non) (u:=Value.none) J rfl q
 |brk=>
  obtain⟨_,_,_,q⟩:=hs;exact False.elim q
 |cont=>
  obtain⟨_,_,_,q⟩:=hs;exact False.elim q
section
variable{X:Cx}{x:Str}{p pos:Pos}{e:Expr}{es:List Expr}{t:TA}{id T:String}{r:List V->Hp->VK->Prop}
def tCB(r:List V->Hp->VK->Prop)(t:TA):TE:=λσ H Q=>t σ H λvs H1=>r vs H1 Q
theorem a1s(hc:a3r X (.builtin id) r)(hg:Gl X x)(hm:X.mg x=none)(hv:bootBuiltins x=some (.builtin id))(ha:PA X (e::es) t)(hn:x≠"__name__":=by decide)(hdb:(x==("__debug__":Str))=false:=by decide)
  (he:starEach (e::es) X.env=(false,eval e X.env)::starEach es X.env:=by rfl)(hpl:(backTo pos (starEach es X.env)).any (·.1)=false:=by rfl):PE X (.Call (.Name x p) (e::es) [] pos) (tCB r t):=by
 intro pj s σ H Q I h;refine W3 (a5z I hg hm hv ?_ hn hdb);exact PyProof.Rows.callWith_builtin1 (thn (ha pos pj s σ H _ I h) λus s1 ⟨vs,H1,I1,r1,q1⟩=>hc pj s1 σ H1 vs us Q I1 r1 q1) he hpl
theorem a1o(hc:a3r X (.type T) r)(hg:Gl X x)(hm:X.mg x=none)(hv:bootBuiltins x=some (.type T))(ha:PA X (e::es) t)(hn:x≠"__name__":=by decide)(hdb:(x==("__debug__":Str))=false:=by decide)
  (he:starEach (e::es) X.env=(false,eval e X.env)::starEach es X.env:=by rfl)(hpl:(backTo pos (starEach es X.env)).any (·.1)=false:=by rfl):PE X (.Call (.Name x p) (e::es) [] pos) (tCB r t):=by
 intro pj s σ H Q I h;refine W3 (a5z I hg hm hv ?_ hn hdb);exact Xj (thn (ha pos pj s σ H _ I h) λus s1 ⟨vs,H1,I1,r1,q1⟩=>hc pj s1 σ H1 vs us Q I1 r1 q1) he hpl
end
end L2
namespace HT
open PySem PyProof.Rows
section
open PySem.SeqAt
open PySem.AutoSeq1 (wpAny_loadPart')
open PySem.MeetsSeq PySem.MeetsSeq2 PySem.MeetsSeq3
end
section
variable{prog:Program}{w:World}{A:Around}{E:Value->Shared->Prop}{s:Shared}
theorem cat_tup{vs ws:List Value}(ht:IsTup s.heap t vs.toArray)(hb:IsTup s.heap b ws.toArray)(hv:vs≠[])
  (h1:ws=[]->Q (.ref t) s)(h2:ws≠[]->Q (.ref s.heap.objs.size) { s with heap:=s.heap.push { cls:=.type "tuple",data:=.seq (vs++ws).toArray}})
  (hsz:vs.length+ws.length<=sizeLine):wpAny (model prog w) A (binaryOp .Add (.ref t) (.ref b)) Q E s:=by
 obtain⟨⟨cls,dd,data,sl⟩,ho,hc,n,hd⟩:=id ht;obtain⟨⟨cls2,dd2,data2,sl2⟩,ho2,hc2,n2,hd2⟩:=id hb;simp only at hc hd hc2 hd2;subst hc hd hc2 hd2;have e:vs.toArray++ws.toArray=(vs++ws).toArray:=by simp
 by_cases hw:ws=[]
 ·exact concat_meets ⟨_,ho,rfl⟩ ⟨_,ho2,rfl⟩ noFill_tuple_add seq_tuple_add F.slot_tuple_add F.entry_tuple_add (Ql _ _)
   (tuple_addW1 t b vs.toArray ws.toArray n n2 dd dd2 sl sl2 (by simpa using hv) (by simp[hw])) ⟨ho,ho2,h1 hw⟩
 ·refine concat_meets ⟨_,ho,rfl⟩ ⟨_,ho2,rfl⟩ noFill_tuple_add seq_tuple_add F.slot_tuple_add F.entry_tuple_add (Ql _ _)
   (tuple_addW2 t b vs.toArray ws.toArray n n2 dd dd2 sl sl2 (by simpa using hv) (by simpa using hw) (by rw[Zm,Zm];exact hsz)) ⟨ho,ho2,?_⟩
  rw[e];exact h2 hw
def sIx(n d:Nat):Option Int->Nat
 |none=>d
 |some v=>if v<0 then(v+(n:Int)).toNat else min v.toNat n
end
end HT
namespace L2
open PySem PySem.Spec PyProof.Rows
abbrev TO:=St->Hp->(Option Int->Hp->Prop)->Prop
def PO(X:Cx)(e:Option Expr)(t:TO):Prop:=
 ∀(pj:List (Addr×Obj))(s:Shared)(σ:St)(H:Hp)(Q:Option Int->Hp->Prop),Inv X pj σ H s->t σ H Q->
  wpAny (model X.prog X.w) X.A (evalPart e X.env) (λu s'=>∃o H',Inv X pj σ H' s'/\IsPart u o/\Q o H') X.xe s
def c4e:TO:=λ_ H Q=>Q none H
def tPart(t:TE):TO:=λσ H Q=>t σ H λx H1=>∃i,x=.int i/\Q (some i) H1
section
variable{X:Cx}{e:Expr}{te:TE}{lo hi:Option Expr}{tl th:TO}{pos p2:Pos}
theorem a6q:PO X none c4e:=by
 intro pj s σ H Q I h;rw[evalPart_none];exact Zp ⟨none,H,I,.none,h⟩
theorem po_some(h:PE X e te):PO X (some e) (tPart te):=by
 intro pj s σ H Q I hw;rw[evalPart_some];refine thn (h pj s σ H _ I hw) λu s1 z9=>?_
 obtain⟨x,H1,I1,r1,q1⟩:=z9;obtain⟨i,rfl,q⟩:=q1;obtain⟨t,rfl⟩:=r1;exact⟨some i,H1,I1,.int i t,q⟩
def SlR(X:Cx)(r:V->Option Int->Option Int->Hp->VK->Prop):Prop:=
 ∀(pj:List (Addr×Obj))(s:Shared)(σ:St)(H:Hp)(x:V)(v vl vu:Value)(lo hi:Option Int)(sl:Addr)(Q:VK),Inv X pj σ H s->RelV x v->s.heap.IsSliceOf sl vl vu .none->IsPart vl lo->IsPart vu hi->r x lo hi H Q->
  ∃T id,typeLookup (.type T) "__getitem__"=pure (some (.builtin id))/\s.TypeIs v T/\wpAny (model X.prog X.w) X.A (getItem v (.ref sl)) (EP X pj σ Q) X.xe s
def tSl(r:V->Option Int->Option Int->Hp->VK->Prop)(te:TE)(tl th:TO):TE:=λσ H Q=>te σ H λx H1=>tl σ H1 λl H2=>th σ H2 λu H3=>r x l u H3 Q
theorem a5o(hr:SlR X r)(he:PE X e te)(hl:PO X lo tl)(hu:PO X hi th):PE X (.Subscript e (.Slice lo hi none p2) pos) (tSl r te tl th):=by
 intro pj s σ H Q I h;refine Qf (thn (he pj s σ H _ I h) λv s1 z9=>?_);obtain⟨x,H1,I1,r1,q1⟩:=z9;refine wpAny_Slice (thn (hl pj s1 σ H1 _ I1 q1) λvl s2 ⟨l,H2,I2,pl,q2⟩=>thn (hu pj s2 σ H2 _ I2 q2) λvu s3 z9=>?_);obtain⟨u,H3,I3,pu,q3⟩:=z9;rw[evalPart_none];refine Zp ?_;have I4:Inv X pj σ H3 { s3 with heap:=s3.heap.push { cls:=.type "slice",data:=.fields #[vl,vu,.none]}}:=I3.kept (t':=s3.toks) λb ob q=>Zk _ q
 obtain⟨T,id,hT,ht,hg⟩:=hr pj { s3 with heap:=s3.heap.push { cls:=.type "slice",data:=.fields #[vl,vu,.none]}} σ H3 x v vl vu l u s3.heap.objs.size Q I4 r1 (Heap.IsSliceOf.new ..) pl pu q3
 show wpAny (model X.prog X.w) X.A (subscriptTail e (.Slice lo hi none p2) v (.ref s3.heap.objs.size)) (EP X pj σ Q) X.xe { s3 with heap:=s3.heap.push { cls:=.type "slice",data:=.fields #[vl,vu,.none]}}
 exact tail_any (ops:=[.ref s3.heap.objs.size,v]) ht hT hg (by with_unfolding_all rfl)
noncomputable def cutV(xs:List V)(lo hi:Option Int):List V:=(xs.drop (HT.sIx xs.length 0 lo)).take (HT.sIx xs.length xs.length hi-HT.sIx xs.length 0 lo)
theorem c3g(xs:List V)(lo hi:Option Int):(cutV xs lo hi).length<=xs.length:=by
 unfold cutV;rw[Z7,V0];omega
def rCatT(K:W.Frag):R2:=λx y H Q=>∃a b xs ys,x=.ref a/\y=.ref b/\SqT K H a xs/\SqT K H b ys/\xs≠[]/\xs.length+ys.length<=sizeLine/\
 (ys=[]->Q (.ref a) H)/\(ys≠[]->∀p,H p=none->Q (.ref p) (upd H p (.tup (xs++ys))))
theorem Vals.nil_iff(r:Vals xs us):us=[]↔xs=[]:=by
 cases r with
 |nil=>simp
 |cons _ _=>simp
theorem op_catT:OpR X (binaryOp .Add) (rCatT X.K):=by
 intro pj s σ H x y v u Q I rx ry h;obtain⟨a,b,xs,ys,rfl,rfl,ha,hb,hx,hz,q1,q2⟩:=h;cases rx;cases ry;obtain⟨its,r1,p1,_⟩:=I.tuple ha;obtain⟨its2,r2,p2,_⟩:=I.tuple hb;refine HT.cat_tup p1 p2 (λz=>hx (r1.nil_iff.mp z)) (λz=>⟨.ref a,H,I,rfl,q1 (r2.nil_iff.mp z)⟩) (λz=>?_) (by rw[<-r1.length,<-r2.length];exact hz);refine⟨.ref s.heap.objs.size,_,I.laid (t':=s.toks) (o:=.tup (xs++ys)) (λb ob q=>Zk _ q) (Zn _) ?_,rfl,q2 (λw=>z (r2.nil_iff.mpr w)) _ (I.hok.fresh (Zn _))⟩;exact⟨by rw[Zl];exact hz,_,r1.append r2,IsTup.new _ _⟩
end
noncomputable def ixN(n:Nat)(i:Int):Option Nat:=if 0<=i then(if i<n then some i.toNat else none)else if -(n:Int)<=i then some (i+n).toNat else none
def atI{α:Type}(xs:List α)(i:Int):Option α:=(ixN xs.length i).bind λj=>xs[j]?
theorem ixN_seq(h:ixN n i=some j):seqIndex? i n=some j/\j<n/\-(n:Int)<=i/\i<n:=by
 unfold ixN at h
 by_cases h0:0<=i
 ·rw[if_pos h0]at h
  by_cases h1:i<n
  ·rw[if_pos h1]at h;have e:i.toNat=j:=Zw h;exact⟨by rw[seqIndex_of h0 h1,e],qo,qo,h1⟩
  ·rw[if_neg h1]at h;cases h
 ·rw[if_neg h0]at h
  by_cases h1:-(n:Int)<=i
  ·rw[if_pos h1]at h;have e:(i+n).toNat=j:=Zw h;exact⟨by rw[seqIndex_neg qo h1,e],qo,h1,qo⟩
  ·rw[if_neg h1]at h;cases h
theorem b3w{α:Type}{xs:List α}{i:Int}{v:α}(h:atI xs i=some v):∃j,seqIndex? i xs.length=some j/\xs[j]? =some v/\j<xs.length/\-(xs.length:Int)<=i/\i<xs.length:=by
 unfold atI at h;cases e:ixN xs.length i with
 |none=>rw[e]at h;cases h
 |some j=>
  rw[e]at h;obtain⟨h1,h2,h3,h4⟩:=ixN_seq e;exact⟨j,h1,h,h2,h3,h4⟩
theorem atI_nat{α:Type}{xs:List α}{j:Nat}{v:α}(h:xs[j]? =some v):atI xs (j:Int)=some v:=by
 have hj:j<xs.length:=(Yi.mp h).1;have e:ixN xs.length (j:Int)=some j:=by
  unfold ixN;rw[if_pos qo,if_pos qo];simp
 unfold atI;rw[e];exact h
theorem d1h{α:Type}(xs:List α)(v:α):atI (xs++[v]) (-1)=some v:=by
 have hl:(xs++[v]).length=xs.length+1:=by simp
 have e:ixN (xs++[v]).length (-1)=some xs.length:=by
  unfold ixN;rw[hl,if_neg qd,if_pos qo]
  congr 1
  omega
 unfold atI;rw[e]
 show(xs++[v])[xs.length]? =some v
 simp
def PlainIx(b:Expr):Prop:=∀o i,subscripted b false o i=operate [o,i] (getItem o i)
def IxR(X:Cx)(r:R2):Prop:=
 ∀(value slice:Expr)(pj:List (Addr×Obj))(s:Shared)(σ:St)(H:Hp)(x y:V)(v u:Value)(Q:VK),Inv X pj σ H s->RelV x v->RelV y u->r x y H Q->
  subscripted slice false v u=operate [v,u] (getItem v u)->wpAny (model X.prog X.w) X.A (subscriptTail value slice v u) (EP X pj σ Q) X.xe s
def MtR(X:Cx)(id:String)(r:V->List V->Hp->VK->Prop):Prop:=
 ∀(pj:List (Addr×Obj))(s:Shared)(σ:St)(H:Hp)(x:V)(xs:List V)(v:Value)(us:List Value)(Q:VK),Inv X pj σ H s->RelV x v->Vals xs us->r x xs H Q->
  wpAny (model X.prog X.w) X.A (call (.builtin id) (v::us)) (EP X pj σ Q) X.xe s
section
variable{X:Cx}{a b:Expr}{ta tb:TE}{pos:Pos}
theorem IxR.or(h:IxR X r)(h':IxR X r'):IxR X (λx y H Q=>r x y H Q\/r' x y H Q):=by
 intro value slice pj s σ H x y v u Q I rx ry q hs;rcases q with q|q
 ·exact h value slice pj s σ H x y v u Q I rx ry q hs
 ·exact h' value slice pj s σ H x y v u Q I rx ry q hs
theorem a0n(hr:IxR X r)(ha:PE X a ta)(hb:PE X b tb)(hs:PlainIx b):PE X (.Subscript a b pos) (tOp r ta tb):=by
 intro pj s σ H Q I h;exact Qf (binT ha hb I h λv u s2 x y H2 I2 rx ry q=>hr a b pj s2 σ H2 x y v u Q I2 rx ry q (hs _ _))
def rIxL(K:W.Frag):R2:=λx y H Q=>∃p xs i v,x=.ref p/\y=.int i/\SqL K H p xs/\atI xs i=some v/\Q v H
def rIxT(K:W.Frag):R2:=λx y H Q=>∃p xs i v,x=.ref p/\y=.int i/\SqT K H p xs/\atI xs i=some v/\Q v H
def rIxS:R2:=λx y H Q=>∃z i c,x=.str z/\y=.int i/\z.length<=sizeLine/\atI z.cps.toList i=some c/\Q (.str ⟨#[c]⟩) H
theorem ix_list:IxR X (rIxL X.K):=by
 intro value slice pj s σ H x y v u Q I rx ry h hs;obtain⟨p,xs,i,z,rfl,rfl,hq,he,q⟩:=h;cases rx;obtain⟨t,rfl⟩:=ry;obtain⟨its,r,pl,hz⟩:=I.list hq;obtain⟨j,h1,h2,h3,h4,h5⟩:=b3w he;obtain⟨w,ew,rw'⟩:=r.get h2;have hl:=r.length;have hn:=b2j;have fin:EP X pj σ Q w s:=⟨z,H,I,rw',q⟩
 by_cases h0:0<=i
 ·have hj:i.toNat=j:=by
   rw[seqIndex_of h0 h5]at h1;exact Zw h1
  exact item_listR pl.isList h0 qo (by rw[hj];simpa using ew) fin hs
 ·have hj:(i+(its.toArray.size:Int)).toNat=j:=by
   rw[seqIndex_neg qo h4]at h1;rw[Zm,<-hl];exact Zw h1
  exact S7 (x:=w) pl.isList.typeIs slot_list_getitem.lookup
   (wpAny_getItem_list_neg (Q:=λr s'=>r=w/\EP X pj σ Q r s') pl.isList qo (by rw[Zm]<;>omega) qo (by rw[hj];simpa using ew) ⟨rfl,fin⟩) hs
theorem ix_tup:IxR X (rIxT X.K):=by
 intro value slice pj s σ H x y v u Q I rx ry h hs;obtain⟨p,xs,i,z,rfl,rfl,hq,he,q⟩:=h;cases rx;obtain⟨t,rfl⟩:=ry;obtain⟨its,r,pl,hz⟩:=I.tuple hq;obtain⟨j,h1,h2,h3,h4,h5⟩:=b3w he;obtain⟨w,ew,rw'⟩:=r.get h2;have hl:=r.length;have hn:=b2j;have fin:EP X pj σ Q w s:=⟨z,H,I,rw',q⟩;exact S7 (x:=w) pl.typeIs Tn.lookup
  (getItem_tuple (j:=j) (Q:=λr s'=>r=w/\EP X pj σ Q r s') pl qo qo (by rw[Zm,<-hl];exact h1) (by simpa using ew) ⟨rfl,fin⟩) hs
theorem ix_str:IxR X rIxS:=by
 intro value slice pj s σ H x y v u Q I rx ry h hs;obtain⟨z,i,c,rfl,rfl,hz,he,q⟩:=h;obtain⟨t,rfl⟩:=rx;obtain⟨t',rfl⟩:=ry;obtain⟨j,h1,h2,h3,h4,h5⟩:=b3w he;have hl:z.cps.toList.length=z.length:=by simp[Str.length]
 rw[hl]at h1 h4 h5;have hn:=b2j
 exact tail_any (typeIs_str s z t) slot_str_getitem.lookup (getItem_str (c:=c) (by
  have e1:decide (i< -(2^63:Int))=false:=Z3 qo;have e2:decide (i>=2^63)=false:=Z3 qo
  rw[e1,e2,S4]) (by rw[h1];simpa using h2) ⟨.str ⟨#[c]⟩,H,I.tok _,⟨_,rfl⟩,q⟩) hs
def rIx(K:W.Frag):R2:=λx y H Q=>rIxL K x y H Q\/rIxT K x y H Q\/rIxS x y H Q
theorem ix_seq:IxR X (rIx X.K):=ix_list.or (ix_tup.or ix_str)
theorem c1g(lo hi:Option Int)(n:Nat):(sliceBounds lo hi none n).1=((HT.sIx n 0 lo:Nat):Int)/\(sliceBounds lo hi none n).2.1=((HT.sIx n n hi:Nat):Int)/\(sliceBounds lo hi none n).2.2=1:=by
 refine⟨?_,?_,rfl⟩
 ·cases lo with
  |none=>simp[sliceBounds,HT.sIx]
  |some i=>
   simp only[sliceBounds,HT.sIx,Option.getD_none,show(1:Int)>0 by decide,if_true]
   by_cases h:i<0
   ·simp only[h,if_true]<;>omega
   ·simp only[h,V3]<;>omega
 ·cases hi with
  |none=>simp[sliceBounds,HT.sIx]
  |some i=>
   simp only[sliceBounds,HT.sIx,Option.getD_none,show(1:Int)>0 by decide,if_true]
   by_cases h:i<0
   ·simp only[h,if_true]<;>omega
   ·simp only[h,V3]<;>omega
theorem c0j(its:List Value)(lo hi:Option Int):slicePick its.toArray lo hi none=((its.drop (HT.sIx its.length 0 lo)).take (HT.sIx its.length its.length hi-HT.sIx its.length 0 lo)).toArray:=by
 obtain⟨h1,h2,h3⟩:=c1g lo hi its.toArray.size;unfold slicePick;rw[h1,h2,h3];simp only[sliceRange_one,pick_run,Zm]<;>rfl
def rSlL(K:W.Frag):V->Option Int->Option Int->Hp->VK->Prop:=λx lo hi H Q=>∃a xs,x=.ref a/\SqL K H a xs/\∀p,H p=none->Q (.ref p) (upd H p (.lst (cutV xs lo hi)))
theorem sl_list:SlR X (rSlL X.K):=by
 intro pj s σ H x v vl vu lo hi sl Q I rx hs pl pu h;obtain⟨a,xs,rfl,hx,q⟩:=h;cases rx;obtain⟨its,r,ht,hz⟩:=I.list hx;have hlen:=r.length;refine⟨"list",_,slot_list_getitem.lookup,ht.isList.typeIs,?_⟩;refine wpAny_getItem_list_slice ht.isList hs pl pu .none qz ?_ (by rw[Zm]<;>omega);rw[c0j,<-hlen];refine⟨.ref s.heap.objs.size,_,I.laid (t':=s.toks) (o:=.lst (cutV xs lo hi)) (λb ob q=>Zk _ q) (Zn _) ?_,rfl,q _ (I.hok.fresh (Zn _))⟩;exact⟨Yn (c3g xs lo hi) hz,_,0,(r.drop (HT.sIx xs.length 0 lo)).take (HT.sIx xs.length xs.length hi-HT.sIx xs.length 0 lo),Zv _ rfl⟩
def a7y:V->Bool
 | .non=>true
 | .bl _=>true
 | .int _=>true
 | .str _=>true
 |_=>false
noncomputable def eqV:V->V->Bool
 | .non,.non=>true
 | .bl a,.bl b=>a==b
 | .bl a,.int b=>(if a then 1 else 0)==b
 | .int a,.bl b=>a==(if b then 1 else 0)
 | .int a,.int b=>a==b
 | .str a,.str b=>a==b
 |_,_=>false
theorem eqAt_V(ry:RelV y u)(rx:RelV x v)(fy:a7y y=true)(fx:a7y x=true):SeqAt.EqAt A s u v (eqV y x):=by
 cases y with
 |non=>
  cases ry;cases x with
  |non=>cases rx;exact Wc _
  |bl b=>cases rx;exact SeqAt.EqAt.none_bool b
  |int b=>obtain⟨t,rfl⟩:=rx;exact SeqAt.EqAt.none_int b t
  |str b=>obtain⟨t,rfl⟩:=rx;exact SeqAt.EqAt.none_str b t
  |_=>exact absurd (show false=true from fx) Zr
 |bl a=>
  cases ry;cases x with
  |non=>cases rx;exact SeqAt.EqAt.bool_none a
  |bl b=>cases rx;exact SeqAt.EqAt.bool_bool a b
  |int b=>obtain⟨t,rfl⟩:=rx;exact SeqAt.EqAt.bool_int a b t
  |str b=>obtain⟨t,rfl⟩:=rx;exact SeqAt.EqAt.bool_str a b t
  |_=>exact absurd (show false=true from fx) Zr
 |int a=>
  obtain⟨t',rfl⟩:=ry;cases x with
  |non=>cases rx;exact SeqAt.EqAt.int_none a t'
  |bl b=>cases rx;exact SeqAt.EqAt.int_bool a t' b
  |int b=>obtain⟨t,rfl⟩:=rx;exact Uh a t' b t
  |str b=>obtain⟨t,rfl⟩:=rx;exact Tr a t' b t
  |_=>exact absurd (show false=true from fx) Zr
 |str a=>
  obtain⟨t',rfl⟩:=ry;cases x with
  |non=>cases rx;exact SeqAt.EqAt.str_none a t'
  |bl b=>cases rx;exact SeqAt.EqAt.str_bool a t' b
  |int b=>obtain⟨t,rfl⟩:=rx;exact Tp a t' b t
  |str b=>obtain⟨t,rfl⟩:=rx;exact Ug a t' b t
  |_=>exact absurd (show false=true from fx) Zr
 |_=>exact absurd (show false=true from fy) Zr
noncomputable def eqU(x:V)(u:Value):Bool:=match u with
 | .none=>eqV .non x
 | .bool b=>eqV (.bl b) x
 | .int i _=>eqV (.int i) x
 | .str z _=>eqV (.str z) x
 |_=>false
theorem c7h(r:RelV y u)(f:a7y y=true):eqU x u=eqV y x:=by
 cases y with
 |non=>cases r;rfl
 |bl b=>cases r;rfl
 |int i=>obtain⟨t,rfl⟩:=r;rfl
 |str z=>obtain⟨t,rfl⟩:=r;rfl
 |_=>exact absurd (show false=true from f) Zr
theorem b0b:∀{xs:List V}{us:List Value},Vals xs us->xs.all a7y=true->us.any (eqU x)=xs.any λy=>eqV y x
 |_,_,.nil,_=>rfl
 |y::xs,u::us,.cons r t,f=>by
  rw[Uz,Xp]at f;rw[Ws,Ws,c7h r f.1,b0b t f.2]
theorem a8l(rx:RelV x v)(fx:a7y x=true):∀{xs:List V}{us:List Value},Vals xs us->xs.all a7y=true->∀u∈us,SeqAt.EqAt A s u v (eqU x u)
 |_,_,.nil,_=>λu hu=>by cases hu
 |y::xs,u::us,.cons r t,f=>λu' hu=>by
  rw[Uz,Xp]at f;rcases Zu.mp hu with rfl|hu
  ·rw[c7h r f.1];exact eqAt_V r rx f.1 fx
  ·exact a8l rx fx t f.2 u' hu
def inV(x:V)(xs:List V):Bool:=xs.any λy=>eqV y x
def rIn(K:W.Frag)(neg:Bool):R2:=λx y H Q=>∃p xs,y=.ref p/\(SqL K H p xs\/SqT K H p xs)/\a7y x=true/\xs.all a7y=true/\Q (.bl (if neg then !inV x xs else inV x xs)) H
theorem c7i:OpR X (compareOp .In) (rIn X.K false):=by
 intro pj s σ H x y v u Q I rx ry h;obtain⟨p,xs,rfl,hq,fx,fs,q⟩:=h;cases ry;rcases hq with hq|hq
 ·obtain⟨its,r,pl,hz⟩:=I.list hq;refine SeqAt.in_listAt (eqU x) pl.isList (λw hw=>a8l rx fx r fs w (by simpa using hw)) ⟨.bl _,H,I,rfl,?_⟩;rw[show its.toArray.any (eqU x)=its.any (eqU x) by simp,b0b r fs];exact q
 ·obtain⟨its,r,pl,hz⟩:=I.tuple hq;refine SeqAt.in_tupleAt (eqU x) pl (λw hw=>a8l rx fx r fs w (by simpa using hw)) ⟨.bl _,H,I,rfl,?_⟩;rw[show its.toArray.any (eqU x)=its.any (eqU x) by simp,b0b r fs];exact q
theorem c1h:OpR X (compareOp .NotIn) (rIn X.K true):=by
 intro pj s σ H x y v u Q I rx ry h;obtain⟨p,xs,rfl,hq,fx,fs,q⟩:=h;cases ry;rcases hq with hq|hq
 ·obtain⟨its,r,pl,hz⟩:=I.list hq;refine SeqAt.notIn_listAt (eqU x) pl.isList (λw hw=>a8l rx fx r fs w (by simpa using hw)) ⟨.bl _,H,I,rfl,?_⟩;rw[show its.toArray.any (eqU x)=its.any (eqU x) by simp,b0b r fs];exact q
 ·obtain⟨its,r,pl,hz⟩:=I.tuple hq;refine SeqAt.notIn_tupleAt (eqU x) pl (λw hw=>a8l rx fx r fs w (by simpa using hw)) ⟨.bl _,H,I,rfl,?_⟩;rw[show its.toArray.any (eqU x)=its.any (eqU x) by simp,b0b r fs];exact q
theorem c1i:a3r X (.type "list") (λxs H Q=>∃p ys,xs=[.ref p]/\(SqL X.K H p ys\/SqT X.K H p ys)/\∀l,H l=none->Q (.ref l) (upd H l (.lst ys))):=by
 intro pj s σ H xs us Q I r h;obtain⟨p,ys,rfl,hq,q⟩:=h;obtain⟨u,rfl,rx⟩:=vals1 r;cases rx;have fin:∀(its:List Value),Vals ys its->ys.length<=sizeLine->∀(h':Heap)(c':Nat),(∀b o',s.heap.get? b=some o'->h'.get? b=some o')->
   h'.get? s.heap.objs.size=some { cls:=.type "list",dict:=none,data:=.seq its.toArray c',slots:=#[]}->EP X pj σ Q (.ref s.heap.objs.size) { s with heap:=h'}:=λits r' hz h' c' kp e=>
  ⟨.ref s.heap.objs.size,_,I.laid (t':=s.toks) kp (Zn _) (show a1r X.prog X.w _ h' _ (.lst ys)from⟨hz,its,c',r',e⟩),rfl,q _ (I.hok.fresh (Zn _))⟩
 rcases hq with hq|hq
 ·obtain⟨its,r',pl,hz⟩:=I.list hq;have hlen:=r'.length;obtain⟨o,ho,hc,n,hd⟩:=pl.isList;exact call_list_seq p (.inl rfl) ho hc hd (λh' c' kp e=>fin its r' hz h' c' kp e) (by simp only[Zm]<;>omega)
 ·obtain⟨its,r',pl,hz⟩:=I.tuple hq;have hlen:=r'.length;obtain⟨o,ho,hc,n,hd⟩:=pl;exact call_list_seq p (.inr rfl) ho hc hd (λh' c' kp e=>fin its r' hz h' c' kp e) (by simp only[Zm]<;>omega)
theorem c0k:a3r X (.type "tuple") (λxs H Q=>∃p ys,xs=[.ref p]/\((SqL X.K H p ys/\∀l,H l=none->Q (.ref l) (upd H l (.tup ys)))\/(SqT X.K H p ys/\Q (.ref p) H))):=by
 intro pj s σ H xs us Q I r h;obtain⟨p,ys,rfl,h⟩:=h;obtain⟨u,rfl,rx⟩:=vals1 r;cases rx;rcases h with⟨hq,q⟩|⟨hq,q⟩
 ·obtain⟨its,r',pl,hz⟩:=I.list hq;have hlen:=r'.length;refine call_tuple_list pl.isList (λh' kp=>?_) (by simp only[Zm]<;>omega);have I1:Inv X pj σ H { s with heap:=h'}:=I.kept (t':=s.toks) kp;have I2:Inv X pj σ (upd H h'.objs.size (.tup ys)) { s with heap:=h'.push { cls:=.type "tuple",data:=.seq its.toArray}}:=
   I1.laid (t':=s.toks) (λb o e=>Zk _ e) (Zn _) (show a1r X.prog X.w _ _ _ (.tup ys)from⟨hz,its,r',IsTup.new _ _⟩)
  exact⟨.ref h'.objs.size,_,I2,rfl,q _ (I1.hok.fresh (Zn _))⟩
 ·obtain⟨its,r',pl,hz⟩:=I.tuple hq;exact call_tuple_same pl ⟨.ref p,H,I,rfl,q⟩
def tyV(K:W.Frag)(T:String)(x:V)(H:Hp):Prop:=match x with
 | .str _=>T="str"
 | .int _=>T="int"
 | .ref p=>(T="list"/\∃xs,SqL K H p xs)\/(T="tuple"/\∃o,K.lookup p=some o/\o.cls=.type "tuple"/\o.dict=none)\/
   (T="dict"/\((∃kvs,H p=some (.dK kvs))\/∃kvs,H p=some (.dT kvs)))\/(T="set"/\∃S n,H p=some (.set S n))
 |_=>False
theorem c7j{pj:List (Addr×Obj)}{σ:St}{H:Hp}{s:Shared}{T:String}{x:V}{v:Value}(I:Inv X pj σ H s)(r:RelV x v)(ty:tyV X.K T x H):
  s.TypeIs v T/\∀a,v=.ref a->∃ob,s.heap.get? a=some ob/\ob.dict=none:=by
 cases x with
 |str z=>
  obtain⟨t,rfl⟩:=r
  cases(show T="str" from ty)
  exact⟨typeIs_str s z t,λ_ e=>nomatch e⟩
 |int i=>
  obtain⟨t,rfl⟩:=r
  cases(show T="int" from ty)
  exact⟨Tm s i t,λ_ e=>nomatch e⟩
 |ref p=>
  cases r;rcases ty with⟨rfl,xs,hq⟩|⟨rfl,o,hk,hc,hd⟩|⟨rfl,hk⟩|⟨rfl,S,n,hk⟩
  ·obtain⟨its,_,pl,_⟩:=I.list hq;refine⟨pl.isList.typeIs,λa e=>?_⟩;cases e;obtain⟨o,n,e,c,hd,_⟩:=pl;exact⟨o,e,hd⟩
  ·refine⟨⟨o,I.kIn p o hk,hc⟩,λa e=>?_⟩;cases e;exact⟨o,I.kIn _ o hk,hd⟩
  ·have z:∃o,s.heap.get? p=some o/\o.ExactDict:=by
    rcases hk with⟨kvs,hk⟩|⟨kvs,hk⟩
    ·obtain⟨_,_,_,_,o,_,_,e,ex,_⟩:=I.hok p _ hk;exact⟨o,e,ex⟩
    ·obtain⟨_,_,_,_,o,_,_,e,ex,_⟩:=I.hok p _ hk;exact⟨o,e,ex⟩
   obtain⟨o,e,ex⟩:=z;refine⟨⟨o,e,ex.1⟩,λa e2=>?_⟩;cases e2;exact⟨o,e,ex.2.1⟩
  ·obtain⟨o,_,_,_,e,ex,_⟩:=I.hok p _ hk;refine⟨⟨o,e,ex.1⟩,λa e2=>?_⟩;cases e2;exact⟨o,e,ex.2.1⟩
 |_=>exact False.elim ty
def tBM0(K:W.Frag)(T:String)(r:V->List V->Hp->VK->Prop)(to:TE):TE:=λσ H Q=>to σ H λx H1=>tyV K T x H1/\r x [] H1 Q
def tBM(K:W.Frag)(T:String)(r:V->List V->Hp->VK->Prop)(to:TE)(t:TA):TE:=λσ H Q=>to σ H λx H1=>tyV K T x H1/\t σ H1 λxs H2=>r x xs H2 Q
variable{o e:Expr}{es:List Expr}{to:TE}{t:TA}{name:Str}{apos cpos:Pos}{T id:String}{r:V->List V->Hp->VK->Prop}
theorem pe_bm0(pa:PlainAttrs T)(slot:Slot T name id)(hty:typeOf (.builtin id)=pure (.type "method_descriptor"))(hm:MtR X id r)(ho:PE X o to)
  (hbase:attributeBase o name X.env (eval o X.env)=eval o X.env:=by rfl)(hline:(apos.endLine==cpos.line)=true:=by rfl):PE X (.Call (.Attribute o name apos) [] [] cpos) (tBM0 X.K T r to):=by
 intro pj s σ H Q I h;refine wpAny_Call_method0_late hbase hline (thn (ho pj s σ H _ I h) λv s1 z9=>?_);obtain⟨x,H1,I1,r1,ty,q1⟩:=z9;obtain⟨h1,h2⟩:=c7j I1 r1 ty;exact⟨T,id,pa,slot,hty,h1,h2,Ta rfl (PySem.evalArgs_none (hm pj s1 σ H1 x [] v [] Q I1 r1 .nil q1))⟩
theorem pe_bm(pa:PlainAttrs T)(slot:Slot T name id)(hty:typeOf (.builtin id)=pure (.type "method_descriptor"))(hm:MtR X id r)(ho:PE X o to)(ha:PA X (e::es) t)
  (hbase:attributeBase o name X.env (eval o X.env)=eval o X.env:=by rfl)
  (hfew:((backTo cpos (starEach (e::es) X.env)).all (λx=>!x.1)&&(backToKw cpos (keywordEach [] X.env)).all (λx=>x.1.isSome)
   &&decide ((e::es).length+([]:List Keyword).length+(if([]:List Keyword).isEmpty then 0 else 1)<30))=true:=by rfl)
  (hline:(apos.endLine==cpos.line)=true:=by rfl)(hs:starEach (e::es) X.env=(false,eval e X.env)::starEach es X.env:=by rfl)(hplain:(backTo cpos (starEach es X.env)).any (·.1)=false:=by rfl):
  PE X (.Call (.Attribute o name apos) (e::es) [] cpos) (tBM X.K T r to t):=by
 intro pj s σ H Q I h;refine wpAny_Call_method_late hbase hfew hline rfl (thn (ho pj s σ H _ I h) λv s1 z9=>?_);obtain⟨x,H1,I1,r1,ty,q1⟩:=z9;obtain⟨h1,h2⟩:=c7j I1 r1 ty;refine⟨T,id,pa,slot,hty,h1,h2,?_⟩;have hA:=ha cpos pj s1 σ H1 _ I1 q1;rw[hs]at hA ⊢;refine Ta (by show(false|| (backTo cpos (starEach es X.env)).any (·.1))=false;rw[hplain]<;>rfl) (Ry ?_);exact thn hA λus s2 ⟨vs,H2,I2,r2,q2⟩=>hm pj s2 σ H2 x vs v us Q I2 r1 r2 q2
end
def MtM(X:Cx)(id:String)(r:V->List V->Hp->VK->Prop):Prop:=
 ∀(pj:List (Addr×Obj))(s:Shared)(σ:St)(H:Hp)(x:V)(xs:List V)(v:Value)(us:List Value)(Q:VK),Inv X pj σ H s->RelV x v->Vals xs us->r x xs H Q->
  wpAny (model X.prog X.w) X.A (call (.builtin id) (v::us)) (EP X pj σ Q) X.xe s
theorem Vals.one(r:Vals [x] us):∃u,us=[u]/\RelV x u:=vals1 r
theorem Vals.zero:∀{us:List Value},Vals [] us->us=[]
 |_,.nil=>rfl
theorem Vals.dropLast(h:Vals xs us):Vals xs.dropLast us.dropLast:=by
 induction h with
 |nil=>exact .nil
 |cons r t ih=>
  cases t with
  |nil=>exact .nil
  |cons q t'=>exact .cons r ih
theorem Vals.reverse(h:Vals xs us):Vals xs.reverse us.reverse:=by
 induction h with
 |nil=>exact .nil
 |cons r t ih=>rw[Yz,Yz];exact Vals.append ih (.cons r .nil)
theorem Vals.rep(h:Vals xs us):∀k:Nat,Vals (List.replicate k xs).flatten (List.replicate k us).flatten
 |0=>.nil
 |k+1=>by
  rw[We,We,Ut,Ut];exact Vals.append h (Vals.rep h k)
theorem c5o{α:Type}(l:List α):l.eraseIdx (l.length-1)=l.dropLast:=by
 induction l with
 |nil=>rfl
 |cons a r ih=>
  cases r with
  |nil=>rfl
  |cons b r=>
   have e:(a::b::r).length-1=((b::r).length-1)+1:=by
    have h1:(a::b::r).length=r.length+2:=rfl;have h2:(b::r).length=r.length+1:=rfl;omega
   rw[e,List.eraseIdx_cons_succ,ih]
   all_goals rfl
theorem foldl_rep(its:List Value):∀(k:Nat)(acc:List Value),
  List.foldl (λx1 x2=>x1++x2) acc.toArray (List.replicate k its.toArray)=(acc++(List.replicate k its).flatten).toArray
 |0,acc=>by simp
 |k+1,acc=>by
  have e:acc.toArray++its.toArray=(acc++its).toArray:=by simp
  have e2:(acc++its)++(List.replicate k its).flatten=acc++(List.replicate (k+1) its).flatten:=by
   rw[We,Ut,Y0]
  rw[<-e2,<-foldl_rep its k (acc++its),<-e,We,List.foldl_cons]
section
variable{X:Cx}{pj:List (Addr×Obj)}{σ:St}{H:Hp}{s:Shared}{l b:Addr}{xs ys zs:List V}
theorem Inv.lset{its its':List Value}(I:Inv X pj σ H s)(hH:H l=some (.lst xs))
  (e:s.heap.get? l=some { cls:=.type "list",data:=.seq its.toArray n})(hf:f its.toArray=its'.toArray)(hv:Vals ys its')(hz:ys.length<=sizeLine):
  Inv X pj σ (upd H l (.lst ys)) { s with heap:=s.heap.update l (Obj.mapSeq f),toks:=t'}:=by
 have q:=PySem.IsL.update e f;rw[hf]at q;refine I.write (x:=l) (e:=l) (by rw[hH];exact trivial) (.inl rfl) (λb' u hb hu=>(Z9 s.heap (Obj.mapSeq f) (Ne.symm hb)).trans hu) ⟨_,q⟩ ?_;exact⟨hz,its',_,hv,q⟩
theorem Inv.lnew(I:Inv X pj σ H s)(hv:Vals ys its)(hz:ys.length<=sizeLine):
  Inv X pj σ (upd H s.heap.objs.size (.lst ys)) { s with heap:=s.heap.push { cls:=.type "list",data:=.seq its.toArray},toks:=t'}:=
 I.laid (λ_ _ q=>Zk _ q) (Zn _) ⟨hz,its,0,hv,Zv _ rfl⟩
theorem Inv.fresh(I:Inv X pj σ H s):H s.heap.objs.size=none:=I.hok.fresh (Zn _)
theorem Inv.lstM(I:Inv X pj σ H s)(hH:H l=some (.lst xs)):xs.length<=sizeLine/\∃(its:List Value)(n:Nat),Vals xs its/\xs.length=its.length/\s.heap.get? l=some { cls:=.type "list",data:=.seq its.toArray n}:=by
 obtain⟨z,its,n,r,e⟩:=I.hok l _ hH;exact⟨z,its,n,r,r.length,e⟩
theorem b5c(h:n<=sizeLine):Builtin.List.listTooLong n=false:=by
 unfold Builtin.List.listTooLong;exact Z3 qo
end
section
variable{X:Cx}
def rAppend:V->List V->Hp->VK->Prop:=λx vs H Q=>∃l xs y,x=.ref l/\vs=[y]/\H l=some (.lst xs)/\xs.length<sizeLine/\Q .non (upd H l (.lst (xs++[y])))
theorem b2m:MtM X "list.append" rAppend:=by
 intro pj s σ H x vs v us Q I rx rv h;obtain⟨l,xs,y,rfl,rfl,hH,hz,q⟩:=h;cases rx;obtain⟨u,rfl,ru⟩:=rv.one;obtain⟨z,its,n,r,hl,e⟩:=I.lstM hH;refine Vl Yv ⟨_,e,rfl⟩ F.entry_list_append (F.args_list_append_2 _ _) (PySem.list_append l its.toArray n u (by rw[Zm];omega)) ⟨e,?_⟩;refine⟨.non,_,I.lset (its':=its++[u]) hH e qz (r.append (.cons ru .nil)) ?_,rfl,q⟩;rw[Zl,Zy];omega
def rExtend:V->List V->Hp->VK->Prop:=λx vs H Q=>∃l b xs zs,x=.ref l/\vs=[.ref b]/\H l=some (.lst xs)/\H b=some (.lst zs)/\xs.length+zs.length<=sizeLine/\Q .non (upd H l (.lst (xs++zs)))
theorem c7k:MtM X "list.extend" rExtend:=by
 intro pj s σ H x vs v us Q I rx rv h;obtain⟨l,b,xs,zs,rfl,rfl,hH,hB,hz,q⟩:=h;cases rx;obtain⟨u,rfl,ru⟩:=rv.one;cases ru;obtain⟨z,its,n,r,hl,e⟩:=I.lstM hH;obtain⟨z2,its2,n2,r2,hl2,e2⟩:=I.lstM hB;have hsz:its.toArray.size+its2.toArray.size<=sizeLine:=by rw[Zm,Zm];omega
 have hlong:¬(!its.toArray.isEmpty&&Builtin.List.listTooLong (its.toArray.size+its2.toArray.size))=true:=by
  rw[b5c hsz,Su];exact Zr
 refine Vl Vo ⟨_,e,rfl⟩ Qb (Rx _ _)
  (AutoSeq1.list_extend_list_list_0 l its.toArray n b its2.toArray n2 hlong (by rw[Zm];omega) qo) ⟨e,e2,?_⟩
 refine⟨.non,_,I.lset (its':=its++its2) hH e qz (r.append r2) ?_,rfl,q⟩;rw[Zl];omega
def rPop:V->List V->Hp->VK->Prop:=λx vs H Q=>∃l xs y,x=.ref l/\vs=[]/\H l=some (.lst xs)/\xs[xs.length-1]? =some y/\Q y (upd H l (.lst xs.dropLast))
theorem mt_pop:MtM X "list.pop" rPop:=by
 intro pj s σ H x vs v us Q I rx rv h;obtain⟨l,xs,y,rfl,rfl,hH,hy,q⟩:=h;cases rx;have hus:=rv.zero;subst hus;obtain⟨z,its,n,r,hl,e⟩:=I.lstM hH;obtain⟨u,hu,ru⟩:=r.get hy;have hy':its.toArray[its.toArray.size-1]? =some u:=by
  show its.toArray[its.length-1]? =some u
  rw[<-Va,<-hl];exact hu
 refine Vl W7 ⟨_,e,rfl⟩ F.entry_list_pop (F.args_list_pop_1 _) (MeetsSeq.list_pop_last l its.toArray n u hy' (by rw[Zm];omega)) ⟨e,?_⟩;refine⟨y,_,I.lset (its':=its.dropLast) hH e ?_ r.dropLast ?_,ru,q⟩
 ·show its.toArray.eraseIdxIfInBounds (its.toArray.size-1)=its.dropLast.toArray
  rw[Zm,List.eraseIdxIfInBounds_toArray,c5o]
 ·rw[List.length_dropLast];omega
def rCat:R2:=λx y H Q=>∃l b xs zs,x=.ref l/\y=.ref b/\H l=some (.lst xs)/\H b=some (.lst zs)/\xs.length+zs.length<=sizeLine/\∀p,H p=none->Q (.ref p) (upd H p (.lst (xs++zs)))
theorem op_cat:OpR X (binaryOp .Add) rCat:=by
 intro pj s σ H x y v u Q I rx ry h;obtain⟨l,b,xs,zs,rfl,rfl,hH,hB,hz,q⟩:=h;cases rx;cases ry;obtain⟨z,its,n,r,hl,e⟩:=I.lstM hH;obtain⟨z2,its2,n2,r2,hl2,e2⟩:=I.lstM hB;refine PySem.P.add_list e e2 ?_ (by rw[Zm,Zm];omega);have ea:its.toArray++its2.toArray=(its++its2).toArray:=by simp
 rw[ea];exact⟨.ref _,_,I.lnew (t':=s.toks) (r.append r2) (by rw[Zl];omega),rfl,q _ I.fresh⟩
def rRep:R2:=λx y H Q=>∃l k xs,x=.ref l/\y=.int k/\H l=some (.lst xs)/\-(2^63)<=k/\k<2^63/\xs.length*k.toNat<=sizeLine/\
 ∀p,H p=none->Q (.ref p) (upd H p (.lst (List.replicate k.toNat xs).flatten))
theorem len_rep{α:Type}(xs:List α)(k:Nat):(List.replicate k xs).flatten.length=k*xs.length:=by
 induction k with
 |zero=>simp
 |succ k ih=>rw[We,Ut,Zl,ih,T1,Ra]
theorem op_rep:OpR X (binaryOp .Mult) rRep:=by
 intro pj s σ H x y v u Q I rx ry h;obtain⟨l,k,xs,rfl,rfl,hH,h1,h2,hz,q⟩:=h;cases rx;obtain⟨t,rfl⟩:=ry;obtain⟨z,its,n,r,hl,e⟩:=I.lstM hH;have hlen:its.toArray.size*k.toNat<=sizeLine:=by rw[Zm,<-hl];exact hz
 have hcap:¬its.toArray.size*k.toNat>(2^63-1)/8:=by
  have:(sizeLine:Nat)<=(2^63-1)/8:=by decide
  omega
 have hfit:¬(!Builtin.List.listFitsIndex k)=true:=by
  rw[fitsIndex_both h1 h2];exact Zr
 have hlong:¬Builtin.List.listTooLong (its.toArray.size*k.toNat)=true:=by
  rw[b5c hlen];exact Zr
 have hnew:List.foldl (λx1 x2=>x1++x2) #[] (List.replicate (if its.toArray.isEmpty=true then 0 else k.toNat) its.toArray)=(List.replicate k.toNat its).flatten.toArray:=by
  have f0:∀m:Nat,List.foldl (λx1 x2=>x1++x2) #[] (List.replicate m its.toArray)=(List.replicate m its).flatten.toArray:=λm=>by
   have:=foldl_rep its m [];rw[Td]at this;exact this
  rw[f0];cases its with
  |nil=>simp
  |cons a r'=>rw[if_neg qz]
 refine Sv (T:="list") (U:="int") qd ⟨_,e,rfl⟩ (λs'=>Tm s' k t) noFill_list_mul F.fills_int_mul Tf repeat_list F.slot_int_index.lookup
  (Vl Tf (Tm s k t) F.entry_int_rmul (F.args_int_rmul_2 _ _) (Rf k t l its.toArray n)
   ⟨e,rfl,⟨_,e,rfl⟩,Vl F.slot_list_mul ⟨_,e,rfl⟩ F.entry_list_mul (F.args_list_mul_2 _ _) (Tu l its.toArray n k t hfit hcap hlong) ⟨e,?_⟩⟩)
 rw[hnew];exact⟨.ref _,_,I.lnew (t':=s.toks) (r.rep k.toNat) (by rw[len_rep,Nat.mul_comm];exact hz),rfl,q _ I.fresh⟩
end
section
variable{κ:Type}[DecidableEq κ]
def valV(kvs:List (κ×V))(k:κ):Option V:=(kvs.find? λkv=>decide (kv.1=k)).map (·.2)
def putK(kvs:List (κ×V))(k:κ)(v:V):List (κ×V):=
 if(kvs.any λkv=>decide (kv.1=k))=true then kvs.map (λkv=>if kv.1=k then(kv.1,v)else kv)else kvs++[(k,v)]
def a4l(kvs:List (κ×V))(k:κ):List (κ×V):=kvs.filter λkv=>decide (kv.1≠k)
theorem b1e{p:κ×V}(e:p.1=k):valV (p::r) k=some p.2:=by simp[valV,Xw,e]
theorem b1f{p:κ×V}(e:¬p.1=k):valV (p::r) k=valV r k:=by simp[valV,Xw,e]
theorem b5d(k:κ):∀kvs:List (κ×V),(kvs.any λkv=>decide (kv.1=k))=(valV kvs k).isSome
 | []=>rfl
 |p::r=>by
  rw[Ws]
  by_cases e:p.1=k
  ·simp only[b1e e,Ye e,Bool.true_or,Option.isSome_some]
  ·rw[b1f e,Z3 e,S5];exact b5d k r
theorem a9r(kvs:List (κ×V))(k:κ)(v:V):(putK kvs k v).length<=kvs.length+1:=by
 unfold putK
 split
 ·rw[length_map];omega
 ·rw[Zl,length_cons,length_nil];omega
theorem d1i{kvs:List (κ×V)}{k:κ}(v:V)(h:valV kvs k=none):putK kvs k v=kvs++[(k,v)]:=by
 unfold putK;rw[b5d,h];exact if_neg qd
theorem RelO.isSome_eq(r:RelO o u):o.isSome=u.isSome:=by
 cases o with
 |none=>cases u with
  |none=>rfl
  |some _=>exact(show False from r).elim
 |some _=>cases u with
  |none=>exact(show False from r).elim
  |some _=>rfl
theorem RelO.getD(r:RelO o u)(rd:RelV d d'):RelV (o.getD d) (u.getD d'):=by
 cases o with
 |none=>cases u with
  |none=>exact rd
  |some _=>exact(show False from r).elim
 |some _=>cases u with
  |none=>exact(show False from r).elim
  |some _=>exact r
theorem KV.val(r:KV kvs vs)(k:κ):RelO (valV kvs k) (valueAt vs k):=by
 unfold KV at r
 induction r with
 |nil=>exact True.intro
 | @cons p q ps qs h t ih=>
  obtain⟨h1,h2⟩:=h
  by_cases e:p.1=k
  ·have e':q.1=k:=h1.symm.trans e;have b:valueAt (q::qs) k=some q.2:=by simp[valueAt,Xw,e']
   rw[b1e e,b];exact h2
  ·have e':¬q.1=k:=λz=>e (h1.trans z)
   have b:valueAt (q::qs) k=valueAt qs k:=by simp[valueAt,Xw,e']
   rw[b1f e,b];exact ih
theorem KV.any(r:KV kvs vs)(k:κ):(kvs.any λkv=>decide (kv.1=k))=vs.any λkv=>decide (kv.1=k):=by
 unfold KV at r
 induction r with
 |nil=>rfl
 |cons h t ih=>rw[Ws,Ws,ih,h.1]
theorem KV.repl(r:KV kvs vs)(k:κ)(ry:RelV y u):
  KV (kvs.map λkv=>if kv.1=k then(kv.1,y)else kv) (vs.map λkv=>if kv.1=k then(kv.1,u)else kv):=by
 unfold KV at r ⊢
 induction r with
 |nil=>exact .nil
 | @cons p q ps qs h t ih=>
  rw[Z5,Z5];refine .cons ?_ ih;obtain⟨h1,h2⟩:=h
  by_cases e:p.1=k
  ·rw[if_pos e,if_pos (h1.symm.trans e)];exact⟨h1,ry⟩
  ·rw[if_neg e,if_neg (λz=>e (h1.trans z))];exact⟨h1,h2⟩
theorem KV.put(r:KV kvs vs)(k:κ)(ry:RelV y u):KV (putK kvs k y) (stored vs k u):=by
 unfold putK stored;rw[r.any k]
 by_cases e:(vs.any λkv=>decide (kv.1=k))=true
 ·rw[if_pos e,if_pos e];exact r.repl k ry
 ·rw[if_neg e,if_neg e];exact Sf r ⟨rfl,ry⟩
theorem KV.drop(r:KV kvs vs)(k:κ):KV (a4l kvs k) (without vs k):=by
 unfold KV at r ⊢;unfold a4l without
 induction r with
 |nil=>exact .nil
 | @cons p q ps qs h t ih=>
  obtain⟨h1,h2⟩:=h;rw[U3,U3]
  by_cases e:p.1=k
  ·have a:¬decide (p.1≠k)=true:=by simp[e]
   have b:¬decide (q.1≠k)=true:=by simp[h1.symm.trans e]
   rw[if_neg a,if_neg b];exact ih
  ·have e':¬q.1=k:=λz=>e (h1.trans z)
   have a:decide (p.1≠k)=true:=by simp[e]
   have b:decide (q.1≠k)=true:=by simp[e']
   rw[if_pos a,if_pos b];exact .cons ⟨h1,h2⟩ ih
theorem KV.length{kvs:List (κ×V)}{vs:List (κ×Value)}(r:KV kvs vs):kvs.length=vs.length:=Uy r
theorem d1j(kvs:List (κ×V))(k:κ):(a4l kvs k).length<=kvs.length:=List.length_filter_le _ _
end
theorem b1g(r:RelV (kV k) u):(a1p P w).is k u=true:=by
 cases k with
 |inl i=>obtain⟨t,e⟩:=(show ∃t,u=Value.int i t from r);subst e;exact a9o P w i t
 |inr x=>obtain⟨t,e⟩:=(show ∃t,u=Value.str x t from r);subst e;exact a9p P w x t
theorem b9l:∀{ks:List Key}{us:List Value},Vals (ks.map kV) us->ItemsAre (a1p P w) ks us
 | [],_,r=>by rw[U8]at r;cases r;exact .nil
 |k::ks,_,r=>by
  rw[Z5]at r;cases r with
  |cons h t=>exact .cons (b1g h) (b9l t)
abbrev KT(H:Hp):List (List Key×V)->List (List Key×Addr×Value)->Prop:=Paired λp q=>p.1=q.1/\H q.2.1=some (.tup (p.1.map kV))/\RelV p.2 q.2.2
theorem KT.val(r:KT H kvs xs)(k:List Key):RelO (valV kvs k) ((atKey xs k).map (·.2)):=by
 induction r with
 |nil=>exact True.intro
 | @cons p q ps qs h t ih=>
  obtain⟨h1,_,h2⟩:=h
  by_cases e:p.1=k
  ·have e':q.1=k:=h1.symm.trans e;have b:atKey (q::qs) k=some q.2:=by simp[atKey,Xw,e']
   rw[b1e e,b];exact h2
  ·have e':¬q.1=k:=λz=>e (h1.trans z)
   have b:atKey (q::qs) k=atKey qs k:=by simp[atKey,Xw,e']
   rw[b1f e,b];exact ih
theorem KT.repl(r:KT H kvs xs)(k:List Key)(ry:RelV y u):
  KT H (kvs.map λkv=>if kv.1=k then(kv.1,y)else kv) (xs.map (putAt k u)):=by
 induction r with
 |nil=>exact .nil
 | @cons p q ps qs h t ih=>
  rw[Z5,Z5];refine .cons ?_ ih;obtain⟨h1,h2,h3⟩:=h;unfold putAt
  by_cases e:p.1=k
  ·rw[if_pos e,if_pos (h1.symm.trans e)];exact⟨h1,h2,ry⟩
  ·rw[if_neg e,if_neg (λz=>e (h1.trans z))];exact⟨h1,h2,h3⟩
theorem KT.put(r:KT H kvs xs)(k:List Key)(hb:H b=some (.tup (k.map kV)))(ry:RelV y u):
  KT H (putK kvs k y) (storedH xs k b u):=by
 have e:(kvs.any λkv=>decide (kv.1=k))=(atKey xs k).isSome:=by
  rw[b5d,(r.val k).isSome_eq,Tz]
 unfold putK storedH;rw[e]
 by_cases q:(atKey xs k).isSome=true
 ·rw[if_pos q,if_pos q];exact r.repl k ry
 ·rw[if_neg q,if_neg q];exact Sf r ⟨rfl,hb,ry⟩
theorem KT.keeps(r:KT H kvs xs)(ht:∀b ys,H b=some (.tup ys)->H' b=some (.tup ys)):KT H' kvs xs:=
 Paired.mapP r λ_ _ z=>⟨z.1,ht _ _ z.2.1,z.2.2⟩
section
variable{P:Program}{w:World}{H:Hp}{h:Heap}{a:Addr}
theorem rd_of(ok:HOk P w H h)(e:Rd H a u):a1r P w H h a u:=e.ok ok
theorem a7z(ok:HOk P w H h)(e:Rd H a (.dK kvs)):kvs.length<=sizeLine/\(a==sysModules)=false/\∃vs,KV kvs vs/\h.DictOf (a1p P w) a vs:=
 show a1r P w H h a (.dK kvs)from rd_of ok e
theorem dk_of(ok:HOk P w H h)(e:H a=some (.dK kvs)):kvs.length<=sizeLine/\(a==sysModules)=false/\∃vs,KV kvs vs/\h.DictOf (a1p P w) a vs:=a7z ok (.inl e)
theorem a8m{ks:List Key}(ok:HOk P w H h)(e:H a=some (.tup (ks.map kV))):(tupleKind (a1p P w)).is h ks a:=by
 obtain⟨_,its,r,o,h1,h2,n,h3⟩:=(show a1r P w H h a (.tup (ks.map kV))from ok a _ e);exact⟨o,its.toArray,n,h1,h2,h3,by simpa using b9l r⟩
theorem b1h(ok:HOk P w H h)(e:Rd H a (.dT kvs)):kvs.length<=sizeLine/\(a==sysModules)=false/\
  ∃xs,KT H kvs xs/\h.DictOfH (tupleKind (a1p P w)) a xs:=by
 obtain⟨z,y,xs,r,o,es,ep,h1,h2,h3,h4,h5⟩:=(show a1r P w H h a (.dT kvs)from rd_of ok e);refine⟨z,y,xs,r,o,es,ep,h1,h2,h3,h4,λx hx=>?_,h5⟩;have all:∀{l:List (List Key×V)}{m:List (List Key×Addr×Value)},KT H l m->∀x∈m,(tupleKind (a1p P w)).is h x.1 x.2.1:=by
  intro l m q
  induction q with
  |nil=>intro x hx;exact nomatch hx
  | @cons p q ps qs hq t ih=>
   intro x hx;rcases Zu.mp hx with e|hx
   ·subst e;exact a8m ok (by rw[<-hq.1];exact hq.2.1)
   ·exact ih x hx
 exact all r x hx
theorem dt_of(ok:HOk P w H h)(e:H a=some (.dT kvs)):kvs.length<=sizeLine/\(a==sysModules)=false/\
  ∃xs,KT H kvs xs/\h.DictOfH (tupleKind (a1p P w)) a xs:=b1h ok (.inl e)
end
def DGet(H:Hp)(a:Addr)(y:V)(r:Option V):Prop:=
 (∃kvs k,Rd H a (.dK kvs)/\y=kV k/\r=valV kvs k)\/∃kvs k b,Rd H a (.dT kvs)/\y=.ref b/\H b=some (.tup (k.map kV))/\r=valV kvs k
def DPut(H:Hp)(a:Addr)(y v:V)(H':Hp):Prop:=
 (∃kvs k,H a=some (.dK kvs)/\y=kV k/\kvs.length<sizeLine/\H'=upd H a (.dK (putK kvs k v)))\/
 ∃kvs k b,H a=some (.dT kvs)/\y=.ref b/\H b=some (.tup (k.map kV))/\kvs.length<sizeLine/\H'=upd H a (.dT (putK kvs k v))
theorem DGet.k{H:Hp}{a:Addr}{kvs:List (Key×V)}{k:Key}(e:H a=some (.dK kvs)):DGet H a (kV k) (valV kvs k):=.inl ⟨kvs,k,.inl e,rfl,rfl⟩
theorem DGet.t{k:List Key}(e:H a=some (.dT kvs))(eb:H b=some (.tup (k.map kV))):DGet H a (.ref b) (valV kvs k):=.inr ⟨kvs,k,b,.inl e,rfl,eb,rfl⟩
theorem DPut.k{H:Hp}{a:Addr}{kvs:List (Key×V)}{k:Key}{v:V}(e:H a=some (.dK kvs))(hl:kvs.length<sizeLine):DPut H a (kV k) v (upd H a (.dK (putK kvs k v))):=.inl ⟨kvs,k,e,rfl,hl,rfl⟩
section
variable{X:Cx}{pj:List (Addr×Obj)}{σ:St}{H:Hp}{s:Shared}{a:Addr}{y v:V}{u r:Value}{o:Option V}{A:Around}{E:Value->Shared->Prop}
theorem Inv.big(I:Inv X pj σ H s):sysModules<s.heap.objs.size:=by
 have h:mainGlobals<s.heap.objs.size:=(I.mod.glob.keeps I.bk).lt;exact Nat.lt_trans qd h
theorem c7l(hu:A.units+1<cLine)(I:Inv X pj σ H s)(g:DGet H a y (some v))(ry:RelV y u)(h:∀w' s',Inv X pj σ H s'->RelV v w'->Q w' s'):
  wpAny (model X.prog X.w) A (getItem (.ref a) u) Q E s:=by
 rcases g with⟨kvs,k,e,ey,l⟩|⟨kvs,k,b,e,ey,eb,l⟩
 ·subst ey;obtain⟨z,hd,vs,rel,dd⟩:=a7z I.hok e;obtain⟨w',hw,rw'⟩:=RelO.some_of (v:=v) (o:=valueAt vs k) (by rw[l];exact rel.val k);exact wpAny_getItem_of (b1g ry) dd.mapOf hw (h w' _ (I.tok _) rw')
 ·subst ey
  cases(show u=Value.ref b from ry)
  obtain⟨z,hd,xs,rel,dd⟩:=b1h I.hok e;obtain⟨w',hw,rw'⟩:=RelO.some_of (v:=v) (o:=(atKey xs k).map (·.2)) (by rw[l];exact rel.val k);obtain⟨p,hp,hp2⟩:=U7.mp hw;refine wpAny_getItem_heap (W4 hu) (a8m I.hok eb) dd hp ?_;rw[hp2];exact h w' _ (I.tok _) rw'
theorem d_in(hu:A.units+1<cLine)(I:Inv X pj σ H s)(g:DGet H a y o)(ry:RelV y u)(h:∀s',Inv X pj σ H s'->Q (.bool o.isSome) s'):
  wpAny (model X.prog X.w) A (compareOp .In u (.ref a)) Q E s:=by
 rcases g with⟨kvs,k,e,ey,l⟩|⟨kvs,k,b,e,ey,eb,l⟩
 ·subst ey;obtain⟨z,hd,vs,rel,dd⟩:=a7z I.hok e;refine wpAny_in_of (b1g ry) hd dd.mapOf ?_;rw[<-(rel.val k).isSome_eq,<-l];exact h _ (I.tok _)
 ·subst ey
  cases(show u=Value.ref b from ry)
  obtain⟨z,hd,xs,rel,dd⟩:=b1h I.hok e;refine wpAny_in_heap (W4 hu) (a8m I.hok eb) hd dd ?_;have q:=(rel.val k).isSome_eq;rw[Tz]at q;rw[<-q,<-l];exact h _ (I.tok _)
theorem d_notIn(hu:A.units+1<cLine)(I:Inv X pj σ H s)(g:DGet H a y o)(ry:RelV y u)(h:∀s',Inv X pj σ H s'->Q (.bool (!o.isSome)) s'):
  wpAny (model X.prog X.w) A (compareOp .NotIn u (.ref a)) Q E s:=by
 rcases g with⟨kvs,k,e,ey,l⟩|⟨kvs,k,b,e,ey,eb,l⟩
 ·subst ey;obtain⟨z,hd,vs,rel,dd⟩:=a7z I.hok e;refine wpAny_notIn_of (b1g ry) hd dd.mapOf ?_;rw[<-(rel.val k).isSome_eq,<-l];exact h _ (I.tok _)
 ·subst ey
  cases(show u=Value.ref b from ry)
  obtain⟨z,hd,xs,rel,dd⟩:=b1h I.hok e;refine wpAny_notIn_heap (W4 hu) (a8m I.hok eb) hd dd ?_;have q:=(rel.val k).isSome_eq;rw[Tz]at q;rw[<-q,<-l];exact h _ (I.tok _)
theorem b3x(I:Inv X pj σ H s)(mu:Mut (H a))(hs:Heap.SameBut a s.heap h')(he:∃q,h'.get? a=some q)(new:a1r X.prog X.w (upd H a ob) h' a ob):
  Inv X pj σ (upd H a ob) { s with heap:=h',toks:=t'}:=
 I.write (x:=a) (e:=a) mu (.inl rfl) (λb q hb z=>(hs.2 b hb).trans z) he new
theorem c7m{h':Heap}{kvs:List (Key×V)}(z:kvs.length<=sizeLine)(hd:(a==sysModules)=false)(rel:KV kvs vs)(dd:h'.DictOf (a1p P w) a vs):
  a1r P w H' h' a (.dK kvs):=⟨z,hd,vs,rel,dd⟩
theorem c7n(hu:A.units+1<cLine)(I:Inv X pj σ H s)(g:DPut H a y v H')(ry:RelV y u)(rv:RelV v r)(h:∀s',Inv X pj σ H' s'->Q () s'):
  wpAny (model X.prog X.w) A (setItem (.ref a) u r) Q E s:=by
 rcases g with⟨kvs,k,e,ey,l,eH⟩|⟨kvs,k,b,e,ey,eb,l,eH⟩
 ·subst ey eH;obtain⟨z,hd,vs,rel,dd⟩:=dk_of I.hok e;have hz:vs.length<=sizeLine:=by rw[<-rel.length];exact z
  have hl:(putK kvs k v).length<=sizeLine:=by have:=a9r kvs k v;omega
  refine wpAny_setItem_pairs (hsz:=hz) (b1g ry) dd λh' dd' hs=>h _ ?_
  have he:∃q,h'.get? a=some q:=let⟨q,_,_,hq,_⟩:=dd';⟨q,hq⟩
  exact b3x I (by rw[e];exact True.intro) hs he (c7m hl hd (rel.put k rv) dd')
 ·subst ey eH
  cases(show u=Value.ref b from ry)
  obtain⟨z,hd,xs,rel,dd⟩:=dt_of I.hok e;have hz:xs.length<=sizeLine:=by rw[<-Uy rel];exact z
  have hl:(putK kvs k v).length<=sizeLine:=by have:=a9r kvs k v;omega
  refine wpAny_setItem_heap (hsz:=hz) (W4 hu) (a8m I.hok eb) dd λh' dd' hs=>h _ ?_
  obtain⟨q,es,ep,hq,h2,h3,h4,_,h5⟩:=dd';refine b3x I (by rw[e];exact True.intro) hs ⟨q,hq⟩ ⟨hl,hd,_,(rel.put k eb rv).keeps λc ys ec=>?_,q,es,ep,hq,h2,h3,h4,h5⟩;rw[a0f (a1a ec e (λz=>nomatch z))];exact ec
end
section
variable{X:Cx}{pj:List (Addr×Obj)}{σ:St}{H:Hp}{s:Shared}{a:Addr}{kvs:List (Key×V)}{k:Key}{u:Value}{A:Around}{E:Value->Shared->Prop}
theorem d_pop(I:Inv X pj σ H s)(e:H a=some (.dK kvs))(ry:RelV (kV k) u)(l:valV kvs k=some v)(hm:more=[]\/∃x,more=[x])
  (h:∀w' s',Inv X pj σ (upd H a (.dK (a4l kvs k))) s'->RelV v w'->Q w' s'):wpAny (model X.prog X.w) A (call (.builtin "dict.pop") (.ref a::u::more)) Q E s:=by
 obtain⟨z,hd,vs,rel,dd⟩:=dk_of I.hok e;obtain⟨w',hw,rw'⟩:=RelO.some_of (v:=v) (o:=valueAt vs k) (by rw[<-l];exact rel.val k);have hp:(keyPart u).isSome=true:=by
  cases k with
  |inl i=>obtain⟨t,q⟩:=(show ∃t,u=Value.int i t from ry);subst q;rfl
  |inr x=>obtain⟨t,q⟩:=(show ∃t,u=Value.str x t from ry);subst q;rfl
 have ha:argsOk "dict.pop" ⟨.ref a::u::more,[]⟩:=by
  rcases hm with q|⟨x,q⟩
  ·subst q;exact F.args_dict_pop_2 _ _
  ·subst q;exact F.args_dict_pop_3 _ _ _
 refine Tx F.slot_dict_pop dd.typeIs F.entry_dict_pop ha (meets_dict_pop_there (a1p X.prog X.w) a (b1g ry) more hm hp)
  ⟨vs,w',dd,by rw[<-rel.length];exact z,hw,λh' dd' hs=>h w' _ ?_ rw'⟩
 have he:∃q,h'.get? a=some q:=let⟨q,_,_,hq,_⟩:=dd';⟨q,hq⟩
 exact b3x I (by rw[e];exact True.intro) hs he (c7m (Yn (d1j kvs k) z) hd (rel.drop k) dd')
theorem d_len(I:Inv X pj σ H s)(e:Rd H a (.dK kvs))(h:∀t s',Inv X pj σ H s'->Q (.int kvs.length t) s'):wpAny (model X.prog X.w) A (call (.builtin "len") [.ref a]) Q E s:=by
 obtain⟨z,hd,vs,rel,dd⟩:=a7z I.hok e;refine call_len_dict hd dd (by rw[<-rel.length];rw[Y3]at z;omega) ?_;rw[<-rel.length];exact h _ _ (I.tok _)
end
def NoSl(i:Expr):Prop:=∀ov iv,subscripted i false ov iv=operate [ov,iv] (getItem ov iv)
theorem subD_of{E:Value->Shared->Prop}{value slice:Expr}{T id:String}{Q:Value->Shared->Prop}
  (hl:typeLookup (.type T) "__getitem__"=pure (some (.builtin id)))(hs:NoSl slice)
  (h:wpAny (model prog w) A (eval value env) (λo s₁=>wpAny (model prog w) A (eval slice env) (λi s₂=>s₂.TypeIs o T/\wpAny (model prog w) A (getItem o i) Q E s₂) E s₁) E s):
  wpAny (model prog w) A (eval (.Subscript value slice pos) env) Q E s:=by
 refine Qf (Wb h (λo s₁ h₁=>Wb h₁ (λi s₂ h₂=>?_) λ_ _ x=>x) λ_ _ x=>x);obtain⟨hT,h₂⟩:=h₂;unfold subscriptTail;refine Zi ?_;rw[getitemInPython_of_ne hT.not_modules];refine Zi (Y8 hT hl ?_);have fin:wpAny (model prog w) A (subscripted slice false o i) (λr s₃=>wpAny (model prog w) A (letTemporaryGo value o r>>=λ_=>pure r) Q E s₃) E s₂:=by
  rw[hs o i];exact wpAny_operating (Wb h₂ (λr s₃ h₃=>Zi (wpAny_letTemporaryGo (Zp h₃))) λ_ _ x=>x)
 first
  |exact Zp (Zi fin)
  |exact Zi (Zp (Zi fin))
  |exact Zi fin
theorem c3h{X:Cx}{pj:List (Addr×Obj)}{σ:St}{H:Hp}{s:Shared}{a:Addr}{y:V}{o:Option V}(I:Inv X pj σ H s)(g:DGet H a y o):s.TypeIs (.ref a) "dict":=by
 rcases g with⟨kvs,k,e,_,_⟩|⟨kvs,k,b,e,_,_,_⟩
 ·obtain⟨_,_,vs,_,dd⟩:=a7z I.hok e;exact dd.typeIs
 ·obtain⟨_,_,xs,_,dd⟩:=b1h I.hok e;exact dd.typeIs
def tDGet(td ty:TE):TE:=λσ H Q=>td σ H λx H1=>ty σ H1 λy H2=>∃a v,x=.ref a/\DGet H2 a y (some v)/\Q v H2
def sDPut(td ty tv:TE):TS:=λD σ H=>tv σ H λv H1=>td σ H1 λx H2=>ty σ H2 λy H3=>∃a H4,x=.ref a/\DPut H3 a y v H4/\D.nx σ H4
section
variable{X:Cx}{o i e value:Expr}{pos pos' tpos:Pos}{td ty tv:TE}
theorem b8c(hu:X.A.units+1<cLine)(ho:PE X o td)(hi:PE X i ty)(hs:NoSl i):PE X (.Subscript o i pos) (tDGet td ty):=by
 intro pj s σ H Q I h;refine subD_of F.slot_dict_getitem.lookup hs (thn (ho pj s σ H _ I h) λu s1 ⟨x,H1,I1,rx,q1⟩=>thn (hi pj s1 σ H1 _ I1 q1) λiv s2 z9=>?_);obtain⟨y,H2,I2,ry,a,v,ex,g,q2⟩:=z9;subst ex;obtain rfl:u=Value.ref a:=rx;exact⟨c3h I2 g,c7l hu I2 g ry λw' s3 I3 rw'=>⟨v,H2,I3,rw',q2⟩⟩
theorem b0c(hu:X.A.units+1<cLine)(ho:PE X o td)(hi:PE X i ty)(hv:PE X value tv)(hs:swapsWith value (some (.Subscript o i pos')) pos.line X.env=pure false):
  PS X (.Assign [.Subscript o i pos'] value pos) (sDPut td ty tv):=by
 intro pj s σ H D I h;refine wpAny_Assign_Subscript (thn (hv pj s σ H _ I h) λr s1 ⟨v,H1,I1,rv,q1⟩=>thn (ho pj s1 σ H1 _ I1 q1) λu s2 ⟨x,H2,I2,rx,q2⟩=>thn (hi pj s2 σ H2 _ I2 q2) λiv s3 ⟨y,H3,I3,ry,a,H4,ex,g,q3⟩=>?_) hs;subst ex;obtain rfl:u=Value.ref a:=rx;exact c7n hu I3 g ry rv λs4 I4=>⟨σ,H4,I4,q3⟩
end
theorem d1k(h:Heap)(hb:sysModules<h.objs.size):a1r P w H (h.push { cls:=.type "dict",data:=.dict #[]}) h.objs.size (.dK []):=
 ⟨Z0 _,Xs.mpr (Ne.symm (Z1 hb)),[],.nil,Heap.DictOf.new h⟩
theorem d1l(h:Heap)(hb:sysModules<h.objs.size):a1r P w H (h.push { cls:=.type "dict",data:=.dict #[]}) h.objs.size (.dT []):=
 ⟨Z0 _,Xs.mpr (Ne.symm (Z1 hb)),[],.nil,_,#[],0,Zv _ rfl,⟨rfl,rfl,rfl⟩,rfl,rfl,List.nodup_nil⟩
def tDNewK:TE:=λ_ H Q=>∀p,H p=none->Q (.ref p) (upd H p (.dK []))
def tDNewT:TE:=λ_ H Q=>∀p,H p=none->Q (.ref p) (upd H p (.dT []))
section
variable{X:Cx}{pos:Pos}
theorem a5p:PE X (.Dict [] [] pos) tDNewK:=λpj s σ H Q I h=>
 wpAny_Dict_empty ⟨.ref s.heap.objs.size,_,I.laid (a:=s.heap.objs.size) (o:=.dK []) (t':=s.toks) (λ_ _ q=>Zk _ q) (Zn _) (d1k s.heap I.big),rfl,h _ (I.hok.fresh (Zn _))⟩
theorem d1m:PE X (.Dict [] [] pos) tDNewT:=λpj s σ H Q I h=>
 wpAny_Dict_empty ⟨.ref s.heap.objs.size,_,I.laid (a:=s.heap.objs.size) (o:=.dT []) (t':=s.toks) (λ_ _ q=>Zk _ q) (Zn _) (d1l s.heap I.big),rfl,h _ (I.hok.fresh (Zn _))⟩
end
structure M2(X:Cx)(o:Expr)(m:Str)(apos:Pos)(e f:Expr)(cpos:Pos):Prop where
 base:attributeBase o m X.env (eval o X.env)=eval o X.env
 few:((backTo cpos (starEach [e,f] X.env)).all (λx=>!x.1)&&(backToKw cpos (keywordEach [] X.env)).all (λx=>x.1.isSome)
  &&decide (([e,f]:List Expr).length+([]:List Keyword).length+(if([]:List Keyword).isEmpty then 0 else 1)<30))=true
 line:(apos.endLine==cpos.line)=true
 trees:backTo cpos (starEach [e,f] X.env)=[(false,eval e X.env),(false,eval f X.env)]
def IsD(H:Hp)(a:Addr):Prop:=(∃kvs,Rd H a (.dK kvs))\/∃kvs,Rd H a (.dT kvs)
theorem isD_at{X:Cx}{pj:List (Addr×Obj)}{σ:St}{H:Hp}{s:Shared}{a:Addr}(I:Inv X pj σ H s)(d:IsD H a):
  s.TypeIs (.ref a) "dict"/\(∀b,Value.ref a=.ref b->∃ob,s.heap.get? b=some ob/\ob.dict=none)/\(a==sysModules)=false:=by
 rcases d with⟨kvs,e⟩|⟨kvs,e⟩
 ·obtain⟨_,hd,vs,_,dd⟩:=a7z I.hok e;refine⟨dd.typeIs,λb q=>?_,hd⟩;cases q;obtain⟨ob,_,_,h1,h2,_⟩:=dd;exact⟨ob,h1,h2.2.1⟩
 ·obtain⟨_,hd,xs,_,dd⟩:=b1h I.hok e;refine⟨dd.typeIs,λb q=>?_,hd⟩;cases q;obtain⟨ob,_,_,h1,h2,_⟩:=dd;exact⟨ob,h1,h2.2.1⟩
section
variable{X:Cx}{pj:List (Addr×Obj)}{σ:St}{H:Hp}{s:Shared}{a:Addr}{y d:V}{u r:Value}{o:Option V}{A:Around}{E:Value->Shared->Prop}
theorem d_get2(hu:A.units+1<cLine)(I:Inv X pj σ H s)(g:DGet H a y o)(ry:RelV y u)(rd:RelV d r)(h:∀w' s',Inv X pj σ H s'->RelV (o.getD d) w'->Q w' s'):
  wpAny (model X.prog X.w) A (call (.builtin "dict.get") [.ref a,u,r]) Q E s:=by
 rcases g with⟨kvs,k,e,ey,l⟩|⟨kvs,k,b,e,ey,eb,l⟩
 ·subst ey;obtain⟨z,hd,vs,rel,dd⟩:=a7z I.hok e;refine Tx Sl dd.typeIs F.entry_dict_get (F.args_dict_get_3 _ _ _) (meets_dict_get_default (a1p X.prog X.w) a (b1g ry) hd r) ⟨_,dd.mapOf,h _ _ (I.tok _) ?_⟩;rw[l];exact(rel.val k).getD rd
 ·subst ey
  cases(show u=Value.ref b from ry)
  obtain⟨z,hd,xs,rel,dd⟩:=b1h I.hok e;refine Tx Sl dd.typeIs F.entry_dict_get (F.args_dict_get_3 _ _ _) (meetsH_dict_get_default (tupleKind (a1p X.prog X.w)) a b hd r) ⟨W4 hu,k,xs,a8m I.hok eb,dd,h _ _ (I.tok _) ?_⟩;rw[l];exact(rel.val k).getD rd
end
def c7o(td ty tx:TE):TE:=λσ H Q=>td σ H λx H1=>∃a,x=.ref a/\IsD H1 a/\ty σ H1 λy H2=>tx σ H2 λz H3=>∃o,DGet H3 a y o/\Q (o.getD z) H3
section
variable{X:Cx}{o e f:Expr}{apos cpos:Pos}{td ty tx:TE}
theorem d1n(hu:X.A.units+1<cLine)(ho:PE X o td)(he:PE X e ty)(hf:PE X f tx)(m:M2 X o "get" apos e f cpos):PE X (.Call (.Attribute o "get" apos) [e,f] [] cpos) (c7o td ty tx):=by
 intro pj s σ H Q I h;refine wpAny_Call_method m.base m.few m.line T6 Sl F.type_dict_get (thn (ho pj s σ H _ I h) λu s1 z9=>?_);obtain⟨x,H1,I1,rx,a,ex,d,q1⟩:=z9;subst ex;obtain rfl:u=Value.ref a:=rx;obtain⟨t1,t2,_⟩:=isD_at I1 d;refine⟨t1,t2,?_⟩;rw[m.trees]
 refine Ta rfl (Ry (Vp (thn (he pj s1 σ H1 _ I1 q1) λiv s2 ⟨y,H2,I2,ry,q2⟩=>
  Vp (thn (hf pj s2 σ H2 _ I2 q2) λfv s3 ⟨z,H3,I3,rz,ov,g,q3⟩=>Vx ?_))))
 exact d_get2 hu I3 g ry rz λw' s4 I4 rw'=>⟨_,H3,I4,rw',q3⟩
end
end L2
namespace Att
open PySem PySem.W PySem.Calls PyProof.Rows
theorem b6i:∀(ns:List Int)(vs:List Value),WellAll P h vs (ns.map WData.int)->IntsAre vs ns:=by
 intro ns
 induction ns with
 |nil=>
  intro vs w;rw[U8]at w;cases w;exact .nil
 |cons n ns ih=>
  intro vs w;rw[Z5]at w;cases w with
  |cons a b=>
   cases a;exact .cons _ _ (ih _ b)
theorem c7p{l:OpenLaw}(hn:l.most=some n)
  (hpre:l.row.toRowW.claim.pre args=true)(hwl:WellAll P h vals args):
  ∃a vs ns,vals=[Value.ref a]/\args=[WData.list (ns.map WData.int)]/\h.get? a=some { cls:=.type "list",data:=.seq vs.toArray}/\IntsAre vs ns/\ns.length<=n:=by
 have hsh:WShape.hasAll [] args [.list .int]=true:=(pre_splitW hpre).1;have hc:l.pre.holds [] { args:=args}=true:=(pre_splitW hpre).2;obtain⟨d,r,rfl,h1,h2⟩:=hasAllW_cons hsh;obtain rfl:=hasAllW_nil h2;obtain⟨xs,rfl,h3⟩:=hasW_list h1;obtain⟨ns,rfl⟩:=items_int h3;have hlen:ns.length<=n:=by
  unfold OpenLaw.pre at hc;have h4:(WTm.not (.lt (.lit (.int (n:Int))) (.len (.arg 0)))).holds [] { args:=[.list (ns.map .int)]}=true:=by
   have h4:=(holds_andW hc).1;rw[hn]at h4;exact h4
  have h5:=condW_of h4 (w_not (w_lt w_lit (w_len_list (w_arg rfl))));rw[length_map]at h5;refine Nat.le_of_not_lt λq=>?_
  have q':(n:Int)<((ns.length:Nat):Int):=by omega
  first
   | (rw[Ye q']at h5;exact absurd h5 qd)
   | (simp at h5;omega)
 cases hwl with
 |cons w1 w2=>
  cases w2;cases w1 with
  |list ho hall=>exact⟨_,_,ns,rfl,rfl,ho,b6i ns _ hall,hlen⟩
theorem c7q(l:OpenLaw)(args:List WData):l.row.toRowW.claim.post args (.bool true) args=true:=
 postW_of (r:=l.row.toRowW) (X:=(true==true))
  (show WShape.has [] (.bool true) .bool=true by first|rfl|decide|simp[WShape.has,WShape.arms,WShape.armsAll])
  (show(WTm.eq .res (.lit (.bool true))).value [] { args:=args,res:=some (.bool true),after:=args}=some (.bool (true==true))from w_eq_bool (w_res rfl) w_lit) rfl
theorem attach_call{l:OpenLaw}{d:DefRec}
  (hn:l.most=some n)(hdf:d.params.defaults=[])
  (call:∀(w:World)(s₀ s₁:Shared)(mg mb:Str->Option Value)(fa:Addr)(o:Obj)(pm cd doc:Value)(a:Addr)(vs:List Value)(ns:List Int),
   Ground q loose [] XP w s₀ mg mb s₁.heap->YP w s₁.heap->
   s₁.heap.get? fa=some o->o.data=.func (docDef d.name d.params d.body d.scope pm cd doc)->s₁.heap.CodeRec cd d.name->mg d.name=some (.ref fa)->
   s₁.heap.get? a=some { cls:=.type "list",data:=.seq vs.toArray}->IntsAre vs ns->ns.length<=n->s₁.gens= #[]->
   codeAny (model l.prog w) callerA (.call (.ref fa) ⟨[.ref a],[]⟩) (λr s'=>r=.ok (.ret (.bool true))/\OldK s₁.heap s'.heap/\s'.os=s₁.os/\AllBare s'.gens) s₁):
  WalkO q loose XP YP l.row.toRowW d [] (λf vs=>PySem.call f vs):=by
 intro w s₀ s₁ mg mb G Y fa o pm cd doc dV kV ho hd hcd hD hmg hg args vals as hpre hlay hrd hwl hlo;obtain rfl:dV=.none:=Dflts.none hD hdf;obtain rfl:kV=.none:=Dflts.noKw hD;obtain⟨a,vs,ns,rfl,rfl,hobj,hints,hlen⟩:=c7p hn hpre hwl;refine enter_call (Vt (call w s₀ s₁ mg mb fa o pm cd doc a vs ns G Y ho (fd_plain hd) hcd hmg hobj hints hlen hg) λr s' hq=>?_);obtain⟨rfl,h2,h3,h4⟩:=hq;exact⟨.inl ⟨.bool true,.bool true,[],rfl,λ_=>rfl,.bool true,c7q l _,λ_=>⟨List.Pairwise.nil,λ_ hm=>(nomatch hm)⟩⟩,h2,h3,h4⟩
end Att
namespace L2
open PySem PySem.Spec PyProof.Rows
theorem b9m:∀{vs:List Value}{ns:List Int},IntsAre vs ns->Vals (ns.map V.int) vs
 |_,_,.nil=>.nil
 |_,_,.cons n t h=>.cons ⟨t,rfl⟩ (b9m h)
def Only(H:Hp):Prop:=∀b,H b=none\/∃o xs,H b=some (.frz o (.lst xs))
theorem d1o{K:FG}{s₁:Shared}{vs:List Value}
  (KX:K.In s₁.heap)(hns:s₁.heap.Ns mainGlobals mg)(hb:s₁.heap.Ns builtinsNs mb)(hbb:∀x:Str,x≠"__name__"->mb x=bootBuiltins x)(hlim:s₁.heap.NoLimit)(hg:s₁.gens= #[])
  (ha:s₁.heap.get? a=some { cls:=.type "list",data:=.seq vs.toArray})(hi:IntsAre vs ns)(hl:ns.length<=sizeLine)(hr:Room k callerA)
  (F:∀base:Heap,K.In base->base.Ns mainGlobals mg->FnOk P w K mg base CX k fa fd [x] sp)(hbind:∀(s:Shared)(u:Value),BindsTo s fd ⟨[u],[]⟩ [(x,u)])
  (hsp:∀H:Hp,Only H->SqL K H a (ns.map V.int)->sp [.ref a] H (λv _=>v=.bl true) λ_ _ _=>False)
  (hCX:∀H e s',CX [] H s₁ (λ_ _ _=>False) e s'->False):
  codeAny (model P w) callerA (.call (.ref fa) ⟨[.ref a],[]⟩) (λr s'=>r=.ok (.ret (.bool true))/\OldK s₁.heap s'.heap/\s'.os=s₁.os/\AllBare s'.gens) s₁:=by
 have rv:=b9m hi;have lenV:=hi.length;have core:∀H:Hp,Only H->SqL K H a (ns.map V.int)->HOk P w H s₁.heap->(∀b,H b≠none->b=a)->(H a≠none->K.lookup a=none)->
   codeAny (model P w) callerA (.call (.ref fa) ⟨[.ref a],[]⟩) (λr s'=>r=.ok (.ret (.bool true))/\OldK s₁.heap s'.heap/\s'.os=s₁.os/\AllBare s'.gens) s₁:=by
  intro H hO hS hok hA hK;have base_of:∀{b:Addr}{o:Obj},s₁.heap.get? b=some o->H b=none->(hidT s₁.heap H).get? b=some o:=λe n=>d0z e n
  have noA:∀{b:Addr}{o:Obj}{es:Array DictEntry}{ep:Nat},s₁.heap.get? b=some o->o.data=.dict es ep->H b=none:=λ{b o es ep} e d=>by
   cases q:H b with
   |none=>rfl
   |some u=>
    have e':b=a:=hA b (by rw[q];simp);subst e';rw[ha]at e;cases e;have d':Data.seq vs.toArray _=Data.dict es ep:=d;cases d'
  have nsK:∀{b:Addr}{m:Str->Option Value},s₁.heap.Ns b m->(hidT s₁.heap H).Ns b m:=λ{b m} ⟨o,es,ep,e,d,r⟩=>⟨o,es,ep,base_of e (noA e d),d,r⟩
  have hKb:K.In (hidT s₁.heap H):=λb o e=>base_of (KX b o e) (by
   cases q:H b with
   |none=>rfl
   |some u=>
    have e':b=a:=hA b (by rw[q];simp);subst e'
    rw[hK (by rw[q];simp)]at e;cases e)
  have hM:Mod K mg (hidT s₁.heap H):=⟨hKb,nsK hns,⟨mb,nsK hb,hbb⟩,let⟨mc,h1,h2⟩:=hlim;⟨mc,nsK h1,h2⟩⟩;have e0:Env0 P w K mg (hidT s₁.heap H) callerA [] s₁ H:=⟨rfl,hM,λb o e=>of_hidT e,Nat.le_of_eq (c6v _ _),trivial,λb hb=>absurd (show b∈([]:List Addr)from hb) qz,hok,.of_eq hg⟩;refine Vt ((F _ hKb (nsK hns)).run callerA [] s₁ H ⟨[.ref a],[]⟩ [.ref a] [.ref a] _ _ hr e0 (hbind s₁ (.ref a)) (.cons rfl .nil) (hsp H hO hS)) λr s' h=>?_
  cases r with
  |error e=>exact(hCX H e s' h).elim
  |ok fl=>
   cases fl with
   |next=>exact False.elim h
   |brk=>exact False.elim h
   |cont=>exact False.elim h
   |ret u=>
    obtain⟨v,H',os,bare,un,hok',r',q⟩:=h;have q':v=.bl true:=q;subst q';obtain rfl:u=Value.bool true:=r';refine⟨rfl,OldK.of_keep λb o e=>?_,os,bare⟩;cases q:H b with
    |none=>exact un.keep b o e q (by intro z;exact absurd (show b∈([]:List Addr)from z) qz) qz
    |some u=>
     rcases hO b with z|⟨ob,xs,z⟩
     ·rw[q]at z;cases z
     ·have z2:=un.frzs b ob _ z;obtain⟨e1,_⟩:=hok b _ z;obtain⟨e2,_⟩:=hok' b _ z2;rw[e]at e1;cases e1;exact e2
 cases hk:K.lookup a with
 |some o=>
  have e:=KX a o hk;rw[ha]at e;cases e;refine core (λ_=>none) (λ_=>.inl rfl) (.inr ⟨_,vs.toArray,_,hk,rfl,rfl,rfl,by rw[Zm,lenV];exact hl,by simpa using rv⟩) (λb u z=>by have z':(none:Option HO)=some u:=z;cases z') (λb z=>absurd rfl z) λz=>absurd rfl z
 |none=>
  refine core (λb=>if b=a then some (.frz { cls:=.type "list",data:=.seq vs.toArray} (.lst (ns.map V.int)))else none) (λb=>?_) (.inl (.inr ⟨{ cls:=.type "list",data:=.seq vs.toArray},if_pos rfl⟩)) (λb u z=>?_) (λb z=>?_) λ_=>hk
  ·by_cases hb:b=a
   ·exact .inr ⟨_,_,if_pos hb⟩
   ·exact .inl (if_neg hb)
  ·by_cases hb:b=a
   ·have z':=(if_pos hb).symm.trans z;cases z';subst hb;exact⟨ha,by rw[length_map];exact hl,vs,_,rv,ha⟩
   ·have z':=(if_neg hb).symm.trans z;cases z'
  ·by_cases hb:b=a
   ·exact hb
   ·exact absurd (if_neg hb) z
abbrev KOf{K:W.Frag}(_:K.In h):W.Frag:=K
theorem walk_of{l:W.OpenLaw}{n k:Nat}{XP:(Str->Option Value)->Heap->Prop}{YP:World->Heap->Prop}{d:DefRec}{K:Params->W.Frag}{CX:World->CXT}{sp:World->Sp}
  (hn:l.most=some n)(hn2:n<=sizeLine)(hdf:d.params.defaults=[])(hr:Room k callerA)
  (hY:∀(w:World)(h:Heap),YP w h->(K w.params).In h)
  (F:∀(w:World)(mg:Str->Option Value)(fa:Addr)(h:Heap),(K w.params).In h->h.Ns mainGlobals mg->mg d.name=some (.ref fa)->
   ∃fd:FuncData,(∀(s:Shared)(u:Value),BindsTo s fd ⟨[u],[]⟩ [(x,u)])/\
    ∀base:Heap,(K w.params).In base->base.Ns mainGlobals mg->FnOk l.prog w (K w.params) mg base (CX w) k fa fd [x] (sp w))
  (hsp:∀(w:World)(H:Hp)(a:Addr)(ns:List Int),ns.length<=n->Only H->SqL (K w.params) H a (ns.map V.int)->sp w [.ref a] H (λv _=>v=.bl true) λ_ _ _=>False)
  (hCX:∀(w:World)(H:Hp)(s:Shared)(e:Value)(s':Shared),CX w [] H s (λ_ _ _=>False) e s'->False):
  W.WalkO q loose XP YP l.row.toRowW d [] (λf vs=>PySem.call f vs):=by
 refine Att.attach_call hn hdf λw s₀ s₁ mg mb fa o pm cd doc a vs ns G Y ho hd hcd hmg hobj hints hlen hg=>?_
 have KX:=hY w _ Y;obtain⟨fd,hb,hF⟩:=F w mg fa _ KX G.T.g hmg;exact d1o KX G.T.g G.T.b G.T.builtins G.T.nolimit hg hobj hints (Yn hlen hn2) hr hF hb (λH hO hS=>hsp w H a ns hlen hO hS) λH e s'=>hCX w H s₁ e s'
noncomputable def inClass(s:Stmt)(j:Nat):Stmt:=match s with
 | .ClassDef _ _ _ body _ _ _ _ _ _ _=>body.getD j (.Pass ⟨0,0,0,0⟩)
 |_=>.Pass ⟨0,0,0,0⟩
def a4z(s:Stmt):Arguments:=match s with
 | .FunctionDef _ a _ _ _ _ _ _ _ _=>a
 |_=>{ posonlyargs:=[],args:=[],vararg:=none,kwonlyargs:=[],kw_defaults:=[],kwarg:=none,defaults:=[]}
def a3l(s:Stmt):List Stmt:=match s with
 | .FunctionDef _ _ b _ _ _ _ _ _ _=>b
 |_=>[]
def a0i(s:Stmt):Scope:=match s with
 | .FunctionDef _ _ _ _ _ _ sc _ _ _=>sc
 |_=>{ kind:=.function,names:=[],isGenerator:=false,isCoroutine:=false}
abbrev CX0:CXT:=λ_ _ _ _ _ _=>False
abbrev E0:XK:=λ_ _ _=>False
theorem a0m:a5j CX0 X E0:=λ_ _ _ _ _ _ _ h=>h.elim
structure Fun(K:W.Frag)(x qual:Str)(st:Stmt)(f:Addr)(fd:FuncData):Prop where
 ex:∃(oc:Value)(od:Option Addr)(kV doc pm:Value)(an:Option Addr)(cdv ct:Value)(osl:Array (Option Value)),
  fd=W.fnOf x qual (a4z st) (a3l st) (a0i st) .none kV doc pm an cdv ct/\K.lookup f=some ⟨oc,od,.func fd,osl⟩/\W.codeIn K cdv qual=true
 kp:W.keepIn K (.ref f)=true
section
variable{P:Program}{w:World}{K:W.Frag}{mg:Str->Option Value}{base:Heap}
theorem Fun.ok{x qual:Str}{st:Stmt}{f:Addr}{fd:FuncData}{N ps:List Str}{k:Nat}{sp:Sp}(F:Fun K x qual st f fd)(S:a0q N ps (a0i st))(len:∀vs H Q E,sp vs H Q E->vs.length=ps.length)
  (hbody:∀(cdv:Value)(A:Around)(outer:List Env)(s:Shared)(H:Hp)(vs:List V)(Q:VK)(E:XK),Room k (A.deeper (envOfC qual (a0i st) s.heap.objs.size f cdv))->sp vs H Q E->
   ∃t,PSs (cxOf CX0 P w K mg base N qual (a0i st) f cdv A outer s H E).nox (a3l st) t/\t { nx:=λ_ H'=>Q .non H',rt:=Q} (start N vs) H):FnOk P w K mg base CX0 (k+1) f fd ps sp:=by
 obtain⟨oc,od,kV,doc,pm,an,cdv,ct,osl,rfl,lk,hcd⟩:=F.ex;refine fn_of lk hcd S len λA outer s H vs Q E hr hsp=>?_
 obtain⟨t,h,q⟩:=hbody cdv A outer s H vs Q E hr hsp;exact⟨t,h.nox,q⟩
theorem fun_mk{x qual:Str}{st:Stmt}{f:Addr}{oc:Value}{od an:Option Addr}{osl:Array (Option Value)}{kV doc pm cdv ct:Value}(l:K.lookup f=some ⟨oc,od,.func (W.fnOf x qual (a4z st) (a3l st) (a0i st) .none kV doc pm an cdv ct),osl⟩)
  (c:W.codeIn K cdv qual=true)(k:W.keepIn K (.ref f)=true):Fun K x qual st f (W.fnOf x qual (a4z st) (a3l st) (a0i st) .none kV doc pm an cdv ct):=⟨⟨oc,od,kV,doc,pm,an,cdv,ct,osl,rfl,l,c⟩,k⟩
end
theorem a5l(hr:Room k A):A.units+1<cLine:=Nat.lt_of_le_of_lt (Nat.add_le_add_left (by decide:1<=64) _) hr.units
theorem iteF{A B:Prop}(h:B):if false=true then A else B:=by
 rw[if_neg Zr];exact h
theorem iteT{A B:Prop}(h:A):if true=true then A else B:=by
 rw[if_pos rfl];exact h
def Same(H H':Hp):Prop:=∀b o,H b=some o->H' b=some o
theorem Same.refl(H:Hp):Same H H:=λ_ _ h=>h
theorem Same.trans(a:Same H H1)(b:Same H1 H2):Same H H2:=λc o h=>b c o (a c o h)
theorem Same.free(e:Same H H')(h:H' l=Option.none):H l=Option.none:=by
 cases q:H l with
 |none=>rfl
 |some o=>
  rw[e l o q]at h;cases h
theorem Same.seq{K:FG}{H H':Hp}{a:Addr}{xs:List V}(e:Same H H')(h:SqL K H a xs):SqL K H' a xs:=by
 rcases h with(h|⟨o,h⟩)|h
 ·exact .inl (.inl (e _ _ h))
 ·exact .inl (.inr ⟨o,e _ _ h⟩)
 ·exact .inr h
section
variable{X:Cx}
theorem c7r:a3r X (.builtin "len") (λxs H Q=>∃a kvs,xs=[V.ref a]/\H a=some (.dK kvs)/\Q (.int kvs.length) H):=by
 intro pj s σ H xs us Q I r h;obtain⟨a,kvs,rfl,ha,q⟩:=h;obtain⟨u,rfl,ru⟩:=vals1 r;cases ru;exact d_len I (.inl ha) λt s' I'=>⟨.int kvs.length,H,I',⟨t,rfl⟩,q⟩
end
section
variable{κ:Type}[DecidableEq κ]
theorem c7s{p:κ×V}(e:p.1=k):a4l (p::r) k=a4l r k:=by
 unfold a4l;rw[U3,if_neg (by simp[e])]
theorem c7t{p:κ×V}(e:¬p.1=k):a4l (p::r) k=p::a4l r k:=by
 unfold a4l;rw[U3,if_pos (by simp[e])]
end
end L2
set_option maxHeartbeats 4000000
namespace My
open PySem PySem.W PySem.Calls PyProof.Rows
theorem b6j:∀{n:Nat}{s s':Shared}{t:Thread}{f:Flow}{c:Code}{q:Pos},segRun tb p w n₀ ann 0 n s t=some (f,s',c,q)->topRun tb p w n₀ ann n s t=some s'
 |0,_,_,_,_,_,_,h=>by cases h
 |n+1,s,s',t,f,c,q,h=>by
  unfold segRun at h;unfold topRun;cases he:endAt 0 t with
  |some x=>
   rw[he]at h;cases h;have:through t=true:=by
    unfold endAt at he;unfold through;obtain⟨cur,code,pos,st⟩:=t;cases st with
    |nil=>split at he<;>simp_all
    |cons a b=>simp at he
   rw[this]
  |none=>
   have:through t=false:=by
    unfold endAt at he;unfold through;obtain⟨cur,code,pos,st⟩:=t;cases st with
    |nil=>
     dsimp only at he ⊢
     split at he
     ·cases he
     ·rename_i h1;simp only[List.isEmpty_nil,V2]
      split
      ·exact(h1 _ rfl rfl).elim
      ·rfl
    |cons a b=>rfl
   rw[he]at h;rw[this];cases hk:stepOk n₀ ann t with
   |false=>rw[hk]at h;cases h
   |true=>
    rw[hk]at h;cases hs:step (denote tb) p w s t with
    |halt o x=>rw[hs]at h;cases h
    |go s₂ t₂=>rw[hs]at h;exact b6j h
noncomputable def bootT(P:Params):BT:=.node (boot_o_0 P) (.node (boot_o_1 P) (.node (boot_o_3 P) (.node (boot_o_7 P) .nil .nil) .nil) (.node (boot_o_5 P) (.node (boot_o_9 P) .nil .nil) .nil)) (.node (boot_o_2 P) (.node (boot_o_4 P) (.node (boot_o_8 P) .nil .nil) .nil) (.node (boot_o_6 P) (.node (boot_o_10 P) .nil .nil) .nil))
theorem boot_abs(P:Params):absHeap (bootT P) 11 {}=boot_heap P:=by kernel_rfl
noncomputable def bootS(w:World)(os:OsState):SharedT:=⟨bootT w.params,11,{},#[],boot_drawn,boot_toks,os⟩
noncomputable def looks{α:Type}(p q:Program)(loose:List Str)(Xt:Shared->Bool)(Yf:Shared->α)(g0:Bool)(h₀:Heap)(s:Shared):=
 ((staticsOk (importedModules p.main.body) h₀ s.heap&&namesBound p s.heap&&gensDone s&&laidKept h₀ s.heap),openSeen q loose (importedModules p.main.body) Xt g0 s,Yf s)
theorem left_of{p q:Program}{loose:List Str}{Xt:Shared->Bool}{α:Type}{Yf:Shared->α}{Ya:World->α}{N M:Nat}{g0:Bool}
  (e:opening p=plainProg p.main.scope.names)(hN:Nat.ble 600 N=true)(f:∀s,fenceModules? p s=some s)
  (size:∀w:World,((boot_heap w.params).isNs mainGlobals,(boot_heap w.params).nsMap mainGlobals "__annotations__")=(true,some (.ref 6)))
  (le:Nat.ble M N=true)
  (run:∀w:World,(λos=>(segRunT treeTable p w 11 (some (.ref 6)) 0 M (bootS w os) (topStub p)).map λr=>looks p q loose Xt Yf g0 (boot_heap w.params) r.2.1.abs)=λ_=>some (true,openGood q loose,Ya w)):
  LeftO p q loose Xt Yf Ya N g0:=λw=>by
 obtain⟨⟨h,gs,d,k,os⟩,e1,e2⟩:=U7.mp (boot_open e hN f w);obtain⟨rfl,rfl,rfl,rfl⟩:h=boot_heap w.params/\gs= #[]/\d=boot_drawn/\k=boot_toks:=by simpa using e2
 obtain⟨z1,z3⟩:_/\_:=by simpa only[Prod.mk.injEq]using size w
 obtain⟨⟨fl,s,c,ps⟩,r1,r2⟩:=U7.mp (congrFun (run w) os);obtain⟨l1,l2,l3⟩:_/\_/\_:=by simpa only[looks,Prod.mk.injEq]using r2
 have r:=topRun_mono (N-M) _ _ _ _ (b6j (segRun_of r1));rw[show M+(N-M)=N by have:=Nat.le_of_ble_eq_true le;omega]at r;have t:topFrom treeTable p w N ⟨boot_heap w.params,#[],boot_drawn,boot_toks,os⟩=some s.abs:=by
  unfold topFrom
  dsimp only
  rw[z1]
  show(topRun treeTable p w 11 _ N ⟨boot_heap w.params,#[],boot_drawn,boot_toks,os⟩ (topStub p)).bind _=_
  rw[z3];have r':topRun treeTable p w 11 (some (.ref 6)) N ⟨boot_heap w.params,#[],boot_drawn,boot_toks,os⟩ (topStub p)=some s.abs:=by
   rw[<-boot_abs];exact r
  rw[r']
  show(match staticsOk (importedModules p.main.body) (boot_heap w.params) s.abs.heap&&namesBound p s.abs.heap&&gensDone s.abs&&laidKept (boot_heap w.params) s.abs.heap with|true=>some s.abs|false=>none)=some s.abs
  rw[l1]
 unfold openEnds;rw[e1]
 show((topFrom treeTable p w N ⟨boot_heap w.params,#[],boot_drawn,boot_toks,os⟩).map _)=_
 rw[t];exact Xn some (by dsimp only;rw[l2,l3])
theorem c7u(w:World):((boot_heap w.params).isNs mainGlobals,(boot_heap w.params).nsMap mainGlobals "__annotations__")=(true,some (.ref 6)):=by kernel_rfl
end My
lay_quick PySem.W.topStub PySem.W.openGood PySem.W.SharedT.abs PySem.W.xlAt PySem.W.recOk PySem.W.view My.looks
namespace L2
open PySem PySem.Spec PyProof.Rows
noncomputable def clOf(env:Env):List (Str×NameKind)->List (Str×Addr)->List (Str×Addr)
 | [],acc=>acc
 | (n,k)::r,acc=>if k=.free then clOf env r ((n,(env.cells.lookup n).getD 0)::acc)else clOf env r acc
theorem b5e{env:Env}(f:(Str×NameKind)->List (Str×Addr)->Sem (ForInStep (List (Str×Addr))))
  (h1:∀n r c,env.cells.lookup n=some c->f (n,.free) r=pure (.yield ((n,c)::r)))(h2:∀n k r,k≠.free->f (n,k) r=pure (.yield r)):
  ∀(l:List (Str×NameKind))(acc:List (Str×Addr)),(∀y∈l,y.2=.free->∃c,env.cells.lookup y.1=some c)->forIn l acc f=pure (clOf env l acc)
 | [],acc,_=>by rw[Uj];rfl
 | (n,k)::r,acc,h=>by
  have hr:∀y∈r,y.2=.free->∃c,env.cells.lookup y.1=some c:=λy hy=>h y (Zx _ hy)
  rw[Ua]
  by_cases hk:k=.free
  ·subst hk;obtain⟨c,hc⟩:=h _ Yd rfl;have hc:env.cells.lookup n=some c:=hc;rw[h1 n acc c hc];have ih:=b5e f h1 h2 r ((n,c)::acc) hr
   show(forIn r ((n,c)::acc) f)=_
   rw[ih];unfold clOf;rw[if_pos rfl,hc];rw[<-clOf.eq_def];rfl
  ·rw[h2 n k acc hk];have ih:=b5e f h1 h2 r acc hr
   show(forIn r acc f)=_
   rw[ih]
   conv=>rhs;unfold clOf
   rw[if_neg hk]
theorem b1i{scope:Scope}{env:Env}(h:∀y∈scope.names,y.2=.free->∃c,env.cells.lookup y.1=some c):closureFor scope env=pure (clOf env scope.names []):=by
 unfold closureFor;have e:=b5e (env:=env) (λx r=>if x.2==NameKind.free then do let c <-cellOf env x.1;pure (ForInStep.yield ((x.1,c)::r))else pure (ForInStep.yield r))
  (λn r c hc=>by
   have e:cellOf env n=pure c:=by unfold cellOf;rw[hc]
   show(if(NameKind.free==NameKind.free)=true then _ else _)=_
   rw[if_pos qd,e]
   rfl)
  (λn k r hk=>by
   show(if(k==NameKind.free)=true then _ else _)=_
   rw[if_neg (by intro z;exact hk (eq_of_beq z))]) scope.names [] h
 exact(Xn (λm=>m>>=λcs=>(pure cs:Sem (List (Str×Addr)))) e)
theorem b1j{env:Env}:∀(l:List (Str×NameKind))(acc:List (Str×Addr))(y:Str)(c:Addr),(∀y∈l,y.2=.free->∃c,env.cells.lookup y.1=some c)->(∀y c,acc.lookup y=some c->env.cells.lookup y=some c)->
  (clOf env l acc).lookup y=some c->env.cells.lookup y=some c
 | [],acc,y,c,_,ha,e=>ha y c e
 | (n,k)::r,acc,y,c,h,ha,e=>by
  have hr:∀y∈r,y.2=.free->∃c,env.cells.lookup y.1=some c:=λy hy=>h y (Zx _ hy)
  unfold clOf at e
  by_cases hk:k=.free
  ·rw[if_pos hk]at e;refine b1j r _ y c hr (λz d q=>?_) e;rw[Wf]at q;cases hz:z==n with
   |true=>
    rw[hz]at q;have q':(env.cells.lookup n).getD 0=d:=Zw q;obtain⟨c',hc'⟩:=h _ Yd hk;have hc':env.cells.lookup n=some c':=hc';rw[hc']at q';have q':c'=d:=q';rw[eq_of_beq hz,hc',q']
   |false=>
    rw[hz]at q;exact ha z d q
  ·rw[if_neg hk]at e;exact b1j r acc y c hr ha e
theorem b5f:∀(l:List (Str×NameKind))(acc:List (Str×Addr))(y:Str),(∃c,acc.lookup y=some c)->∃c,(clOf env l acc).lookup y=some c
 | [],_,_,h=>h
 | (n,k)::r,acc,y,h=>by
  unfold clOf
  by_cases hk:k=.free
  ·rw[if_pos hk];refine b5f r _ y ?_;rw[Wf];cases hz:y==n with
   |true=>exact⟨_,rfl⟩
   |false=>exact h
  ·rw[if_neg hk];exact b5f r acc y h
theorem a6r:∀(l:List (Str×NameKind))(acc:List (Str×Addr))(y:Str),(y,NameKind.free)∈l->∃c,(clOf env l acc).lookup y=some c
 | [],_,_,h=>by simp at h
 | (n,k)::r,acc,y,h=>by
  unfold clOf
  by_cases hk:k=.free
  ·rw[if_pos hk];rcases Zu.mp h with e|e
   ·refine b5f r _ y ?_;have e1:y=n:=Xn Prod.fst e;rw[Wf,e1]
    simp
   ·exact a6r r _ y e
  ·rw[if_neg hk];rcases Zu.mp h with e|e
   ·exact absurd (Xn Prod.snd e).symm hk
   ·exact a6r r acc y e
theorem a3f(scope:Scope)(env:Env)(y:Str):(relabel scope env).names.lookup y=(scope.names.lookup y).map λk=>if(k==NameKind.free&&env.scope.kind==.function&&env.kindOf y==some .cell)=true then .cell else k:=by
 show(scope.names.map _).lookup y=_
 induction scope.names with
 |nil=>rfl
 |cons p r ih=>
  obtain⟨n,k⟩:=p;rw[Z5,Wf (a:=y) (k:=n) (b:=k)];cases hz:y==n with
  |true=>
   have e:y=n:=eq_of_beq hz;subst e
   show List.lookup y ((if(k==NameKind.free&&env.scope.kind==.function&&env.kindOf y==some .cell)=true then(y,NameKind.cell)else(y,k))::_)=some (if _ then _ else _)
   by_cases hc:(k==NameKind.free&&env.scope.kind==.function&&env.kindOf y==some .cell)=true
   ·rw[if_pos hc,if_pos hc];simp
   ·rw[if_neg hc,if_neg hc];simp
  |false=>
   show List.lookup y ((if(k==NameKind.free&&env.scope.kind==.function&&env.kindOf n==some .cell)=true then(n,NameKind.cell)else(n,k))::_)=_
   by_cases hc:(k==NameKind.free&&env.scope.kind==.function&&env.kindOf n==some .cell)=true
   ·rw[if_pos hc,Wf,hz];exact ih
   ·rw[if_neg hc,Wf,hz];exact ih
def a2r(X:Cx)(scope:Scope)(x:Str)(N':List Str)(C:Addr)(s:Shared)(H:Hp)(fp:List Addr)(pn:List (Addr×Obj)):Cx where
 prog:=X.prog
 w:=X.w
 K:=X.K
 mg:=X.mg
 base:=X.base
 A:=X.A
 N:=x::N'
 s₀:=s
 H₀:=H
 env:=compEnvC scope (clOf X.env scope.names []) C X.env
 outer:=X.stack
 stack:=X.stack
 ex:=fp
 fn:=λ_=>false
 calm:=X.calm
 pn:=pn
 xe:=λ_ _=>False
section
variable{X:Cx}{pj:List (Addr×Obj)}{σ:St}{H:Hp}{s:Shared}
structure b2n(X:Cx)(scope:Scope)(x:Str)(N':List Str):Prop where
 loc:scope.names.lookup x=some .local
 nocell:∀y∈scope.names,y.2≠.cell
 kind:scope.kind=.function
 names:∀y∈scope.names,y.2=.local->scope.names.lookup y.1=some .local
 free:∀y∈scope.names,y.2=.free->X.env.kindOf y.1=some .cell\/X.env.kindOf y.1=some .free
 nin:x∉N'
 nd:N'.Nodup
 len:N'.length=X.N.length
 sub:∀(i:Nat)(y:Str),N'[i]? =some y->X.N[i]? =some y\/scope.names.lookup y=none
 only:∀y∈scope.names,y.2=.local->y.1=x\/y.1∉N'
theorem Inv.compIn{scope:Scope}{x:Str}{N':List Str}{fp:List Addr}{h1:Heap}{tk:Nat}{m:Str->Option Value}(S:b2n X scope x N')(I:Inv X pj σ H s)(hf:∀b∈fp,FpOk X pj H b)(hfl:∀b∈fp,b<s.heap.objs.size)
  (hn:h1.Ns s.heap.objs.size m)(hsb:∀b o,s.heap.get? b=some o->h1.get? b=some o):
  Inv (a2r X scope x N' s.heap.objs.size s H fp (X.pn++pj)) [] (none::σ) H { s with heap:=h1,toks:=tk}:=by
 have hcells:∀y∈scope.names,y.2=.free->∃c,X.env.cells.lookup y.1=some c:=λy hy hk=>I.ok.has y.1 (S.free y hy hk)
 have sub:∀y c,(clOf X.env scope.names []).lookup y=some c->X.env.cells.lookup y=some c:=λy c e=>b1j _ _ y c hcells (λz d q=>by simp at q) e
 have lk:∀(y:Str)(k:NameKind),(relabel scope X.env).names.lookup y=some k->k=.cell\/k=.free->scope.names.lookup y=some .free:=λy k e hk=>by
  rw[a3f]at e;cases q:scope.names.lookup y with
  |none=>rw[q]at e;cases e
  |some k0=>
   rw[q]at e;have e':(if(k0==NameKind.free&&X.env.scope.kind==.function&&X.env.kindOf y==some .cell)=true then NameKind.cell else k0)=k:=Zw e
   by_cases hc:(k0==NameKind.free&&X.env.scope.kind==.function&&X.env.kindOf y==some .cell)=true
   ·simp only[Xp]at hc;rw[eq_of_beq hc.1.1]
   ·rw[if_neg hc]at e';subst e';rcases hk with hk|hk
    ·exact absurd hk (S.nocell _ (Yp q))
    ·rw[hk]
 have lt:∀{b:Addr}{o:Obj},s.heap.get? b=some o->b≠s.heap.objs.size:=λe=>Z1 (Zs e)
 refine⟨⟨I.ok.mod,by show(relabel scope X.env).kind=_;exact S.kind,I.ok.glob,I.ok.blt,Zn _,λy z c e1 e2=>I.ok.inj y z c (sub y c e1) (sub z c e2),λy hy=>?_,λy c hz=>(by cases hz),I.ok.hd,I.ok.frames,.inl rfl,
  λb hb=>⟨Z1 (hfl b hb),λy c e=>(hf b hb).2.2.2.2.1 y c (sub y c e)⟩,I.bs,Yn I.ok.bsz I.sz,λb o e hb=>?_,λb hb hz=>?_,I.stack,I.stkFree⟩,
  rfl,I.bare,Un.kept hsb,⟨m,hn,λi y v h1 h2 h3=>?_⟩,λy c e=>?_,I.hok.fresh (Zn _),λy c e=>I.freeC y c (sub y c e),λp hp=>?_,I.hok.kept hsb,?_⟩
 ·have hy:(relabel scope X.env).names.lookup y=some .cell\/(relabel scope X.env).names.lookup y=some .free:=hy;have q:scope.names.lookup y=some .free:=hy.elim (λz=>lk y _ z (.inl rfl)) λz=>lk y _ z (.inr rfl)
  exact a6r _ _ y (Yp q)
 ·obtain⟨_,_,_,f3,_,_⟩:=hf b hb;rcases f3 with f3|f3
  ·exact I.ok.noex b o e f3
  ·exact absurd (Yc (Zs e) (Yn I.ok.bsz f3)) (Xo _)
 ·have hz:b∈frs X.stack:=hz;obtain⟨_,f1,f2,_⟩:=hf b hb;rcases Zu.mp (I.stkSub b hz)with z|z
  ·exact f1 z
  ·exact f2 z
 ·cases i with
  |zero=>simp at h2
  |succ i=>
   have h1:N'[i]? =some y:=by simpa[a2r]using h1
   have h2:σ[i]? =some (some v):=by simpa using h2
   have hne:N'[i]? ≠some x:=λz=>S.nin (Y4 z)
   have h3:Vis (relabel scope X.env) y:=h3;obtain⟨m',hn',hl'⟩:=I.loc;have q:scope.names.lookup y=some .free:=by
    rcases h3 with z|z|z
    ·exfalso
     rw[a3f]at z;cases q:scope.names.lookup y with
     |none=>rw[q]at z;cases z
     |some k0=>
      rw[q]at z;have e':(if(k0==NameKind.free&&X.env.scope.kind==.function&&X.env.kindOf y==some .cell)=true then NameKind.cell else k0)=.local:=Zw z
      by_cases hc:(k0==NameKind.free&&X.env.scope.kind==.function&&X.env.kindOf y==some .cell)=true
      ·rw[if_pos hc]at e';cases e'
      ·rw[if_neg hc]at e';subst e';rcases S.only _ (Yp q) rfl with w|w
       ·exact hne (by rw[h1];exact Xn some w)
       ·exact w (Y4 h1)
    ·exact lk y _ z (.inl rfl)
    ·exact lk y _ z (.inr rfl)
   obtain⟨c,hc⟩:=a6r (env:=X.env) scope.names [] y (Yp q);have hk:X.env.kindOf y=some .cell\/X.env.kindOf y=some .free:=S.free _ (Yp q) rfl;have h1':X.N[i]? =some y:=(S.sub i y h1).resolve_right λz=>by rw[q]at z;cases z
   obtain⟨u,r,l⟩:=hl' i y v h1' h2 (.inr hk);refine⟨u,r,?_⟩;have kd:(compEnvC scope (clOf X.env scope.names []) s.heap.objs.size X.env).kindOf y=some .cell\/(compEnvC scope (clOf X.env scope.names []) s.heap.objs.size X.env).kindOf y=some .free:=by
    rcases h3 with z|z|z
    ·exfalso
     rw[a3f,q]at z;have e':(if(NameKind.free==NameKind.free&&X.env.scope.kind==.function&&X.env.kindOf y==some .cell)=true then NameKind.cell else NameKind.free)=.local:=Zw z
     by_cases hc:(NameKind.free==NameKind.free&&X.env.scope.kind==.function&&X.env.kindOf y==some .cell)=true
     ·rw[if_pos hc]at e';cases e'
     ·rw[if_neg hc]at e';cases e'
    ·exact .inl z
    ·exact .inr z
   rcases l with⟨a,_⟩|⟨_,c',hc',ic⟩
   ·rcases hk with k|k<;>(rw[k]at a;cases a)
   ·have e:X.env.cells.lookup y=some c:=sub y c hc;rw[e]at hc';cases hc';obtain⟨o,ho,hd⟩:=ic;exact .inr ⟨kd,c,hc,⟨o,hsb _ _ ho,hd⟩⟩
 ·obtain⟨v,o,ho,hd⟩:=I.cell y c (sub y c e);exact⟨v,o,hsb _ _ ho,hd⟩
 ·have hp:p∈X.pn++pj:=by
   have hp:p∈(X.pn++pj)++[]:=hp;rwa[Yg]at hp
  obtain⟨e,n,ne,nf,d⟩:=I.pin p hp;refine⟨hsb _ _ e,n,lt e,λhz=>?_,d⟩;have hz:p.1∈frs X.stack:=hz;rcases Zu.mp (I.stkSub _ hz)with z|z
  ·exact ne z
  ·exact nf z
 ·show(none::σ).length=(x::N').length
  rw[length_cons,length_cons,I.len,S.len]
def PTs(X:Cx)(ifs:List Expr)(t:TT):Prop:=
 ∀(pj:List (Addr×Obj))(s:Shared)(σ:St)(H:Hp)(Q:Bool->Hp->Prop)(E:Value->Shared->Prop),Inv X pj σ H s->t σ H Q->
  wpAny (model X.prog X.w) X.A (forIn ifs true λc r=>if r=true then do let ok <-isTrue c X.env (eval c X.env);pure (ForInStep.yield ok)else pure (ForInStep.yield r)) (TP X pj σ Q) E s
def tYes:TT:=λ_ H Q=>Q true H
theorem a4j:PTs X [] tYes:=λ_ _ _ H _ _ I h=>wpAny_tests_nil ⟨H,I,h⟩
theorem b9n(J:Nat->Shared->Prop)
  (turn:∀n s,J n s->wpAny (model prog w) A (pyNext it) (λr s1=>match r with
   |none=>R (.ok .next) s1
   |some v=>wpAny (model prog w) A (letOwnedTupleGo target it v) (λ_ s2=>wpAny (model prog w) A (assign target env v) (λ_ s3=>
     wpAny (model prog w) A (forIn ifs true λc r=>if r=true then do let ok <-isTrue c env (eval c env);pure (ForInStep.yield ok)else pure (ForInStep.yield r)) (λok s4=>
      if ok=true then wpAny (model prog w) A (eval elt env) (λy s5=>wpAny (model prog w) A (call (.builtin "list.append") [acc,y]) (λ_ s6=>∃m,m<n/\J m s6) (λ_ _=>False) s5) (λ_ _=>False) s4
      else ∃m,m<n/\J m s4) (λ_ _=>False) s3) (λ_ _=>False) s2) (λ_ _=>False) s1) (λ_ _=>False) s)
  (n:Nat)(h:J n s):codeAny (model prog w) A (.compLoop (.ListComp elt [⟨target,iter,ifs,0⟩] scope pos) 0 it acc env) R s:=by
 have no:∀{α:Type}{t:Sem α}{Q:α->Shared->Prop}{E:Value->Shared->Prop}{s:Shared},wpAny (model prog w) A t Q (λ_ _=>False) s->wpAny (model prog w) A t Q E s:=
  λq=>Wb q (λ_ _ z=>z) λ_ _ z=>z.elim
 refine codeAny_loop rfl J (λn s hJ=>?_) n h;refine wpAny_noted (m:=compTurn (.ListComp elt [⟨target,iter,ifs,0⟩] scope pos) 0 it acc env) ?_;rw[compTurn_list];refine Zi (Uw (Zi (no (thn (turn n s hJ) λr s1 q1=>?_))));cases r with
 |none=>exact Zp q1
 |some v=>
  refine no ?_;refine Zi (thn q1 λ_ s2 q2=>Zi (thn q2 λ_ s3 q3=>Zi (thn q3 λok s4 q4=>?_)));cases ok with
  |false=>exact Zp ⟨rfl,q4⟩
  |true=>exact Zi (Zi (thn q4 λy s5 q5=>Zi (thn q5 λ_ s6 q6=>Zp (Zp ⟨rfl,q6⟩))))
def c0r(J:It)(tt:TT)(te:TE)(σ:St)(Q:VK)(D:Addr)(H1:Hp):Prop:=∃W:Nat->Nat->List V->Hp->Prop,(∃m,W 0 m [] (upd H1 D (.lst [])))/\
 ∀i m ys H',W i m ys H'->(J.stop i H'/\Q (.ref D) H')\/(J.go i H'/\∀v H2,J.yld i H' v H2->tt (some v::σ) H2 λb H3=>
  if b=true then te (some v::σ) H3 λy H4=>H4 D=some (.lst ys)/\ys.length<sizeLine/\∃m',m'<m/\W (i+1) m' (ys++[y]) (upd H4 D (.lst (ys++[y])))
  else ∃m',m'<m/\W (i+1) m' ys H3)
def tComp(wi:TI)(tt:TT)(te:TE):TE:=λσ H Q=>wi σ H λJ H1=>∀D,H1 D=none->c0r J tt te σ Q D H1
theorem b9o{elt iter:Expr}(hc:X.calm=true)(S:b2n X scope x N')
  (ht:∀C s H fp pn,PTs (a2r X scope x N' C s H fp pn) ifs tt)(he:∀C s H fp pn,PE (a2r X scope x N' C s H fp pn) elt te){RR:Value->Addr->Result->Shared->Prop}
  (h2:PIE X pj σ (.Name x px) (λJ H1=>∀D,H1 D=none->c0r J tt te σ Q D H1) itv s2)
  (hend:∀(D C:Addr)(H6:Hp)(s7:Shared)(m7:Str->Option Value),Inv X pj σ H6 s7->s7.heap.Ns C m7->FpOk X pj H6 C->Q (.ref D) H6->RR (.ref D) C (.ok .next) s7):
  wpAny (model X.prog X.w) X.A (newList []) (λacc s3=>wpAny (model X.prog X.w) X.A (newFunctionEnv scope X.env.globals (clOf X.env scope.names []) [] X.env.qual none .none (some X.env)) (λcenv s4=>
   codeAny (model X.prog X.w) X.A (.compStart (.ListComp elt [⟨.Name x px,iter,ifs,0⟩] scope pos) 0 itv acc { cenv with scope:=relabel scope X.env}) (RR acc cenv.locals) s4) X.xe s3) X.xe s2:=by
 obtain⟨it,fp,tn,J,H2,e,I2,T,st2,f2,hW⟩:=h2;subst e;have hlt:∀b∈fp,b<s2.heap.objs.size:=λb hb=>by
  obtain⟨o,ho,_⟩:=T.obj _ _ st2 b hb;exact Zs ho
 obtain⟨W,⟨m0,w0⟩,hturn⟩:=hW s2.heap.objs.size (I2.hok.fresh (Zn _));refine Wo ?_ (by show 0<=sizeLine;exact Z0 _);have I3:Inv X pj σ (upd H2 s2.heap.objs.size (.lst [])) { s2 with heap:=s2.heap.push { cls:=.type "list",data:=.seq ([]:List Value).toArray}}:=I2.lnew (t':=s2.toks) .nil (Z0 _);have f3:∀b∈fp,FpOk X pj (upd H2 s2.heap.objs.size (.lst [])) b:=λb hb=>by
  obtain⟨g0,g⟩:=f2 b hb;exact⟨by rw[a0f (Z1 (hlt b hb))];exact g0,g⟩
 have st3:tn 0 (s2.heap.push { cls:=.type "list",data:=.seq ([]:List Value).toArray}):=T.keep _ _ _ st2 λb _ o e=>Zk _ e
 have hlt3:∀b∈fp,b<(s2.heap.push { cls:=.type "list",data:=.seq ([]:List Value).toArray}).objs.size:=λb hb=>by rw[Y9];exact Vb (hlt b hb)
 generalize hs3:({ s2 with heap:=s2.heap.push { cls:=.type "list",data:=.seq ([]:List Value).toArray}}:Shared)=s3 at I3;have eh:s3.heap=s2.heap.push { cls:=.type "list",data:=.seq ([]:List Value).toArray}:=by rw[<-hs3]
 rw[<-eh]at st3 hlt3
 show wpAny _ _ (newFunctionEnv scope X.env.globals (clOf X.env scope.names []) [] X.env.qual none .none (some X.env)) _ _ _
 refine Rp S.nocell (by intro y hy;simp at hy) (λh4 hns4 hsb4=>?_) S.kind;have hk4:∀b o,s3.heap.get? b=some o->h4.get? b=some o:=λb o e=>(hsb4.2 b (Z1 (Zs e))).trans (Zk _ e)
 have I4:=Inv.compIn (tk:=s3.toks+([]:List (Str×Value)).length) S I3 f3 hlt3 hns4 hk4;have st4:tn 0 h4:=T.keep _ _ _ st3 λb _ o e=>hk4 b o e
 have fx:∀{H':Hp},(∀b∈fp,H' b=none)->∀b∈fp,FpOk (a2r X scope x N' s3.heap.objs.size s3 (upd H2 s2.heap.objs.size (.lst [])) fp (X.pn++pj)) [] H' b:=λ{H'} hn b hb=>by
  obtain⟨_,g1,g2,g3,g4,g5⟩:=f3 b hb;refine⟨hn b hb,Z1 (hlt3 b hb),I4.ok.exfs b hb,.inl hb,λy c e=>(I4.ok.exf b hb).2 y c e,λp hp=>g5 p ?_⟩;have hp:p∈(X.pn++pj)++[]:=hp;rwa[Yg]at hp
 have loop:∀s5:Shared,(∃(i n:Nat)(o:Option V)(ys:List V)(H5:Hp),Inv (a2r X scope x N' s3.heap.objs.size s3 (upd H2 s2.heap.objs.size (.lst [])) fp (X.pn++pj)) [] (o::σ) H5 s5/\tn i s5.heap/\(∀b∈fp,H5 b=none)/\W i n ys H5)->
   codeAny (model X.prog X.w) X.A (.compLoop (.ListComp elt [⟨.Name x px,iter,ifs,0⟩] scope pos) 0 (.ref it) (.ref s2.heap.objs.size) (compEnvC scope (clOf X.env scope.names []) s3.heap.objs.size X.env))
    (RR (.ref s2.heap.objs.size) s3.heap.objs.size) s5:=by
  rintro s5 ⟨i5,n5,o5,ys5,H5,I5,st5,fr5,w5⟩
  refine b9n (λn s'=>∃(i:Nat)(o:Option V)(ys:List V)(H5:Hp),Inv (a2r X scope x N' s3.heap.objs.size s3 (upd H2 s2.heap.objs.size (.lst [])) fp (X.pn++pj)) [] (o::σ) H5 s'/\tn i s'.heap/\(∀b∈fp,H5 b=none)/\W i n ys H5) ?_ n5 ⟨i5,o5,ys5,H5,I5,st5,fr5,w5⟩
  rintro n s6 ⟨i,o,ys,H6,I6,st6,fr6,w6⟩
  rcases hturn i n ys H6 w6 with⟨stop,qn⟩|⟨go,step⟩
  ·refine thn (T.done (a2r X scope x N' s3.heap.objs.size s3 (upd H2 s2.heap.objs.size (.lst [])) fp (X.pn++pj)) rfl rfl rfl hc i [] s6 _ H6 _ I6 (fx fr6) st6 stop) λr s7 ⟨hr,I7⟩=>?_
   subst hr;obtain⟨m7,hn7,_⟩:=id I7.loc;have I8:Inv X pj σ H6 s7:=I3.call' I7.os I7.base I7.hok I7.bare λb hb=>by
    obtain⟨_,g1,g2,g3,g4,g5⟩:=f3 b hb;exact⟨g3,g1,g4,g5⟩
   have f8:FpOk X pj H6 s3.heap.objs.size:=I3.fpOk (Zn _) I7.free;exact hend _ _ H6 s7 m7 I8 hn7 f8 qn
  ·refine thn (T.item (a2r X scope x N' s3.heap.objs.size s3 (upd H2 s2.heap.objs.size (.lst [])) fp (X.pn++pj)) rfl rfl rfl hc i [] s6 _ H6 _ I6 (fx fr6) st6 go) λr s7 ⟨u,hr,h7⟩=>?_
   subst hr;refine thn h7 λ_ s8 z9=>?_
   obtain⟨v,H8,I8,r8,y8,st8,fr8⟩:=z9;have I8':=I8.pinned (fx fr8) (T.obj _ _ st8);refine Tv (a6o I8' (i:=0) (Xv.mpr ⟨S.nin,S.nd⟩) rfl (.inl (Wp S.loc)) r8 (λs9 I9=>?_) (.inr (Wp S.loc)));have I9:Inv (a2r X scope x N' s3.heap.objs.size s3 (upd H2 s2.heap.objs.size (.lst [])) fp (X.pn++pj)) ([]++a9z fp s8.heap) (some v::σ) H8 s9:=I9;refine thn (ht _ _ _ _ _ _ s9 (some v::σ) H8 _ _ I9 (step v H8 y8)) λb s10 z9=>?_
   obtain⟨H10,I10,q10⟩:=z9;have back:∀{s':Shared}{H':Hp}{ys':List V}{m':Nat},Inv (a2r X scope x N' s3.heap.objs.size s3 (upd H2 s2.heap.objs.size (.lst [])) fp (X.pn++pj)) ([]++a9z fp s8.heap) (some v::σ) H' s'->W (i+1) m' ys' H'->
     ∃(i:Nat)(o:Option V)(ys:List V)(H5:Hp),Inv (a2r X scope x N' s3.heap.objs.size s3 (upd H2 s2.heap.objs.size (.lst [])) fp (X.pn++pj)) [] (o::σ) H5 s'/\tn i s'.heap/\(∀b∈fp,H5 b=none)/\W i m' ys H5:=λ{s' H' ys' m'} I' w'=>by
    refine⟨i+1,some v,ys',H',I'.unpinned,T.keep _ _ _ st8 λb hb o e=>(I'.pin (b,o) (Yl _ (Yl _ (a4y hb e)))).1,λb hb=>?_,w'⟩;obtain⟨o,e,d⟩:=T.obj _ _ st8 b hb;exact(I'.pin (b,o) (Yl _ (Yl _ (a4y hb e)))).2.1
   cases b with
   |false=>
    rw[if_neg Zr]at q10 ⊢;obtain⟨m',hm,w'⟩:=q10;exact⟨m',hm,back I10 w'⟩
   |true=>
    rw[if_pos rfl]at q10 ⊢;refine thn (he _ _ _ _ _ _ s10 (some v::σ) H10 _ I10 q10) λy s11 z9=>?_
    obtain⟨yv,H11,I11,r11,hD,hz,m',hm,w'⟩:=z9;have ap:=b2m (X:=a2r X scope x N' s3.heap.objs.size s3 (upd H2 s2.heap.objs.size (.lst [])) fp (X.pn++pj)) _ s11 (some v::σ) H11 (.ref s2.heap.objs.size) [yv] (.ref s2.heap.objs.size) [y] (λ_ H'=>W (i+1) m' (ys++[yv]) H') I11 rfl (.cons r11 .nil) ⟨_,ys,yv,rfl,rfl,hD,hz,w'⟩;exact thn ap λ_ s12 ⟨_,H12,I12,_,w12⟩=>⟨m',hm,back I12 w12⟩
 have l4:=loop { s3 with heap:=h4,toks:=s3.toks+([]:List (Str×Value)).length} ⟨0,m0,none,[],_,I4,st4,λb hb=>(f3 b hb).1,w0⟩;exact S8 l4 (T.self _ _ _ _ _ st4 l4)
theorem a5a(hc:X.calm=true)(hi:PI X (.Name x px) iter wi)(S:b2n X scope x N')
  (ht:∀C s H fp pn,PTs (a2r X scope x N' C s H fp pn) ifs tt)(he:∀C s H fp pn,PE (a2r X scope x N' C s H fp pn) elt te)(hs:∀x,foldedSetIterable iter X.env x=pure x:=by intro _;rfl):
  PE X (.ListComp elt [⟨.Name x px,iter,ifs,0⟩] scope pos) (tComp wi tt te):=by
 intro pj s σ H Q I h;have hcells:∀y∈scope.names,y.2=.free->∃c,X.env.cells.lookup y.1=some c:=λy hy hk=>I.ok.has y.1 (S.free y hy hk)
 rw[eval_ListComp];refine Ux (use:=none) rfl hs (b1i hcells) S.kind S.names (thn (hi pj s σ H _ I h) λxv s1 h1=>thn h1 λitv s2 h2=>?_);refine b9o (RR:=λacc C=>compPost (model X.prog X.w) X.A X.xe none (EP X pj σ Q) acc C) hc S ht he h2 λD C H6 s7 m7 I8 hn7 f8 qn=>?_
 refine⟨m7,hn7,λh' hs'=>?_⟩;obtain⟨g0,g1,g2,g3,g4,g5⟩:=f8;exact⟨.ref D,H6,I8.turned (t':=s7.toks) (λb o hb e=>(hs'.2 b hb).trans e) g0 g1 g3 g4 g5,rfl,qn⟩
theorem ps_comp{pos spos:Pos}(hN:X.N.Nodup)(hiy:X.N[i]? =some y)(hy:Loc X.env.scope y)(hc:X.calm=true)(hi:PI X (.Name x px) iter wi)(S:b2n X scope x N')
  (ht:∀C s H fp pn,PTs (a2r X scope x N' C s H fp pn) ifs tt)(he:∀C s H fp pn,PE (a2r X scope x N' C s H fp pn) elt te)
  (hsw:swapsWith (.ListComp elt [⟨.Name x px,iter,ifs,0⟩] scope pos) (some (.Name y py)) spos.line X.env=pure true:=by rfl)(hs:∀x,foldedSetIterable iter X.env x=pure x:=by intro _;rfl)
  (hf:X.fn y=true\/X.env.scope.names.lookup y=some .local:=by first|exact .inl rfl|exact .inr rfl|assumption):
  PS X (.Assign [.Name y py] (.ListComp elt [⟨.Name x px,iter,ifs,0⟩] scope pos) spos) (tAsg (tComp wi tt te) (b1c i)):=by
 intro pj s σ H D I h;have hcells:∀y∈scope.names,y.2=.free->∃c,X.env.cells.lookup y.1=some c:=λy hy hk=>I.ok.has y.1 (S.free y hy hk)
 rw[exec_Assign_Name_used _ _ _ _ hsw];refine Zi (Uw (Zi ?_))
 show wpAny _ X.A (do let _ <-comprehension (.ListComp elt [⟨.Name x px,iter,ifs,0⟩] scope pos) scope X.env _ (newList []) false (eval iter X.env) (some (assign (.Name y py) X.env))) _ _ s
 refine Zi (thn (Ux (use:=some (assign (.Name y py) X.env)) (Q:=λ_ s'=>SP X pj D .next s') rfl hs (b1i hcells) S.kind S.names
  (thn (hi pj s σ H _ I h) λxv s1 h1=>thn h1 λitv s2 h2=>?_)) λ_ s' hq=>Zp (Zp hq))
 refine b9o (RR:=λacc C=>compPost (model X.prog X.w) X.A X.xe (some (assign (.Name y py) X.env)) (λ_ s'=>SP X pj D .next s') acc C) hc S ht he h2 λL C H6 s7 m7 I8 hn7 f8 qn=>?_
 obtain⟨g0,g1,g2,g3,g4,g5⟩:=f8
 show wpAny _ X.A (assign (.Name y py) X.env (.ref L)) _ _ _
 refine Tv (b9g I8 hN hiy hy (v:=.ref L) (u:=.ref L) rfl (λs8 I9 hch=>?_) hf);obtain⟨a,hsb,ha⟩:=hch;have hCa:C≠a:=by
  rcases ha with z|z
  ·rw[z];exact g1
  ·exactλw=>g4 _ _ z w.symm
 refine⟨m7,hn7.sameBut hsb hCa,λh' hs'=>?_⟩;exact⟨_,H6,I9.turned (t':=s8.toks) (λb o hb e=>(hs'.2 b hb).trans e) g0 g1 g3 g4 g5,qn⟩
end
def c7v(sc scope:Scope)(N N':List Str)(x:Str):Bool:=
 decide (scope.names.lookup x=some .local)&&scope.names.all (λy=>decide (y.2≠.cell))&&decide (scope.kind=.function)&&scope.names.all (λy=>decide (y.2=.local->scope.names.lookup y.1=some .local))&&
 scope.names.all (λy=>decide (y.2=.free->sc.names.lookup y.1=some .cell\/sc.names.lookup y.1=some .free))&&decide (x∉N')&&decide N'.Nodup&&decide (N'.length=N.length)&&
 (List.range N'.length).all (λi=>match N'[i]? with|some y=>decide (N[i]? =some y\/scope.names.lookup y=none)|none=>true)&&scope.names.all (λy=>decide (y.2=.local->y.1=x\/y.1∉N'))
theorem a4k{X:Cx}(sc:Scope)(N N':List Str)(hsc:X.env.scope=sc)(hN:X.N=N)(h:c7v sc scope N N' x=true):b2n X scope x N':=by
 subst hsc hN;unfold c7v at h;simp only[Xp,X0,Tw]at h;obtain⟨⟨⟨⟨⟨⟨⟨⟨⟨h1,h2⟩,h3⟩,h4⟩,h5⟩,h6⟩,h7⟩,h7'⟩,h8'⟩,h8⟩:=h;refine⟨h1,h2,h3,h4,h5,h6,h7,h7',λi y e=>?_,h8⟩;have hi:i<N'.length:=(Yi.mp e).1;have z:=h8' i (Wh.mpr hi);rw[e]at z;exact Z8 z
def Its(x:Str):It:=⟨λi _=>i<x.cps.size,λi H v H'=>H'=H/\∃c,x.cps[i]? =some c/\v=.str ⟨#[c]⟩,λi _=>x.cps.size=i⟩
theorem c1j{P:Program}{w:World}{K:FG}{tg:Expr}{it:Addr}{x:Str}{t:Tok}{ty:String}
  (hty:["enumerate","zip","dict_itemiterator","dict_reverseitemiterator","odict_iterator","itertools.zip_longest","itertools.pairwise"].contains ty=false)
  (hW:∀A':Around,A'.handled=none->Walks P w A' it [it] [it] x.cps.size (SignAt x) (λi h=>h.IsStrIter it ty x t i))
  (hself:∀(A:Around)(i:Nat)(s:Shared)(Q:Value->Shared->Prop)(E:Value->Shared->Prop),s.heap.IsStrIter it ty x t i->Q (.ref it) s->wpAny (model P w) A (pyIter (.ref it)) Q E s):
  Turn P w K tg (Its x) [it] it (λi h=>h.IsStrIter it ty x t i) where
 mem:=by simp
 obj:=λi h st b hb=>by
  have e:b=it:=by simpa using hb
  subst e;obtain⟨o,e,c,d⟩:=st;exact⟨o,e,λv z=>by rw[d]at z;cases z⟩
 keep:=λi h h' st k=>by
  obtain⟨o,e,r⟩:=st;exact⟨o,k it qz o e,r⟩
 item:=by
  intro X hP hw hK hc i pj s σ H E I hf st hg;subst hP hw hK;obtain⟨f0,f1,f2,f3,f4,f5⟩:=hf it qz;refine(hW X.A (I.ok.hd hc)).item i s _ _ hg st λv h' tk hv st' kk=>?_
  obtain⟨c,u,hx,rfl⟩:=hv;have I1:Inv X pj σ H { s with heap:=h',toks:=tk}:=I.turned (λb o hb e=>kk b o (by simpa using hb) e) f0 f1 f3 f4 f5;obtain⟨o,e,c',d⟩:=id st';exact⟨_,rfl,c0p (s:={ s with heap:=h',toks:=tk}) e c' d hty ⟨.str ⟨#[c]⟩,H,I1,⟨u,rfl⟩,⟨rfl,c,hx,rfl⟩,st',λb hb=>(hf b hb).1⟩⟩
 done:=by
  intro X hP hw hK hc i pj s σ H E I hf st hg;subst hP hw hK;obtain⟨f0,f1,f2,f3,f4,f5⟩:=hf it qz;have hg:x.cps.size=i:=hg;subst hg;exact(hW X.A (I.ok.hd hc)).done s _ _ st λh' tk kk=>⟨rfl,I.turned (λb o hb e=>kk b o (by simpa using hb) e) f0 f1 f3 f4 f5⟩
 self:=hself
section
variable{X:Cx}{tg:Expr}
def iStr(tl:TE):TI:=λσ H R=>tl σ H λv H1=>∃x,v=.str x/\R (Its x) H1
theorem pi_str(hl:PE X l tl):PI X tg l (iStr tl):=by
 intro pj s σ H R I h;refine thn (hl pj s σ H _ I h) λv s1 z9=>?_
 obtain⟨z,H1,I1,r1,q1⟩:=z9;obtain⟨x,e,q⟩:=q1;subst e;obtain⟨t,rfl⟩:=r1;have fp:∀b∈[s1.heap.objs.size],FpOk X pj H1 b:=λb hb=>by
  have e:b=s1.heap.objs.size:=by simpa using hb
  subst e;exact I1.fpOk (Zn _) (I1.hok.fresh (Zn _))
 cases ha:x.cps.all (· <128)
 ·refine wpAny_pyIter_wide ha ?_;exact⟨s1.heap.objs.size,[s1.heap.objs.size],_,_,H1,rfl,I1.kept (t':=s1.toks) λb o e=>Zk _ e,c1j (ty:="str_iterator") (t:=t) qd (λA' hA=>Walks.strWide hA _ x t) (λ_ _ _ _ _ st hq=>wpAny_pyIter_striter_wide st hq),⟨_,Zv _ rfl,rfl,rfl⟩,fp,q⟩
 ·refine wpAny_pyIter_ascii ha ?_;exact⟨s1.heap.objs.size,[s1.heap.objs.size],_,_,H1,rfl,I1.kept (t':=s1.toks) λb o e=>Zk _ e,c1j (ty:="str_ascii_iterator") (t:=t) qd (λA' hA=>Walks.strAscii hA _ x t) (λ_ _ _ _ _ st hq=>wpAny_pyIter_striter_ascii st hq),⟨_,Zv _ rfl,rfl,rfl⟩,fp,q⟩
end
structure Row(J:It)(n:Nat)(vs:Nat->V)(Ok:Hp->Prop):Prop where
 go:∀i H,i<n->Ok H->J.go i H
 yld:∀i H v H',i<n->Ok H->J.yld i H v H'->H'=H/\v=vs i
 stop:∀H,Ok H->J.stop n H
theorem a8y(lo:Int)(n:Nat):Row (Itr lo n) n (λi=>.int (lo+i)) (λ_=>True):=⟨λi H h _=>h,λi H v H' _ _ h=>h,λH _=>Zn n⟩
theorem row_str(x:Str):Row (Its x) x.cps.size (λi=>.str ⟨#[x.cps.getD i 0]⟩) (λ_=>True):=⟨λi H h _=>h,λi H v H' hi _ h=>by
 obtain⟨e,c,hc,rfl⟩:=h;refine⟨e,?_⟩;have:x.cps.getD i 0=c:=by rw[Vc,hc];rfl
 rw[this],λH _=>rfl⟩
theorem a2d{K:FG}{a:Addr}{xs:List V}:Row (Itl K a) xs.length (λi=>xs.getD i .non) (λH=>SqL K H a xs):=⟨λi H h q=>⟨xs,xs[i],q,by simp[h]⟩,λi H v H' hi q h=>by
 obtain⟨e,y⟩:=h;refine⟨e,?_⟩;have:=y xs q
 rw[Z2,this];rfl,λH q=>⟨xs,q,Zn _⟩⟩
theorem c4f{K:FG}{a:Addr}{xs:List V}:Row (Itt K a) xs.length (λi=>xs.getD i .non) (λH=>SqT K H a xs):=⟨λi H h q=>⟨xs,xs[i],q,by simp[h]⟩,λi H v H' hi q h=>by
 obtain⟨e,y⟩:=h;refine⟨e,?_⟩;have:=y xs q
 rw[Z2,this];rfl,λH q=>⟨xs,q,Zn _⟩⟩
def ForW(J:It)(g:TG)(tb:TS)(D:Ends)(σ:St)(H:Hp):Prop:=∃W:Nat->Nat->St->Hp->Prop,(∃m,W 0 m σ H)/\∀i m σ H,W i m σ H->
   (J.stop i H/\D.nx σ H)\/(J.go i H/\∃N:St->Hp->Prop,(∀σ' H',N σ' H'->∃m',m'<m/\W (i+1) m' σ' H')/\∀x H',J.yld i H x H'->g x σ H' λσ2 H2=>tb { D with nx:=N,ct:=N,bk:=D.nx} σ2 H2)
theorem a3m(R:Row J n vs Ok)(Pv:Nat->St->Hp->Prop)(h0:Pv 0 σ H)(hok:∀i σ H,Pv i σ H->Ok H)
  (hs:∀i σ H,i<n->Pv i σ H->g (vs i) σ H λσ2 H2=>tb { D with nx:=Pv (i+1),ct:=Pv (i+1),bk:=D.nx} σ2 H2)(hd:∀σ H,Pv n σ H->D.nx σ H):
  ForW J g tb D σ H:=by
 refine⟨λi m σ H=>m=n-i/\i<=n/\Pv i σ H,⟨n,qz,Z0 _,h0⟩,?_⟩
 rintro i m σ H ⟨rfl,hi,p⟩
 by_cases hlt:i<n
 ·refine .inr ⟨R.go i H hlt (hok i σ H p),Pv (i+1),λσ' H' p'=>⟨n-(i+1),qo,rfl,hlt,p'⟩,λx H' y=>?_⟩;obtain⟨e1,e2⟩:=R.yld i H x H' hlt (hok i σ H p) y;subst e1 e2;exact hs i σ _ hlt p
 ·have e:i=n:=by omega
  subst e;exact .inl ⟨R.stop H (hok i σ H p),hd σ H p⟩
theorem a3q(R:Row J n vs Ok)(Pv:Nat->List V->Hp->Prop)(hn:n<=sizeLine)(h0:Pv 0 [] (upd H1 D (.lst [])))(hok:∀i ys H,Pv i ys H->Ok H)
  (hs:∀i ys H (Q':VK),i<n->ys.length=i->Pv i ys H->(∀y H4,H4 D=some (.lst ys)->Pv (i+1) (ys++[y]) (upd H4 D (.lst (ys++[y])))->Q' y H4)->te (some (vs i)::σ) H Q')
  (hd:∀ys H,ys.length=n->Pv n ys H->Q (.ref D) H):
  c0r J tYes te σ Q D H1:=by
 refine⟨λi m ys H=>m=n-i/\i<=n/\ys.length=i/\Pv i ys H,⟨n,qz,Z0 _,rfl,h0⟩,?_⟩
 rintro i m ys H ⟨rfl,hi,hl,p⟩
 by_cases hlt:i<n
 ·refine .inr ⟨R.go i H hlt (hok i ys H p),λv H2 y=>?_⟩;obtain⟨e1,e2⟩:=R.yld i H v H2 hlt (hok i ys H p) y;subst e1 e2;exact hs i ys _ _ hlt hl p λv H4 q1 q2=>⟨q1,qo,n-(i+1),qo,rfl,hlt,by simp[hl],q2⟩
 ·have e:i=n:=by omega
  subst e;exact .inl ⟨R.stop H (hok _ ys H p),hd ys H hl p⟩
def mVar(i:Nat):TE:=λσ H Q=>match σ[i]? with|some (some v)=>Q v H|_=>False
def mB(Q:Bool->Hp->Prop):VK:=λz H'=>match z with| .bl k=>Q k H'|_=>False
theorem c0s(Q:Bool->Hp->Prop):mB Q=λz H'=>∃k,z=.bl k/\Q k H':=by
 funext z H'
 cases z<;>simp[mB]
section
variable{X:Cx}{a b c e:Expr}{ta tb tc te:TE}{pos:Pos}
theorem mv(i:Nat)(hN:X.N[i]? =some x:=by rfl)(hv:Vis X.env.scope x:=by first|exact Or.inl rfl|exact Or.inr (Or.inl rfl)|exact Or.inr (Or.inr rfl))(hd:(x==("__debug__":Str))=false:=by decide)
  (hcd:(x==("__classdict__":Str))=false:=by decide):PE X (.Name x pos) (mVar i):=by
 intro pj s σ H Q I h;refine pe_var hN hv hd hcd pj s σ H Q I ?_;unfold mVar at h;split at h
 ·rename_i v q;exact⟨v,q,h⟩
 ·exact h.elim
def m2(C:Int->Int->Prop)(g:Int->Int->V):R2:=λx y H Q=>match x,y with
 | .int i,.int j=>C i j/\Q (g i j) H
 |_,_=>False
def m20(g:Int->Int->V):R2:=λx y H Q=>match x,y with
 | .int i,.int j=>Q (g i j) H
 |_,_=>False
theorem m2_to(h:m2 C g x y H Q):rI C g x y H Q:=by
 cases x<;>cases y<;>first|exact(show False from h).elim|exact⟨_,_,rfl,rfl,h⟩
theorem b2o(h:m20 g x y H Q):rI0 g x y H Q:=by
 cases x<;>cases y<;>first|exact(show False from h).elim|exact⟨_,_,rfl,rfl,h⟩
theorem OpR.imp(h:OpR X f r)(k:∀x y H Q,r' x y H Q->r x y H Q):OpR X f r':=λpj s σ H x y v u Q I rx ry q=>h pj s σ H x y v u Q I rx ry (k x y H Q q)
def mAdd(K:W.Frag):R2:=λx y H Q=>match x,y with
 | .int i,.int j=>Q (.int (i+j)) H
 | .str i,.str j=>i.length+j.length<=sizeLine/\Q (.str (i++j)) H
 | .ref p,.ref q=>(∃xs ys,H p=some (.lst xs)/\H q=some (.lst ys)/\xs.length+ys.length<=sizeLine/\∀d,H d=none->Q (.ref d) (upd H d (.lst (xs++ys))))\/
   ∃xs ys,SqT K H p xs/\SqT K H q ys/\xs≠[]/\xs.length+ys.length<=sizeLine/\(ys=[]->Q (.ref p) H)/\(ys≠[]->∀d,H d=none->Q (.ref d) (upd H d (.tup (xs++ys))))
 |_,_=>False
theorem mo_add:OpR X (binaryOp .Add) (mAdd X.K):=by
 refine(op_add.or (c5l.or (op_cat.or op_catT))).imp λx y H Q h=>?_
 cases x<;>cases y<;>first
  |exact(show False from h).elim
  |exact .inl ⟨_,_,rfl,rfl,h⟩
  |exact .inr (.inl ⟨_,_,rfl,rfl,h⟩)
  | (rcases h with⟨xs,ys,h1,h2,h3,h4⟩|⟨xs,ys,h1,h2,h3,h4,h5⟩
     ·exact .inr (.inr (.inl ⟨_,_,xs,ys,rfl,rfl,h1,h2,h3,h4⟩))
     ·exact .inr (.inr (.inr ⟨_,_,xs,ys,rfl,rfl,h1,h2,h3,h4,h5⟩)))
theorem b6k:OpR X (binaryOp .Sub) (m20 λi j=>.int (i-j)):=op_sub.imp λ_ _ _ _ h=>b2o h
def mMul:R2:=λx y H Q=>match x,y with
 | .int i,.int j=>IntMulOk i j/\Q (.int (i*j)) H
 | .ref l,.int k=>∃xs,H l=some (.lst xs)/\-(2^63)<=k/\k<2^63/\xs.length*k.toNat<=sizeLine/\∀p,H p=none->Q (.ref p) (upd H p (.lst (List.replicate k.toNat xs).flatten))
 |_,_=>False
theorem op_mulW:OpR X (binaryOp .Mult) (rI (λi j=>IntMulOk i j) λi j=>.int (i*j)):=opI λ_ _ _ _ _ _ _ hc q=>mul_int q hc
theorem b6l:OpR X (binaryOp .Mult) mMul:=by
 refine(op_mulW.or op_rep).imp λx y H Q h=>?_
 cases x<;>cases y<;>first
  |exact(show False from h).elim
  |exact .inl ⟨_,_,rfl,rfl,h⟩
  | (obtain⟨xs,h1,h2,h3,h4,h5⟩:=h;exact .inr ⟨_,_,xs,rfl,rfl,h1,h2,h3,h4,h5⟩)
theorem b0d:OpR X (binaryOp .Mod) (m2 (λ_ j=>0<j) λi j=>.int (i%j)):=op_mod.imp λ_ _ _ _ h=>m2_to h
theorem mo_pow:OpR X (binaryOp .Pow) (m2 CPow λi j=>.int (i^j.toNat)):=op_pow.imp λ_ _ _ _ h=>m2_to h
theorem c0t:OpR X (compareOp .Lt) (m20 λi j=>.bl (decide (i<j))):=op_lt.imp λ_ _ _ _ h=>b2o h
theorem mo_le:OpR X (compareOp .LtE) (m20 λi j=>.bl (decide (i<=j))):=op_le.imp λ_ _ _ _ h=>b2o h
theorem b3y:OpR X (compareOp .Gt) (m20 λi j=>.bl (decide (j<i))):=op_gt.imp λ_ _ _ _ h=>b2o h
theorem mo_ge:OpR X (compareOp .GtE) (m20 λi j=>.bl (decide (j<=i))):=op_ge.imp λ_ _ _ _ h=>b2o h
def mEq(n:Bool):R2:=λx y H Q=>match x,y with
 | .int i,.int j=>Q (.bl (n^^decide (i=j))) H
 | .str i,.str j=>Q (.bl (n^^decide (i=j))) H
 | .bl i,.bl j=>Q (.bl (n^^decide (i=j))) H
 | .non,.non=>Q (.bl (n^^true)) H
 | .non,.int _=>Q (.bl n) H
 | .non,.str _=>Q (.bl n) H
 | .non,.bl _=>Q (.bl n) H
 | .int _,.non=>Q (.bl n) H
 | .str _,.non=>Q (.bl n) H
 | .bl _,.non=>Q (.bl n) H
 | .int _,.str _=>Q (.bl n) H
 | .str _,.int _=>Q (.bl n) H
 | .bl _,.str _=>Q (.bl n) H
 | .str _,.bl _=>Q (.bl n) H
 |_,_=>False
theorem a2b:OpR X (compareOp .Eq) (mEq false):=by
 refine op_eq.imp λx y H Q h=>?_
 cases x<;>cases y<;>first
  |exact(show False from h).elim
  |exact⟨rfl,by simpa using(show Q _ H from h)⟩
theorem mo_ne:OpR X (compareOp .NotEq) (mEq true):=by
 refine op_ne.imp λx y H Q h=>?_
 cases x<;>cases y<;>first
  |exact(show False from h).elim
  |exact⟨rfl,by simpa using(show Q _ H from h)⟩
def c0u(t:TE):TT:=λσ H Q=>t σ H (mB Q)
theorem c1k(t:TE):c0u t=tTest t:=by
 funext σ H Q
 show t σ H (mB Q)=t σ H _
 rw[c0s]
theorem a0z(ho:OpR X (compareOp op) r)(ha:PE X a ta)(hb:PE X b tb)(hm:behindInMarks op b=false):PT X (.Compare a [op] [b] pos) (c0u (tOp r ta tb)):=by
 rw[c1k];exact pt_cmpR ho ha hb hm
def b6m(r r':R2)(ta tb tc:TE):TE:=λσ H Q=>ta σ H λx H1=>tb σ H1 λy H2=>r x y H2 (mB λk H3=>if k=true then tc σ H3 λw' H4=>r' y w' H4 Q else Q (.bl false) H3)
theorem c7w(r r':R2)(ta tb tc:TE):b6m r r' ta tb tc=c1d r r' ta tb tc:=by
 funext σ H Q
 unfold b6m c1d;simp only[c0s]
theorem d1p(ho:OpR X (compareOp op) r)(ho':OpR X (compareOp op') r')(ha:PE X a ta)(hb:PE X b tb)(hc:PE X c tc)
  (hm:lastMarks [op,op'] [b,c]=false:=by with_unfolding_all rfl):PT X (.Compare a [op,op'] [b,c] pos) (c0u (b6m r r' ta tb tc)):=by
 rw[c1k,c7w];exact d1c ho ho' ha hb hc hm
def mTru(K:W.Frag)(Q:Bool->Hp->Prop):VK:=λx H=>match x with
 | .non=>Q false H
 | .bl b=>Q b H
 | .int i=>Q (decide (i≠0)) H
 | .str y=>y.length<=sizeLine/\Q (decide (y.length≠0)) H
 | .ref p=>(∃xs,SqL K H p xs/\Q (!xs.isEmpty) H)\/(∃xs,SqT K H p xs/\Q (!xs.isEmpty) H)\/∃kvs,H p=some (.dK kvs)/\Q (!kvs.isEmpty) H
 |_=>False
theorem c4g{K:FG}{Q:Bool->Hp->Prop}{x:V}{H:Hp}(h:mTru K Q x H):∃k,TruV K x H k/\Q k H:=by
 cases x with
 |non=>exact⟨_,rfl,h⟩
 |bl b=>exact⟨_,rfl,h⟩
 |int i=>
  have h:Q (decide (i≠0)) H:=h;refine⟨i !=0,rfl,?_⟩;have e:(i !=0)=decide (i≠0):=by
   rw[Wn];simp
  rw[e];exact h
 |str y=>
  obtain⟨h1,h⟩:y.length<=sizeLine/\Q (decide (y.length≠0)) H:=h;refine⟨((y.length:Int) !=0),⟨h1,rfl⟩,?_⟩;have e:((y.length:Int) !=0)=decide (y.length≠0):=by
   rw[Wn];simp
  rw[e];exact h
 |ref p=>
  rcases h with⟨xs,h1,h2⟩|⟨xs,h1,h2⟩|⟨xs,h1,h2⟩
  ·exact⟨_,.inl ⟨xs,h1,rfl⟩,h2⟩
  ·exact⟨_,.inr (.inl ⟨xs,h1,rfl⟩),h2⟩
  ·exact⟨_,.inr (.inr ⟨xs,h1,rfl⟩),h2⟩
 |_=>exact(show False from h).elim
def mTrue(K:W.Frag)(ta:TE):TT:=λσ H Q=>ta σ H (mTru K Q)
theorem mt_tru(ha:PE X a ta)(he:∀whole,isTrue a X.env whole=(do let v <-whole;standAt a.pos;holding [v] (truthy v)):=by intro _;rfl):PT X a (mTrue X.K ta):=by
 intro pj s σ H Q I h;exact isTrue_plain (thn (ha pj s σ H _ I h) λv s1 ⟨x,H1,I1,r1,q1⟩=>c7b pj s1 σ H1 x v Q I1 r1 (c4g q1)) (he _)
def c0v(ta tb:TE):TE:=λσ H Q=>ta σ H (mB λc H1=>if c=true then tb σ H1 Q else Q (.bl false) H1)
def mOrV(ta tb:TE):TE:=λσ H Q=>ta σ H (mB λc H1=>if c=true then Q (.bl true) H1 else tb σ H1 Q)
variable{rest:List Expr}
theorem a7i(ha:PE X a ta)(hb:PE X (.BoolOp .And (b::rest) pos) tb):PE X (.BoolOp .And (a::b::rest) pos) (c0v ta tb):=by
 have e:c0v ta tb=tAndV ta tb:=by funext σ H Q;unfold c0v tAndV;rw[c0s]
 rw[e];exact pe_and ha hb
theorem b6n(ha:PE X a ta)(hb:PE X (.BoolOp .Or (b::rest) pos) tb):PE X (.BoolOp .Or (a::b::rest) pos) (mOrV ta tb):=by
 have e:mOrV ta tb=tOrV ta tb:=by funext σ H Q;unfold mOrV tOrV;rw[c0s]
 rw[e];exact pe_or ha hb
def mIx(K:W.Frag):R2:=λx y H Q=>match x,y with
 | .ref p,.int i=>(∃xs v,SqL K H p xs/\atI xs i=some v/\Q v H)\/∃xs v,SqT K H p xs/\atI xs i=some v/\Q v H
 | .str z,.int i=>z.length<=sizeLine/\∃c,atI z.cps.toList i=some c/\Q (.str ⟨#[c]⟩) H
 |_,_=>False
theorem mi_seq:IxR X (mIx X.K):=by
 intro value slice pj s σ H x y v u Q I rx ry h hs;refine ix_seq value slice pj s σ H x y v u Q I rx ry ?_ hs;cases x<;>cases y<;>first
  |exact(show False from h).elim
  | (rcases h with⟨xs,v,h1,h2,h3⟩|⟨xs,v,h1,h2,h3⟩
     ·exact .inl ⟨_,xs,_,v,rfl,rfl,h1,h2,h3⟩
     ·exact .inr (.inl ⟨_,xs,_,v,rfl,rfl,h1,h2,h3⟩))
  | (obtain⟨h1,c,h2,h3⟩:=h;exact .inr (.inr ⟨_,_,c,rfl,rfl,h1,h2,h3⟩))
def inS(i j:Str):Bool:=!(Builtin.Str.occurrences j i 0 j.length 1).isEmpty
def mInS(n:Bool):R2:=λx y H Q=>match x,y with
 | .str i,.str j=>Q (.bl (n^^inS i j)) H
 |_,_=>False
theorem b6o:OpR X (compareOp .In) (mInS false):=c7a.imp λx y H Q h=>by
 cases x<;>cases y<;>first|exact(show False from h).elim|exact⟨_,_,rfl,rfl,by simpa[mInS,inS]using h⟩
def mI(R:Option Int->Hp->Prop):VK:=λx H1=>match x with| .int i=>R (some i) H1|_=>False
def c0w(t:TE):TO:=λσ H Q=>t σ H (mI Q)
theorem a6s(h:PE X e te):PO X (some e) (c0w te):=by
 have q:c0w te=tPart te:=by
  funext σ H Q
  unfold c0w tPart
  congr 1
  funext x H1
  cases x<;>simp[mI]
 rw[q];exact po_some h
def mLen(K:W.Frag):List V->Hp->VK->Prop:=λvs H Q=>match vs with
 | [.str y]=>y.length<=sizeLine/\Q (.int y.length) H
 | [.ref p]=>(∃xs,SqL K H p xs/\Q (.int xs.length) H)\/∃xs,SqT K H p xs/\Q (.int xs.length) H
 |_=>False
theorem mc_len:a3r X (.builtin "len") (mLen X.K):=by
 intro pj s σ H xs us Q I r h;refine d1d pj s σ H xs us Q I r ?_;rcases xs with _|⟨x,_|⟨y,ys⟩⟩
 ·exact(show False from h).elim
 ·cases x with
  |str y=>
   have h:y.length<=sizeLine/\Q (.int y.length) H:=h;exact⟨_,_,rfl,⟨h.1,rfl⟩,h.2⟩
  |ref p=>
   have h:(∃xs,SqL X.K H p xs/\Q (.int xs.length) H)\/∃xs,SqT X.K H p xs/\Q (.int xs.length) H:=h;rcases h with⟨ys,h1,h2⟩|⟨ys,h1,h2⟩
   ·exact⟨_,_,rfl,.inl ⟨ys,h1,rfl⟩,h2⟩
   ·exact⟨_,_,rfl,.inr ⟨ys,h1,rfl⟩,h2⟩
  |_=>exact(show False from h).elim
 ·cases x<;>exact(show False from h).elim
theorem d1q(K:FG)(t:Value):W.kitOne K t t=some true:=by
 unfold W.kitOne;rw[if_pos qz]
theorem c4h:∀{bs:List Bool}{us:List Value},Vals (bs.map V.bl) us->us=bs.map Value.bool
 | [],_,.nil=>rfl
 |b::bs,_,.cons r t=>by
  have r:_=Value.bool b:=r;rw[Z5,r,c4h t]
theorem all_range(bs:List Bool):((List.range bs.length).all λi=>bs.getD i true)=bs.all id:=by
 rw[Wn,X0,X0]
 constructor
 ·intro h x hx;obtain⟨i,hi,e⟩:=R7 hx;have:=h i (Wh.mpr hi);rw[Z2,Zj hi]at this
  simpa[e]using this
 ·intro h i hi;have hi:=Wh.mp hi;rw[Z2,Zj hi];exact h _ (Yq hi)
def mAll(K:W.Frag)(f:List Bool->Bool):List V->Hp->VK->Prop:=λvs H Q=>match vs with
 | [.ref p]=>∃bs:List Bool,SqL K H p (bs.map V.bl)/\Q (.bl (f bs)) H
 |_=>False
theorem c7x{pj:List (Addr×Obj)}{s:Shared}{σ:St}{H:Hp}{p:Addr}{bs:List Bool}{Q:VK}(hc:X.calm=true)(I:Inv X pj σ H s)(hs:SqL X.K H p (bs.map V.bl))(f:(Nat->Bool)->Nat->Bool)(q:Q (.bl (f (λi=>bs.getD i true) bs.length)) H){E:Value->Shared->Prop}:
  wpAny (model X.prog X.w) X.A.in1 (pyIter (.ref p)) (λit s2=>∃J fp wr n P St tr,it=.ref J/\Walks X.prog X.w X.A.in1 J fp wr n P St/\St 0 s2.heap/\TruthOf X.prog X.w X.A.in1 P tr/\
   ∀h' tk,(∀b o,b∉wr->s2.heap.get? b=some o->h'.get? b=some o)->EP X pj σ Q (.bool (f tr n)) { s2 with heap:=h',toks:=tk}) E s:=by
 obtain⟨its,r,pl,hz⟩:=I.list hs;have e:=c4h r;subst e;have hl:p<s.heap.objs.size:=by
  obtain⟨o,n,h1,_⟩:=pl;exact Zs h1
 refine Um pl.isList ?_
 refine⟨s.heap.objs.size,[s.heap.objs.size,p],[s.heap.objs.size],(bs.map Value.bool).toArray.size,_,_,λi=>bs.getD i true,rfl,Walks.list (A:=X.A.in1) (show X.A.in1.handled=none from I.ok.hd hc) s.heap.objs.size p (Z1 hl) (bs.map Value.bool).toArray,
  ⟨⟨_,Zv _ rfl,rfl,rfl⟩,pl.isList.at λo e=>Zk _ e⟩,λi v s' Q' E' hv hq=>?_,λh' tk hk=>?_⟩
 ·have hv:(bs.map Value.bool).toArray[i]? =some v:=hv
  rw[Rk,Yk]at hv;cases e:bs[i]? with
  |none=>rw[e]at hv;cases hv
  |some b=>
   rw[e]at hv;have hv:Value.bool b=v:=Zw hv;subst hv;have hq:Q' (bs.getD i true) s':=hq;rw[Z2,e]at hq;exact Wa hq
 ·refine⟨.bl _,H,I.kept (λb o e=>hk b o ?_ (Zk _ e)),rfl,by simpa using q⟩;intro z;have z:b=s.heap.objs.size:=by simpa using z
  exact absurd (Zs e) (by rw[z];exact Xo _)
theorem mc_all(hc:X.calm=true):a3r X (.builtin "all") (mAll X.K λbs=>bs.all id):=by
 intro pj s σ H xs us Q I r h;unfold mAll at h;split at h
 ·obtain⟨u,rfl,r1⟩:=vals1 r;cases r1;obtain⟨bs,hs,q⟩:=h;exact call_all_walk (c7x hc I hs (λtr n=>(List.range n).all tr) (by rw[all_range];exact q))
 ·exact h.elim
end
section
variable{X:Cx}{a b c e:Expr}{ta tb tc te:TE}{pos:Pos}
def mNotV(K:W.Frag)(ta:TE):TE:=λσ H Q=>ta σ H (mTru K λb H'=>Q (.bl (!b)) H')
theorem me_not(ha:PE X a ta):PE X (.UnaryOp .Not a pos) (mNotV X.K ta):=by
 intro pj s σ H Q I h;refine UnaryOp_ (thn (ha pj s σ H _ I h) λv s1 z9=>?_);obtain⟨x,H1,I1,r1,q1⟩:=z9;exact not_of (thn (c7b pj s1 σ H1 x v _ I1 r1 (c4g q1)) λb s2 ⟨H2,I2,q2⟩=>⟨.bl (!b),H2,I2,rfl,q2⟩)
def b8d:V->List V->Hp->VK->Prop:=λx vs H Q=>match x,vs with
 | .ref l,[y]=>∃xs,H l=some (.lst xs)/\xs.length<sizeLine/\Q .non (upd H l (.lst (xs++[y])))
 |_,_=>False
theorem a2j:MtR X "list.append" b8d:=by
 intro pj s σ H x xs v us Q I rx rs h;refine b2m pj s σ H x xs v us Q I rx rs ?_;unfold b8d at h;split at h
 ·obtain⟨ys,h1,h2,h3⟩:=h;exact⟨_,ys,_,rfl,rfl,h1,h2,h3⟩
 ·exact h.elim
def mPop:V->List V->Hp->VK->Prop:=λx vs H Q=>match x,vs with
 | .ref l,[]=>∃xs y,H l=some (.lst (xs++[y]))/\Q y (upd H l (.lst xs))
 |_,_=>False
theorem b0e:MtR X "list.pop" mPop:=by
 intro pj s σ H x xs v us Q I rx rs h;refine mt_pop pj s σ H x xs v us Q I rx rs ?_;unfold mPop at h;split at h
 ·obtain⟨ys,y,h1,h2⟩:=h;exact⟨_,_,y,rfl,rfl,h1,qz,by rw[List.dropLast_concat];exact h2⟩
 ·exact h.elim
def mUn(g:Int->Int):V->Hp->VK->Prop:=λx H Q=>match x with| .int i=>Q (.int (g i)) H|_=>False
theorem c1l:UnR X (unaryOp .USub) (mUn λi=>-i):=by
 intro pj s σ H x v Q I rx h;refine un_neg pj s σ H x v Q I rx ?_;cases x<;>first|exact(show False from h).elim|exact⟨_,rfl,h⟩
end
section
variable{X:Cx}
theorem a6t(hg:Gl X x)(hm:X.mg x=some (.str z tk))(hd:(x==("__debug__":Str))=false:=by decide):PE X (.Name x pos) (tC (.str z)):=c3z hg hm ⟨tk,rfl⟩ hd
theorem a8f(hg:Gl X x)(hm:X.mg x=some (.int z tk))(hd:(x==("__debug__":Str))=false:=by decide):PE X (.Name x pos) (tC (.int z)):=c3z hg hm ⟨tk,rfl⟩ hd
end
section
variable{X:Cx}{a b c e o:Expr}{es:List Expr}{ta tb tc te to:TE}{t:TA}{pos:Pos}{tg l:Expr}{tl:TE}
theorem c7y(hg:Gl X x)(hm:X.mg x=none)(hv:bootBuiltins x=some (.type n))(hn:x≠"__name__":=by decide)(hd:(x==("__debug__":Str))=false:=by decide):PE X (.Name x pos) (tC (.ty n)):=pe_bltn hg hm hv rfl hn hd
theorem a1t(K:FG)(h:X.K=K):OpR X (binaryOp .Add) (mAdd K):=h▸mo_add
theorem a2k(K:FG)(h:X.K=K)(ha:PE X a ta)(he:∀whole,isTrue a X.env whole=(do let v <-whole;standAt a.pos;holding [v] (truthy v)):=by intro _;rfl):PT X a (mTrue K ta):=h▸mt_tru ha he
theorem ke_not(K:FG)(h:X.K=K)(ha:PE X a ta):PE X (.UnaryOp .Not a pos) (mNotV K ta):=h▸me_not ha
theorem a0j(K:FG)(h:X.K=K):IxR X (mIx K):=h▸mi_seq
theorem a2x(K:FG)(h:X.K=K):a3r X (.builtin "len") (mLen K):=h▸mc_len
theorem kc_all(K:FG)(h:X.K=K)(hc:X.calm=true):a3r X (.builtin "all") (mAll K λbs=>bs.all id):=h▸mc_all hc
theorem a2e(K:FG)(h:X.K=K)(hl:PE X l tl):PI X tg l (iList K tl):=h▸pi_list hl
theorem c4i(K:FG)(h:X.K=K)(hl:PE X l tl):PI X tg l (iTup K tl):=h▸pi_tup hl
theorem b0f(K:FG)(h:X.K=K){apos cpos:Pos}{T id:String}{r:V->List V->Hp->VK->Prop}(pa:PlainAttrs T)(slot:Slot T name id)(hty:typeOf (.builtin id)=pure (.type "method_descriptor"))(hm:MtR X id r)(ho:PE X o to)
  (hbase:attributeBase o name X.env (eval o X.env)=eval o X.env:=by rfl)(hline:(apos.endLine==cpos.line)=true:=by rfl):PE X (.Call (.Attribute o name apos) [] [] cpos) (tBM0 K T r to):=h▸pe_bm0 pa slot hty hm ho hbase hline
theorem a2p(K:FG)(h:X.K=K){apos cpos:Pos}{T id:String}{r:V->List V->Hp->VK->Prop}(pa:PlainAttrs T)(slot:Slot T name id)(hty:typeOf (.builtin id)=pure (.type "method_descriptor"))(hm:MtR X id r)(ho:PE X o to)(ha:PA X (e::es) t)
  (hbase:attributeBase o name X.env (eval o X.env)=eval o X.env:=by rfl)
  (hfew:((backTo cpos (starEach (e::es) X.env)).all (λx=>!x.1)&&(backToKw cpos (keywordEach [] X.env)).all (λx=>x.1.isSome)
   &&decide ((e::es).length+([]:List Keyword).length+(if([]:List Keyword).isEmpty then 0 else 1)<30))=true:=by rfl)
  (hline:(apos.endLine==cpos.line)=true:=by rfl)(hs:starEach (e::es) X.env=(false,eval e X.env)::starEach es X.env:=by rfl)(hplain:(backTo cpos (starEach es X.env)).any (·.1)=false:=by rfl):
  PE X (.Call (.Attribute o name apos) (e::es) [] cpos) (tBM K T r to t):=h▸pe_bm pa slot hty hm ho ha hbase hfew hline hs hplain
theorem xor_n{b c:Bool}(h:(false^^b)=c):b=c:=by cases b<;>exact h
end
theorem a5k{α:Type}{xs:List α}{i:Int}(h0:0<=i)(h1:i<(xs.length:Int)):∃v,atI xs i=some v/\xs[i.toNat]? =some v:=by
 have hk:i.toNat<xs.length:=by omega
 have ek:i=((i.toNat:Nat):Int):=by omega
 have q:xs[i.toNat]? =some xs[i.toNat]:=Zj hk
 refine⟨xs[i.toNat],?_,q⟩;have:=atI_nat q;rw[<-ek]at this;exact this
theorem a0h(h:H p=none)(o:HO):Same H (upd H p o):=λb u q=>by rw[a0f (a0w q h)];exact q
theorem a1c(e:Same H H')(h:H p=none):Same H (upd H' p o):=λb u q=>by rw[a0f (a0w q h)];exact e b u q
theorem Same.tup{K:FG}{H H':Hp}{a:Addr}{xs:List V}(e:Same H H')(h:SqT K H a xs):SqT K H' a xs:=by
 rcases h with(h|⟨o,h⟩)|h
 ·exact .inl (.inl (e _ _ h))
 ·exact .inl (.inr ⟨o,e _ _ h⟩)
 ·exact .inr h
theorem b4o(h:-(2^64)<j/\j<2^64):IntMulOk i j:=CMul.ok (.inr h)
theorem b6p(h:-(2^64)<i/\i<2^64):IntMulOk i j:=CMul.ok (.inl h)
section
variable{K:W.Frag}{σ:St}{H:Hp}{Q:VK}{D:Ends}{ta tb tc te:TE}{t u:TS}{A B:TT}{P:Bool->Hp->Prop}{v x y:V}{i j:Int}{n:Nat}{b:Bool}{p q:Str}
theorem mVar_i(h:σ[n]? =some (some v))(k:Q v H):mVar n σ H Q:=by unfold mVar;rw[h];exact k
theorem tC_i(k:Q v H):tC v σ H Q:=k
theorem tOp_i(k:ta σ H λx H1=>tb σ H1 λy H2=>r x y H2 Q):tOp r ta tb σ H Q:=k
theorem tUn_i(k:ta σ H λx H1=>r x H1 Q):tUn r ta σ H Q:=k
theorem mUn_i(k:Q (.int (g i)) H):mUn g (.int i) H Q:=k
theorem m20_i(k:Q (g i j) H):m20 g (.int i) (.int j) H Q:=k
theorem m2_i(c:C i j)(k:Q (g i j) H):m2 C g (.int i) (.int j) H Q:=⟨c,k⟩
theorem mAdd_i(k:Q (.int (i+j)) H):mAdd K (.int i) (.int j) H Q:=k
theorem c7z(c:p.length+q.length<=sizeLine)(k:Q (.str (p++q)) H):mAdd K (.str p) (.str q) H Q:=⟨c,k⟩
theorem b6q(c:IntMulOk i j)(k:Q (.int (i*j)) H):mMul (.int i) (.int j) H Q:=⟨c,k⟩
theorem mEq_i(k:Q (.bl (b^^decide (i=j))) H):mEq b (.int i) (.int j) H Q:=k
theorem mEq_s(k:Q (.bl (b^^decide (p=q))) H):mEq b (.str p) (.str q) H Q:=k
theorem mInS_i(k:Q (.bl (b^^inS p q)) H):mInS b (.str p) (.str q) H Q:=k
theorem mB_i(k:P b H):mB P (.bl b) H:=k
theorem mTest_i(k:ta σ H (mB P)):c0u ta σ H P:=k
theorem mTrue_i(k:ta σ H (mTru K P)):mTrue K ta σ H P:=k
theorem mTru_b(k:P b H):mTru K P (.bl b) H:=k
theorem d1r(k:ta σ H λx H1=>tb σ H1 λy H2=>r x y H2 (mB λk H3=>if k=true then tc σ H3 λw' H4=>r' y w' H4 Q else Q (.bl false) H3)):b6m r r' ta tb tc σ H Q:=k
theorem mAndV_i(k:ta σ H (mB λc H1=>if c=true then tb σ H1 Q else Q (.bl false) H1)):c0v ta tb σ H Q:=k
theorem mOrV_i(k:ta σ H (mB λc H1=>if c=true then Q (.bl true) H1 else tb σ H1 Q)):mOrV ta tb σ H Q:=k
theorem mNotV_i(k:ta σ H (mTru K λb H'=>Q (.bl (!b)) H')):mNotV K ta σ H Q:=k
theorem tIf_i(k:A σ H λc H1=>if c=true then ta σ H1 Q else tb σ H1 Q):tIf A ta tb σ H Q:=k
theorem tAnd_i(k:A σ H λc H1=>if c=true then B σ H1 P else P false H1):tAnd A B σ H P:=k
theorem tOr_i(k:A σ H λc H1=>if c=true then P true H1 else B σ H1 P):tOr A B σ H P:=k
theorem tNot_i(k:A σ H λc H1=>P (!c) H1):tNot A σ H P:=k
theorem c4j(k:D.nx σ H):tNext D σ H:=k
theorem tRet_i(k:te σ H D.rt):tRet te D σ H:=k
theorem tDrop_i(k:te σ H λ_ H1=>D.nx σ H1):tDrop te D σ H:=k
theorem c4k(k:N (σ.set n (some v)) H):b1c n v σ H N:=k
theorem tCB_i(k:a σ H λvs H1=>r vs H1 Q):tCB r a σ H Q:=k
theorem tCons_i(k:ta σ H λx H1=>a σ H1 λxs H2=>R (x::xs) H2):tCons ta a σ H R:=k
theorem tNil_i(k:R [] H):tNil σ H R:=k
theorem tBM_i(k:ta σ H λx H1=>tyV K T x H1/\a σ H1 λxs H2=>r x xs H2 Q):tBM K T r ta a σ H Q:=k
theorem tBM0_i(k:ta σ H λx H1=>tyV K T x H1/\r x [] H1 Q):tBM0 K T r ta σ H Q:=k
theorem tTup_i(k:a σ H λxs H1=>xs.length<=sizeLine/\∀p,H1 p=none->Q (.ref p) (upd H1 p (.tup xs))):tTup a σ H Q:=k
theorem tLst_i(k:a σ H λxs H1=>xs.length<=sizeLine/\∀p,H1 p=none->Q (.ref p) (upd H1 p (.lst xs))):tLst a σ H Q:=k
theorem tSl_i(k:te σ H λx H1=>tl σ H1 λl H2=>th σ H2 λu H3=>r x l u H3 Q):tSl r te tl th σ H Q:=k
theorem c8a(k:R none H):c4e σ H R:=k
theorem mPart_i(k:te σ H (mI R)):c0w te σ H R:=k
theorem mI_i(k:R (some i) H):mI R (.int i) H:=k
theorem mLen_s(c:p.length<=sizeLine)(k:Q (.int p.length) H):mLen K [.str p] H Q:=⟨c,k⟩
theorem a4h(c:SqL K H a xs)(k:Q (.int xs.length) H):mLen K [.ref a] H Q:=.inl ⟨xs,c,k⟩
theorem b6r(c:SqT K H a xs)(k:Q (.int xs.length) H):mLen K [.ref a] H Q:=.inr ⟨xs,c,k⟩
theorem a2l{a:Addr}{xs:List V}(c:SqL K H a xs)(e:atI xs i=some v)(k:Q v H):mIx K (.ref a) (.int i) H Q:=.inl ⟨xs,v,c,e,k⟩
theorem a0k{a:Addr}{xs:List V}(c:SqT K H a xs)(e:atI xs i=some v)(k:Q v H):mIx K (.ref a) (.int i) H Q:=.inr ⟨xs,v,c,e,k⟩
theorem mIx_s{c:Nat}(z:p.length<=sizeLine)(e:atI p.cps.toList i=some c)(k:Q (.str ⟨#[c]⟩) H):mIx K (.str p) (.int i) H Q:=⟨z,c,e,k⟩
theorem a2f(e:H a=some (.lst xs))(c:xs.length<sizeLine)(k:Q .non (upd H a (.lst (xs++[v])))):b8d (.ref a) [v] H Q:=⟨xs,e,c,k⟩
theorem iteB{c d:Prop}(h1:b=true->c)(h2:b=false->d):if b=true then c else d:=by
 cases b with
 |true=>exact h1 rfl
 |false=>exact h2 rfl
theorem d1s(k:a σ H λvs H1=>sp vs H1 Q E):tCall sp [] E a σ H Q:=by
 unfold tCall;have e:(λ(vs:List V) (H1:Hp)=>sp (vs++[]) H1 Q E)=λvs H1=>sp vs H1 Q E:=by funext vs H1;rw[Yg]
 rw[e];exact k
theorem tFor_i(k:wi σ H λJ H1=>ForW J g t D σ H1):tFor wi g t D σ H:=k
theorem iStr_i(k:ta σ H λv H1=>∃x,v=.str x/\R (Its x) H1):iStr ta σ H R:=k
theorem iList_i(k:ta σ H λx H1=>∃a,x=.ref a/\(∃xs,SqL K H1 a xs)/\R (Itl K a) H1):iList K ta σ H R:=k
theorem iTup_i(k:ta σ H λx H1=>∃a,x=.ref a/\(∃xs,SqT K H1 a xs)/\R (Itt K a) H1):iTup K ta σ H R:=k
theorem iRng1_i(k:a σ H λvs H1=>∃j:Int,vs=[.int j]/\-(2^62)<=j/\j<2^62/\R (Itr 0 j.toNat) H1):iRng1 a σ H R:=k
theorem tComp_i(k:wi σ H λJ H1=>∀D,H1 D=none->c0r J tt te σ Q D H1):tComp wi tt te σ H Q:=k
end
mutual
inductive Den(K:W.Frag)(H:Hp):V->PyData->Prop
 |non:Den K H .non .none
 |bl (b:Bool):Den K H (.bl b) (.bool b)
 |int (i:Int):Den K H (.int i) (.int i)
 |str (x:Str):Den K H (.str x) (.str x)
 |tup {a:Addr} {us:List V} {ds:List PyData}:SqT K H a us->DenL K H us ds->Den K H (.ref a) (.tuple ds)
inductive DenL(K:W.Frag)(H:Hp):List V->List PyData->Prop
 |nil:DenL K H [] []
 |cons {u:V} {us:List V} {d:PyData} {ds:List PyData}:Den K H u d->DenL K H us ds->DenL K H (u::us) (d::ds)
end
mutual
theorem Den.monoT{K:FG}{H H':Hp}(e:∀a xs,SqT K H a xs->SqT K H' a xs):∀{v:V}{d:PyData},Den K H v d->Den K H' v d
 |_,_,.non=>.non
 |_,_,.bl b=>.bl b
 |_,_,.int i=>.int i
 |_,_,.str x=>.str x
 |_,_,.tup h l=>.tup (e _ _ h) (DenL.monoT e l)
theorem DenL.monoT{K:FG}{H H':Hp}(e:∀a xs,SqT K H a xs->SqT K H' a xs):∀{v:List V}{d:List PyData},DenL K H v d->DenL K H' v d
 |_,_,.nil=>.nil
 |_,_,.cons h l=>.cons (Den.monoT e h) (DenL.monoT e l)
end
theorem Den.mono{K:FG}{H H':Hp}(e:Same H H'){v:V}{d:PyData}(h:Den K H v d):Den K H' v d:=h.monoT λ_ _ q=>e.tup q
theorem DenL.mono{K:FG}{H H':Hp}(e:Same H H'){v:List V}{d:List PyData}(h:DenL K H v d):DenL K H' v d:=h.monoT λ_ _ q=>e.tup q
theorem b8e{K:FG}{H:Hp}{p:Addr}{ys:List V}{o:HO}(h:H p=some (.lst ys)):∀a xs,SqT K H a xs->SqT K (upd H p o) a xs:=λa xs q=>by
 rcases q with(q|⟨o',q⟩)|q
 ·exact .inl (.inl (by rw[a0f (a1a q h (λz=>by cases z))];exact q))
 ·exact .inl (.inr ⟨o',by rw[a0f (a1a q h (λz=>by cases z))];exact q⟩)
 ·exact .inr q
theorem Den.lst{K:FG}{H:Hp}{p:Addr}{ys:List V}{o:HO}(h:H p=some (.lst ys)){v:V}{d:PyData}(q:Den K H v d):Den K (upd H p o) v d:=q.monoT (b8e h)
theorem DenL.lst{K:FG}{H:Hp}{p:Addr}{ys:List V}{o:HO}(h:H p=some (.lst ys)){v:List V}{d:List PyData}(q:DenL K H v d):DenL K (upd H p o) v d:=q.monoT (b8e h)
section
variable{K:W.Frag}{H:Hp}
theorem DenL.length:∀{us:List V}{ds:List PyData},DenL K H us ds->us.length=ds.length
 |_,_,.nil=>rfl
 |_,_,.cons _ l=>by rw[length_cons,length_cons,DenL.length l]
theorem DenL.get:∀{us:List V}{ds:List PyData}{i:Nat}{u:V},DenL K H us ds->us[i]? =some u->∃d,ds[i]? =some d/\Den K H u d
 |_,_,_,_,.nil,e=>by simp at e
 |_,_,0,_,.cons h _,e=>by simp at e;subst e;exact⟨_,rfl,h⟩
 |_,_,i+1,u,.cons _ l,e=>by
  obtain⟨d,h1,h2⟩:=DenL.get (i:=i) (u:=u) l (by simpa using e);exact⟨d,by simpa using h1,h2⟩
theorem DenL.append:∀{us vs:List V}{ds es:List PyData},DenL K H us ds->DenL K H vs es->DenL K H (us++vs) (ds++es)
 |_,_,_,_,.nil,l=>l
 |_,_,_,_,.cons h t,l=>.cons h (DenL.append t l)
end
section
variable{X:Cx}{pj:List (Addr×Obj)}{σ:St}{H:Hp}{s:Shared}
theorem a4p:∀{ds:List PyData}{i:Nat}{d:PyData},ds[i]? =some d->d.depth<=PyData.depthAll ds
 | [],_,_,e=>by simp at e
 |x::r,0,d,e=>by simp at e;subst e;unfold PyData.depthAll;omega
 |x::r,i+1,d,e=>by
  have:=a4p (ds:=r) (i:=i) (d:=d) (by simpa using e);unfold PyData.depthAll;omega
end
section
variable{X:Cx}{a b c e:Expr}{ta tb tc te:TE}{pos:Pos}{tg l:Expr}{tl:TE}
theorem a2y(hr:Room k A):A.units+150<cLine:=by have:=hr.un;omega
def mSlL(K:W.Frag):V->Option Int->Option Int->Hp->VK->Prop:=λx lo hi H Q=>∃a xs,x=.ref a/\SqL K H a xs/\∀p,H p=none->Q (.ref p) (upd H p (.lst (cutV xs lo hi)))
theorem a6u(K:FG)(h:X.K=K):SlR X (mSlL K):=h▸sl_list
def mTup(K:W.Frag):List V->Hp->VK->Prop:=λvs H Q=>∃p ys,vs=[.ref p]/\((SqL K H p ys/\∀l,H l=none->Q (.ref l) (upd H l (.tup ys)))\/(SqT K H p ys/\Q (.ref p) H))
theorem b1k(K:FG)(h:X.K=K):a3r X (.type "tuple") (mTup K):=h▸c0k
def mLst(K:W.Frag):List V->Hp->VK->Prop:=λvs H Q=>∃p ys,vs=[.ref p]/\(SqL K H p ys\/SqT K H p ys)/\∀l,H l=none->Q (.ref l) (upd H l (.lst ys))
theorem a8g(K:FG)(h:X.K=K):a3r X (.type "list") (mLst K):=h▸c1i
end
open PySem.AutoSeq1 in
open PySem.MeetsSeq PySem.MeetsSeq2 PySem.MeetsSeq3 in
theorem c5p(l:Addr)(items:Array Value)(n:Nat)(b:Addr)(items2:Array Value)(n2:Nat)(dd:Option Addr)(sl:Array (Option Value))(hs0:¬(!items.isEmpty&&Builtin.List.listTooLong (items.size+items2.size))=true)(hs1:items.size<=sizeLine)(hs2:items.size+items2.size<=sizeLine+1):
  Meets (Builtin.«list.extend» ⟨[.ref l,.ref b],[]⟩) (λ_ R s=>s.heap.get? l=some { cls:=.type "list",dict:=none,data:=.seq items n,slots:=#[]}/\s.heap.get? b=some { cls:=.type "tuple",dict:=dd,data:=.seq items2 n2,slots:=sl}/\
   R (.ok (.ret Value.none)) { s with heap:=s.heap.update l (Obj.mapSeq λx=>x++items2),toks:=s.toks}):=
 .of_wp λprog w A R s h=>by
  obtain⟨hp,g,d,tk,os⟩:=s;obtain⟨hl,hb,h⟩:=h;have f1:=idx_int;have f2:=PySem.AutoSeq1.sub_tuple_tuple;have f3:=PySem.AutoSeq1.sub_list_list;have f4:=PySem.AutoSeq1.sub_tuple_list;have f5:=PySem.AutoSeq1.sub_list_tuple;have hz':(items++items2).size<=sizeLine+1:=by rw[Array.size_append];exact hs2
  wp_walk using(Wl hl rfl (hz:=hs1) (_hz':=hz')),wpAny_loadPart' hl,wpAny_loadPart' hb
  exact⟨_,rfl,h⟩
section
variable{X:Cx}
def mExt(K:W.Frag):V->List V->Hp->VK->Prop:=λx vs H Q=>∃l b xs zs,x=.ref l/\vs=[.ref b]/\H l=some (.lst xs)/\(H b=some (.lst zs)\/SqT K H b zs)/\xs.length+zs.length<=sizeLine/\Q .non (upd H l (.lst (xs++zs)))
theorem b2p(K:FG)(hK:X.K=K):MtR X "list.extend" (mExt K):=by
 subst hK;intro pj s σ H x vs v us Q I rx rv h;obtain⟨l,b,xs,zs,e1,e2,hH,hB,hz,q⟩:=h;rcases hB with hB|hB
 ·exact c7k pj s σ H x vs v us Q I rx rv ⟨l,b,xs,zs,e1,e2,hH,hB,hz,q⟩
 ·subst e1 e2;cases rx;obtain⟨u,rfl,ru⟩:=rv.one;cases ru;obtain⟨z,its,n,r,hl,e⟩:=I.lstM hH;obtain⟨its2,r2,pl,z2⟩:=I.tuple hB;obtain⟨⟨cls,dd,data,sl⟩,ho,hc,n2,hd⟩:=pl;simp only at hc hd;subst hc hd;have hl2:=r2.length;have hsz:its.toArray.size+its2.toArray.size<=sizeLine:=by rw[Zm,Zm];omega
  have hlong:¬(!its.toArray.isEmpty&&Builtin.List.listTooLong (its.toArray.size+its2.toArray.size))=true:=by
   rw[b5c hsz,Su];exact Zr
  refine Vl Vo ⟨_,e,rfl⟩ Qb (Rx _ _) (c5p l its.toArray n b its2.toArray n2 dd sl hlong (by rw[Zm];omega) qo) ⟨e,ho,?_⟩;refine⟨.non,_,I.lset (its':=its++its2) hH e qz (r.append r2) ?_,rfl,q⟩;rw[Zl];omega
end
section
variable{σ:St}{H:Hp}{D:Ends}{t:TS}{c:TT}
def c8b(c:TT)(t:TS)(D:Ends)(σ:St)(H:Hp):Prop:=c1c c t D σ H
theorem d1t(k:c8b c t D σ H):c1c c t D σ H:=k
theorem a4q(Pv:Nat->St->Hp->Prop)(n:Nat)(h0:Pv n σ H)
  (hs:∀n σ H (R:Bool->Hp->Prop),Pv n σ H->(∀H1,(∀(D':Ends),D'.rt=D.rt->D'.bk=D.nx->(∀σ' H' m,m<n->Pv m σ' H'->D'.nx σ' H')->(∀σ' H' m,m<n->Pv m σ' H'->D'.ct σ' H')->t D' σ H1)->R true H1)->(∀H1,D.nx σ H1->R false H1)->c σ H R):c8b c t D σ H:=by
 refine⟨Pv,⟨n,h0⟩,λm σ H p=>?_⟩;refine hs m σ H _ p (λH1 k=>?_) (λH1 k=>k);exact⟨λσ' H'=>∃m',m'<m/\Pv m' σ' H',λ_ _ h=>h,k _ rfl rfl (λ_ _ m' hm hp=>⟨m',hm,hp⟩) (λ_ _ m' hm hp=>⟨m',hm,hp⟩)⟩
end
section
variable{X:Cx}{a:Expr}{ta:TE}
def tyN(K:W.Frag)(H:Hp):V->String->Prop
 | .non,T=>T="NoneType"
 | .bl _,T=>T="bool"
 | .int _,T=>T="int"
 | .str _,T=>T="str"
 | .ref p,T=>(T="list"/\∃xs,SqL K H p xs)\/(T="tuple"/\∃xs,SqT K H p xs)\/(T="dict"/\∃kvs,H p=some (.dK kvs))
 |_,_=>False
def mIs(K:W.Frag):List V->Hp->VK->Prop:=λvs H Q=>∃x n T b,vs=[x,.ty n]/\tyN K H x T/\(∀K':W.Frag,W.kitOne K' (.type T) (.type n)=some b)/\Q (.bl b) H
theorem kc_is(K:FG)(hK:X.K=K):a3r X (.builtin "isinstance") (mIs K):=by
 subst hK;intro pj s σ H xs us Q I r h;obtain⟨x,n,T,b,rfl,ht,hk,q⟩:=h;obtain⟨u,w',rfl,r1,r2⟩:=c0q r;cases r2;have fin:∀tk,EP X pj σ Q (.bool b) { s with toks:=tk}:=λtk=>⟨.bl b,H,I.tok _,rfl,q⟩
 cases x with
 |non=>cases ht;exact a7h I r1 .non (hk _) fin
 |bl y=>cases ht;exact a7h I r1 (.bl y) (hk _) fin
 |int i=>cases ht;exact a7h I r1 (.int i) (hk _) fin
 |str z=>cases ht;exact a7h I r1 (.str z) (hk _) fin
 |ref p=>
  cases r1;rcases ht with⟨rfl,xs,hs⟩|⟨rfl,xs,hs⟩|⟨rfl,kvs,hs⟩
  ·obtain⟨its,_,⟨o,n',h1,h2,_⟩,_⟩:=I.list hs;exact W1 Ru I.kIn ⟨o,h1,h2⟩ (hk _) (λz=>nomatch z) fin
  ·obtain⟨its,_,⟨o,h1,h2,_⟩,_⟩:=I.tuple hs;exact W1 W.kitx_tuple I.kIn ⟨o,h1,h2⟩ (hk _) (λz=>nomatch z) fin
  ·exact a7h (x:=.ref p) I rfl (.dK hs) (hk _) fin
 |_=>exact(show False from ht).elim
end
section
variable{K:W.Frag}{H:Hp}{Q:VK}{i:Int}{p:Str}{b:Bool}{a:Addr}{xs:List V}
theorem is_str(k:Q (.bl true) H):mIs K [.str p,.ty "str"] H Q:=⟨_,_,_,true,rfl,rfl,λ_=>d1q _ _,k⟩
theorem c4l{α:Type}{xs:List α}{i:Int}{v:α}(h:atI xs i=some v):v∈xs:=by
 obtain⟨j,_,e,_⟩:=b3w h;exact Y4 e
theorem str_app(l m:List Nat):(⟨l.toArray⟩:Str)++⟨m.toArray⟩=⟨(l++m).toArray⟩:=by
 apply Rv
 show l.toArray++m.toArray=(l++m).toArray
 simp
theorem str_len(l:List Nat):(⟨l.toArray⟩:Str).length=l.length:=by simp[Str.length]
theorem ints_at{ns:List Int}{i:Int}{v:V}(h:atI (ns.map V.int) i=some v):∃n,v=.int n:=by
 have:=c4l h;obtain⟨n,_,e⟩:=Ys.mp this;exact⟨n,e.symm⟩
theorem mTup_l(c:SqL K H a xs)(k:∀l,H l=none->Q (.ref l) (upd H l (.tup xs))):mTup K [.ref a] H Q:=⟨a,xs,rfl,.inl ⟨c,k⟩⟩
theorem mExt_t(e:H l=some (.lst xs))(c:SqT K H a zs)(z:xs.length+zs.length<=sizeLine)(k:Q .non (upd H l (.lst (xs++zs)))):mExt K (.ref l) [.ref a] H Q:=⟨l,a,xs,zs,rfl,rfl,e,.inr c,z,k⟩
theorem mExt_l(e:H l=some (.lst xs))(c:H a=some (.lst zs))(z:xs.length+zs.length<=sizeLine)(k:Q .non (upd H l (.lst (xs++zs)))):mExt K (.ref l) [.ref a] H Q:=⟨l,a,xs,zs,rfl,rfl,e,.inl c,z,k⟩
theorem b0g(e:H l=some (.lst (xs++[v])))(k:Q v (upd H l (.lst xs))):mPop (.ref l) [] H Q:=⟨xs,v,e,k⟩
theorem a6a(e1:H a=some (.lst xs))(e2:H q=some (.lst ys))(z:xs.length+ys.length<=sizeLine)(k:∀d,H d=none->Q (.ref d) (upd H d (.lst (xs++ys)))):mAdd K (.ref a) (.ref q) H Q:=.inl ⟨xs,ys,e1,e2,z,k⟩
end
abbrev a3v:Str:=ofString "abcdefghijklmnopqrstuvwxyz"
abbrev c8c:Str:=ofString "ABCDEFGHIJKLMNOPQRSTUVWXYZ"
abbrev figS:Str:=ofString "0123456789"
abbrev one(c:Nat):Str:=⟨#[c]⟩
abbrev a6b(K:W.Frag):Sp:=λvs H Q _=>match vs with| [.ref a,.int k]=>∃ns:List Int,SqL K H a (ns.map V.int)/\0<=k/\k<=1000/\∀v,Q (.int v) H|_=>False
theorem ln(h:n<=100000):n<=sizeLine:=by rw[Y3];omega
theorem ln1(h:n<100000):n<sizeLine:=by rw[Y3];omega
section
variable{X:Cx}{e:Expr}{te:TE}{pos:Pos}
def mAug(i:Nat)(te:TE)(ti:TIp):TS:=λD σ H=>∃x,σ[i]? =some (some x)/\te σ H λy H1=>ti x y H1 λz H2=>D.nx (σ.set i (some z)) H2
theorem c4m(hN:X.N.Nodup)(hi:X.N[i]? =some x)(hx:Loc X.env.scope x)(he:PE X e te)(ho:PIp X op ti)(hf:X.fn x=true\/X.env.scope.names.lookup x=some .local:=by first|exact .inl rfl|exact .inr rfl|assumption):
  PS X (.AugAssign (.Name x pos') op e pos) (mAug i te ti):=ps_aug hN hi hx he ho hf
def mIAdd:TIp:=λx y H Q=>match x,y with
 | .int i,.int j=>Q (.int (i+j)) H
 | .str i,.str j=>i.length+j.length<=sizeLine/\Q (.str (i++j)) H
 |_,_=>False
theorem b2q:PIp X .Add mIAdd:=by
 intro pj s σ H x y v u Q I rx ry h;refine(OpR.or iop_add c3e) pj s σ H x y v u Q I rx ry ?_;cases x<;>cases y<;>first
  |exact(show False from h).elim
  |exact .inl ⟨_,_,rfl,rfl,h⟩
  |exact .inr ⟨_,_,rfl,rfl,h.1,h.2⟩
end
section
variable{σ:St}{H:Hp}{Q:VK}{D:Ends}{te:TE}{n:Nat}{v:V}{i j:Int}
theorem mAug_i(h:σ[n]? =some (some v))(k:te σ H λy H1=>ti v y H1 λz H2=>D.nx (σ.set n (some z)) H2):mAug n te ti D σ H:=⟨v,h,k⟩
theorem mIAdd_i(k:Q (.int (i+j)) H):mIAdd (.int i) (.int j) H Q:=k
end
inductive Trm where
 |num(n:Int)
 |any(x:Str)
 |app(sg:Str)(ks:List Trm)
abbrev numS:Str:=ofString "num"
abbrev anyS:Str:=ofString "any"
abbrev appS:Str:=ofString "app"
mutual
def Trm.data:Trm->PyData
 | .num n=>.tuple [.str numS,.int n]
 | .any x=>.tuple [.str anyS,.str x]
 | .app sg ks=>.tuple [.str appS,.str sg,.tuple (Trm.dataL ks)]
def Trm.dataL:List Trm->List PyData
 | []=>[]
 |t::r=>t.data::Trm.dataL r
end
mutual
def Trm.size:Trm->Nat
 | .num _=>1
 | .any _=>1
 | .app _ ks=>1+Trm.sizeL ks
def Trm.sizeL:List Trm->Nat
 | []=>0
 |t::r=>t.size+Trm.sizeL r
end
theorem Trm.size_pos:∀t:Trm,1<=t.size
 | .num _=>Zn 1
 | .any _=>Zn 1
 | .app _ ks=>by unfold Trm.size;omega
mutual
theorem Trm.depth_le:∀t:Trm,t.data.depth<=2*t.size
 | .num _=>by simp[Trm.data,Trm.size,PyData.depth,PyData.depthAll]
 | .any _=>by simp[Trm.data,Trm.size,PyData.depth,PyData.depthAll]
 | .app _ ks=>by
  have:=Trm.depthL_le ks;simp only[Trm.data,Trm.size,PyData.depth,PyData.depthAll];omega
theorem Trm.depthL_le:∀ts:List Trm,PyData.depthAll (Trm.dataL ts)<=2*Trm.sizeL ts
 | []=>by simp[Trm.dataL,Trm.sizeL,PyData.depthAll]
 |t::r=>by
  have h1:=Trm.depth_le t;have h2:=Trm.depthL_le r;simp only[Trm.dataL,Trm.sizeL,PyData.depthAll];omega
end
theorem Trm.dataL_map:∀ts:List Trm,Trm.dataL ts=ts.map Trm.data
 | []=>rfl
 |t::r=>by rw[Trm.dataL,Trm.dataL_map r,Z5]
theorem Trm.sizeL_map:∀ts:List Trm,Trm.sizeL ts=(ts.map Trm.size).sum
 | []=>rfl
 |t::r=>by rw[Trm.sizeL,Trm.sizeL_map r,Z5,List.sum_cons]
theorem Trm.sizeL_app(a b:List Trm):Trm.sizeL (a++b)=Trm.sizeL a+Trm.sizeL b:=by
 rw[Trm.sizeL_map,Trm.sizeL_map,Trm.sizeL_map,Zo,List.sum_append]
theorem Trm.len_le(ts:List Trm):ts.length<=Trm.sizeL ts:=by
 induction ts with
 |nil=>simp
 |cons t r ih=>
  have:=t.size_pos;rw[Trm.sizeL,length_cons];omega
section
variable{K:W.Frag}{H:Hp}{v:V}
theorem a2z(h:Den K H v (Trm.num n).data):∃a,v=.ref a/\SqT K H a [.str numS,.int n]:=by
 unfold Trm.data at h;cases h with
 |tup hs hl=>
  cases hl with
  |cons h1 hl=>
   cases hl with
   |cons h2 hl=>
    cases hl;cases h1;cases h2;exact⟨_,rfl,hs⟩
theorem a2t(h:Den K H v (Trm.any x).data):∃a,v=.ref a/\SqT K H a [.str anyS,.str x]:=by
 unfold Trm.data at h;cases h with
 |tup hs hl=>
  cases hl with
  |cons h1 hl=>
   cases hl with
   |cons h2 hl=>
    cases hl;cases h1;cases h2;exact⟨_,rfl,hs⟩
theorem a1q(h:Den K H v (Trm.app sg ks).data):∃a b us,v=.ref a/\SqT K H a [.str appS,.str sg,.ref b]/\SqT K H b us/\DenL K H us (Trm.dataL ks):=by
 unfold Trm.data at h;cases h with
 |tup hs hl=>
  cases hl with
  |cons h1 hl=>
   cases hl with
   |cons h2 hl=>
    cases hl with
    |cons h3 hl=>
     cases hl;cases h1;cases h2;cases h3 with
     |tup hb hk=>exact⟨_,_,_,rfl,hs,hb,hk⟩
theorem num_den(h:SqT K H a [.str numS,.int n]):Den K H (.ref a) (Trm.num n).data:=by
 unfold Trm.data;exact .tup h (.cons (.str _) (.cons (.int _) .nil))
theorem c4n(h:SqT K H a [.str anyS,.str x]):Den K H (.ref a) (Trm.any x).data:=by
 unfold Trm.data;exact .tup h (.cons (.str _) (.cons (.str _) .nil))
theorem b0h(h:SqT K H a [.str appS,.str sg,.ref b])(hb:SqT K H b us)(hk:DenL K H us (Trm.dataL ks)):Den K H (.ref a) (Trm.app sg ks).data:=by
 unfold Trm.data;exact .tup h (.cons (.str _) (.cons (.str _) (.cons (.tup hb hk) .nil)))
theorem b1l{t:Trm}(h:Den K H v t.data):∃a us ds,v=.ref a/\SqT K H a us/\DenL K H us ds/\t.data=.tuple ds:=by
 cases t with
 |num n=>unfold Trm.data at h ⊢;cases h with|tup hs hl=>exact⟨_,_,_,rfl,hs,hl,rfl⟩
 |any x=>unfold Trm.data at h ⊢;cases h with|tup hs hl=>exact⟨_,_,_,rfl,hs,hl,rfl⟩
 |app sg ks=>unfold Trm.data at h ⊢;cases h with|tup hs hl=>exact⟨_,_,_,rfl,hs,hl,rfl⟩
theorem DenL.snoc(h:DenL K H us (ds++[d])):∃us' u,us=us'++[u]/\DenL K H us' ds/\Den K H u d:=by
 induction ds generalizing us with
 |nil=>
  cases h with
  |cons h1 h2=>
   cases h2;exact⟨[],_,rfl,.nil,h1⟩
 |cons x r ih=>
  cases h with
  |cons h1 h2=>
   obtain⟨us',u,rfl,a,b⟩:=ih h2;exact⟨_::us',u,rfl,.cons h1 a,b⟩
theorem DenL.nil_inv(h:DenL K H us []):us=[]:=by cases h;rfl
end
def b6s(n:Nat):List Nat:=(Nat.toDigits 10 n).map Char.toNat
theorem d1u(hk:1<=k)(h:n<10^k):(b6s n).length<=k:=by
 unfold b6s;rw[length_map];exact digits10_le hk h
theorem d1v(n:Nat):((toString (n:Int):String):Str)=⟨(b6s n).toArray⟩:=text_ofNat n
section
variable{X:Cx}
theorem ko_inV(K:FG)(h:X.K=K):OpR X (compareOp .In) (rIn K false):=h▸c7i
end
section
variable{X:Cx}
def rDIn(n:Bool):R2:=λx y H Q=>∃a o,y=.ref a/\DGet H a x o/\Q (.bl (n^^o.isSome)) H
theorem c8d(hu:X.A.units+1<cLine):OpR X (compareOp .In) (rDIn false):=by
 intro pj s σ H x y v u Q I rx ry h;obtain⟨a,o,rfl,g,q⟩:=h;cases ry;exact d_in hu I g rx λs3 I3=>⟨.bl _,H,I3,rfl,by simpa using q⟩
theorem ko_ninD(hu:X.A.units+1<cLine):OpR X (compareOp .NotIn) (rDIn true):=by
 intro pj s σ H x y v u Q I rx ry h;obtain⟨a,o,rfl,g,q⟩:=h;cases ry;exact d_notIn hu I g rx λs3 I3=>⟨.bl _,H,I3,rfl,by simpa using q⟩
end
section
variable{σ:St}{H:Hp}{Q:VK}{D:Ends}{td ty tx tv:TE}
theorem tDGet_i(k:td σ H λx H1=>ty σ H1 λy H2=>∃a v,x=.ref a/\DGet H2 a y (some v)/\Q v H2):tDGet td ty σ H Q:=k
theorem d1w(k:td σ H λx H1=>∃a,x=.ref a/\IsD H1 a/\ty σ H1 λy H2=>tx σ H2 λz H3=>∃o,DGet H3 a y o/\Q (o.getD z) H3):c7o td ty tx σ H Q:=k
theorem sDPut_i(k:tv σ H λv H1=>td σ H1 λx H2=>ty σ H2 λy H3=>∃a H4,x=.ref a/\DPut H3 a y v H4/\D.nx σ H4):sDPut td ty tv D σ H:=k
end
section
variable{X:Cx}
def mIsN(n:Bool):R2:=λx y H Q=>y=.non/\Q (.bl (n^^decide (x=.non))) H
theorem b6t:OpR X (compareOp .Is) (mIsN false):=op_isN.imp λ_ _ _ _ h=>⟨h.1,by have:=h.2;rwa[Zt]at this⟩
theorem isN_non(k:Q (.bl (!n)) H):mIsN n .non .non H Q:=⟨rfl,by rw[Ye rfl,Bool.xor_true];exact k⟩
theorem isN_ref(k:Q (.bl n) H):mIsN n (.ref a) .non H Q:=⟨rfl,by rw[Z3 (λz=>by cases z),Bool.xor_false];exact k⟩
def mInt:List V->Hp->VK->Prop:=λvs H Q=>match vs with
 | [.int i]=>Q (.int i) H
 | [.bl b]=>Q (.int (if b then 1 else 0)) H
 |_=>False
theorem a7j:a3r X (.type "int") mInt:=by
 intro pj s σ H xs us Q I r h;refine c7c pj s σ H xs us Q I r ?_;unfold mInt at h;split at h
 ·exact .inl ⟨_,rfl,h⟩
 ·exact .inr ⟨_,rfl,h⟩
 ·exact h.elim
theorem mInt_b(k:Q (.int (if b then 1 else 0)) H):mInt [.bl b] H Q:=k
end
def But(p:Addr)(H H':Hp):Prop:=∀b o,b≠p->H b=some o->H' b=some o
theorem But.trans(a:But p H H1)(b:But p H1 H2):But p H H2:=λc o n h=>b c o n (a c o n h)
theorem c8e(n:Nat)(m:Int)(h:0<=m):HT.sIx n n (some m)=min m.toNat n:=by
 unfold HT.sIx;have e:¬(m<0):=by omega
 simp only[e,V3]
theorem c1m(n k:Nat):HT.sIx n k none=k:=rfl
section
variable{X:Cx}{pj:List (Addr×Obj)}{σ:St}{H:Hp}{s:Shared}{h':Heap}
theorem Inv.turnedLaid{t':Nat}{ch:List Addr}{T:Addr}{o:HO}(I:Inv X pj σ H s)(hf:∀b∈ch,FpOk X pj H b)(k:∀b u,b∉ch->s.heap.get? b=some u->h'.get? b=some u)(hT:s.heap.objs.size<=T)
  (new:a1r X.prog X.w (upd H T o) h' T o):Inv X pj σ (upd H T o) { s with heap:=h',toks:=t'}:=by
 have hn:H T=none:=I.hok.fresh hT;have nin:∀b u,H b=some u->b∉ch:=λb u e hb=>by rw[(hf b hb).1]at e;cases e
 have neT:∀b u,s.heap.get? b=some u->b≠T:=λb u e=>Z1 (Yc (Zs e) hT)
 refine I.step (g':=s.gens) (d':=s.drawn) (ch:=ch) (λb hb=>⟨(hf b hb).2.2.2.1,(hf b hb).2.1,(hf b hb).2.2.2.2.1,(hf b hb).2.2.2.2.2⟩) (λb u _ _ hc e _=>k b u hc e) (λb u _ _ hc e _=>⟨u.slots,k b u hc e⟩)
  (λb u hc e n=>by rw[a0f (neT b u e)];exact n) (λb u hc e=>⟨u,k b u hc e⟩) (λb xs q=>by rw[a0f (a0w q hn)];exact q) (λb u xs q=>by rw[a0f (a0w q hn)];exact q) (λb ps q=>⟨#[],by rw[a0f (a0w q hn),q];simp⟩) (λm hm=>?_) (λb u e=>?_) I.bare
 ·obtain⟨q,es,ep,ho,r⟩:=hm;exact⟨q,es,ep,k _ q (λhb=>(hf _ hb).2.1 rfl) ho,r⟩
 ·by_cases hb:b=T
  ·subst hb;rw[a0c]at e;cases e;exact new
  ·rw[a0f hb]at e;refine(I.hok b u e).stay (λc v hc q=>k c v ?_ q) (λc q=>by rw[a0f (a0w q hn)];exact q) λc xs q=>by rw[a0f (a0w q hn)];exact q
   rcases hc with z|z
   ·rw[z];exact nin b u e
   ·exact nin c _ z
end
def Ite(K:W.Frag)(a:Addr)(n:Nat):It:=⟨λi H=>i<n/\∃xs,SqL K H a xs/\xs.length=n,λi H v H'=>∃T x,H T=none/\v=.ref T/\H'=upd H T (.tup [.int i,x])/\∀xs,SqL K H a xs->xs[i]? =some x,λi H=>i=n/\∃xs,SqL K H a xs/\xs.length=n⟩
theorem c8g{P:Program}{w:World}{K:FG}{elts:List Expr}{k:Nat}{pos:Pos}(a e it:Addr)(n:Nat)(hei:e≠it)(hai:a≠it)(hae:a≠e):
  Turn P w K (.Tuple elts k pos) (Ite K a n) [e,it] e (λi h=>(∃old,IsEnum h e it (i:Nat) old)/\h.IsListIter it a i) where
 mem:=by simp
 obj:=λi h st b hb=>by
  obtain⟨⟨old,h1⟩,o,h2,h3,h4⟩:=st;simp only[Zu,Z6,Xm]at hb;rcases hb with rfl|rfl
  ·exact⟨_,h1,λv z=>by have z':Data.fields _=Data.cell v:=z;cases z'⟩
  ·exact⟨o,h2,λv z=>by rw[h4]at z;cases z⟩
 keep:=λi h h' st hk=>⟨let⟨old,q⟩:=st.1;⟨old,hk e qz _ q⟩,st.2.at λo q=>hk it qz o q⟩
 item:=by
  intro X hP hw hK hc i pj s σ H E I hf st hg;subst hP hw hK;obtain⟨hi,xs,hq,hl⟩:=hg;obtain⟨its,rv,p,hz⟩:=I.list hq;have hlen:=rv.length;have D:=Draws.list (prog:=X.prog) (w:=X.w) (A:=X.A.in1) (show X.A.in1.handled=none from I.ok.hd hc) it a hai its.toArray;have W:=WalksT.enumerateD D e hei (by simp only[Zu,Z6,Xm,not_or];exact⟨hei,Ne.symm hae⟩) qz;refine W.item i s _ _ (by rw[Zm];omega) ⟨st.1,st.2,p.isList⟩ λT vals h1 tk hPt hT htup hmid hk1=>?_
  obtain⟨t,x,hx,rfl⟩:=hPt;refine⟨.ref T,rfl,W.go elts k pos i T { s with heap:=h1,toks:=tk} _ _ hmid λh2 hst2 hk2=>?_⟩;have hx2:its[i]? =some x:=by simpa using hx
  have hix:i<xs.length:=by omega
  obtain⟨u,hu,ru⟩:=rv.get (Zj hix);rw[hu]at hx2;cases hx2;have hk:∀b u,b∉[e,it]->s.heap.get? b=some u->h2.get? b=some u:=λb u hb q=>hk2 b u hb (hk1 b u hb q)
  have hTn:T∉[e,it]:=by
   obtain⟨_,_,z1,z2⟩:=hmid;simp only[Zu,Z6,Xm,not_or];exact⟨z1,z2⟩
  have hTup:IsTup h2 T #[.int i t,x]:=by
   obtain⟨o,h3,h4⟩:=htup;exact⟨o,hk2 T o hTn h3,h4⟩
  refine⟨.ref T,upd H T (.tup [.int i,xs[i]]),I.turnedLaid (ch:=[e,it]) hf hk hT ⟨by simp[Y3],[.int i t,x],.cons ⟨t,rfl⟩ (.cons ru .nil),hTup⟩,rfl,?_,?_,λb hb=>?_⟩
  ·exact⟨T,xs[i],I.hok.fresh hT,rfl,rfl,λys hy=>by rw[I.list_inj hy hq];exact Zj hix⟩
  ·exact⟨by simpa using hst2.1,hst2.2.1⟩
  ·have nb:b≠T:=λz=>hTn (by rw[<-z];exact hb)
   rw[a0f nb];exact(hf b hb).1
 done:=by
  intro X hP hw hK hc i pj s σ H E I hf st hg;subst hP hw hK;obtain⟨hi,xs,hq,hl⟩:=hg;subst hi;obtain⟨its,rv,p,hz⟩:=I.list hq;obtain⟨old,h1⟩:=st.1;obtain⟨f0,f1,f2,f3,f4,f5⟩:=hf it qz;have hlen:=rv.length;exact wpAny_pyNext_enum_end (I.ok.hd hc) h1 st.2 p.isList (by simp;omega) λh' eb=>⟨rfl,I.turned (t':=s.toks) (λb o hb q=>eb b o hb q) f0 f1 f3 f4 f5⟩
 self:=λ_ _ _ _ _ st h=>by
  obtain⟨⟨old,h1⟩,_⟩:=st;exact wpAny_pyIter_enum h1 h
section
variable{X:Cx}
def iEnum(K:W.Frag)(ta:TA):TI:=λσ H R=>ta σ H λvs H1=>∃a xs,vs=[.ref a]/\SqL K H1 a xs/\R (Ite K a xs.length) H1
theorem b5g(K:FG)(hK:X.K=K)(hg:Gl X "enumerate")(hm:X.mg "enumerate"=none)(ha:PA X [a] ta)(hs:starEach [a] X.env=[(false,eval a X.env)]:=by rfl):PI X (.Tuple elts k tpos) (.Call (.Name "enumerate" p) [a] [] pos) (iEnum K ta):=by
 subst hK;intro pj s σ H R I h;refine Call_ (a5z I hg hm boot_enumerate (Xj (thn (ha pos pj s σ H _ I h) λus s1 ⟨vs,H1,I1,r1,q1⟩=>?_) hs rfl));obtain⟨l,xs,e,hq,q⟩:=q1;subst e;cases r1 with
 |cons r rr=>
  cases rr;cases r;obtain⟨its,rv,pl,hz⟩:=I1.list hq;have hlt:l<s1.heap.objs.size:=by obtain⟨o,ho,_⟩:=pl.isList;exact Zs ho
  refine call_enumerate_list pl.isList λh' he hit hsz hk=>wpAny_pyIter_enum he ?_
  refine⟨_,[s1.heap.objs.size+1,s1.heap.objs.size],_,_,H1,rfl,I1.kept (t':=s1.toks) hk,c8g l (s1.heap.objs.size+1) s1.heap.objs.size xs.length (Nat.succ_ne_self _) (Z1 hlt) (Z1 (Vb hlt)),⟨⟨_,he⟩,hit⟩,λb hb=>?_,q⟩;simp only[Zu,Z6,Xm]at hb;rcases hb with rfl|rfl
  ·exact I1.fpOk (Ur _) (I1.hok.fresh (Ur _))
  ·exact I1.fpOk (Zn _) (I1.hok.fresh (Zn _))
end
theorem iEnum_i{K:FG}{σ:St}{H:Hp}{ta:TA}{R:It->Hp->Prop}(k:ta σ H λvs H1=>∃a xs,vs=[.ref a]/\SqL K H1 a xs/\R (Ite K a xs.length) H1):iEnum K ta σ H R:=k
open PySem PySem.Spec PyProof.Rows PySem.W
section
variable{X:Cx}
theorem b4p:∀{xs:List α}{ys:List β},Paired R xs ys->∀(i:Nat)(y:β),ys[i]? =some y->∃x,xs[i]? =some x/\R x y
 |_,_,.nil,i,x,h=>by simp at h
 |_,_,.cons r t,0,x,h=>by simp at h;subst h;exact⟨_,rfl,r⟩
 |_,_,.cons r t,i+1,x,h=>by simpa using b4p t i x (by simpa using h)
theorem kV_rel(h:(a1p P w).is k u=true):RelV (kV k) u:=by
 cases u with
 |int i t=>
  cases k with
  |inl j=>
   have e:(Sum.inl i:Key)=Sum.inl j:=(a1p P w).inj _ _ _ (a9o P w i t) h;cases e;exact⟨t,rfl⟩
  |inr x=>exact nomatch (show(Sum.inl i:Key)=Sum.inr x from(a1p P w).inj _ _ _ (a9o P w i t) h)
 |str x t=>
  cases k with
  |inr j=>
   have e:(Sum.inr x:Key)=Sum.inr j:=(a1p P w).inj _ _ _ (a9p P w x t) h;cases e;exact⟨t,rfl⟩
  |inl i=>exact nomatch (show(Sum.inr x:Key)=Sum.inl i from(a1p P w).inj _ _ _ (a9p P w x t) h)
 |_=>cases k<;>exact absurd (show false=true from h) Zr
def mLstK:List V->Hp->VK->Prop:=λvs H Q=>∃a kvs,vs=[.ref a]/\Rd H a (.dK kvs)/\∀p:Addr,H p=none->Q (.ref p) (upd H p (.lst (kvs.map λkv=>kV kv.1)))
theorem b4q:∀{xs:List V}{us:List Value},us.length=xs.length->(∀(j:Nat)(v:Value),us[j]? =some v->∃x,xs[j]? =some x/\RelV x v)->Vals xs us
 | [],[],_,_=>.nil
 |x::r,u::t,hl,h=>by
  obtain⟨y,h1,h2⟩:=h 0 u rfl
  simp at h1
  subst h1;exact .cons h2 (b4q (by simpa using hl) λj v e=>by simpa using h (j+1) v (by simpa using e))
 | [],_::_,hl,_=>by simp at hl
 |_::_,[],hl,_=>by simp at hl
theorem d1x(hc:X.calm=true):a3r X (.type "list") mLstK:=by
 intro pj s σ H vs us Q I r h;obtain⟨a,kvs,rfl,ha,q⟩:=h;obtain⟨u,rfl,r1⟩:=vals1 r;cases r1;obtain⟨z,lo,xs,rel,dd⟩:=a7z I.hok ha;obtain⟨ep,dd⟩:=dd.dictAt;have hlx:=rel.length;refine kdl_call (kdl_dict (knd:=a1p X.prog X.w) lo) (I.ok.hd hc) dd qo λh' tk acc c hk hS hacc=>?_
 refine⟨.ref s.heap.objs.size,_,I.laid (a:=s.heap.objs.size) (o:=.lst (kvs.map λkv=>kV kv.1)) (t':=tk) hk (Zn _) ⟨by simp;omega,acc.toList,c,?_,by simpa using hS⟩,rfl,q _ (I.hok.fresh (Zn _))⟩;refine b4q (by rw[Wv,hacc.1,length_map,hlx]) λj v e=>?_
 obtain⟨k,x,h1,h2⟩:=hacc.2 j v (by rw[<-Va];exact e);obtain⟨kv,h3,h4,h5⟩:=b4p rel j (k,x) h1;refine⟨kV k,by rw[Yk,h3];exact Xn (λz=>some (kV z)) h4,?_⟩;exact kV_rel h2
end
open PySem.AutoSeq1 (wpAny_loadPart')
section
variable{X:Cx}
theorem a3w(K:FG)(hK:X.K=K){pos:Pos}{es:List Expr}{k:Nat}{t:TGs}{n:Nat}(hc:X.calm=true)(h:PGs X es t)
  (hn:(assignEach es X.env).length=n:=by rfl)(hst:(assignEach es X.env).findIdx? (·.1)=none:=by rfl):PG X (.Tuple es k pos) (gTup K n t):=hK▸c6w hc h hn hst
end
section
variable{K:W.Frag}{σ:St}{H:Hp}{Q:VK}{D:Ends}{a:Addr}{xs:List V}{n:Nat}
theorem a4r(hs:SqT K H a xs)(hl:xs.length=n)(k:t xs σ H N):gTup K n t (.ref a) σ H N:=⟨a,xs,rfl,hs,hl,k⟩
theorem gCons_i(k:t v σ H λσ' H'=>u r σ' H' N):gCons t u (v::r) σ H N:=⟨v,r,rfl,k⟩
theorem gNil_i(k:N σ H):gNil [] σ H N:=⟨rfl,k⟩
end
section
variable{X:Cx}
theorem a2c(ra:RelV (kV a) u)(rb:RelV (kV b) v):SeqAt.EqAt A s u v (decide (a=b)):=by
 cases a with
 |inl i=>
  obtain⟨t,rfl⟩:=ra;cases b with
  |inl j=>
   obtain⟨t',rfl⟩:=rb;rw[c6r];have:=Uh (A:=A) (s:=s) i t j t'
   simpa[PyData.eqv]using this
  |inr y=>
   obtain⟨t',rfl⟩:=rb;rw[c6t];exact Tr i t y t'
 |inr x=>
  obtain⟨t,rfl⟩:=ra;cases b with
  |inl j=>
   obtain⟨t',rfl⟩:=rb;rw[c6u];exact Tp x t j t'
  |inr y=>
   obtain⟨t',rfl⟩:=rb;rw[c6s];have:=Ug (A:=A) (s:=s) x t y t';have e:(x==y)=decide (x=y):=by
    by_cases h:x=y
    ·subst h;simp
    ·rw[Z3 h];exact Xs.mpr h
   rw[<-e]
   simpa[PyData.eqv]using this
theorem all_eq(k1 k2:List Key):((List.range (min k1.length k2.length)).all (λj=>decide (k1[j]? =k2[j]?))&&(k1.length==k2.length))=decide (k1=k2):=by
 by_cases h:k1=k2
 ·subst h
  simp
 ·rw[Z3 h];cases hl:(k1.length==k2.length)with
  |false=>rw[Su]
  |true=>
   have hl:k1.length=k2.length:=eq_of_beq hl;rw[Bool.and_true];refine Bool.eq_false_iff.mpr λz=>h ?_
   apply List.ext_getElem?
   intro j
   by_cases hj:j<k1.length
   ·exact Z8 (X0.mp z j (Wh.mpr qo))
   ·rw[W9 qo,W9 qo]
end
def TbIs(h:Heap)(T:Addr):Prop:=∃oT ts,h.get? T=some oT/\oT.data=.fields ts/\ts[3]? =some Value.none
structure Left(fs:List Addr)(ea:Addr)(o:Obj)(ok:Addr->Prop)(h h':Heap):Prop where
 keep:∀b u,b≠ea->¬ok b->b∉fs->h.get? b=some u->h'.get? b=some u
 slot:∀b u,b≠ea->¬ok b->h.get? b=some u->∃sl,h'.get? b=some { u with slots:=sl}
 there:∀b u,h.get? b=some u->∃u',h'.get? b=some u'
 tb:∃T,h.objs.size<=T/\TbIs h' T/\h'.get? ea=some (o.mapFields (·.setIfInBounds 1 (.ref T)))
theorem a5s{o:Obj}(f:Array Value->Array Value)(h:o.data=.fields vs):(o.mapFields f).data=.fields (f vs):=Vm h f
theorem c4o(o:Obj)(f:Array Value->Array Value):(o.mapFields f).dict=o.dict:=by
 unfold Obj.mapFields
 split<;>rfl
section
variable{M:Model}{A:Around}{E:Value->Shared->Prop}
theorem b4r{s:Shared}
  (fr:A.frames=some (env::outer))(ff:s.heap.FunFrames base (env::outer))(fe:env.frame=some L)(ge:s.heap.get? ea=some o)(gd:o.data=.fields vs)(g1:1<vs.size)
  (q:∀h',Left (frs (env::outer)) ea o (λ_=>False) s.heap h'->Q () { s with heap:=h'}):
  wpAny M A (do let a <-frameOf env;let pl <-entryPlaceOf L had;let b <-EntryCells.newEntry hd0 a .none (rawInt L) .none pl;setField (.ref ea) 1 b) (λ_ s1=>wpAny M A (setFlight (.ref ea) none) Q E s1) E s:=by
 have nea:ea∉frs (env::outer):=λz=>by
  obtain⟨_,u,hu,hn⟩:=ff.mem z;rw[ge]at hu;cases hu;exact hn vs gd
 refine Zi (wpAny_frameOf_fun fr ff fe λhA sA=>?_);refine Zi (wpAny_entryPlaceOf λpl hpl=>?_);unfold EntryCells.newEntry newFields;refine Zi (Wo ?_ (hpl.sizeOk5 _ _ _ _ _));generalize hob:({ cls:=.type "traceback",dict:=none,data:=.fields ([hd0,.ref L,.none,rawInt L,.none]++(if pl.isEmpty then List.replicate 6 Value.none else pl)).toArray}:Obj)=ob;have obd:ob.data=.fields ([hd0,.ref L,.none,rawInt L,.none]++(if pl.isEmpty then List.replicate 6 Value.none else pl)).toArray:=by rw[<-hob]
 have eA:hA.get? ea=some o:=(sA.2.1 ea nea).trans ge;have eB:=Zk (h:=hA) ob eA;have nT:hA.objs.size≠ea:=X8 (Zs eA);refine Ww eB gd g1 ?_;have dC:=a5s (·.setIfInBounds 1 (Value.ref hA.objs.size)) gd;have eC:=Ym (Obj.mapFields (·.setIfInBounds 1 (Value.ref hA.objs.size))) eB (Wj dC);have tC:=(Z9 (hA.push ob) (Obj.mapFields (·.setIfInBounds 1 (Value.ref hA.objs.size))) (Ne.symm nT)).trans (Zv hA (by cases ob;cases hob;rfl));have sz3:3<([hd0,.ref L,.none,rawInt L,.none]++(if pl.isEmpty then List.replicate 6 Value.none else pl)).toArray.size:=by
  simp only[Zm,Zl,length_cons,length_nil];omega
 unfold setFlight;refine Zi (Yr eC dC (x:=.ref hA.objs.size) (by simp[g1]) ?_);rw[if_pos (show(Value.ref hA.objs.size !=Value.none)=true from by simp)];refine Ww tC obd sz3 (q _ ?_);have kept:∀b u,b≠ea->hA.get? b=some u->(((hA.push ob).update ea (Obj.mapFields (·.setIfInBounds 1 (Value.ref hA.objs.size)))).update hA.objs.size (Obj.mapFields (·.setIfInBounds 3 ((none:Option Addr).elim Value.none λf=>rawInt f)))).get? b=some u:=λb u hb hu=>by
  rw[Z9 _ _ (X8 (Zs hu)),Z9 _ _ (Ne.symm hb)];exact Zk _ hu
 refine⟨λb u hb _ hf hu=>kept b u hb ((sA.2.1 b hf).trans hu),λb u hb _ hu=>?_,λb u hu=>?_,hA.objs.size,?_,?_,?_⟩
 ·obtain⟨sl,e⟩:=sA.2.2 b u hu;exact⟨sl,kept b _ hb e⟩
 ·by_cases hb:b=ea
  ·subst hb;exact⟨_,by rw[Z9 _ _ nT];exact eC⟩
  ·obtain⟨sl,e⟩:=sA.2.2 b u hu;exact⟨_,kept b _ hb e⟩
 ·rw[sA.1];exact Zn _
 ·exact⟨_,_,Ym _ tC (Wj (a5s _ obd)),a5s _ obd,by simp[sz3]⟩
 ·rw[Z9 _ _ nT];exact eC
theorem a8z{s:Shared}
  (fr:A.frames=some (env::outer))(ff:s.heap.FunFrames base (env::outer))(fe:env.frame=some L)(ge:s.heap.get? ea=some o)(gd:o.data=.fields vs)
  (tb:vs[1]? =some .none\/∃T,vs[1]? =some (.ref T)/\T≠ea/\ok T/\TbIs s.heap T)
  (q:∀h',Left (frs (env::outer)) ea o ok s.heap h'->Q () { s with heap:=h'}):wpAny M A (noteFrame (.ref ea) env) (λ_ s1=>wpAny M A (setFlight (.ref ea) none) Q E s1) E s:=by
 unfold noteFrame;simp only[fe];rcases tb with g|⟨T,g,nT,kT,oT,ts,hT,dT,t3⟩
 ·refine Zi (Yr ge gd g ?_);rw[if_neg qd];refine b4r fr ff fe ge gd (Yu.mp g).1 λh' l=>q h' ⟨λb u hb _=>l.keep b u hb id,λb u hb _=>l.slot b u hb id,l.there,l.tb⟩
 ·refine Zi (Yr ge gd g ?_);rw[if_pos (show(Value.ref T !=Value.none)=true from by simp)];refine Zi (Yr hT dT t3 ?_);rw[if_neg (show ¬((Value.none==rawInt L)=true)from by simp[rawInt])];refine Zi (Ww hT dT (Yu.mp t3).1 ?_);have oth:∀b,b≠T->(s.heap.update T (Obj.mapFields (·.setIfInBounds 3 Value.none))).get? b=s.heap.get? b:=λb hb=>Z9 _ _ (Ne.symm hb)
  have self:=Ym (Obj.mapFields (·.setIfInBounds 3 Value.none)) hT (Wj (a5s _ dT));have nrec:∀b u,s.heap.get? b=some u->(∀ws,u.data≠.fields ws)->b≠T:=λb u hu hn z=>by
   subst z;rw[hT]at hu;cases hu;exact hn ts dT
  refine b4r fr (ff.of_keeps λb u hu hn=>⟨u,(oth b (nrec b u hu hn)).trans hu,rfl⟩) fe ((oth ea (Ne.symm nT)).trans ge) gd (Yu.mp g).1 λh' l=>q h' ⟨λb u hb hk hf hu=>l.keep b u hb id hf ((oth b (λz=>hk (z▸kT))).trans hu),λb u hb hk hu=>l.slot b u hb id ((oth b (λz=>hk (z▸kT))).trans hu),λb u hu=>?_,?_⟩
  ·by_cases hb:b=T
   ·subst hb;exact l.there b _ self
   ·exact l.there b u ((oth b hb).trans hu)
  ·obtain⟨T2,h1,h2,h3⟩:=l.tb;exact⟨T2,by rw[Heap.size_after_update]at h1;exact h1,h2,h3⟩
end
open PySem PySem.W
abbrev newS:String:="ValueError.__new__"
structure XCls(K:Frag)(C:Addr)(bm:List Value):Prop where
 obj:∃nm q N bs sn sub ab col dd k0 k1 k2 k3 k5,K.lookup C=some (excClassObj nm q C N bs bm true sn sub ab col dd k0 k1 k2 k3 k5 newS)
 hasV:bm.contains (.type "ValueError")=true
 hasB:bm.contains (.type "BaseException")=true
 noA:bm.contains (.type "AttributeError")=false
 noN:bm.contains (.type "NameError")=false
section
variable{prog:Program}{w:World}{A:Around}{E:Value->Shared->Prop}{R:Result->Shared->Prop}{h:Heap}{g:Array GenState}{d:Drawn}{t:Nat}{os:OsState}
variable{nm q:Str}{C N:Addr}{bs bm:List Value}{sn:List Str}{sub:List Value}{ab:Bool}{col:Option Bool}{dd:Option Addr}{k0 k1 k2 k3 k5:Option Value}
theorem x_check(hV:bm.contains (.type "ValueError")=true){rest:List Value}{Q:Unit->Shared->Prop}(hC:h.get? C=some (excClassObj nm q C N bs bm true sn sub ab col dd k0 k1 k2 k3 k5 newS))(hq:Q () ⟨h,g,d,t,os⟩):
  wpAny (model prog w) A (checkBuiltinCall newS ⟨.ref C::rest,[]⟩) Q E ⟨h,g,d,t,os⟩:=by
 have F:=V8;have hc:(Value.ref C::bm).contains (.type "ValueError")=true:=by rw[Xy,hV,Tb]
 have hs:=F.noStar;simp only[checkBuiltinCall,F.newKind,F.newSplit,F.newRow]
 repeat (first|refine Yy hC ?_| (refine Xr hC ?_;rw[hc])|refine wpAny_staticBase_exc hC ?_|refine wpAny_madeBy_exc hC ?_|simp only[bne_self_eq_false,Wi,V3]|wp_step)
 exact hq
theorem x_new(hV:bm.contains (.type "ValueError")=true)(hA:bm.contains (.type "AttributeError")=false)(hN:bm.contains (.type "NameError")=false){rest:List Value}(hC:h.get? C=some (excClassObj nm q C N bs bm true sn sub ab col dd k0 k1 k2 k3 k5 newS))
  (hq:R (.ok (.ret (.ref (h.objs.size+1)))) ⟨(h.push { cls:=.type "tuple",data:=.seq rest.toArray}).push { cls:=.ref C,data:=.fields #[.ref h.objs.size,.none,.none,.none,.bool false,.none]},g,d,t,os⟩)(hl:rest.length<=sizeLine):
  codeAny (model prog w) A (.builtin newS ⟨.ref C::rest,[]⟩) R ⟨h,g,d,t,os⟩:=by
 have F:=V8;have he:=F.ends;have c1:(Value.ref C::bm).contains (.type "ValueError")=true:=by rw[Xy,hV,Tb]
 have c2:(Value.ref C::bm).contains (.type "AttributeError")=false:=by rw[Xy,hA];rfl
 have c3:(Value.ref C::bm).contains (.type "NameError")=false:=by rw[Xy,hN];rfl
 refine codeAny_builtinAt F.entry ?_;unfold Builtin.«BaseException.__new__»;refine PySem.wpAt_bind ?_
 show PySem.wpAt _ _ _ (stack>>=_) _ _ _
 refine PySem.wpAt_bind (PySem.wpAt_stack λp below=>R3 ?_)
 wp_walk
 refine R3 ?_;rw[F.owner]
 repeat (first|with_reducible refine wpAny_madeHere_exc F.canon hC ?_|with_reducible refine Yy hC ?_| (with_reducible refine Xr hC ?_;first|rw[c1]|rw[c2]|rw[c3])|wp_step)
 show R _ _
 rw[Y9];exact hq
theorem x_tcall{K:Frag}(KX:K.In h)(X:XCls K C bm)(hI:findIn K (.ref C) "__init__"=some (some (.ref fI)))(hf:typeIn K (.ref fI)=some (.type "function")){rest:List Value}(hl:rest.length<=sizeLine)
  (hq:wpAny (model prog w) A (call (.ref fI) (.ref (h.objs.size+1)::rest)) (λr s'=>r=.none/\Q (.done (.ret (.ref (h.objs.size+1)))) s') E ⟨((h.push { cls:=.type "tuple",data:=.seq rest.toArray}).push { cls:=.ref C,data:=.fields #[.ref h.objs.size,.none,.none,.none,.bool false,.none]}),g,d,t,os⟩):
  wpAny (model prog w) A (Builtin.«type.__call__» ⟨.ref C::rest,[]⟩) Q E ⟨h,g,d,t,os⟩:=by
 obtain⟨nm,q,N,bs,sn,sub,ab,col,dd,k0,k1,k2,k3,k5,hC'⟩:=X.obj;have hC:=KX _ _ hC';have F:=V8
 repeat (first|with_reducible refine Yy hC ?_|with_reducible refine wpAny_madeBy_exc hC ?_|wp_step)
 refine codeAny_call_builtin_code (Qn _ F.quiet) (x_check X.hasV hC ?_);refine x_new X.hasV X.noA X.noN hC ?_ hl
 show wpAny _ _ _ _ _ _
 have kp:∀b o,h.get? b=some o->((h.push { cls:=.type "tuple",data:=.seq rest.toArray}).push { cls:=.ref C,data:=.fields #[.ref h.objs.size,.none,.none,.none,.bool false,.none]}).get? b=some o:=λb o e=>Zk _ (Zk _ e)
 have hC2:=kp _ _ hC;have KX2:K.In ((h.push { cls:=.type "tuple",data:=.seq rest.toArray}).push { cls:=.ref C,data:=.fields #[.ref h.objs.size,.none,.none,.none,.bool false,.none]}):=KX.keeps kp;have hget:((h.push { cls:=.type "tuple",data:=.seq rest.toArray}).push { cls:=.ref C,data:=.fields #[.ref h.objs.size,.none,.none,.none,.bool false,.none]}).get? (h.objs.size+1)=some { cls:=.ref C,data:=.fields #[.ref h.objs.size,.none,.none,.none,.bool false,.none]}:=by heap_get
 have cC:(Value.ref C::bm).contains (.ref C)=true:=by simp
 unfold isInstance
 repeat (first|with_reducible refine Yy hget ?_| (with_reducible refine Xr hC2 ?_;rw[cC])|wp_step)
 show wpAny _ _ (typeLookup (.ref C) _) _ _ _
 refine(looks_findIn KX2 hI).here ?_;refine Y7 (Zi ((bind_fn KX2 _ hf).here ?_));refine Zi (Wb hq (λr s' hr=>?_) λ_ _ x=>x);obtain⟨rfl,hQ⟩:=hr
 wp_walk
 exact hQ
theorem x_call{K:Frag}(KX:K.In h)(X:XCls K C bm)(hI:findIn K (.ref C) "__init__"=some (some (.ref fI)))(hf:typeIn K (.ref fI)=some (.type "function")){rest:List Value}(hl:rest.length<=sizeLine)
  (hq:wpAny (model prog w) (A.under (.builtin "type.__call__" ⟨.ref C::rest,[]⟩)) (call (.ref fI) (.ref (h.objs.size+1)::rest)) (λr s'=>r=.none/\Q (.ref (h.objs.size+1)) s') E ⟨((h.push { cls:=.type "tuple",data:=.seq rest.toArray}).push { cls:=.ref C,data:=.fields #[.ref h.objs.size,.none,.none,.none,.bool false,.none]}),g,d,t,os⟩):
  wpAny (model prog w) A (call (.ref C) rest) Q E ⟨h,g,d,t,os⟩:=by
 obtain⟨nm,q,N,bs,sn,sub,ab,col,dd,k0,k1,k2,k3,k5,hC'⟩:=X.obj;have hC:=KX _ _ hC';have f1:=tc_lookup;have f2:=tc_bind (.ref C);have hT:(⟨h,g,d,t,os⟩:Shared).TypeIs (.ref C) "type":=⟨_,hC,rfl⟩;refine Uf (codeAny_of_tree ?_)
 show wpAny _ _ (callAny (.ref C) _) _ _ _
 repeat (any_goals (first|assumption|with_reducible refine Yy hC ?_|wp_step))
 refine⟨rfl,?_⟩;exact codeAny_call_builtin_at (Qn _ qk) entry_typeCall (wpAny_check_type_call_sub hC (x_tcall KX X hI hf hl hq))
end
section
variable{prog:Program}{w:World}{A:Around}{E:Value->Shared->Prop}{R:Result->Shared->Prop}{h:Heap}{g:Array GenState}{d:Drawn}{t:Nat}{os:OsState}{K:Frag}{C e:Addr}{bm:List Value}{o:Obj}{vs:Array Value}
theorem x_init(KX:K.In h)(X:XCls K C bm)(he:h.get? e=some o)(hc:o.cls=.ref C)(hd:o.data=.fields vs)(h0:vs[0]? =some (.ref t0))
  (hq:Q .none ⟨(h.push { cls:=.type "tuple",data:=.seq [v].toArray}).update e (Obj.mapFields (·.setIfInBounds 0 (.ref h.objs.size))),g,d,t,os⟩):
  wpAny (model prog w) A (call (.builtin "ValueError.__init__") [.ref e,v]) Q E ⟨h,g,d,t,os⟩:=by
 obtain⟨nm,q,N,bs,sn,sub,ab,col,dd,k0,k1,k2,k3,k5,hC'⟩:=X.obj;have hC:=KX _ _ hC';have F:=V8;have c1:(Value.ref C::bm).contains (.type "ValueError")=true:=by rw[Xy,X.hasV,Tb]
 have hs:=F.noStar;have ck:∀Q':Unit->Shared->Prop,Q' () ⟨h,g,d,t,os⟩->∀A' E',wpAny (model prog w) A' (checkBuiltinCall "ValueError.__init__" ⟨[.ref e,v],[]⟩) Q' E' ⟨h,g,d,t,os⟩:=by
  intro Q' hq' A' E';simp only[checkBuiltinCall,F.initKind,F.initSplit,F.initRow]
  repeat (first| (with_reducible refine Yy he ?_;rw[hc])|with_reducible refine Yy hC ?_| (with_reducible refine Xr hC ?_;rw[c1])|wp_step)
  exact hq'
 refine Uf (Rt F.init.plain F.initEntry (ck _ ?_ _ _));unfold Builtin.«BaseException.__init__»
 dsimp only
 rw[if_neg qz];unfold newTuple Builtin.BaseException.bexcPut;have hz:0<vs.size:=(Yu.mp h0).1;have he1:=Zk (h:=h) { cls:=.type "tuple",data:=.seq [v].toArray} he;refine Zi (Wo (Zi (Zi (Yr he1 hd h0 (Zi (Ww he1 hd hz ?_))))) (by show[v].toArray.size<=sizeLine;rw[Zm,Y3];simp));exact Th (Zp hq)
theorem x_raise(hh:A.handled=none)
  (hx:wpAny M A x (λv s1=>∃e o vs C bm,v=.ref e/\XCls K C bm/\K.In s1.heap/\s1.heap.get? e=some o/\o.cls=.ref C/\o.data=.fields vs/\vs[1]? =some .none/\E (.ref e) s1) E s):
  wpAny M A (raiseStmt env (some x) none) Q E s:=by
 unfold raiseStmt;refine Zi (Wb hx (λv s1 h1=>?_) λ_ _ x=>x);obtain⟨e,o,vs,C,bm,rfl,X,KX,he,hc,hd,h1,hE⟩:=h1;obtain⟨hp,g,d,tk,os⟩:=s1;obtain⟨nm,q,N,bs,sn,sub,ab,col,dd,k0,k1,k2,k3,k5,hC'⟩:=X.obj;have hC:=KX _ _ hC';have cB:(Value.ref C::bm).contains (.type "BaseException")=true:=by rw[Xy,X.hasB,Tb]
 obtain⟨oc,od,odt,osl⟩:=o
 dsimp only at hc hd
 subst hc hd
 repeat (first|with_reducible refine Yy he ?_|with_reducible refine Yy hC ?_| (with_reducible refine Xr hC ?_;rw[cB])| (with_reducible refine Yr he rfl h1 ?_)|wp_step)
 exact wpAny_raiseNew_none hh hE
theorem c1n(self:Value)(what:Str):∀l:List Value,(∀v∈l,∃a,v=Value.ref a)->∀r,refuseLoop self what (l++r)=refuseLoop self what r
 | [],_,_=>rfl
 |v::l,h,r=>by
  obtain⟨a,rfl⟩:=h v Yd;rw[Xz,refuseLoop_ref,c1n self what l (λv hv=>h v (Zx _ hv)) r]
def XUp(bm:List Value):Prop:=∃l:List Value,(∀v∈l,∃a,v=Value.ref a)/\bm=l++[.type "ValueError",.type "Exception",.type "BaseException",.type "object"]
theorem x_set(KX:K.In h)(X:XCls K C bm)(U:XUp bm)(sa:findIn K (.ref C) "__setattr__"=some (some (.builtin "object.__setattr__")))(hn:findIn K (.ref C) name=some none)
  (he:h.get? e=some o)(hc:o.cls=.ref C)(hd:o.data=.fields vs)(hw:PySem.Within mA ns)(hz:ns.length<=1000)(hm:(o.dict=none/\∀n,mA n=none)\/∃dx,o.dict=some dx/\dx≠e/\h.Ns1 dx mA)
  (hq:∀h' dx tk,(o.dict=some dx\/(o.dict=none/\h.objs.size<=dx))->h'.get? e=some { o with dict:=some dx}->dx≠e->h'.Ns1 dx (λy=>if y=name then some v else mA y)->(∀b u,b≠e->b≠dx->h.get? b=some u->h'.get? b=some u)->Q () ⟨h',g,d,tk,os⟩):
  wpAny (model prog w) A (setAttr (.ref e) name v) Q E ⟨h,g,d,t,os⟩:=by
 obtain⟨nm,q,N,bs,sn,sub,ab,col,dd,k0,k1,k2,k3,k5,hC'⟩:=X.obj;have hC:=KX _ _ hC';obtain⟨l,hl,hbm⟩:=U;have SF:=F.store_ValueError;have hpass:refuseLoop (.ref e) "__setattr__" (.ref C::bm)=pure ():=by
  rw[refuseLoop_ref,hbm,c1n _ _ l hl];exact SF.passes (.ref e)
 have cO:(Value.ref C::bm).contains (.type "object")=true:=by rw[Xy,hbm];simp
 obtain⟨oc,od,odt,osl⟩:=o
 dsimp only at hc hd
 subst hc hd;have f3:=SF.slot.bind (.ref e);have ck:∀(Q':Unit->Shared->Prop)(u:Nat)(nv:Value),Q' () ⟨h,g,d,u,os⟩->∀A' E',wpAny (model prog w) A' (checkBuiltinCall "object.__setattr__" ⟨[.ref e,nv,v],[]⟩) Q' E' ⟨h,g,d,u,os⟩:=by
  intro Q' u nv hq' A' E';have ha:=SF.args (.ref e) nv v;simp only[checkBuiltinCall,SF.kind,SF.split];refine Zi ?_;unfold isInstance
  repeat (first|with_reducible refine Yy he ?_| (with_reducible refine Xr hC ?_;rw[cO])|wp_step)
  exact hq'
 unfold setAttr callSpecial? specialOf
 repeat (any_goals (first|assumption|with_reducible refine Yy he ?_|with_reducible refine(looks_findIn KX sa).here ?_|wp_step))
 refine Rt SF.slot.plain SF.entry (ck _ _ _ ?_ _ _);unfold Builtin.«object.__setattr__»
 repeat (first|rw[refuse_eq]|rw[hpass]|with_reducible refine Yy he ?_|with_reducible refine wpAny_mroOf_exc hC ?_|with_reducible refine(looks_findIn KX hn).here ?_|wp_step)
 rcases hm with⟨hdn,hmA⟩|⟨dx,hdx,hne,hns⟩
 ·dsimp only at hdn
  subst hdn
  dsimp only
  rw[if_neg (by simp[typeHasDict])];have he1:(h.push { cls:=.type "dict",data:=.dict #[]}).get? e=some ⟨.ref C,none,.fields vs,osl⟩:=Zk _ he;have nes:e≠h.objs.size:=Z1 (Zs he);refine Zi (wpAny_alloc' ?_);refine Zi (wpAny_update' he1 ?_);refine Zp ?_;have gd:=(Qa (h.push { cls:=.type "dict",data:=.dict #[]}) h.objs.size e (λo=>{ cls:=o.cls,dict:=some h.objs.size,data:=o.data,slots:=o.slots}) nes.symm).trans (Heap.get?_push_at rfl rfl);have nd:((h.push { cls:=.type "dict",data:=.dict #[]}).update e λo=>{ cls:=o.cls,dict:=some h.objs.size,data:=o.data,slots:=o.slots}).Ns h.objs.size (λ_=>none):=⟨_,#[],_,gd,rfl,λ_ z=>absurd z qz,λ_=>rfl⟩
  show wpAny _ _ (Builtin.ObjectAttr.storeInDict h.objs.size (.str name _) name v) _ _ _
  unfold Builtin.ObjectAttr.storeInDict Builtin.ObjectAttr.newKeyGuard;refine Zi (Zp (Zi (S6 (Heap.Ns1.of_empty nd) λh' hn' hs=>?_)));obtain⟨oD,esD,epD,hoD,hdD,hcD⟩:=hn'.count (Ty name v PySem.Within.nil);refine Zi (Sa hoD (by rw[hdD];exact Sb (Yn hcD (by rw[length_cons,length_nil,Y3];omega))) ?_)
  wp_walk
  have ge':h'.get? e=some ⟨.ref C,some h.objs.size,.fields vs,osl⟩:=(hs.2 e nes).trans (Ym _ he1 rfl);refine hq h' h.objs.size _ (.inr ⟨rfl,Zn _⟩) ge' nes.symm ?_ (λb u hb hbd hu=>?_)
  ·obtain⟨o',es,ep,e1,e2,e3,eu,e4⟩:=hn';exact⟨o',es,ep,e1,e2,e3,eu,λy=>by rw[e4 y];by_cases hy:y=name<;>simp[hy,hmA]⟩
  ·exact(hs.2 b hbd).trans ((Qa _ _ _ _ hb).trans (Zk _ hu))
 ·dsimp only at hdx
  subst hdx
  dsimp only
  refine Zp ?_
  show wpAny _ _ (Builtin.ObjectAttr.storeInDict dx (.str name _) name v) _ _ _
  unfold Builtin.ObjectAttr.storeInDict Builtin.ObjectAttr.newKeyGuard;refine Zi (Zp (Zi (S6 hns λh' hn' hs=>?_)));obtain⟨oD,esD,epD,hoD,hdD,hcD⟩:=hn'.count (Ty name v hw);refine Zi (Sa hoD (by rw[hdD];exact Sb (Yn hcD (by rw[length_cons,Y3];omega))) ?_)
  wp_walk
  exact hq h' dx _ (.inl rfl) ((hs.2 e hne.symm).trans he) hne hn' (λb u hb hbd hu=>(hs.2 b hbd).trans hu)
theorem c4p(KX:K.In h)(X:XCls K C bm)(he:h.get? e=some o)(hc:o.cls=.ref C)(X':XCls K C' bm')(hq:Q ((Value.ref C::bm).contains (.ref C')) ⟨h,g,d,t,os⟩):
  wpAny (model prog w) A (excMatches (.ref e) (.ref C')) Q E ⟨h,g,d,t,os⟩:=by
 obtain⟨nm,q,N,bs,sn,sub,ab,col,dd,k0,k1,k2,k3,k5,hC'⟩:=X.obj;have hC:=KX _ _ hC';obtain⟨nm',q',N',bs',sn',sub',ab',col',dd',l0,l1,l2,l3,l5,hD'⟩:=X'.obj;have hD:=KX _ _ hD';have cB:(Value.ref C'::bm').contains (.type "BaseException")=true:=by rw[Xy,X'.hasB,Tb]
 have f:=tc_notTuple;generalize hb:(Value.ref C::bm).contains (.ref C')=b at hq;unfold excMatches
 repeat (first| (with_reducible refine Yy he ?_;rw[hc])|with_reducible refine Yy hD ?_| (with_reducible refine Xr hD ?_;rw[cB])| (with_reducible refine Xr hC ?_;rw[hb])|wp_step)
 cases b<;>(wp_walk;exact hq)
end
def XFp(e C:Addr)(dx:Option Addr)(fr:Bool)(h:Heap):Prop:=∃o vs t0 x,h.get? e=some o/\o.cls=.ref C/\o.dict=dx/\o.data=.fields vs/\vs[0]? =some (Value.ref t0)/\vs[1]? =some x/\(fr=true->x=.none)/\vs[2]? =some Value.none
def XF(e C:Addr)(dx:Option Addr)(fr:Bool):HO:=.ext (XFp e C dx fr)
theorem XFp.on{e C:Addr}{dx:Option Addr}{fr:Bool}{h h':Heap}(x:XFp e C dx fr h)(k:∀o,h.get? e=some o->h'.get? e=some o):XFp e C dx fr h':=by
 obtain⟨o,vs,t0,y,a,b⟩:=x;exact⟨o,vs,t0,y,k o a,b⟩
theorem b6u(x:XFp e C dx fr h):a1r P w H h e (XF e C dx fr):=⟨x,let⟨o,_,_,_,a,_⟩:=x;⟨o,a⟩,λ_ _ z k=>z.on k⟩
theorem a9a(ok:HOk P w H h)(a:H e=some (XF e C dx fr)):XFp e C dx fr h:=(ok e _ a).1
theorem d1y(h:H a=some o):upd H a o=H:=by
 funext b
 by_cases e:b=a
 ·subst e;rw[a0c,h]
 ·rw[a0f e]
def TbOf(s:Shared)(ea:Addr)(H':Hp)(h:Heap):Prop:=∃o vs T,h.get? ea=some o/\o.data=.fields vs/\vs[1]? =some (Value.ref T)/\T≠ea/\s.heap.objs.size<=T/\H' T=none/\TbIs h T
def CXo(P:Program)(w:World):CXT:=λouter H s E e s'=>∃ea C dx H',e=.ref ea/\H' ea=some (XF ea C dx false)/\s'.os=s.os/\AllBare s'.gens/\Un (frs outer) [] H H' s.heap s'.heap/\HOk P w H' s'.heap/\TbOf s ea H' s'.heap/\E (.ref C) (some ea) H'
section
variable{X:Cx}{pj:List (Addr×Obj)}{σ:St}{H:Hp}{s:Shared}
def TOk(X:Cx)(pj:List (Addr×Obj))(H:Hp)(T:Addr):Prop:=X.s₀.heap.objs.size<=T/\T≠X.env.locals/\(∀x c,X.env.cells.lookup x=some c->c≠T)/\(∀p∈X.pn++pj,p.1≠T)/\H T=none
theorem b5h{h':Heap}{ea C:Addr}{dx:Option Addr}{fr:Bool}{o:Obj}{ok:Addr->Prop}{ch:List Addr}(I:Inv X pj σ H s)(hx:H ea=some (XF ea C dx fr))(ge:s.heap.get? ea=some o)(l:Left (frs X.stack) ea o ok s.heap h')(hok:∀T,ok T->T∈ch)(hch:∀T∈ch,TOk X pj H T)(hnew:fr=false):
  Inv X pj σ H { s with heap:=h'}:=by
 subst hnew;have ntr:∀b u,H b=some u->¬ok b:=λb u e z=>by rw[(hch b (hok b z)).2.2.2.2]at e;cases e
 have nfr:∀b u,H b=some u->b∉frs X.stack:=λb u e z=>by rw[I.stkFree b z]at e;cases e
 have hk:HOk X.prog X.w H h':=λa u e=>by
  by_cases ha:a=ea
  ·subst ha;rw[hx]at e;cases e;obtain⟨o',vs,t0,y,a1,a2,a3,a4,a5,a6,_,a8⟩:=a9a I.hok hx;rw[ge]at a1;cases a1;obtain⟨T,_,_,gT⟩:=l.tb;refine b6u ⟨_,_,t0,.ref T,gT,?_,?_,a5s _ a4,?_,?_,(λz=>by cases z),?_⟩
   ·rw[T0];exact a2
   ·rw[c4o];exact a3
   ·rw[Wt qd];exact a5
   ·have:=(Yu.mp a6).1
    simp[this]
   ·rw[Wt qd];exact a8
  ·refine(I.hok a u e).stay (λb v hb q=>?_) (λ_ q=>q) λ_ _ q=>q
   rcases hb with rfl|hb
   ·exact l.keep b v ha (ntr b u e) (nfr b u e) q
   ·refine l.keep b v (λz=>?_) (ntr b _ hb) (nfr b _ hb) q;rw[z,hx]at hb;cases hb
 refine I.step (g':=s.gens) (d':=s.drawn) (t':=s.toks) (ch:=ch) (λb hb=>⟨.inr (hch b hb).1,(hch b hb).2.1,(hch b hb).2.2.1,(hch b hb).2.2.2.1⟩) (λb u hL hf hc e n=>?_) (λb u hL hf hc e n=>?_) (λ_ _ _ _ n=>n) (λb u hc e=>l.there b u e) (λ_ _ e=>e) (λ_ _ _ e=>e) (λb ps e=>⟨#[],by rw[e];simp⟩) (λm hm=>?_) hk I.bare
 ·refine l.keep b u (λz=>by rw[z,hx]at n;cases n) (λz=>hc (hok b z)) (λz=>?_) e;rcases Zu.mp (I.stkSub b z)with z|z
  ·exact hL z
  ·exact hf z
 ·exact l.slot b u (λz=>by rw[z,hx]at n;cases n) (λz=>hc (hok b z)) e
 ·obtain⟨u,es,ep,e,r⟩:=hm;obtain⟨sl,e2⟩:=l.slot _ u (λz=>by have:=I.free;rw[z,hx]at this;cases this) (λz=>(hch _ (hok _ z)).2.1 rfl) e;exact⟨_,es,ep,e2,r⟩
theorem b3z{T:Addr}(I:Inv X pj σ H s)(h:s.heap.objs.size<=T){H':Hp}(hn:H' T=none):TOk X pj H' T:=by
 refine⟨Yn I.sz h,λz=>?_,λx c e z=>?_,λp hp z=>?_,hn⟩
 ·rw[z]at h;exact absurd I.lt (Sq.mpr h)
 ·obtain⟨v,o,ho,_⟩:=I.cell x c e;rw[z]at ho;exact absurd (Zs ho) (Sq.mpr h)
 ·obtain⟨hp1,_⟩:=I.pin p hp;rw[z]at hp1;exact absurd (Zs hp1) (Sq.mpr h)
theorem b8f(I:Inv X pj σ H s)(ge:s.heap.get? ea=some o)(gd:o.data=.fields vs)(g1:1<vs.size)(l:Left fs ea o ok s.heap h'):TbOf s ea H h':=by
 obtain⟨T,h1,h2,h3⟩:=l.tb;exact⟨_,_,T,h3,a5s _ gd,by simp[g1],λz=>absurd (Zs ge) (by rw[<-z];exact Sq.mpr h1),h1,I.hok.fresh h1,h2⟩
end
section
variable{P:Program}{w:World}{K:Frag}{mg:Str->Option Value}{base:Heap}{N:List Str}{qual:Str}{scope:Scope}{f:Addr}{cd:Value}{A:Around}{outer:List Env}{s:Shared}{H:Hp}{E:XK}
theorem xe_of{pj:List (Addr×Obj)}{σ:St}{H':Hp}{s2:Shared}{ea C:Addr}{dx:Option Addr}(I:Inv (cxOf (CXo P w) P w K mg base N qual scope f cd A outer s H E) pj σ H' s2)(hx:H' ea=some (XF ea C dx false))
  (tb:∀vs o,s2.heap.get? ea=some o->o.data=.fields vs->vs[1]? =some .none\/∃T,vs[1]? =some (.ref T)/\T≠ea/\TOk (cxOf (CXo P w) P w K mg base N qual scope f cd A outer s H E) pj H' T/\TbIs s2.heap T)(hE:E (.ref C) (some ea) H'):
  (cxOf (CXo P w) P w K mg base N qual scope f cd A outer s H E).xe (.ref ea) s2:=by
 obtain⟨o,vs,t0,y,a1,a2,a3,a4,a5,a6,_⟩:=a9a I.hok hx;have g1:=(Yu.mp a6).1
 show wpAny _ _ (leaving _ (.ref ea)) _ _ s2
 have fin:∀(ok:Addr->Prop)(ch:List Addr)(h':Heap),(∀T,ok T->T∈ch)->(∀T∈ch,TOk (cxOf (CXo P w) P w K mg base N qual scope f cd A outer s H E) pj H' T)->Left (frs (cxOf (CXo P w) P w K mg base N qual scope f cd A outer s H E).stack) ea o ok s2.heap h'->CXo P w outer H s E (.ref ea) { s2 with heap:=h'}:=λok ch h' hok hch l=>by
  have I2:=b5h I hx a1 l hok hch rfl;refine⟨ea,C,dx,H',rfl,hx,I2.os,I2.bare,I2.base,I2.hok,?_,hE⟩;obtain⟨o2,vs2,T,b1,b2,b3,b4,b5,b6,b7⟩:=b8f I a1 a4 g1 l;exact⟨o2,vs2,T,b1,b2,b3,b4,Yn I.sz b5,b6,b7⟩
 refine Zi ?_;rcases tb vs o a1 a4 with z|⟨T,z1,z2,z3,z4⟩
 ·exact a8z (ok:=λ_=>False) I.ok.frames I.stack rfl a1 a4 (.inl z) λh' l=>fin _ [] h' (λ_ z=>z.elim) (λ_ z=>absurd z Z6) l
 ·exact a8z (ok:=λb=>b=T) I.ok.frames I.stack rfl a1 a4 (.inr ⟨T,z1,z2,rfl,z4⟩) λh' l=>fin _ [T] h' (λ_ z=>Zq.mpr z) (λb z=>by rw[Zq.mp z];exact z3) l
end
section
variable{X:Cx}{pj:List (Addr×Obj)}{σ:St}{H:Hp}{s:Shared}{pos apos np:Pos}{a b o e value:Expr}{es:List Expr}{t:TA}{te ta tv:TE}{f x:Str}
theorem b6v:bootBuiltins "ValueError"=some (.type "ValueError"):=by rfl
def c8h(K:Frag)(t:TA):TE:=λσ H Q=>t σ H λvs H2=>∃e C dx fr bm y,vs=[.ref e,y]/\H2 e=some (XF e C dx fr)/\XCls K C bm/\Q .non H2
theorem d1z{pl:Sem Bool}(hg:Gl X "ValueError")(hm:X.mg "ValueError"=none)(ha:PA X [a,b] t)(hst:starEach [a,b] X.env=(false,eval a X.env)::starEach [b] X.env:=by rfl)(hpl:(backTo pos (starEach [b] X.env)).any (·.1)=false:=by rfl)
  (ht:eval (.Call (.Attribute (.Name "ValueError" np) "__init__" apos) [a,b] [] pos) X.env=(do
   let ov <-eval (.Name "ValueError" np) X.env
   standAt apos.atName
   let(f,first) <-holding [ov] (getMethod ov "__init__" pl)
   callWith pos f first (backTo pos (starEach [a,b] X.env)) (backToKw pos (keywordEach [] X.env))):=by rfl):
  PE X (.Call (.Attribute (.Name "ValueError" np) "__init__" apos) [a,b] [] pos) (c8h X.K t):=by
 intro pj s σ H Q I h;refine Tc (pl:=pl) (thn ((c7y (X:=X) (pos:=np) hg hm b6v) pj s σ H (λv H1=>v=.ty "ValueError"/\H1=H) I ⟨rfl,rfl⟩) λu s1 ⟨y,H1,I1,ry,e1,e2⟩=>?_) ht;subst e1 e2;obtain rfl:u=Value.type "ValueError":=ry;obtain⟨m,F⟩:=I1.fr;refine method_type F I1.ok.mod.kin (by kernel_rfl) qk (v:=.builtin "ValueError.__init__") (by kernel_rfl) qk ?_;have I2:=I1.tok (s1.toks+1);refine callWith_builtin1 (thn (ha pos pj _ σ H1 _ I2 h) λus s2 ⟨vs,H2,I3,r,q⟩=>?_) hst hpl;obtain⟨ea,C,dx,fr,bm,y,rfl,hx,Xc,q⟩:=q;obtain⟨u1,us1,rfl,r1,r2⟩:∃u1 us1,us=u1::us1/\RelV (.ref ea) u1/\Vals [y] us1:=by cases r with|cons p q=>exact⟨_,_,rfl,p,q⟩
 obtain⟨u2,rfl,r3⟩:=r2.one;obtain rfl:u1=Value.ref ea:=r1;obtain⟨ob,ws,t0,z,a1,a2,a3,a4,a5,a6,a7,a8⟩:=a9a I3.hok hx;obtain⟨hp,g,d,tk,os⟩:=s2;refine x_init I3.kIn Xc a1 a2 a4 a5 ?_;refine⟨.non,H2,?_,rfl,q⟩;have k1:∀b u,b≠ea->hp.get? b=some u->((hp.push { cls:=.type "tuple",data:=.seq [u2].toArray}).update ea (Obj.mapFields (·.setIfInBounds 0 (.ref hp.objs.size)))).get? b=some u:=λb u hb hu=>by
  rw[Z9 _ _ (Ne.symm hb)];exact Zk _ hu
 have k2:=Ym (Obj.mapFields (·.setIfInBounds 0 (.ref hp.objs.size))) (Zk { cls:=.type "tuple",data:=.seq [u2].toArray} a1) (Wj (a5s _ a4));have sz0:=(Yu.mp a5).1;have:=I3.write (t':=tk) (o:=XF ea C dx fr) (x:=ea) (e:=ea) (by rw[hx];exact True.intro) (.inl rfl) k1 ⟨_,k2⟩ (b6u ⟨_,_,hp.objs.size,z,k2,by rw[T0];exact a2,by rw[c4o];exact a3,a5s _ a4,by simp[sz0],by rw[Wt qd];exact a6,a7,by rw[Wt qd];exact a8⟩);rw[d1y hx]at this;exact this
structure b1m(K:Frag)(C:Addr):Prop where
 ga:findIn K (.ref C) "__getattribute__"=some (some (.builtin "BaseException.__getattribute__"))
 gx:findIn K (.ref C) "__getattr__"=some none
 sa:findIn K (.ref C) "__setattr__"=some (some (.builtin "object.__setattr__"))
def tXSet(K:Frag)(ta tv:TE)(f:Str):TS:=λD σ H=>tv σ H λy H1=>ta σ H1 λx H2=>∃e C bm fr,x=.ref e/\XCls K C bm/\XUp bm/\b1m K C/\a0x K C f/\
 ((H2 e=some (XF e C none fr)/\∀dx,H2 dx=none->dx≠e->D.nx σ (upd (upd H2 dx (.xd [(f,y)])) e (XF e C (some dx) fr)))\/(∃dx fs,H2 e=some (XF e C (some dx) fr)/\H2 dx=some (.xd fs)/\fs.length<=900/\D.nx σ (upd H2 dx (.xd (putF f y fs)))))
theorem c8i{fs:List (Str×V)}(h:∀f,RelO (fs.lookup f) (mA f)):PySem.Within mA (fs.map (·.1)):=λy hy=>by
 cases e:fs.lookup y with
 |none=>
  have:=h y;rw[e]at this;exact absurd (RelO.none_of this) hy
 |some v=>
  have:=List.mem_map_of_mem (f:=(·.1)) (Yp e);exact this
theorem ps_xset(ha:PE X o ta)(hv:PE X value tv)(hs:swapsWith value (some (.Attribute o f apos)) pos.line X.env=pure false:=by rfl):PS X (.Assign [.Attribute o f apos] value pos) (tXSet X.K ta tv f):=by
 intro pj s σ H D I h;refine T7 (thn (hv pj s σ H _ I h) λu s1 ⟨y,H1,I1,ry,q⟩=>thn (ha pj s1 σ H1 _ I1 q) λov s2 ⟨x,H2,I2,rx,ea,C,bm,fr,ex,Xc,U,Xa,n,q2⟩=>?_) hs;subst ex;obtain rfl:ov=Value.ref ea:=rx;obtain⟨hp,g,d,tk,os⟩:=s2;rcases q2 with⟨hx,q3⟩|⟨dx,fs,hx,hd,hl,q3⟩
 ·obtain⟨ob,ws,t0,z,a1,a2,a3,a4,a5,a6,a7⟩:=a9a I2.hok hx;refine x_set (mA:=λ_=>none) (ns:=[]) I2.kIn Xc U Xa.sa n a1 a2 a4 (λy hy=>absurd rfl hy) qz (.inl ⟨a3,λ_=>rfl⟩) λh' dx tk' hdx g1 g2 g3 g4=>?_
  have hsz:hp.objs.size<=dx:=by
   rcases hdx with z|z
   ·rw[a3]at z;cases z
   ·exact z.2
  refine⟨σ,_,?_,q3 dx (I2.hok.fresh hsz) g2⟩;have gg:∀b u,b≠ea->hp.get? b=some u->h'.get? b=some u:=λb u hb hu=>g4 b u hb (Z1 (Yc (Zs hu) hsz)) hu
  have hfree:=I2.hok.fresh hsz
  have okd:a1r X.prog X.w (upd (upd H2 dx (.xd [(f,y)])) ea (XF ea C (some dx) fr)) h' dx (.xd [(f,y)]):=⟨_,g3,λk=>by
   by_cases hk:k=f
   ·subst hk;simp only[List.lookup,Vz,if_true];exact ry
   ·have hb:(k==f)=false:=Xs.mpr hk;simp only[List.lookup,hb,if_neg hk]
    exact trivial⟩
  have okh:HOk X.prog X.w (upd (upd H2 dx (.xd [(f,y)])) ea (XF ea C (some dx) fr)) h':=λb v hb=>by
   by_cases h1:b=ea
   ·subst h1;rw[a0c]at hb;cases hb;exact b6u ⟨_,ws,t0,z,g1,a2,rfl,a4,a5,a6,a7⟩
   ·rw[a0f h1]at hb
    by_cases h2:b=dx
    ·subst h2;rw[a0c]at hb;cases hb;exact okd
    ·rw[a0f h2]at hb;have nd:∀c u,H2 c=some u->c≠dx:=λc u hc z=>by rw[z,hfree]at hc;cases hc
     refine(I2.hok b v hb).stay (λc w' hc qq=>gg c w' ?_ qq) (λc qq=>?_) λc xs qq=>?_
     ·rcases hc with rfl|hc
      ·exact h1
      ·exactλzz=>by rw[zz,hx]at hc;cases hc
     ·rw[a0f (λzz=>by rw[zz,hx]at qq;cases qq),a0f (nd c _ qq)];exact qq
     ·rw[a0f (λzz=>by rw[zz,hx]at qq;cases qq),a0f (nd c _ qq)];exact qq
  refine I2.un (t':=tk') ?_ okh;refine⟨λb u e n hb hx'=>gg b u (λzz=>by rw[zz,hx]at n;cases n) e,λb u e n hb hx'=>⟨u.slots,gg b u (λzz=>by rw[zz,hx]at n;cases n) e⟩,λb u e n hx'=>?_,λb u e hx'=>?_,λb xs e=>?_,λb u xs e=>?_,λb ps e=>⟨#[],?_⟩⟩
  ·rw[a0f (λzz=>by rw[zz,hx]at n;cases n),a0f (Z1 (Yc (Zs e) hsz))];exact n
  ·by_cases h1:b=ea
   ·subst h1;exact⟨_,g1⟩
   ·exact⟨u,gg b u h1 e⟩
  ·rw[a0f (λzz=>by rw[zz,hx]at e;cases e),a0f (λzz=>by rw[zz,hfree]at e;cases e)];exact e
  ·rw[a0f (λzz=>by rw[zz,hx]at e;cases e),a0f (λzz=>by rw[zz,hfree]at e;cases e)];exact e
  ·rw[a0f (λzz=>by rw[zz,hx]at e;cases e),a0f (λzz=>by rw[zz,hfree]at e;cases e),e];simp
 ·obtain⟨ob,ws,t0,z,a1,a2,a3,a4,a5,a6,a7⟩:=a9a I2.hok hx;obtain⟨mA,hm,hr⟩:=(show a1r X.prog X.w H2 hp dx (.xd fs)from I2.hok dx _ hd);have hne:dx≠ea:=λzz=>by rw[zz,hx]at hd;cases hd
  refine x_set (mA:=mA) (ns:=fs.map (·.1)) I2.kIn Xc U Xa.sa n a1 a2 a4 (c8i hr) (by rw[length_map];omega) (.inr ⟨dx,a3,hne,hm⟩) λh' dx' tk' hdx g1 g2 g3 g4=>?_
  obtain rfl:dx'=dx:=by
   rcases hdx with z|z
   ·rw[a3]at z;exact(Zw z).symm
   ·rw[a3]at z;cases z.1
  refine⟨σ,_,?_,q3⟩;have gg:∀b u,b≠dx'->hp.get? b=some u->h'.get? b=some u:=λb u hb hu=>by
   by_cases h1:b=ea
   ·subst h1;rw[a1]at hu;cases hu;rw[g1,<-a3]
   ·exact g4 b u h1 hb hu
  have nw:a1r X.prog X.w (upd H2 dx' (.xd (putF f y fs))) h' dx' (.xd (putF f y fs)):=⟨_,g3,λk=>by
   rw[a9q]
   by_cases hk:k=f
   ·rw[if_pos hk,if_pos hk];exact ry
   ·rw[if_neg hk,if_neg hk]
    exact hr k⟩
  have okh:HOk X.prog X.w (upd H2 dx' (.xd (putF f y fs))) h':=λb v hb=>by
   by_cases h1:b=dx'
   ·subst h1;rw[a0c]at hb;cases hb;exact nw
   ·rw[a0f h1]at hb;refine(I2.hok b v hb).stay (λc w' hc qq=>gg c w' ?_ qq) (λc qq=>?_) λc xs qq=>?_
    ·rcases hc with rfl|hc
     ·exact h1
     ·exactλzz=>by rw[zz,hd]at hc;cases hc
    ·rw[a0f (λzz=>by rw[zz,hd]at qq;cases qq)];exact qq
    ·rw[a0f (λzz=>by rw[zz,hd]at qq;cases qq)];exact qq
  refine I2.un (t':=tk') ?_ okh;refine⟨λb u e n hb hx'=>gg b u (λzz=>by rw[zz,hd]at n;cases n) e,λb u e n hb hx'=>⟨u.slots,gg b u (λzz=>by rw[zz,hd]at n;cases n) e⟩,λb u e n hx'=>?_,λb u e hx'=>?_,λb xs e=>?_,λb u xs e=>?_,λb ps e=>⟨#[],?_⟩⟩
  ·rw[a0f (λzz=>by rw[zz,hd]at n;cases n)];exact n
  ·by_cases h1:b=dx'
   ·subst h1;exact let⟨u,_,_,e,_⟩:=g3;⟨u,e⟩
   ·exact⟨u,gg b u h1 e⟩
  ·rw[a0f (λzz=>by rw[zz,hd]at e;cases e)];exact e
  ·rw[a0f (λzz=>by rw[zz,hd]at e;cases e)];exact e
  ·rw[a0f (λzz=>by rw[zz,hd]at e;cases e),e];simp
end
section
variable{X:Cx}{CX:CXT}{k:Nat}{f C:Addr}{fd:FuncData}{ps:List Str}{sp:Sp}{dvs:List V}{ds:List Value}{E:XK}{x m:Str}{p pos apos np:Pos}{e o:Expr}{es:List Expr}{ta te:TE}{t:TA}{bm:List Value}
structure XMk(K:Frag)(C:Addr)(bm:List Value)(f:Addr):Prop where
 cls:XCls K C bm
 init:findIn K (.ref C) "__init__"=some (some (.ref f))
 fn:typeIn K (.ref f)=some (.type "function")
 kp:keepIn K (.ref C)=true
theorem run_exc{pj:List (Addr×Obj)}{σ:St}{H:Hp}{s:Shared}{Q:VK}{us:List Value}{vs:List V}(M:XMk X.K C bm f)(F:FnOk X.prog X.w X.K X.mg X.base CX k f fd ps sp)(hr:Room (k+1) X.A)(hb:Binds X.K fd ps ds)(hd:Vals dvs ds)
  (hx:a5j CX X E)(I:Inv X pj σ H s)(r:Vals vs us)(hl0:us.length<=1000)
  (h:∀e,H e=none->sp (.ref e::(vs++dvs)) (upd H e (XF e C none true)) (λv H2=>v=.non/\Q (.ref e) H2) E):
  wpAny (model X.prog X.w) X.A (call (.ref C) us) (EP X pj σ Q) X.xe s:=by
 obtain⟨hp,g,d,tk,os⟩:=s;have hq:=h (hp.objs.size+1) (I.hok.fresh (Ur _));have I2:Inv X pj σ (upd H (hp.objs.size+1) (XF (hp.objs.size+1) C none true)) ⟨(hp.push { cls:=.type "tuple",data:=.seq us.toArray}).push { cls:=.ref C,data:=.fields #[.ref hp.objs.size,.none,.none,.none,.bool false,.none]},g,d,tk,os⟩:=by
  refine I.laid (t':=tk) (λb u e=>Zk _ (Zk _ e)) (Ur _) (b6u ⟨{ cls:=.ref C,data:=.fields #[.ref hp.objs.size,.none,.none,.none,.bool false,.none]},#[.ref hp.objs.size,.none,.none,.none,.bool false,.none],hp.objs.size,.none,?_,rfl,rfl,rfl,rfl,rfl,(λ_=>rfl),rfl⟩)
  heap_get
 have r2:Vals (V.ref (hp.objs.size+1)::(vs++dvs)) (Value.ref (hp.objs.size+1)::(us++ds)):=.cons rfl (r.append hd);have hl:(Value.ref (hp.objs.size+1)::us++ds).length=ps.length:=by
  have q:=r2.length;rw[F.len _ _ _ _ hq]at q;exact q.symm
 refine x_call I.kIn M.cls M.init M.fn (by rw[Y3];omega) (Uf (Vt (F.run _ X.stack _ _ ⟨Value.ref (hp.objs.size+1)::us,[]⟩ (Value.ref (hp.objs.size+1)::(us++ds)) _ _ E (hr.make C us []) (I2.env0.make C us []) (hb _ (Value.ref (hp.objs.size+1)::us) I2.kIn hl) r2 hq) λr s' hq'=>?_));cases r with
 |error e=>exact hx pj σ _ _ e s' I2 hq'
 |ok fl=>
  cases fl with
  |ret u=>
   obtain⟨v,H',I3,rv,ev,q3⟩:=I2.after hq';subst ev;exact⟨rv,⟨V.ref (hp.objs.size+1),H',I3,rfl,q3⟩⟩
  |next=>exact False.elim hq'
  |brk=>exact False.elim hq'
  |cont=>exact False.elim hq'
def c8j(C:Addr)(sp:Sp)(dvs:List V)(E:XK)(t:TA):TE:=λσ H Q=>t σ H λvs H1=>vs.length<=1000/\∀e,H1 e=none->sp (.ref e::(vs++dvs)) (upd H1 e (XF e C none true)) (λv H2=>v=.non/\Q (.ref e) H2) E
theorem d2a(M:XMk X.K C bm f)(F:FnOk X.prog X.w X.K X.mg X.base CX k f fd ps sp)(hr:Room (k+1) X.A)(hg:Gl X x)(hm:X.mg x=some (.ref C))(hb:Binds X.K fd ps ds)(hd:Vals dvs ds)(hx:a5j CX X E)
  (ha:PA X (e::es) t)(hdb:(x==("__debug__":Str))=false:=by decide)(he:starEach (e::es) X.env=(false,eval e X.env)::starEach es X.env:=by rfl)(hpl:(backTo pos (starEach es X.env)).any (·.1)=false:=by rfl):
  PE X (.Call (.Name x p) (e::es) [] pos) (c8j C sp dvs E t):=by
 intro pj s σ H Q I h;refine W3 (a6p I hg hm ?_ hdb);refine Ud (h₀:=X.base) I.ok.mod.kin M.kp (thn (ha pos pj s σ H _ I h) λus s1 ⟨vs,H1,I1,r,ql,q⟩=>⟨I1.kIn,?_⟩) he hpl;exact run_exc M F hr hb hd hx I1 r (show us.length<=1000 by rw[<-r.length];exact ql) q
def XeOk(X:Cx)(EX:XK):Prop:=∀(pj:List (Addr×Obj))(σ:St)(H:Hp)(s:Shared)(ea C:Addr)(dx:Option Addr),Inv X pj σ H s->H ea=some (XF ea C dx false)->(∃o vs,s.heap.get? ea=some o/\o.data=.fields vs/\vs[1]? =some Value.none)->EX (.ref C) (some ea) H->X.xe (.ref ea) s
theorem xeOk_cx{P:Program}{w:World}{K:Frag}{mg:Str->Option Value}{base:Heap}{N:List Str}{qual:Str}{scope:Scope}{f:Addr}{cd:Value}{A:Around}{outer:List Env}{s:Shared}{H:Hp}{E:XK}:XeOk (cxOf (CXo P w) P w K mg base N qual scope f cd A outer s H E) E:=λpj σ H' s2 ea C dx I hx ⟨o,vs,g1,g2,g3⟩ hE=>
 xe_of I hx (λvs' o' c1 c2=>.inl (by rw[g1]at c1;cases c1;rw[g2]at c2;cases c2;exact g3)) hE
def c8k(EX:XK)(K:Frag)(te:TE):TS:=λ_ σ H=>te σ H λv H1=>∃e C dx bm,v=.ref e/\XCls K C bm/\H1 e=some (XF e C dx true)/\EX (.ref C) (some e) (upd H1 e (XF e C dx false))
theorem d2b(hc:X.calm=true)(hE:XeOk X EX)(he:PE X e te):PS X (.Raise (some e) none pos) (c8k EX X.K te):=by
 intro pj s σ H D I h
 show wpAny _ _ (do standAt pos;raiseStmt X.env (some (do let v <-eval e X.env;standAt pos;pure v)) none) _ _ s
 refine Zi (Uw (x_raise (K:=X.K) (I.ok.hd hc) (Zi (thn (he pj s σ H _ I h) λv s1 ⟨y,H1,I1,ry,q⟩=>Zi (Uw (Zp ?_))))));obtain⟨ea,C,dx,bm,rfl,Xc,hx,hq⟩:=q;obtain rfl:v=Value.ref ea:=ry;obtain⟨ob,ws,t0,z,a1,a2,a3,a4,a5,a6,a7,a8⟩:=a9a I1.hok hx;have a6:ws[1]? =some Value.none:=by rw[a6,a7 rfl]
 refine⟨ea,ob,ws,C,bm,rfl,Xc,I1.kIn,a1,a2,a4,a6,?_⟩;have I2:Inv X pj σ (upd H1 ea (XF ea C dx false)) s1:=by
  have:=I1.write (t':=s1.toks) (h':=s1.heap) (o:=XF ea C dx false) (x:=ea) (e:=ea) (by rw[hx];exact True.intro) (.inl rfl) (λ_ _ _ z=>z) ⟨_,a1⟩ (b6u ⟨ob,ws,t0,.none,a1,a2,a3,a4,a5,a6,(λz=>by cases z),a8⟩);exact this
 exact hE pj σ _ s1 ea C dx I2 a0c ⟨ob,ws,a1,a4,a6⟩ hq
structure XClsM(K:Frag)(C:Addr)(m:Str)(f:Addr):Prop where
 ga:specialIn K (.ref C) "__getattribute__"=some (some (.builtin "type.__getattribute__"))
 rd:readsIn K C (.type "type")=true
 at_:findCls K (.ref C) (.type "type") m=some (.val (.ref f))
 kp:keepIn K (.ref f)=true
end
theorem Fun.okX{P:Program}{w:World}{K:Frag}{mg:Str->Option Value}{base:Heap}{x qual:Str}{st:Stmt}{f:Addr}{fd:FuncData}{N ps:List Str}{k:Nat}{sp:Sp}(F:Fun K x qual st f fd)(S:a0q N ps (a0i st))(len:∀vs H Q E,sp vs H Q E->vs.length=ps.length)
  (hbody:∀(cdv:Value)(A:Around)(outer:List Env)(s:Shared)(H:Hp)(vs:List V)(Q:VK)(E:XK),Room k (A.deeper (envOfC qual (a0i st) s.heap.objs.size f cdv))->sp vs H Q E->
   ∃t,PSs (cxOf (CXo P w) P w K mg base N qual (a0i st) f cdv A outer s H E) (a3l st) t/\t { nx:=λ_ H'=>Q .non H',rt:=Q} (start N vs) H):FnOk P w K mg base (CXo P w) (k+1) f fd ps sp:=by
 obtain⟨oc,od,kV,doc,pm,an,cdv,ct,osl,rfl,lk,hcd⟩:=F.ex;exact fn_of lk hcd S len λA outer s H vs Q E hr hsp=>hbody cdv A outer s H vs Q E hr hsp
def Cx.inX(X:Cx)(ea:Addr):Cx:={ X with A:=X.A.mark (some (.ref ea)),calm:=false,xe:=λ_ _=>False}
section
variable{X:Cx}{pj:List (Addr×Obj)}{σ:St}{H:Hp}{s:Shared}{ea:Addr}
theorem Inv.inX(I:Inv X pj σ H s)(ea:Addr):Inv (X.inX ea) pj σ H s:=
 ⟨⟨I.ok.mod,I.ok.kind,I.ok.glob,I.ok.blt,I.ok.above,I.ok.inj,I.ok.has,I.ok.cab,(λz=>by cases z),I.ok.frames,I.ok.stk,I.ok.exf,I.ok.bs,I.ok.bsz,I.ok.noex,I.ok.exfs,I.ok.funs,I.ok.frf⟩,I.os,I.bare,I.base,I.loc,I.cell,I.free,I.freeC,I.pin,I.hok,I.len⟩
theorem Inv.outX(ok:X.Ok)(I:Inv (X.inX ea) pj σ H s):Inv X pj σ H s:=⟨ok,I.os,I.bare,I.base,I.loc,I.cell,I.free,I.freeC,I.pin,I.hok,I.len⟩
theorem SP.outX(ok:X.Ok)(h:SP (X.inX ea) pj D f s'):SP X pj D f s':=by
 cases f with
 |next=>obtain⟨σ',H',I,q⟩:=h;exact⟨σ',H',I.outX ok,q⟩
 |brk=>obtain⟨σ',H',I,q⟩:=h;exact⟨σ',H',I.outX ok,q⟩
 |cont=>obtain⟨σ',H',I,q⟩:=h;exact⟨σ',H',I.outX ok,q⟩
 |ret u=>obtain⟨v,σ',H',I,r,q⟩:=h;exact⟨v,σ',H',I.outX ok,r,q⟩
theorem b4a(I:Inv X pj σ H s)(hN:X.N.Nodup)(hn:X.N[n]? =some nm)(hk:X.env.kindOf nm=some .local)(h:∀s',Inv X pj (σ.set n none) H s'->Q () s'):
  wpAny M A (do bindName X.env nm .none;unbindBehindTheSuite X.env nm pos) Q E s:=by
 obtain⟨m,hm,hl⟩:=id I.loc;have hcls:(X.env.scope.kind==.class|| (X.env.scope.kind==.module&&X.env.locals !=X.env.globals))=false:=by rw[I.ok.kind];rfl
 refine wpAny_nameGoes_keeps hk hm hcls λh' v hm' hs=>h _ ?_
 have ne0:∀b o,X.s₀.heap.get? b=some o->b≠X.env.locals:=λb o e=>Z1 (Yc (Zs e) I.ok.above)
 refine⟨I.ok,I.os,I.bare,⟨λb o e n hb hx=>(hs.2 b (ne0 b o e)).trans (I.base.keep b o e n hb hx),λb o e n hb hx=>?_,I.base.free,λb o e hx=>?_,I.base.tups,I.base.frzs,I.base.tbls⟩,⟨_,hm',λj y v' e1 e2 e3=>?_⟩,λy c e=>?_,I.free,I.freeC,λp hp=>?_,λb u e=>?_,by simpa using I.len⟩
 ·obtain⟨sl,e1⟩:=I.base.slot b o e n hb hx;exact⟨sl,(hs.2 b (ne0 b o e)).trans e1⟩
 ·obtain⟨o',e1⟩:=I.base.there b o e hx;exact⟨o',(hs.2 b (ne0 b o e)).trans e1⟩
 ·by_cases hj:j=n
  ·subst hj;have hlt:j<σ.length:=by rw[I.len];exact(Yi.mp hn).1
   rw[U9 hlt]at e2;cases e2
  ·rw[Ti (Ne.symm hj)]at e2;obtain⟨u',r',q⟩:=hl j y v' e1 e2 e3;refine⟨u',r',?_⟩;rcases q with⟨k,e⟩|⟨k,c,e,z⟩
   ·refine .inl ⟨k,?_⟩;have:y≠nm:=λe=>hj (b5b hN e1 (e▸hn))
    simp[this,e]
   ·exact .inr ⟨k,c,e,z.sameBut hs (I.cne y c e)⟩
 ·obtain⟨w',z⟩:=I.cell y c e;exact⟨w',z.sameBut hs (I.cne y c e)⟩
 ·obtain⟨e,n',ne,nf,d⟩:=I.pin p hp;exact⟨(hs.2 p.1 ne).trans e,n',ne,nf,d⟩
 ·refine(I.hok b u e).stay (λc w' hc q=>(hs.2 c ?_).trans q) (λ_ q=>q) λ_ _ q=>q
  rintro rfl
  rcases hc with z|z
  ·rw[<-z,I.free]at e;cases e
  ·rw[I.free]at z;cases z
theorem c8l(I:Inv X pj σ H s)(ge:s.heap.get? ea=some o)(gd:o.data=.fields vs)(g1:vs[1]? =some (.ref T))(hT:TOk X pj H T)(tb:TbIs s.heap T)
  (q:∀s',Inv X pj σ H s'->Q () s'):wpAny M A (setFlight (.ref ea) none) Q E s:=by
 obtain⟨oT,ts,h1,h2,h3⟩:=tb;unfold setFlight;refine Zi (Yr ge gd g1 ?_);rw[if_pos (show(Value.ref T !=Value.none)=true from by simp)];refine Ww h1 h2 (Yu.mp h3).1 (q _ ?_);exact I.turned (t':=s.toks) (it:=T) (λb u hb hu=>by rw[Z9 _ _ (Ne.symm hb)];exact hu) hT.2.2.2.2 hT.2.1 (.inr hT.1) hT.2.2.1 hT.2.2.2.1
abbrev Ends.gone(D:Ends)(n:Nat):Ends:={ nx:=λσ' H'=>D.nx (σ'.set n none) H',rt:=D.rt,bk:=λσ' H'=>D.bk (σ'.set n none) H',ct:=λσ' H'=>D.ct (σ'.set n none) H'}
def c0x(X:Cx)(pj:List (Addr×Obj))(H:Hp)(ea:Addr)(h:Heap):Prop:=∃o vs T,h.get? ea=some o/\o.data=.fields vs/\vs[1]? =some (Value.ref T)/\T≠ea/\TOk X pj H T/\TbIs h T
theorem c8m{D:Ends}(hst:X.stack=X.env::X.outer)(hfr:X.env.frame=some X.env.locals)(I:Inv X pj σ H s)(hx:H ea=some (XF ea C dx false))(tb:c0x X pj H ea s.heap)
  (Xc:XCls X.K C bm)(Xd:XCls X.K C' bm')(hm:(Value.ref C::bm).contains (.ref C')=true)(hg:Gl X cx)(hmc:X.mg cx=some (.ref C'))(hdb:(cx==("__debug__":Str))=false)(hN:X.N.Nodup)(hn:X.N[n]? =some nm)(hk:X.env.kindOf nm=some .local)(hloc:Loc X.env.scope nm)(hf:X.fn nm=true\/X.env.scope.names.lookup nm=some .local)
  (hs:PSs (X.inX ea) (b0::suite) ts)(h:ts (D.gone n) (σ.set n (some (.ref ea))) H):
  wpAny (model X.prog X.w) X.A (noteFrame (.ref ea) X.env) (λ_ s2=>wpAny (model X.prog X.w) X.A (setFlight (.ref ea) none) (λ_ s3=>wpAny (model X.prog X.w) X.A (handleBy (.ref ea) X.env [.ExceptHandler (some (.Name cx cp)) (some nm) (b0::suite) hpos]) (SP X pj D) X.xe s3) X.xe s2) X.xe s:=by
 obtain⟨o,vs,T,a1,a2,a3,a4,a5,a6⟩:=tb;have frs':X.A.frames=some (X.env::X.outer):=by rw[<-hst];exact I.ok.frames
 have ff:s.heap.FunFrames X.base (X.env::X.outer):=by rw[<-hst];exact I.stack
 refine a8z (ok:=λb=>b=T) frs' ff hfr a1 a2 (.inr ⟨T,a3,a4,rfl,a6⟩) λh' l=>?_
 rw[<-hst]at l;have I2:=b5h I hx a1 l (ch:=[T]) (λ_ z=>Zq.mpr z) (λb z=>by rw[Zq.mp z];exact a5) rfl;obtain⟨o2,vs2,T2,c1,c2,c3,c4,c5,c6,c7⟩:=b8f I a1 a2 (Yu.mp a3).1 l;have c8:TOk X pj H T2:=b3z I c5 c6;generalize hs3:({ s with heap:=h'}:Shared)=s3 at I2;have c1:s3.heap.get? ea=some o2:=by rw[<-hs3];exact c1
 have c7:TbIs s3.heap T2:=by rw[<-hs3];exact c7
 refine R1 (Rg (a6p (X:=X.inX ea) (I2.inX ea) hg hmc ?_ hdb)) (by intro q;cases q);obtain⟨ob,ws,t0,z,d1,d2,d3,d4,d5,d6,d7⟩:=a9a I2.hok hx;obtain⟨hp,g,d,tk,os⟩:=s3;refine c4p I2.kIn Xc d1 d2 Xd ?_;rw[hm];refine codeAny_handlers_suite_as ?_;refine c8l I2 c1 c2 c3 c8 c7 λs5 I5=>?_
 refine a6o I5 hN hn hloc (v:=.ref ea) rfl (λs6 I6=>?_) hf;refine Wb (hs pj s6 _ H (D.gone n) (I6.inX ea) h) (λf s7 q7=>?_) λ_ _ z=>z.elim
 have ok:=I.ok;cases f with
 |next=>obtain⟨σ',H',I',q⟩:=q7;exact b4a (I'.outX ok) hN hn hk λs8 I8=>⟨_,H',I8,q⟩
 |brk=>obtain⟨σ',H',I',q⟩:=q7;exact b4a (I'.outX ok) hN hn hk λs8 I8=>⟨_,H',I8,q⟩
 |cont=>obtain⟨σ',H',I',q⟩:=q7;exact b4a (I'.outX ok) hN hn hk λs8 I8=>⟨_,H',I8,q⟩
 |ret u=>obtain⟨v,σ',H',I',r,q⟩:=q7;exact b4a (I'.outX ok) hN hn hk λs8 I8=>⟨v,_,H',I8,r,q⟩
theorem c3i(hst:X.stack=X.env::X.outer)(hfr:X.env.frame=some X.env.locals)(I:Inv X pj σ H s)(hx:H ea=some (XF ea C dx false))(tb:c0x X pj H ea s.heap)
  (Xc:XCls X.K C bm)(Xd:XCls X.K C' bm')(hm:(Value.ref C::bm).contains (.ref C')=true)(hg:Gl X cx)(hmc:X.mg cx=some (.ref C'))(hdb:(cx==("__debug__":Str))=false)
  (hs:PSs (X.inX ea) (b0::suite) ts)(h:ts D σ H):
  wpAny (model X.prog X.w) X.A (noteFrame (.ref ea) X.env) (λ_ s2=>wpAny (model X.prog X.w) X.A (setFlight (.ref ea) none) (λ_ s3=>wpAny (model X.prog X.w) X.A (handleBy (.ref ea) X.env [.ExceptHandler (some (.Name cx cp)) none (b0::suite) hpos]) (SP X pj D) X.xe s3) X.xe s2) X.xe s:=by
 obtain⟨o,vs,T,a1,a2,a3,a4,a5,a6⟩:=tb;have frs':X.A.frames=some (X.env::X.outer):=by rw[<-hst];exact I.ok.frames
 have ff:s.heap.FunFrames X.base (X.env::X.outer):=by rw[<-hst];exact I.stack
 refine a8z (ok:=λb=>b=T) frs' ff hfr a1 a2 (.inr ⟨T,a3,a4,rfl,a6⟩) λh' l=>?_
 rw[<-hst]at l;have I2:=b5h I hx a1 l (ch:=[T]) (λ_ z=>Zq.mpr z) (λb z=>by rw[Zq.mp z];exact a5) rfl;obtain⟨o2,vs2,T2,c1,c2,c3,c4,c5,c6,c7⟩:=b8f I a1 a2 (Yu.mp a3).1 l;have c8:TOk X pj H T2:=b3z I c5 c6;generalize hs3:({ s with heap:=h'}:Shared)=s3 at I2;have c1:s3.heap.get? ea=some o2:=by rw[<-hs3];exact c1
 have c7:TbIs s3.heap T2:=by rw[<-hs3];exact c7
 refine R1 (Rg (a6p (X:=X.inX ea) (I2.inX ea) hg hmc ?_ hdb)) (by intro q;cases q);obtain⟨ob,ws,t0,z,d1,d2,d3,d4,d5,d6,d7⟩:=a9a I2.hok hx;obtain⟨hp,g,d,tk,os⟩:=s3;refine c4p I2.kIn Xc d1 d2 Xd ?_;rw[hm];refine codeAny_handlers_suite ?_;refine c8l I2 c1 c2 c3 c8 c7 λs5 I5=>?_
 refine Wb (hs pj s5 _ H D (I5.inX ea) h) (λf s7 q7=>?_) λ_ _ z=>z.elim
 exact q7.outX I.ok
end
section
variable{X:Cx}{k:Nat}{f C':Addr}{fd:FuncData}{ps:List Str}{sp:Sp}{dvs:List V}{ds:List Value}{x y nm cx:Str}{p pos apos cp hpos py tpos:Pos}{e:Expr}{es:List Expr}{t:TA}{bm':List Value}{b0:Stmt}{suite:List Stmt}{ts:TS}{i n:Nat}
def tTry(K:Frag)(C':Addr)(sp:Sp)(dvs:List V)(t:TA)(ok:Ends->St->V->Hp->Prop)(hd:Ends->St->Addr->Hp->Prop):TS:=λD σ H=>t σ H λvs H1=>sp (vs++dvs) H1 (λv H2=>ok D σ v H2) (λc eo H2=>∀ea,eo=some ea->∃C dx bm,c=.ref C/\H2 ea=some (XF ea C dx false)/\XCls K C bm/\(Value.ref C::bm).contains (.ref C')=true/\hd D σ ea H2)
theorem d2c{pj:List (Addr×Obj)}{s:Shared}{σ:St}{H:Hp}{D:Ends}{ok:Ends->St->V->Hp->Prop}{hd:Ends->St->Addr->Hp->Prop}{Eh:Value->Shared->Prop}(F:FnOk X.prog X.w X.K X.mg X.base (CXo X.prog X.w) k f fd ps sp)(hr:Room k X.A)(hg:Gl X x)(hm:X.mg x=some (.ref f))(hk:keepIn X.K (.ref f)=true)(hb:Binds X.K fd ps ds)(hvd:Vals dvs ds)(ha:PA X.nox (e::es) t)
  (hE:∀ea C dx bm H' s',Inv X pj σ H' s'->H' ea=some (XF ea C dx false)->c0x X pj H' ea s'.heap->XCls X.K C bm->(Value.ref C::bm).contains (.ref C')=true->hd D σ ea H'->Eh (.ref ea) s')
  (I:Inv X pj σ H s)(h:tTry X.K C' sp dvs t ok hd D σ H)(hdb:(x==("__debug__":Str))=false)(he:starEach (e::es) X.env=(false,eval e X.env)::starEach es X.env)(hpl:(backTo pos (starEach es X.env)).any (·.1)=false):
  wpAny (model X.prog X.w) X.A (eval (.Call (.Name x p) (e::es) [] pos) X.env) (EP X pj σ (ok D σ)) Eh s:=by
 refine W3 (a6p I hg hm ?_ hdb);refine Ud (h₀:=X.base) I.ok.mod.kin hk (Wb (ha pos pj s σ H _ (I.wish _) h) (λus s1 ⟨vs,H1,I1,r,q⟩=>⟨I1.kIn,?_⟩) λ_ _ z=>z.elim) he hpl;have I1:=I1.unwish;have r2:Vals (vs++dvs) (us++ds):=r.append hvd;have hl:(us++ds).length=ps.length:=by rw[<-r2.length];exact F.len _ _ _ _ q
 refine Uf (Vt (F.run X.A X.stack s1 H1 ⟨us,[]⟩ (us++ds) (vs++dvs) _ _ hr I1.env0 (hb s1 us I1.kIn hl) r2 q) λr s' hq=>?_);cases r with
 |error e=>
  obtain⟨ea,C,dx,H',rfl,hx,os,bare,un,hok,tb,hu⟩:=hq;have I2:=I1.call' (ch:=[]) os un hok bare (λ_ z=>absurd z Z6);obtain⟨o,vs',T,b1,b2,b3,b4,b5,b6,b7⟩:=tb;obtain⟨C2,dx2,bm,e1,e2,e3,e4,e5⟩:=hu ea rfl;exact hE ea C2 dx2 bm H' s' I2 e2 ⟨o,vs',T,b1,b2,b3,b4,b3z I1 b5 b6,b7⟩ e3 e4 e5
 |ok fl=>
  cases fl with
  |ret u=>exact I1.after hq
  |next=>exact False.elim hq
  |brk=>exact False.elim hq
  |cont=>exact False.elim hq
theorem try_set{D:Ends}(hN:X.N.Nodup)(hi:X.N[i]? =some y)(hy:Loc X.env.scope y)(hf:X.fn y=true\/X.env.scope.names.lookup y=some .local)(hs:swapsWith e (some (.Name y py)) pos.line X.env=pure false)
  (h:wpAny (model X.prog X.w) X.A (eval e X.env) (EP X pj σ λv H2=>D.nx (σ.set i (some v)) H2) Eh s):
  wpAny (model X.prog X.w) X.A (execs [.Assign [.Name y py] e pos] X.env) (λf s1=>match f with| .next=>wpAny (model X.prog X.w) X.A (execs [] X.env) (SP X pj D) X.xe s1|f=>SP X pj D f s1) Eh s:=by
 refine U0 (wpAny_Assign_Name (thn h λv s1 ⟨z,H1,I1,r1,q1⟩=>?_) hs);exact a6o I1 hN hi hy r1 (λs2 I2=>Vi (Vi ⟨_,H1,I2,q1⟩)) hf
theorem c8n(hst:X.stack=X.env::X.outer)(hfr:X.env.frame=some X.env.locals)(F:FnOk X.prog X.w X.K X.mg X.base (CXo X.prog X.w) k f fd ps sp)(hr:Room k X.A)(hg:Gl X x)(hm:X.mg x=some (.ref f))(hk:keepIn X.K (.ref f)=true)(hb:Binds X.K fd ps ds)(hvd:Vals dvs ds)(ha:PA X.nox (e::es) t)
  (hN:X.N.Nodup)(hi:X.N[i]? =some y)(hy:Loc X.env.scope y)(hgc:Gl X cx)(hmc:X.mg cx=some (.ref C'))(Xd:XCls X.K C' bm')(hs:∀ea,PSs (X.inX ea) (b0::suite) ts)
  (hf:X.fn y=true\/X.env.scope.names.lookup y=some .local:=by first|exact .inl rfl|exact .inr rfl)(hsw:swapsWith (.Call (.Name x p) (e::es) [] pos) (some (.Name y py)) apos.line X.env=pure false:=by rfl)(hdb:(x==("__debug__":Str))=false:=by decide)(hdc:(cx==("__debug__":Str))=false:=by decide)
  (he:starEach (e::es) X.env=(false,eval e X.env)::starEach es X.env:=by rfl)(hpl:(backTo pos (starEach es X.env)).any (·.1)=false:=by rfl):
  PS X (.Try [.Assign [.Name y py] (.Call (.Name x p) (e::es) [] pos) apos] [.ExceptHandler (some (.Name cx cp)) none (b0::suite) hpos] [] [] tpos) (tTry X.K C' sp dvs t (λD σ v H2=>D.nx (σ.set i (some v)) H2) (λD σ ea H2=>ts D σ H2)):=by
 intro pj s σ H D I h;refine wpAny_Try_except (try_set hN hi hy hf hsw (d2c (D:=D) F hr hg hm hk hb hvd ha (λea C dx bm H' s' I' hx tb Xc hc hh=>?_) I h hdb he hpl));exact c3i hst hfr I' hx tb Xc Xd hc hgc hmc hdc (hs ea) hh
end
structure FunD(K:Frag)(x qual:Str)(st:Stmt)(f:Addr)(fd:FuncData)(dV:Value):Prop where
 ex:∃(oc:Value)(od:Option Addr)(kV doc pm:Value)(an:Option Addr)(cdv ct:Value)(osl:Array (Option Value)),
  fd=fnOf x qual (a4z st) (a3l st) (a0i st) dV kV doc pm an cdv ct/\K.lookup f=some ⟨oc,od,.func fd,osl⟩/\codeIn K cdv qual=true
 kp:keepIn K (.ref f)=true
section
variable{P:Program}{w:World}{K:Frag}{mg:Str->Option Value}{base:Heap}
theorem FunD.ok{dV:Value}{x qual:Str}{st:Stmt}{f:Addr}{fd:FuncData}{N ps:List Str}{k:Nat}{sp:Sp}(F:FunD K x qual st f fd dV)(S:a0q N ps (a0i st))(len:∀vs H Q E,sp vs H Q E->vs.length=ps.length)
  (hbody:∀(cdv:Value)(A:Around)(outer:List Env)(s:Shared)(H:Hp)(vs:List V)(Q:VK)(E:XK),Room k (A.deeper (envOfC qual (a0i st) s.heap.objs.size f cdv))->sp vs H Q E->
   ∃t,PSs (cxOf CX0 P w K mg base N qual (a0i st) f cdv A outer s H E).nox (a3l st) t/\t { nx:=λ_ H'=>Q .non H',rt:=Q} (start N vs) H):FnOk P w K mg base CX0 (k+1) f fd ps sp:=by
 obtain⟨oc,od,kV,doc,pm,an,cdv,ct,osl,rfl,lk,hcd⟩:=F.ex;refine fn_of lk hcd S len λA outer s H vs Q E hr hsp=>?_
 obtain⟨t,h,q⟩:=hbody cdv A outer s H vs Q E hr hsp;exact⟨t,h.nox,q⟩
theorem funD_mk{dV:Value}{x qual:Str}{st:Stmt}{f:Addr}{oc:Value}{od an:Option Addr}{osl:Array (Option Value)}{kV doc pm cdv ct:Value}(l:K.lookup f=some ⟨oc,od,.func (fnOf x qual (a4z st) (a3l st) (a0i st) dV kV doc pm an cdv ct),osl⟩)
  (c:codeIn K cdv qual=true)(k:keepIn K (.ref f)=true):FunD K x qual st f (fnOf x qual (a4z st) (a3l st) (a0i st) dV kV doc pm an cdv ct) dV:=⟨⟨oc,od,kV,doc,pm,an,cdv,ct,osl,rfl,l,c⟩,k⟩
end
end L2
namespace Att
open PySem PySem.W PySem.Calls PyProof.Rows
end Att
namespace L2
open PySem PySem.Spec PyProof.Rows
open PySem PySem.Spec PyProof.Rows PySem.W
section
variable{X:Cx}
theorem ko_ninV(K:Frag)(h:X.K=K):OpR X (compareOp .NotIn) (rIn K true):=h▸c1h
end
theorem b5i(x:Str):∀xs:List Str,inV (.str x) (xs.map V.str)=decide (x∈xs)
 | []=>by simp[inV]
 |y::r=>by
  have ih:=b5i x r;unfold inV at ih ⊢;rw[Z5,Ws,ih]
  show((y==x)||decide (x∈r))=decide (x∈y::r)
  by_cases h:y=x
  ·subst h;simp
  ·have h2:x≠y:=λz=>h z.symm
   simp[h,h2]
theorem c1o(xs:List Str):(xs.map V.str).all a7y=true:=by
 rw[X0];intro v hv;obtain⟨x,_,rfl⟩:=Ys.mp hv;rfl
theorem in_strs{K:Frag}{H:Hp}{Q:VK}{p:Addr}{x:Str}(xs:List Str)(h:SqL K H p (xs.map V.str)\/SqT K H p (xs.map V.str))(k:Q (.bl (decide (x∈xs))) H):rIn K false (.str x) (.ref p) H Q:=⟨p,_,rfl,h,rfl,c1o xs,by rw[b5i];exact k⟩
theorem d2d{K:Frag}{H:Hp}{Q:VK}{p:Addr}{x:Str}(xs:List Str)(h:SqL K H p (xs.map V.str)\/SqT K H p (xs.map V.str))(k:Q (.bl (!decide (x∈xs))) H):rIn K true (.str x) (.ref p) H Q:=⟨p,_,rfl,h,rfl,c1o xs,by rw[b5i];exact k⟩
section
variable{K:Frag}{σ:St}{H:Hp}{Q:VK}{D:Ends}{t:TA}{te ta tv:TE}{f:Str}{sp:Sp}{dvs:List V}{E EX:XK}{C C':Addr}
theorem d2e(k:te σ H λv H1=>∃e C dx bm,v=.ref e/\XCls K C bm/\H1 e=some (XF e C dx true)/\EX (.ref C) (some e) (upd H1 e (XF e C dx false))):c8k EX K te D σ H:=k
theorem d2f(k:t σ H λvs H1=>vs.length<=1000/\∀e,H1 e=none->sp (.ref e::(vs++dvs)) (upd H1 e (XF e C none true)) (λv H2=>v=.non/\Q (.ref e) H2) E):c8j C sp dvs E t σ H Q:=k
theorem tTry_i(k:t σ H λvs H1=>sp (vs++dvs) H1 (λv H2=>ok D σ v H2) (λc eo H2=>∀ea,eo=some ea->∃C dx bm,c=.ref C/\H2 ea=some (XF ea C dx false)/\XCls K C bm/\(Value.ref C::bm).contains (.ref C')=true/\hd D σ ea H2)):tTry K C' sp dvs t ok hd D σ H:=k
theorem d2g(k:t σ H λvs H2=>∃e C dx fr bm y,vs=[.ref e,y]/\H2 e=some (XF e C dx fr)/\XCls K C bm/\Q .non H2):c8h K t σ H Q:=k
theorem tXSet_i(k:tv σ H λy H1=>ta σ H1 λx H2=>∃e C bm fr,x=.ref e/\XCls K C bm/\XUp bm/\b1m K C/\a0x K C f/\
 ((H2 e=some (XF e C none fr)/\∀dx,H2 dx=none->dx≠e->D.nx σ (upd (upd H2 dx (.xd [(f,y)])) e (XF e C (some dx) fr)))\/(∃dx fs,H2 e=some (XF e C (some dx) fr)/\H2 dx=some (.xd fs)/\fs.length<=900/\D.nx σ (upd H2 dx (.xd (putF f y fs)))))):tXSet K ta tv f D σ H:=k
end
def rowS:Str:=ofString "row"
structure Born(H H':Hp)(e C:Addr)(fr:Bool)(fs:List (Str×V)):Prop where
 ex:∃dx,H dx=none/\dx≠e/\H' e=some (XF e C (some dx) fr)/\H' dx=some (.xd fs)
 keep:∀b,b≠e->∀o,H b=some o->H' b=some o
def IsX(H:Hp)(ea C:Addr)(fs:List (Str×V)):Prop:=∃dx,H ea=some (XF ea C (some dx) false)/\H dx=some (.xd fs)
abbrev a4s(K:Frag):Sp:=λvs H Q _=>match vs with
 | [.ref e,v,.int r]=>∃C bm fr,XCls K C bm/\XUp bm/\b1m K C/\a0x K C rowS/\H e=some (XF e C none fr)/\∀H',Born H H' e C fr [(rowS,.int r)]->Q .non H'
 |_=>False
theorem c5q(hn:H e=none)(s:Same H H1)(h1:H1 e=none)(b:Born (upd H1 e (XF e C none true)) H2 e C true fs):∃dx,H2 e=some (XF e C dx true)/\IsX (upd H2 e (XF e C dx false)) e C fs/\Same H (upd H2 e (XF e C dx false)):=by
 obtain⟨⟨dx,a1,a2,a3,a4⟩,k⟩:=b;refine⟨some dx,a3,⟨dx,a0c,by rw[a0f a2];exact a4⟩,λc o hc=>?_⟩;have hce:c≠e:=λz=>by rw[z,hn]at hc;cases hc
 rw[a0f hce];exact k c hce o (by rw[a0f hce];exact s c o hc)
structure XIs(K:Frag)(C:Addr):Prop where
 ha:findIn K (.ref C) "__class__"=some (some (.builtin "object.__class__"))
 hn:specialIn K (.builtin "object.__class__") "__get__"=some (some (.builtin "getset_descriptor.__get__"))
 htk:takesIn K (.builtin "object.__class__")=some true
 hm:mroIn K C (.type "object")=some true
section
variable{X:Cx}{pj:List (Addr×Obj)}{σ:St}{H:Hp}{s:Shared}{h':Heap}
theorem Inv.turnedMany{t':Nat}{ch:List Addr}(I:Inv X pj σ H s)(hf:∀b∈ch,FpOk X pj H b)(k:∀b u,b∉ch->s.heap.get? b=some u->h'.get? b=some u):Inv X pj σ H { s with heap:=h',toks:=t'}:=by
 have nin:∀b u,H b=some u->b∉ch:=λb u e hb=>by rw[(hf b hb).1]at e;cases e
 refine I.step (g':=s.gens) (d':=s.drawn) (ch:=ch) (λb hb=>⟨(hf b hb).2.2.2.1,(hf b hb).2.1,(hf b hb).2.2.2.2.1,(hf b hb).2.2.2.2.2⟩) (λb u _ _ hc e _=>k b u hc e) (λb u _ _ hc e _=>⟨u.slots,k b u hc e⟩)
  (λb u hc e n=>n) (λb u hc e=>⟨u,k b u hc e⟩) (λb xs q=>q) (λb u xs q=>q) (λb ps q=>⟨#[],by rw[q];simp⟩) (λm hm=>?_) (λb u e=>?_) I.bare
 ·obtain⟨q,es,ep,ho,r⟩:=hm;exact⟨q,es,ep,k _ q (λhb=>(hf _ hb).2.1 rfl) ho,r⟩
 ·refine(I.hok b u e).stay (λc v hc q=>k c v ?_ q) (λc q=>q) λc xs q=>q
  rcases hc with z|z
  ·rw[z];exact nin b u e
  ·exact nin c _ z
end
theorem c8o:∀n l l':Nat,l<n->l'<n->ZipApart (n+4) (n+2) (n+3) n (n+1) l l':=λn l l' h h'=>by constructor<;>(show ¬((_:Nat)=_);omega)
section
variable{X:Cx}{pos:Pos}{e:Expr}{te:TE}
def tF3i(te:TE):TE:=λσ H Q=>te σ H λx H1=>∃i:Int,x=.int i/\i.natAbs.log2<1920/\(ofString (toString i)).length<=100/\∀z:Str,Q (.str z) H1
theorem pe_f3i{a b:Str}{j1 j2 p1 p2 p3}(he:PE X e te)(ha:a.length<=1000:=by decide+kernel)(hb:b.length<=1000:=by decide+kernel):PE X (.JoinedStr [.Constant (.str a) j1 p1,.FormattedValue e (-1) none p2,.Constant (.str b) j2 p3] pos) (tF3i te):=by
 intro pj s σ H Q I h;have z9:100000<=sizeLine:=by decide
 refine Sr (Wx (Vq ?_));have hz:∀{x:Str},x.length<=sizeLine->(Str.empty++x).length<=sizeLine:=λ{x} q=>by rw[Xl];show 0+x.length<=_;omega
 have ea:∀x:Str,Str.empty++x=x:=λx=>by apply Rv;show(#[]:Array Nat)++x.cps=x.cps;simp
 ·refine⟨hz qo,Wx (V7 (thn (he pj _ σ H _ (I.tok _) h) λv s1 ⟨x,H1,I1,r1,q1⟩=>?_))⟩;obtain⟨i,rfl,hl,hy,q⟩:=q1;obtain⟨t,rfl⟩:=r1;refine Tg hl ?_;rw[ea];generalize ofString (toString i)=y at hy ⊢;refine⟨by rw[Xl];omega,?_⟩
  show wpAny _ _ (joinParts (a++y) [eval (.Constant (.str b) j2 p3) X.env]) _ _ _
  refine Wx (Vq ⟨by rw[Xl,Xl];omega,Sy ?_ (by rw[Xl,Xl];omega)⟩);exact⟨.str (a++y++b),H1,((I1.tok _).tok _).tok _,⟨_,rfl⟩,q _⟩
theorem tF3i_i(k:te σ H λx H1=>∃i:Int,x=.int i/\i.natAbs.log2<1920/\(ofString (toString i)).length<=100/\∀z:Str,Q (.str z) H1):tF3i te σ H Q:=k
end
def onX(H:Hp)(C:Addr)(E:XK):Prop:=∀ea H',Same H H'->IsX H' ea C [(rowS,.int 0)]->E (.ref C) (some ea) H'
section
variable{X:Cx}{es rest:List Expr}{k:Nat}{pos:Pos}{env:Env}{te:TE}{t:TA}
def notStar:Expr->Bool
 | .Starred _ _=>false
 |_=>true
theorem d2h(h:notStar e=true):starEach (e::rest) env=(false,eval e env)::starEach rest env:=by
 cases e<;>first|rfl|cases h
theorem a0a(ha:PE X e te)(hr:PA X rest t)(h:notStar e=true:=by rfl):PA X (e::rest) (tCons te t):=pa_cons ha hr (d2h h)
theorem c8p:swapsWith (.Tuple es k pos) n l env=pure false:=rfl
theorem a3x:swapsWith (.List es pos) n l env=pure false:=rfl
theorem b0i:swapsWith (.BinOp a op b pos) n l env=pure false:=rfl
theorem a6c:swapsWith (.Subscript a b pos) n l env=pure false:=rfl
theorem a1n:swapsWith (.Call a es kw pos) n l env=pure false:=rfl
end
theorem passN:a5j (CXo P w) X (λ_ _ _=>False):=λ_ _ _ _ _ _ _ h=>by
 obtain⟨_,_,_,_,_,_,_,_,_,_,_,hE⟩:=h;exact hE.elim
namespace FD
end FD
section
variable{prog:Program}{w:World}{A:Around}{R:Result->Shared->Prop}
def c1p{K:Type}[DecidableEq K](knd:PySem.KeyKind prog w K)(ts:List Addr)(kvs:List (K×Value))(h:Heap):Prop:=∀(i:Nat)(T:Addr),ts[i]? =some T->∃(kk:K)(key val:Value),kvs[i]? =some (kk,val)/\knd.is kk key=true/\IsTup h T #[key,val]
theorem c1p.keep{K:Type}[DecidableEq K]{knd:PySem.KeyKind prog w K}{ts:List Addr}{kvs:List (K×Value)}{h h':Heap}(x:c1p knd ts kvs h)(k:∀T∈ts,∀o,h.get? T=some o->h'.get? T=some o):c1p knd ts kvs h':=λi T e=>by
 obtain⟨kk,key,val,e1,e2,o,ho,r⟩:=x i T e;exact⟨kk,key,val,e1,e2,o,k T (Y4 e) o ho,r⟩
end
abbrev Rws:=List (Str×Trm)
def a1z(K:Frag)(H:Hp)(kvs:List (Key×V))(rows:Rws):Prop:=Paired (λ(p:Key×V) (q:Str×Trm)=>p.1=Sum.inr q.1/\Den K H p.2 q.2.data) kvs rows
def a1b(rows:Rws)(x:Str):Option Trm:=(rows.find? λr=>decide (r.1=x)).map (·.2)
noncomputable def putR(rows:Rws)(x:Str)(t:Trm):Rws:=if(rows.any λr=>decide (r.1=x))=true then rows.map (λr=>if r.1=x then(r.1,t)else r)else rows++[(x,t)]
section
variable{K:Frag}{H H':Hp}{kvs:List (Key×V)}{rows:Rws}
theorem a1z.mono(h:a1z K H kvs rows)(s:Same H H'):a1z K H' kvs rows:=Paired.mapP h λ_ _ z=>⟨z.1,z.2.mono s⟩
theorem a1z.monoT(h:a1z K H kvs rows)(e:∀a xs,SqT K H a xs->SqT K H' a xs):a1z K H' kvs rows:=Paired.mapP h λ_ _ z=>⟨z.1,z.2.monoT e⟩
theorem a1z.len(h:a1z K H kvs rows):kvs.length=rows.length:=Uy h
theorem key_inr(a b:Str):((Sum.inr a:Key)=Sum.inr b)↔a=b:=⟨λh=>Uq h,λh=>by rw[h]⟩
theorem a1z.get:∀{kvs:List (Key×V)}{rows:Rws},a1z K H kvs rows->∀x:Str,(a1b rows x=none/\valV kvs (Sum.inr x)=none)\/∃t v,a1b rows x=some t/\valV kvs (Sum.inr x)=some v/\Den K H v t.data
 | [],[],_,x=>.inl ⟨rfl,rfl⟩
 | (k,v)::kr,(y,t)::rr,.cons h r,x=>by
  obtain⟨e1,e2⟩:=h;have e1:k=Sum.inr y:=e1;subst e1
  by_cases hx:y=x
  ·subst hx;refine .inr ⟨t,v,?_,?_,e2⟩
   ·simp[a1b]
   ·simp[valV]
  ·have ih:=a1z.get r x;have n1:a1b ((y,t)::rr) x=a1b rr x:=by simp[a1b,hx]
   have n2:valV ((Sum.inr y,v)::kr) (Sum.inr x)=valV kr (Sum.inr x):=by simp[valV,hx]
   rw[n1,n2];exact ih
theorem a1z.any:∀{kvs:List (Key×V)}{rows:Rws},a1z K H kvs rows->∀x:Str,(kvs.any λkv=>decide (kv.1=Sum.inr x))=rows.any λr=>decide (r.1=x)
 | [],[],_,x=>rfl
 | (k,v)::kr,(y,t)::rr,.cons h r,x=>by
  have e1:k=Sum.inr y:=h.1;subst e1;rw[Ws,Ws,a1z.any r x]
  congr 1
  exact W0.mpr (key_inr y x)
theorem a1z.put(h:a1z K H kvs rows){t:Trm}(d:Den K H v t.data):a1z K H (putK kvs (Sum.inr x) v) (putR rows x t):=by
 unfold putK putR;rw[h.any x]
 split
 ·rename_i hz0;clear hz0
  induction kvs generalizing rows with
  |nil=>cases rows with|nil=>exact .nil|cons _ _=>cases h
  |cons p r ih=>
   cases rows with
   |nil=>cases h
   |cons q m=>
    cases h with
    |cons e f=>
     refine .cons ?_ (ih f)
     dsimp only
     obtain⟨e1,e2⟩:=e
     by_cases hx:q.1=x
     ·rw[if_pos hx,if_pos (by rw[e1,hx])];exact⟨e1,d⟩
     ·rw[if_neg hx,if_neg (by rw[e1];exactλz=>hx (Uq z))];exact⟨e1,e2⟩
 ·rename_i hz0;clear hz0
  induction kvs generalizing rows with
  |nil=>cases rows with|nil=>exact .cons ⟨rfl,d⟩ .nil|cons _ _=>cases h
  |cons p r ih=>
   cases rows with
   |nil=>cases h
   |cons q m=>
    cases h with
    |cons e f=>exact .cons e (ih f)
theorem c1q:∀{rows:Rws}{x:Str}{t:Trm},a1b rows x=some t->(x,t)∈rows
 | [],x,t,h=>by simp[a1b]at h
 | (y,u)::r,x,t,h=>by
  by_cases hx:y=x
  ·have:u=t:=by simpa[a1b,hx]using h
   subst this hx;exact Yd
  ·exact Zx _ (c1q (by simpa[a1b,hx]using h))
theorem any_iff{rows:Rws}:(rows.any λr=>decide (r.1=x))=true↔x∈rows.map (·.1):=by
 simp[Se]
theorem b5j{rows:Rws}(h:x∉rows.map (·.1)):putR rows x t=rows++[(x,t)]:=by
 unfold putR;rw[if_neg (λz=>h (any_iff.mp z))]
end
mutual
def eqb:Trm->Trm->Bool
 | .num a,.num b=>decide (a=b)
 | .any x,.any y=>decide (x=y)
 | .app s ks,.app r ls=>decide (s=r)&&eqbL ks ls
 |_,_=>false
def eqbL:List Trm->List Trm->Bool
 | [],[]=>true
 |a::r,b::m=>eqb a b&&eqbL r m
 |_,_=>false
end
theorem a7k(h:¬p):false=true↔p:=⟨λz=>Bool.noConfusion z,λz=>absurd z h⟩
mutual
theorem a8h:∀t u:Trm,eqb t u=true↔t=u
 | .num a,.num b=>Qe.trans ⟨λh=>h▸rfl,λh=>Trm.num.inj h⟩
 | .num a,.any y=>a7k nofun
 | .num a,.app _ _=>a7k nofun
 | .any x,.num b=>a7k nofun
 | .any x,.any y=>Qe.trans ⟨λh=>h▸rfl,λh=>Trm.any.inj h⟩
 | .any x,.app _ _=>a7k nofun
 | .app _ _,.num b=>a7k nofun
 | .app _ _,.any y=>a7k nofun
 | .app s ks,.app r ls=>(V9 (x:=decide (s=r)) (y:=eqbL ks ls)).trans ⟨λ⟨h,k⟩=>Z8 h▸(a8n ks ls).mp k▸rfl,λh=>⟨Ye (Trm.app.inj h).1,(a8n ks ls).mpr (Trm.app.inj h).2⟩⟩
theorem a8n:∀t u:List Trm,eqbL t u=true↔t=u
 | [],[]=>⟨λ_=>rfl,λ_=>rfl⟩
 | [],_::_=>a7k nofun
 |_::_,[]=>a7k nofun
 |a::r,b::m=>(V9 (x:=eqb a b) (y:=eqbL r m)).trans ⟨λ⟨h,k⟩=>(a8h a b).mp h▸(a8n r m).mp k▸rfl,λh=>⟨(a8h a b).mpr (S3 h).1,(a8n r m).mpr (S3 h).2⟩⟩
end
theorem d2i(t:Trm):eqb t t=true:=(a8h t t).mpr rfl
theorem c1r:∀ks ls:List Trm,((List.range (min ks.length ls.length)).all (λj=>match ks[j]?,ls[j]? with|some a,some b=>eqb a b|_,_=>true)&&(ks.length==ls.length))=eqbL ks ls
 | [],[]=>by simp[eqbL]
 | [],_::_=>by simp[eqbL]
 |_::_,[]=>by simp[eqbL]
 |a::r,b::m=>by
  have ih:=c1r r m
  show _=(eqb a b&&eqbL r m)
  rw[<-ih,length_cons,length_cons,Nat.succ_min_succ,List.range_succ_eq_map,Uz,List.all_map,Bool.and_assoc]
  congr 1
  congr 1
  ·simp
mutual
theorem Trm.data_inj:∀{t u:Trm},t.data=u.data->t=u
 | .num a,.num b,h=>by simp[Trm.data]at h;rw[h]
 | .num a,.any y,h=>by simp[Trm.data]at h
 | .num a,.app _ _,h=>by simp[Trm.data]at h
 | .any x,.num b,h=>by simp[Trm.data]at h
 | .any x,.any y,h=>by simp[Trm.data]at h;rw[h]
 | .any x,.app _ _,h=>by simp[Trm.data]at h
 | .app _ _,.num b,h=>by simp[Trm.data]at h
 | .app _ _,.any y,h=>by simp[Trm.data]at h
 | .app s ks,.app r ls,h=>by
  simp only[Trm.data,PyData.tuple.injEq,Te,PyData.str.injEq,and_true,true_and]at h;rw[h.1,Trm.dataL_inj h.2]
theorem Trm.dataL_inj:∀{t u:List Trm},Trm.dataL t=Trm.dataL u->t=u
 | [],[],_=>rfl
 | [],_::_,h=>by simp[Trm.dataL]at h
 |_::_,[],h=>by simp[Trm.dataL]at h
 |a::r,b::m,h=>by
  simp only[Trm.dataL,Te]at h;rw[Trm.data_inj h.1,Trm.dataL_inj h.2]
end
section
variable{X:Cx}{pj:List (Addr×Obj)}{σ:St}{H:Hp}{s:Shared}
mutual
theorem c4q(I:Inv X pj σ H s):∀{v:V}{d d':PyData},Den X.K H v d->Den X.K H v d'->d=d'
 |_,_,_,.non,h=>by cases h;rfl
 |_,_,_,.bl b,h=>by cases h;rfl
 |_,_,_,.int i,h=>by cases h;rfl
 |_,_,_,.str x,h=>by cases h;rfl
 |_,_,_,.tup hs hl,h=>by
  cases h with
  |tup hs' hl'=>
   have e:=I.tuple_inj hs hs';subst e;rw[b5k I hl hl']
theorem b5k(I:Inv X pj σ H s):∀{v:List V}{d d':List PyData},DenL X.K H v d->DenL X.K H v d'->d=d'
 |_,_,_,.nil,h=>by cases h;rfl
 |_,_,_,.cons h l,h'=>by
  cases h' with
  |cons g m=>rw[c4q I h g,b5k I l m]
end
theorem b9p(I:Inv X pj σ H s){A:Around}(hs:SqT X.K H a us)(hs':SqT X.K H b us')(hab:a≠b)(e:Nat->Bool)(hu:A.units+1<cLine)
  (items:∀j x x' w w',us[j]? =some x->us'[j]? =some x'->RelV x w->RelV x' w'->SeqAt.EqAt A.in1 s w w' (e j)):SeqAt.EqAt A s (.ref a) (.ref b) ((List.range (min us.length us'.length)).all e&&(us.length==us'.length)):=by
 obtain⟨its,rv,p,_⟩:=I.tuple hs;obtain⟨its',rv',p',_⟩:=I.tuple hs';have l1:=rv.length;have l2:=rv'.length
 have key:=SeqAt.RcAt.tuples (A:=A) (e:=e) (show s.heap.IsTuple a its.toArray from p) (show s.heap.IsTuple b its'.toArray from p') qo (λj h1 h2=>by
  have h1:j<its.length:=by simpa using h1
  have h2:j<its'.length:=by simpa using h2
  have x1:us[j]? =some us[j]:=Zj qo
  have x2:us'[j]? =some us'[j]:=Zj qo
  obtain⟨w1,y1,z1⟩:=rv.get x1;obtain⟨w2,y2,z2⟩:=rv'.get x2;have q1:its.toArray[j]=w1:=by
   have:=Zj h1;rw[y1]at this
   simpa using(Zw this).symm
  have q2:its'.toArray[j]=w2:=by
   have:=Zj h2;rw[y2]at this
   simpa using(Zw this).symm
  rw[q1,q2]
  exact items j _ _ _ _ x1 x2 z1 z2)
 rw[Zm,Zm,<-l1,<-l2]at key;exact Tq hab key
noncomputable def eT(t t':Trm):Nat->Bool
 |0=>match t,t' with| .num _,.num _=>true| .any _,.any _=>true| .app _ _,.app _ _=>true|_,_=>false
 |1=>match t,t' with| .num a,.num b=>decide (a=b)| .any x,.any y=>decide (x=y)| .app r _,.app q _=>decide (r=q)| .any x,.app q _=>decide (x=q)| .app r _,.any y=>decide (r=y)|_,_=>false
 |2=>match t,t' with| .app _ ks,.app _ ls=>eqbL ks ls|_,_=>true
 |_=>true
def lenT:Trm->Nat
 | .app _ _=>3
 |_=>2
theorem two_b(x:Bool):((true&&(x&&true))&&true)=x:=by cases x<;>rfl
theorem thr_b(x y:Bool):((true&&(x&&(y&&true)))&&true)=(x&&y):=by cases x<;>cases y<;>rfl
theorem c8q(t t':Trm):((List.range (min (lenT t) (lenT t'))).all (eT t t')&&(lenT t==lenT t'))=eqb t t':=by
 cases t<;>cases t'<;>first|rfl|exact two_b _|exact thr_b _ _
theorem d2j(h:t∈ks):t.size<=Trm.sizeL ks:=by
 obtain⟨a,b,rfl⟩:=Ts h;rw[Trm.sizeL_app,Trm.sizeL];omega
theorem c1s(I:Inv X pj σ H s)(n:Nat)(ih:∀(A:Around)(t t':Trm)(v v':V)(u u':Value),t.size<=n->A.units+2*n+4<cLine->Den X.K H v t.data->Den X.K H v' t'.data->RelV v u->RelV v' u'->SeqAt.EqAt A s u u' (eqb t t'))
  (A:Around)(t t':Trm)(h:Den X.K H (.ref a) t.data)(h':Den X.K H (.ref a') t'.data)(hz:t.size<=n+1)(hu:A.units+2*(n+1)+4<cLine):
  ∃us us',SqT X.K H a us/\SqT X.K H a' us'/\us.length=lenT t/\us'.length=lenT t'/\∀j x x' w w',us[j]? =some x->us'[j]? =some x'->RelV x w->RelV x' w'->SeqAt.EqAt A.in1 s w w' (eT t t' j):=by
 cases t with
 |num m=>
  obtain⟨a0,e0,hs⟩:=a2z h;cases e0;cases t' with
  |num m'=>
   obtain⟨a0',e0',hs'⟩:=a2z h';cases e0';refine⟨_,_,hs,hs',rfl,rfl,λj y y' w w' h1 h2 r1 r2=>?_⟩
   match j,h1,h2 with
    |0,h1,h2=>
     simp only[Zz,Yh]at h1 h2;subst h1 h2;have:=a2c (A:=A.in1) (s:=s) (a:=Sum.inr numS) (b:=Sum.inr numS) r1 r2;rw[show decide ((Sum.inr numS:Key)=Sum.inr numS)=true from qk]at this;exact this
    |1,h1,h2=>
     simp only[Y2,Zz,Yh]at h1 h2;subst h1 h2;have:=a2c (A:=A.in1) (s:=s) (a:=Sum.inl m) (b:=Sum.inl m') r1 r2;have e9:decide ((Sum.inl m:Key)=Sum.inl m')=decide (m=m'):=by
      refine W0.mpr ⟨λh=>?_,λh=>by rw[h]⟩
      injection h
     rw[e9]at this;exact this
    |j+2,h1,h2=>simp at h1
  |any x'=>
   obtain⟨a0',e0',hs'⟩:=a2t h';cases e0';refine⟨_,_,hs,hs',rfl,rfl,λj y y' w w' h1 h2 r1 r2=>?_⟩
   match j,h1,h2 with
    |0,h1,h2=>
     simp only[Zz,Yh]at h1 h2;subst h1 h2;have:=a2c (A:=A.in1) (s:=s) (a:=Sum.inr numS) (b:=Sum.inr anyS) r1 r2;rw[show decide ((Sum.inr numS:Key)=Sum.inr anyS)=false from qk]at this;exact this
    |1,h1,h2=>
     simp only[Y2,Zz,Yh]at h1 h2;subst h1 h2;have:=a2c (A:=A.in1) (s:=s) (a:=Sum.inl m) (b:=Sum.inr x') r1 r2;have e9:decide ((Sum.inl m:Key)=Sum.inr x')=false:=Z3 (λh=>by cases h);rw[e9]at this;exact this
    |j+2,h1,h2=>simp at h1
  |app sg' ks'=>
   obtain⟨a0',b',ku',e0',hs',hb',hk'⟩:=a1q h';cases e0';refine⟨_,_,hs,hs',rfl,rfl,λj y y' w w' h1 h2 r1 r2=>?_⟩
   match j,h1,h2 with
    |0,h1,h2=>
     simp only[Zz,Yh]at h1 h2;subst h1 h2;have:=a2c (A:=A.in1) (s:=s) (a:=Sum.inr numS) (b:=Sum.inr appS) r1 r2;rw[show decide ((Sum.inr numS:Key)=Sum.inr appS)=false from qk]at this;exact this
    |1,h1,h2=>
     simp only[Y2,Zz,Yh]at h1 h2;subst h1 h2;have:=a2c (A:=A.in1) (s:=s) (a:=Sum.inl m) (b:=Sum.inr sg') r1 r2;have e9:decide ((Sum.inl m:Key)=Sum.inr sg')=false:=Z3 (λh=>by cases h);rw[e9]at this;exact this
    |j+2,h1,h2=>simp at h1
 |any x=>
  obtain⟨a0,e0,hs⟩:=a2t h;cases e0;cases t' with
  |num m'=>
   obtain⟨a0',e0',hs'⟩:=a2z h';cases e0';refine⟨_,_,hs,hs',rfl,rfl,λj y y' w w' h1 h2 r1 r2=>?_⟩
   match j,h1,h2 with
    |0,h1,h2=>
     simp only[Zz,Yh]at h1 h2;subst h1 h2;have:=a2c (A:=A.in1) (s:=s) (a:=Sum.inr anyS) (b:=Sum.inr numS) r1 r2;rw[show decide ((Sum.inr anyS:Key)=Sum.inr numS)=false from qk]at this;exact this
    |1,h1,h2=>
     simp only[Y2,Zz,Yh]at h1 h2;subst h1 h2;have:=a2c (A:=A.in1) (s:=s) (a:=Sum.inr x) (b:=Sum.inl m') r1 r2;have e9:decide ((Sum.inr x:Key)=Sum.inl m')=false:=Z3 (λh=>by cases h);rw[e9]at this;exact this
    |j+2,h1,h2=>simp at h1
  |any x'=>
   obtain⟨a0',e0',hs'⟩:=a2t h';cases e0';refine⟨_,_,hs,hs',rfl,rfl,λj y y' w w' h1 h2 r1 r2=>?_⟩
   match j,h1,h2 with
    |0,h1,h2=>
     simp only[Zz,Yh]at h1 h2;subst h1 h2;have:=a2c (A:=A.in1) (s:=s) (a:=Sum.inr anyS) (b:=Sum.inr anyS) r1 r2;rw[show decide ((Sum.inr anyS:Key)=Sum.inr anyS)=true from qk]at this;exact this
    |1,h1,h2=>
     simp only[Y2,Zz,Yh]at h1 h2;subst h1 h2;have:=a2c (A:=A.in1) (s:=s) (a:=Sum.inr x) (b:=Sum.inr x') r1 r2;have e9:decide ((Sum.inr x:Key)=Sum.inr x')=decide (x=x'):=by
      refine W0.mpr ⟨λh=>?_,λh=>by rw[h]⟩
      injection h
     rw[e9]at this;exact this
    |j+2,h1,h2=>simp at h1
  |app sg' ks'=>
   obtain⟨a0',b',ku',e0',hs',hb',hk'⟩:=a1q h';cases e0';refine⟨_,_,hs,hs',rfl,rfl,λj y y' w w' h1 h2 r1 r2=>?_⟩
   match j,h1,h2 with
    |0,h1,h2=>
     simp only[Zz,Yh]at h1 h2;subst h1 h2;have:=a2c (A:=A.in1) (s:=s) (a:=Sum.inr anyS) (b:=Sum.inr appS) r1 r2;rw[show decide ((Sum.inr anyS:Key)=Sum.inr appS)=false from qk]at this;exact this
    |1,h1,h2=>
     simp only[Y2,Zz,Yh]at h1 h2;subst h1 h2;have:=a2c (A:=A.in1) (s:=s) (a:=Sum.inr x) (b:=Sum.inr sg') r1 r2;have e9:decide ((Sum.inr x:Key)=Sum.inr sg')=decide (x=sg'):=by
      refine W0.mpr ⟨λh=>?_,λh=>by rw[h]⟩
      injection h
     rw[e9]at this;exact this
    |j+2,h1,h2=>simp at h1
 |app sg ks=>
  obtain⟨a0,b,ku,e0,hs,hb,hk⟩:=a1q h;cases e0;cases t' with
  |num m'=>
   obtain⟨a0',e0',hs'⟩:=a2z h';cases e0';refine⟨_,_,hs,hs',rfl,rfl,λj y y' w w' h1 h2 r1 r2=>?_⟩
   match j,h1,h2 with
    |0,h1,h2=>
     simp only[Zz,Yh]at h1 h2;subst h1 h2;have:=a2c (A:=A.in1) (s:=s) (a:=Sum.inr appS) (b:=Sum.inr numS) r1 r2;rw[show decide ((Sum.inr appS:Key)=Sum.inr numS)=false from qk]at this;exact this
    |1,h1,h2=>
     simp only[Y2,Zz,Yh]at h1 h2;subst h1 h2;have:=a2c (A:=A.in1) (s:=s) (a:=Sum.inr sg) (b:=Sum.inl m') r1 r2;have e9:decide ((Sum.inr sg:Key)=Sum.inl m')=false:=Z3 (λh=>by cases h);rw[e9]at this;exact this
    |j+2,h1,h2=>simp at h2
  |any x'=>
   obtain⟨a0',e0',hs'⟩:=a2t h';cases e0';refine⟨_,_,hs,hs',rfl,rfl,λj y y' w w' h1 h2 r1 r2=>?_⟩
   match j,h1,h2 with
    |0,h1,h2=>
     simp only[Zz,Yh]at h1 h2;subst h1 h2;have:=a2c (A:=A.in1) (s:=s) (a:=Sum.inr appS) (b:=Sum.inr anyS) r1 r2;rw[show decide ((Sum.inr appS:Key)=Sum.inr anyS)=false from qk]at this;exact this
    |1,h1,h2=>
     simp only[Y2,Zz,Yh]at h1 h2;subst h1 h2;have:=a2c (A:=A.in1) (s:=s) (a:=Sum.inr sg) (b:=Sum.inr x') r1 r2;have e9:decide ((Sum.inr sg:Key)=Sum.inr x')=decide (sg=x'):=by
      refine W0.mpr ⟨λh=>?_,λh=>by rw[h]⟩
      injection h
     rw[e9]at this;exact this
    |j+2,h1,h2=>simp at h2
  |app sg' ks'=>
   obtain⟨a0',b',ku',e0',hs',hb',hk'⟩:=a1q h';cases e0';refine⟨_,_,hs,hs',rfl,rfl,λj y y' w w' h1 h2 r1 r2=>?_⟩
   match j,h1,h2 with
    |0,h1,h2=>
     simp only[Zz,Yh]at h1 h2;subst h1 h2;have:=a2c (A:=A.in1) (s:=s) (a:=Sum.inr appS) (b:=Sum.inr appS) r1 r2;rw[show decide ((Sum.inr appS:Key)=Sum.inr appS)=true from qk]at this;exact this
    |1,h1,h2=>
     simp only[Y2,Zz,Yh]at h1 h2;subst h1 h2;have:=a2c (A:=A.in1) (s:=s) (a:=Sum.inr sg) (b:=Sum.inr sg') r1 r2;have e9:decide ((Sum.inr sg:Key)=Sum.inr sg')=decide (sg=sg'):=by
      refine W0.mpr ⟨λh=>?_,λh=>by rw[h]⟩
      injection h
     rw[e9]at this;exact this
    |2,h1,h2=>
     simp only[Y2,Zz,Yh]at h1 h2;subst h1 h2;obtain rfl:w=Value.ref b:=r1;obtain rfl:w'=Value.ref b':=r2
     show SeqAt.EqAt A.in1 s (.ref b) (.ref b') (eqbL ks ks')
     by_cases hbb:b=b'
     ·subst hbb;have e1:=I.tuple_inj hb hb';subst e1;have e2:=Trm.dataL_inj (b5k I hk hk');subst e2;rw[(a8n ks ks).mpr rfl];exact Wc _
     ·have l1:=hk.length;have l2:=hk'.length;rw[Trm.dataL_map,length_map]at l1 l2
      have:=b9p I (A:=A.in1) hb hb' hbb (λj=>match ks[j]?,ks'[j]? with|some a,some b=>eqb a b|_,_=>true) (by show A.units+1+1<cLine;omega) (λj y y' z z' g1 g2 q1 q2=>by
       obtain⟨d,e1,d1⟩:=hk.get g1;obtain⟨d',e2,d2⟩:=hk'.get g2;rw[Trm.dataL_map,Yk]at e1 e2;cases f1:ks[j]? with
       |none=>rw[f1]at e1;cases e1
       |some k1=>
        cases f2:ks'[j]? with
        |none=>rw[f2]at e2;cases e2
        |some k2=>
         rw[f1]at e1;rw[f2]at e2;cases e1;cases e2;have hs1:=d2j (Y4 f1);simp only[Trm.size]at hz
         exact ih A.in1.in1 k1 k2 y y' z z' qo (by show A.units+1+1+2*n+4<cLine;omega) d1 d2 q1 q2)
      rw[l1,l2,c1r]at this;exact this
    |j+3,h1,h2=>simp at h1
theorem d2k(I:Inv X pj σ H s):∀(n:Nat)(A:Around)(t t':Trm)(v v':V)(u u':Value),t.size<=n->A.units+2*n+4<cLine->Den X.K H v t.data->Den X.K H v' t'.data->RelV v u->RelV v' u'->SeqAt.EqAt A s u u' (eqb t t'):=by
 intro n
 induction n with
 |zero=>
  intro A t t' v v' u u' hz;have:=t.size_pos;omega
 |succ n ih=>
  intro A t t' v v' u u' hz hu h h' r r';obtain⟨a,_,_,rfl,_⟩:=b1l h;obtain⟨a',_,_,rfl,_⟩:=b1l h';obtain rfl:u=Value.ref a:=r;obtain rfl:u'=Value.ref a':=r'
  by_cases hab:a=a'
  ·subst hab;have e1:=Trm.data_inj (c4q I h h');rw[e1,d2i];exact Wc _
  obtain⟨us,us',hs,hs',l1,l2,it⟩:=c1s I n ih A t t' h h' hz hu;have key:=b9p I (A:=A) hs hs' hab (eT t t') qo it;rw[l1,l2,c8q]at key;exact key
end
section
variable{X:Cx}
def mEqT(K:Frag)(n:Bool):R2:=λx y H Q=>∃(t t':Trm),Den K H x t.data/\Den K H y t'.data/\t.size<=70/\Q (.bl (n^^eqb t t')) H
theorem c8r(K:Frag)(hK:X.K=K)(hu:X.A.units+150<cLine):OpR X (compareOp .Eq) (mEqT K false):=by
 subst hK;intro pj s σ H x y v u Q I rx ry h;obtain⟨t,t',h,h',hz,k⟩:=h;obtain⟨a,_,_,rfl,_⟩:=b1l h;obtain⟨a',_,_,rfl,_⟩:=b1l h';cases rx;cases ry;obtain⟨us,us',hs,hs',l1,l2,it⟩:=c1s I 69 (d2k I 69) X.A t t' h h' qo qo;obtain⟨its,rv,p1,_⟩:=I.tuple hs;obtain⟨its',rv',p2,_⟩:=I.tuple hs';have m1:=rv.length;have m2:=rv'.length;refine Sc (e:=eT t t') (show s.heap.IsTuple a its.toArray from p1) (show s.heap.IsTuple a' its'.toArray from p2) qo (λj h1 h2=>?_) ?_
 ·have h1:j<its.length:=by simpa using h1
  have h2:j<its'.length:=by simpa using h2
  have x1:us[j]? =some us[j]:=Zj qo
  have x2:us'[j]? =some us'[j]:=Zj qo
  obtain⟨w1,y1,z1⟩:=rv.get x1;obtain⟨w2,y2,z2⟩:=rv'.get x2;have q1:its.toArray[j]=w1:=by
   have:=Zj h1;rw[y1]at this
   simpa using(Zw this).symm
  have q2:its'.toArray[j]=w2:=by
   have:=Zj h2;rw[y2]at this
   simpa using(Zw this).symm
  rw[q1,q2];exact it j _ _ _ _ x1 x2 z1 z2
 ·rw[Zm,Zm,<-m1,<-m2,l1,l2,c8q];rw[Zt]at k;exact⟨.bl _,H,I,rfl,k⟩
theorem c8s{K:Frag}{H:Hp}{Q:VK}{x y:V}{n:Bool}{t t':Trm}(h:Den K H x t.data)(h':Den K H y t'.data)(hz:t.size<=70)(k:Q (.bl (n^^eqb t t')) H):mEqT K n x y H Q:=⟨t,t',h,h',hz,k⟩
end
section
variable{prog:Program}{w:World}{A:Around}{E:Value->Shared->Prop}{s:Shared}
abbrev a6d(h:Heap)(z TI TO:Addr)(f0:Value)(f1:Bool):Prop:=
 h.get? z=some { cls:=.type "zip",dict:=none,data:=.fields #[f0,.bool f1,.bool false,.ref TI,.ref TO],slots:=#[]}
end
theorem c5r:typeLookup (.type "zip") "__len__"=pure none:=by rw[Xu,Y5];kernel_rfl
theorem c3j:typeLookup (.type "zip") "__length_hint__"=pure none:=by rw[Xu,Y5];kernel_rfl
abbrev ztH1(h:Heap)(l1:Addr):Heap:=h.push { cls:=.type "tuple_iterator",data:=.fields #[.ref l1,.int 0 0]}
abbrev ztH2(h:Heap)(l1 l2:Addr):Heap:=(ztH1 h l1).push { cls:=.type "tuple_iterator",data:=.fields #[.ref l2,.int 0 0]}
abbrev ztH3(h:Heap)(l1 l2:Addr):Heap:=(ztH2 h l1 l2).push { cls:=.type "tuple",data:=.seq #[.ref h.objs.size,.ref (ztH1 h l1).objs.size]}
noncomputable abbrev ztH4(h:Heap)(l1 l2:Addr):Heap:=(ztH3 h l1 l2).push { cls:=.type "tuple",data:=.seq #[.none,.none]}
noncomputable abbrev ztH5(h:Heap)(l1 l2:Addr):Heap:=(ztH4 h l1 l2).push { cls:=.type "zip",data:=.fields #[.none,.bool false,.bool false,.ref (ztH2 h l1 l2).objs.size,.ref (ztH3 h l1 l2).objs.size]}
section
variable{prog:Program}{w:World}{A:Around}{E:Value->Shared->Prop}{s:Shared}
def ZS(h:Heap)(z TI TO i1 i2 t1 t2 S:Addr)(i:Nat):Prop:=
 ((IsZip h z TI TO .none/\∃a b,IsPair h TO a b)\/∃(T:Addr)(f1:Bool)(o:Obj),a6d h z TI TO (rawInt T) f1/\h.get? T=some o/\T≠z/\T≠TO/\T≠i1/\T≠i2/\T≠S)/\IsPair h TI (.ref i1) (.ref i2)/\h.IsTupleIter i1 t1 i/\h.IsTupleIter i2 t2 i
end
def b0j(H:Hp)(qs:List Addr)(xs ys:List V):Prop:=∀(j:Nat)(q:Addr)(x y:V),qs[j]? =some q->xs[j]? =some x->ys[j]? =some y->H q=some (.tup [x,y])
section
variable{X:Cx}
def mNeKs(K:W.Frag):R2:=λx y H Q=>∃(p:Addr)(k1:List Key),x=.ref p/\SqT K H p (k1.map kV)/\((y=.non/\Q (.bl true) H)\/∃(q:Addr)(k2:List Key),y=.ref q/\SqT K H q (k2.map kV)/\Q (.bl (!decide (k1=k2))) H)
theorem ko_neKs(K:FG)(hK:X.K=K)(hu:X.A.units+150<cLine):OpR X (compareOp .NotEq) (mNeKs K):=by
 subst hK;intro pj s σ H x y v u Q I rx ry h;obtain⟨p,k1,rfl,hp,h⟩:=h;cases rx;obtain⟨its,rv,p1,_⟩:=I.tuple hp;rcases h with⟨rfl,k⟩|⟨q,k2,rfl,hq,k⟩
 ·cases ry;exact SeqAt.RcNeAt.tuple_none (show s.heap.IsTuple p its.toArray from p1) qo X.prog X.w _ _ ⟨.bl true,H,I,rfl,k⟩
 cases ry;obtain⟨its',rv',p2,_⟩:=I.tuple hq;have l1:=rv.length;have l2:=rv'.length;rw[length_map]at l1 l2;refine Tj (e:=λj=>decide (k1[j]? =k2[j]?)) (show s.heap.IsTuple p its.toArray from p1) (show s.heap.IsTuple q its'.toArray from p2) qo (λj h1 h2=>?_) X.prog X.w _ _ ?_
 ·have g1:j<its.length:=by simpa using h1
  have g2:j<its'.length:=by simpa using h2
  have j1:j<k1.length:=by omega
  have j2:j<k2.length:=by omega
  obtain⟨w1,y1,z1⟩:=rv.get (show(k1.map kV)[j]? =some (kV k1[j]) by rw[Yk,Zj j1];rfl);obtain⟨w2,y2,z2⟩:=rv'.get (show(k2.map kV)[j]? =some (kV k2[j]) by rw[Yk,Zj j2];rfl);have q1:its.toArray[j]=w1:=by
   have:=Zj g1;rw[y1]at this
   simpa using(Zw this).symm
  have q2:its'.toArray[j]=w2:=by
   have:=Zj g2;rw[y2]at this
   simpa using(Zw this).symm
  rw[q1,q2];have e0:decide (k1[j]? =k2[j]?)=decide (k1[j]=k2[j]):=by rw[Zj j1,Zj j2];exact W0.mpr ⟨λh=>Zw h,λh=>by rw[h]⟩
  rw[e0];exact a2c z1 z2
 ·rw[Zm,Zm,<-l1,<-l2,all_eq];exact⟨.bl _,H,I,rfl,k⟩
end
theorem c5s:typeLookup (.type "list_reverseiterator") "__len__"=pure none:=by rw[Xu,Y5];kernel_rfl
theorem d2l:typeLookup (.type "list_reverseiterator") "__length_hint__"=pure (some (.builtin "list_reverseiterator.__length_hint__")):=by rw[Xu,Y5];kernel_rfl
theorem c8t:typeLookup (.type "reversed") "__len__"=pure none:=by rw[Xu,Y5];kernel_rfl
theorem b5l:Manifest.owners.lookup (String.ofList ['d','e','s','r','e','v','e','r'].reverse)=some Manifest.sig_reversed:=by kernel_rfl
theorem a4t:Slot "reversed" "__next__" "reversed.__next__":=
 .of (owner:="reversed") (n:="__next__") (by rw[Xu,Y5];kernel_rfl) qk qk qk
  (by first|exact .inl (by decide+kernel)|exact .inr qk) (by rw[Wz];kernel_rfl)
theorem b2h:entryFor table "reversed.__next__"=some Builtin.«reversed.__next__»:=entryFor_of_tree (by kernel_rfl)
theorem b0k(a:Value):argsOk "reversed.__next__" ⟨[a],[]⟩:=by
 unfold argsOk;rw[signature?_of (id:="reversed.__next__") (n:=['_','_','t','x','e','n','_','_']) (o:=['d','e','s','r','e','v','e','r']) (by kernel_rfl) b5l];kernel_rfl
theorem b2r:Slot "reversed" "__iter__" "reversed.__iter__":=
 .of (owner:="reversed") (n:="__iter__") (by rw[Xu,Y5];kernel_rfl) qk qk qk
  (by first|exact .inl (by decide+kernel)|exact .inr qk) (by rw[Wz];kernel_rfl)
theorem b8g(a:Value):argsOk "reversed.__iter__" ⟨[a],[]⟩:=by
 unfold argsOk;rw[signature?_of (id:="reversed.__iter__") (n:=['_','_','r','e','t','i','_','_']) (o:=['d','e','s','r','e','v','e','r']) (by kernel_rfl) b5l];kernel_rfl
theorem c0l:entryFor table "reversed.__iter__"=some Builtin.«dict_keyiterator.__iter__»:=
 entryFor_alias (id':="dict_keyiterator.__iter__") (by kernel_rfl) (by first|rfl|decide+kernel| (unfold String.splitOn;simp+decide [String.splitOnAux])) qk (by kernel_rfl)
theorem a8o:Slot "reversed" "__length_hint__" "reversed.__length_hint__":=
 .of (owner:="reversed") (n:="__length_hint__") (by rw[Xu,Y5];kernel_rfl) qk qk qk
  (by first|exact .inl (by decide+kernel)|exact .inr qk) (by rw[Wz];kernel_rfl)
theorem c0m:entryFor table "reversed.__length_hint__"=some Builtin.«reversed.__length_hint__»:=entryFor_of_tree (by kernel_rfl)
theorem b8h(a:Value):argsOk "reversed.__length_hint__" ⟨[a],[]⟩:=by
 unfold argsOk;rw[signature?_of (id:="reversed.__length_hint__") (n:="__length_hint__".toList.reverse) (o:=['d','e','s','r','e','v','e','r']) (by kernel_rfl) b5l];kernel_rfl
theorem c1t:Slot "reversed" "__init__" "object.__init__":=
 .of (owner:="object") (n:="__init__") (by rw[Xu,Y5];kernel_rfl) qk qk qk
  (by first|exact .inl (by decide+kernel)|exact .inr qk) (by rw[Wz];kernel_rfl)
theorem c8u:TypeCalled "reversed" "reversed.__new__" "object.__init__":=
 ⟨qk,qk,⟨_,_,F.mro_reversed⟩,madeBy_type F.mro_reversed F.lookup_reversed_new qk,qk,by rw[Wz];kernel_rfl,c1t⟩
theorem c5t:typeLookup (.type "tuple") "__reversed__"=pure none:=by rw[Xu,Y5];kernel_rfl
def IsRv(h:Heap)(a t:Addr)(i:Int):Prop:=∃o,h.get? a=some o/\o.cls=.type "reversed"/\o.data=.fields #[.ref t,rawInt i]
theorem IsRv.typeIs{s:Shared}(x:IsRv s.heap a t i):s.TypeIs (.ref a) "reversed":=let⟨o,ho,hc,_⟩:=x;⟨o,ho,hc⟩
theorem IsRv.at{h h':Heap}(x:IsRv h a l i)(e:∀o,h.get? a=some o->h'.get? a=some o):IsRv h' a l i:=let⟨o,ho,r⟩:=x;⟨o,e _ ho,r⟩
def b6w(t:Addr)(i:Int):Obj:={ cls:=.type "reversed",data:=.fields #[.ref t,rawInt i]}
theorem c8v(t:Addr)(items:Array Value)(hn:(items.size:Int)<2^63):
  Meets (Builtin.«reversed.__new__» ⟨[.type "reversed",.ref t],[]⟩) (λ_ R s=>IsTup s.heap t items/\∀tk,R (.ok (.ret (.ref s.heap.objs.size))) { s with heap:=s.heap.push (b6w t ((items.size:Int)-1)),toks:=tk}):=
 .of_wp λprog w A R s h=>by
  obtain⟨ht,h⟩:=h;unfold Builtin.«reversed.__new__»;refine Zi (Vr (newClass_reversed _) ?_)
  try dsimp only
  refine Zi (Vr (a:=()) (by first|rfl|kernel_rfl) ?_);refine Zi (Vr (a:=()) (by first|rfl|kernel_rfl) ?_)
  try dsimp only
  refine Zi (Y8 ht.typeIs c5t ?_)
  try dsimp only
  refine Zi ?_
  show wpAny _ _ (isInstance (Value.ref t) (.type "dict")>>=_) _ _ _
  refine Zi (Ve (T:="tuple") (b:=false) ht.typeIs (by rw[Wz];kernel_rfl) ?_);refine Y6 (λhab=>absurd hab qd) (λ_=>?_);refine Zi (Y8 ht.typeIs Tn.lookup ?_);refine Y6 (λ_=>?_) (λhab=>absurd qk hab);refine Zp ?_;refine Y6 (λhab=>absurd hab qd) (λ_=>?_);refine Zi (len_tuple ht hn ?_);refine Zi (m:=asInt? _) (Zp ?_);refine Zi ?_
  show wpAny _ _ (newObj (.type "reversed") (.fields #[.ref t,rawInt ((items.size:Int)-1)])) _ _ _
  refine Wo (Zp ⟨_,rfl,?_⟩);exact h _
section
variable{prog:Program}{w:World}{A:Around}{E:Value->Shared->Prop}{s:Shared}
theorem b4l(ht:IsTup s.heap t items)(hn:(items.size:Int)<2^63)
  (h:∀tk,Q (.ref s.heap.objs.size) { s with heap:=s.heap.push (b6w t ((items.size:Int)-1)),toks:=tk}):wpAny (model prog w) A (call (.type "reversed") [.ref t]) Q E s:=by
 refine callType_new c8u qd (F.typeCall_reversed_1 _) (F.newCall_reversed_1 _) (λobj=>F.args_object_init_2 obj _) F.entry_reversed_new (c8v t items hn) ⟨ht,λtk=>?_⟩;exact⟨⟨_,Zv _ rfl,rfl⟩,h tk⟩
theorem c1u{it t:Addr}{i:Nat}{items:Array Value}{x:Value}{Q:Option Value->Shared->Prop}(hit:IsRv s.heap it t (i:Int))(ht:IsTup s.heap t items)(hi:(i:Int)<2^63)(hx:items[i]? =some x)
  (hQ:∀h' tk,IsRv h' it t ((i:Int)-1)->Heap.SameBut it s.heap h'->Q (some x) { s with heap:=h',toks:=tk}):wpAny (model prog w) A (pyNext (.ref it)) Q E s:=by
 obtain⟨o,ho,hc,hd⟩:=id hit;unfold pyNext
 refine Zi (W8 (wpAny_callSpecial?_slot (name:=ofString "__next__") hit.typeIs a4t
  (Xk a4t hit.typeIs b2h ?_ (b0k _))))
 unfold Builtin.«reversed.__next__»;refine Zi (Vr (a:=(Value.ref it,[])) rfl ?_)
 try dsimp only
 refine Zi (Yr ho hd (x:=.ref t) rfl ?_);refine Zi (Yr ho hd (x:=rawInt (i:Int)) rfl ?_)
 show wpAny _ _ (if(i:Int)<0 then _ else _) _ _ s
 rw[if_neg qo];refine Zi (Y8 ht.typeIs Tn.lookup ?_);refine Y6 (λhab=>absurd hab qd) (λ_=>?_);refine Zi (wpAny_mkInt ?_);have hlt:i<items.size:=by
  rcases Nat.lt_or_ge i items.size with z|z
  ·exact z
  ·rw[Array.getElem?_eq_none z]at hx;cases hx
 have hj:seqIndex? (i:Int) items.size=some i:=by
  unfold seqIndex?
  simp
  omega
 refine Zi (W8 (getItem_tuple (s:={ s with toks:=s.toks+1}) (j:=i) ht qo hi hj hx ?_));refine Zi (Yr ho hd (x:=rawInt (i:Int)) rfl ?_)
 show wpAny _ _ (setField (.ref it) 1 (rawInt ((i:Int)-1))>>=λ_=>ret x) _ _ _
 refine Zi (Ww ho hd qz ?_);refine Zp ⟨x,rfl,Zp (hQ _ _ ?_ (Vh ..))⟩
 exact⟨_,Ym _ ho (Wj (Vm hd _)),(T0 ..).trans hc,by
  rw[Vm hd];simp⟩
theorem c3k(hh:A.handled=none)(hit:IsRv s.heap it t (-1))
  (hQ:∀h',Heap.ExtBut it s.heap h'->Q none { s with heap:=h'}):wpAny (model prog w) A (pyNext (.ref it)) Q E s:=by
 obtain⟨o,ho,hc,hd⟩:=id hit;unfold pyNext
 refine Zi (W8 (wpAny_callSpecial?_slot (name:=ofString "__next__") hit.typeIs a4t
  (Xk a4t hit.typeIs b2h ?_ (b0k _))))
 unfold Builtin.«reversed.__next__»;refine Zi (Vr (a:=(Value.ref it,[])) rfl ?_)
 try dsimp only
 refine Zi (Yr ho hd (x:=.ref t) rfl ?_);refine Zi (Yr ho hd (x:=rawInt (-1)) rfl ?_)
 show wpAny _ _ (if(-1:Int)<0 then _ else _) _ _ s
 rw[if_pos qd];refine Zi (Vd ?_);refine Zi ?_
 show wpAny _ _ (setField (.ref it) 1 (rawInt (-1))>>=λ_=>setField (.ref it) 0 .none) _ _ _
 refine Zi (Ww ho hd qz ?_);have ho1:=Ym (Obj.mapFields (·.setIfInBounds 1 (rawInt (-1)))) ho (Wj (Vm hd _));have hd1:(Obj.mapFields (λx=>x.setIfInBounds 1 (rawInt (-1))) o).data=.fields #[.ref t,rawInt (-1)]:=by rw[Vm hd];simp
 refine Ww ho1 hd1 qz ?_;refine Zi ?_
 show wpAny _ _ (newExc (.type "StopIteration") []>>=_) _ _ _
 refine Zi ?_;simp only[newExc,newTuple];refine Zi (Wo ?_ (by size_fits));refine Zi (m:=firstArgMember _ _) (Vr (a:=Value.none) (by first|rfl| (simp only[firstArgMember];rfl)) ?_);refine Wo ?_ (by size_fits);simp only[raiseNew];refine Zi (wpAny_handled ?_)
 first|rw[show A.in1.handled=none from hh]|rw[hh]
 refine Zi (Zp (wpAny_throw ?_));refine Zi (Ve (T:="StopIteration") (b:=true) ⟨_,Zv _ rfl,rfl⟩ Sn ?_);refine Zp (hQ _ (λb u hb e=>?_));exact Zk _ (Zk _ ((Z9 _ _ (Ne.symm hb)).trans ((Z9 _ _ (Ne.symm hb)).trans e)))
theorem iter_rv(hit:IsRv s.heap it t i)(h:Q (.ref it) s):wpAny (model prog w) A (pyIter (.ref it)) Q E s:=by
 refine wpAny_pyIter_slot hit.typeIs b2r (Xk b2r hit.typeIs c0l ?_ (b8g _))
 show wpAny _ _ (ret (.ref it)) _ _ s
 exact Zp ⟨_,rfl,"reversed",_,hit.typeIs,a4t.lookup,h⟩
theorem d2m(hT:s.TypeIs (.ref r) "list_reverseiterator")(h:Q false s):wpAny (model prog w) A (Builtin.List.listLengthHint (.ref r)) Q E s:=by
 unfold Builtin.List.listLengthHint;refine Zi (Y8 hT c5s ?_)
 show wpAny _ _ (specialOf (Value.ref r) (ofString "__length_hint__")>>=_) _ _ _
 refine Zi (Y8 hT d2l ?_);generalize hid:("list_reverseiterator.__length_hint__":String)=id0
 wp_delta
 rw[show splitId id0=some ("list_reverseiterator","__length_hint__")from by subst hid;decide+kernel];subst hid;refine Zi (Ve (T:="list_reverseiterator") (b:=true) hT (by rw[Wz];kernel_rfl) ?_);refine Y6 (λhab=>absurd hab qd) (λ_=>?_);refine Y6 (λ_=>?_) (λhab=>absurd qk hab);refine Y6 (λhab=>absurd hab qk) (λ_=>?_);exact Zp h
theorem hint_rv(hit:IsRv s.heap r t i)(ht:IsTup s.heap t items)(hi:i=(items.size:Int)-1)(hn:items.size<=2^24)(h:∀b tk,Q b { s with toks:=tk}):wpAny (model prog w) A (Builtin.List.listLengthHint (.ref r)) Q E s:=by
 have hT:=hit.typeIs;obtain⟨o,ho,hc,hd⟩:=id hit;unfold Builtin.List.listLengthHint;refine Zi (Y8 hT c8t ?_)
 show wpAny _ _ (specialOf (Value.ref r) (ofString "__length_hint__")>>=_) _ _ _
 refine Zi (Y8 hT a8o.lookup ?_);generalize hid:("reversed.__length_hint__":String)=id0
 wp_delta
 rw[show splitId id0=some ("reversed","__length_hint__")from by subst hid;decide+kernel];subst hid;refine Zi (Ve (T:="reversed") (b:=true) hT (by rw[Wz];kernel_rfl) ?_);refine Y6 (λhab=>absurd hab qd) (λ_=>?_);refine Y6 (λhab=>absurd hab qk) (λ_=>?_);refine Zi (Vd ?_);refine Zi (Vr (a8o.bind _) ?_);refine Zi (W8 (Xk a8o hT c0m ?_ (b8h _)));unfold Builtin.«reversed.__length_hint__»;refine Zi (Vr (a:=Value.ref r) rfl ?_);refine Zi (Yr ho hd (x:=.ref t) rfl ?_);refine Y6 (λhab=>absurd hab Zr) (λ_=>?_);refine Zi (len_tuple ht qo ?_);refine Zi (m:=asInt? _) (Zp ?_);refine Zi (Yr ho hd (x:=rawInt i) rfl ?_)
 show wpAny _ _ (if(items.size:Int)<i+1 then _ else _) _ _ _
 rw[if_neg qo];refine Zi (wpAny_mkInt (Zp ⟨_,rfl,?_⟩));refine Zi (m:=asInt? _) (Zp ?_);have e1:Builtin.List.listFitsIndex (i+1)=true:=by simp[Builtin.List.listFitsIndex];omega
 have e2:Builtin.List.listTooLong (i+1).toNat=false:=by simp[Builtin.List.listTooLong,Y3];omega
 refine Y6 (λhab=>absurd hab (by rw[e1];decide)) (λ_=>?_);refine Y6 (λhab=>absurd hab qo) (λ_=>?_);refine Y6 (λhab=>absurd hab (by rw[e2];decide)) (λ_=>?_);exact Zp (h _ _)
theorem d2n(hh:A.handled=none)(I t:Addr)(hne:t≠I)(items:Array Value)(hn:items.size<=2^24):
  Walks prog w A I [I,t] [I] items.size (λi v=>items[items.size-1-i]? =some v) (λi h=>i<=items.size/\IsRv h I t ((items.size:Int)-1-(i:Int))/\IsTup h t items) where
 sub:=λb hb=>by simp at hb;simp[hb]
 frame:=λ_ _ _ x hk=>⟨x.1,x.2.1.at λo e=>hk I qz o e,let⟨o,ho,r⟩:=x.2.2;⟨o,hk t qz o ho,r⟩⟩
 item:=λi s Q E hi x hQ=>by
  have e:(items.size:Int)-1-(i:Int)=((items.size-1-i:Nat):Int):=by omega
  have hit:=x.2.1;rw[e]at hit;have hx:items[items.size-1-i]? =some (items[items.size-1-i]'(by omega)):=Vg qo
  refine c1u hit x.2.2 qo hx λh' tk hit' hs'=>?_
  have e2:((items.size-1-i:Nat):Int)-1=(items.size:Int)-1-((i+1:Nat):Int):=by omega
  rw[e2]at hit';exact hQ _ h' tk hx ⟨hi,hit',let⟨o,ho,r⟩:=x.2.2;⟨o,(hs'.2 t hne).trans ho,r⟩⟩ λb o hb eo=>hs'.extBut b o (λh=>hb (by simp[h])) eo
 done:=λs Q E x hQ=>by
  have e:(items.size:Int)-1-(items.size:Int)= -1:=by omega
  have hit:=x.2.1;rw[e]at hit;exact c3k hh hit λh' he'=>hQ h' s.toks λb o hb eo=>he' b o (λh=>hb (by simp[h])) eo
 self:=λ_ _ _ _ x hQ=>iter_rv x.2.1 hQ
theorem b2s{Q:Value->Shared->Prop}{fp wr:List Addr}{P:Nat->Value->Prop}{St:Nat->Heap->Prop}(W:Walks prog w A.in1.in1 I fp wr n P St)(hn:n<=sizeLine)
  (hT:∀(s':Shared),St 0 s'.heap->s'.TypeIs (.ref I) T)(h2:(Value.type T==Value.type "list")=false)(h3:(Value.type T==Value.type "tuple")=false)
  (hint:∀{A':Around}{E':Value->Shared->Prop}(s':Shared)(Q':Bool->Shared->Prop),St 0 s'.heap->(∀b tk,Q' b { s' with toks:=tk})->wpAny (model prog w) A' (Builtin.List.listLengthHint (.ref I)) Q' E' s')
  (hst:St 0 s.heap)(hfp:∀b∈fp,b<s.heap.objs.size)(hI:I∈fp)
  (hQ:∀h' tk acc' c',(∀b o,b∉wr->s.heap.get? b=some o->h'.get? b=some o)->
   h'.get? s.heap.objs.size=some { cls:=.type "list",dict:=none,data:=.seq acc' c',slots:=#[]}->ItemsOf P acc' n->Q (.ref s.heap.objs.size) { s with heap:=h',toks:=tk}):
  wpAny (model prog w) A (call (.type "list") [.ref I]) Q E s:=by
 have hSf:s.heap.objs.size∉fp:=λhm=>Xo _ (hfp _ hm)
 have hSI:s.heap.objs.size≠I:=λe=>hSf (e▸hI)
 refine callType_codes (Q₁:=λobj s₁=>obj=.ref s.heap.objs.size/\s₁={ s with heap:=s.heap.push { cls:=.type "list",data:=.seq #[]}}) F.called_list (F.typeCall_list_1 _) F.entry_list_init
  (code_list_new _ ⟨rfl,rfl⟩) λobj s₁ h₁=>?_
 obtain⟨rfl,rfl⟩:=h₁;have hS:(s.heap.push { cls:=.type "list",data:=.seq #[]}).get? s.heap.objs.size=some { cls:=.type "list",data:=.seq #[]}:=Zv _ rfl;refine⟨⟨_,hS,rfl⟩,Qm _ _,?_⟩;generalize hSS:s.heap.objs.size=S at hS hSf hSI hQ ⊢
 show wpAny _ _ (do let old <-Builtin.List.listItems (.ref S);Builtin.List.listUpdate (.ref S) (λ_=>#[]);letGo old.toList.reverse;Builtin.List.listExtendWith (.ref S) (.ref I) .none) _ _ _
 refine Zi ?_;unfold Builtin.List.listItems;refine Zi (Wg hS rfl (Zp ?_))
 show wpAny _ _ (updateSeq S (λ_=>#[])>>=λ_=>letGo (#[]:Array Value).toList.reverse>>=λ_=>Builtin.List.listExtendWith (.ref S) (.ref I) .none) _ _ _
 refine Zi (Wl hS rfl ?_);have hS₁:=Ym (Obj.mapSeq (λ_=>(#[]:Array Value))) hS rfl;have k1:∀b o,b≠S->s.heap.get? b=some o->((s.heap.push { cls:=.type "list",data:=.seq #[]}).update S (Obj.mapSeq (λ_=>(#[]:Array Value)))).get? b=some o:=
  λb o hb e=>(Z9 _ _ (Ne.symm hb)).trans (Zk _ e)
 refine Zi (Th ?_);generalize ((s.heap.push { cls:=.type "list",data:=.seq #[]}).update S (Obj.mapSeq (λ_=>(#[]:Array Value))))=hp1 at hS₁ k1 ⊢;have neS:∀b∈fp,b≠S:=λb hb e=>hSf (e▸hb)
 have st1:St 0 hp1:=W.frame 0 _ _ hst λb hb o e=>k1 b o (neS b hb) e
 unfold Builtin.List.listExtendWith;refine Zi (wpAny_typeOf (hT { s with heap:=hp1} st1) ?_);have g1:Builtin.List.listSameRef (.ref S) (.ref I)=false:=by simp[Builtin.List.listSameRef,hSI]
 simp only[g1,h2,h3,S4,Wi,V3];refine Zi (W.self 0 { s with heap:=hp1} _ _ st1 ?_);refine Zi (Y7 (hint { s with heap:=hp1} _ st1 λb tk=>?_));have key:∀(h:Heap)(c₁:Nat),(∀b o,b≠S->s.heap.get? b=some o->h.get? b=some o)->h.get? S=some { cls:=.type "list",data:=.seq #[] c₁}->
   codeAny (model prog w) A.in1 (.builtin "list.extend.loop" ⟨[.ref S,.ref I,.none],[]⟩) (wants (λr s'=>r=.none/\Q (.ref S) s') E) { s with heap:=h,toks:=tk}:=by
  intro h c₁ hk hS₂;refine codeAny_extend_loopS W.toS hn S hSf .none n 0 _ #[] c₁ rfl (Z0 _) (W.frame 0 _ _ hst λb hb o e=>hk b o (neS b hb) e) hS₂ (ItemsOf.nil _) λs' acc' c' hm hS' hacc=>?_
  rw[Moved.eq_with hm];refine⟨rfl,hQ s'.heap s'.toks acc' c' (λb o hb e=>hm.heap b o (λhmem=>?_) (hk b o (λz=>?_) e)) hS' hacc⟩
  ·rcases Zu.mp hmem with e'|hmem
   ·have:=Zs e;rw[e',hSS]at this;exact Xo _ this
   ·exact hb hmem
  ·have:=Zs e;rw[z,hSS]at this;exact Xo _ this
 refine Y6 (λ_=>?_) (λ_=>Zp ⟨Tl Wu _,key _ _ k1 hS₁⟩);refine Zi (Vd ?_);refine Zi ?_
 show wpAny _ _ (updateSeq S (·.push .none)>>=λ_=>updateSeq S (·.pop)) _ _ _
 refine Zi (Wl hS₁ rfl ?_);have hS₂:=Ym (Obj.mapSeq (·.push Value.none)) hS₁ rfl;refine Wl (hz:=by seq_fits) hS₂ rfl ?_;have hS₃:=Ym (Obj.mapSeq (·.pop)) hS₂ rfl;exact Zp ⟨Tl Wu _,key _ _ (λb o hb e=>(Z9 _ _ (Ne.symm hb)).trans ((Z9 _ _ (Ne.symm hb)).trans (k1 b o hb e))) hS₃⟩
end
theorem c8w{its:List Value}(h:ItemsOf (λi v=>its.toArray[its.toArray.size-1-i]? =some v) acc its.toArray.size):acc=its.reverse.toArray:=by
 obtain⟨h1,h2⟩:=h
 apply Array.ext'
 rw[List.toList_toArray]
 apply List.ext_getElem?
 intro j;have hs:acc.toList.length=its.length:=by rw[Wv,h1,Zm]
 by_cases hj:j<its.length
 ·have hj':j<acc.size:=by rw[<-Wv];omega
  have e:=h2 j acc[j] (Vg hj');rw[List.getElem?_reverse hj,Va,Vg hj'];rw[Zm,Rk]at e;exact e.symm
 ·rw[W9 qo,W9 (by rw[Uc];omega)]
section
variable{X:Cx}
def c1v(K:W.Frag)(ta:TA):TE:=λσ H Q=>ta σ H λvs H1=>∃a xs,vs=[.ref a]/\(SqL K H1 a xs\/SqT K H1 a xs)/\xs.length<=100000/\∀p,H1 p=none->Q (.ref p) (upd H1 p (.lst xs.reverse))
theorem b6x(K:FG)(hK:X.K=K)(hc:X.calm=true){a:Expr}{ta:TA}{p1 p2 pos1 pos2:Pos}(hg:Gl X "list")(hm:X.mg "list"=none)(hg2:Gl X "reversed")(hm2:X.mg "reversed"=none)(ha:PA X [a] ta)
  (hs:starEach [a] X.env=[(false,eval a X.env)]:=by rfl)
  (hs1:starEach [Expr.Call (.Name "reversed" p2) [a] [] pos2] X.env=[(false,eval (.Call (.Name "reversed" p2) [a] [] pos2) X.env)]:=by rfl):
  PE X (.Call (.Name "list" p1) [.Call (.Name "reversed" p2) [a] [] pos2] [] pos1) (c1v K ta):=by
 subst hK;intro pj s σ H Q I h;refine Call_ (a5z I hg hm Vy (Xj ?_ hs1 rfl));rw[hs1]
 show wpAny _ _ (spliced ((false,eval (.Call (.Name "reversed" p2) [a] [] pos2) X.env)::backTo pos1 (starEach [] X.env))) _ _ s
 refine Vp ?_;refine Call_ (a5z I hg2 hm2 boot_reversed (Xj (thn (ha pos2 pj s σ H _ I h) λus s1 ⟨vs,H1,I1,r1,q1⟩=>?_) hs rfl));obtain⟨l,xs,e,hq,hlen,q⟩:=q1;subst e;have fin:∀(its:List Value)(h':Heap)(tk:Nat)(acc':Array Value)(c':Nat),Vals xs its->(∀b o,s1.heap.get? b=some o->h'.get? b=some o)->h'.get? (s1.heap.objs.size+1)=some { cls:=.type "list",dict:=none,data:=.seq acc' c',slots:=#[]}->ItemsOf (λi v=>its.toArray[its.toArray.size-1-i]? =some v) acc' its.toArray.size->EP X pj σ Q (.ref (s1.heap.objs.size+1)) { s1 with heap:=h',toks:=tk}:=by
  intro its h' tk acc' c' rv hk hS hacc;have ea:=c8w hacc;subst ea;have fr:H1 (s1.heap.objs.size+1)=none:=I1.hok.fresh (Vf _ _);refine⟨.ref _,upd H1 (s1.heap.objs.size+1) (.lst xs.reverse),I1.laid (t':=tk) hk (Vf _ _) ⟨by rw[Uc,Y3];omega,its.reverse,c',rv.reverse,hS⟩,rfl,q _ fr⟩
 have keepA:∀(o0:Obj)(h':Heap),(∀b o,b∉[s1.heap.objs.size]->(s1.heap.push o0).get? b=some o->h'.get? b=some o)->∀b o,s1.heap.get? b=some o->h'.get? b=some o:=λo0 h' hk b o e=>hk b o (λz=>by
  rw[Zq.mp z]at e
  exact Xo _ (Zs e)) (Zk _ e)
 cases r1 with
 |cons r rr=>
  cases rr;cases r;rcases hq with hq|hq
  ·obtain⟨its,rv,pl,hz⟩:=I1.list hq;have hlen':=rv.length;have hL:s1.heap.IsList l its.toArray:=pl.isList;have hlt:l<s1.heap.objs.size:=by obtain⟨o,ho,_⟩:=hL;exact Zs ho
   refine call_reversed_list hL ?_;refine Vx ?_;have zz:(s1.heap.push (revObj l ((its.toArray.size:Int)-1))).objs.size=s1.heap.objs.size+1:=Y9 ..;have st0:0<=its.toArray.size/\(s1.heap.push (revObj l ((its.toArray.size:Int)-1))).IsRevIter s1.heap.objs.size l ((its.toArray.size:Int)-1-((0:Nat):Int))/\(s1.heap.push (revObj l ((its.toArray.size:Int)-1))).IsList l its.toArray:=by
    refine⟨Z0 _,?_,hL.at λo e=>Zk _ e⟩;have e1:(its.toArray.size:Int)-1-((0:Nat):Int)=(its.toArray.size:Int)-1:=by omega
    rw[e1];exact⟨_,Zv _ rfl,rfl,rfl⟩
   have W:=Walks.listRev (prog:=X.prog) (w:=X.w) (A:=X.A.in1.in1) (I1.ok.hd hc) s1.heap.objs.size l (Z1 hlt) its.toArray;refine b2s (T:="list_reverseiterator") W (by rw[Zm,<-hlen',Y3];omega) (λs' st=>st.2.1.typeIs) qd qd (λs' Q' st k=>d2m st.2.1.typeIs (k false s'.toks)) st0 (λb hb=>?_) qz (λh' tk acc' c' hk hS hacc=>?_)
   ·rw[zz];simp only[Zu,Z6,Xm]at hb;rcases hb with rfl|rfl
    ·exact U2 _
    ·exact Vb hlt
   ·rw[zz]at hS ⊢;exact fin its h' tk acc' c' rv (keepA _ h' hk) hS hacc
  ·obtain⟨its,rv,pl,hz⟩:=I1.tuple hq;have hlen':=rv.length;have hlt:l<s1.heap.objs.size:=pl.lt;refine b4l pl (by rw[Zm,<-hlen'];omega) (λtk0=>?_);refine Vx ?_;have zz:(s1.heap.push (b6w l ((its.toArray.size:Int)-1))).objs.size=s1.heap.objs.size+1:=Y9 ..;have st0:0<=its.toArray.size/\IsRv (s1.heap.push (b6w l ((its.toArray.size:Int)-1))) s1.heap.objs.size l ((its.toArray.size:Int)-1-((0:Nat):Int))/\IsTup (s1.heap.push (b6w l ((its.toArray.size:Int)-1))) l its.toArray:=by
    refine⟨Z0 _,?_,pl.push _⟩;have e1:(its.toArray.size:Int)-1-((0:Nat):Int)=(its.toArray.size:Int)-1:=by omega
    rw[e1];exact⟨_,Zv _ rfl,rfl,rfl⟩
   have hsz:its.toArray.size<=2^24:=by rw[Zm,<-hlen'];omega
   have W:=d2n (prog:=X.prog) (w:=X.w) (A:=X.A.in1.in1) (I1.ok.hd hc) s1.heap.objs.size l (Z1 hlt) its.toArray hsz;refine b2s (T:="reversed") W (by rw[Zm,<-hlen',Y3];omega) (λs' st=>st.2.1.typeIs) qd qd (λs' Q' st k=>hint_rv st.2.1 st.2.2 qo hsz k) st0 (λb hb=>?_) qz (λh' tk acc' c' hk hS hacc=>?_)
   ·rw[zz];simp only[Zu,Z6,Xm]at hb;rcases hb with rfl|rfl
    ·exact U2 _
    ·exact Vb hlt
   ·rw[zz]at hS ⊢;exact fin its h' tk acc' c' rv (keepA _ h' hk) hS hacc
theorem c5u{K:FG}{σ:St}{H:Hp}{ta:TA}{Q:VK}(k:ta σ H λvs H1=>∃a xs,vs=[.ref a]/\(SqL K H1 a xs\/SqT K H1 a xs)/\xs.length<=100000/\∀p,H1 p=none->Q (.ref p) (upd H1 p (.lst xs.reverse))):c1v K ta σ H Q:=k
end
section
variable{X:Cx}{pos:Pos}{e e2:Expr}{te te2:TE}
def tF2n(a:Str)(te:TE):TE:=λσ H Q=>te σ H λx H1=>∃i:Int,x=.int i/\i.natAbs.log2<1920/\(ofString (toString i)).length<=1000/\Q (.str (a++ofString (toString i))) H1
theorem pe_f2n{a:Str}{j1 p1 p2}(he:PE X e te)(ha:a.length<=1000:=by decide+kernel):PE X (.JoinedStr [.Constant (.str a) j1 p1,.FormattedValue e (-1) none p2] pos) (tF2n a te):=by
 intro pj s σ H Q I h;have z9:100000<=sizeLine:=by decide
 have ea:∀x:Str,Str.empty++x=x:=λx=>by apply Rv;show(#[]:Array Nat)++x.cps=x.cps;simp
 refine Sr (Wx (Vq ?_));have hz:(Str.empty++a).length<=sizeLine:=by rw[ea];omega
 refine⟨hz,Wx (V7 (thn (he pj _ σ H _ (I.tok _) h) λv s1 z9=>?_))⟩;obtain⟨x,H1,I1,r1,q1⟩:=z9;rw[ea];obtain⟨i,rfl,hl,hy,q⟩:=q1;obtain⟨t,rfl⟩:=r1;refine Tg hl ?_;generalize ofString (toString i)=y at hy q ⊢;refine⟨by rw[Xl];omega,?_⟩;refine Sy ?_ (by rw[Xl];omega);exact⟨.str (a++y),H1,(I1.tok _).tok _,⟨_,rfl⟩,q⟩
theorem tF2n_i(k:te σ H λx H1=>∃i:Int,x=.int i/\i.natAbs.log2<1920/\(ofString (toString i)).length<=1000/\Q (.str (a++ofString (toString i))) H1):tF2n a te σ H Q:=k
def tF3n(b:Str)(te te2:TE):TE:=λσ H Q=>te σ H λx H1=>∃y,x=.str y/\y.length<=5000/\te2 σ H1 λx2 H2=>∃i:Int,x2=.int i/\i.natAbs.log2<1920/\(ofString (toString i)).length<=1000/\Q (.str (y++b++ofString (toString i))) H2
theorem pe_f3n{b:Str}{j2 p1 p2 p3}(he:PE X e te)(he2:PE X e2 te2)(hb:b.length<=1000:=by decide+kernel):PE X (.JoinedStr [.FormattedValue e (-1) none p1,.Constant (.str b) j2 p2,.FormattedValue e2 (-1) none p3] pos) (tF3n b te te2):=by
 intro pj s σ H Q I h;have z9:100000<=sizeLine:=by decide
 have ea:∀x:Str,Str.empty++x=x:=λx=>by apply Rv;show(#[]:Array Nat)++x.cps=x.cps;simp
 refine Sr (Wx (V7 (thn (he pj _ σ H _ I h) λv s1 z9=>?_)));obtain⟨x,H1,I1,r1,q1⟩:=z9;obtain⟨y,rfl,hl,q1⟩:=q1;obtain⟨t,rfl⟩:=r1;refine formatField_str (λt' tk=>?_) qo
 show(Str.empty++y).length<=sizeLine/\_
 rw[ea];refine⟨qo,?_⟩
 show wpAny _ _ (joinParts y [eval (.Constant (.str b) j2 p2) X.env,eval (.FormattedValue e2 (-1) none p3) X.env]) _ _ _
 refine Wx (Vq ⟨by rw[Xl];omega,?_⟩);refine Wx (V7 (thn (he2 pj _ σ H1 _ ((I1.tok _).tok _) q1) λv2 s2 z9=>?_));obtain⟨x2,H2,I2,r2,q2⟩:=z9;obtain⟨i,rfl,hl2,hy,q⟩:=q2;obtain⟨t2,rfl⟩:=r2;refine Tg hl2 ?_;generalize ofString (toString i)=z at hy q ⊢;refine⟨by rw[Xl,Xl];omega,?_⟩;refine Sy ?_ (by rw[Xl,Xl];omega);exact⟨.str (y++b++z),H2,(I2.tok _).tok _,⟨_,rfl⟩,q⟩
theorem tF3n_i(k:te σ H λx H1=>∃y,x=.str y/\y.length<=5000/\te2 σ H1 λx2 H2=>∃i:Int,x2=.int i/\i.natAbs.log2<1920/\(ofString (toString i)).length<=1000/\Q (.str (y++b++ofString (toString i))) H2):tF3n b te te2 σ H Q:=k
end
section
variable{K:W.Frag}{σ:St}{H:Hp}{Q:VK}{D:Ends}{ta tv:TE}{t:TA}{f m:Str}{C:Addr}{sp:Sp}{dvs:List V}{E:XK}
theorem tFld_i(k:ta σ H λx H1=>∃a C dx fs v,x=.ref a/\H1 a=some (.ins C dx fs)/\Cls K C/\a0x K C f/\fs.lookup f=some v/\Q v H1):tFld K ta f σ H Q:=k
theorem sFld_i(k:tv σ H λy H1=>ta σ H1 λx H2=>∃a C dx fs,x=.ref a/\H2 a=some (.ins C dx fs)/\Cls K C/\a0x K C f/\fs.length<1000/\D.nx σ (upd H2 a (.ins C dx (putF f y fs)))):sFld K ta tv f D σ H:=k
theorem tMeth_i(k:ta σ H λx H1=>∃a dx fs,x=.ref a/\H1 a=some (.ins C dx fs)/\fs.lookup m=none/\t σ H1 λvs H2=>sp (x::(vs++dvs)) H2 Q E):tMeth C m sp dvs E ta t σ H Q:=k
theorem tMake_i(k:t σ H λvs H1=>∀x dx,H1 x=none->H1 dx=none->dx≠x->sp (.ref x::(vs++dvs)) (upd (upd H1 dx (.own x)) x (.ins C dx [])) (λv H2=>v=.non/\Q (.ref x) H2) E):tMake C sp dvs E t σ H Q:=k
theorem c8x(k:ta σ H λx H1=>∃a C dx fs v,x=.ref a/\H1 a=some (.ins C dx fs)/\Cls K C/\a0x K C f/\fs.lookup f=some v/\
 tv σ H1 λy H2=>rd v y H2 λz H3=>∃dx' fs',H3 a=some (.ins C dx' fs')/\fs'.length<1000/\D.nx σ (upd H3 a (.ins C dx' (putF f z fs')))):c4d K ta tv rd f D σ H:=k
end
end L2
set_option autoImplicit false
namespace L2
open PySem PySem.Spec PyProof.Rows
section
variable{t u:TS}{D:Ends}{σ:St}{H:Hp}{te:TE}{A:TT}{Q:VK}{N n:St->Hp->Prop}{r:VK}{b c:St->Hp->Prop}
theorem tSeq_v(k:∀N:St->Hp->Prop,N=u ⟨n,r,b,c⟩->t ⟨N,r,b,c⟩ σ H):tSeq t u ⟨n,r,b,c⟩ σ H:=k _ rfl
theorem tAsg_v{g:TG}(k:∀Q:VK,Q=(λx H1=>g x σ H1 D.nx)->te σ H Q):tAsg te g D σ H:=k _ rfl
theorem tIfS_v(k:∀Q:Bool->Hp->Prop,Q=(λb H1=>if b=true then t D σ H1 else u D σ H1)->A σ H Q):tIfS A t u D σ H:=k _ rfl
theorem a6e{α β:Type}{N M:α->β->Prop}{a:α}{b:β}(e:N=M)(k:M a b):N a b:=e▸k
theorem a2m(Post:St->Hp->Prop)(h1:∀σ' H',Post σ' H'->u ⟨n,r,b,c⟩ σ' H')(h2:∀{N:St->Hp->Prop},(∀σ' H',Post σ' H'->N σ' H')->t ⟨N,r,b,c⟩ σ H):tSeq t u ⟨n,r,b,c⟩ σ H:=h2 h1
theorem hideG{g:Prop}(k:∀G:Prop,(g->G)->G):g:=k g id
theorem zI{A:Hp}{o:HO}{Q:V->Hp->Prop}(k:∀p,A p=none->∀B,Same A B->B p=some o->Q (.ref p) B):∀p,A p=none->Q (.ref p) (upd A p o):=λp h=>k p h _ (λq v e=>by
 rw[a0f (λz=>by rw[z,h]at e;cases e)];exact e) a0c
theorem zL{A:Hp}{o:HO}{Q:V->Hp->Prop}{z:Prop}(c:z)(k:∀p,A p=none->∀B,Same A B->B p=some o->Q (.ref p) B):z/\∀p,A p=none->Q (.ref p) (upd A p o):=⟨c,zI k⟩
theorem zG{K:FG}{P:V->Prop}{a C dx:Addr}{fs:List (Str×V)}{f:Str}{v:V}(o:H a=some (.ins C dx fs))(c:Cls K C)(n:a0x K C f)(l:fs.lookup f=some v)(k:P v):∃a' C dx fs v,V.ref a=.ref a'/\H a'=some (.ins C dx fs)/\Cls K C/\a0x K C f/\fs.lookup f=some v/\P v:=⟨_,_,_,_,_,rfl,o,c,n,l,k⟩
theorem sZ{K:FG}{P:Addr->Addr->Addr->List (Str×V)->Prop}{a C dx:Addr}{fs:List (Str×V)}{f:Str}(o:H a=some (.ins C dx fs))(c:Cls K C)(n:a0x K C f)(l:fs.length<1000)(k:P a C dx fs):∃a' C dx fs,V.ref a=.ref a'/\H a'=some (.ins C dx fs)/\Cls K C/\a0x K C f/\fs.length<1000/\P a' C dx fs:=⟨_,_,_,_,rfl,o,c,n,l,k⟩
theorem zM{P:Prop}{a C dx:Addr}{fs:List (Str×V)}{m:Str}(o:H a=some (.ins C dx fs))(l:fs.lookup m=none)(k:P):∃a' dx fs,V.ref a=.ref a'/\H a'=some (.ins C dx fs)/\fs.lookup m=none/\P:=⟨_,_,_,rfl,o,l,k⟩
abbrev aR(vs:List V)(k:Addr->List V->Prop):Prop:=match vs with| .ref a::r=>k a r|_=>False
abbrev aI(vs:List V)(k:Int->List V->Prop):Prop:=match vs with| .int a::r=>k a r|_=>False
abbrev aS(vs:List V)(k:Str->List V->Prop):Prop:=match vs with| .str a::r=>k a r|_=>False
abbrev aB(vs:List V)(k:Bool->List V->Prop):Prop:=match vs with| .bl a::r=>k a r|_=>False
abbrev aV(vs:List V)(k:V->List V->Prop):Prop:=match vs with|a::r=>k a r|_=>False
abbrev aE(vs:List V)(k:Prop):Prop:=match vs with| []=>k|_=>False
theorem aR_i{P:List V->Prop}{k:Addr->List V->Prop}(h:∀a,∀r,k a r->P (.ref a::r)):∀vs,aR vs k->P vs:=λvs z=>by
 rcases vs with _|⟨v,r⟩
 ·exact z.elim
 ·cases v<;>first|exact h _ _ z|exact z.elim
theorem aI_i{P:List V->Prop}{k:Int->List V->Prop}(h:∀a,∀r,k a r->P (.int a::r)):∀vs,aI vs k->P vs:=λvs z=>by
 rcases vs with _|⟨v,r⟩
 ·exact z.elim
 ·cases v<;>first|exact h _ _ z|exact z.elim
theorem aS_i{P:List V->Prop}{k:Str->List V->Prop}(h:∀a,∀r,k a r->P (.str a::r)):∀vs,aS vs k->P vs:=λvs z=>by
 rcases vs with _|⟨v,r⟩
 ·exact z.elim
 ·cases v<;>first|exact h _ _ z|exact z.elim
theorem aB_i{P:List V->Prop}{k:Bool->List V->Prop}(h:∀a,∀r,k a r->P (.bl a::r)):∀vs,aB vs k->P vs:=λvs z=>by
 rcases vs with _|⟨v,r⟩
 ·exact z.elim
 ·cases v<;>first|exact h _ _ z|exact z.elim
theorem aV_i{P:List V->Prop}{k:V->List V->Prop}(h:∀a,∀r,k a r->P (a::r)):∀vs,aV vs k->P vs:=λvs z=>by
 rcases vs with _|⟨v,r⟩
 ·exact z.elim
 ·exact h _ _ z
theorem aE_i{P:List V->Prop}{k:Prop}(h:k->P []):∀vs,aE vs k->P vs:=λvs z=>by
 rcases vs with _|⟨v,r⟩
 ·exact h z
 ·exact z.elim
end
open PySem PySem.Spec PyProof.Rows PySem.W
theorem d2o{P:Program}{w:World}{A:Around}{E:Value->Shared->Prop}{s:Shared}{a:Addr}{its:Array Value}{Q:Int->Shared->Prop}(hu:A.units<cLine)(ht:IsTup s.heap a its)
  (each:∀x∈its.toList,∀(tk:Nat)(B:Int->Shared->Prop)(E':Value->Shared->Prop),(∀i tk',B i { s with toks:=tk'})->wpAny (model P w) A.in1 (pyHash x) B E' { s with toks:=tk})(k:∀i tk,Q i { s with toks:=tk}):wpAny (model P w) A (pyHash (.ref a)) Q E s:=by
 obtain⟨⟨oc,od,odt,osl⟩,ho,hc,n,hd⟩:=ht
 dsimp only at hc hd
 subst hc hd;have ty:s.TypeIs (.ref a) "tuple":=⟨_,ho,rfl⟩;have sl:=F.slot_tuple_hash;unfold pyHash pyHashByItsType;refine Zi (wpAny_cRoomFor_or (.inr hu) (Zi (Y8 ty sl.lookup ?_)));rw[if_neg (show ¬(some (Value.builtin "tuple.__hash__")==some Value.none)=true by rw[beq_builtin_none];exact Zr)];refine Zi (Y8 ty sl.lookup (Zi (wpAny_callSpecialIfBoundUnlessNone?_slot ty sl (Xk sl ty F.entry_tuple_hash ?_ (F.args_tuple_hash_1 _)))))
 (show wpAny _ _ (Builtin.Tuple.tupleItemsOf (.ref a)>>=_) _ _ s;refine Zi (wpAny_tupleItemsOf ho rfl (Zi ?_)))
 rw[<-Array.forIn_toList];refine wpAny_forIn_list _ (λrest (_:Array Int) s1=>(∀x∈rest,x∈its.toList)/\∃tk,s1={ s with toks:=tk}) _ (λx rest b s1 hx=>?_) (λb s1 hx=>?_) _ _ ⟨λx h=>h,s.toks,rfl⟩
 ·obtain⟨hr,tk,rfl⟩:=hx;refine Zi (each x (hr x Yd) tk _ _ λi tk1=>?_)
  first
   |exact Zp ⟨λy hy=>hr y (Zx _ hy),_,rfl⟩
   |exact Zi (Zp (Zp ⟨λy hy=>hr y (Zx _ hy),_,rfl⟩))
 ·obtain⟨_,tk,rfl⟩:=hx
  show wpAny _ _ (retInt _) _ _ _
  refine wpAny_ret_mkInt ?_
  show wpAny _ _ (pyHashByItsType.reduced _) Q E _
  unfold pyHashByItsType.reduced
  split
  ·exact Zp (k _ _)
  ·exact Zi (Vd (Zp (k _ _)))
section
variable{X:Cx}{pj:List (Addr×Obj)}{σ:St}{H:Hp}{s:Shared}
def a3s:PyData->Bool
 | .int _=>true
 | .str _=>true
 | .tuple ds=>hashyL ds
 |_=>false
where hashyL:List PyData->Bool
 | []=>true
 |d::r=>a3s d&&hashyL r
theorem c1w(I:Inv X pj σ H s):∀(n:Nat)(A:Around)(E:Value->Shared->Prop)(tk0:Nat)(d:PyData)(v:V)(u:Value)(Q:Int->Shared->Prop),d.depth<=n->a3s d=true->A.units+n<cLine->Den X.K H v d->RelV v u->(∀i tk,Q i { s with toks:=tk})->wpAny (model X.prog X.w) A (pyHash u) Q E { s with toks:=tk0}:=by
 intro n
 induction n with
 |zero=>
  intro A E tk0 d v u Q hd hh hu h r k;cases h with
  |non=>cases hh
  |bl b=>cases hh
  |int i=>
   obtain⟨t,rfl⟩:=r;exact T9 (k _ _)
  |str x=>
   obtain⟨t,rfl⟩:=r;exact T8 (k _ _)
  |tup _ _=>simp[PyData.depth]at hd
 |succ n ih=>
  intro A E tk0 d v u Q hd hh hu h r k;cases h with
  |non=>cases hh
  |bl b=>cases hh
  |int i=>
   obtain⟨t,rfl⟩:=r;exact T9 (k _ _)
  |str x=>
   obtain⟨t,rfl⟩:=r;exact T8 (k _ _)
  | @tup a us ds hs hl=>
   cases r;obtain⟨its,rv,p,_⟩:=I.tuple hs;have hd':PyData.depthAll ds<=n:=by simp only[PyData.depth]at hd;omega
   have hall:∀ds:List PyData,a3s.hashyL ds=true->∀(j:Nat)(e:PyData),ds[j]? =some e->a3s e=true:=λds=>by
    induction ds with
    |nil=>intro _ j e z;simp at z
    |cons x r ih2=>
     intro hz j e z;have hz:(a3s x&&a3s.hashyL r)=true:=hz;rw[Xp]at hz;cases j with
     |zero=>simp at z;subst z;exact hz.1
     |succ j=>exact ih2 hz.2 j e (by simpa using z)
   refine d2o (s:={ s with toks:=tk0}) (its:=its.toArray) qo p (λx hx tk B E' kB=>?_) (λi tk=>k i tk);obtain⟨j,hj⟩:=Ri.mp (show x∈its by simpa using hx);have l1:=rv.length;have l2:=hl.length;have hjl:=(Yi.mp hj).1;have x1:us[j]? =some us[j]:=Zj qo
   obtain⟨e,e1,d1⟩:=hl.get x1;obtain⟨w1,y1,z1⟩:=rv.get x1;rw[hj]at y1;cases y1;exact ih A.in1 E' tk e _ x B (Yn (a4p e1) hd') (hall ds hh j e e1) (by show A.units+1+n<cLine;omega) d1 z1 kB
end
section
variable{P:Program}{w:World}{A:Around}{E:Value->Shared->Prop}{s:Shared}{d a:Addr}{o:Obj}{ep:Nat}
theorem b6y{i:Int}{Q:Option Nat->Shared->Prop}(ho:s.heap.get? d=some o)(hd:o.data=.dict #[] ep)(k:Q none s):wpAny (model P w) A (dictFind d (.ref a) i) Q E s:=by
 unfold dictFind
 (with_reducible refine Y7 (Zi (wpAny_dictEntries ho hd ?_)))
 dsimp only
 have e1:placesWithHash (#[]:Array DictEntry).size (λj=>(#[]:Array DictEntry)[j]?.map (·.hash)) i=[]:=rfl;rw[e1];rw[if_neg (show ¬((Value.ref a::([]:List Nat).filterMap (λj=>(#[]:Array DictEntry)[j]?.map (·.key))).all carriedByValue)=true by simp[carriedByValue])];rw[if_neg qz,if_neg qz];refine Zi ?_;unfold tableMayTell;rw[if_pos qz];refine Zp ?_;rw[if_neg qz];exact Zi (Zp (Zp k))
theorem c8y{Q:Option Value->Shared->Prop}(ho:s.heap.get? d=some o)(hd:o.data=.dict #[] ep)
  (hash:∀(B:Int->Shared->Prop),(∀i tk,B i { s with toks:=tk})->wpAny (model P w) A (pyHash (.ref a)) B E s)(k:∀tk,Q none { s with toks:=tk}):wpAny (model P w) A (dictGet d (.ref a)) Q E s:=by
 unfold dictGet
 (with_reducible refine Y7 (Zi (hash _ λi tk=>?_)))
 exact Zi (b6y (s:={ s with toks:=tk}) ho hd (Zp (k tk)))
theorem c3l{Q:Value->Shared->Prop}(hx:o.ExactDict)(hlo:(d==sysModules)=false)(ho:s.heap.get? d=some o)(hd:o.data=.dict #[] ep)
  (hash:∀(B:Int->Shared->Prop)(E':Value->Shared->Prop),(∀i tk,B i { s with toks:=tk})->wpAny (model P w) A.in1 (pyHash (.ref a)) B E' s)(k:∀tk,Q (.bool true) { s with toks:=tk}):wpAny (model P w) A (compareOp .NotIn (.ref a) (.ref d)) Q E s:=by
 have ty:s.TypeIs (.ref d) "dict":=⟨o,ho,hx.1⟩
 show wpAny _ _ (do return .bool (!(<-contains (.ref d) (.ref a)))) Q E s
 refine Zi ?_;unfold contains
 (with_reducible refine Y7 (Zi (Y8 ty To.lookup ?_)))
 rw[if_neg (show ¬(some (Value.builtin "dict.__contains__")==some Value.none)=true by rw[beq_builtin_none];exact Zr)];refine Zi (wpAny_callSpecialUnlessNone?_slot (name:=ofString "__contains__") ty To (Xk To ty entry_dict_contains ?_ (args_dict_contains _ _)))
 show wpAny _ _ (dictGet d (.ref a)>>=_) _ _ s
 refine Zi (c8y ho hd (λB kB=>hash B _ kB) λtk=>?_)
 show wpAny _ _ (Builtin.Dict.pendingKey? d (.ref a)>>=_) _ _ _
 exact Zi (wpAny_pendingKey_other hlo (Zp ⟨_,rfl,Wa (Zp (k tk))⟩))
theorem c8z{v:Value}{Q:Unit->Shared->Prop}(hx:o.ExactDict)(ho:s.heap.get? d=some o)(hd:o.data=.dict #[] ep)
  (hash:∀(B:Int->Shared->Prop)(E':Value->Shared->Prop),(∀i tk,B i { s with toks:=tk})->wpAny (model P w) A.in1 (pyHash (.ref a)) B E' s)
  (k:∀h' tk,(∃o',h'.get? d=some o'/\o'.ExactDict/\∃es ep',o'.data=.dict es ep')->Heap.SameBut d s.heap h'->Q () { s with heap:=h',toks:=tk}):wpAny (model P w) A (setItem (.ref d) (.ref a) v) Q E s:=by
 have ty:s.TypeIs (.ref d) "dict":=⟨o,ho,hx.1⟩;unfold setItem
 (with_reducible refine Y7 (Zi (wpAny_sequenceKey ty qd ?_)))
 refine Zi (wpAny_callSpecial?_slot (name:=ofString "__setitem__") ty slot_dict_setitem (Xk slot_dict_setitem ty entry_dict_setitem ?_ (args_dict_setitem _ _ _)))
 show wpAny _ _ (Builtin.Dict.notOrdered "__setitem__" _>>=_) _ _ s
 refine Zi (Rc ty ?_)
 show wpAny _ _ (dictSet d (.ref a) v>>=_) _ _ s
 refine Zi ?_;unfold dictSet
 (with_reducible refine Y7 (Zi (hash _ _ λi tk=>?_)))
 unfold dictSetHashed
 (with_reducible refine Y7 (Zi (b6y (s:={ s with toks:=tk}) ho hd ?_)))
 refine Zi (Vd (Ro (hz:=by simp) (s:={ s with toks:=tk}) ho hd (Zp ⟨.none,rfl,Zp (k _ tk ⟨_,Ym _ ho (R5 (V4 hd _)),hx.mapDictKeys _,_,_,V4 hd _⟩ (Vh ..))⟩)))
end
section
variable{X:Cx}
theorem c9a{pj:List (Addr×Obj)}{σ:St}{H:Hp}{s:Shared}{q:Addr}(I:Inv X pj σ H s)(h:H q=some (.dK [])):∃ep o,(q==sysModules)=false/\s.heap.get? q=some o/\o.ExactDict/\o.data=.dict #[] ep:=by
 obtain⟨_,lo,vs,rel,dd⟩:=dk_of I.hok h;cases rel;obtain⟨ep,o,es,ho,hx,hd,hk,hpr,hn⟩:=dd.dictAt;have e:es= #[]:=by
  have:=hpr.length;exact Array.eq_empty_of_size_eq_zero (by simpa using this)
 rw[e]at hd;exact⟨ep,o,lo,ho,hx,hd⟩
def mNinE(K:Frag):R2:=λx y H Q=>∃(p q:Addr)(d:PyData),x=.ref p/\y=.ref q/\H q=some (.dK [])/\Den K H (.ref p) d/\a3s d=true/\d.depth<=140/\Q (.bl true) H
theorem ko_ninE(K:Frag)(hK:X.K=K)(hu:X.A.units+150<cLine):OpR X (compareOp .NotIn) (mNinE K):=by
 subst hK;intro pj s σ H x y v u Q I rx ry h;obtain⟨p,q,d,rfl,rfl,hq,hd,hh,hz,k⟩:=h;obtain rfl:v=Value.ref p:=rx;obtain rfl:u=Value.ref q:=ry;obtain⟨ep,o,lo,ho,hx,hdat⟩:=c9a I hq;refine c3l hx lo ho hdat (λB E' kB=>?_) λtk=>⟨.bl true,H,I.tok _,rfl,k⟩
 exact c1w I 140 X.A.in1 E' s.toks d _ _ B hz hh (by show X.A.units+1+140<cLine;omega) hd rfl kB
abbrev OpD(a:Addr):HO:=.ext λh=>∃o,h.get? a=some o/\o.ExactDict
def rSetE(K:Frag):V->V->V->Hp->(Hp->Prop)->Prop:=λo i v H Q=>∃(q p:Addr)(d:PyData),o=.ref q/\i=.ref p/\H q=some (.dK [])/\Den K H (.ref p) d/\a3s d=true/\d.depth<=140/\Q (upd H q (OpD q))
theorem d2p(K:Frag)(hK:X.K=K)(hu:X.A.units+150<cLine):PSet X (rSetE K):=by
 subst hK;intro pj s σ H o i v ov iv u Q I ro ri rv h;obtain⟨q,p,d,rfl,rfl,hq,hd,hh,hz,k⟩:=h;obtain rfl:ov=Value.ref q:=ro;obtain rfl:iv=Value.ref p:=ri;obtain⟨ep,o,lo,ho,hx,hdat⟩:=c9a I hq;refine c8z hx ho hdat (λB E' kB=>c1w I 140 X.A.in1 E' s.toks d _ _ B hz hh (by show X.A.units+1+140<cLine;omega) hd rfl kB) λh' tk new sb=>?_
 obtain⟨o',ho',hx',_⟩:=new;refine⟨_,I.write (o:=OpD q) (t':=tk) (h':=h') (x:=q) (e:=q) (by rw[hq];exact True.intro) (.inl rfl) (λb u hb e=>(sb.2 b hb).trans e) ⟨o',ho'⟩ ⟨⟨o',ho',hx'⟩,⟨o',ho'⟩,λh1 h2 ⟨o2,e1,e2⟩ k2=>⟨o2,k2 _ e1,e2⟩⟩,k⟩
end
section
variable{X:Cx}{e:Expr}{ta:TE}{f:Str}{pos:Pos}
theorem c1x(K:Frag)(hK:X.K=K)(he:PE X e ta)(hb:attributeBase e f X.env (eval e X.env)=eval e X.env):PE X (.Attribute e f pos) (tFld K ta f):=hK▸a0r he hb
end
theorem gSub_i{to ti:TE}{t:TSet}{v:V}{σ:St}{H:Hp}{N:St->Hp->Prop}(k:to σ H λo H1=>ti σ H1 λi H2=>t o i v H2 λH3=>N σ H3):gSub to ti t v σ H N:=k
section
variable{X:Cx}
def mIns:V->List V->Hp->VK->Prop:=λx vs H Q=>∃l i y xs,x=.ref l/\vs=[.int i,y]/\H l=some (.lst xs)/\0<=i/\i.toNat<=xs.length/\xs.length<100000/\Q .non (upd H l (.lst (xs.take i.toNat++y::xs.drop i.toNat)))
theorem a9b:MtR X "list.insert" mIns:=by
 intro pj s σ H x vs v us Q I rx rv h;obtain⟨l,i,y,xs,rfl,rfl,hH,h0,h1,hz,q⟩:=h;cases rx;obtain⟨u,w,rfl,r1,r2⟩:=c0q rv;obtain⟨t,rfl⟩:=r1;obtain⟨z,its,n,r,hl,e⟩:=I.lstM hH;have hlen:=r.length;refine Vl Vn ⟨_,e,rfl⟩ F.entry_list_insert (F.args_list_insert_3 _ _ _) (PySem.AutoSeq1.list_insert_list_int_val_1 l its.toArray n i t w ?_ (by rw[Zm];exact ln qo)) ⟨e,?_⟩
 ·have:Builtin.List.listFitsIndex i=true:=by
   unfold Builtin.List.listFitsIndex;rw[Xp];exact⟨Ye qo,Ye qo⟩
  rw[this]
  simp
 refine⟨.non,_,I.lset (its':=its.take i.toNat++w::its.drop i.toNat) hH e ?_ ((Vals.take _ r).append (.cons r2 (Vals.drop _ r))) ?_,rfl,q⟩
 ·show(its.toArray.extract 0 (if i<0 then(i+(its.toArray.size:Int)).toNat else min i.toNat its.toArray.size)).push w++its.toArray.extract (if i<0 then(i+(its.toArray.size:Int)).toNat else min i.toNat its.toArray.size)=_
  rw[if_neg qo,Vj (by rw[Zm];omega)]
  apply Array.toList_inj.mp
  simp
  rw[Yo (by rw[V0];omega)]
 ·rw[Zl,length_cons,Z7,V0];exact ln qo
theorem b0l{H:Hp}{Q:VK}{l:Addr}{i:Int}{y:V}{xs:List V}(h:H l=some (.lst xs))(h0:0<=i)(h1:i.toNat<=xs.length)(hz:xs.length<100000)(k:Q .non (upd H l (.lst (xs.take i.toNat++y::xs.drop i.toNat)))):mIns (.ref l) [.int i,y] H Q:=⟨l,i,y,xs,rfl,rfl,h,h0,h1,hz,k⟩
end
section
variable{X:Cx}{k:Nat}{f C C':Addr}{fd:FuncData}{ps:List Str}{sp:Sp}{dvs:List V}{ds:List Value}{m nm cx:Str}{pos apos cp hpos tpos xpos:Pos}{e o:Expr}{es:List Expr}{ta:TE}{t:TA}{bm':List Value}{b0:Stmt}{suite:List Stmt}{ts:Addr->TS}{n:Nat}
def tTryM(K:Frag)(C C':Addr)(m:Str)(sp:Sp)(dvs:List V)(ta:TE)(t:TA)(ok:Ends->St->V->Hp->Prop)(hd:Ends->St->Addr->Hp->Prop):TS:=λD σ H=>ta σ H λx H1=>∃a dx fs,x=.ref a/\H1 a=some (.ins C dx fs)/\fs.lookup m=none/\
 t σ H1 λvs H2=>sp (x::(vs++dvs)) H2 (λv H3=>ok D σ v H3) (λc eo H3=>∀ea,eo=some ea->∃C dx bm,c=.ref C/\H3 ea=some (XF ea C dx false)/\XCls K C bm/\(Value.ref C::bm).contains (.ref C')=true/\hd D σ ea H3)
theorem tTryM_i{K:Frag}{ok:Ends->St->V->Hp->Prop}{hd:Ends->St->Addr->Hp->Prop}{D:Ends}{σ:St}{H:Hp}(h:ta σ H λx H1=>∃a dx fs,x=.ref a/\H1 a=some (.ins C dx fs)/\fs.lookup m=none/\
 t σ H1 λvs H2=>sp (x::(vs++dvs)) H2 (λv H3=>ok D σ v H3) (λc eo H3=>∀ea,eo=some ea->∃C dx bm,c=.ref C/\H3 ea=some (XF ea C dx false)/\XCls K C bm/\(Value.ref C::bm).contains (.ref C')=true/\hd D σ ea H3)):tTryM K C C' m sp dvs ta t ok hd D σ H:=h
theorem d2q{pl:Sem Bool}{pj:List (Addr×Obj)}{s:Shared}{σ:St}{H:Hp}{D:Ends}{ok:Ends->St->V->Hp->Prop}{hd:Ends->St->Addr->Hp->Prop}{Eh:Value->Shared->Prop}(F:FnOk X.prog X.w X.K X.mg X.base (CXo X.prog X.w) k f fd ps sp)(hr:Room k X.A)(he:PE X.nox o ta)(c:Cls X.K C)(hm:Meth X.K C m f)(hb:Binds X.K fd ps ds)(hvd:Vals dvs ds)(ha:PA X.nox (e::es) t)
  (hE:∀ea C dx bm H' s',Inv X pj σ H' s'->H' ea=some (XF ea C dx false)->c0x X pj H' ea s'.heap->XCls X.K C bm->(Value.ref C::bm).contains (.ref C')=true->hd D σ ea H'->Eh (.ref ea) s')
  (I:Inv X pj σ H s)(h:tTryM X.K C C' m sp dvs ta t ok hd D σ H)(hst:starEach (e::es) X.env=(false,eval e X.env)::starEach es X.env)(hpl:(backTo pos (starEach es X.env)).any (·.1)=false)
  (ht:eval (.Call (.Attribute o m apos) (e::es) [] pos) X.env=(do
   let ov <-eval o X.env
   standAt apos.atName
   let(f,first) <-holding [ov] (getMethod ov m pl)
   callWith pos f first (backTo pos (starEach (e::es) X.env)) (backToKw pos (keywordEach [] X.env)))):
  wpAny (model X.prog X.w) X.A (eval (.Call (.Attribute o m apos) (e::es) [] pos) X.env) (EP X pj σ (ok D σ)) Eh s:=by
 refine Tc (pl:=pl) (Wb (he pj s σ H _ (I.wish _) h) (λu s1 ⟨x,H1,I1,rx,a,dx,fs,ex,ea,l,q⟩=>?_) λ_ _ z=>z.elim) ht;subst ex;obtain rfl:u=Value.ref a:=rx;have I1:=I1.unwish;refine b1d I1 ea c hm l ?_;refine Ud (first:=[.ref a]) (h₀:=X.base) I.ok.mod.kin hm.kp (Wb (ha pos pj s1 σ H1 _ (I1.wish _) q) (λus s2 ⟨vs,H2,I2,r,q2⟩=>⟨I2.kIn,?_⟩) λ_ _ z=>z.elim) hst hpl;have I2:=I2.unwish;have r2:Vals (.ref a::(vs++dvs)) (.ref a::(us++ds)):=.cons rfl (r.append hvd);have hl:(Value.ref a::us++ds).length=ps.length:=by
  have z:=r2.length;rw[F.len _ _ _ _ q2]at z;exact z.symm
 refine Uf (Vt (F.run X.A X.stack s2 H2 ⟨Value.ref a::us,[]⟩ (.ref a::(us++ds)) (.ref a::(vs++dvs)) _ _ hr I2.env0 (hb s2 (Value.ref a::us) I2.kIn hl) r2 q2) λr s' hq=>?_);cases r with
 |error e=>
  obtain⟨ea',C2,dx2,H',rfl,hx,os,bare,un,hok,tb,hu⟩:=hq;have I3:=I2.call' (ch:=[]) os un hok bare (λ_ z=>absurd z Z6);obtain⟨o',vs',T,b1,b2,b3,b4,b5,b6,b7⟩:=tb;obtain⟨C3,dx3,bm,e1,e2,e3,e4,e5⟩:=hu ea' rfl;exact hE ea' C3 dx3 bm H' s' I3 e2 ⟨o',vs',T,b1,b2,b3,b4,b3z I2 b5 b6,b7⟩ e3 e4 e5
 |ok fl=>
  cases fl with
  |ret u=>exact I2.after hq
  |next=>exact False.elim hq
  |brk=>exact False.elim hq
  |cont=>exact False.elim hq
end
open PySem PySem.Spec PyProof.Rows PySem.W PySem.NumText PySem.Calls
section
variable{X:Cx}
def mRepL:R2:=λx y H Q=>∃(a:Addr)(z:V)(k:Int),x=.ref a/\y=.int k/\H a=some (.lst [z])/\0<=k/\k<=1000/\∀p,H p=none->Q (.ref p) (upd H p (.lst (List.replicate k.toNat z)))
theorem fold_one'(v:Value):∀(n:Nat)(a:List Value),(List.replicate n (#[v]:Array Value)).foldl (· ++ ·) a.toArray=(a++List.replicate n v).toArray
 |0,a=>by simp
 |n+1,a=>by
  rw[We,List.foldl_cons,show a.toArray++ #[v]=(a++[v]).toArray by simp,fold_one' v n (a++[v]),Y0,We];rfl
theorem c1y{z:V}{v:Value}(h:RelV z v):∀n,Vals (List.replicate n z) (List.replicate n v)
 |0=>.nil
 |n+1=>.cons h (c1y h n)
theorem c4r:OpR X (binaryOp .Mult) mRepL:=by
 intro pj s σ H x y v u Q I rx ry h;obtain⟨a,z,k,rfl,rfl,hH,h0,h1,q⟩:=h;cases rx;obtain⟨t',rfl⟩:=ry;obtain⟨hz,its,n,r,hl,e⟩:=I.lstM hH
 match its,r with
 | [w],.cons r1 .nil=>
  refine Sv (T:="list") (U:="int") qd ⟨_,e,rfl⟩ (λs'=>Tm s' k t') noFill_list_mul F.fills_int_mul Tf repeat_list F.slot_int_index.lookup
   (Vl Tf (Tm s k t') F.entry_int_rmul (F.args_int_rmul_2 _ _) (Rf k t' a [w].toArray n)
    ⟨e,rfl,⟨_,e,rfl⟩,Vl F.slot_list_mul ⟨_,e,rfl⟩ F.entry_list_mul (F.args_list_mul_2 _ _)
     (Tu a [w].toArray n k t' (by simp[Builtin.List.listFitsIndex];omega) (by simp;omega) (by simp[Builtin.List.listTooLong,sizeLine];omega))
     ⟨e,?_⟩⟩)
  refine⟨.ref s.heap.objs.size,_,I.laid (a:=s.heap.objs.size) (o:=.lst (List.replicate k.toNat z)) (t':=s.toks) (λ_ _ q=>Zk _ q) (Zn _) ⟨by rw[Rj];exact ln qo,List.replicate k.toNat w,0,c1y r1 _,?_⟩,rfl,q _ (I.hok.fresh (Zn _))⟩;have:=fold_one' w k.toNat [];rw[Td]at this;rw[<-this];exact Zv _ rfl
theorem c4s{a:Addr}{z:V}{k:Int}{H:Hp}{Q:VK}(hH:H a=some (.lst [z]))(h0:0<=k)(h1:k<=1000)(q:∀p,H p=none->Q (.ref p) (upd H p (.lst (List.replicate k.toNat z)))):mRepL (.ref a) (.int k) H Q:=⟨a,z,k,rfl,rfl,hH,h0,h1,q⟩
end
theorem su0{us:List Value}{P:List Value->Prop}(hl:us.length=0)(h:P []):P us:=by cases us with|nil=>exact h|cons a r=>cases hl
theorem su1{us:List Value}{P:List Value->Prop}(hl:us.length=1)(h:∀a,P [a]):P us:=by cases us with|nil=>cases hl|cons a r=>exact su0 (P:=λr=>P (a::r)) (Ue hl) (h a)
theorem su2{us:List Value}{P:List Value->Prop}(hl:us.length=2)(h:∀a b,P [a,b]):P us:=by cases us with|nil=>cases hl|cons a r=>exact su1 (P:=λr=>P (a::r)) (Ue hl) (h a)
theorem su3{us:List Value}{P:List Value->Prop}(hl:us.length=3)(h:∀a b c,P [a,b,c]):P us:=by cases us with|nil=>cases hl|cons a r=>exact su2 (P:=λr=>P (a::r)) (Ue hl) (h a)
theorem su4{us:List Value}{P:List Value->Prop}(hl:us.length=4)(h:∀a b c d,P [a,b,c,d]):P us:=by cases us with|nil=>cases hl|cons a r=>exact su3 (P:=λr=>P (a::r)) (Ue hl) (h a)
theorem su5{us:List Value}{P:List Value->Prop}(hl:us.length=5)(h:∀a b c d e,P [a,b,c,d,e]):P us:=by cases us with|nil=>cases hl|cons a r=>exact su4 (P:=λr=>P (a::r)) (Ue hl) (h a)
section
variable{K:Frag}{fd:FuncData}{a b c d e f:Str}
theorem bi1(h:∀x,bindArgs fd ⟨[x],[]⟩=pure [(a,x)]):Binds K fd [a] []:=.all λus hl=>su1 (P:=λus=>bindArgs fd ⟨us,[]⟩=pure (([a]:List Str).zip us)) hl h
theorem bi2(h:∀x y,bindArgs fd ⟨[x,y],[]⟩=pure [(a,x),(b,y)]):Binds K fd [a,b] []:=.all λus hl=>su2 (P:=λus=>bindArgs fd ⟨us,[]⟩=pure (([a,b]:List Str).zip us)) hl h
theorem bi3(h:∀x y z,bindArgs fd ⟨[x,y,z],[]⟩=pure [(a,x),(b,y),(c,z)]):Binds K fd [a,b,c] []:=.all λus hl=>su3 (P:=λus=>bindArgs fd ⟨us,[]⟩=pure (([a,b,c]:List Str).zip us)) hl h
theorem bi4(h:∀x y z u,bindArgs fd ⟨[x,y,z,u],[]⟩=pure [(a,x),(b,y),(c,z),(d,u)]):Binds K fd [a,b,c,d] []:=.all λus hl=>su4 (P:=λus=>bindArgs fd ⟨us,[]⟩=pure (([a,b,c,d]:List Str).zip us)) hl h
theorem bi5(h:∀x y z u v,bindArgs fd ⟨[x,y,z,u,v],[]⟩=pure [(a,x),(b,y),(c,z),(d,u),(e,v)]):Binds K fd [a,b,c,d,e] []:=.all λus hl=>su5 (P:=λus=>bindArgs fd ⟨us,[]⟩=pure (([a,b,c,d,e]:List Str).zip us)) hl h
end
section
variable{K:Frag}
theorem na_of{C:Addr}{x:Str}(h:findIn K (.ref C) x=some none):a0x K C x:=h
theorem xc_of{nm q:Str}{C N:Addr}{bs bm:List Value}{sn:List Str}{sub:List Value}{ab:Bool}{col:Option Bool}{dd:Option Addr}{k0 k1 k2 k3 k5:Option Value}(h:K.lookup C=some (excClassObj nm q C N bs bm true sn sub ab col dd k0 k1 k2 k3 k5 newS))(h1:bm.contains (.type "ValueError")=true)(h2:bm.contains (.type "BaseException")=true)(h3:bm.contains (.type "AttributeError")=false)(h4:bm.contains (.type "NameError")=false):XCls K C bm:=⟨⟨_,_,_,_,_,_,_,_,_,_,_,_,_,_,h⟩,h1,h2,h3,h4⟩
theorem is_fn{f:Addr}(h:typeIn K (.ref f)=some (.type "function")):isFn K (.ref f)=true:=U6.mpr h
end
section
variable{K:Frag}{fd:FuncData}{a b c:Str}{v:Addr}{od:Option Addr}{n:Nat}{sl:Array (Option Value)}{its:Array Value}{d:Value}
theorem bd3(h:K.lookup v=some ⟨.type "tuple",od,.seq its n,sl⟩)(hd:fd.defaults=.ref v)(h1:∀x y z,∃k:Option (Array Value)->Sem (List (Str×Value)),bindArgs fd ⟨[x,y,z],[]⟩=seqItems? fd.defaults>>=k/\k (some its)=pure [(a,x),(b,y),(c,z)]):Binds K fd [a,b,c] []:=λs us KX hl=>by
 rw[Yg]at hl ⊢;exact su3 (P:=λus=>BindsTo s fd ⟨us,[]⟩ ([a,b,c].zip us)) hl λx y z=>by
  obtain⟨k,e1,e2⟩:=h1 x y z;exact .of_defaults (T:=v) hd (KX _ _ h) rfl e1 e2
theorem bd2(h:K.lookup v=some ⟨.type "tuple",od,.seq its n,sl⟩)(hd:fd.defaults=.ref v)(h1:∀x y,∃k:Option (Array Value)->Sem (List (Str×Value)),bindArgs fd ⟨[x,y],[]⟩=seqItems? fd.defaults>>=k/\k (some its)=pure [(a,x),(b,y),(c,d)]):Binds K fd [a,b,c] [d]:=λs us KX hl=>by
 exact su2 (P:=λus=>BindsTo s fd ⟨us,[]⟩ ([a,b,c].zip (us++[d]))) (by simpa using hl) λx y=>by
  obtain⟨k,e1,e2⟩:=h1 x y;exact .of_defaults (T:=v) hd (KX _ _ h) rfl e1 e2
end
def a3g(X:Cx)(scope:Scope)(x x2:Str)(N':List Str)(C:Addr)(s:Shared)(H:Hp)(fp:List Addr)(pn:List (Addr×Obj)):Cx:={ a2r X scope x N' C s H fp pn with N:=x::x2::N'}
section
variable{X:Cx}{pj:List (Addr×Obj)}{σ:St}{H:Hp}{s:Shared}
structure b4b(X:Cx)(scope:Scope)(x x2:Str)(N':List Str):Prop where
 loc:scope.names.lookup x=some .local
 loc2:scope.names.lookup x2=some .local
 ne:x≠x2
 nocell:∀y∈scope.names,y.2≠.cell
 kind:scope.kind=.function
 names:∀y∈scope.names,y.2=.local->scope.names.lookup y.1=some .local
 free:∀y∈scope.names,y.2=.free->X.env.kindOf y.1=some .cell\/X.env.kindOf y.1=some .free
 nin:x∉N'
 nin2:x2∉N'
 nd:N'.Nodup
 len:N'.length=X.N.length
 sub:∀(i:Nat)(y:Str),N'[i]? =some y->X.N[i]? =some y\/scope.names.lookup y=none
 only:∀y∈scope.names,y.2=.local->y.1=x\/y.1=x2\/y.1∉N'
theorem Inv.compIn2{scope:Scope}{x x2:Str}{N':List Str}{fp:List Addr}{h1:Heap}{tk:Nat}{m:Str->Option Value}(S:b4b X scope x x2 N')(I:Inv X pj σ H s)(hf:∀b∈fp,FpOk X pj H b)(hfl:∀b∈fp,b<s.heap.objs.size)
  (hn:h1.Ns s.heap.objs.size m)(hsb:∀b o,s.heap.get? b=some o->h1.get? b=some o):
  Inv (a3g X scope x x2 N' s.heap.objs.size s H fp (X.pn++pj)) [] (none::none::σ) H { s with heap:=h1,toks:=tk}:=by
 have hcells:∀y∈scope.names,y.2=.free->∃c,X.env.cells.lookup y.1=some c:=λy hy hk=>I.ok.has y.1 (S.free y hy hk)
 have sub:∀y c,(clOf X.env scope.names []).lookup y=some c->X.env.cells.lookup y=some c:=λy c e=>b1j _ _ y c hcells (λz d q=>by simp at q) e
 have lk:∀(y:Str)(k:NameKind),(relabel scope X.env).names.lookup y=some k->k=.cell\/k=.free->scope.names.lookup y=some .free:=λy k e hk=>by
  rw[a3f]at e;cases q:scope.names.lookup y with
  |none=>rw[q]at e;cases e
  |some k0=>
   rw[q]at e;have e':(if(k0==NameKind.free&&X.env.scope.kind==.function&&X.env.kindOf y==some .cell)=true then NameKind.cell else k0)=k:=Zw e
   by_cases hc:(k0==NameKind.free&&X.env.scope.kind==.function&&X.env.kindOf y==some .cell)=true
   ·simp only[Xp]at hc;rw[eq_of_beq hc.1.1]
   ·rw[if_neg hc]at e';subst e';rcases hk with hk|hk
    ·exact absurd hk (S.nocell _ (Yp q))
    ·rw[hk]
 have lt:∀{b:Addr}{o:Obj},s.heap.get? b=some o->b≠s.heap.objs.size:=λe=>Z1 (Zs e)
 refine⟨⟨I.ok.mod,by show(relabel scope X.env).kind=_;exact S.kind,I.ok.glob,I.ok.blt,Zn _,λy z c e1 e2=>I.ok.inj y z c (sub y c e1) (sub z c e2),λy hy=>?_,λy c hz=>(by cases hz),I.ok.hd,I.ok.frames,.inl rfl,
  λb hb=>⟨Z1 (hfl b hb),λy c e=>(hf b hb).2.2.2.2.1 y c (sub y c e)⟩,I.bs,Yn I.ok.bsz I.sz,λb o e hb=>?_,λb hb hz=>?_,I.stack,I.stkFree⟩,
  rfl,I.bare,Un.kept hsb,⟨m,hn,λi y v h1 h2 h3=>?_⟩,λy c e=>?_,I.hok.fresh (Zn _),λy c e=>I.freeC y c (sub y c e),λp hp=>?_,I.hok.kept hsb,?_⟩
 ·have hy:(relabel scope X.env).names.lookup y=some .cell\/(relabel scope X.env).names.lookup y=some .free:=hy;have q:scope.names.lookup y=some .free:=hy.elim (λz=>lk y _ z (.inl rfl)) λz=>lk y _ z (.inr rfl)
  exact a6r _ _ y (Yp q)
 ·obtain⟨_,_,_,f3,_,_⟩:=hf b hb;rcases f3 with f3|f3
  ·exact I.ok.noex b o e f3
  ·exact absurd (Yc (Zs e) (Yn I.ok.bsz f3)) (Xo _)
 ·have hz:b∈frs X.stack:=hz;obtain⟨_,f1,f2,_⟩:=hf b hb;rcases Zu.mp (I.stkSub b hz)with z|z
  ·exact f1 z
  ·exact f2 z
 ·rcases i with _|_|i
  ·simp at h2
  ·simp at h2
  ·have h1:N'[i]? =some y:=by simpa[a3g]using h1
   have h2:σ[i]? =some (some v):=by simpa using h2
   have hne:N'[i]? ≠some x:=λz=>S.nin (Y4 z)
   have hne2:N'[i]? ≠some x2:=λz=>S.nin2 (Y4 z)
   have h3:Vis (relabel scope X.env) y:=h3;obtain⟨m',hn',hl'⟩:=I.loc;have q:scope.names.lookup y=some .free:=by
    rcases h3 with z|z|z
    ·exfalso
     rw[a3f]at z;cases q:scope.names.lookup y with
     |none=>rw[q]at z;cases z
     |some k0=>
      rw[q]at z;have e':(if(k0==NameKind.free&&X.env.scope.kind==.function&&X.env.kindOf y==some .cell)=true then NameKind.cell else k0)=.local:=Zw z
      by_cases hc:(k0==NameKind.free&&X.env.scope.kind==.function&&X.env.kindOf y==some .cell)=true
      ·rw[if_pos hc]at e';cases e'
      ·rw[if_neg hc]at e';subst e';rcases S.only _ (Yp q) rfl with w|w|w
       ·exact hne (by rw[h1];exact Xn some w)
       ·exact hne2 (by rw[h1];exact Xn some w)
       ·exact w (Y4 h1)
    ·exact lk y _ z (.inl rfl)
    ·exact lk y _ z (.inr rfl)
   obtain⟨c,hc⟩:=a6r (env:=X.env) scope.names [] y (Yp q);have hk:X.env.kindOf y=some .cell\/X.env.kindOf y=some .free:=S.free _ (Yp q) rfl;have h1':X.N[i]? =some y:=(S.sub i y h1).resolve_right λz=>by rw[q]at z;cases z
   obtain⟨u,r,l⟩:=hl' i y v h1' h2 (.inr hk);refine⟨u,r,?_⟩;have kd:(compEnvC scope (clOf X.env scope.names []) s.heap.objs.size X.env).kindOf y=some .cell\/(compEnvC scope (clOf X.env scope.names []) s.heap.objs.size X.env).kindOf y=some .free:=by
    rcases h3 with z|z|z
    ·exfalso
     rw[a3f,q]at z;have e':(if(NameKind.free==NameKind.free&&X.env.scope.kind==.function&&X.env.kindOf y==some .cell)=true then NameKind.cell else NameKind.free)=.local:=Zw z
     by_cases hc:(NameKind.free==NameKind.free&&X.env.scope.kind==.function&&X.env.kindOf y==some .cell)=true
     ·rw[if_pos hc]at e';cases e'
     ·rw[if_neg hc]at e';cases e'
    ·exact .inl z
    ·exact .inr z
   rcases l with⟨a,_⟩|⟨_,c',hc',ic⟩
   ·rcases hk with k|k<;>(rw[k]at a;cases a)
   ·have e:X.env.cells.lookup y=some c:=sub y c hc;rw[e]at hc';cases hc';obtain⟨o,ho,hd⟩:=ic;exact .inr ⟨kd,c,hc,⟨o,hsb _ _ ho,hd⟩⟩
 ·obtain⟨v,o,ho,hd⟩:=I.cell y c (sub y c e);exact⟨v,o,hsb _ _ ho,hd⟩
 ·have hp:p∈X.pn++pj:=by
   have hp:p∈(X.pn++pj)++[]:=hp;rwa[Yg]at hp
  obtain⟨e,n,ne,nf,d⟩:=I.pin p hp;refine⟨hsb _ _ e,n,lt e,λhz=>?_,d⟩;have hz:p.1∈frs X.stack:=hz;rcases Zu.mp (I.stkSub _ hz)with z|z
  ·exact ne z
  ·exact nf z
 ·show(none::none::σ).length=(x::x2::N').length
  rw[length_cons,length_cons,length_cons,length_cons,I.len,S.len]
def b6z(K:W.Frag)(J:It)(te:TE)(σ:St)(Q:VK)(D:Addr)(H1:Hp):Prop:=∃W:Nat->Nat->List V->Hp->Prop,(∃m,W 0 m [] (upd H1 D (.lst [])))/\
 ∀i m ys H',W i m ys H'->(J.stop i H'/\Q (.ref D) H')\/(J.go i H'/\∀v H2,J.yld i H' v H2->∃a y1 y2,v=.ref a/\SqT K H2 a [y1,y2]/\te (some y1::some y2::σ) H2 λy H4=>H4 D=some (.lst ys)/\ys.length<sizeLine/\∃m',m'<m/\W (i+1) m' (ys++[y]) (upd H4 D (.lst (ys++[y]))))
def c9b(K:W.Frag)(wi:TI)(te:TE):TE:=λσ H Q=>wi σ H λJ H1=>∀D,H1 D=none->b6z K J te σ Q D H1
theorem c5v{elt iter:Expr}{x x2:Str}{N':List Str}{px px2 pt:Pos}{kt:Nat}{scope:Scope}{pos:Pos}{te:TE}(hc:X.calm=true)(S:b4b X scope x x2 N')
  (he:∀C s H fp pn,PE (a3g X scope x x2 N' C s H fp pn) elt te){Q:VK}{itv:Value}{s2:Shared}{RR:Value->Addr->Result->Shared->Prop}
  (h2:PIE X pj σ (.Tuple [.Name x px,.Name x2 px2] kt pt) (λJ H1=>∀D,H1 D=none->b6z X.K J te σ Q D H1) itv s2)
  (hend:∀(D C:Addr)(H6:Hp)(s7:Shared)(m7:Str->Option Value),Inv X pj σ H6 s7->s7.heap.Ns C m7->FpOk X pj H6 C->Q (.ref D) H6->RR (.ref D) C (.ok .next) s7):
  wpAny (model X.prog X.w) X.A (newList []) (λacc s3=>wpAny (model X.prog X.w) X.A (newFunctionEnv scope X.env.globals (clOf X.env scope.names []) [] X.env.qual none .none (some X.env)) (λcenv s4=>
   codeAny (model X.prog X.w) X.A (.compStart (.ListComp elt [⟨.Tuple [.Name x px,.Name x2 px2] kt pt,iter,[],0⟩] scope pos) 0 itv acc { cenv with scope:=relabel scope X.env}) (RR acc cenv.locals) s4) X.xe s3) X.xe s2:=by
 obtain⟨it,fp,tn,J,H2,e,I2,T,st2,f2,hW⟩:=h2;subst e;have hlt:∀b∈fp,b<s2.heap.objs.size:=λb hb=>by
  obtain⟨o,ho,_⟩:=T.obj _ _ st2 b hb;exact Zs ho
 obtain⟨W,⟨m0,w0⟩,hturn⟩:=hW s2.heap.objs.size (I2.hok.fresh (Zn _));refine Wo ?_ (by show 0<=sizeLine;exact Z0 _);have I3:Inv X pj σ (upd H2 s2.heap.objs.size (.lst [])) { s2 with heap:=s2.heap.push { cls:=.type "list",data:=.seq ([]:List Value).toArray}}:=I2.lnew (t':=s2.toks) .nil (Z0 _);have f3:∀b∈fp,FpOk X pj (upd H2 s2.heap.objs.size (.lst [])) b:=λb hb=>by
  obtain⟨g0,g⟩:=f2 b hb;exact⟨by rw[a0f (Z1 (hlt b hb))];exact g0,g⟩
 have st3:tn 0 (s2.heap.push { cls:=.type "list",data:=.seq ([]:List Value).toArray}):=T.keep _ _ _ st2 λb _ o e=>Zk _ e
 have hlt3:∀b∈fp,b<(s2.heap.push { cls:=.type "list",data:=.seq ([]:List Value).toArray}).objs.size:=λb hb=>by rw[Y9];exact Vb (hlt b hb)
 generalize hs3:({ s2 with heap:=s2.heap.push { cls:=.type "list",data:=.seq ([]:List Value).toArray}}:Shared)=s3 at I3;have eh:s3.heap=s2.heap.push { cls:=.type "list",data:=.seq ([]:List Value).toArray}:=by rw[<-hs3]
 rw[<-eh]at st3 hlt3
 show wpAny _ _ (newFunctionEnv scope X.env.globals (clOf X.env scope.names []) [] X.env.qual none .none (some X.env)) _ _ _
 refine Rp S.nocell (by intro y hy;simp at hy) (λh4 hns4 hsb4=>?_) S.kind;have hk4:∀b o,s3.heap.get? b=some o->h4.get? b=some o:=λb o e=>(hsb4.2 b (Z1 (Zs e))).trans (Zk _ e)
 have I4:=Inv.compIn2 (tk:=s3.toks+([]:List (Str×Value)).length) S I3 f3 hlt3 hns4 hk4;have st4:tn 0 h4:=T.keep _ _ _ st3 λb _ o e=>hk4 b o e
 have fx:∀{H':Hp},(∀b∈fp,H' b=none)->∀b∈fp,FpOk (a3g X scope x x2 N' s3.heap.objs.size s3 (upd H2 s2.heap.objs.size (.lst [])) fp (X.pn++pj)) [] H' b:=λ{H'} hn b hb=>by
  obtain⟨_,g1,g2,g3,g4,g5⟩:=f3 b hb;refine⟨hn b hb,Z1 (hlt3 b hb),I4.ok.exfs b hb,.inl hb,λy c e=>(I4.ok.exf b hb).2 y c e,λp hp=>g5 p ?_⟩;have hp:p∈(X.pn++pj)++[]:=hp;rwa[Yg]at hp
 have loop:∀s5:Shared,(∃(i n:Nat)(o o2:Option V)(ys:List V)(H5:Hp),Inv (a3g X scope x x2 N' s3.heap.objs.size s3 (upd H2 s2.heap.objs.size (.lst [])) fp (X.pn++pj)) [] (o::o2::σ) H5 s5/\tn i s5.heap/\(∀b∈fp,H5 b=none)/\W i n ys H5)->
   codeAny (model X.prog X.w) X.A (.compLoop (.ListComp elt [⟨.Tuple [.Name x px,.Name x2 px2] kt pt,iter,[],0⟩] scope pos) 0 (.ref it) (.ref s2.heap.objs.size) (compEnvC scope (clOf X.env scope.names []) s3.heap.objs.size X.env))
    (RR (.ref s2.heap.objs.size) s3.heap.objs.size) s5:=by
  rintro s5 ⟨i5,n5,o5,o25,ys5,H5,I5,st5,fr5,w5⟩
  refine b9n (λn s'=>∃(i:Nat)(o o2:Option V)(ys:List V)(H5:Hp),Inv (a3g X scope x x2 N' s3.heap.objs.size s3 (upd H2 s2.heap.objs.size (.lst [])) fp (X.pn++pj)) [] (o::o2::σ) H5 s'/\tn i s'.heap/\(∀b∈fp,H5 b=none)/\W i n ys H5) ?_ n5 ⟨i5,o5,o25,ys5,H5,I5,st5,fr5,w5⟩
  rintro n s6 ⟨i,o,o2,ys,H6,I6,st6,fr6,w6⟩
  rcases hturn i n ys H6 w6 with⟨stop,qn⟩|⟨go,step⟩
  ·refine thn (T.done (a3g X scope x x2 N' s3.heap.objs.size s3 (upd H2 s2.heap.objs.size (.lst [])) fp (X.pn++pj)) rfl rfl rfl hc i [] s6 _ H6 _ I6 (fx fr6) st6 stop) λr s7 ⟨hr,I7⟩=>?_
   subst hr;obtain⟨m7,hn7,_⟩:=id I7.loc;have I8:Inv X pj σ H6 s7:=I3.call' I7.os I7.base I7.hok I7.bare λb hb=>by
    obtain⟨_,g1,g2,g3,g4,g5⟩:=f3 b hb;exact⟨g3,g1,g4,g5⟩
   have f8:FpOk X pj H6 s3.heap.objs.size:=I3.fpOk (Zn _) I7.free;exact hend _ _ H6 s7 m7 I8 hn7 f8 qn
  ·refine thn (T.item (a3g X scope x x2 N' s3.heap.objs.size s3 (upd H2 s2.heap.objs.size (.lst [])) fp (X.pn++pj)) rfl rfl rfl hc i [] s6 _ H6 _ I6 (fx fr6) st6 go) λr s7 ⟨u,hr,h7⟩=>?_
   subst hr;refine thn h7 λ_ s8 z9=>?_
   obtain⟨v,H8,I8,r8,y8,st8,fr8⟩:=z9;have I8':=I8.pinned (fx fr8) (T.obj _ _ st8);obtain⟨aT,y1,y2,ev,hsT,step⟩:=step v H8 y8;have nd2:(x::x2::N').Nodup:=Xv.mpr ⟨λz=>(Zu.mp z).elim S.ne S.nin,Xv.mpr ⟨S.nin2,S.nd⟩⟩;have g1:PG (a3g X scope x x2 N' s3.heap.objs.size s3 (upd H2 s2.heap.objs.size (.lst [])) fp (X.pn++pj)) (.Name x px) (b1c 0):=a1f nd2 rfl (.inl (Wp S.loc)) (.inr (Wp S.loc));have g2:PG (a3g X scope x x2 N' s3.heap.objs.size s3 (upd H2 s2.heap.objs.size (.lst [])) fp (X.pn++pj)) (.Name x2 px2) (b1c 1):=a1f nd2 rfl (.inl (Wp S.loc2)) (.inr (Wp S.loc2));have g3:=c6w (X:=a3g X scope x x2 N' s3.heap.objs.size s3 (upd H2 s2.heap.objs.size (.lst [])) fp (X.pn++pj)) (k:=kt) (pos:=pt) (n:=2) hc (a1j g1 (a1j g2 a3k));refine thn (g3 _ s8 _ H8 v u (λσ' H'=>σ'=some y1::some y2::σ/\H'=H8) I8' r8 ⟨aT,[y1,y2],ev,hsT,rfl,y1,[y2],rfl,?_⟩) λ_ s9 ⟨σ9,H9,I9,e9,e9'⟩=>?_
   ·show gCons (b1c 1) gNil [y2] (some y1::o2::σ) H8 _
    exact⟨y2,[],rfl,rfl,rfl,rfl⟩
   subst e9 e9';refine wpAny_tests_nil ?_;rw[if_pos rfl];refine thn (he _ _ _ _ _ _ s9 (some y1::some y2::σ) H9 _ I9 step) λy s11 z9=>?_
   obtain⟨yv,H11,I11,r11,hD,hz,m',hm,w'⟩:=z9;have ap:=b2m (X:=a3g X scope x x2 N' s3.heap.objs.size s3 (upd H2 s2.heap.objs.size (.lst [])) fp (X.pn++pj)) _ s11 (some y1::some y2::σ) H11 (.ref s2.heap.objs.size) [yv] (.ref s2.heap.objs.size) [y] (λ_ H'=>W (i+1) m' (ys++[yv]) H') I11 rfl (.cons r11 .nil) ⟨_,ys,yv,rfl,rfl,hD,hz,w'⟩;refine thn ap λ_ s12 ⟨_,H12,I12,_,w12⟩=>⟨m',hm,i+1,some y1,some y2,_,H12,I12.unpinned,T.keep _ _ _ st8 λb hb o e=>(I12.pin (b,o) (Yl _ (Yl _ (a4y hb e)))).1,λb hb=>?_,w12⟩
   obtain⟨o,e,d⟩:=T.obj _ _ st8 b hb;exact(I12.pin (b,o) (Yl _ (Yl _ (a4y hb e)))).2.1
 have l4:=loop { s3 with heap:=h4,toks:=s3.toks+([]:List (Str×Value)).length} ⟨0,m0,none,none,[],_,I4,st4,λb hb=>(f3 b hb).1,w0⟩;exact S8 l4 (T.self _ _ _ _ _ st4 l4)
end
def c4t(sc scope:Scope)(N N':List Str)(x x2:Str):Bool:=
 decide (scope.names.lookup x=some .local)&&decide (scope.names.lookup x2=some .local)&&decide (x≠x2)&&scope.names.all (λy=>decide (y.2≠.cell))&&decide (scope.kind=.function)&&scope.names.all (λy=>decide (y.2=.local->scope.names.lookup y.1=some .local))&&
 scope.names.all (λy=>decide (y.2=.free->sc.names.lookup y.1=some .cell\/sc.names.lookup y.1=some .free))&&decide (x∉N')&&decide (x2∉N')&&decide N'.Nodup&&decide (N'.length=N.length)&&
 (List.range N'.length).all (λi=>match N'[i]? with|some y=>decide (N[i]? =some y\/scope.names.lookup y=none)|none=>true)&&scope.names.all (λy=>decide (y.2=.local->y.1=x\/y.1=x2\/y.1∉N'))
theorem d2r{X:Cx}{scope:Scope}{x x2:Str}(sc:Scope)(N N':List Str)(hsc:X.env.scope=sc)(hN:X.N=N)(h:c4t sc scope N N' x x2=true):b4b X scope x x2 N':=by
 subst hsc hN;unfold c4t at h;simp only[Xp,X0,Tw]at h;obtain⟨⟨⟨⟨⟨⟨⟨⟨⟨⟨⟨⟨h1,g1⟩,g2⟩,h2⟩,h3⟩,h4⟩,h5⟩,h6⟩,g3⟩,h7⟩,h7'⟩,h8'⟩,h8⟩:=h;refine⟨h1,g1,g2,h2,h3,h4,h5,h6,g3,h7,h7',λi y e=>?_,h8⟩;have hi:i<N'.length:=(Yi.mp e).1;have z:=h8' i (Wh.mpr hi);rw[e]at z;exact Z8 z
theorem d2s{K:FG}{wi:TI}{te:TE}{σ:St}{H:Hp}{Q:VK}(k:wi σ H λJ H1=>∀D,H1 D=none->b6z K J te σ Q D H1):c9b K wi te σ H Q:=k
theorem kt_at{H:Hp}{kvs:List (List Key×V)}{xs:List (List Key×Addr×Value)}(h:KT H kvs xs):kvs.length=xs.length:=by
 induction h with
 |nil=>rfl
 |cons _ _ ih=>rw[length_cons,length_cons,ih]
section
variable{prog:Program}{w:World}{K:Type}[DecidableEq K]{knd:HeapKind prog w K}{A:Around}{E:Value->Shared->Prop}{s:Shared}
theorem c9c{d a:Addr}{xs:List (K×Addr×Value)}{k:K}{v:Value}{Q:Value->Shared->Prop}(hu:knd.room A)(hkey:knd.is s.heap k a)(hm:s.heap.DictOfH knd d xs)(hsz:xs.length<=sizeLine)
  (h1:∀p,atKey xs k=some p->Q p.2 { s with toks:=s.toks+knd.draws k})
  (h2:atKey xs k=none->∀h',h'.DictOfH knd d (storedH xs k a v)->Heap.SameBut d s.heap h'->Q v { s with heap:=h',toks:=s.toks+knd.draws k}):
  wpAny (model prog w) A (dictSetDefault d (.ref a) v) Q E s:=by
 obtain⟨o,es,ep,ho,hc,hd,he,his,hn⟩:=hm;unfold dictSetDefault
 try with_reducible refine Y7 ?_
 refine Zi (knd.pyHash hu hkey ?_);refine Zi (wpAny_dictFind_heap (s:={ s with toks:=s.toks+knd.draws k}) hu hkey ho hd he his hn ?_ ?_)
 ·intro hno;have hnot:k∉xs.map (·.1):=not_mem_keys_of_get hno
  refine Zi (Vd (Zi (Ro (hz:=by have e:=size_of_entries he;omega) (s:={ s with toks:=s.toks+knd.draws k}) ho hd (Zp (h2 (Uo hno) _ ⟨_,_,ep+1,Ym _ ho (R5 (V4 hd _)),
   hc.mapDictKeys _,V4 hd _,?_,?_,?_⟩ (Vh ..))))))
  ·rw[Rr (Uo hno)]
   simp[he,entryOfKey]
  ·rw[Rr (Uo hno)];intro x hx;rcases Yt.mp hx with hx|hx
   ·exact knd.keeps (his x hx) ho hd (Vh ..)
   ·simp only[Zq]at hx;subst hx;exact knd.keeps hkey ho hd (Vh ..)
  ·rw[Rr (Uo hno)];rw[Zo,Xq];refine⟨hn,qz,?_⟩;intro x hx y hy;simp only[Z5,U8,Zq]at hy;subst hy;exactλe=>hnot (e▸hx)
 ·intro j p hj;refine Zi (wpAny_dictEntries (s:={ s with toks:=s.toks+knd.draws k}) ho hd ?_);rw[entry_at he j,hj];exact Zi (Vd (Zp (h1 p (atKey_of_get hn hj))))
theorem c3m(knd:HeapKind prog w K){k:K}{b:Addr}(d:Addr)(hd:(d==sysModules)=false)(dflt:Value):
  MeetsIn prog w (Builtin.«dict.setdefault» ⟨[.ref d,.ref b,dflt],[]⟩) (λA R s=>knd.room A.in1/\∃xs,knd.is s.heap k b/\s.heap.DictOfH knd d xs/\xs.length<=sizeLine/\
   (∀p,atKey xs k=some p->R (.ok (.ret p.2)) { s with toks:=s.toks+knd.draws k})/\
   (atKey xs k=none->∀h',h'.DictOfH knd d (storedH xs k b dflt)->Heap.SameBut d s.heap h'->R (.ok (.ret dflt)) { s with heap:=h',toks:=s.toks+knd.draws k})):=
 .of_wp λA R s ⟨hu,xs,hk,hm,hz,h1,h2⟩=>by
  unfold Builtin.«dict.setdefault»;refine Zi ?_;unfold Builtin.Dict.keyAndDefault;refine Zi (Rc hm.typeIs ?_)
  show wpAny _ _ (pure (d,Value.ref b,some dflt)) _ _ s
  refine Zp ?_
  show wpAny _ _ (if(d==sysModules)=true then _ else(dictSetDefault d (.ref b) dflt>>=_)) _ _ s
  rw[if_neg (by rw[hd];exact Zr)];exact Zi (c9c hu hk hm hz (λp hp=>Zp ⟨p.2,rfl,h1 p hp⟩) λhn h' hm' hs'=>Zp ⟨dflt,rfl,h2 hn h' hm' hs'⟩)
end
section
variable{X:Cx}
def c1z:V->List V->Hp->VK->Prop:=λx vs H Q=>∃(a b:Addr)(kvs:List (List Key×V))(k:List Key)(d:V),x=.ref a/\vs=[.ref b,d]/\H a=some (.dT kvs)/\H b=some (.tup (k.map kV))/\kvs.length<sizeLine/\(∀v,valV kvs k=some v->Q v H)/\(valV kvs k=none->Q d (upd H a (.dT (putK kvs k d))))
theorem d2t(hu:X.A.units+150<cLine):MtR X "dict.setdefault" c1z:=by
 intro pj s σ H x vs v us Q I rx rv h;obtain⟨a,b,kvs,k,d,rfl,rfl,ha,hb,hz,q1,q2⟩:=h;cases rx;obtain⟨u,u',rfl,r1,r2⟩:=c0q rv;cases r1;obtain⟨z1,d1,xs,rel,dd⟩:=dt_of I.hok ha;have hl:=kt_at rel;refine Tx Rb dd.typeIs F.entry_dict_setdefault (F.args_dict_setdefault_3 _ _ _) (c3m (tupleKind (a1p X.prog X.w)) (k:=k) a d1 u')
  ⟨W4 qo,xs,a8m I.hok hb,dd,qo,λp hp=>?_,λhn h' dd' hs=>?_⟩
 ·have hr:=rel.val k;rw[hp]at hr;cases hv:valV kvs k with
  |none=>rw[hv]at hr;cases hr
  |some y=>
   rw[hv]at hr;obtain⟨y',e1,r3⟩:=RelO.some_of hr;cases e1;exact⟨y,H,I.tok _,r3,q1 y hv⟩
 ·have hr:=rel.val k;rw[hn]at hr;cases hv:valV kvs k with
  |some y=>rw[hv]at hr;obtain⟨_,e1,_⟩:=RelO.some_of hr;cases e1
  |none=>
   refine⟨d,_,?_,r2,q2 hv⟩;have hl:(putK kvs k d).length<=sizeLine:=by have:=a9r kvs k d;omega
   obtain⟨o,es,ep,hq,h2,h3,h4,_,h5⟩:=dd';refine b3x I (by rw[ha];exact True.intro) hs ⟨o,hq⟩ ⟨hl,d1,_,(KT.put rel k hb r2).keeps λc ys ec=>?_,o,es,ep,hq,h2,h3,h4,h5⟩;rw[a0f (a1a ec ha (λz=>nomatch z))];exact ec
theorem d2u{a b:Addr}{kvs:List (List Key×V)}{k:List Key}{d:V}{H:Hp}{Q:VK}(ha:H a=some (.dT kvs))(hb:H b=some (.tup (k.map kV)))(hz:kvs.length<sizeLine)(q1:∀v,valV kvs k=some v->Q v H)(q2:valV kvs k=none->Q d (upd H a (.dT (putK kvs k d)))):c1z (.ref a) [.ref b,d] H Q:=⟨a,b,kvs,k,d,rfl,rfl,ha,hb,hz,q1,q2⟩
def mPopK:V->List V->Hp->VK->Prop:=λx vs H Q=>∃(a:Addr)(kvs:List (Key×V))(k:Key)(v:V),x=.ref a/\vs=[kV k]/\H a=some (.dK kvs)/\valV kvs k=some v/\Q v (upd H a (.dK (a4l kvs k)))
theorem mm_popK:MtR X "dict.pop" mPopK:=by
 intro pj s σ H x vs v us Q I rx rv h;obtain⟨a,kvs,k,y,rfl,rfl,ha,hv,q⟩:=h;cases rx;obtain⟨u,rfl,r1⟩:=vals1 rv;exact d_pop I ha r1 hv (.inl rfl) λw' s' I' r=>⟨y,_,I',r,q⟩
theorem mPopK_i{a:Addr}{kvs:List (Key×V)}{k:Key}{v y:V}{H:Hp}{Q:VK}(ey:y=kV k)(ha:H a=some (.dK kvs))(hv:valV kvs k=some v)(q:Q v (upd H a (.dK (a4l kvs k)))):mPopK (.ref a) [y] H Q:=⟨a,kvs,k,v,rfl,by rw[ey],ha,hv,q⟩
end
mutual
inductive Dx(K:W.Frag)(H:Hp):V->PyData->Prop
 |non:Dx K H .non .none
 |bl (b:Bool):Dx K H (.bl b) (.bool b)
 |int (i:Int):Dx K H (.int i) (.int i)
 |str (x:Str):Dx K H (.str x) (.str x)
 |tup {a:Addr} {us:List V} {ds:List PyData}:SqT K H a us->DxL K H us ds->Dx K H (.ref a) (.tuple ds)
 |lst {a:Addr} {us:List V} {ds:List PyData}:SqL K H a us->DxL K H us ds->Dx K H (.ref a) (.list ds)
inductive DxL(K:W.Frag)(H:Hp):List V->List PyData->Prop
 |nil:DxL K H [] []
 |cons {u:V} {us:List V} {d:PyData} {ds:List PyData}:Dx K H u d->DxL K H us ds->DxL K H (u::us) (d::ds)
end
mutual
theorem Den.dx{K:FG}{H:Hp}:∀{v:V}{d:PyData},Den K H v d->Dx K H v d
 |_,_,.non=>.non
 |_,_,.bl b=>.bl b
 |_,_,.int i=>.int i
 |_,_,.str x=>.str x
 |_,_,.tup h l=>.tup h (DenL.dx l)
theorem DenL.dx{K:FG}{H:Hp}:∀{v:List V}{d:List PyData},DenL K H v d->DxL K H v d
 |_,_,.nil=>.nil
 |_,_,.cons h l=>.cons (Den.dx h) (DenL.dx l)
end
mutual
theorem Dx.monoT{K:FG}{H H':Hp}(e:∀a xs,SqT K H a xs->SqT K H' a xs)(f:∀a xs,SqL K H a xs->SqL K H' a xs):∀{v:V}{d:PyData},Dx K H v d->Dx K H' v d
 |_,_,.non=>.non
 |_,_,.bl b=>.bl b
 |_,_,.int i=>.int i
 |_,_,.str x=>.str x
 |_,_,.tup h l=>.tup (e _ _ h) (DxL.monoT e f l)
 |_,_,.lst h l=>.lst (f _ _ h) (DxL.monoT e f l)
theorem DxL.monoT{K:FG}{H H':Hp}(e:∀a xs,SqT K H a xs->SqT K H' a xs)(f:∀a xs,SqL K H a xs->SqL K H' a xs):∀{v:List V}{d:List PyData},DxL K H v d->DxL K H' v d
 |_,_,.nil=>.nil
 |_,_,.cons h l=>.cons (Dx.monoT e f h) (DxL.monoT e f l)
end
section
variable{K:W.Frag}{H:Hp}
theorem DxL.length:∀{us:List V}{ds:List PyData},DxL K H us ds->us.length=ds.length
 |_,_,.nil=>rfl
 |_,_,.cons _ l=>by rw[length_cons,length_cons,DxL.length l]
theorem DxL.get:∀{us:List V}{ds:List PyData}{i:Nat}{u:V},DxL K H us ds->us[i]? =some u->∃d,ds[i]? =some d/\Dx K H u d
 |_,_,_,_,.nil,e=>by simp at e
 |_,_,0,_,.cons h _,e=>by simp at e;subst e;exact⟨_,rfl,h⟩
 |_,_,i+1,u,.cons _ l,e=>by
  obtain⟨d,h1,h2⟩:=DxL.get (i:=i) (u:=u) l (by simpa using e);exact⟨d,by simpa using h1,h2⟩
end
section
variable{X:Cx}{pj:List (Addr×Obj)}{σ:St}{H:Hp}{s:Shared}
theorem d2v(I:Inv X pj σ H s):∀(n:Nat)(A:Around)(d:PyData)(v v':V)(u u':Value),d.depth<=n->A.units+n<cLine->Dx X.K H v d->Dx X.K H v' d->RelV v u->RelV v' u'->SeqAt.EqAt A s u u' true:=by
 intro n
 induction n with
 |zero=>
  intro A d v v' u u' hd hu h h' r r';cases h with
  |non=>cases h';cases r;cases r';exact Wc _
  |bl b=>cases h';cases r;cases r';exact Wc _
  |int i=>
   cases h';obtain⟨t,rfl⟩:=r;obtain⟨t',rfl⟩:=r';have:=Uh (A:=A) (s:=s) i t i t'
   simpa using this
  |str x=>
   cases h';obtain⟨t,rfl⟩:=r;obtain⟨t',rfl⟩:=r';have:=Ug (A:=A) (s:=s) x t x t'
   simpa using this
  |tup _ _=>simp[PyData.depth]at hd
  |lst _ _=>simp[PyData.depth]at hd
 |succ n ih=>
  intro A d v v' u u' hd hu h h' r r';cases h with
  |non=>cases h';cases r;cases r';exact Wc _
  |bl b=>cases h';cases r;cases r';exact Wc _
  |int i=>
   cases h';obtain⟨t,rfl⟩:=r;obtain⟨t',rfl⟩:=r';have:=Uh (A:=A) (s:=s) i t i t'
   simpa using this
  |str x=>
   cases h';obtain⟨t,rfl⟩:=r;obtain⟨t',rfl⟩:=r';have:=Ug (A:=A) (s:=s) x t x t'
   simpa using this
  | @tup a us ds hs hl=>
   cases h' with
   | @tup b us' _ hs' hl'=>
    cases r;cases r'
    by_cases e:a=b
    ·subst e;exact Wc _
    ·obtain⟨its,rv,p,_⟩:=I.tuple hs;obtain⟨its',rv',p',_⟩:=I.tuple hs';have l1:=rv.length;have l2:=rv'.length;have l3:=hl.length;have l4:=hl'.length;have hd':PyData.depthAll ds<=n:=by simp only[PyData.depth]at hd;omega
     have key:=SeqAt.RcAt.tuples (A:=A) (e:=λ_=>true) (show s.heap.IsTuple a its.toArray from p) (show s.heap.IsTuple b its'.toArray from p') qo (λj h1 h2=>by
      have h1:j<its.length:=by simpa using h1
      have h2:j<its'.length:=by simpa using h2
      have x1:us[j]? =some us[j]:=Zj qo
      have x2:us'[j]? =some us'[j]:=Zj qo
      obtain⟨d,e1,d1⟩:=hl.get x1;obtain⟨d',e2,d2⟩:=hl'.get x2;rw[e1]at e2;cases e2;obtain⟨w1,y1,z1⟩:=rv.get x1;obtain⟨w2,y2,z2⟩:=rv'.get x2;have q1:its.toArray[j]=w1:=by
       have:=Zj h1;rw[y1]at this
       simpa using(Zw this).symm
      have q2:its'.toArray[j]=w2:=by
       have:=Zj h2;rw[y2]at this
       simpa using(Zw this).symm
      rw[q1,q2]
      exact ih A.in1 d _ _ _ _ (Yn (a4p e1) hd') (by show A.units+1+n<cLine;omega) d1 d2 z1 z2)
     have e3:its.toArray.size=its'.toArray.size:=by simp only[Zm];omega
     rw[e3]at key;have e4:((List.range (min its'.toArray.size its'.toArray.size)).all (λ_=>true)&&its'.toArray.size==its'.toArray.size)=true:=by simp
     rw[e4]at key;exact Tq e key
  | @lst a us ds hs hl=>
   cases h' with
   | @lst b us' _ hs' hl'=>
    cases r;cases r'
    by_cases e:a=b
    ·subst e;exact Wc _
    ·obtain⟨its,rv,p,_⟩:=I.list hs;obtain⟨its',rv',p',_⟩:=I.list hs';have l1:=rv.length;have l2:=rv'.length;have l3:=hl.length;have l4:=hl'.length;have hd':PyData.depthAll ds<=n:=by simp only[PyData.depth]at hd;omega
     have key:=SeqAt.RcAt.lists (A:=A) (e:=λ_=>true) p.isList p'.isList (by simp only[Zm];omega) qo (λj h1 h2=>by
      have h1:j<its.length:=by simpa using h1
      have h2:j<its'.length:=by simpa using h2
      have x1:us[j]? =some us[j]:=Zj qo
      have x2:us'[j]? =some us'[j]:=Zj qo
      obtain⟨d,e1,d1⟩:=hl.get x1;obtain⟨d',e2,d2⟩:=hl'.get x2;rw[e1]at e2;cases e2;obtain⟨w1,y1,z1⟩:=rv.get x1;obtain⟨w2,y2,z2⟩:=rv'.get x2;have q1:its.toArray[j]=w1:=by
       have:=Zj h1;rw[y1]at this
       simpa using(Zw this).symm
      have q2:its'.toArray[j]=w2:=by
       have:=Zj h2;rw[y2]at this
       simpa using(Zw this).symm
      rw[q1,q2]
      exact ih A.in1 d _ _ _ _ (Yn (a4p e1) hd') (by show A.units+1+n<cLine;omega) d1 d2 z1 z2)
     have e4:((List.range its.toArray.size).all (λ_=>true))=true:=by simp
     rw[e4]at key;exact Tq e key
end
section
variable{X:Cx}
def dEqX(K:W.Frag)(n:Bool):R2:=λx y H Q=>∃(p q:Addr)(us us':List V)(ds:List PyData),x=.ref p/\y=.ref q/\((SqT K H p us/\SqT K H q us')\/(SqL K H p us/\SqL K H q us'))/\DxL K H us ds/\DxL K H us' ds/\PyData.depthAll ds<=149/\Q (.bl (!n)) H
theorem a9c{pj:List (Addr×Obj)}{σ:St}{H:Hp}{s:Shared}(I:Inv X pj σ H s){A:Around}{us us':List V}{ds:List PyData}{its its':List Value}(hl:DxL X.K H us ds)(hl':DxL X.K H us' ds)(rv:Vals us its)(rv':Vals us' its')(hd:PyData.depthAll ds<=149)(hu:A.units+150<cLine):
  ∀j (h1:j<its.toArray.size) (h2:j<its'.toArray.size),SeqAt.EqAt A.in1 s its.toArray[j] its'.toArray[j] true:=λj h1 h2=>by
 have l1:=rv.length;have l2:=rv'.length;have l3:=hl.length;have l4:=hl'.length;have h1:j<its.length:=by simpa using h1
 have h2:j<its'.length:=by simpa using h2
 have x1:us[j]? =some us[j]:=Zj qo
 have x2:us'[j]? =some us'[j]:=Zj qo
 obtain⟨d,e1,d1⟩:=hl.get x1;obtain⟨d',e2,d2⟩:=hl'.get x2;rw[e1]at e2;cases e2;obtain⟨w1,y1,z1⟩:=rv.get x1;obtain⟨w2,y2,z2⟩:=rv'.get x2;have q1:its.toArray[j]=w1:=by
  have:=Zj h1;rw[y1]at this
  simpa using(Zw this).symm
 have q2:its'.toArray[j]=w2:=by
  have:=Zj h2;rw[y2]at this
  simpa using(Zw this).symm
 rw[q1,q2];exact d2v I 149 A.in1 d _ _ _ _ (Yn (a4p e1) hd) (by show A.units+1+149<cLine;omega) d1 d2 z1 z2
theorem ko_eqX(K:FG)(hK:X.K=K)(hu:X.A.units+150<cLine):OpR X (compareOp .Eq) (dEqX K false):=by
 subst hK;intro pj s σ H x y v u Q I rx ry h;obtain⟨p,q,us,us',ds,rfl,rfl,h,hl,hl',hd,k⟩:=h;cases rx;cases ry;rcases h with⟨hs,hs'⟩|⟨hs,hs'⟩
 ·obtain⟨its,rv,p1,_⟩:=I.tuple hs;obtain⟨its',rv',p2,_⟩:=I.tuple hs';have e3:its.toArray.size=its'.toArray.size:=by simp only[Zm];rw[<-rv.length,<-rv'.length,hl.length,hl'.length]
  refine Sc (e:=λ_=>true) (show s.heap.IsTuple p its.toArray from p1) (show s.heap.IsTuple q its'.toArray from p2) qo (a9c I hl hl' rv rv' hd hu) ?_;rw[e3];exact⟨.bl true,H,I,by simp[RelV],k⟩
 ·obtain⟨its,rv,p1,_⟩:=I.list hs;obtain⟨its',rv',p2,_⟩:=I.list hs';have e3:its.toArray.size=its'.toArray.size:=by simp only[Zm];rw[<-rv.length,<-rv'.length,hl.length,hl'.length]
  refine SeqAt.eq_listAt (e:=λ_=>true) p1.isList p2.isList e3 qo (a9c I hl hl' rv rv' hd hu) ?_;exact⟨.bl true,H,I,by simp[RelV],k⟩
theorem c9d(K:FG)(hK:X.K=K)(hu:X.A.units+150<cLine):OpR X (compareOp .NotEq) (dEqX K true):=by
 subst hK;intro pj s σ H x y v u Q I rx ry h;obtain⟨p,q,us,us',ds,rfl,rfl,h,hl,hl',hd,k⟩:=h;cases rx;cases ry;rcases h with⟨hs,hs'⟩|⟨hs,hs'⟩
 ·obtain⟨its,rv,p1,_⟩:=I.tuple hs;obtain⟨its',rv',p2,_⟩:=I.tuple hs';have e3:its.toArray.size=its'.toArray.size:=by simp only[Zm];rw[<-rv.length,<-rv'.length,hl.length,hl'.length]
  refine Tj (e:=λ_=>true) (show s.heap.IsTuple p its.toArray from p1) (show s.heap.IsTuple q its'.toArray from p2) qo (a9c I hl hl' rv rv' hd hu) X.prog X.w _ _ ?_;rw[e3];exact⟨.bl false,H,I,by simp[RelV],k⟩
 ·obtain⟨its,rv,p1,_⟩:=I.list hs;obtain⟨its',rv',p2,_⟩:=I.list hs';have e3:its.toArray.size=its'.toArray.size:=by simp only[Zm];rw[<-rv.length,<-rv'.length,hl.length,hl'.length]
  refine Qg (e:=λ_=>true) p1.isList p2.isList e3 qo (a9c I hl hl' rv rv' hd hu) X.prog X.w _ _ ?_;exact⟨.bl false,H,I,by simp[RelV],k⟩
end
end L2
namespace L2.ZL
open PySem PySem.Spec PyProof.Rows PySem.W L2
section
variable{prog:Program}{w:World}{A:Around}{E:Value->Shared->Prop}{s:Shared}
theorem c9e{z TI TO i1 i2 l1 l2:Addr}{k1 k2:Nat}{xs ys:Array Value}{x y a b:Value}{Q:Value->Shared->Prop}(D:ZipApart z TI TO i1 i2 l1 l2)
  (hz:IsZip s.heap z TI TO .none)(hTI:IsPair s.heap TI (.ref i1) (.ref i2))(hTO:IsPair s.heap TO a b)
  (h1:s.heap.IsListIter i1 l1 k1)(h2:s.heap.IsListIter i2 l2 k2)(hl1:s.heap.IsList l1 xs)(hl2:s.heap.IsList l2 ys)(hx:xs[k1]? =some x)(hy:ys[k2]? =some y)
  (hQ:∀h',a6d h' z TI TO (rawInt s.heap.objs.size) false->IsPair h' TO x y->h'.IsListIter i1 l1 (k1+1)->h'.IsListIter i2 l2 (k2+1)->IsPair h' s.heap.objs.size x y->h'.objs.size=s.heap.objs.size+1->
   (∀c o,c≠z->c≠TO->c≠i1->c≠i2->s.heap.get? c=some o->h'.get? c=some o)->Q (.ref s.heap.objs.size) { s with heap:=h'}):
  wpAny (model prog w) A (Builtin.«zip.__next__» ⟨[.ref z],[]⟩) (λfin s'=>∃v,fin=.done (.ret v)/\Q v s') E s:=by
 show wpAny _ _ (field (.ref z) 2>>=_) _ _ _
 refine Zi (Yr hz rfl (x:=.bool false) rfl ?_)
 show wpAny _ _ (field (.ref z) 3>>=_) _ _ _
 refine Zi (Yr hz rfl (x:=.ref TI) rfl ?_);refine Zi (Wg hTI rfl ?_)
 show wpAny _ _ (Builtin.SmallTypes.ownedTupleIsFree (.ref z)>>=_) _ _ _
 refine Zi ?_;unfold Builtin.SmallTypes.ownedTupleIsFree;refine Zi (Yr hz rfl (x:=.none) rfl (Zp ?_));simp only[if_true];refine Zi (Vd ?_);refine Zi (Yr hz rfl (x:=.ref TO) rfl ?_);refine Zi (W2 hz qz λh₁ hz₁ hs₁=>?_)
 replace hz₁:IsZip h₁ z TI TO .ellipsis:=hz₁
 refine Zi ?_;simp only[List.zipIdx_cons,List.zipIdx_nil,Ua,Uj];refine Zi (Zi (Sx ?_))
 show wpAny _ _ (Builtin.SmallTypes.nextOf (.ref i1)>>=_) _ _ _
 refine Zi (Vs (h1.extBut hs₁.extBut D.i1z) (hl1.extBut hs₁.extBut D.l1z) hx λh₂ h1₂ hs₂=>Zp ?_);have hTO₂:IsPair h₂ TO a b:=hs₂.extBut _ _ D.TOi1 (hs₁.extBut _ _ D.TOz hTO);refine Zi (Wg hTO₂ rfl ?_);refine Zi (Rm hTO₂ λh₃ hTO₃ hs₃=>?_)
 replace hTO₃:IsPair h₃ TO x b:=hTO₃
 refine Zi (Th (Zp ?_));refine Zi (Zi (Sx ?_))
 show wpAny _ _ (Builtin.SmallTypes.nextOf (.ref i2)>>=_) _ _ _
 refine Zi (Vs (((h2.extBut hs₁.extBut D.i2z).extBut hs₂.extBut D.i12.symm).extBut hs₃.extBut D.TOi2.symm)
  (((hl2.extBut hs₁.extBut D.l2z).extBut hs₂.extBut D.l2i1).extBut hs₃.extBut D.l2TO) hy λh₄ h2₄ hs₄=>Zp ?_)
 have hTO₄:IsPair h₄ TO x b:=hs₄.extBut _ _ D.TOi2 hTO₃;refine Zi (Wg hTO₄ rfl ?_);refine Zi (Rm hTO₄ λh₅ hTO₅ hs₅=>?_)
 replace hTO₅:IsPair h₅ TO x y:=hTO₅
 refine Zi (Th (Zp (Zp ?_)));refine Zi (Wg hTO₅ rfl ?_);refine Zi (wpAny_newTuple ?_);have hsz:h₅.objs.size=s.heap.objs.size:=by rw[hs₅.1,hs₄.1,hs₃.1,hs₂.1,hs₁.1]
 have hz₅:IsZip h₅ z TI TO .ellipsis:=hs₅.extBut _ _ D.TOz.symm (hs₄.extBut _ _ D.i2z.symm (hs₃.extBut _ _ D.TOz.symm (hs₂.extBut _ _ D.i1z.symm hz₁)));have hk₅:∀c o,c≠z->c≠TO->c≠i1->c≠i2->s.heap.get? c=some o->h₅.get? c=some o:=λc o c1 c2 c3 c4 e=>
  hs₅.extBut _ _ c2 (hs₄.extBut _ _ c4 (hs₃.extBut _ _ c2 (hs₂.extBut _ _ c3 (hs₁.extBut _ _ c1 e))))
 have h1₅:h₅.IsListIter i1 l1 (k1+1):=((h1₂.extBut hs₃.extBut D.TOi1.symm).extBut hs₄.extBut D.i12).extBut hs₅.extBut D.TOi1.symm;have h2₅:h₅.IsListIter i2 l2 (k2+1):=h2₄.extBut hs₅.extBut D.TOi2.symm;have hzlt:z<h₅.objs.size:=Zs hz₅
 show wpAny _ _ (Builtin.SmallTypes.ownedTupleHandOut (.ref z) (.ref h₅.objs.size)>>=_) _ _ _
 refine Zi ?_;unfold Builtin.SmallTypes.ownedTupleHandOut;have hz₆:IsZip (h₅.push { cls:=.type "tuple",data:=.seq #[x,y]}) z TI TO .ellipsis:=Zk _ hz₅;refine Zi (W2 hz₆ qz λh₇ hz₇ hs₇=>?_)
 replace hz₇:IsZip h₇ z TI TO (rawInt h₅.objs.size):=hz₇
 refine W2 hz₇ qz λh₈ hz₈ hs₈=>?_
 replace hz₈:IsZip h₈ z TI TO (rawInt h₅.objs.size):=hz₈
 have up:∀c o,c≠z->h₅.get? c=some o->h₈.get? c=some o:=λc o c1 e=>hs₈.extBut _ _ c1 (hs₇.extBut _ _ c1 (Zk _ e))
 have hT₈:IsPair h₈ h₅.objs.size x y:=hs₈.extBut _ _ (X8 hzlt) (hs₇.extBut _ _ (X8 hzlt) (Zv _ rfl));have hz8:h₈.objs.size=h₅.objs.size+1:=by rw[hs₈.1,hs₇.1,Y9]
 rw[hsz]at hz₈ hT₈ hz8;refine Zp ⟨_,rfl,?_⟩
 show Q (.ref h₅.objs.size) _
 rw[hsz];exact hQ h₈ hz₈ (up _ _ D.TOz hTO₅) (h1₅.at λo e=>up _ o D.i1z e) (h2₅.at λo e=>up _ o D.i2z e) hT₈ hz8 λc o c1 c2 c3 c4 e=>up c o c1 (hk₅ c o c1 c2 c3 c4 e)
theorem c2a{z TI TO i1 i2 l1 l2:Addr}{k1:Nat}{xs:Array Value}{Q:Fin->Shared->Prop}(hh:A.handled=none)(D:ZipApart z TI TO i1 i2 l1 l2)
  (hz:IsZip s.heap z TI TO .none)(hTI:IsPair s.heap TI (.ref i1) (.ref i2))
  (h1:s.heap.IsListIter i1 l1 k1)(hl1:s.heap.IsList l1 xs)(hx:xs[k1]? =none)
  (hE:∀h' e,(∀c o,c≠z->c≠TO->c≠i1->c≠i2->s.heap.get? c=some o->h'.get? c=some o)->(∃o,h'.get? e=some o/\o.cls=.type "StopIteration")->E (.ref e) { s with heap:=h'}):
  wpAny (model prog w) A (Builtin.«zip.__next__» ⟨[.ref z],[]⟩) Q E s:=by
 show wpAny _ _ (field (.ref z) 2>>=_) _ _ _
 refine Zi (Yr hz rfl (x:=.bool false) rfl ?_)
 show wpAny _ _ (field (.ref z) 3>>=_) _ _ _
 refine Zi (Yr hz rfl (x:=.ref TI) rfl ?_);refine Zi (Wg hTI rfl ?_)
 show wpAny _ _ (Builtin.SmallTypes.ownedTupleIsFree (.ref z)>>=_) _ _ _
 refine Zi ?_;unfold Builtin.SmallTypes.ownedTupleIsFree;refine Zi (Yr hz rfl (x:=.none) rfl (Zp ?_));simp only[if_true];refine Zi (Vd ?_);refine Zi (Yr hz rfl (x:=.ref TO) rfl ?_);refine Zi (W2 hz qz λh₁ hz₁ hs₁=>?_)
 replace hz₁:IsZip h₁ z TI TO .ellipsis:=hz₁
 refine Zi ?_;simp only[List.zipIdx_cons,List.zipIdx_nil,Ua,Uj];refine Zi (Zi (Sx ?_))
 show wpAny _ _ (Builtin.SmallTypes.nextOf (.ref i1)>>=_) _ _ _
 refine Zi (Re hh (h1.extBut hs₁.extBut D.i1z) (hl1.extBut hs₁.extBut D.l1z) hx λh₂ e hs₂ he=>?_);obtain⟨oe,hoe,hce⟩:=he;have hz₂:IsZip h₂ z TI TO .ellipsis:=hs₂ _ _ D.i1z.symm hz₁;have hez:e≠z:=λx=>by subst x;rw[hz₂]at hoe;cases hoe;simp at hce
 refine W2 hz₂ qz λh₃ _ hs₃=>hE h₃ e (λc o c1 _ c3 _ x=>hs₃.extBut _ _ c1 (hs₂ _ _ c3 (hs₁.extBut _ _ c1 x))) ⟨oe,hs₃.extBut _ _ hez hoe,hce⟩
theorem b2i{z TI TO T:Addr}{f1:Bool}{o:Obj}{Q:Bool->Shared->Prop}(hz:a6d s.heap z TI TO (rawInt T) f1)(hT:s.heap.get? T=some o)
  (hQ:∀h',a6d h' z TI TO (rawInt T) true->Heap.SameBut z s.heap h'->Q false { s with heap:=h'}):wpAny (model prog w) A (Builtin.SmallTypes.ownedTupleIsFree (.ref z)) Q E s:=by
 unfold Builtin.SmallTypes.ownedTupleIsFree;refine Zi (Yr hz rfl (x:=rawInt T) rfl ?_)
 show wpAny _ _ (loadIfAlive ((T:Int).toNat)>>=_) _ _ _
 rw[Uu];refine Zi (kdx_alive hT ?_);simp only[Option.isNone_some,Wi,V3];refine Zi (Yr hz rfl (x:=.bool f1) rfl ?_);cases f1 with
 |true=>
  rw[if_neg (show ¬((Value.bool true !=Value.bool true)=true)from Zr)];exact Zp (hQ _ hz (Heap.SameBut.refl _ _))
 |false=>
  rw[if_pos (show(Value.bool false !=Value.bool true)=true from rfl)];refine Zi (W2 hz qz λh₃ he₃ hs₃=>?_);exact Zp (hQ _ he₃ hs₃)
theorem c9g{z TI TO i1 i2 l1 l2 T:Addr}{f1:Bool}{oT:Obj}{k1 k2:Nat}{xs ys:Array Value}{x y:Value}{Q:Value->Shared->Prop}(D:ZipApart z TI TO i1 i2 l1 l2)
  (hz:a6d s.heap z TI TO (rawInt T) f1)(hT:s.heap.get? T=some oT)(hTI:IsPair s.heap TI (.ref i1) (.ref i2))
  (h1:s.heap.IsListIter i1 l1 k1)(h2:s.heap.IsListIter i2 l2 k2)(hl1:s.heap.IsList l1 xs)(hl2:s.heap.IsList l2 ys)(hx:xs[k1]? =some x)(hy:ys[k2]? =some y)
  (hQ:∀h',a6d h' z TI TO (rawInt T) true->h'.IsListIter i1 l1 (k1+1)->h'.IsListIter i2 l2 (k2+1)->IsPair h' s.heap.objs.size x y->h'.objs.size=s.heap.objs.size+1->
   (∀c o,c≠z->c≠i1->c≠i2->s.heap.get? c=some o->h'.get? c=some o)->Q (.ref s.heap.objs.size) { s with heap:=h'}):
  wpAny (model prog w) A (Builtin.«zip.__next__» ⟨[.ref z],[]⟩) (λfin s'=>∃v,fin=.done (.ret v)/\Q v s') E s:=by
 show wpAny _ _ (field (.ref z) 2>>=_) _ _ _
 refine Zi (Yr hz rfl (x:=.bool false) rfl ?_)
 show wpAny _ _ (field (.ref z) 3>>=_) _ _ _
 refine Zi (Yr hz rfl (x:=.ref TI) rfl ?_);refine Zi (Wg hTI rfl ?_)
 show wpAny _ _ (Builtin.SmallTypes.ownedTupleIsFree (.ref z)>>=_) _ _ _
 refine Zi (b2i hz hT λh₁ hz₁ hs₁=>?_);simp only[Wi,V3];refine Zi ?_;simp only[Qi,Ua,Uj];refine Zi (Zi (Y7 ?_))
 show wpAny _ _ (Builtin.SmallTypes.nextOf (.ref i1)>>=_) _ _ _
 refine Zi (Vs (h1.extBut hs₁.extBut D.i1z) (hl1.extBut hs₁.extBut D.l1z) hx λh₂ h1₂ hs₂=>Zp ?_);refine Zp ?_;refine Zi (Zi (Y7 ?_))
 show wpAny _ _ (Builtin.SmallTypes.nextOf (.ref i2)>>=_) _ _ _
 refine Zi (Vs ((h2.extBut hs₁.extBut D.i2z).extBut hs₂.extBut D.i12.symm) ((hl2.extBut hs₁.extBut D.l2z).extBut hs₂.extBut D.l2i1) hy λh₄ h2₄ hs₄=>Zp ?_);refine Zp (Zp ?_);refine Zi (wpAny_newTuple (hsz:=by show 2<=sizeLine;rw[Y3];omega) ?_);have hsz:h₄.objs.size=s.heap.objs.size:=by rw[hs₄.1,hs₂.1,hs₁.1]
 refine Zp ⟨_,rfl,?_⟩
 show Q (.ref h₄.objs.size) _
 have hz₄:a6d h₄ z TI TO (rawInt T) true:=hs₄.extBut _ _ D.i2z.symm (hs₂.extBut _ _ D.i1z.symm hz₁);have e5:IsPair (h₄.push { cls:=.type "tuple",data:=.seq #[x,y]}) h₄.objs.size x y:=Zv _ rfl;rw[hsz]at e5 ⊢;refine hQ _ (Zk _ hz₄) ((h1₂.extBut hs₄.extBut D.i12).at λo e=>Zk _ e) (h2₄.at λo e=>Zk _ e) e5 (by rw[Y9,hsz]) λc o c1 c3 c4 e=>Zk _ (hs₄.extBut _ _ c4 (hs₂.extBut _ _ c3 (hs₁.extBut _ _ c1 e)))
theorem c2b{z TI TO i1 i2 l1 l2 T:Addr}{f1:Bool}{oT:Obj}{k1:Nat}{xs:Array Value}{Q:Fin->Shared->Prop}(hh:A.handled=none)(D:ZipApart z TI TO i1 i2 l1 l2)
  (hz:a6d s.heap z TI TO (rawInt T) f1)(hT:s.heap.get? T=some oT)(hTI:IsPair s.heap TI (.ref i1) (.ref i2))
  (h1:s.heap.IsListIter i1 l1 k1)(hl1:s.heap.IsList l1 xs)(hx:xs[k1]? =none)
  (hE:∀h' e,(∀c o,c≠z->c≠TO->c≠i1->c≠i2->s.heap.get? c=some o->h'.get? c=some o)->(∃o,h'.get? e=some o/\o.cls=.type "StopIteration")->E (.ref e) { s with heap:=h'}):
  wpAny (model prog w) A (Builtin.«zip.__next__» ⟨[.ref z],[]⟩) Q E s:=by
 show wpAny _ _ (field (.ref z) 2>>=_) _ _ _
 refine Zi (Yr hz rfl (x:=.bool false) rfl ?_)
 show wpAny _ _ (field (.ref z) 3>>=_) _ _ _
 refine Zi (Yr hz rfl (x:=.ref TI) rfl ?_);refine Zi (Wg hTI rfl ?_)
 show wpAny _ _ (Builtin.SmallTypes.ownedTupleIsFree (.ref z)>>=_) _ _ _
 refine Zi (b2i hz hT λh₁ hz₁ hs₁=>?_);simp only[Wi,V3];refine Zi ?_;simp only[Qi,Ua,Uj];refine Zi (Zi (Y7 ?_))
 show wpAny _ _ (Builtin.SmallTypes.nextOf (.ref i1)>>=_) _ _ _
 refine Zi (Re hh (h1.extBut hs₁.extBut D.i1z) (hl1.extBut hs₁.extBut D.l1z) hx λh₂ e hs₂ he=>?_);exact hE h₂ e (λc o c1 _ c3 _ x=>hs₂ _ _ c3 (hs₁.extBut _ _ c1 x)) he
end
abbrev ztH1(h:Heap)(l1:Addr):Heap:=h.push { cls:=.type "list_iterator",data:=.fields #[.ref l1,.int 0 0]}
abbrev ztH2(h:Heap)(l1 l2:Addr):Heap:=(ztH1 h l1).push { cls:=.type "list_iterator",data:=.fields #[.ref l2,.int 0 0]}
abbrev ztH3(h:Heap)(l1 l2:Addr):Heap:=(ztH2 h l1 l2).push { cls:=.type "tuple",data:=.seq #[.ref h.objs.size,.ref (ztH1 h l1).objs.size]}
noncomputable abbrev ztH4(h:Heap)(l1 l2:Addr):Heap:=(ztH3 h l1 l2).push { cls:=.type "tuple",data:=.seq #[.none,.none]}
noncomputable abbrev ztH5(h:Heap)(l1 l2:Addr):Heap:=(ztH4 h l1 l2).push { cls:=.type "zip",data:=.fields #[.none,.bool false,.bool false,.ref (ztH2 h l1 l2).objs.size,.ref (ztH3 h l1 l2).objs.size]}
theorem c5w(l1 l2:Addr)(xs ys:Array Value):
  Meets (Builtin.«zip.__new__» ⟨[.type "zip",.ref l1,.ref l2],[]⟩) (λ_ R s=>s.heap.IsList l1 xs/\s.heap.IsList l2 ys/\
   R (.ok (.ret (.ref (ztH4 s.heap l1 l2).objs.size))) { s with heap:=ztH5 s.heap l1 l2}):=
 .of_wp λprog w A R s h=>by
  obtain⟨hp,g,d,tk,os⟩:=s;obtain⟨hl1,hl2,h⟩:=h;have hsub:=sub_zip;have hL1:Heap.IsList (Shared.heap ⟨hp,g,d,tk,os⟩) l1 xs:=hl1;have hL2:Heap.IsList (Shared.heap ⟨hp.push { cls:=.type "list_iterator",data:=.fields #[.ref l1,.int 0 0]},g,d,tk,os⟩) l2 ys:=Heap.IsList.push hl2 _
  wp_walk using Um hL1,Um hL2
  exact⟨_,rfl,h⟩
section
variable{prog:Program}{w:World}{A:Around}{E:Value->Shared->Prop}{s:Shared}
theorem c9h{l1 l2:Addr}{xs ys:Array Value}{Q:Value->Shared->Prop}(hl1:s.heap.IsList l1 xs)(hl2:s.heap.IsList l2 ys)
  (h:∀h',IsZip h' (s.heap.objs.size+4) (s.heap.objs.size+2) (s.heap.objs.size+3) .none->IsPair h' (s.heap.objs.size+2) (.ref s.heap.objs.size) (.ref (s.heap.objs.size+1))->
   IsPair h' (s.heap.objs.size+3) .none .none->h'.IsListIter s.heap.objs.size l1 0->h'.IsListIter (s.heap.objs.size+1) l2 0->h'.objs.size=s.heap.objs.size+5->
   (∀c o,s.heap.get? c=some o->h'.get? c=some o)->Q (.ref (s.heap.objs.size+4)) { s with heap:=h'}):
  wpAny (model prog w) A (call (.type "zip") [.ref l1,.ref l2]) Q E s:=by
 refine callType_new F.called_zip qd (F.typeCall_zip_2 _ _) (F.newCall_zip_2 _ _) (λobj=>F.args_object_init_3 obj _ _) F.entry_zip_new
  (c5w l1 l2 xs ys) ⟨hl1,hl2,?_⟩
 have z1:(ztH1 s.heap l1).objs.size=s.heap.objs.size+1:=Y9 ..;have z2:(ztH2 s.heap l1 l2).objs.size=s.heap.objs.size+2:=by rw[Y9,z1]
 have z3:(ztH3 s.heap l1 l2).objs.size=s.heap.objs.size+3:=by rw[Y9,z2]
 have z4:(ztH4 s.heap l1 l2).objs.size=s.heap.objs.size+4:=by rw[Y9,z3]
 have z5:(ztH5 s.heap l1 l2).objs.size=s.heap.objs.size+5:=by rw[Y9,z4]
 have g5:(ztH5 s.heap l1 l2).get? (ztH4 s.heap l1 l2).objs.size=some _:=Zv _ rfl;have g4:(ztH5 s.heap l1 l2).get? (ztH3 s.heap l1 l2).objs.size=some _:=Zk _ (Zv _ rfl);have g3:(ztH5 s.heap l1 l2).get? (ztH2 s.heap l1 l2).objs.size=some _:=Zk _ (Zk _ (Zv _ rfl));have g2:(ztH5 s.heap l1 l2).get? (ztH1 s.heap l1).objs.size=some _:=Zk _ (Zk _ (Zk _ (Zv _ rfl)));have g1:(ztH5 s.heap l1 l2).get? s.heap.objs.size=some _:=Zk _ (Zk _ (Zk _ (Zk _ (Zv _ rfl))))
 show _/\_
 rw[z2,z3,z4]at g5;rw[z1,z2]at g3;rw[z3]at g4;rw[z1]at g2;rw[z4]
 exact⟨⟨_,g5,rfl⟩,h _ g5 g3 g4 ⟨_,g1,rfl,rfl⟩ ⟨_,g2,rfl,rfl⟩ z5 λc o x=>
  Zk _ (Zk _ (Zk _ (Zk _ (Zk _ x))))⟩
def ZS(h:Heap)(z TI TO i1 i2 t1 t2 S:Addr)(i:Nat):Prop:=
 ((IsZip h z TI TO .none/\∃a b,IsPair h TO a b)\/∃(T:Addr)(f1:Bool)(o:Obj),a6d h z TI TO (rawInt T) f1/\h.get? T=some o/\T≠z/\T≠TO/\T≠i1/\T≠i2/\T≠S)/\IsPair h TI (.ref i1) (.ref i2)/\h.IsListIter i1 t1 i/\h.IsListIter i2 t2 i
theorem ZS.keep{h h':Heap}{z TI TO i1 i2 t1 t2 S:Addr}{i:Nat}(st:ZS h z TI TO i1 i2 t1 t2 S i)(k:∀c o,c≠S->h.get? c=some o->h'.get? c=some o)(n:S≠z/\S≠TI/\S≠TO/\S≠i1/\S≠i2):ZS h' z TI TO i1 i2 t1 t2 S i:=by
 obtain⟨q,hTI,h1,h2⟩:=st;refine⟨?_,k _ _ n.2.1.symm hTI,h1.at λo e=>k _ o n.2.2.2.1.symm e,h2.at λo e=>k _ o n.2.2.2.2.symm e⟩;rcases q with⟨hz,a,b,hTO⟩|⟨T,f1,o,hz,hT,d⟩
 ·exact .inl ⟨k _ _ n.1.symm hz,a,b,k _ _ n.2.2.1.symm hTO⟩
 ·exact .inr ⟨T,f1,o,k _ _ n.1.symm hz,k _ _ d.2.2.2.2 hT,d⟩
theorem zs_item{z TI TO i1 i2 t1 t2 S:Addr}{i:Nat}{xs ys:Array Value}{x y:Value}{Q:Option Value->Shared->Prop}(D:ZipApart z TI TO i1 i2 t1 t2)(st:ZS s.heap z TI TO i1 i2 t1 t2 S i)(hS:S<s.heap.objs.size)
  (hl1:s.heap.IsList t1 xs)(hl2:s.heap.IsList t2 ys)(hx:xs[i]? =some x)(hy:ys[i]? =some y)
  (hQ:∀h',ZS h' z TI TO i1 i2 t1 t2 S (i+1)->IsPair h' s.heap.objs.size x y->(∀c o,c≠z->c≠TO->c≠i1->c≠i2->s.heap.get? c=some o->h'.get? c=some o)->Q (some (.ref s.heap.objs.size)) { s with heap:=h'}):
  wpAny (model prog w) A (pyNext (.ref z)) Q E s:=by
 obtain⟨q,hTI,h1,h2⟩:=st;have lt:∀{c o},s.heap.get? c=some o->s.heap.objs.size≠c:=λe=>X8 (Zs e)
 have n1:s.heap.objs.size≠i1:=by obtain⟨_,e,_⟩:=h1;exact lt e
 have n2:s.heap.objs.size≠i2:=by obtain⟨_,e,_⟩:=h2;exact lt e
 rcases q with⟨hz,a,b,hTO⟩|⟨T,f1,o,hz,hT,d⟩
 ·have hTy:s.TypeIs (.ref z) "zip":=⟨_,hz,rfl⟩;unfold pyNext
  refine Zi (W8 (wpAny_callSpecial?_slot (name:=ofString "__next__") hTy Wm
   (Xk Wm hTy U5
    (c9e D hz hTI hTO h1 h2 hl1 hl2 hx hy λh' a1 a2 a3 a4 a5 a6 a7=>Zp (hQ h' ⟨.inr ⟨_,false,_,a1,a5,lt hz,lt hTO,n1,n2,X8 hS⟩,a7 _ _ D.TIz D.TITO D.TIi1 D.TIi2 hTI,a3,a4⟩ a5 a7)) (Uv _))))
 ·have hTy:s.TypeIs (.ref z) "zip":=⟨_,hz,rfl⟩;unfold pyNext
  refine Zi (W8 (wpAny_callSpecial?_slot (name:=ofString "__next__") hTy Wm
   (Xk Wm hTy U5
    (c9g D hz hT hTI h1 h2 hl1 hl2 hx hy λh' a1 a3 a4 a5 a6 a7=>Zp (hQ h' ⟨.inr ⟨T,true,o,a1,a7 _ _ d.1 d.2.2.1 d.2.2.2.1 hT,d⟩,a7 _ _ D.TIz D.TIi1 D.TIi2 hTI,a3,a4⟩ a5 λc o c1 _ c3 c4 e=>a7 c o c1 c3 c4 e)) (Uv _))))
theorem zs_end{z TI TO i1 i2 t1 t2 S:Addr}{i:Nat}{xs:Array Value}{Q:Option Value->Shared->Prop}(hh:A.handled=none)(D:ZipApart z TI TO i1 i2 t1 t2)(st:ZS s.heap z TI TO i1 i2 t1 t2 S i)
  (hl1:s.heap.IsList t1 xs)(hx:xs[i]? =none)
  (hQ:∀h',(∀c o,c≠z->c≠TO->c≠i1->c≠i2->s.heap.get? c=some o->h'.get? c=some o)->Q none { s with heap:=h'}):
  wpAny (model prog w) A (pyNext (.ref z)) Q E s:=by
 obtain⟨q,hTI,h1,h2⟩:=st;rcases q with⟨hz,a,b,hTO⟩|⟨T,f1,o,hz,hT,d⟩
 ·have hTy:s.TypeIs (.ref z) "zip":=⟨_,hz,rfl⟩;unfold pyNext
  refine Zi (W8 (wpAny_callSpecial?_slot (name:=ofString "__next__") hTy Wm
   (Xk Wm hTy U5 (c2a hh D hz hTI h1 hl1 hx λh' e hk he=>?_) (Uv _))))
  obtain⟨o,ho,hc⟩:=he;refine Zi (Ve (T:="StopIteration") (b:=true) ⟨o,ho,hc⟩ Sn ?_);exact Zp (hQ _ hk)
 ·have hTy:s.TypeIs (.ref z) "zip":=⟨_,hz,rfl⟩;unfold pyNext
  refine Zi (W8 (wpAny_callSpecial?_slot (name:=ofString "__next__") hTy Wm
   (Xk Wm hTy U5 (c2b hh D hz hT hTI h1 hl1 hx λh' e hk he=>?_) (Uv _))))
  obtain⟨o,ho,hc⟩:=he;refine Zi (Ve (T:="StopIteration") (b:=true) ⟨o,ho,hc⟩ Sn ?_);exact Zp (hQ _ hk)
end
section
variable{X:Cx}{pj:List (Addr×Obj)}{σ:St}
theorem d2w{A:Around}{R:Result->Shared->Prop}{z TI TO i1 i2 t1 t2 S:Addr}{xs ys:List V}{H0:Hp}(hh:A.handled=none)(D:ZipApart z TI TO i1 i2 t1 t2)(ltS:∀b∈[z,TI,TO,i1,i2],b<S)(hlen:ys.length=xs.length)(h0:H0 S=none)(v1:SqL X.K H0 t1 xs)(v2:SqL X.K H0 t2 ys)(res:Value)
  (hR:∀s' H' qs,Inv X pj σ H' s'->Same H0 H'->H' S=some (.lst (qs.map V.ref))->qs.length=xs.length->b0j H' qs xs ys->R (.ok (.ret res)) s'):
  ∀(k i:Nat)(s:Shared)(H:Hp)(qs:List Addr),xs.length-i=k->i<=xs.length->Inv X pj σ H s->SqL X.K H t1 xs->SqL X.K H t2 ys->ZS s.heap z TI TO i1 i2 t1 t2 S i->(∀b∈[z,TI,TO,i1,i2],FpOk X pj H b)->Same H0 H->H S=some (.lst (qs.map V.ref))->qs.length=i->b0j H qs xs ys->
   codeAny (model X.prog X.w) A (.builtin "list.extend.loop" ⟨[.ref S,.ref z,res],[]⟩) R s:=by
 have n:S≠z/\S≠TI/\S≠TO/\S≠i1/\S≠i2:=⟨X8 (ltS _ qz),X8 (ltS _ qz),X8 (ltS _ qz),X8 (ltS _ qz),X8 (ltS _ qz)⟩;intro k
 induction k with
 |zero=>
  intro i s H qs hk hi I hq1 hq2 st hf sm hS hl pr;have hin:i=xs.length:=by omega
  obtain⟨its,rv,p,hz⟩:=I.list hq1;have hlx:=rv.length;refine codeAny_builtin Qc ?_;rw[Rz Wu _]
  show wpAny _ A.in1 (pyNext (.ref z)>>=_) _ _ s
  refine Zi (zs_end (A:=A.in1) hh D st p.isList (by simp;omega) λh' he=>?_);refine Zp (hR { s with heap:=h'} H qs (I.turnedMany (t':=s.toks) (ch:=[z,TI,TO,i1,i2]) hf λc u hc e=>he c u (λq=>hc (by simp[q])) (λq=>hc (by simp[q])) (λq=>hc (by simp[q])) (λq=>hc (by simp[q])) e) sm hS qo pr)
 |succ k ih=>
  intro i s H qs hk hi I hq1 hq2 st hf sm hS hl pr;have hlt:i<xs.length:=by omega
  have hlt':i<ys.length:=by omega
  obtain⟨its,rv,p,hz⟩:=I.list hq1;obtain⟨its',rv',p',hz'⟩:=I.list hq2;obtain⟨u,hu,ru⟩:=rv.get (Zj hlt);obtain⟨u',hu',ru'⟩:=rv'.get (Zj hlt');obtain⟨zS,it3,n3,r3,l3,e3⟩:=I.lstM hS;have hSl:S<s.heap.objs.size:=Zs e3;refine codeAny_builtin Qc ?_;rw[Rz Wu _]
  show wpAny _ A.in1 (pyNext (.ref z)>>=_) _ _ s
  refine Zi (zs_item D st hSl p.isList p'.isList (by simpa using hu) (by simpa using hu') λh' st' hp hkp=>?_);have hk':∀b o,b∉[z,TI,TO,i1,i2]->s.heap.get? b=some o->h'.get? b=some o:=λc o hc e=>hkp c o (λq=>hc (by simp[q])) (λq=>hc (by simp[q])) (λq=>hc (by simp[q])) (λq=>hc (by simp[q])) e
  have fr:H s.heap.objs.size=none:=I.hok.fresh (Zn _);have I1:Inv X pj σ (upd H s.heap.objs.size (.tup [xs[i],ys[i]])) { s with heap:=h'}:=I.turnedLaid (t':=s.toks) (ch:=[z,TI,TO,i1,i2]) hf hk' (Zn _) ⟨by simp[Y3],[u,u'],.cons ru (.cons ru' .nil),⟨_,hp,rfl,_,rfl⟩⟩;have hST:S≠s.heap.objs.size:=Z1 hSl;have hS1:upd H s.heap.objs.size (.tup [xs[i],ys[i]]) S=some (.lst (qs.map V.ref)):=by rw[a0f hST];exact hS
  have e4:h'.get? S=some { cls:=.type "list",data:=.seq it3.toArray n3}:=hkp S _ n.1 n.2.2.1 n.2.2.2.1 n.2.2.2.2 e3;have hq:(qs.map V.ref).length=i:=by rw[length_map];exact hl
  have I2:=I1.lset (t':=s.toks) (f:=(·.push (Value.ref s.heap.objs.size))) (its':=it3++[Value.ref s.heap.objs.size]) (ys:=(qs++[s.heap.objs.size]).map V.ref) hS1 e4 qz (by rw[Zo];exact r3.append (.cons rfl .nil)) (by rw[length_map,Zl,Zy];omega)
  show wpAny _ A.in1 (updateSeq S (·.push (Value.ref s.heap.objs.size))>>=_) _ _ _
  refine Zi ?_;have b1:But S H (upd (upd H s.heap.objs.size (.tup [xs[i],ys[i]])) S (.lst ((qs++[s.heap.objs.size]).map V.ref))):=λb o hb e=>by
   rw[a0f hb,a0f (a0w e fr)];exact e
  have sm2:Same H0 (upd (upd H s.heap.objs.size (.tup [xs[i],ys[i]])) S (.lst ((qs++[s.heap.objs.size]).map V.ref))):=λb o e=>b1 b o (λq=>by rw[q,h0]at e;cases e) (sm b o e)
  refine Wl e4 rfl (Zp ⟨Tl Wu _,ih (i+1) _ _ (qs++[s.heap.objs.size]) qo hlt I2 (sm2.seq v1) (sm2.seq v2) (st'.keep (λc o hc e=>(Z9 _ _ (Ne.symm hc)).trans e) n) (λb hb=>?_) (λb o e=>?_) a0c (by rw[Zl,hl];rfl) (λj q x y g1 g2 g3=>?_)⟩) (by rw[Zm];omega) (by show(it3.toArray.push (Value.ref s.heap.objs.size)).size<=sizeLine+1;rw[Array.size_push,Zm];omega)
  ·have fb:=hf b hb;have nb:b≠S:=λq=>by rw[q]at fb;rw[fb.1]at hS;cases hS
   have nT:b≠s.heap.objs.size:=Z1 (Nat.lt_trans (ltS b hb) hSl);refine⟨?_,fb.2⟩;rw[a0f nb,a0f nT];exact fb.1
  ·exact b1 b o (λq=>by rw[q,h0]at e;cases e) (sm b o e)
  ·rcases Nat.lt_trichotomy j qs.length with h1|h1|h1
   ·rw[Sw h1]at g1;have:=pr j q x y g1 g2 g3;exact b1 _ _ (λe=>by rw[e,hS]at this;cases this) this
   ·subst h1;have hb:s.heap.objs.size=q:=by simpa using g1
    subst hb;rw[a0f hST.symm,a0c];rw[hl]at g2 g3;rw[Zj hlt]at g2;rw[Zj hlt']at g3;cases g2;cases g3;rfl
   ·have hnone:(qs++[s.heap.objs.size])[j]? =none:=W9 (by rw[Zl,Zy];omega)
    rw[hnone]at g1;cases g1
theorem c2c{A:Around}{E:Value->Shared->Prop}{s:Shared}{H:Hp}{Q:Value->Shared->Prop}{z TI TO i1 i2 t1 t2:Addr}{xs ys:List V}(hh:A.handled=none)(D:ZipApart z TI TO i1 i2 t1 t2)(I:Inv X pj σ H s)(hq1:SqL X.K H t1 xs)(hq2:SqL X.K H t2 ys)(hlen:ys.length=xs.length)
  (hz:IsZip s.heap z TI TO .none)(hTI:IsPair s.heap TI (.ref i1) (.ref i2))(hTO:IsPair s.heap TO .none .none)(h1:s.heap.IsListIter i1 t1 0)(h2:s.heap.IsListIter i2 t2 0)(hf:∀b∈[z,TI,TO,i1,i2],FpOk X pj H b)
  (h:∀s' H' p qs,H p=none->Inv X pj σ H' s'->Same H H'->H' p=some (.lst (qs.map V.ref))->qs.length=xs.length->b0j H' qs xs ys->Q (.ref p) s'):
  wpAny (model X.prog X.w) A (call (.type "list") [.ref z]) Q E s:=by
 refine callType_codes (Q₁:=λobj s₁=>obj=.ref s.heap.objs.size/\s₁={ s with heap:=s.heap.push { cls:=.type "list",data:=.seq #[]}}) F.called_list (F.typeCall_list_1 _) F.entry_list_init
  (code_list_new _ ⟨rfl,rfl⟩) λobj s₁ h₁=>?_
 obtain⟨rfl,rfl⟩:=h₁;have hS:(s.heap.push { cls:=.type "list",data:=.seq #[]}).get? s.heap.objs.size=some { cls:=.type "list",data:=.seq #[]}:=Zv _ rfl;refine⟨⟨_,hS,rfl⟩,Qm _ _,?_⟩;have ltS:∀b∈[z,TI,TO,i1,i2],b<s.heap.objs.size:=λb hb=>by
  obtain⟨_,e1,_⟩:=h1;obtain⟨_,e2,_⟩:=h2;simp only[Zu,Z6,Xm]at hb;rcases hb with rfl|rfl|rfl|rfl|rfl
  ·exact Zs hz
  ·exact Zs hTI
  ·exact Zs hTO
  ·exact Zs e1
  ·exact Zs e2
 generalize hSS:s.heap.objs.size=S at hS ltS ⊢;have fr:H S=none:=by rw[<-hSS];exact I.hok.fresh (Zn _)
 show wpAny _ _ (do let old <-Builtin.List.listItems (.ref S);Builtin.List.listUpdate (.ref S) (λ_=>#[]);letGo old.toList.reverse;Builtin.List.listExtendWith (.ref S) (.ref z) .none) _ _ _
 refine Zi ?_;unfold Builtin.List.listItems;refine Zi (Wg hS rfl (Zp ?_))
 show wpAny _ _ (updateSeq S (λ_=>#[])>>=λ_=>letGo (#[]:Array Value).toList.reverse>>=λ_=>Builtin.List.listExtendWith (.ref S) (.ref z) .none) _ _ _
 refine Zi (Wl hS rfl ?_);have hS₁:=Ym (Obj.mapSeq (λ_=>(#[]:Array Value))) hS rfl;have k1:∀b o,b≠S->s.heap.get? b=some o->((s.heap.push { cls:=.type "list",data:=.seq #[]}).update S (Obj.mapSeq (λ_=>(#[]:Array Value)))).get? b=some o:=
  λb o hb e=>(Z9 _ _ (Ne.symm hb)).trans (Zk _ e)
 refine Zi (Th ?_);generalize ((s.heap.push { cls:=.type "list",data:=.seq #[]}).update S (Obj.mapSeq (λ_=>(#[]:Array Value))))=hp1 at hS₁ k1 ⊢;have nz:z≠S:=Z1 (ltS z qz);have hz1:IsZip hp1 z TI TO .none:=k1 _ _ nz hz;have hT1:Shared.TypeIs { s with heap:=hp1} (.ref z) "zip":=⟨_,hz1,rfl⟩;unfold Builtin.List.listExtendWith;refine Zi (wpAny_typeOf hT1 ?_);have g1:Builtin.List.listSameRef (.ref S) (.ref z)=false:=by simp[Builtin.List.listSameRef,nz.symm]
 have g2:(Value.type "zip"==Value.type "list")=false:=by decide
 have g3:(Value.type "zip"==Value.type "tuple")=false:=by decide
 simp only[g1,g2,g3,S4,Wi,V3];refine Zi (wpAny_pyIter_zip hz1 ?_);refine Zi (Y7 ?_);unfold Builtin.List.listLengthHint;refine Zi (Y8 hT1 c5r ?_)
 show wpAny _ _ (specialOf (Value.ref z) (ofString "__length_hint__")>>=_) _ _ _
 refine Zi (Y8 hT1 c3j ?_);refine Zp ?_
 show wpAny _ _ (rule "list.extend.makes-room">>=λ_=>Builtin.List.listTouch (.ref S)>>=λ_=>
  again (.builtin "list.extend.loop" ⟨[.ref S,.ref z,.none],[]⟩)) _ _ _
 refine Zi (Vd ?_);refine Zi ?_
 show wpAny _ _ (updateSeq S (·.push .none)>>=λ_=>updateSeq S (·.pop)) _ _ _
 refine Zi (Wl hS₁ rfl ?_);have hS₂:=Ym (Obj.mapSeq (·.push Value.none)) hS₁ rfl;refine Wl (hz:=by seq_fits) hS₂ rfl ?_;have hS₃:=Ym (Obj.mapSeq (·.pop)) hS₂ rfl;have k3:∀b o,b≠S->s.heap.get? b=some o->((hp1.update S (Obj.mapSeq (·.push Value.none))).update S (Obj.mapSeq (·.pop))).get? b=some o:=
  λb o hb e=>(Z9 _ _ (Ne.symm hb)).trans ((Z9 _ _ (Ne.symm hb)).trans (k1 b o hb e))
 refine Zp ⟨Tl Wu _,?_⟩;have keepS:∀b o,s.heap.get? b=some o->((hp1.update S (Obj.mapSeq (·.push Value.none))).update S (Obj.mapSeq (·.pop))).get? b=some o:=λb o e=>k3 b o (λq=>by have:=Zs e;rw[q,hSS]at this;exact Xo _ this) e
 have I1:Inv X pj σ (upd H S (.lst [])) { s with heap:=((hp1.update S (Obj.mapSeq (·.push Value.none))).update S (Obj.mapSeq (·.pop)))}:=I.laid (t':=s.toks) (a:=S) (o:=.lst []) keepS (by rw[hSS];exact Zn _) ⟨Z0 _,[],_,.nil,hS₃⟩;have sm:Same H (upd H S (.lst [])):=λb o e=>by rw[a0f (a0w e fr)];exact e
 refine d2w (A:=A.in1) (X:=X) (pj:=pj) (σ:=σ) (H0:=H) (xs:=xs) (ys:=ys) hh D ltS hlen fr hq1 hq2 .none (λs' H' qs I' sm' hS' hl' pr'=>⟨rfl,h s' H' S qs fr I' sm' hS' hl' pr'⟩) xs.length 0 _ _ [] qo (Z0 _) I1 (sm.seq hq1) (sm.seq hq2) ⟨.inl ⟨k3 _ _ nz hz,_,_,k3 _ _ (Z1 (ltS TO qz)) hTO⟩,k3 _ _ (Z1 (ltS TI qz)) hTI,h1.at λo e=>k3 _ o (Z1 (ltS i1 qz)) e,h2.at λo e=>k3 _ o (Z1 (ltS i2 qz)) e⟩ (λb hb=>⟨by rw[a0f (Z1 (ltS b hb))];exact(hf b hb).1,(hf b hb).2⟩) sm a0c rfl (λj q x y g _ _=>by simp at g)
end
section
variable{X:Cx}
def c9i(K:W.Frag)(ta:TA):TE:=λσ H Q=>ta σ H λvs H1=>∃a b xs ys,vs=[.ref a,.ref b]/\SqL K H1 a xs/\SqL K H1 b ys/\ys.length=xs.length/\∀p H2 qs,H1 p=none->Same H1 H2->H2 p=some (.lst (qs.map V.ref))->qs.length=xs.length->b0j H2 qs xs ys->Q (.ref p) H2
theorem pe_listZip(K:FG)(hK:X.K=K)(hc:X.calm=true){a b:Expr}{ta:TA}{p1 p2 pos1 pos2:Pos}(hg:Gl X "list")(hm:X.mg "list"=none)(hg2:Gl X "zip")(hm2:X.mg "zip"=none)(ha:PA X [a,b] ta)
  (hs:starEach (a::[b]) X.env=(false,eval a X.env)::starEach [b] X.env:=by rfl)(hpl:(backTo pos2 (starEach [b] X.env)).any (·.1)=false:=by rfl)
  (hs1:starEach [Expr.Call (.Name "zip" p2) [a,b] [] pos2] X.env=[(false,eval (.Call (.Name "zip" p2) [a,b] [] pos2) X.env)]:=by rfl):
  PE X (.Call (.Name "list" p1) [.Call (.Name "zip" p2) [a,b] [] pos2] [] pos1) (c9i K ta):=by
 subst hK;intro pj s σ H Q I h;refine Call_ (a5z I hg hm Vy (Xj ?_ hs1 rfl));rw[hs1]
 show wpAny _ _ (spliced ((false,eval (.Call (.Name "zip" p2) [a,b] [] pos2) X.env)::backTo pos1 (starEach [] X.env))) _ _ s
 refine Vp ?_;refine Call_ (a5z I hg2 hm2 (by decide+kernel:bootBuiltins "zip"=some (.type "zip")) (Xj (thn (ha pos2 pj s σ H _ I h) λus s1 ⟨vs,H1,I1,r1,q1⟩=>?_) hs hpl));obtain⟨l,l',xs,ys,e,hq,hq',hlen,q⟩:=q1;subst e;obtain⟨u,u',rfl,r1,r2⟩:=c0q r1;cases r1;cases r2;obtain⟨its,rv,pl,hz⟩:=I1.list hq;obtain⟨its',rv',pl',hz'⟩:=I1.list hq';have tl:s1.heap.IsList l its.toArray:=pl.isList;have tl':s1.heap.IsList l' its'.toArray:=pl'.isList;have hlt:l<s1.heap.objs.size:=by obtain⟨o,ho,_⟩:=tl;exact Zs ho
 have hlt':l'<s1.heap.objs.size:=by obtain⟨o,ho,_⟩:=tl';exact Zs ho
 refine c9h tl tl' λh' he hTI hTO hi1 hi2 hsz hk=>?_
 refine Vx ?_;have D:ZipApart (s1.heap.objs.size+4) (s1.heap.objs.size+2) (s1.heap.objs.size+3) s1.heap.objs.size (s1.heap.objs.size+1) l l':=c8o _ _ _ hlt hlt';have I2:Inv X pj σ H1 { s1 with heap:=h'}:=I1.kept (t':=s1.toks) hk;refine c2c (I1.ok.hd hc) D I2 hq hq' hlen he hTI hTO hi1 hi2 (λb hb=>?_) λs' H' p qs fr I' sm hp hl pr=>⟨.ref p,H',I',rfl,q p H' qs fr sm hp hl pr⟩
 have hb:s1.heap.objs.size<=b:=by
  simp only[Zu,Z6,Xm]at hb;rcases hb with rfl|rfl|rfl|rfl|rfl
  ·exact Vf _ _
  ·exact Vf _ _
  ·exact Vf _ _
  ·exact Zn _
  ·exact Vf _ _
 exact I1.fpOk hb (I1.hok.fresh hb)
end
end L2.ZL
namespace L2
open PySem PySem.Spec PyProof.Rows PySem.W
theorem b2t{K:FG}{a:Addr}{xs:List V}{g:TG}{tb:TS}{D:Ends}{σ:St}{H:Hp}(Pv:Nat->St->Hp->Prop)(h0:Pv 0 σ H)(hok:∀i σ H,Pv i σ H->SqL K H a xs)
  (hs:∀i σ H T,i<xs.length->Pv i σ H->H T=none->g (.ref T) σ (upd H T (.tup [.int i,xs.getD i .non])) λσ2 H2=>tb { D with nx:=Pv (i+1),ct:=Pv (i+1),bk:=D.nx} σ2 H2)(hd:∀σ H,Pv xs.length σ H->D.nx σ H):
  ForW (Ite K a xs.length) g tb D σ H:=by
 refine⟨λi m σ H=>m=xs.length-i/\i<=xs.length/\Pv i σ H,⟨xs.length,qz,Z0 _,h0⟩,?_⟩
 rintro i m σ H ⟨rfl,hi,p⟩
 have q1:=hok i σ H p
 by_cases hlt:i<xs.length
 ·refine .inr ⟨⟨hlt,xs,q1,rfl⟩,Pv (i+1),λσ' H' p'=>⟨xs.length-(i+1),qo,rfl,hlt,p'⟩,λx H' y=>?_⟩;obtain⟨T,u,hT,rfl,rfl,e1⟩:=y;have e1:=e1 xs q1;have f1:xs.getD i .non=u:=by rw[Z2,e1];rfl
  have:=hs i σ H T hlt p hT;rw[f1]at this;exact this
 ·have e:i=xs.length:=by omega
  subst e;exact .inl ⟨⟨rfl,xs,q1,rfl⟩,hd σ H p⟩
section
variable{K:Frag}{fd:FuncData}{a b c:Str}{v:Addr}{od:Option Addr}{n:Nat}{sl:Array (Option Value)}{its:Array Value}{d:Value}
theorem su6{us:List Value}{P:List Value->Prop}(hl:us.length=6)(h:∀a b c d e f,P [a,b,c,d,e,f]):P us:=by cases us with|nil=>cases hl|cons a r=>exact su5 (P:=λr=>P (a::r)) (Ue hl) (h a)
theorem bi6{a2 b2 c2 d2 e2 f2:Str}(h:∀x y z u v w,bindArgs fd ⟨[x,y,z,u,v,w],[]⟩=pure [(a2,x),(b2,y),(c2,z),(d2,u),(e2,v),(f2,w)]):Binds K fd [a2,b2,c2,d2,e2,f2] []:=.all λus hl=>su6 (P:=λus=>bindArgs fd ⟨us,[]⟩=pure (([a2,b2,c2,d2,e2,f2]:List Str).zip us)) hl h
theorem bd4{dd:Str}(h:K.lookup v=some ⟨.type "tuple",od,.seq its n,sl⟩)(hd:fd.defaults=.ref v)(h1:∀x y z u,∃k:Option (Array Value)->Sem (List (Str×Value)),bindArgs fd ⟨[x,y,z,u],[]⟩=seqItems? fd.defaults>>=k/\k (some its)=pure [(a,x),(b,y),(c,z),(dd,u)]):Binds K fd [a,b,c,dd] []:=λs us KX hl=>by
 rw[Yg]at hl ⊢;exact su4 (P:=λus=>BindsTo s fd ⟨us,[]⟩ ([a,b,c,dd].zip us)) hl λx y z u=>by
  obtain⟨k,e1,e2⟩:=h1 x y z u;exact .of_defaults (T:=v) hd (KX _ _ h) rfl e1 e2
theorem bd22{dd:Str}{p q:Value}(h:K.lookup v=some ⟨.type "tuple",od,.seq its n,sl⟩)(hd:fd.defaults=.ref v)(h1:∀x y,∃k:Option (Array Value)->Sem (List (Str×Value)),bindArgs fd ⟨[x,y],[]⟩=seqItems? fd.defaults>>=k/\k (some its)=pure [(a,x),(b,y),(c,p),(dd,q)]):Binds K fd [a,b,c,dd] [p,q]:=λs us KX hl=>by
 exact su2 (P:=λus=>BindsTo s fd ⟨us,[]⟩ ([a,b,c,dd].zip (us++[p,q]))) (by simpa using hl) λx y=>by
  obtain⟨k,e1,e2⟩:=h1 x y;exact .of_defaults (T:=v) hd (KX _ _ h) rfl e1 e2
end
section
variable{X:Cx}{k:Nat}{f C C':Addr}{fd:FuncData}{ps:List Str}{sp:Sp}{dvs:List V}{ds:List Value}{m nm cx:Str}{pos apos cp hpos tpos xpos:Pos}{e o:Expr}{es:List Expr}{ta:TE}{t:TA}{bm':List Value}{b0:Stmt}{suite:List Stmt}{ts:Addr->TS}{n:Nat}
theorem d2x{pj:List (Addr×Obj)}{s:Shared}{σ:St}{D:Ends}{Eh:Value->Shared->Prop}{ex:Expr}
  (h:wpAny (model X.prog X.w) X.A (eval ex X.env) (EP X pj σ λv H2=>D.rt v H2) Eh s):
  wpAny (model X.prog X.w) X.A (execs [.Return (some ex) xpos] X.env) (λf s1=>match f with| .next=>wpAny (model X.prog X.w) X.A (execs [] X.env) (SP X pj D) X.xe s1|f=>SP X pj D f s1) Eh s:=by
 refine U0 (wpAny_Return_some (thn h λv s1 z9=>?_));obtain⟨z,H1,I1,r1,q1⟩:=z9;exact⟨z,σ,H1,I1,r1,q1⟩
theorem c0n{pl:Sem Bool}(hst:X.stack=X.env::X.outer)(hfr:X.env.frame=some X.env.locals)(F:FnOk X.prog X.w X.K X.mg X.base (CXo X.prog X.w) k f fd ps sp)(hr:Room k X.A)(he:PE X.nox o ta)(c:Cls X.K C)(hm:Meth X.K C m f)(hb:Binds X.K fd ps ds)(hvd:Vals dvs ds)(ha:PA X.nox (e::es) t)
  (hN:X.N.Nodup)(hgc:Gl X cx)(hmc:X.mg cx=some (.ref C'))(Xd:XCls X.K C' bm')(hn:X.N[n]? =some nm)(hkn:X.env.kindOf nm=some .local)(hlo:Loc X.env.scope nm)(hs:∀ea,PSs (X.inX ea) (b0::suite) (ts ea))
  (hfn:X.fn nm=true\/X.env.scope.names.lookup nm=some .local:=by first|exact .inl rfl|exact .inr rfl)(hdc:(cx==("__debug__":Str))=false:=by decide)
  (hse:starEach (e::es) X.env=(false,eval e X.env)::starEach es X.env:=by rfl)(hpl:(backTo pos (starEach es X.env)).any (·.1)=false:=by rfl)
  (ht:eval (.Call (.Attribute o m apos) (e::es) [] pos) X.env=(do
   let ov <-eval o X.env
   standAt apos.atName
   let(f,first) <-holding [ov] (getMethod ov m pl)
   callWith pos f first (backTo pos (starEach (e::es) X.env)) (backToKw pos (keywordEach [] X.env))):=by rfl):
  PS X (.Try [.Return (some (.Call (.Attribute o m apos) (e::es) [] pos)) xpos] [.ExceptHandler (some (.Name cx cp)) (some nm) (b0::suite) hpos] [] [] tpos) (tTryM X.K C C' m sp dvs ta t (λD σ v H2=>D.rt v H2) (λD σ ea H2=>ts ea (D.gone n) (σ.set n (some (.ref ea))) H2)):=by
 intro pj s σ H D I h;refine wpAny_Try_except (d2x (d2q (D:=D) F hr he c hm hb hvd ha (λea C dx bm H' s' I' hx tb Xc hc hh=>?_) I h hse hpl ht));exact c8m hst hfr I' hx tb Xc Xd hc hgc hmc hdc hN hn hkn hlo hfn (hs ea) hh
end
open PySem PySem.Spec PyProof.Rows
section
variable{X:Cx}
theorem d2y{elt iter:Expr}{x x2:Str}{N':List Str}{kt:Nat}{px px2 pt:Pos}{scope:Scope}{pos:Pos}{wi:TI}{te:TE}(K:FG)(hK:X.K=K)(hc:X.calm=true)(hi:PI X (.Tuple [.Name x px,.Name x2 px2] kt pt) iter wi)(S:b4b X scope x x2 N')
  (he:∀C s H fp pn,PE (a3g X scope x x2 N' C s H fp pn) elt te)(hs:∀x,foldedSetIterable iter X.env x=pure x:=by intro _;rfl):
  PE X (.ListComp elt [⟨.Tuple [.Name x px,.Name x2 px2] kt pt,iter,[],0⟩] scope pos) (c9b K wi te):=by
 subst hK;intro pj s σ H Q I h;have hcells:∀y∈scope.names,y.2=.free->∃c,X.env.cells.lookup y.1=some c:=λy hy hk=>I.ok.has y.1 (S.free y hy hk)
 rw[eval_ListComp];refine Ux (use:=none) rfl hs (b1i hcells) S.kind S.names (thn (hi pj s σ H _ I h) λxv s1 h1=>thn h1 λitv s2 h2=>?_);refine c5v (RR:=λacc C=>compPost (model X.prog X.w) X.A X.xe none (EP X pj σ Q) acc C) hc S he h2 λD C H6 s7 m7 I8 hn7 f8 qn=>?_
 refine⟨m7,hn7,λh' hs'=>?_⟩;obtain⟨g0,g1,g2,g3,g4,g5⟩:=f8;exact⟨.ref D,H6,I8.turned (t':=s7.toks) (λb o hb e=>(hs'.2 b hb).trans e) g0 g1 g3 g4 g5,rfl,qn⟩
end
section
variable{X:Cx}
def dEm(K:W.Frag)(n:Bool):R2:=λx y H Q=>∃(p q:Addr)(us:List V),x=.ref p/\y=.ref q/\((SqT K H p us/\SqT K H q [])\/(n=true/\SqL K H p us/\SqL K H q []))/\Q (.bl (n^^us.isEmpty)) H
theorem ko_eqEm(K:FG)(hK:X.K=K)(hu:X.A.units+150<cLine):OpR X (compareOp .Eq) (dEm K false):=by
 subst hK;intro pj s σ H x y v u Q I rx ry h;obtain⟨p,q,us,rfl,rfl,h,k⟩:=h;cases rx;cases ry;rcases h with⟨hs,hs'⟩|⟨z,_⟩
 ·obtain⟨its,rv,p1,_⟩:=I.tuple hs;obtain⟨its',rv',p2,_⟩:=I.tuple hs';cases rv';refine Sc (e:=λ_=>true) (show s.heap.IsTuple p its.toArray from p1) (show s.heap.IsTuple q #[]from p2) qo (λj h1 h2=>absurd h2 (Si j)) ?_;refine⟨.bl us.isEmpty,H,I,?_,by rw[Zt]at k;exact k⟩;cases rv<;>simp[RelV]
 ·cases z
theorem b4c(K:FG)(hK:X.K=K)(hu:X.A.units+150<cLine):OpR X (compareOp .NotEq) (dEm K true):=by
 subst hK;intro pj s σ H x y v u Q I rx ry h;obtain⟨p,q,us,rfl,rfl,h,k⟩:=h;cases rx;cases ry;rcases h with⟨hs,hs'⟩|⟨_,hs,hs'⟩
 ·obtain⟨its,rv,p1,_⟩:=I.tuple hs;obtain⟨its',rv',p2,_⟩:=I.tuple hs';cases rv';refine Tj (e:=λ_=>true) (show s.heap.IsTuple p its.toArray from p1) (show s.heap.IsTuple q #[]from p2) qo (λj h1 h2=>absurd h2 (Si j)) X.prog X.w _ _ ?_;refine⟨.bl (true^^us.isEmpty),H,I,?_,k⟩;cases rv<;>simp[RelV]
 ·obtain⟨its,rv,p1,_⟩:=I.list hs;obtain⟨its',rv',p2,_⟩:=I.list hs';cases rv';cases rv with
  |nil=>exact Qg (e:=λ_=>true) p1.isList p2.isList rfl qo (λj h1 h2=>absurd h2 (Si j)) X.prog X.w _ _ ⟨.bl false,H,I,by simp[RelV],k⟩
  |cons a b=>exact SeqAt.RcNeAt.lists_lengths p1.isList p2.isList qz qo X.prog X.w _ _ ⟨.bl true,H,I,by simp[RelV],k⟩
end
theorem em_t{K:FG}{n:Bool}{p q:Addr}{us:List V}{H:Hp}{Q:VK}(h:SqT K H p us)(h2:SqT K H q [])(k:Q (.bl (n^^us.isEmpty)) H):dEm K n (.ref p) (.ref q) H Q:=⟨p,q,us,rfl,rfl,.inl ⟨h,h2⟩,k⟩
theorem em_l{K:FG}{p q:Addr}{us:List V}{H:Hp}{Q:VK}(h:SqL K H p us)(h2:SqL K H q [])(k:Q (.bl (true^^us.isEmpty)) H):dEm K true (.ref p) (.ref q) H Q:=⟨p,q,us,rfl,rfl,.inr ⟨rfl,h,h2⟩,k⟩
theorem c9j{K:FG}{J:It}{n:Nat}{vs:Nat->V}{Ok:Hp->Prop}(R:Row J n vs Ok){te:TE}{Q:VK}{σ:St}{H1:Hp}{D:Addr}(Pv:Nat->List V->Hp->Prop)(hn:n<=sizeLine)(h0:Pv 0 [] (upd H1 D (.lst [])))(hok:∀i ys H,Pv i ys H->Ok H)
  (hs:∀i ys H (Q':VK),i<n->ys.length=i->Pv i ys H->(∀y H4,H4 D=some (.lst ys)->Pv (i+1) (ys++[y]) (upd H4 D (.lst (ys++[y])))->Q' y H4)->∃a y1 y2,vs i=.ref a/\SqT K H a [y1,y2]/\te (some y1::some y2::σ) H Q')
  (hd:∀ys H,ys.length=n->Pv n ys H->Q (.ref D) H):b6z K J te σ Q D H1:=by
 refine⟨λi m ys H=>m=n-i/\i<=n/\ys.length=i/\Pv i ys H,⟨n,qz,Z0 _,rfl,h0⟩,?_⟩
 rintro i m ys H ⟨rfl,hi,hl,p⟩
 by_cases hlt:i<n
 ·refine .inr ⟨R.go i H hlt (hok i ys H p),λv H2 y=>?_⟩;obtain⟨e1,e2⟩:=R.yld i H v H2 hlt (hok i ys H p) y;subst e1 e2;exact hs i ys _ _ hlt hl p λv H4 q1 q2=>⟨q1,qo,n-(i+1),qo,rfl,hlt,by simp[hl],q2⟩
 ·have e:i=n:=by omega
  subst e;exact .inl ⟨R.stop H (hok _ ys H p),hd ys H hl p⟩
end L2
namespace My
open PySem PySem.Spec PyProof.Rows L2
mutual
def ord:Trm->List Str->List Str
 | .any x,a=>if x∈a then a else a++[x]
 | .num _,a=>a
 | .app _ ks,a=>ordL ks a
def ordL:List Trm->List Str->List Str
 | [],a=>a
 |k::ks,a=>ordL ks (ord k a)
end
mutual
def ren(f:Str->Str):Trm->Trm
 | .any x=>.any (f x)
 | .num m=>.num m
 | .app s ks=>.app s (renL f ks)
def renL(f:Str->Str):List Trm->List Trm
 | []=>[]
 |k::ks=>ren f k::renL f ks
end
mutual
def vars:Trm->List Str
 | .any x=>[x]
 | .num _=>[]
 | .app _ ks=>a3n ks
def a3n:List Trm->List Str
 | []=>[]
 |k::ks=>vars k++a3n ks
end
theorem c2d:∀(a b:List Trm)(acc:List Str),ordL (a++b) acc=ordL b (ordL a acc)
 | [],b,acc=>by rw[Td,ordL]
 |k::a,b,acc=>by rw[Xz,ordL,ordL,c2d a b]
theorem d2z(t:Trm)(acc:List Str):ordL [t] acc=ord t acc:=by rw[ordL,ordL]
mutual
theorem b8i:∀(t:Trm)(a:List Str)(x:Str),x∈ord t a↔x∈a\/x∈vars t
 | .any y,a,x=>by
  rw[ord,vars]
  split
  ·rename_i h
   constructor
   ·exact .inl
   ·rintro(z|z)
    ·exact z
    ·rw[Zq.mp z];exact h
  ·rw[Yt]
 | .num _,a,x=>by rw[ord,vars];simp
 | .app _ ks,a,x=>by rw[ord,vars];exact b5m ks a x
theorem b5m:∀(ts:List Trm)(a:List Str)(x:Str),x∈ordL ts a↔x∈a\/x∈a3n ts
 | [],a,x=>by rw[ordL,a3n];simp
 |k::ks,a,x=>by rw[ordL,a3n,b5m ks,b8i k,Yt,or_assoc]
end
mutual
theorem c4u:∀(t:Trm)(a:List Str),a.Nodup->(ord t a).Nodup
 | .any y,a,h=>by
  rw[ord]
  split
  ·exact h
  ·rename_i hy;exact Xq.mpr ⟨h,qz,λu hu v hv e=>hy (by rw[<-Zq.mp hv,<-e];exact hu)⟩
 | .num _,a,h=>by rw[ord];exact h
 | .app _ ks,a,h=>by rw[ord];exact b5n ks a h
theorem b5n:∀(ts:List Trm)(a:List Str),a.Nodup->(ordL ts a).Nodup
 | [],a,h=>by rw[ordL];exact h
 |k::ks,a,h=>by rw[ordL];exact b5n ks _ (c4u k a h)
end
mutual
theorem b8j:∀(t:Trm)(a:List Str),(ord t a).length<=a.length+t.size
 | .any y,a=>by
  rw[ord]
  split
  ·omega
  ·rw[Zl];simp[Trm.size]
 | .num _,a=>by rw[ord];omega
 | .app _ ks,a=>by rw[ord];have:=b1n ks a;simp only[Trm.size];omega
theorem b1n:∀(ts:List Trm)(a:List Str),(ordL ts a).length<=a.length+Trm.sizeL ts
 | [],a=>by rw[ordL];omega
 |k::ks,a=>by
  rw[ordL];have h1:=b8j k a;have h2:=b1n ks (ord k a);simp only[Trm.sizeL];omega
end
mutual
theorem b9q:∀(t:Trm)(f g:Str->Str),(∀x∈vars t,f x=g x)->ren f t=ren g t
 | .any y,f,g,h=>by rw[ren,ren,h y (by simp[vars])]
 | .num _,f,g,h=>by rw[ren,ren]
 | .app s ks,f,g,h=>by rw[ren,ren,b7a ks f g (by simpa only[vars]using h)]
theorem b7a:∀(ts:List Trm)(f g:Str->Str),(∀x∈a3n ts,f x=g x)->renL f ts=renL g ts
 | [],f,g,h=>by rw[renL,renL]
 |k::ks,f,g,h=>by
  rw[renL,renL,b9q k f g (λx hx=>h x (by rw[a3n];exact Yt.mpr (.inl hx))),b7a ks f g (λx hx=>h x (by rw[a3n];exact Yt.mpr (.inr hx)))]
end
theorem a4u(f:Str->Str):∀ts:List Trm,renL f ts=ts.map (ren f)
 | []=>by rw[renL];rfl
 |k::ks=>by rw[renL,a4u f ks];rfl
abbrev As:=List (Str×Str)
noncomputable def encS(as:As):List (Key×V):=as.map λr=>(Sum.inr r.1,V.str r.2)
def sub(as:As)(x:Str):Str:=((as.find? λr=>decide (r.1=x)).map (·.2)).getD x
theorem b8k(as:As):(encS as).length=as.length:=by simp[encS]
theorem b8l:∀(as:As)(x:Str),valV (encS as) (Sum.inr x)=((as.find? λr=>decide (r.1=x)).map (·.2)).map V.str
 | [],x=>rfl
 |r::as,x=>by
  by_cases e:r.1=x
  ·rw[show encS (r::as)=(Sum.inr r.1,V.str r.2)::encS as from rfl,b1e (by show Sum.inr r.1=Sum.inr x;rw[e]),Xw,Ye e];rfl
  ·rw[show encS (r::as)=(Sum.inr r.1,V.str r.2)::encS as from rfl,b1f (λz=>e (Uq z)),Xw,Z3 e,b8l as x]
theorem c9k{as:As}{x:Str}(h:x∉as.map (·.1)):(as.find? λr=>decide (r.1=x))=none:=by
 rw[Uk];intro r hr e;exact h (Ys.mpr ⟨r,hr,Z8 e⟩)
theorem c9l{as:As}{x:Str}(h:x∈as.map (·.1)):∃y,(as.find? λr=>decide (r.1=x))=some (x,y):=by
 cases e:as.find? λr=>decide (r.1=x)with
 |none=>
  obtain⟨r,hr,z⟩:=Ys.mp h;exact absurd (Ye z) (Uk.mp e r hr)
 |some r=>
  have h2:decide (r.1=x)=true:=List.find?_some (p:=λr:Str×Str=>decide (r.1=x)) e;have:=Z8 h2;exact⟨r.2,by rw[<-this]⟩
theorem val_sub{as:As}{x:Str}(h:x∈as.map (·.1)):valV (encS as) (Sum.inr x)=some (.str (sub as x)):=by
 obtain⟨y,e⟩:=c9l h;rw[b8l,sub,e];rfl
theorem val_new{as:As}{x:Str}(h:x∉as.map (·.1)):valV (encS as) (Sum.inr x)=none:=by rw[b8l,c9k h];rfl
theorem put_enc{as:As}{x y:Str}(h:x∉as.map (·.1)):putK (encS as) (Sum.inr x) (.str y)=encS (as++[(x,y)]):=by
 rw[d1i _ (val_new h),encS,encS,Zo];rfl
noncomputable def mkA(f:Nat->Str->Str):Nat->List Str->As
 |_,[]=>[]
 |i,x::u=>(x,f i x)::mkA f (i+1) u
theorem a8p(f:Nat->Str->Str):∀(i:Nat)(u:List Str),(mkA f i u).map (·.1)=u
 |_,[]=>rfl
 |i,x::u=>by rw[mkA,Z5,a8p f (i+1) u]
theorem b8m(f:Nat->Str->Str)(i:Nat)(u:List Str):(mkA f i u).length=u.length:=by
 rw[<-length_map (f:=λr:Str×Str=>r.1),a8p]
theorem c2e(f:Nat->Str->Str):∀(i:Nat)(u:List Str)(x:Str),mkA f i (u++[x])=mkA f i u++[(x,f (i+u.length) x)]
 |i,[],x=>rfl
 |i,y::u,x=>by
  rw[Xz,mkA,mkA,c2e f (i+1) u x,Xz,length_cons];rw[show i+1+u.length=i+(u.length+1) by omega]
theorem c4v(f:Nat->Str->Str):∀(u:List Str)(i j:Nat)(x:Str),u.Nodup->u[j]? =some x->sub (mkA f i u) x=f (i+j) x
 | [],i,j,x,hn,h=>by simp at h
 |y::u,i,0,x,hn,h=>by
  simp only[Zz,Yh]at h;subst h;rw[mkA,sub,Xw,Ye rfl];rfl
 |y::u,i,j+1,x,hn,h=>by
  have h':u[j]? =some x:=by simpa using h
  have hne:¬y=x:=λe=>by
   subst e;exact(Xv.mp hn).1 (Y4 h')
  have:=c4v f u (i+1) j x (Xv.mp hn).2 h';rw[sub]at this;rw[mkA,sub,Xw,Z3 hne,this,show i+1+j=i+(j+1) by omega]
theorem c4w{u:List Str}{x:Str}(h:x∈u):∃j:Nat,u[j]? =some x:=Ri.mp h
def tn(n:Nat):Str:=⟨(b6s n).toArray⟩
def canon(f:Nat->Nat->Str)(t:Trm):Trm:=ren (sub (mkA (λj _=>f (ord t []).length j) 0 (ord t []))) t
theorem sub_at(f:Nat->Str->Str){u:List Str}(hn:u.Nodup){j:Nat}{x:Str}(h:u[j]? =some x):sub (mkA f 0 u) x=f j x:=by
 rw[c4v f u 0 j x hn h,Wq]
theorem nod0(t:Trm):(ord t []).Nodup:=c4u t [] qz
theorem c4x{t:Trm}{x:Str}(h:x∈vars t):x∈ord t []:=(b8i t [] x).mpr (.inr h)
theorem ord_var{t:Trm}{x:Str}(h:x∈ord t []):x∈vars t:=by
 rcases(b8i t [] x).mp h with z|z
 ·simp at z
 ·exact z
def uS:Str:=ofString "U"
def dotS:Str:=ofString "."
def mrk(n:Nat)(x:Str):Str:=x++dotS++tn n
noncomputable def anew(ts:List Trm):List Trm:=renL (sub (mkA (λj _=>uS++tn (j+1)) 0 (ordL ts []))) ts
theorem d3a{u:List Str}(hn:u.Nodup){i:Nat}(hi:i<u.length):u[i]∉u.take i:=λh=>by
 obtain⟨j,hj⟩:=c4w h;have hl:=(Yi.mp hj).1;rw[Z7]at hl;rw[S2 qo]at hj;have hj':=Yi.mp hj;have hp:=List.pairwise_iff_getElem.mp (Ui.mp hn) j i hj'.1 hi qo;exact hp hj'.2
theorem c4y(f:Nat->Str->Str){u:List Str}(hn:u.Nodup){i:Nat}(hi:i<u.length){y:Str}(hy:y=f i u[i]):putK (encS (mkA f 0 (u.take i))) (Sum.inr u[i]) (.str y)=encS (mkA f 0 (u.take (i+1))):=by
 rw[put_enc (by rw[a8p];exact d3a hn hi),Us,Zj hi]
 show _=encS (mkA f 0 (u.take i++[u[i]]))
 rw[c2e,Z7,Vj qo,Wq,hy]
theorem b2u{u:List Str}{i:Nat}(hi:i<u.length):(u.map V.str).getD i .non=.str u[i]:=by rw[Z2,Yk,Zj hi];rfl
theorem mrk_sub{t:Trm}{n:Nat}:ren (sub (mkA (λ_ x=>mrk n x) 0 (ord t []))) t=ren (mrk n) t:=b9q t _ _ λx hx=>by
 obtain⟨j,hj⟩:=c4w (c4x hx);rw[sub_at _ (nod0 t) hj]
theorem nodL(ts:List Trm):(ordL ts []).Nodup:=b5n ts [] qz
theorem d3b{ts:List Trm}{x:Str}(h:x∈a3n ts):x∈ordL ts []:=(b5m ts [] x).mpr (.inr h)
theorem b8n{ts:List Trm}{t:Trm}(h:t∈ts):∀x∈vars t,x∈a3n ts:=λx hx=>by
 induction ts with
 |nil=>simp at h
 |cons a r ih=>
  rw[a3n,Yt];rcases Zu.mp h with z|z
  ·subst z;exact .inl hx
  ·exact .inr (ih z)
local macro_rules | `(tactic| walk_at "r") => `(tactic| first | decide | exact Zn _ | exact Nat.le_add_left_of_le qd | omega)
local macro_rules | `(tactic| walk_at "or1") => `(tactic| first | exact Or.inl rfl | exact Or.inr rfl)
local macro_rules | `(tactic| walk_at "q") => `(tactic| first | refine tAsg_v (fun _ _ => ?_) | apply c4k | apply tRet_i | refine tIfS_v (fun _ _ => ?_) | apply c4j | apply tDrop_i | apply mTest_i | apply mTrue_i | apply mTru_b | apply mB_i | apply tOp_i | apply tUn_i | apply mUn_i | apply m20_i | apply mAdd_i | apply mEq_i | apply mEq_s | apply mInS_i | (refine' mVar_i ?hv ?_; (case hv => with_unfolding_all rfl)) | apply tC_i | apply d1r | apply mAndV_i | apply mOrV_i | apply mNotV_i | apply tIf_i | apply tAnd_i | apply tOr_i | apply tNot_i | apply tCB_i | apply d1s | apply tCons_i | apply tNil_i | apply tBM_i | apply tBM0_i | apply tTup_i | apply tLst_i | apply tSl_i | apply c8a | apply mPart_i | apply mI_i | apply is_str | apply isN_non | apply isN_ref | apply mInt_b | apply tDGet_i | apply d1w | apply sDPut_i | apply iEnum_i | apply gCons_i | apply gNil_i | apply d1t | (refine' mAug_i ?hw ?_; (case hw => with_unfolding_all rfl)) | apply mIAdd_i | apply tTryM_i | apply tFor_i | apply tFld_i | apply sFld_i | apply c8x | apply tMeth_i | apply tMake_i | apply gSub_i | apply c5u | apply tF2n_i | apply tF3n_i | apply d2e | apply d2f | apply tTry_i | apply d2g | apply tXSet_i | apply tF3i_i | apply iStr_i | apply iList_i | apply iTup_i | apply iRng1_i | apply tComp_i | refine a6e (by assumption) ?_ | (refine m2_i ?hc ?_; (case hc => first | (show (0 : Int) < _; decide) | exact cdiv_i qd qd)))
local macro_rules | `(tactic| walk_at "s") => `(tactic| repeat (with_reducible first | refine tSeq_v (fun _ _ => ?_) | walk_at "q"))
local macro_rules | `(tactic| walk_at "A") => `(tactic| (walk_at "s"; walk_at "iF"; walk_at "s"))
local macro_rules | `(tactic| walk_at "B") => `(tactic| (walk_at "s"; walk_at "iT"; walk_at "s"))
local macro_rules | `(tactic| walk_at "C") => `(tactic| (walk_at "iF"; walk_at "s"))
local macro_rules | `(tactic| walk_at "D") => `(tactic| (walk_at "iT"; walk_at "s"))
local macro_rules | `(tactic| walk_at "m") => `(tactic| repeat (with_reducible walk_at "q"))
noncomputable def top(i:Nat):Stmt:=PySem.Challenge.pw_goaltrail_k36_keeps.main.body.getD i (.Pass ⟨0,0,0,0⟩)
abbrev a3c:Stmt:=inClass (top 1) 0
abbrev b1o:Stmt:=inClass (top 29) 0
abbrev a6v:Stmt:=inClass (top 30) 0
abbrev a4d:Stmt:=inClass (top 30) 1
abbrev a4e:Stmt:=inClass (top 30) 2
abbrev a5h:Stmt:=inClass (top 30) 3
abbrev a4f:Stmt:=inClass (top 30) 4
abbrev a5b:Stmt:=inClass (top 30) 5
abbrev b1p:Stmt:=inClass (top 45) 0
abbrev a6f:Stmt:=inClass (top 46) 0
abbrev a9s:Stmt:=inClass (top 46) 1
abbrev a7r:Stmt:=inClass (top 46) 3
abbrev a6w:Stmt:=inClass (top 46) 4
abbrev a3t:Stmt:=inClass (top 46) 5
abbrev a7s:Stmt:=inClass (top 46) 6
abbrev a7t:Stmt:=inClass (top 46) 7
abbrev a6g:Stmt:=inClass (top 46) 8
abbrev a9t:Stmt:=inClass (top 46) 9
abbrev a5c:Stmt:=inClass (top 46) 10
abbrev a6x:Stmt:=inClass (top 46) 11
abbrev a6y:Stmt:=inClass (top 46) 13
abbrev b2v:Stmt:=top 11
abbrev s_a7:Stmt:=top 12
abbrev b1q:Stmt:=top 13
abbrev a7d:Stmt:=top 14
abbrev b2w:Stmt:=top 15
abbrev a7u:Stmt:=top 17
abbrev a9d:Stmt:=top 18
abbrev a7e:Stmt:=top 19
abbrev b5o:Stmt:=top 20
abbrev b5p:Stmt:=top 22
abbrev a7v:Stmt:=top 23
abbrev a7w:Stmt:=top 24
abbrev b1r:Stmt:=top 25
abbrev b5q:Stmt:=top 27
abbrev a6h:Stmt:=top 31
abbrev b1s:Stmt:=top 35
abbrev b2x:Stmt:=top 36
abbrev b2y:Stmt:=top 37
abbrev a5q:Stmt:=top 47
abbrev b1t:Stmt:=top 48
abbrev a8q:Stmt:=top 49
abbrev a9u:Stmt:=top 51
abbrev b5r:Stmt:=top 52
abbrev a9e:Stmt:=top 53
abbrev b5s:Stmt:=top 54
abbrev b2z:Stmt:=top 55
abbrev b3a:Stmt:=top 56
abbrev b8o:Stmt:=top 57
abbrev a9v:Stmt:=top 58
abbrev b1u:Stmt:=top 59
abbrev b4d:Stmt:=top 60
abbrev s_law:Stmt:=top 61
theorem b3b:a0q ["self","words","row"] ["self","words","row"] (a0i a3c):=qn
theorem c3n:a0q ["self","lefts","rights"] ["self","lefts","rights"] (a0i b1o):=qn
theorem b7b:a0q ["self","puts","noted"] ["self","puts","noted"] (a0i a6v):=qn
theorem a3a:a0q ["self","one","other","told","row"] ["self","one","other"] (a0i a4d):=qn
theorem a3y:a0q ["self","one","other","left","right"] ["self","one","other"] (a0i a4e):=qn
theorem b3c:a0q ["self","name","term"] ["self","name","term"] (a0i a5h):=qn
theorem b0m:a0q ["self","left","right"] ["self","left","right"] (a0i a4f):=qn
theorem b7c:a0q ["self"] ["self"] (a0i a5b):=qn
theorem c3o:a0q ["self","goal","rules","todo","numbers","noted_then"] ["self","goal","rules","todo","numbers","noted_then"] (a0i b1p):=qn
theorem c3p:a0q ["self","rules","goals","bound","most"] ["self","rules","goals","bound","most"] (a0i a6f):=qn
theorem b3d:a0q ["self","first"] ["self"] (a0i a9s):=qn
theorem b0n:a0q ["self","last"] ["self"] (a0i a7r):=qn
theorem b7d:a0q ["self","end"] ["self","end"] (a0i a6w):=qn
theorem a7l:a0q ["self","terms"] ["self"] (a0i a3t):=qn
theorem b0o:a0q ["self","goal","height","reading"] ["self","goal","height"] (a0i a7s):=qn
theorem b0p:a0q ["self","goal","height","fault"] ["self","goal","height"] (a0i a7t):=qn
theorem a8r:a0q ["self","goal","found"] ["self","goal"] (a0i a6g):=qn
theorem c2f:a0q ["self","goal","rules"] ["self","goal","rules"] (a0i a9t):=qn
theorem a6i:a0q ["self","way","height","tried"] ["self","way"] (a0i a5c):=qn
theorem a9f:a0q ["self","goal","height","sign"] ["self","goal","height"] (a0i a6x):=qn
theorem b7e:a0q ["self","one","other"] ["self","one","other"] (a0i a6y):=qn
theorem c5x:a0q ["name"] ["name"] (a0i b2v):=qn
theorem sc_a7:a0q ["sign","kids"] ["sign","kids"] (a0i s_a7):=qn
theorem c3q:a0q ["sign"] ["sign"] (a0i b1q):=qn
theorem c2g:a0q ["text","firsts"] ["text","firsts"] (a0i a7d):=qn
theorem c5y:a0q ["text"] ["text"] (a0i b2w):=qn
theorem a5d:a0q ["terms","found","todo","part"] ["terms"] (a0i a7u):=qn
theorem c5z:a0q ["term","names"] ["term","names"] (a0i a9d):=qn
theorem a6j:a0q ["terms","names","name","number"] ["terms"] (a0i a7e):=qn
theorem b3e:a0q ["term","n","names","name"] ["term","n"] (a0i b5o):=qn
theorem b3f:a0q ["term","puts","at"] ["term","puts"] (a0i b5p):=qn
theorem a3z:a0q ["term","puts","most","count","todo","part"] ["term","puts","most"] (a0i a7v):=qn
theorem b8p:a0q ["term","puts"] ["term","puts"] (a0i a7w):=qn
theorem b9r:a0q ["term","puts","part"] ["term","puts"] (a0i b1r):=qn
theorem c9m:a0q ["term"] ["term"] (a0i b5q):=qn
theorem a4g:a0q ["name","term","puts","seen","todo","part"] ["name","term","puts"] (a0i a6h):=qn
theorem c3r:a0q ["term"] ["term"] (a0i b1s):=qn
theorem c6a:a0q ["goal"] ["goal"] (a0i b2x):=qn
theorem a6k:a0q ["rules","found","place","told","terms"] ["rules"] (a0i b2y):=qn
theorem a3u:a0q ["terms","puts","count","term"] ["terms","puts"] (a0i a5q):=qn
theorem a7f:a0q ["rules","goals","bound","most","run","going"] ["rules","goals","bound","most"] (a0i b1t):=qn
theorem b9s:a0q ["rules","goals","bound","most","run"] ["rules","goals","bound","most"] (a0i a8q):=qn
theorem c2h:a0q ["_law_script","_law_k"] ["_law_script","_law_k"] (a0i a9u):=qn
theorem b9t:a0q ["_law_cell","_law_k","_law_many","_law_by"] ["_law_cell","_law_k","_law_many"] (a0i b5r):=qn
theorem a2v:a0q ["_law_cell","_law_letters","_law_base","_law_at","_law_words_here","_law_k","_law_word","_law_j"] ["_law_cell"] (a0i a9e):=qn
theorem c9n:a0q ["_law_word","_law_name"] ["_law_word","_law_name"] (a0i b5s):=qn
theorem a3d:a0q ["_law_script","_law_words_here","_law_way","_law_keep","_law_first","_law_place","_law_second","_law_rules_here","_law_k","_law_cell","_law_fact"] ["_law_script","_law_words_here","_law_way"] (a0i b2z):=qn
theorem a8a:a0q ["_law_rules_here","_law_word","_law_found","_law_k","_law_one"] ["_law_rules_here","_law_word"] (a0i b3a):=qn
theorem d3c:a0q ["_law_ways","_law_kept"] ["_law_ways","_law_kept"] (a0i b8o):=qn
theorem a1u:a0q ["_law_rules_here","_law_words_here","_law_number","_law_count","_law_goals","_law_word","_law_kept","_law_ahead","_law_facts_here","_law_told","_law_term","_law_fact","_law_way"] ["_law_rules_here","_law_words_here","_law_number","_law_count"] (a0i a9v):=qn
theorem a2w:a0q ["_law_rules_here","_law_words_here","_law_told","_law_count","_law_k","_law_one","_law_more","_law_over"] ["_law_rules_here","_law_words_here"] (a0i b1u):=qn
theorem a2n:a0q ["_law_rules_here","_law_words_here","_law_shape","_law_kept","_law_fourth_here","_law_count","_law_facts_here","_law_told","_law_term","_law_fact","_law_other","_law_way"] ["_law_rules_here","_law_words_here","_law_shape","_law_kept"] (a0i b4d):=qn
theorem a4v:a0q ["_law_script","_law_words_here","_law_way","_law_rules_here","_law_one","_law_shape","_law_kept","_law_goals","_law_due_here","_law_count","_law_found"] ["_law_script"] (a0i s_law):=qn
set_option genInjectivity false in
structure Ad where
 k_f8:Addr
 k_c3:Addr
 k_f9:Addr
 k_a4:Addr
 k_a1:Addr
 k_a2:Addr
 k_a0:Addr
 a_c5:Addr
 d_c5:FuncData
 v_c5:Addr
 w_c5_0:Tok
 a_c7:Addr
 d_c7:FuncData
 a_f7:Addr
 d_f7:FuncData
 a_e2:Addr
 d_e2:FuncData
 a_e6:Addr
 d_e6:FuncData
 a_c8:Addr
 d_c8:FuncData
 a_e4:Addr
 d_e4:FuncData
 a_c4:Addr
 d_c4:FuncData
 a_f5:Addr
 d_f5:FuncData
 a_f6:Addr
 d_f6:FuncData
 a_e9:Addr
 d_e9:FuncData
 a_f2:Addr
 d_f2:FuncData
 a_b2:Addr
 d_b2:FuncData
 a_f3:Addr
 d_f3:FuncData
 a_f1:Addr
 d_f1:FuncData
 a_f0:Addr
 d_f0:FuncData
 a_e3:Addr
 d_e3:FuncData
 a_c2:Addr
 d_c2:FuncData
 a_e5:Addr
 d_e5:FuncData
 a_e7:Addr
 d_e7:FuncData
 a_e8:Addr
 d_e8:FuncData
 a_b3:Addr
 d_b3:FuncData
 a_a7:Addr
 d_a7:FuncData
 a_d0:Addr
 d_d0:FuncData
 a_d5:Addr
 d_d5:FuncData
 a_d8:Addr
 d_d8:FuncData
 a_b0:Addr
 d_b0:FuncData
 a_a9:Addr
 d_a9:FuncData
 a_a8:Addr
 d_a8:FuncData
 a_c6:Addr
 d_c6:FuncData
 a_a5:Addr
 d_a5:FuncData
 a_c1:Addr
 d_c1:FuncData
 a_b9:Addr
 d_b9:FuncData
 a_b8:Addr
 d_b8:FuncData
 a_b4:Addr
 d_b4:FuncData
 a_d7:Addr
 d_d7:FuncData
 a_c9:Addr
 d_c9:FuncData
 a_c0:Addr
 d_c0:FuncData
 a_d6:Addr
 d_d6:FuncData
 a_d9:Addr
 d_d9:FuncData
 a_d1:Addr
 d_d1:FuncData
 a_b6:Addr
 d_b6:FuncData
 v_b6:Addr
 w_b6_0:Tok
 w_b6_1:Tok
 a_b7:Addr
 d_b7:FuncData
 a_a3:Addr
 d_a3:FuncData
 a_d2:Addr
 d_d2:FuncData
 a_a6:Addr
 d_a6:FuncData
 a_d3:Addr
 d_d3:FuncData
 a_b1:Addr
 d_b1:FuncData
 a_b5:Addr
 d_b5:FuncData
 a_e1:Addr
 d_e1:FuncData
 a_e0:Addr
 d_e0:FuncData
 a_d4:Addr
 d_d4:FuncData
 a_law:Addr
 d_law:FuncData
 t_g2:Tok
 t_g4:Tok
 t_g7:Tok
 t_g5:Tok
 t_g8:Tok
 t_g9:Tok
 t_h0:Tok
structure Txt(K:W.Frag)(mg:Str->Option Value)(t:Ad):Prop where
 m_f8:mg "TrailError"=some (.ref t.k_f8)
 x_f8:XCls K t.k_f8 [.type "ValueError",.type "Exception",.type "BaseException",.type "object"]
 u_f8:XUp [.type "ValueError",.type "Exception",.type "BaseException",.type "object"]
 at_f8:b1m K t.k_f8
 no_f8_row:a0x K t.k_f8 "row"
 mk_f8:XMk K t.k_f8 [.type "ValueError",.type "Exception",.type "BaseException",.type "object"] t.a_c5
 m_c3:mg "Big"=some (.ref t.k_c3)
 x_c3:XCls K t.k_c3 [.ref t.k_f8,.type "ValueError",.type "Exception",.type "BaseException",.type "object"]
 u_c3:XUp [.ref t.k_f8,.type "ValueError",.type "Exception",.type "BaseException",.type "object"]
 at_c3:b1m K t.k_c3
 no_c3_row:a0x K t.k_c3 "row"
 mk_c3:XMk K t.k_c3 [.ref t.k_f8,.type "ValueError",.type "Exception",.type "BaseException",.type "object"] t.a_c5
 m_f9:mg "Fault"=some (.ref t.k_f9)
 x_f9:XCls K t.k_f9 [.ref t.k_f8,.type "ValueError",.type "Exception",.type "BaseException",.type "object"]
 u_f9:XUp [.ref t.k_f8,.type "ValueError",.type "Exception",.type "BaseException",.type "object"]
 at_f9:b1m K t.k_f9
 no_f9_row:a0x K t.k_f9 "row"
 m_a4:mg "Row"=some (.ref t.k_a4)
 cl_a4:Cls K t.k_a4
 no_a4_lefts:a0x K t.k_a4 "lefts"
 no_a4_rights:a0x K t.k_a4 "rights"
 no_a4_taken:a0x K t.k_a4 "taken"
 mk_a4:Mk K t.k_a4 t.a_c7
 m_a1:mg "Joining"=some (.ref t.k_a1)
 cl_a1:Cls K t.k_a1
 no_a1_puts:a0x K t.k_a1 "puts"
 no_a1_noted:a0x K t.k_a1 "noted"
 no_a1_rows:a0x K t.k_a1 "rows"
 no_a1_met:a0x K t.k_a1 "met"
 mk_a1:Mk K t.k_a1 t.a_f7
 me_e2:Meth K t.k_a1 "join_terms" t.a_e2
 me_e6:Meth K t.k_a1 "join_place" t.a_e6
 me_c8:Meth K t.k_a1 "put_for" t.a_c8
 me_e4:Meth K t.k_a1 "begin_kids" t.a_e4
 me_c4:Meth K t.k_a1 "path" t.a_c4
 m_a2:mg "Way"=some (.ref t.k_a2)
 cl_a2:Cls K t.k_a2
 no_a2_goal:a0x K t.k_a2 "goal"
 no_a2_rules:a0x K t.k_a2 "rules"
 no_a2_todo:a0x K t.k_a2 "todo"
 no_a2_numbers:a0x K t.k_a2 "numbers"
 no_a2_noted_then:a0x K t.k_a2 "noted_then"
 mk_a2:Mk K t.k_a2 t.a_f5
 m_a0:mg "Run"=some (.ref t.k_a0)
 cl_a0:Cls K t.k_a0
 no_a0_rules:a0x K t.k_a0 "rules"
 no_a0_bound:a0x K t.k_a0 "bound"
 no_a0_most:a0x K t.k_a0 "most"
 no_a0_names:a0x K t.k_a0 "names"
 no_a0_asked:a0x K t.k_a0 "asked"
 no_a0_todo:a0x K t.k_a0 "todo"
 no_a0_numbers:a0x K t.k_a0 "numbers"
 no_a0_puts:a0x K t.k_a0 "puts"
 no_a0_noted:a0x K t.k_a0 "noted"
 no_a0_left:a0x K t.k_a0 "left"
 no_a0_nots:a0x K t.k_a0 "nots"
 no_a0_uses:a0x K t.k_a0 "uses"
 no_a0_count:a0x K t.k_a0 "count"
 no_a0_answers:a0x K t.k_a0 "answers"
 no_a0_end:a0x K t.k_a0 "end"
 mk_a0:Mk K t.k_a0 t.a_f6
 me_e9:Meth K t.k_a0 "go_on" t.a_e9
 me_f2:Meth K t.k_a0 "go_back" t.a_f2
 me_b2:Meth K t.k_a0 "end_with" t.a_b2
 me_f3:Meth K t.k_a0 "tell_answer" t.a_f3
 me_f1:Meth K t.k_a0 "take_up" t.a_f1
 me_f0:Meth K t.k_a0 "do_goal" t.a_f0
 me_e3:Meth K t.k_a0 "ask_rules" t.a_e3
 me_c2:Meth K t.k_a0 "leave" t.a_c2
 me_e5:Meth K t.k_a0 "try_rule" t.a_e5
 me_e7:Meth K t.k_a0 "do_other" t.a_e7
 me_e8:Meth K t.k_a0 "make_one" t.a_e8
 F_c5:FunD K "__init__" "TrailError.__init__" a3c t.a_c5 t.d_c5 (.ref t.v_c5)
 b_c5:Binds K t.d_c5 ["self","words","row"] []
 bd_c5:Binds K t.d_c5 ["self","words","row"] [.int 0 t.w_c5_0]
 F_c7:Fun K "__init__" "Row.__init__" b1o t.a_c7 t.d_c7
 b_c7:Binds K t.d_c7 ["self","lefts","rights"] []
 F_f7:Fun K "__init__" "Joining.__init__" a6v t.a_f7 t.d_f7
 b_f7:Binds K t.d_f7 ["self","puts","noted"] []
 F_e2:Fun K "join_terms" "Joining.join_terms" a4d t.a_e2 t.d_e2
 b_e2:Binds K t.d_e2 ["self","one","other"] []
 F_e6:Fun K "join_place" "Joining.join_place" a4e t.a_e6 t.d_e6
 b_e6:Binds K t.d_e6 ["self","one","other"] []
 F_c8:Fun K "put_for" "Joining.put_for" a5h t.a_c8 t.d_c8
 b_c8:Binds K t.d_c8 ["self","name","term"] []
 F_e4:Fun K "begin_kids" "Joining.begin_kids" a4f t.a_e4 t.d_e4
 b_e4:Binds K t.d_e4 ["self","left","right"] []
 F_c4:Fun K "path" "Joining.path" a5b t.a_c4 t.d_c4
 b_c4:Binds K t.d_c4 ["self"] []
 F_f5:Fun K "__init__" "Way.__init__" b1p t.a_f5 t.d_f5
 b_f5:Binds K t.d_f5 ["self","goal","rules","todo","numbers","noted_then"] []
 F_f6:Fun K "__init__" "Run.__init__" a6f t.a_f6 t.d_f6
 b_f6:Binds K t.d_f6 ["self","rules","goals","bound","most"] []
 F_e9:Fun K "go_on" "Run.go_on" a9s t.a_e9 t.d_e9
 b_e9:Binds K t.d_e9 ["self"] []
 F_f2:Fun K "go_back" "Run.go_back" a7r t.a_f2 t.d_f2
 b_f2:Binds K t.d_f2 ["self"] []
 F_b2:Fun K "end_with" "Run.end_with" a6w t.a_b2 t.d_b2
 b_b2:Binds K t.d_b2 ["self","end"] []
 F_f3:Fun K "tell_answer" "Run.tell_answer" a3t t.a_f3 t.d_f3
 b_f3:Binds K t.d_f3 ["self"] []
 F_f1:Fun K "take_up" "Run.take_up" a7s t.a_f1 t.d_f1
 b_f1:Binds K t.d_f1 ["self","goal","height"] []
 F_f0:Fun K "do_goal" "Run.do_goal" a7t t.a_f0 t.d_f0
 b_f0:Binds K t.d_f0 ["self","goal","height"] []
 F_e3:Fun K "ask_rules" "Run.ask_rules" a6g t.a_e3 t.d_e3
 b_e3:Binds K t.d_e3 ["self","goal"] []
 F_c2:Fun K "leave" "Run.leave" a9t t.a_c2 t.d_c2
 b_c2:Binds K t.d_c2 ["self","goal","rules"] []
 F_e5:Fun K "try_rule" "Run.try_rule" a5c t.a_e5 t.d_e5
 b_e5:Binds K t.d_e5 ["self","way"] []
 F_e7:Fun K "do_other" "Run.do_other" a6x t.a_e7 t.d_e7
 b_e7:Binds K t.d_e7 ["self","goal","height"] []
 F_e8:Fun K "make_one" "Run.make_one" a6y t.a_e8 t.d_e8
 b_e8:Binds K t.d_e8 ["self","one","other"] []
 F_b3:Fun K "unknown" "unknown" b2v t.a_b3 t.d_b3
 b_b3:Binds K t.d_b3 ["name"] []
 m_b3:mg "unknown"=some (.ref t.a_b3)
 F_a7:Fun K "app" "app" s_a7 t.a_a7 t.d_a7
 b_a7:Binds K t.d_a7 ["sign","kids"] []
 m_a7:mg "app"=some (.ref t.a_a7)
 F_d0:Fun K "is_inner" "is_inner" b1q t.a_d0 t.d_d0
 b_d0:Binds K t.d_d0 ["sign"] []
 m_d0:mg "is_inner"=some (.ref t.a_d0)
 F_d5:Fun K "is_called" "is_called" a7d t.a_d5 t.d_d5
 b_d5:Binds K t.d_d5 ["text","firsts"] []
 m_d5:mg "is_called"=some (.ref t.a_d5)
 F_d8:Fun K "is_word" "is_word" b2w t.a_d8 t.d_d8
 b_d8:Binds K t.d_d8 ["text"] []
 m_d8:mg "is_word"=some (.ref t.a_d8)
 F_b0:Fun K "unknowns_of" "unknowns_of" a7u t.a_b0 t.d_b0
 b_b0:Binds K t.d_b0 ["terms"] []
 m_b0:mg "unknowns_of"=some (.ref t.a_b0)
 F_a9:Fun K "renamed" "renamed" a9d t.a_a9 t.d_a9
 b_a9:Binds K t.d_a9 ["term","names"] []
 m_a9:mg "renamed"=some (.ref t.a_a9)
 F_a8:Fun K "told_anew" "told_anew" a7e t.a_a8 t.d_a8
 b_a8:Binds K t.d_a8 ["terms"] []
 m_a8:mg "told_anew"=some (.ref t.a_a8)
 F_c6:Fun K "marked" "marked" b5o t.a_c6 t.d_c6
 b_c6:Binds K t.d_c6 ["term","n"] []
 m_c6:mg "marked"=some (.ref t.a_c6)
 F_a5:Fun K "walked" "walked" b5p t.a_a5 t.d_a5
 b_a5:Binds K t.d_a5 ["term","puts"] []
 m_a5:mg "walked"=some (.ref t.a_a5)
 F_c1:Fun K "parts_up_to" "parts_up_to" a7v t.a_c1 t.d_c1
 b_c1:Binds K t.d_c1 ["term","puts","most"] []
 m_c1:mg "parts_up_to"=some (.ref t.a_c1)
 F_b9:Fun K "written_out" "written_out" a7w t.a_b9 t.d_b9
 b_b9:Binds K t.d_b9 ["term","puts"] []
 m_b9:mg "written_out"=some (.ref t.a_b9)
 F_b8:Fun K "put_in" "put_in" b1r t.a_b8 t.d_b8
 b_b8:Binds K t.d_b8 ["term","puts"] []
 m_b8:mg "put_in"=some (.ref t.a_b8)
 F_b4:Fun K "key_of" "key_of" b5q t.a_b4 t.d_b4
 b_b4:Binds K t.d_b4 ["term"] []
 m_b4:mg "key_of"=some (.ref t.a_b4)
 F_d7:Fun K "stands_within" "stands_within" a6h t.a_d7 t.d_d7
 b_d7:Binds K t.d_d7 ["name","term","puts"] []
 m_d7:mg "stands_within"=some (.ref t.a_d7)
 F_c9:Fun K "is_named" "is_named" b1s t.a_c9 t.d_c9
 b_c9:Binds K t.d_c9 ["term"] []
 m_c9:mg "is_named"=some (.ref t.a_c9)
 F_c0:Fun K "word_of" "word_of" b2x t.a_c0 t.d_c0
 b_c0:Binds K t.d_c0 ["goal"] []
 m_c0:mg "word_of"=some (.ref t.a_c0)
 F_d6:Fun K "by_word" "by_word" b2y t.a_d6 t.d_d6
 b_d6:Binds K t.d_d6 ["rules"] []
 m_d6:mg "by_word"=some (.ref t.a_d6)
 F_d9:Fun K "parts_together" "parts_together" a5q t.a_d9 t.d_d9
 b_d9:Binds K t.d_d9 ["terms","puts"] []
 m_d9:mg "parts_together"=some (.ref t.a_d9)
 F_d1:Fun K "searched" "searched" b1t t.a_d1 t.d_d1
 b_d1:Binds K t.d_d1 ["rules","goals","bound","most"] []
 m_d1:mg "searched"=some (.ref t.a_d1)
 F_b6:FunD K "search" "search" a8q t.a_b6 t.d_b6 (.ref t.v_b6)
 b_b6:Binds K t.d_b6 ["rules","goals","bound","most"] []
 bd_b6:Binds K t.d_b6 ["rules","goals","bound","most"] [.int 200 t.w_b6_0,.int 10 t.w_b6_1]
 m_b6:mg "search"=some (.ref t.a_b6)
 F_b7:Fun K "_law_cell_at" "_law_cell_at" a9u t.a_b7 t.d_b7
 b_b7:Binds K t.d_b7 ["_law_script","_law_k"] []
 m_b7:mg "_law_cell_at"=some (.ref t.a_b7)
 F_a3:Fun K "_law_pick" "_law_pick" b5r t.a_a3 t.d_a3
 b_a3:Binds K t.d_a3 ["_law_cell","_law_k","_law_many"] []
 m_a3:mg "_law_pick"=some (.ref t.a_a3)
 F_d2:Fun K "_law_words" "_law_words" a9e t.a_d2 t.d_d2
 b_d2:Binds K t.d_d2 ["_law_cell"] []
 m_d2:mg "_law_words"=some (.ref t.a_d2)
 F_a6:Fun K "_law_goal" "_law_goal" b5s t.a_a6 t.d_a6
 b_a6:Binds K t.d_a6 ["_law_word","_law_name"] []
 m_a6:mg "_law_goal"=some (.ref t.a_a6)
 F_d3:Fun K "_law_rules" "_law_rules" b2z t.a_d3 t.d_d3
 b_d3:Binds K t.d_d3 ["_law_script","_law_words_here","_law_way"] []
 m_d3:mg "_law_rules"=some (.ref t.a_d3)
 F_b1:Fun K "_law_facts" "_law_facts" b3a t.a_b1 t.d_b1
 b_b1:Binds K t.d_b1 ["_law_rules_here","_law_word"] []
 m_b1:mg "_law_facts"=some (.ref t.a_b1)
 F_b5:Fun K "_law_cut" "_law_cut" b8o t.a_b5 t.d_b5
 b_b5:Binds K t.d_b5 ["_law_ways","_law_kept"] []
 m_b5:mg "_law_cut"=some (.ref t.a_b5)
 F_e1:Fun K "_law_of_rule" "_law_of_rule" a9v t.a_e1 t.d_e1
 b_e1:Binds K t.d_e1 ["_law_rules_here","_law_words_here","_law_number","_law_count"] []
 m_e1:mg "_law_of_rule"=some (.ref t.a_e1)
 F_e0:Fun K "_law_fourth" "_law_fourth" b1u t.a_e0 t.d_e0
 b_e0:Binds K t.d_e0 ["_law_rules_here","_law_words_here"] []
 m_e0:mg "_law_fourth"=some (.ref t.a_e0)
 F_d4:Fun K "_law_due" "_law_due" b4d t.a_d4 t.d_d4
 b_d4:Binds K t.d_d4 ["_law_rules_here","_law_words_here","_law_shape","_law_kept"] []
 m_d4:mg "_law_due"=some (.ref t.a_d4)
 F_law:Fun K "law" "law" s_law t.a_law t.d_law
 b_law:Binds K t.d_law ["_law_script"] []
 m_law:mg "law"=some (.ref t.a_law)
 n_h6:mg "ValueError"=none
 n_h7:mg "all"=none
 n_h1:mg "enumerate"=none
 n_g1:mg "int"=none
 n_h5:mg "isinstance"=none
 n_f4:mg "len"=none
 n_g0:mg "list"=none
 n_g6:mg "range"=none
 n_h2:mg "reversed"=none
 n_h3:mg "str"=none
 n_g3:mg "tuple"=none
 n_h4:mg "zip"=none
 m_g2:mg "MOST_PARTS"=some (.int 40 t.t_g2)
 m_g4:mg "KEEP"=some (.str "keep" t.t_g4)
 m_g7:mg "NOT"=some (.str "not" t.t_g7)
 m_g5:mg "SMALL"=some (.str "abcdefghijklmnopqrstuvwxyz" t.t_g5)
 m_g8:mg "GREAT"=some (.str "ABCDEFGHIJKLMNOPQRSTUVWXYZ" t.t_g8)
 m_g9:mg "FIGURES"=some (.str "0123456789" t.t_g9)
 m_h0:mg "MOST_LETTERS"=some (.int 12 t.t_h0)
local macro_rules | `(tactic| exists $e:ident) => `(tactic| refine iteB (fun $e => ?_) (fun $e => ?_))
local macro_rules | `(tactic| exists $f:ident $a*) => `(tactic| (refine $f $a* ?_; walk_at "s"))
local macro_rules | `(tactic| exists $f:ident $a*, $sp:ident, $D, $H:ident, $Q:ident, $E:ident, $hr:ident, $h:ident) => `(tactic| (refine $f $a* (fun vs H Q E h => by unfold $sp at h; split at h <;> first | rfl | exact h.elim) (fun cdv A outer s $H vs $Q $E $hr $h => ?_); unfold $sp at $h:ident; split at $h:ident; rotate_left; exact ($h).elim; refine ⟨_, $D, ?_⟩))
local macro_rules | `(tactic| exists $f:ident $a*, $D, $H:ident, $Q:ident, $E:ident, $hr:ident, $h:ident) => `(tactic| (refine $f $a* (fun vs H Q E h => by revert vs; walk_at "in"; exact fun _ => rfl) (fun cdv A outer s $H vs $Q $E $hr h => ?_); revert vs; walk_at "in"; intro $h:ident; refine ⟨_, $D, ?_⟩; try dsimp only [zxN, zxK]))
mutual
def vin(xs:List Str):Trm->Prop
 | .num _=>True
 | .any x=>x∈xs
 | .app _ ks=>vinL xs ks
def vinL(xs:List Str):List Trm->Prop
 | []=>True
 |t::r=>vin xs t/\vinL xs r
end
theorem sIx_lo(n:Nat)(m:Int)(h:0<=m):HT.sIx n 0 (some m)=min m.toNat n:=by rw[<-c8e n m h];rfl
theorem c2i(us:List V)(m:Int)(h:0<=m):cutV us none (some m)=us.take m.toNat:=by
 unfold cutV;rw[c1m,c8e _ _ h,List.drop_zero,Nat.sub_zero]
 by_cases hm:m.toNat<=us.length
 ·rw[Vj hm]
 ·rw[Nat.min_eq_right qo,Yx,Yo qo]
theorem b1v(us:List V)(m:Int)(h:0<=m):cutV us (some m) none=us.drop m.toNat:=by
 unfold cutV;rw[c1m,sIx_lo _ _ h]
 by_cases hm:m.toNat<=us.length
 ·rw[Vj hm,Yo (by rw[V0];omega)]
 ·rw[Nat.min_eq_right qo,Sd,List.drop_of_length_le qo]
  simp
theorem a4w(a b:List Trm):Trm.dataL (a++b)=Trm.dataL a++Trm.dataL b:=by rw[Trm.dataL_map,Trm.dataL_map,Trm.dataL_map,Zo]
theorem a1k{H H':Hp}{p:Addr}(s:Same H H')(h:H' p=none):H p=none:=by
 cases e:H p with
 |none=>rfl
 |some o=>rw[s _ _ e]at h;cases h
theorem d3d{K:FG}{p:Addr}{H H':Hp}{kv:List (Key×V)}(e:But p H H')(hp:H p=some (.dK kv)):∀a xs,SqT K H a xs->SqT K H' a xs:=λa xs h=>by
 rcases h with(h|⟨o,h⟩)|h
 ·exact .inl (.inl (e _ _ (λz=>by rw[z,hp]at h;cases h) h))
 ·exact .inl (.inr ⟨o,e _ _ (λz=>by rw[z,hp]at h;cases h) h⟩)
 ·exact .inr h
mutual
inductive Full(rows:Rws):Trm->Trm->Prop
 |num (n:Int):Full rows (.num n) (.num n)
 |no {x:Str}:a1b rows x=none->Full rows (.any x) (.any x)
 |yes {x:Str} {u t:Trm}:a1b rows x=some u->Full rows u t->Full rows (.any x) t
 |app {s:Str} {ks ls:List Trm}:a2q rows ks ls->Full rows (.app s ks) (.app s ls)
inductive a2q(rows:Rws):List Trm->List Trm->Prop
 |nil:a2q rows [] []
 |cons {t t':Trm} {r r':List Trm}:Full rows t t'->a2q rows r r'->a2q rows (t::r) (t'::r')
end
inductive Wlk(rows:Rws):Nat->Trm->Trm->Prop
 |stop {t:Trm}:(∀x,t=.any x->a1b rows x=none)->Wlk rows 0 t t
 |step {n:Nat} {x:Str} {u t:Trm}:a1b rows x=some u->Wlk rows n u t->Wlk rows (n+1) (.any x) t
noncomputable def hnf(rows:Rws)(u:Trm):Prop:=∀x,u=.any x->a1b rows x=none
theorem Wlk.hnf{rows:Rws}{n:Nat}{t u:Trm}(w:Wlk rows n t u):hnf rows u:=by
 induction w with
 |stop h=>exact h
 |step _ _ i=>exact i
theorem Full.walk{rows:Rws}:∀{t t':Trm},Full rows t t'->∃n u,Wlk rows n t u/\Full rows u t'
 |_,_,.num n=>⟨0,_,.stop (λx h=>by cases h),.num n⟩
 |_,_,.no h=>⟨0,_,.stop (λx e=>by cases e;exact h),.no h⟩
 |_,_,.yes h f=>by
  obtain⟨n,u,w,g⟩:=f.walk;exact⟨n+1,u,.step h w,g⟩
 |_,_,.app h=>⟨0,_,.stop (λx e=>by cases e),.app h⟩
theorem Wlk.size{rows:Rws}{B:Nat}(hr:∀r∈rows,r.2.size<=B){n:Nat}{t u:Trm}(w:Wlk rows n t u)(h:t.size<=B):u.size<=B:=by
 induction w with
 |stop _=>exact h
 |step e _ i=>exact i (hr _ (c1q e))
theorem a2q.len{rows:Rws}:∀{a b:List Trm},a2q rows a b->a.length=b.length
 |_,_,.nil=>rfl
 |_,_,.cons _ r=>by rw[length_cons,length_cons,r.len]
theorem a2q.append{rows:Rws}:∀{a b c d:List Trm},a2q rows a b->a2q rows c d->a2q rows (a++c) (b++d)
 |_,_,_,_,.nil,h=>h
 |_,_,_,_,.cons x r,h=>.cons x (r.append h)
theorem a2q.snoc{rows:Rws}:∀{a:List Trm}{x:Trm}{b:List Trm},a2q rows (a++[x]) b->∃b' y,b=b'++[y]/\a2q rows a b'/\Full rows x y
 | [],x,_,.cons h .nil=>⟨[],_,rfl,.nil,h⟩
 |_::a,x,_,.cons h r=>by
  obtain⟨b',y,rfl,h1,h2⟩:=a2q.snoc (a:=a) r;exact⟨_::b',y,rfl,.cons h h1,h2⟩
theorem b7f{s:Str}{ks:List Trm}{B:Nat}(h:(Trm.app s ks).size<=B):∀t∈ks,t.size<=B:=λt ht=>by
 obtain⟨a,b,rfl⟩:=Ts ht;simp only[Trm.size,Trm.sizeL_app,Trm.sizeL]at h;omega
theorem nil_or_snoc'{α:Type}(l:List α):l=[]\/∃r x,l=r++[x]:=by
 cases l.eq_nil_or_concat with
 |inl h=>exact .inl h
 |inr h=>obtain⟨r,x,h⟩:=h;exact .inr ⟨r,x,by simpa using h⟩
theorem q1:decide (numS=anyS)=false:=by decide+kernel
theorem q2:decide (appS=anyS)=false:=by decide+kernel
theorem q3:decide (anyS=anyS)=true:=by decide+kernel
theorem q4:decide (numS=appS)=false:=by decide+kernel
theorem q5:decide (anyS=appS)=false:=by decide+kernel
theorem q6:decide (appS=appS)=true:=by decide+kernel
theorem q7:decide (numS=numS)=true:=by decide+kernel
structure a2i(K:W.Frag)(H:Hp)(a:Addr)(rows:Rws):Prop where
 ex:∃kvs,H a=some (.dK kvs)/\a1z K H kvs rows
theorem a2i.mono{K:FG}{H H':Hp}{a:Addr}{rows:Rws}(h:a2i K H a rows)(s:Same H H'):a2i K H' a rows:=by
 obtain⟨kvs,h1,h2⟩:=h.ex;exact⟨kvs,s _ _ h1,h2.mono s⟩
theorem a2i.lst{K:FG}{H:Hp}{a p:Addr}{rows:Rws}{ys:List V}{o:HO}(h:a2i K H a rows)(hp:H p=some (.lst ys)):a2i K (upd H p o) a rows:=by
 obtain⟨kvs,h1,h2⟩:=h.ex;refine⟨kvs,?_,h2.monoT (b8e hp)⟩;rw[a0f (λz=>by rw[z,hp]at h1;cases h1)];exact h1
theorem a2i.get{K:FG}{H:Hp}{a:Addr}{rows:Rws}(h:a2i K H a rows)(x:Str):(a1b rows x=none/\DGet H a (.str x) none)\/∃t v,a1b rows x=some t/\DGet H a (.str x) (some v)/\Den K H v t.data:=by
 obtain⟨kvs,h1,h2⟩:=h.ex;rcases h2.get x with⟨c1,c2⟩|⟨t,v,c1,c2,c3⟩
 ·refine .inl ⟨c1,?_⟩;have:=DGet.k (k:=Sum.inr x) h1;rw[c2]at this;exact this
 ·refine .inr ⟨t,v,c1,?_,c3⟩;have:=DGet.k (k:=Sum.inr x) h1;rw[c2]at this;exact this
abbrev a7m(K:W.Frag):Sp:=λvs H Q _=>aV vs λv vs=>aR vs λpd vs=>aE vs (∃(rows:Rws)(t:Trm)(n:Nat)(u:Trm),a2i K H pd rows/\Den K H v t.data/\Wlk rows n t u/\∀v',Den K H v' u.data->Q v' H)
noncomputable def upTo(n:Nat)(most:Int):Int:=if(n:Int)<=most then n else most+1
abbrev a6z(K:W.Frag):Sp:=λvs H Q _=>aV vs λv vs=>aR vs λpd vs=>aI vs λmost vs=>aE vs (∃(rows:Rws)(t t':Trm),a2i K H pd rows/\Den K H v t.data/\Full rows t t'/\t.size<=70/\(∀r∈rows,r.2.size<=70)/\0<=most/\most<=1000/\∀H',Same H H'->Q (.int (upTo t'.size most)) H')
noncomputable def keyK:Trm->Option (List Key)
 | .num m=>some [Sum.inr numS,Sum.inl m]
 | .any _=>none
 | .app s ks=>some [Sum.inr appS,Sum.inr s,Sum.inl (ks.length:Int)]
def onK(H:Hp)(Q:VK):Option (List Key)->Prop
 |none=>Q .non H
 |some ks=>∀p H',Same H H'->H' p=some (.tup (ks.map kV))->Q (.ref p) H'
abbrev b9u(K:W.Frag):Sp:=λvs H Q _=>aV vs λv vs=>aE vs (∃t:Trm,Den K H v t.data/\onK H Q (keyK t))
theorem c2j{ls:List Trm}{i:Nat}{l:Trm}(h:ls[i]? =some l):l.size<=Trm.sizeL ls:=by
 have hi:=(Yi.mp h).1;have e:=Trm.sizeL_app (ls.take i) (ls.drop i);have hl:ls[i]=l:=(Yi.mp h).2;rw[Rh,Wk hi,Trm.sizeL,hl]at e;omega
abbrev a8b(K:W.Frag):Sp:=λvs H Q _=>aS vs λx vs=>aE vs (∀(v:V)(H':Hp),Same H H'->Den K H' v (Trm.any x).data->Q v H')
abbrev a5e(K:W.Frag):Sp:=λvs H Q _=>aR vs λa vs=>aE vs (∃(us:List V)(ts:List Trm),SqL K H a us/\DenL K H us (Trm.dataL ts)/\Trm.sizeL ts<=1000/\∀(p:Addr)(H':Hp),Same H H'->H p=none->H' p=some (.lst ((ordL ts []).map V.str))->Q (.ref p) H')
abbrev a5f(K:W.Frag)(n:Nat):Sp:=λvs H Q _=>aV vs λv vs=>aR vs λd vs=>aE vs (∃(t:Trm)(as:As),Den K H v t.data/\H d=some (.dK (encS as))/\(∀x∈vars t,x∈as.map (·.1))/\t.size<=n/\n<=70/\∀(x:V)(H':Hp),Same H H'->Den K H' x (ren (sub as) t).data->Q x H')
theorem c6b{K:FG}{H:Hp}{v:V}{d:Addr}{R:Trm->As->Prop}(h:∃(t:Trm)(as:As),Den K H v t.data/\H d=some (.dK (encS as))/\(∀x∈vars t,x∈as.map (·.1))/\t.size<=0/\0<=70/\R t as):False:=by
 obtain⟨t,_,_,_,_,z,_⟩:=h;have:=Trm.size_pos t;omega
abbrev a6l(K:W.Frag):Sp:=λvs H Q _=>aR vs λa vs=>aE vs (∃(us:List V)(ts:List Trm),SqL K H a us/\DenL K H us (Trm.dataL ts)/\Trm.sizeL ts<=1000/\(∀t∈ts,t.size<=70)/\∀(p:Addr)(us':List V)(H':Hp),Same H H'->H p=none->H' p=some (.lst us')->DenL K H' us' (Trm.dataL (anew ts))->Q (.ref p) H')
abbrev b9v(K:W.Frag):Sp:=λvs H Q _=>aV vs λv vs=>aI vs λn vs=>aE vs (∃t:Trm,Den K H v t.data/\t.size<=70/\0<=n/\n<10^30/\(∀x∈vars t,x.length<=1000)/\∀(x:V)(H':Hp),Same H H'->Den K H' x (ren (mrk n.toNat) t).data->Q x H')
theorem tn_len{n:Nat}(h:n<10^30):(tn n).length<=30:=d1u qd h
theorem c9o{i:Int}(h0:0<=i)(h1:i<10^30):i.natAbs.log2<1920/\(ofString (toString i)).length<=1000/\ofString (toString i)=tn i.toNat:=by
 obtain⟨n,rfl⟩:=U4 h0;have e:ofString (toString (n:Int))=tn n:=d1v n;have hn:n<10^30:=by omega
 refine⟨?_,by rw[e];have:=tn_len hn;omega,e⟩
 show n.log2<1920
 rcases Nat.eq_zero_or_pos n with z|z
 ·subst z;decide
 ·rw[Nat.log2_lt qo];exact Yc hn qk
theorem DenL.rev{K:FG}{H:Hp}:∀{us:List V}{ds:List PyData},DenL K H us ds->DenL K H us.reverse ds.reverse
 |_,_,.nil=>.nil
 |_,_,.cons a r=>by
  rw[Yz,Yz];exact(DenL.rev r).append (.cons a .nil)
theorem b9w(ts:List Trm):(Trm.dataL ts).reverse=Trm.dataL ts.reverse:=by rw[Trm.dataL_map,Trm.dataL_map,List.map_reverse]
theorem b3g:∀ts:List Trm,Trm.sizeL ts.reverse=Trm.sizeL ts
 | []=>rfl
 |k::ks=>by
  rw[Yz,Trm.sizeL_app,b3g ks];simp only[Trm.sizeL];omega
def encB(acc:List Str):List (Key×V):=acc.map λx=>(Sum.inr x,V.bl true)
theorem d3e(acc:List Str):(encB acc).length=acc.length:=by simp[encB]
theorem d3f(acc:List Str)(x:Str):((encB acc).any λkv=>decide (kv.1=Sum.inr x))=decide (x∈acc):=by
 by_cases h:x∈acc
 ·rw[Ye h,Se];exact⟨(Sum.inr x,V.bl true),Ys.mpr ⟨x,h,rfl⟩,qz⟩
 ·rw[Z3 h,List.any_eq_false];intro kv hk e;obtain⟨y,hy,rfl⟩:=Ys.mp hk;exact h (by rw[<-Uq (Z8 e)];exact hy)
theorem d3g(acc:List Str)(x:Str):putK (encB acc) (Sum.inr x) (.bl true)=encB (ord (.any x) acc):=by
 rw[ord];unfold putK;rw[d3f]
 by_cases h:x∈acc
 ·rw[if_pos (Ye h),if_pos h];unfold encB;rw[T4];refine List.map_congr_left λy hy=>?_
  show(if(Sum.inr y:Key)=Sum.inr x then((Sum.inr y:Key),V.bl true)else(Sum.inr y,V.bl true))=(Sum.inr y,V.bl true)
  split<;>rfl
 ·rw[if_neg (by rw[Z3 h];decide),if_neg h];unfold encB;rw[Zo];rfl
theorem c9p(acc:List Str):((encB acc).map λkv=>kV kv.1)=acc.map V.str:=by
 unfold encB;rw[T4];rfl
theorem a5t{K:FG}{H:Hp}{us:List V}{ts:List Trm}{i:Nat}(h:DenL K H us (Trm.dataL ts))(hi:i<ts.length):∃hu:i<us.length,Den K H us[i] ts[i].data:=by
 have hl:=h.length;rw[Trm.dataL_map,length_map]at hl;have hu:i<us.length:=by omega
 refine⟨hu,?_⟩;obtain⟨d,e1,e2⟩:=h.get (Zj hu);rw[Trm.dataL_map,Yk,Zj hi]at e1;obtain rfl:ts[i].data=d:=Zw e1;exact e2
theorem getD_at{us:List V}{i:Nat}(h:i<us.length):us.getD i .non=us[i]:=by rw[Z2,Zj h];rfl
theorem take_succ'{α:Type}{l:List α}{i:Nat}(h:i<l.length):l.take (i+1)=l.take i++[l[i]]:=by rw[Us,Zj h];rfl
theorem a3b{K:FG}{H:Hp}{us:List V}{ts:List Trm}(h:DenL K H us (Trm.dataL ts)):us.length=ts.length:=by
 have hl:=h.length;rwa[Trm.dataL_map,length_map]at hl
theorem b8q{p:Addr}{H0 H H':Hp}(s:Same H0 H)(b:But p H H')(n:H0 p=none):Same H0 H':=λa o e=>b a o (λz=>by rw[z,n]at e;cases e) (s a o e)
theorem b4e{p:Addr}{H:Hp}{o:HO}:But p H (upd H p o):=λb u hb e=>by rw[a0f hb];exact e
theorem a2q.get{rows:Rws}:∀{ks ls:List Trm}{i:Nat}{k:Trm},a2q rows ks ls->ks[i]? =some k->∃l,ls[i]? =some l/\Full rows k l
 |_,_,i,k,.nil,h=>by simp at h
 |_,_,0,k,.cons f _,h=>by
  simp only[Zz,Yh]at h;subst h;exact⟨_,rfl,f⟩
 |_,_,i+1,k,.cons _ r,h=>by
  obtain⟨l,h1,h2⟩:=a2q.get r (by simpa using h);exact⟨l,by simpa using h1,h2⟩
def onW(K:W.Frag)(H:Hp)(C:Addr)(Q:VK)(E:XK)(t':Trm):Bool->Prop
 |true=>∀x H',Same H H'->Den K H' x t'.data->Q x H'
 |false=>onX H C E
abbrev b3h(K:W.Frag):Sp:=λvs H Q _=>aS vs λsg vs=>aR vs λp vs=>aE vs (∃us ks,SqL K H p us/\DenL K H us (Trm.dataL ks)/\∀r H',Same H H'->Den K H' (.ref r) (Trm.app sg ks).data->Q (.ref r) H')
abbrev a7n(K:W.Frag)(n:Nat):Sp:=λvs H Q _=>aV vs λv vs=>aR vs λpd vs=>aE vs (∃(rows:Rws)(t t':Trm),a2i K H pd rows/\Den K H v t.data/\Full rows t t'/\t'.size<=n/\n<=100/\∀x H',Same H H'->Den K H' x t'.data->Q x H')
theorem c9q{K:FG}{H:Hp}{v:V}{pd:Addr}{R:Trm->Prop}(h:∃(rows:Rws)(t t':Trm),a2i K H pd rows/\Den K H v t.data/\Full rows t t'/\t'.size<=0/\0<=100/\R t'):False:=by
 obtain⟨_,_,t',_,_,_,z,_⟩:=h;have:=Trm.size_pos t';omega
abbrev a7a(K:W.Frag)(C:Addr):Sp:=λvs H Q E=>aV vs λv vs=>aR vs λpd vs=>aE vs (∃(rows:Rws)(t t':Trm),a2i K H pd rows/\Den K H v t.data/\Full rows t t'/\t.size<=70/\(∀r∈rows,r.2.size<=70)/\onW K H C Q E t' (decide (t'.size<=40)))
abbrev a3v:Str:=ofString "abcdefghijklmnopqrstuvwxyz"
abbrev c8c:Str:=ofString "ABCDEFGHIJKLMNOPQRSTUVWXYZ"
abbrev figS:Str:=ofString "0123456789"
abbrev one(c:Nat):Str:=⟨#[c]⟩
noncomputable def inner(c:Str):Bool:=inS c a3v|| (inS c c8c||inS c figS)
noncomputable def fst(z:Str):Str:=one (z.cps.getD 0 0)
noncomputable def called(z firsts:Str):Bool:=(decide ((1:Int)<=z.length)&&decide ((z.length:Int)<=12))&&(inS (fst z) firsts&&z.cps.toList.all λc=>inner (one c))
abbrev b4s:Sp:=λvs H Q _=>aS vs λc vs=>aE vs (Q (.bl (inner c)) H)
abbrev b3i:Sp:=λvs H Q _=>aS vs λz vs=>aS vs λf vs=>aE vs (z.length<=1000/\∀H',Same H H'->Q (.bl (called z f)) H')
abbrev b7g:Sp:=λvs H Q _=>aS vs λz vs=>aE vs (z.length<=1000/\∀H',Same H H'->Q (.bl (called z a3v)) H')
theorem len_fst{z:Str}(h:0<z.length):atI z.cps.toList 0=some (z.cps.getD 0 0):=by
 obtain⟨v,h1,h2⟩:=a5k (xs:=z.cps.toList) (i:=0) qo (by simp only[Wv];unfold Str.length at h;omega);rw[h1];have h2:z.cps.toList[0]? =some v:=h2
 rw[Va]at h2;rw[Vc,h2];rfl
theorem all_get(z:Str)(f:Nat->Bool):((List.range z.cps.size).map λk=>f (z.cps.getD k 0)).all id=z.cps.toList.all f:=by
 rw[Wn,X0,X0]
 constructor
 ·intro h c hc;obtain⟨i,hi,e⟩:=R7 hc;have hi':i<z.cps.size:=by simpa using hi
  have:=h (f (z.cps.getD i 0)) (Ys.mpr ⟨i,Wh.mpr hi',rfl⟩);rw[Vc,<-Va,Zj hi]at this
  simpa[e]using this
 ·intro h b hb;obtain⟨i,hi,rfl⟩:=Ys.mp hb;have hi:=Wh.mp hi;rw[Vc,Vg hi];exact h _ qz
abbrev keepS:Str:=ofString "keep"
abbrev notS:Str:=ofString "not"
abbrev eqS:Str:=ofString "="
structure Wd(s:Str):Prop where
 cl:called s a3v=true
 kp:s≠keepS
 nt:s≠notS
 eq:s≠eqS
 ln:s.length<=1000
abbrev nd(s:Str)(n:Nat):List Key:=[.inr s,.inl (n:Int)]
def nmd(s:Str):Bool:=called s a3v&& !decide (s∈[keepS,notS])
abbrev b4t(K:W.Frag):Sp:=λvs H Q _=>aV vs λv vs=>aE vs (∃(s:Str)(ks:List Trm),Den K H v (Trm.app s ks).data/\s.length<=1000/\∀H',Same H H'->Q (.bl (nmd s)) H')
abbrev b1w(K:W.Frag):Sp:=λvs H Q _=>aV vs λv vs=>aE vs (∃(s:Str)(ks:List Trm),Den K H v (Trm.app s ks).data/\∀p H',Same H H'->H' p=some (.tup ((nd s ks.length).map kV))->Q (.ref p) H')
noncomputable def cO(n q:Str)(a b c:Tok)(l m f:Int)(r:Addr)(x:Int)(s:Addr)(v w:Value)(u:Addr)(y:Int)(d:Tok):Obj:=.mk (.type "code") none (.fields (List.toArray ((.str n a)::(.str q b)::(.str "/claim/cut.py" c)::(.int l 0)::(.int m 0)::(.int 0 0)::(.int 0 0)::(.int f 0)::(.ref r)::(.bool true)::(.int x 0)::(.ref s)::.none::v::w::(.ref u)::(.int y 0)::(.int l 0)::(.str "/claim/cut.py" d)::[]))) #[]
noncomputable def fO(n q:Str)(s:Stmt)(m:Value)(c:Addr):Obj:=.mk (.type "function") none (.func (W.fnOf n q (a4z s) (a3l s) (a0i s) .none .none .none m none (.ref c) .none)) #[]
noncomputable def kb2(P:Params):Obj:=.mk .none none (.dict #[] 0) #[]
noncomputable def kb3(P:Params):Obj:=.mk (.type "dict") none (.dict (List.toArray ((.mk (keyHash P "__name__") (.str "__name__" 165) (.str "law_goaltrail_k36_keeps" 819))::(.mk (keyHash P "__doc__") (.str "__doc__" 166) .none)::(.mk (keyHash P "__package__") (.str "__package__" 167) .none)::(.mk (keyHash P "__loader__") (.str "__loader__" 168) (.builtin "__main__.__loader__#opaque"))::(.mk (keyHash P "__spec__") (.str "__spec__" 169) .none)::(.mk (keyHash P "__annotations__") (.str "__annotations__" 170) (.ref 6))::(.mk (keyHash P "__builtins__") (.str "__builtins__" 171) (.ref 4))::(.mk (keyHash P "__file__") (.str "__file__" 173) (.str "/claim/cut.py" 172))::(.mk (keyHash P "__cached__") (.str "__cached__" 174) .none)::(.mk (keyHash P "TrailError") (.str "TrailError" 217) (.ref 32))::(.mk (keyHash P "Big") (.str "Big" 233) (.ref 45))::(.mk (keyHash P "Fault") (.str "Fault" 260) (.ref 65))::(.mk (keyHash P "SMALL") (.str "SMALL" 264) (.str "abcdefghijklmnopqrstuvwxyz" 263))::(.mk (keyHash P "GREAT") (.str "GREAT" 266) (.str "ABCDEFGHIJKLMNOPQRSTUVWXYZ" 265))::(.mk (keyHash P "FIGURES") (.str "FIGURES" 268) (.str "0123456789" 267))::(.mk (keyHash P "MOST_LETTERS") (.str "MOST_LETTERS" 270) (.int 12 269))::(.mk (keyHash P "MOST_PARTS") (.str "MOST_PARTS" 272) (.int 40 271))::(.mk (keyHash P "num") (.str "num" 279) (.ref 74))::(.mk (keyHash P "unknown") (.str "unknown" 286) (.ref 81))::(.mk (keyHash P "app") (.str "app" 294) (.ref 88))::(.mk (keyHash P "is_inner") (.str "is_inner" 301) (.ref 95))::(.mk (keyHash P "is_called") (.str "is_called" 307) (.ref 100))::(.mk (keyHash P "is_word") (.str "is_word" 314) (.ref 107))::(.mk (keyHash P "unknowns_of") (.str "unknowns_of" 326) (.ref 114))::(.mk (keyHash P "renamed") (.str "renamed" 332) (.ref 119))::(.mk (keyHash P "told_anew") (.str "told_anew" 338) (.ref 124))::(.mk (keyHash P "marked") (.str "marked" 348) (.ref 131))::(.mk (keyHash P "walked") (.str "walked" 359) (.ref 138))::(.mk (keyHash P "parts_up_to") (.str "parts_up_to" 371) (.ref 145))::(.mk (keyHash P "written_out") (.str "written_out" 379) (.ref 152))::(.mk (keyHash P "put_in") (.str "put_in" 385) (.ref 157))::(.mk (keyHash P "key_of") (.str "key_of" 394) (.ref 164))::(.mk (keyHash P "Row") (.str "Row" 428) (.ref 181))::(.mk (keyHash P "Joining") (.str "Joining" 507) (.ref 235))::(.mk (keyHash P "stands_within") (.str "stands_within" 519) (.ref 246))::(.mk (keyHash P "KEEP") (.str "KEEP" 523) (.str "keep" 522))::(.mk (keyHash P "NOT") (.str "NOT" 525) (.str "not" 524))::(.mk (keyHash P "is_named") (.str "is_named" 532) (.ref 253))::(.mk (keyHash P "word_of") (.str "word_of" 539) (.ref 260))::(.mk (keyHash P "by_word") (.str "by_word" 550) (.ref 267))::(.mk (keyHash P "SUM_MARKS") (.str "SUM_MARKS" 558) (.ref 268))::(.mk (keyHash P "reckoned") (.str "reckoned" 567) (.ref 275))::(.mk (keyHash P "by_mark") (.str "by_mark" 576) (.ref 282))::(.mk (keyHash P "checked_near") (.str "checked_near" 583) (.ref 289))::(.mk (keyHash P "is_so") (.str "is_so" 592) (.ref 296))::(.mk (keyHash P "Way") (.str "Way" 631) (.ref 313))::(.mk (keyHash P "Run") (.str "Run" 783) (.ref 419))::(.mk (keyHash P "parts_together") (.str "parts_together" 793) (.ref 430))::(.mk (keyHash P "searched") (.str "searched" 805) (.ref 437))::(.mk (keyHash P "search") (.str "search" 818) (.ref 445))::(.mk (keyHash P "_law_cell_at") (.str "_law_cell_at" 828) (.ref 452))::(.mk (keyHash P "_law_pick") (.str "_law_pick" 838) (.ref 459))::(.mk (keyHash P "_law_words") (.str "_law_words" 844) (.ref 464))::(.mk (keyHash P "_law_goal") (.str "_law_goal" 852) (.ref 471))::(.mk (keyHash P "_law_rules") (.str "_law_rules" 869) (.ref 478))::(.mk (keyHash P "_law_facts") (.str "_law_facts" 880) (.ref 485))::(.mk (keyHash P "_law_cut") (.str "_law_cut" 888) (.ref 492))::(.mk (keyHash P "_law_of_rule") (.str "_law_of_rule" 907) (.ref 499))::(.mk (keyHash P "_law_fourth") (.str "_law_fourth" 921) (.ref 506))::(.mk (keyHash P "_law_due") (.str "_law_due" 927) (.ref 511))::(.mk (keyHash P "law") (.str "law" 944) (.ref 518))::[])) 61) #[]
noncomputable def kb22(P:Params):Obj:=.mk (.type "tuple") none (.seq #[(.int 0 201)] 0) #[]
noncomputable def kb29(P:Params):Obj:=.mk (.type "function") none (.func (W.fnOf "__init__" "TrailError.__init__" (a4z a3c) (a3l a3c) (a0i a3c) (.ref 22) .none .none (.str "goaltrail.errors" 187) none (.ref 28) .none)) #[]
noncomputable def kb31(P:Params):Obj:=.mk (.type "dict") none (.dict (List.toArray ((.mk (keyHash P "__module__") (.str "__module__" 196) (.str "goaltrail.errors" 187))::(.mk (keyHash P "__firstlineno__") (.str "__firstlineno__" 200) (.int 2 199))::(.mk (keyHash P "__init__") (.str "__init__" 210) (.ref 29))::(.mk (keyHash P "__static_attributes__") (.str "__static_attributes__" 212) (.ref 30))::(.mk (keyHash P "__weakref__") (.str "__weakref__" 214) (.ref 33))::(.mk (keyHash P "__doc__") (.str "__doc__" 215) .none)::[])) 3) #[]
noncomputable def kb32(P:Params):Obj:=.mk (.type "type") none (.cls (.mk "TrailError" [(.type "ValueError")] [(.ref 32),(.type "ValueError"),(.type "Exception"),(.type "BaseException"),(.type "object")] 31 "TrailError" Bool.true [] [(.ref 45),(.ref 65)] Bool.false none Bool.false)) (List.toArray ((some (.ref 15))::none::(some (.str "TrailError" 189))::(some (.str "TrailError" 197))::(some (.builtin "ValueError.__new__"))::(some (.bool true))::[]))
noncomputable def kb44(P:Params):Obj:=.mk (.type "dict") none (.dict #[(.mk (keyHash P "__module__") (.str "__module__" 225) (.str "goaltrail.errors" 187)),(.mk (keyHash P "__firstlineno__") (.str "__firstlineno__" 229) (.int 7 228)),(.mk (keyHash P "__static_attributes__") (.str "__static_attributes__" 230) (.ref 43)),(.mk (keyHash P "__doc__") (.str "__doc__" 231) .none)] 2) #[]
noncomputable def kb45(P:Params):Obj:=.mk (.type "type") none (.cls (.mk "Big" [(.ref 32)] [(.ref 45),(.ref 32),(.type "ValueError"),(.type "Exception"),(.type "BaseException"),(.type "object")] 44 "Big" Bool.true [] [] Bool.false none Bool.false)) (List.toArray ((some (.ref 36))::none::(some (.str "Big" 218))::(some (.str "Big" 226))::(some (.builtin "ValueError.__new__"))::(some (.bool true))::[]))
noncomputable def kb64(P:Params):Obj:=.mk (.type "dict") none (.dict (List.toArray ((.mk (keyHash P "__module__") (.str "__module__" 241) (.str "goaltrail.errors" 187))::(.mk (keyHash P "__firstlineno__") (.str "__firstlineno__" 245) (.int 9 244))::(.mk (keyHash P "__init__") (.str "__init__" 255) (.ref 62))::(.mk (keyHash P "__static_attributes__") (.str "__static_attributes__" 257) (.ref 63))::(.mk (keyHash P "__doc__") (.str "__doc__" 258) .none)::[])) 2) #[]
noncomputable def kb65(P:Params):Obj:=.mk (.type "type") none (.cls (.mk "Fault" [(.ref 32)] [(.ref 65),(.ref 32),(.type "ValueError"),(.type "Exception"),(.type "BaseException"),(.type "object")] 64 "Fault" Bool.true [] [] Bool.false none Bool.false)) (List.toArray ((some (.ref 48))::none::(some (.str "Fault" 234))::(some (.str "Fault" 242))::(some (.builtin "ValueError.__new__"))::(some (.bool true))::[]))
noncomputable def kb180(P:Params):Obj:=.mk (.type "dict") none (.dict (List.toArray ((.mk (keyHash P "__module__") (.str "__module__" 404) (.str "goaltrail.ones" 395))::(.mk (keyHash P "__firstlineno__") (.str "__firstlineno__" 408) (.int 96 407))::(.mk (keyHash P "__init__") (.str "__init__" 417) (.ref 178))::(.mk (keyHash P "__static_attributes__") (.str "__static_attributes__" 421) (.ref 179))::(.mk (keyHash P "__dict__") (.str "__dict__" 423) (.ref 182))::(.mk (keyHash P "__weakref__") (.str "__weakref__" 425) (.ref 183))::(.mk (keyHash P "__doc__") (.str "__doc__" 426) .none)::[])) 4) #[]
noncomputable def kb181(P:Params):Obj:=.mk (.type "type") none (.cls (.mk "Row" [(.type "object")] [(.ref 181),(.type "object")] 180 "Row" Bool.true [] [] Bool.false none Bool.false)) (List.toArray (none::none::(some (.str "Row" 397))::(some (.str "Row" 405))::(some (.builtin "object.__new__"))::(some (.bool true))::[]))
noncomputable def kb234(P:Params):Obj:=.mk (.type "dict") none (.dict (List.toArray ((.mk (keyHash P "__module__") (.str "__module__" 436) (.str "goaltrail.ones" 395))::(.mk (keyHash P "__firstlineno__") (.str "__firstlineno__" 440) (.int 102 439))::(.mk (keyHash P "__init__") (.str "__init__" 449) (.ref 199))::(.mk (keyHash P "join_terms") (.str "join_terms" 460) (.ref 206))::(.mk (keyHash P "join_place") (.str "join_place" 471) (.ref 213))::(.mk (keyHash P "put_for") (.str "put_for" 480) (.ref 220))::(.mk (keyHash P "begin_kids") (.str "begin_kids" 489) (.ref 227))::(.mk (keyHash P "path") (.str "path" 495) (.ref 232))::(.mk (keyHash P "__static_attributes__") (.str "__static_attributes__" 500) (.ref 233))::(.mk (keyHash P "__dict__") (.str "__dict__" 502) (.ref 236))::(.mk (keyHash P "__weakref__") (.str "__weakref__" 504) (.ref 237))::(.mk (keyHash P "__doc__") (.str "__doc__" 505) .none)::[])) 4) #[]
noncomputable def kb235(P:Params):Obj:=.mk (.type "type") none (.cls (.mk "Joining" [(.type "object")] [(.ref 235),(.type "object")] 234 "Joining" Bool.true [] [] Bool.false none Bool.false)) (List.toArray (none::none::(some (.str "Joining" 429))::(some (.str "Joining" 437))::(some (.builtin "object.__new__"))::(some (.bool true))::[]))
noncomputable def kb312(P:Params):Obj:=.mk (.type "dict") none (.dict (List.toArray ((.mk (keyHash P "__module__") (.str "__module__" 602) (.str "goaltrail.search" 593))::(.mk (keyHash P "__firstlineno__") (.str "__firstlineno__" 606) (.int 207 605))::(.mk (keyHash P "__init__") (.str "__init__" 618) (.ref 310))::(.mk (keyHash P "__static_attributes__") (.str "__static_attributes__" 624) (.ref 311))::(.mk (keyHash P "__dict__") (.str "__dict__" 626) (.ref 314))::(.mk (keyHash P "__weakref__") (.str "__weakref__" 628) (.ref 315))::(.mk (keyHash P "__doc__") (.str "__doc__" 629) .none)::[])) 4) #[]
noncomputable def kb313(P:Params):Obj:=.mk (.type "type") none (.cls (.mk "Way" [(.type "object")] [(.ref 313),(.type "object")] 312 "Way" Bool.true [] [] Bool.false none Bool.false)) (List.toArray (none::none::(some (.str "Way" 595))::(some (.str "Way" 603))::(some (.builtin "object.__new__"))::(some (.bool true))::[]))
noncomputable def kb418(P:Params):Obj:=.mk (.type "dict") none (.dict (List.toArray ((.mk (keyHash P "__module__") (.str "__module__" 639) (.str "goaltrail.search" 593))::(.mk (keyHash P "__firstlineno__") (.str "__firstlineno__" 643) (.int 215 642))::(.mk (keyHash P "__init__") (.str "__init__" 649) (.ref 329))::(.mk (keyHash P "go_on") (.str "go_on" 657) (.ref 336))::(.mk (keyHash P "end_not") (.str "end_not" 666) (.ref 343))::(.mk (keyHash P "go_back") (.str "go_back" 674) (.ref 350))::(.mk (keyHash P "end_with") (.str "end_with" 682) (.ref 357))::(.mk (keyHash P "tell_answer") (.str "tell_answer" 688) (.ref 362))::(.mk (keyHash P "take_up") (.str "take_up" 698) (.ref 369))::(.mk (keyHash P "do_goal") (.str "do_goal" 708) (.ref 376))::(.mk (keyHash P "ask_rules") (.str "ask_rules" 717) (.ref 383))::(.mk (keyHash P "leave") (.str "leave" 726) (.ref 390))::(.mk (keyHash P "try_rule") (.str "try_rule" 732) (.ref 395))::(.mk (keyHash P "do_other") (.str "do_other" 742) (.ref 402))::(.mk (keyHash P "ask_not") (.str "ask_not" 751) (.ref 409))::(.mk (keyHash P "make_one") (.str "make_one" 760) (.ref 416))::(.mk (keyHash P "__static_attributes__") (.str "__static_attributes__" 776) (.ref 417))::(.mk (keyHash P "__dict__") (.str "__dict__" 778) (.ref 420))::(.mk (keyHash P "__weakref__") (.str "__weakref__" 780) (.ref 421))::(.mk (keyHash P "__doc__") (.str "__doc__" 781) .none)::[])) 4) #[]
noncomputable def kb419(P:Params):Obj:=.mk (.type "type") none (.cls (.mk "Run" [(.type "object")] [(.ref 419),(.type "object")] 418 "Run" Bool.true [] [] Bool.false none Bool.false)) (List.toArray (none::none::(some (.str "Run" 632))::(some (.str "Run" 640))::(some (.builtin "object.__new__"))::(some (.bool true))::[]))
noncomputable def kb438(P:Params):Obj:=.mk (.type "tuple") none (.seq #[(.int 200 806),(.int 10 807)] 0) #[]
noncomputable def kb445(P:Params):Obj:=.mk (.type "function") none (.func (W.fnOf "search" "search" (a4z a8q) (a3l a8q) (a0i a8q) (.ref 438) .none .none (.str "goaltrail.search" 593) none (.ref 444) .none)) #[]
noncomputable def KK:Params->W.Frag:=λP=>(nat_lit 2,kb2 P)::(nat_lit 3,kb3 P)::(nat_lit 22,kb22 P)::(nat_lit 28,cO "__init__" "TrailError.__init__" 202 203 204 4 3 3 23 181 24 (.ref 25) (.ref 26) 27 208 209)::(nat_lit 29,kb29 P)::(nat_lit 31,kb31 P)::(nat_lit 32,kb32 P)::(nat_lit 44,kb44 P)::(nat_lit 45,kb45 P)::(nat_lit 64,kb64 P)::(nat_lit 65,kb65 P)::(nat_lit 80,cO "unknown" "unknown" 280 281 282 22 1 3 75 181 76 (.ref 77) (.ref 78) 79 284 285)::(nat_lit 81,fO "unknown" "unknown" b2v (.str "goaltrail.terms" 261) 80)::(nat_lit 87,cO "app" "app" 287 288 289 24 2 3 82 181 83 (.ref 84) (.ref 85) 86 292 293)::(nat_lit 88,fO "app" "app" s_a7 (.str "goaltrail.terms" 261) 87)::(nat_lit 94,cO "is_inner" "is_inner" 295 296 297 26 1 3 89 181 90 (.ref 91) (.ref 92) 93 299 300)::(nat_lit 95,fO "is_inner" "is_inner" b1q (.str "goaltrail.terms" 261) 94)::(nat_lit 99,cO "is_called" "is_called" 302 303 304 28 2 3 96 181 97 .none .none 98 305 306)::(nat_lit 100,fO "is_called" "is_called" a7d (.str "goaltrail.terms" 261) 99)::(nat_lit 106,cO "is_word" "is_word" 308 309 310 32 1 3 101 181 102 (.ref 103) (.ref 104) 105 312 313)::(nat_lit 107,fO "is_word" "is_word" b2w (.str "goaltrail.terms" 261) 106)::(nat_lit 113,cO "unknowns_of" "unknowns_of" 317 318 319 35 1 3 108 181 109 (.ref 110) (.ref 111) 112 324 325)::(nat_lit 114,fO "unknowns_of" "unknowns_of" a7u (.str "goaltrail.names" 315) 113)::(nat_lit 118,cO "renamed" "renamed" 327 328 329 45 2 3 115 181 116 .none .none 117 330 331)::(nat_lit 119,fO "renamed" "renamed" a9d (.str "goaltrail.names" 315) 118)::(nat_lit 123,cO "told_anew" "told_anew" 333 334 335 51 1 3 120 181 121 .none .none 122 336 337)::(nat_lit 124,fO "told_anew" "told_anew" a7e (.str "goaltrail.names" 315) 123)::(nat_lit 130,cO "marked" "marked" 339 340 341 57 2 3 125 181 126 (.ref 127) (.ref 128) 129 346 347)::(nat_lit 131,fO "marked" "marked" b5o (.str "goaltrail.names" 315) 130)::(nat_lit 137,cO "walked" "walked" 351 352 353 63 2 3 132 181 133 (.ref 134) (.ref 135) 136 357 358)::(nat_lit 138,fO "walked" "walked" b5p (.str "goaltrail.puts" 349) 137)::(nat_lit 144,cO "parts_up_to" "parts_up_to" 360 361 362 68 3 3 139 181 140 (.ref 141) (.ref 142) 143 369 370)::(nat_lit 145,fO "parts_up_to" "parts_up_to" a7v (.str "goaltrail.puts" 349) 144)::(nat_lit 151,cO "written_out" "written_out" 372 373 374 79 2 3 146 181 147 (.ref 148) (.ref 149) 150 377 378)::(nat_lit 152,fO "written_out" "written_out" a7w (.str "goaltrail.puts" 349) 151)::(nat_lit 156,cO "put_in" "put_in" 380 381 382 83 2 3 153 181 154 .none .none 155 383 384)::(nat_lit 157,fO "put_in" "put_in" b1r (.str "goaltrail.puts" 349) 156)::(nat_lit 163,cO "key_of" "key_of" 388 389 390 89 1 3 158 181 159 (.ref 160) (.ref 161) 162 392 393)::(nat_lit 164,fO "key_of" "key_of" b5q (.str "goaltrail.switches" 386) 163)::(nat_lit 177,cO "__init__" "Row.__init__" 409 410 411 98 3 3 172 181 173 (.ref 174) (.ref 175) 176 415 416)::(nat_lit 178,fO "__init__" "Row.__init__" b1o (.str "goaltrail.ones" 395) 177)::(nat_lit 180,kb180 P)::(nat_lit 181,kb181 P)::(nat_lit 198,cO "__init__" "Joining.__init__" 441 442 443 104 3 3 193 181 194 (.ref 195) (.ref 196) 197 447 448)::(nat_lit 199,fO "__init__" "Joining.__init__" a6v (.str "goaltrail.ones" 395) 198)::(nat_lit 205,cO "join_terms" "Joining.join_terms" 450 451 452 110 3 3 200 181 201 (.ref 202) (.ref 203) 204 458 459)::(nat_lit 206,fO "join_terms" "Joining.join_terms" a4d (.str "goaltrail.ones" 395) 205)::(nat_lit 212,cO "join_place" "Joining.join_place" 461 462 463 122 3 3 207 181 208 (.ref 209) (.ref 210) 211 469 470)::(nat_lit 213,fO "join_place" "Joining.join_place" a4e (.str "goaltrail.ones" 395) 212)::(nat_lit 219,cO "put_for" "Joining.put_for" 472 473 474 136 3 3 214 181 215 (.ref 216) (.ref 217) 218 478 479)::(nat_lit 220,fO "put_for" "Joining.put_for" a5h (.str "goaltrail.ones" 395) 219)::(nat_lit 226,cO "begin_kids" "Joining.begin_kids" 481 482 483 143 3 3 221 181 222 (.ref 223) (.ref 224) 225 487 488)::(nat_lit 227,fO "begin_kids" "Joining.begin_kids" a4f (.str "goaltrail.ones" 395) 226)::(nat_lit 231,cO "path" "Joining.path" 490 491 492 148 1 3 228 181 229 .none .none 230 493 494)::(nat_lit 232,fO "path" "Joining.path" a5b (.str "goaltrail.ones" 395) 231)::(nat_lit 234,kb234 P)::(nat_lit 235,kb235 P)::(nat_lit 245,cO "stands_within" "stands_within" 508 509 510 150 3 3 240 181 241 (.ref 242) (.ref 243) 244 517 518)::(nat_lit 246,fO "stands_within" "stands_within" a6h (.str "goaltrail.ones" 395) 245)::(nat_lit 252,cO "is_named" "is_named" 526 527 528 166 1 3 247 181 248 (.ref 249) (.ref 250) 251 530 531)::(nat_lit 253,fO "is_named" "is_named" b1s (.str "goaltrail.rules" 520) 252)::(nat_lit 259,cO "word_of" "word_of" 533 534 535 168 1 3 254 181 255 (.ref 256) (.ref 257) 258 537 538)::(nat_lit 260,fO "word_of" "word_of" b2x (.str "goaltrail.rules" 520) 259)::(nat_lit 266,cO "by_word" "by_word" 540 541 542 170 1 3 261 181 262 (.ref 263) (.ref 264) 265 548 549)::(nat_lit 267,fO "by_word" "by_word" b2y (.str "goaltrail.rules" 520) 266)::(nat_lit 309,cO "__init__" "Way.__init__" 607 608 609 209 6 3 304 181 305 (.ref 306) (.ref 307) 308 616 617)::(nat_lit 310,fO "__init__" "Way.__init__" b1p (.str "goaltrail.search" 593) 309)::(nat_lit 312,kb312 P)::(nat_lit 313,kb313 P)::(nat_lit 328,cO "__init__" "Run.__init__" 644 645 646 217 5 3 325 181 326 .none .none 327 647 648)::(nat_lit 329,fO "__init__" "Run.__init__" a6f (.str "goaltrail.search" 593) 328)::(nat_lit 335,cO "go_on" "Run.go_on" 650 651 652 234 1 3 330 181 331 (.ref 332) (.ref 333) 334 655 656)::(nat_lit 336,fO "go_on" "Run.go_on" a9s (.str "goaltrail.search" 593) 335)::(nat_lit 349,cO "go_back" "Run.go_back" 667 668 669 249 1 3 344 181 345 (.ref 346) (.ref 347) 348 672 673)::(nat_lit 350,fO "go_back" "Run.go_back" a7r (.str "goaltrail.search" 593) 349)::(nat_lit 356,cO "end_with" "Run.end_with" 675 676 677 262 2 3 351 181 352 (.ref 353) (.ref 354) 355 680 681)::(nat_lit 357,fO "end_with" "Run.end_with" a6w (.str "goaltrail.search" 593) 356)::(nat_lit 361,cO "tell_answer" "Run.tell_answer" 683 684 685 266 1 3 358 181 359 .none .none 360 686 687)::(nat_lit 362,fO "tell_answer" "Run.tell_answer" a3t (.str "goaltrail.search" 593) 361)::(nat_lit 368,cO "take_up" "Run.take_up" 689 690 691 275 3 3 363 181 364 (.ref 365) (.ref 366) 367 696 697)::(nat_lit 369,fO "take_up" "Run.take_up" a7s (.str "goaltrail.search" 593) 368)::(nat_lit 375,cO "do_goal" "Run.do_goal" 699 700 701 285 3 3 370 181 371 (.ref 372) (.ref 373) 374 706 707)::(nat_lit 376,fO "do_goal" "Run.do_goal" a7t (.str "goaltrail.search" 593) 375)::(nat_lit 382,cO "ask_rules" "Run.ask_rules" 709 710 711 294 2 3 377 181 378 (.ref 379) (.ref 380) 381 715 716)::(nat_lit 383,fO "ask_rules" "Run.ask_rules" a6g (.str "goaltrail.search" 593) 382)::(nat_lit 389,cO "leave" "Run.leave" 718 719 720 300 3 3 384 181 385 (.ref 386) (.ref 387) 388 724 725)::(nat_lit 390,fO "leave" "Run.leave" a9t (.str "goaltrail.search" 593) 389)::(nat_lit 394,cO "try_rule" "Run.try_rule" 727 728 729 303 2 3 391 181 392 .none .none 393 730 731)::(nat_lit 395,fO "try_rule" "Run.try_rule" a5c (.str "goaltrail.search" 593) 394)::(nat_lit 401,cO "do_other" "Run.do_other" 733 734 735 315 3 3 396 181 397 (.ref 398) (.ref 399) 400 740 741)::(nat_lit 402,fO "do_other" "Run.do_other" a6x (.str "goaltrail.search" 593) 401)::(nat_lit 415,cO "make_one" "Run.make_one" 752 753 754 336 3 3 410 181 411 (.ref 412) (.ref 413) 414 758 759)::(nat_lit 416,fO "make_one" "Run.make_one" a6y (.str "goaltrail.search" 593) 415)::(nat_lit 418,kb418 P)::(nat_lit 419,kb419 P)::(nat_lit 429,cO "parts_together" "parts_together" 784 785 786 338 2 3 424 181 425 (.ref 426) (.ref 427) 428 791 792)::(nat_lit 430,fO "parts_together" "parts_together" a5q (.str "goaltrail.search" 593) 429)::(nat_lit 436,cO "searched" "searched" 794 795 796 343 4 3 431 181 432 (.ref 433) (.ref 434) 435 803 804)::(nat_lit 437,fO "searched" "searched" b1t (.str "goaltrail.search" 593) 436)::(nat_lit 438,kb438 P)::(nat_lit 444,cO "search" "search" 808 809 810 349 4 3 439 181 440 (.ref 441) (.ref 442) 443 816 817)::(nat_lit 445,kb445 P)::(nat_lit 451,cO "_law_cell_at" "_law_cell_at" 821 822 823 353 2 3 446 181 447 (.ref 448) (.ref 449) 450 826 827)::(nat_lit 452,fO "_law_cell_at" "_law_cell_at" a9u (.str "law_goaltrail_k36_keeps" 819) 451)::(nat_lit 458,cO "_law_pick" "_law_pick" 829 830 831 357 3 3 453 181 454 (.ref 455) (.ref 456) 457 836 837)::(nat_lit 459,fO "_law_pick" "_law_pick" b5r (.str "law_goaltrail_k36_keeps" 819) 458)::(nat_lit 463,cO "_law_words" "_law_words" 839 840 841 360 1 3 460 181 461 .none .none 462 842 843)::(nat_lit 464,fO "_law_words" "_law_words" a9e (.str "law_goaltrail_k36_keeps" 819) 463)::(nat_lit 470,cO "_law_goal" "_law_goal" 845 846 847 373 2 3 465 181 466 (.ref 467) (.ref 468) 469 850 851)::(nat_lit 471,fO "_law_goal" "_law_goal" b5s (.str "law_goaltrail_k36_keeps" 819) 470)::(nat_lit 477,cO "_law_rules" "_law_rules" 853 854 855 375 3 3 472 181 473 (.ref 474) (.ref 475) 476 867 868)::(nat_lit 478,fO "_law_rules" "_law_rules" b2z (.str "law_goaltrail_k36_keeps" 819) 477)::(nat_lit 484,cO "_law_facts" "_law_facts" 870 871 872 390 2 3 479 181 480 (.ref 481) (.ref 482) 483 878 879)::(nat_lit 485,fO "_law_facts" "_law_facts" b3a (.str "law_goaltrail_k36_keeps" 819) 484)::(nat_lit 491,cO "_law_cut" "_law_cut" 881 882 883 396 2 3 486 181 487 (.ref 488) (.ref 489) 490 886 887)::(nat_lit 492,fO "_law_cut" "_law_cut" b8o (.str "law_goaltrail_k36_keeps" 819) 491)::(nat_lit 498,cO "_law_of_rule" "_law_of_rule" 889 890 891 400 4 3 493 181 494 (.ref 495) (.ref 496) 497 905 906)::(nat_lit 499,fO "_law_of_rule" "_law_of_rule" a9v (.str "law_goaltrail_k36_keeps" 819) 498)::(nat_lit 505,cO "_law_fourth" "_law_fourth" 908 909 910 416 2 3 500 181 501 (.ref 502) (.ref 503) 504 919 920)::(nat_lit 506,fO "_law_fourth" "_law_fourth" b1u (.str "law_goaltrail_k36_keeps" 819) 505)::(nat_lit 510,cO "_law_due" "_law_due" 922 923 924 426 4 3 507 181 508 .none .none 509 925 926)::(nat_lit 511,fO "_law_due" "_law_due" b4d (.str "law_goaltrail_k36_keeps" 819) 510)::(nat_lit 517,cO "law" "law" 928 929 930 444 1 3 512 181 513 (.ref 514) (.ref 515) 516 942 943)::(nat_lit 518,fO "law" "law" s_law (.str "law_goaltrail_k36_keeps" 819) 517)::[]
noncomputable def prog:Program:=PySem.Challenge.pw_goaltrail_k36_keeps
noncomputable def Q:Program:=W.view prog [1,2,3,5,6,7,8,9,10,11,12,13,14,15,17,18,19,20,22,23,24,25,27,29,30,31,33,34,35,36,37,39,40,41,42,43,45,46,47,48,51,52,53,54,55,56,57,58,59,60,61]
noncomputable def loose:List Str:=["TrailError","Fault","search"]
noncomputable def Xt(s:Shared):Bool:=W.xlAt Q [] s&&W.recOk [] s
noncomputable def ads:List Addr:=[2,3,22,28,29,31,32,44,45,64,65,80,81,87,88,94,95,99,100,106,107,113,114,118,119,123,124,130,131,137,138,144,145,151,152,156,157,163,164,177,178,180,181,198,199,205,206,212,213,219,220,226,227,231,232,234,235,245,246,252,253,259,260,266,267,309,310,312,313,328,329,335,336,349,350,356,357,361,362,368,369,375,376,382,383,389,390,394,395,401,402,415,416,418,419,429,430,436,437,438,444,445,451,452,458,459,463,464,470,471,477,478,484,485,491,492,498,499,505,506,510,511,517,518]
theorem run1:∀w:World,(λos=>(W.segRunT treeTable prog w 11 (some (.ref 6)) 0 3528 (bootS w os) (W.topStub prog)).map λr=>looks prog Q loose Xt (λs=>ads.map s.heap.get?) true (W.boot_heap w.params) r.2.1.abs)=λ_=>some (true,W.openGood Q loose,(KK w.params).map λp=>some p.2):=by
 intro w
 delta Xt Q loose
 rw[W.Fast.te10110043849684766642,W.Fast.te14364793385576792824,W.Fast.te2530740449226627131,W.Fast.te3486900944545009338,W.Fast.te10845986317416049621,W.Fast.te5655336392911312201,W.Fast.te4757257242682413121,W.Fast.te6483871617321286689,W.Fast.te15055690906229335287]
 kernel_rfl
theorem left1:W.LeftO prog Q loose Xt (λs=>ads.map s.heap.get?) (λw=>(KK w.params).map λp=>some p.2) 3528:=left_of (by kernel_rfl) qd (λ_=>by kernel_rfl) c7u qd run1
theorem said1:PySem.Challenge.rw_goaltrail_k36_keeps.wellSaid=true:=by
 w_on
 rw[W.Fast.te9446332074065402090]
 kernel_rfl
def nany:Trm->Bool
 | .any _=>false
 |_=>true
noncomputable def keyL(t:Trm):List Key:=(keyK t).getD []
theorem a1v{t:Trm}(h:nany t=true):keyK t=some (keyL t):=by
 cases t with
 |num n=>rfl
 |any x=>cases h
 |app s ks=>rfl
structure a9g(x:Str)(rows:Rws)(t:Trm):Prop where
 sz:t.size<=60
 no:x∉vars t
 fr:∀y∈vars t,a1b rows y=none
def kD:Key->PyData
 | .inl i=>.int i
 | .inr x=>.str x
abbrev b1x:Str:=ofString "puts"
abbrev b0q:Str:=ofString "noted"
abbrev b7h:Str:=ofString "rows"
abbrev metN:Str:=ofString "met"
abbrev a3o:Str:=ofString "lefts"
abbrev a3h:Str:=ofString "rights"
abbrev a4i:Str:=ofString "taken"
theorem a1y{f:Str}{v:V}:∀{fs:List (Str×V)}{n:Nat},fs.length<n->(putF f v fs).length<n+1
 | [],n,h=>by show 1<n+1;exact Nat.succ_lt_succ h
 | (g,x)::r,n,h=>by
  rw[putF]
  split
  ·exact Vb h
  ·cases n with
   |zero=>cases h
   |succ n=>exact Nat.succ_lt_succ (a1y (Nat.lt_of_succ_lt_succ h))
theorem a6m{n:Nat}:([]:List (Str×V)).length<n+1:=Nat.succ_pos n
structure RwO where
 r:Addr
 dr:Addr
 a:V
 b:V
 k:Int
noncomputable def RwO.ob(CR:Addr)(q:RwO):HO:=.ins CR q.dr [(a3o,q.a),(a3h,q.b),(a4i,.int q.k)]
noncomputable def jF(pd nl rl md:Addr):List (Str×V):=[(b1x,.ref pd),(b0q,.ref nl),(b7h,.ref rl),(metN,.ref md)]
def Kp2(pd nl:Addr)(H0 H:Hp):Prop:=∀a o,a≠pd->a≠nl->H0 a=some o->H a=some o
theorem Kp2.refl(pd nl:Addr)(H:Hp):Kp2 pd nl H H:=λ_ _ _ _ h=>h
theorem Kp2.same{pd nl:Addr}{H0 H H':Hp}(k:Kp2 pd nl H0 H)(s:Same H H'):Kp2 pd nl H0 H':=λa o h1 h2 h=>s _ _ (k a o h1 h2 h)
theorem Kp2.up{pd nl p:Addr}{H0 H:Hp}{o:HO}(k:Kp2 pd nl H0 H)(h:H0 p=none):Kp2 pd nl H0 (upd H p o):=λa o h1 h2 e=>by
 rw[a0f (a0w e h)];exact k a o h1 h2 e
theorem Kp2.pd{pd nl:Addr}{H0 H:Hp}{o:HO}(k:Kp2 pd nl H0 H):Kp2 pd nl H0 (upd H pd o):=λa o h1 h2 e=>by
 rw[a0f h1];exact k a o h1 h2 e
theorem Kp2.nl{pd nl:Addr}{H0 H:Hp}{o:HO}(k:Kp2 pd nl H0 H):Kp2 pd nl H0 (upd H nl o):=λa o h1 h2 e=>by
 rw[a0f h2];exact k a o h1 h2 e
theorem Kp2.free{pd nl p:Addr}{H0 H:Hp}(k:Kp2 pd nl H0 H)(h:H p=none)(n1:p≠pd)(n2:p≠nl):H0 p=none:=by
 cases e:H0 p with
 |none=>rfl
 |some o=>rw[k p o n1 n2 e]at h;cases h
def nms(rows:Rws):List V:=rows.map λr=>V.str r.1
structure JS(K:W.Frag)(CJ CR:Addr)(H0 H:Hp)(j dx pd nl rl md:Addr)(me:Bool)(rows:Rws)(rs:List RwO):Prop where
 sm:Kp2 pd nl H0 H
 o:H j=some (.ins CJ dx (jF pd nl rl md))
 put:a2i K H pd rows
 note:H nl=some (.lst (nms rows))
 rws:H rl=some (.lst (rs.map λq=>V.ref q.r))
 md0:∃om,H md=some om/\(∀xs,om≠.lst xs)/\(∀xs,om≠.tup xs)/\(∀o' xs,om≠.frz o' (.tup xs))/\(∀C dx fs,om≠.ins C dx fs)/\(me=true->om=.dK [])
 ro:∀q∈rs,H q.r=some (q.ob CR)/\H0 q.r=none/\q.r≠j
 nd:(rs.map (·.r)).Nodup
 hj:H0 j=none
 hrl:H0 rl=none
 hmd:H0 md=none
 n1:nl≠rl
 n2:md≠pd
def KT(K:W.Frag)(H H':Hp):Prop:=∀a xs,SqT K H a xs->SqT K H' a xs
theorem KT.refl{K:FG}(H:Hp):KT K H H:=λ_ _ h=>h
theorem KT.trans{K:FG}{H H1 H2:Hp}(a:KT K H H1)(b:KT K H1 H2):KT K H H2:=λc xs h=>b _ _ (a _ _ h)
theorem KT.same{K:FG}{H H':Hp}(s:Same H H'):KT K H H':=λ_ _ h=>s.tup h
theorem KT.upd{K:FG}{H:Hp}{p:Addr}{o o0:HO}(h:H p=some o0)(h1:∀xs,o0≠.tup xs)(h2:∀o' xs,o0≠.frz o' (.tup xs)):KT K H (upd H p o):=λa xs q=>by
 rcases q with(q|⟨o',q⟩)|q
 ·exact .inl (.inl (by rw[a0f (a1a q h (λz=>h1 _ z.symm))];exact q))
 ·exact .inl (.inr ⟨o',by rw[a0f (a1a q h (λz=>h2 _ _ z.symm))];exact q⟩)
 ·exact .inr q
abbrev a9w(K:W.Frag)(CR:Addr):Sp:=λvs H Q _=>aR vs λr vs=>aV vs λa vs=>aV vs λb vs=>aE vs (∃dr,H r=some (.ins CR dr [])/\∀H',But r H H'->H' r=some (RwO.ob CR ⟨r,dr,a,b,0⟩)->Q .non H')
abbrev a9h(K:W.Frag)(CJ:Addr):Sp:=λvs H Q _=>aR vs λj vs=>aR vs λpd vs=>aR vs λnl vs=>aE vs (∃dx,H j=some (.ins CJ dx [])/\∀rl md H',H rl=none->H md=none->rl≠md->But j H H'->H' j=some (.ins CJ dx (jF pd nl rl md))->H' rl=some (.lst [])->H' md=some (.dK [])->Q .non H')
abbrev a6n(K:W.Frag)(CJ CR:Addr):Sp:=λvs H Q _=>aR vs λj vs=>aE vs (∃H0 dx pd nl rl md me rows rs,JS K CJ CR H0 H j dx pd nl rl md me rows rs/\rs.length<=50/\∀p H',Same H H'->SqT K H' p ((rs.tail.map λq=>q.k-1).map V.int)->Q (.ref p) H')
inductive Pl where
 |go(rows:Rws)
 |part(a b:List Key)
 |kids(s:Str)(ks ls:List Trm)
noncomputable def pl4(l r:Trm):Pl:=match l,r with
 | .app s ks,.app s' ls=>if s=s'/\ks.length=ls.length then .kids s ks ls else .part (keyL (.app s ks)) (keyL (.app s' ls))
 |l,r=>.part (keyL l) (keyL r)
def pl3(rows:Rws)(l:Trm):Trm->Pl
 | .any y=>.go (putR rows y l)
 |r=>pl4 l r
def pl2a(rows:Rws)(r:Trm):Trm->Pl
 | .any x=>.go (putR rows x r)
 |l=>pl3 rows l r
def pl2(rows:Rws)(l r:Trm):Pl:=if eqb l r=true then .go rows else pl2a rows r l
abbrev a8s(K:W.Frag):Sp:=λvs H Q _=>aS vs λx vs=>aV vs λv vs=>aR vs λpd vs=>aE vs (∃t rows,Den K H v t.data/\a2i K H pd rows/\a9g x rows t/\∀H',Same H H'->Q (.bl false) H')
abbrev a7o(K:W.Frag)(CJ CR:Addr):Sp:=λvs H Q _=>aR vs λj vs=>aS vs λx vs=>aV vs λv vs=>aE vs (∃H0 dx pd nl rl md me rows rs t,JS K CJ CR H0 H j dx pd nl rl md me rows rs/\Den K H v t.data/\a9g x rows t/\a1b rows x=none/\rows.length<=900/\∀H',KT K H H'->JS K CJ CR H0 H' j dx pd nl rl md me (putR rows x t) rs->Q .non H')
abbrev a5u(K:W.Frag)(CJ CR:Addr):Sp:=λvs H Q _=>aR vs λj vs=>aV vs λv vs=>aV vs λv' vs=>aE vs (∃H0 dx pd nl rl md rows rs s ks s' ls,JS K CJ CR H0 H j dx pd nl rl md true rows rs/\Den K H v (Trm.app s ks).data/\Den K H v' (Trm.app s' ls).data/\(Trm.app s ks).size<=60/\(Trm.app s' ls).size<=60/\rs.length<=50/\∀H' r dr a b us us',KT K H H'->JS K CJ CR H0 H' j dx pd nl rl md false rows (rs++[⟨r,dr,.ref a,.ref b,0⟩])->SqT K H' a us->DenL K H' us (Trm.dataL ks)->SqT K H' b us'->DenL K H' us' (Trm.dataL ls)->Q .non H')
def onPl(K:W.Frag)(CJ CR:Addr)(H0 H:Hp)(j dx pd nl rl md:Addr)(me:Bool)(rows:Rws)(rs:List RwO)(Q:VK):Pl->Prop
 | .go rows'=>∀H',KT K H H'->JS K CJ CR H0 H' j dx pd nl rl md me rows' rs->Q .non H'
 | .part a b=>∀w H',KT K H H'->JS K CJ CR H0 H' j dx pd nl rl md me rows rs->(∃r,w=.ref r)->Q w H'
 | .kids s ks ls=>me=true/\∀H' r dr a b us us',KT K H H'->JS K CJ CR H0 H' j dx pd nl rl md false rows (rs++[⟨r,dr,.ref a,.ref b,0⟩])->SqT K H' a us->DenL K H' us (Trm.dataL ks)->SqT K H' b us'->DenL K H' us' (Trm.dataL ls)->Q .non H'
structure Okp(p:Rws)(l r:Trm):Prop where
 zl:l.size<=60
 zr:r.size<=60
 len:p.length<=900
 cl:∀x,l=.any x->¬eqb l r=true->a9g x p r
 cr:∀y,r=.any y->nany l=true->a9g y p l
inductive Un:Bool->Rws->List (Trm×Trm)->Bool->Rws->Nat->Prop
 |done {me:Bool} {p:Rws}:Un me p [] true p 0
 |go {me ok:Bool} {p p' q:Rws} {a b l r:Trm} {rest:List (Trm×Trm)} {n m c:Nat}:Wlk p n a l->Wlk p m b r->Okp p l r->pl2 p l r=.go p'->Un me p' rest ok q c->Un me p ((a,b)::rest) ok q (c+1)
 |part {me:Bool} {p:Rws} {a b l r:Trm} {rest:List (Trm×Trm)} {n m:Nat} {ka kb:List Key}:Wlk p n a l->Wlk p m b r->Okp p l r->pl2 p l r=.part ka kb->Un me p ((a,b)::rest) false p 1
 |kids {ok:Bool} {p q:Rws} {a b l r:Trm} {rest:List (Trm×Trm)} {n m c:Nat} {s:Str} {ks ls:List Trm}:Wlk p n a l->Wlk p m b r->Okp p l r->pl2 p l r=.kids s ks ls->Un false p (ks.zip ls++rest) ok q c->Un true p ((a,b)::rest) ok q (c+1)
abbrev a5v(K:W.Frag)(CJ CR:Addr):Sp:=λvs H Q _=>aR vs λj vs=>aV vs λv vs=>aV vs λv' vs=>aE vs (∃H0 dx pd nl rl md me rows rs t t' n n' l r,JS K CJ CR H0 H j dx pd nl rl md me rows rs/\Den K H v t.data/\Den K H v' t'.data/\Wlk rows n t l/\Wlk rows n' t' r/\Okp rows l r/\rs.length<=50/\onPl K CJ CR H0 H j dx pd nl rl md me rows rs Q (pl2 rows l r))
abbrev a5w(K:W.Frag)(CJ CR:Addr):Sp:=λvs H Q _=>aR vs λj vs=>aV vs λv vs=>aV vs λv' vs=>aE vs (∃H0 dx pd nl rl md rows t t' ok q c,JS K CJ CR H0 H j dx pd nl rl md true rows []/\Den K H v t.data/\Den K H v' t'.data/\Un true rows [(t,t')] ok q c/\∀w H',Kp2 pd nl H0 H'->KT K H H'->a2i K H' pd q->H' nl=some (.lst (nms q))->((w=.non/\ok=true)\/(ok=false/\∃r,w=.ref r))->Q w H')
section
variable{K:W.Frag}{CJ CR:Addr}{H0 H H':Hp}{j dx pd nl rl md:Addr}{me:Bool}{rows rows':Rws}{rs:List RwO}
theorem a2i.keep{a p:Addr}{o:HO}(h:a2i K H a rows)(hne:a≠p)(kt:KT K H (upd H p o)):a2i K (upd H p o) a rows:=by
 obtain⟨kvs,h1,h2⟩:=h.ex;exact⟨kvs,by rw[a0f hne];exact h1,h2.monoT kt⟩
theorem JS.same(h:JS K CJ CR H0 H j dx pd nl rl md me rows rs)(s:Same H H'):JS K CJ CR H0 H' j dx pd nl rl md me rows rs:=by
 obtain⟨om,h3,h4⟩:=h.md0;exact⟨h.sm.same s,s _ _ h.o,h.put.mono s,s _ _ h.note,s _ _ h.rws,⟨om,s _ _ h3,h4⟩,λq hq=>⟨s _ _ (h.ro q hq).1,(h.ro q hq).2⟩,h.nd,h.hj,h.hrl,h.hmd,h.n1,h.n2⟩
theorem JS.put2{kv:List (Key×V)}(h:JS K CJ CR H0 H j dx pd nl rl md me rows rs)(ok:a1z K H kv rows'):JS K CJ CR H0 (upd (upd H pd (.dK kv)) nl (.lst (nms rows'))) j dx pd nl rl md me rows' rs/\KT K H (upd (upd H pd (.dK kv)) nl (.lst (nms rows'))):=by
 obtain⟨k0,e0,_⟩:=h.put.ex;obtain⟨om,h3,h4⟩:=h.md0;have npn:nl≠pd:=a1a h.note e0 (λz=>by cases z);have k1:KT K H (upd H pd (.dK kv)):=.upd e0 (λ_ z=>by cases z) (λ_ _ z=>by cases z);have en:(upd H pd (.dK kv)) nl=some (.lst (nms rows)):=by rw[a0f npn];exact h.note
 have kt:KT K H (upd (upd H pd (.dK kv)) nl (.lst (nms rows'))):=k1.trans (.upd en (λ_ z=>by cases z) (λ_ _ z=>by cases z));refine⟨⟨h.sm.pd.nl,?_,⟨kv,?_,ok.monoT kt⟩,a0c,?_,⟨om,?_,h4⟩,λq hq=>⟨?_,(h.ro q hq).2⟩,h.nd,h.hj,h.hrl,h.hmd,h.n1,h.n2⟩,kt⟩
 ·rw[a0f (a1a h.o h.note (λz=>by cases z)),a0f (a1a h.o e0 (λz=>by cases z))];exact h.o
 ·rw[a0f npn.symm];exact a0c
 ·rw[a0f h.n1.symm,a0f (a1a h.rws e0 (λz=>by cases z))];exact h.rws
 ·rw[a0f (a1a h3 h.note (h4.1 _)),a0f h.n2];exact h3
 ·rw[a0f (a1a (h.ro q hq).1 h.note (λz=>by cases z)),a0f (a1a (h.ro q hq).1 e0 (λz=>by cases z))];exact(h.ro q hq).1
theorem JS.upd_md{om:HO}(h:JS K CJ CR H0 H j dx pd nl rl md me rows rs)(c1:∀xs,om≠.lst xs)(c2:∀xs,om≠.tup xs)(c3:∀o' xs,om≠.frz o' (.tup xs))(c4:∀C dx fs,om≠.ins C dx fs):JS K CJ CR H0 (upd H md om) j dx pd nl rl md false rows rs/\KT K H (upd H md om):=by
 have h1:=h.note;obtain⟨o0,h3,h4⟩:=h.md0;have kt:KT K H (upd H md om):=.upd h3 h4.2.1 h4.2.2.1;refine⟨⟨h.sm.up h.hmd,?_,h.put.keep (Ne.symm h.n2) kt,?_,?_,⟨om,a0c,c1,c2,c3,c4,λz=>by cases z⟩,λq hq=>⟨?_,(h.ro q hq).2⟩,h.nd,h.hj,h.hrl,h.hmd,h.n1,h.n2⟩,kt⟩
 ·rw[a0f (a1a h.o h3 (λz=>h4.2.2.2.1 _ _ _ z.symm))];exact h.o
 ·rw[a0f (a1a h1 h3 (λz=>h4.1 _ z.symm))];exact h1
 ·rw[a0f (a1a h.rws h3 (λz=>h4.1 _ z.symm))];exact h.rws
 ·rw[a0f (a1a (h.ro q hq).1 h3 (λz=>h4.2.2.2.1 _ _ _ z.symm))];exact(h.ro q hq).1
theorem JS.upd_rl{rs':List RwO}(h:JS K CJ CR H0 H j dx pd nl rl md me rows rs)(ok:∀q∈rs',H q.r=some (q.ob CR)/\H0 q.r=none/\q.r≠j)(nd:(rs'.map (·.r)).Nodup):JS K CJ CR H0 (upd H rl (.lst (rs'.map λq=>V.ref q.r))) j dx pd nl rl md me rows rs'/\KT K H (upd H rl (.lst (rs'.map λq=>V.ref q.r))):=by
 obtain⟨k0,e0,_⟩:=h.put.ex;have h1:=h.note;obtain⟨om,h3,h4⟩:=h.md0;have kt:KT K H (upd H rl (.lst (rs'.map λq=>V.ref q.r))):=.upd h.rws (λ_ z=>by cases z) (λ_ _ z=>by cases z);refine⟨⟨h.sm.up h.hrl,?_,h.put.keep (a1a e0 h.rws (λz=>by cases z)) kt,?_,a0c,⟨om,?_,h4⟩,λq hq=>⟨?_,(ok q hq).2⟩,nd,h.hj,h.hrl,h.hmd,h.n1,h.n2⟩,kt⟩
 ·rw[a0f (a1a h.o h.rws (λz=>by cases z))];exact h.o
 ·rw[a0f h.n1];exact h1
 ·rw[a0f (a1a h3 h.rws (h4.1 _))];exact h3
 ·rw[a0f (a1a (ok q hq).1 h.rws (λz=>by cases z))];exact(ok q hq).1
theorem JS.upd_last{rs0:List RwO}{q0 q1:RwO}(h:JS K CJ CR H0 H j dx pd nl rl md me rows (rs0++[q0]))(e:q1.r=q0.r):JS K CJ CR H0 (upd H q0.r (q1.ob CR)) j dx pd nl rl md me rows (rs0++[q1])/\KT K H (upd H q0.r (q1.ob CR)):=by
 obtain⟨k0,e0,_⟩:=h.put.ex;have h1:=h.note;obtain⟨om,h3,h4⟩:=h.md0;have hq0:=h.ro q0 qz;have nd:=h.nd;rw[Zo,Xq]at nd;have kt:KT K H (upd H q0.r (q1.ob CR)):=.upd hq0.1 (λ_ z=>by cases z) (λ_ _ z=>by cases z);have er:(rs0++[q1]).map (·.r)=(rs0++[q0]).map (·.r):=by simp[e]
 have er2:((rs0++[q1]).map λq=>V.ref q.r)=(rs0++[q0]).map λq=>V.ref q.r:=by simp[e]
 refine⟨⟨h.sm.up hq0.2.1,?_,h.put.keep (a1a e0 hq0.1 (λz=>by cases z)) kt,?_,?_,⟨om,?_,h4⟩,λq hq=>?_,by rw[er];exact h.nd,h.hj,h.hrl,h.hmd,h.n1,h.n2⟩,kt⟩
 ·rw[a0f (Ne.symm hq0.2.2)];exact h.o
 ·rw[a0f (a1a h1 hq0.1 (λz=>by cases z))];exact h1
 ·rw[er2,a0f (a1a h.rws hq0.1 (λz=>by cases z))];exact h.rws
 ·rw[a0f (a1a h3 hq0.1 (λz=>h4.2.2.2.1 _ _ _ z))];exact h3
 ·rcases Yt.mp hq with z|z
  ·have hq':=h.ro q (V6 _ z);have hn:q.r≠q0.r:=λz2=>nd.2.2 q.r (Ys.mpr ⟨q,z,rfl⟩) q0.r qz z2
   exact⟨by rw[a0f hn];exact hq'.1,hq'.2⟩
  ·rw[Zq.mp z,e];exact⟨a0c,hq0.2⟩
end
mutual
theorem b8r:∀t:Trm,a3s t.data=true
 | .num n=>rfl
 | .any x=>rfl
 | .app s ks=>by
  show(true&&(true&&(a3s.hashyL (Trm.dataL ks)&&true)))=true
  rw[c4z ks];rfl
theorem c4z:∀ts:List Trm,a3s.hashyL (Trm.dataL ts)=true
 | []=>rfl
 |t::r=>by
  show(a3s t.data&&a3s.hashyL (Trm.dataL r))=true
  rw[b8r t,c4z r];rfl
end
theorem c9r{x:Str}{rows:Rws}{t:Trm}(h:a9g x rows t):eqb t (.any x)=false:=by
 cases t with
 |num n=>rfl
 |app s ks=>rfl
 |any y=>
  show decide (y=x)=false
  exact Z3 λe=>h.no (by rw[e];exact Zq.mpr rfl)
theorem c9s{x:Str}{rows:Rws}{s:Str}{ks:List Trm}(h:a9g x rows (.app s ks)):∀t∈ks,a9g x rows t:=λt ht=>
 ⟨b7f h.sz t ht,λz=>h.no (b8n ht _ z),λy hy=>h.fr y (b8n ht _ hy)⟩
section
variable{pd nl rl md:Addr}
theorem b4f:(jF pd nl rl md).lookup (ofString "puts")=some (.ref pd):=by
 have e:(ofString "puts"==b1x)=true:=by decide+kernel
 simp only[jF,List.lookup,e]
theorem d3h:(jF pd nl rl md).lookup (ofString "noted")=some (.ref nl):=by
 have e:(ofString "noted"==b1x)=false:=by decide+kernel
 have e1:(ofString "noted"==b0q)=true:=by decide+kernel
 simp only[jF,List.lookup,e,e1]
theorem a7b:(jF pd nl rl md).lookup (ofString "rows")=some (.ref rl):=by
 have e:(ofString "rows"==b1x)=false:=by decide+kernel
 have e1:(ofString "rows"==b0q)=false:=by decide+kernel
 have e2:(ofString "rows"==b7h)=true:=by decide+kernel
 simp only[jF,List.lookup,e,e1,e2]
theorem c9t:(jF pd nl rl md).lookup (ofString "met")=some (.ref md):=by
 have e:(ofString "met"==b1x)=false:=by decide+kernel
 have e1:(ofString "met"==b0q)=false:=by decide+kernel
 have e2:(ofString "met"==b7h)=false:=by decide+kernel
 have e3:(ofString "met"==metN)=true:=by decide+kernel
 simp only[jF,List.lookup,e,e1,e2,e3]
theorem a7g{f:Str}(h:(f==b1x||f==b0q||f==b7h||f==metN)=false):(jF pd nl rl md).lookup f=none:=by
 simp only[Bool.or_eq_false_iff]at h;simp only[jF,List.lookup,h.1.1.1,h.1.1.2,h.1.2,h.2]
end
section
variable{a b:V}{k:V}
theorem b9x:[(a3o,a),(a3h,b),(a4i,k)].lookup (ofString "lefts")=some a:=by
 have e:(ofString "lefts"==a3o)=true:=by decide+kernel
 simp only[List.lookup,e]
theorem c6c:[(a3o,a),(a3h,b),(a4i,k)].lookup (ofString "rights")=some b:=by
 have e:(ofString "rights"==a3o)=false:=by decide+kernel
 have e1:(ofString "rights"==a3h)=true:=by decide+kernel
 simp only[List.lookup,e,e1]
theorem a7p:[(a3o,a),(a3h,b),(a4i,k)].lookup (ofString "taken")=some k:=by
 have e:(ofString "taken"==a3o)=false:=by decide+kernel
 have e1:(ofString "taken"==a3h)=false:=by decide+kernel
 have e2:(ofString "taken"==a4i)=true:=by decide+kernel
 simp only[List.lookup,e,e1,e2]
theorem c6d{k':V}:putF (ofString "taken") k' [(a3o,a),(a3h,b),(a4i,k)]=[(a3o,a),(a3h,b),(a4i,k')]:=by
 have e:a3o≠ofString "taken":=by decide+kernel
 have e1:a3h≠ofString "taken":=by decide+kernel
 have e2:a4i=ofString "taken":=by decide+kernel
 rw[putF,if_neg e,putF,if_neg e1,putF,if_pos e2]
end
theorem b1y{rows:Rws}{x:Str}(h:a1b rows x=none):x∉rows.map (·.1):=λz=>by
 obtain⟨r,hr,e⟩:=Ys.mp z;have h:(rows.find? λr=>decide (r.1=x)).map (·.2)=none:=h;have h2:=Uk.mp (W5.mp h) r hr;exact h2 (Ye e)
theorem b7i{a b:Trm}(ha:a.size<=60)(hb:b.size<=60):(PyData.tuple [a.data,b.data]).depth<=140:=by
 have h1:=Trm.depth_le a;have h2:=Trm.depth_le b;simp only[PyData.depth,PyData.depthAll];omega
theorem b7j(a b:Trm):a3s (.tuple [a.data,b.data])=true:=by
 show(a3s a.data&&(a3s b.data&&true))=true
 rw[b8r,b8r];rfl
theorem a9i{H H':Hp}{r dr C:Addr}(h1:H r=none)(h2:H dr=none)(b:But r (upd (upd H dr (.own r)) r (.ins C dr [])) H'):Same H H':=λc o ho=>by
 refine b c o (a0w ho h1) ?_;rw[a0f (a0w ho h1),a0f (a0w ho h2)];exact ho
theorem pk{rows:Rws}{l r:Trm}{s:Str}{ks ls:List Trm}(h:pl2 rows l r=.kids s ks ls):l=.app s ks/\r=.app s ls/\ks.length=ls.length:=by
 rw[pl2]at h
 by_cases e:eqb l r=true
 ·rw[if_pos e]at h;cases h
 rw[if_neg e]at h;cases l<;>cases r<;>first| (exact absurd h (λz=>by cases z))|skip
 rename_i s1 k1 s2 l1;have h:(if s1=s2/\k1.length=l1.length then Pl.kids s1 k1 l1 else .part (keyL (.app s1 k1)) (keyL (.app s2 l1)))=.kids s ks ls:=h;split at h
 ·rename_i c;cases h;exact⟨rfl,by rw[c.1],c.2⟩
 ·cases h
theorem c9u{pd nl rl md rl':Addr}:putF (ofString "rows") (.ref rl') (jF pd nl rl md)=jF pd nl rl' md:=by
 have e:b1x≠ofString "rows":=by decide+kernel
 have e1:b0q≠ofString "rows":=by decide+kernel
 have e2:b7h=ofString "rows":=by decide+kernel
 unfold jF;rw[putF,if_neg e,putF,if_neg e1,putF,if_pos e2]
theorem JS.set_rl{K:FG}{CJ CR:Addr}{H0 H:Hp}{j dx pd nl rl md rl':Addr}{me:Bool}{rows:Rws}{rs rs':List RwO}(h:JS K CJ CR H0 H j dx pd nl rl md me rows rs)(k:H rl'=some (.lst (rs'.map λq=>V.ref q.r)))(k0:H0 rl'=none)(n1:nl≠rl')(ok:∀q∈rs',H q.r=some (q.ob CR)/\H0 q.r=none/\q.r≠j)(nd:(rs'.map (·.r)).Nodup):JS K CJ CR H0 (upd H j (.ins CJ dx (jF pd nl rl' md))) j dx pd nl rl' md me rows rs'/\KT K H (upd H j (.ins CJ dx (jF pd nl rl' md))):=by
 obtain⟨e0,e1,_⟩:=h.put.ex;have h1:=h.note;obtain⟨om,h3,h4⟩:=h.md0;have kt:KT K H (upd H j (.ins CJ dx (jF pd nl rl' md))):=.upd h.o (λ_ z=>by cases z) (λ_ _ z=>by cases z);refine⟨⟨h.sm.up h.hj,a0c,h.put.keep (a1a e1 h.o (λz=>by cases z)) kt,?_,?_,⟨om,?_,h4⟩,λq hq=>⟨?_,(ok q hq).2⟩,nd,h.hj,k0,h.hmd,n1,h.n2⟩,kt⟩
 ·rw[a0f (a1a h1 h.o (λz=>by cases z))];exact h1
 ·rw[a0f (a1a k h.o (λz=>by cases z))];exact k
 ·rw[a0f (a1a h3 h.o (h4.2.2.2.1 _ _ _))];exact h3
 ·rw[a0f (ok q hq).2.2];exact(ok q hq).1
theorem JS.free{K:FG}{CJ CR:Addr}{H0 H:Hp}{j dx pd nl rl md p:Addr}{me:Bool}{rows:Rws}{rs:List RwO}(h:JS K CJ CR H0 H j dx pd nl rl md me rows rs)(hp:H p=none):H0 p=none:=by
 obtain⟨k0,e0,_⟩:=h.put.ex;exact h.sm.free hp (λz=>by rw[z,e0]at hp;cases hp) (λz=>by rw[z,h.note]at hp;cases hp)
inductive Pend(K:W.Frag)(H:Hp):List RwO->List (Trm×Trm)->Prop
 |nil:Pend K H [] []
 |cons {r dr a b:Addr} {st:List RwO} {rest:List (Trm×Trm)} {us us':List V} {ks ls:List Trm} {i:Nat}:SqT K H a us->DenL K H us (Trm.dataL ks)->SqT K H b us'->DenL K H us' (Trm.dataL ls)->ks.length=ls.length->i<=ks.length->ks.length<=60->Pend K H st rest->Pend K H (⟨r,dr,.ref a,.ref b,(i:Int)⟩::st) ((ks.drop i).zip (ls.drop i)++rest)
theorem Pend.mono{K:FG}{H H':Hp}(k:KT K H H'){st:List RwO}{ps:List (Trm×Trm)}(h:Pend K H st ps):Pend K H' st ps:=by
 induction h with
 |nil=>exact .nil
 |cons a b c d e f g _ i=>exact .cons (k _ _ a) (b.monoT k) (k _ _ c) (d.monoT k) e f g i
theorem c9v{q:RwO}{st:List RwO}:((q::st).reverse.map λq=>V.ref q.r)=(st.reverse.map λq=>V.ref q.r)++[V.ref q.r]:=by
 rw[Yz,Zo];rfl
theorem a2h:∀{fs:List (Str×V)}{f:Str}{i:Nat}{v:V},(fs.map (·.1)).findIdx? (· ==f)=some i->(fs[i]?).map (·.2)=some v->fs.lookup f=some v
 | [],f,i,v,h,_=>by simp at h
 | (g,x)::fs,f,i,v,h,e=>by
  rw[Z5,Qj]at h;rw[Wf]
  by_cases c:(g==f)=true
  ·rw[if_pos c]at h;cases h;have c':(f==g)=true:=by rw[eq_of_beq c];exact Vz _
   rw[c'];exact e
  ·rw[if_neg c]at h;cases hq:(fs.map (·.1)).findIdx? (· ==f)with
   |none=>rw[hq]at h;cases h
   |some k=>
    rw[hq]at h;cases h;have c':(f==g)=false:=Bool.eq_false_iff.mpr λz=>c (by rw[eq_of_beq z];exact Vz _)
    rw[c'];exact a2h hq (by simpa using e)
theorem c9w:∀{fs:List (Str×V)}{f:Str},(fs.map (·.1)).all (λg=>!(f==g))=true->fs.lookup f=none
 | [],f,_=>rfl
 | (g,x)::fs,f,h=>by
  rw[Z5,Uz,Xp]at h;have e:(f==g)=false:=by
   have:=h.1;cases q:(f==g)with
   |false=>rfl
   |true=>rw[q]at this;cases this
  rw[Wf,e];exact c9w h.2
theorem a7c:∀{fs:List (Str×V)}{f:Str}{i:Nat}{v:V},(fs.map (·.1)).findIdx? (· ==f)=some i->putF f v fs=fs.set i (f,v)
 | [],f,i,v,h=>by simp at h
 | (g,x)::fs,f,i,v,h=>by
  rw[Z5,Qj]at h;rw[putF]
  by_cases c:(g==f)=true
  ·rw[if_pos c]at h;cases h;rw[if_pos (eq_of_beq c),List.set_cons_zero,eq_of_beq c]
  ·rw[if_neg c]at h;cases hq:(fs.map (·.1)).findIdx? (· ==f)with
   |none=>rw[hq]at h;cases h
   |some k=>
    rw[hq]at h;cases h;rw[if_neg λz=>c (by rw[z];exact Vz _),a7c hq,List.set_cons_succ]
mutual
inductive Dm(K:W.Frag)(H:Hp)(M:List Addr):V->PyData->Prop
 |non:Dm K H M .non .none
 |bl (b:Bool):Dm K H M (.bl b) (.bool b)
 |int (i:Int):Dm K H M (.int i) (.int i)
 |str (x:Str):Dm K H M (.str x) (.str x)
 |tup {a:Addr} {us:List V} {ds:List PyData}:SqT K H a us->DmL K H M us ds->Dm K H M (.ref a) (.tuple ds)
 |lst {a:Addr} {us:List V} {ds:List PyData}:H a=some (.lst us)->a∉M->DmL K H M us ds->Dm K H M (.ref a) (.list ds)
inductive DmL(K:W.Frag)(H:Hp)(M:List Addr):List V->List PyData->Prop
 |nil:DmL K H M [] []
 |cons {u:V} {us:List V} {d:PyData} {ds:List PyData}:Dm K H M u d->DmL K H M us ds->DmL K H M (u::us) (d::ds)
end
structure Pr(K:W.Frag)(M:List Addr)(H H':Hp):Prop where
 kp:∀a o,a∉M->H a=some o->H' a=some o
 kt:KT K H H'
theorem Pr.refl{K:FG}{M:List Addr}{H:Hp}:Pr K M H H:=⟨λ_ _ _ h=>h,KT.refl H⟩
theorem Pr.trans{K:FG}{M:List Addr}{H H1 H2:Hp}(a:Pr K M H H1)(b:Pr K M H1 H2):Pr K M H H2:=⟨λc o n h=>b.kp c o n (a.kp c o n h),a.kt.trans b.kt⟩
theorem Pr.same{K:FG}{M:List Addr}{H H1:Hp}(s:Same H H1):Pr K M H H1:=⟨λc o _ h=>s c o h,KT.same s⟩
theorem Pr.upd{K:FG}{M:List Addr}{H:Hp}{m:Addr}{o o0:HO}(hm:m∈M)(h:H m=some o0)(h1:∀xs,o0≠.tup xs)(h2:∀o' xs,o0≠.frz o' (.tup xs)):Pr K M H (upd H m o):=⟨λc o n e=>by rw[a0f (λz=>n (by rw[z];exact hm))];exact e,KT.upd h h1 h2⟩
mutual
theorem Dm.pr{K:FG}{M:List Addr}{H H':Hp}(p:Pr K M H H'):∀{v:V}{d:PyData},Dm K H M v d->Dm K H' M v d
 |_,_,.non=>.non
 |_,_,.bl b=>.bl b
 |_,_,.int i=>.int i
 |_,_,.str x=>.str x
 |_,_,.tup h l=>.tup (p.kt _ _ h) (DmL.pr p l)
 |_,_,.lst h n l=>.lst (p.kp _ _ n h) n (DmL.pr p l)
theorem DmL.pr{K:FG}{M:List Addr}{H H':Hp}(p:Pr K M H H'):∀{v:List V}{d:List PyData},DmL K H M v d->DmL K H' M v d
 |_,_,.nil=>.nil
 |_,_,.cons h l=>.cons (Dm.pr p h) (DmL.pr p l)
end
mutual
theorem Dm.dx{K:FG}{M:List Addr}{H:Hp}:∀{v:V}{d:PyData},Dm K H M v d->Dx K H v d
 |_,_,.non=>.non
 |_,_,.bl b=>.bl b
 |_,_,.int i=>.int i
 |_,_,.str x=>.str x
 |_,_,.tup h l=>.tup h (DmL.dx l)
 |_,_,.lst h _ l=>.lst (SqL.of h) (DmL.dx l)
theorem DmL.dx{K:FG}{M:List Addr}{H:Hp}:∀{v:List V}{d:List PyData},DmL K H M v d->DxL K H v d
 |_,_,.nil=>.nil
 |_,_,.cons h l=>.cons (Dm.dx h) (DmL.dx l)
end
mutual
theorem Den.dm{K:FG}{M:List Addr}{H:Hp}:∀{v:V}{d:PyData},Den K H v d->Dm K H M v d
 |_,_,.non=>.non
 |_,_,.bl b=>.bl b
 |_,_,.int i=>.int i
 |_,_,.str x=>.str x
 |_,_,.tup h l=>.tup h (DenL.dm l)
theorem DenL.dm{K:FG}{M:List Addr}{H:Hp}:∀{v:List V}{d:List PyData},DenL K H v d->DmL K H M v d
 |_,_,.nil=>.nil
 |_,_,.cons h l=>.cons (Den.dm h) (DenL.dm l)
end
theorem DmL.append{K:FG}{M:List Addr}{H:Hp}:∀{us vs:List V}{ds es:List PyData},DmL K H M us ds->DmL K H M vs es->DmL K H M (us++vs) (ds++es)
 |_,_,_,_,.nil,l=>l
 |_,_,_,_,.cons h t,l=>.cons h (DmL.append t l)
theorem DmL.length{K:FG}{M:List Addr}{H:Hp}:∀{us:List V}{ds:List PyData},DmL K H M us ds->us.length=ds.length
 |_,_,.nil=>rfl
 |_,_,.cons _ l=>by rw[length_cons,length_cons,DmL.length l]
mutual
theorem b0r{K:FG}{M:List Addr}{H:Hp}:∀(t:Trm){v:V},Dm K H M v t.data↔Den K H v t.data
 | .num n,v=>⟨λh=>by cases h with|tup a b=>exact .tup a (by cases b with|cons c d=>cases c;cases d with|cons e f=>cases e;cases f;exact .cons (.str _) (.cons (.int _) .nil)),λh=>by cases h with|tup a b=>exact .tup a (by cases b with|cons c d=>cases c;cases d with|cons e f=>cases e;cases f;exact .cons (.str _) (.cons (.int _) .nil))⟩
 | .any n,v=>⟨λh=>by cases h with|tup a b=>exact .tup a (by cases b with|cons c d=>cases c;cases d with|cons e f=>cases e;cases f;exact .cons (.str _) (.cons (.str _) .nil)),λh=>by cases h with|tup a b=>exact .tup a (by cases b with|cons c d=>cases c;cases d with|cons e f=>cases e;cases f;exact .cons (.str _) (.cons (.str _) .nil))⟩
 | .app s ks,v=>⟨λh=>by
   cases h with
   |tup a b=>
    refine .tup a ?_;cases b with
    |cons c d=>
     cases c;cases d with
     |cons e f=>
      cases e;cases f with
      |cons g i=>
       cases i;cases g with
       |tup p q=>exact .cons (.str _) (.cons (.str _) (.cons (.tup p ((a5x ks).mp q)) .nil)),λh=>by
   cases h with
   |tup a b=>
    refine .tup a ?_;cases b with
    |cons c d=>
     cases c;cases d with
     |cons e f=>
      cases e;cases f with
      |cons g i=>
       cases i;cases g with
       |tup p q=>exact .cons (.str _) (.cons (.str _) (.cons (.tup p ((a5x ks).mpr q)) .nil))⟩
theorem a5x{K:FG}{M:List Addr}{H:Hp}:∀(ts:List Trm){us:List V},DmL K H M us (Trm.dataL ts)↔DenL K H us (Trm.dataL ts)
 | [],us=>⟨λh=>by cases h;exact .nil,λh=>by cases h;exact .nil⟩
 |t::r,us=>⟨λh=>by cases h with|cons a b=>exact .cons ((b0r t).mp a) ((a5x r).mp b),λh=>by cases h with|cons a b=>exact .cons ((b0r t).mpr a) ((a5x r).mpr b)⟩
end
theorem b4g{K:FG}{M:List Addr}{H:Hp}:∀(l:List Int){us:List V},DmL K H M us (l.map PyData.int)↔us=l.map V.int
 | [],us=>⟨λh=>by cases h;rfl,λh=>by rw[h];exact .nil⟩
 |i::r,us=>⟨λh=>by cases h with|cons a b=>cases a;rw[(b4g r).mp b];rfl,λh=>by rw[h];exact .cons (.int i) ((b4g r).mpr rfl)⟩
structure Rl where
 n:Nat
 head:Trm
 goals:List Trm
def Rl.data(x:Rl):PyData:=.tuple [.int (x.n:Int),x.head.data,.list (Trm.dataL x.goals)]
structure Wy where
 goal:Trm
 rules:List Rl
 todo:List (Trm×Nat)
 nums:List Int
 nt:Nat
abbrev Ans:=List (Str×Trm)×List Int
structure St where
 todo:List (Trm×Nat)
 nums:List Int
 rows:Rws
 left:List Wy
 us:Nat
 ct:Nat
 ans:List Ans
 en:Option PyData
noncomputable def tdE(x:Trm×Nat):PyData:=.tuple [x.1.data,.int (x.2:Int)]
def tdD(l:List (Trm×Nat)):PyData:=.list (l.map tdE)
def rlD(l:List Rl):PyData:=.list (l.map Rl.data)
def nbD(l:List Int):PyData:=.list (l.map PyData.int)
noncomputable def prE(x:Str×Trm):PyData:=.tuple [.str x.1,x.2.data]
noncomputable def anE(x:Ans):PyData:=.tuple [.list (x.1.map prE),nbD x.2]
def anD(l:List Ans):List PyData:=l.map anE
def enD:Option PyData->PyData
 |some d=>d
 |none=>.none
structure Cfg where
 tab:List (List Key×List Rl)
 bound:Int
 most:Int
 names:List Str
 asked:List Trm
structure RO where
 rl:Addr
 bd:Int
 ms:Int
 nm:Addr
 sk:Addr
 td:Addr
 nb:Addr
 pd:Addr
 nl:Addr
 lf:Addr
 nt:Addr
 us:Int
 ct:Int
 an:Addr
 en:V
noncomputable def roN:List Str:=[ofString "rules",ofString "bound",ofString "most",ofString "names",ofString "asked",ofString "todo",ofString "numbers",ofString "puts",ofString "noted",ofString "left",ofString "nots",ofString "uses",ofString "count",ofString "answers",ofString "end"]
noncomputable def RO.vs(o:RO):List V:=[.ref o.rl,.int o.bd,.int o.ms,.ref o.nm,.ref o.sk,.ref o.td,.ref o.nb,.ref o.pd,.ref o.nl,.ref o.lf,.ref o.nt,.int o.us,.int o.ct,.ref o.an,o.en]
def RO.fs(o:RO):List (Str×V):=roN.zip o.vs
theorem RO.nms(o:RO):o.fs.map (·.1)=roN:=rfl
noncomputable def wyN:List Str:=[ofString "goal",ofString "rules",ofString "todo",ofString "numbers",ofString "noted_then"]
noncomputable def wyF(g r t n:V)(k:Int):List (Str×V):=wyN.zip [g,r,t,n,.int k]
def WyAt(K:W.Frag)(CW:Addr)(H:Hp)(M:List Addr)(v:V)(w:Wy):Prop:=∃a dw g r t n,v=.ref a/\H a=some (.ins CW dw (wyF g r t n (w.nt:Int)))/\a∉M/\Den K H g w.goal.data/\Dm K H M r (rlD w.rules)/\Dm K H M t (tdD w.todo)/\Dm K H M n (nbD w.nums)
theorem WyAt.pr{K:FG}{CW:Addr}{H H':Hp}{M:List Addr}{v:V}{w:Wy}(h:WyAt K CW H M v w)(p:Pr K M H H'):WyAt K CW H' M v w:=by
 obtain⟨a,dw,g,r,t,n,e,h1,h2,h3,h4,h5,h6⟩:=h;exact⟨a,dw,g,r,t,n,e,p.kp _ _ h2 h1,h2,h3.monoT p.kt,h4.pr p,h5.pr p,h6.pr p⟩
def Tab(K:W.Frag)(H:Hp)(M:List Addr)(kvs:List (List Key×V))(tab:List (List Key×List Rl)):Prop:=Paired (λ(p:List Key×V) (q:List Key×List Rl)=>p.1=q.1/\Dm K H M p.2 (rlD q.2)) kvs tab
def a1x:List (List Key×List Rl)->List Key->List Rl
 | [],_=>[]
 | (k',r)::rest,k=>if k'=k then r else a1x rest k
structure a0y(K:W.Frag)(CR CW:Addr)(H0 H:Hp)(r dx:Addr)(o:RO)(G:Cfg)(s:St):Prop where
 sm:Same H0 H
 ob:H r=some (.ins CR dx o.fs)
 f1:H0 r=none
 f2:H0 o.pd=none
 f3:H0 o.nl=none
 f4:H0 o.lf=none
 f5:H0 o.an=none
 d1:o.nl≠o.lf
 d2:o.nl≠o.an
 d3:o.lf≠o.an
 rls:∃kvs,H o.rl=some (.dT kvs)/\Tab K H [r,o.pd,o.nl,o.lf,o.an] kvs G.tab
 bd:o.bd=G.bound
 ms:o.ms=G.most
 nm:H o.nm=some (.lst (G.names.map V.str))/\o.nm∉[r,o.pd,o.nl,o.lf,o.an]
 sk:Dm K H [r,o.pd,o.nl,o.lf,o.an] (.ref o.sk) (.list (Trm.dataL G.asked))
 td:Dm K H [r,o.pd,o.nl,o.lf,o.an] (.ref o.td) (tdD s.todo)
 nb:Dm K H [r,o.pd,o.nl,o.lf,o.an] (.ref o.nb) (nbD s.nums)
 put:a2i K H o.pd s.rows
 note:H o.nl=some (.lst (My.nms s.rows))
 left:∃us,H o.lf=some (.lst us)/\Paired (WyAt K CW H [r,o.pd,o.nl,o.lf,o.an]) us s.left
 ans:∃us,H o.an=some (.lst us)/\DmL K H [r,o.pd,o.nl,o.lf,o.an] us (anD s.ans)
 us:o.us=(s.us:Int)
 ct:o.ct=(s.ct:Int)
 en:Dm K H [r,o.pd,o.nl,o.lf,o.an] o.en (enD s.en)
abbrev RO.M(o:RO)(r:Addr):List Addr:=[r,o.pd,o.nl,o.lf,o.an]
structure Bd(s:St):Prop where
 t:s.todo.length<=900
 n:s.nums.length<=900
 r:s.rows.length<=900
 l:s.left.length<=900
 a:s.ans.length<=900
 u:s.us<=1000000
 z:∀x∈s.rows,x.2.size<=60
section
variable{o:RO}
theorem d3i:o.fs.lookup (ofString "rules")=some (.ref o.rl):=a2h (i:=0) (by rw[RO.nms];decide+kernel) rfl
theorem d3j:o.fs.lookup (ofString "bound")=some (.int o.bd):=a2h (i:=1) (by rw[RO.nms];decide+kernel) rfl
theorem rg_most:o.fs.lookup (ofString "most")=some (.int o.ms):=a2h (i:=2) (by rw[RO.nms];decide+kernel) rfl
theorem d3k:o.fs.lookup (ofString "names")=some (.ref o.nm):=a2h (i:=3) (by rw[RO.nms];decide+kernel) rfl
theorem c2k:o.fs.lookup (ofString "asked")=some (.ref o.sk):=a2h (i:=4) (by rw[RO.nms];decide+kernel) rfl
theorem b0s:o.fs.lookup (ofString "todo")=some (.ref o.td):=a2h (i:=5) (by rw[RO.nms];decide+kernel) rfl
theorem a8c:o.fs.lookup (ofString "numbers")=some (.ref o.nb):=a2h (i:=6) (by rw[RO.nms];decide+kernel) rfl
theorem b0t:o.fs.lookup (ofString "puts")=some (.ref o.pd):=a2h (i:=7) (by rw[RO.nms];decide+kernel) rfl
theorem b1z:o.fs.lookup (ofString "noted")=some (.ref o.nl):=a2h (i:=8) (by rw[RO.nms];decide+kernel) rfl
theorem b0u:o.fs.lookup (ofString "left")=some (.ref o.lf):=a2h (i:=9) (by rw[RO.nms];decide+kernel) rfl
theorem b8s:o.fs.lookup (ofString "uses")=some (.int o.us):=a2h (i:=11) (by rw[RO.nms];decide+kernel) rfl
theorem b5t:o.fs.lookup (ofString "count")=some (.int o.ct):=a2h (i:=12) (by rw[RO.nms];decide+kernel) rfl
theorem b2a:o.fs.lookup (ofString "answers")=some (.ref o.an):=a2h (i:=13) (by rw[RO.nms];decide+kernel) rfl
theorem c9x:o.fs.lookup (ofString "end")=some o.en:=a2h (i:=14) (by rw[RO.nms];decide+kernel) rfl
theorem b8t{a:Addr}:putF (ofString "todo") (.ref a) o.fs={ o with td:=a}.fs:=(a7c (i:=5) (by rw[RO.nms];decide+kernel)).trans rfl
theorem b2b{a:Addr}:putF (ofString "numbers") (.ref a) o.fs={ o with nb:=a}.fs:=(a7c (i:=6) (by rw[RO.nms];decide+kernel)).trans rfl
theorem rp_uses{i:Int}:putF (ofString "uses") (.int i) o.fs={ o with us:=i}.fs:=(a7c (i:=11) (by rw[RO.nms];decide+kernel)).trans rfl
theorem d3l{i:Int}:putF (ofString "count") (.int i) o.fs={ o with ct:=i}.fs:=(a7c (i:=12) (by rw[RO.nms];decide+kernel)).trans rfl
theorem rp_end{v:V}:putF (ofString "end") v o.fs={ o with en:=v}.fs:=(a7c (i:=14) (by rw[RO.nms];decide+kernel)).trans rfl
theorem a4m{f:Str}(h:roN.all (λg=>!(f==g))=true):o.fs.lookup f=none:=c9w (by rw[RO.nms];exact h)
end
section
variable{g r t n:V}{k:Int}
theorem c5a:(wyF g r t n k).lookup (ofString "goal")=some g:=a2h (i:=0) (by show wyN.findIdx? _=_;decide+kernel) rfl
theorem b2c:(wyF g r t n k).lookup (ofString "rules")=some r:=a2h (i:=1) (by show wyN.findIdx? _=_;decide+kernel) rfl
theorem wg_todo:(wyF g r t n k).lookup (ofString "todo")=some t:=a2h (i:=2) (by show wyN.findIdx? _=_;decide+kernel) rfl
theorem c6e:(wyF g r t n k).lookup (ofString "numbers")=some n:=a2h (i:=3) (by show wyN.findIdx? _=_;decide+kernel) rfl
theorem c0o:(wyF g r t n k).lookup (ofString "noted_then")=some (.int k):=a2h (i:=4) (by show wyN.findIdx? _=_;decide+kernel) rfl
end
theorem Tab.pr{K:FG}{M:List Addr}{H H':Hp}(p:Pr K M H H'){kvs:List (List Key×V)}{tab:List (List Key×List Rl)}(h:Tab K H M kvs tab):Tab K H' M kvs tab:=Paired.mapP h λ_ _ z=>⟨z.1,z.2.pr p⟩
section
variable{K:W.Frag}{CR CW:Addr}{H0 H H':Hp}{r dx:Addr}{o:RO}{G:Cfg}{s:St}
theorem a0y.next(h:a0y K CR CW H0 H r dx o G s)(p:Pr K (o.M r) H H')(sm:Same H0 H'){td' nb':Addr}{us' ct':Int}{en':V}{s':St}(ob:H' r=some (.ins CR dx { o with td:=td',nb:=nb',us:=us',ct:=ct',en:=en'}.fs))
  (td:Dm K H' (o.M r) (.ref td') (tdD s'.todo))(nb:Dm K H' (o.M r) (.ref nb') (nbD s'.nums))(put:a2i K H' o.pd s'.rows)(note:H' o.nl=some (.lst (nms s'.rows)))(left:∃us,H' o.lf=some (.lst us)/\Paired (WyAt K CW H' (o.M r)) us s'.left)
  (ans:∃us,H' o.an=some (.lst us)/\DmL K H' (o.M r) us (anD s'.ans))(us:us'=(s'.us:Int))(ct:ct'=(s'.ct:Int))(en:Dm K H' (o.M r) en' (enD s'.en)):a0y K CR CW H0 H' r dx { o with td:=td',nb:=nb',us:=us',ct:=ct',en:=en'} G s':=by
 obtain⟨kvs,k1,k2⟩:=h.rls;have nrl:o.rl∉o.M r:=λz=>by
  obtain⟨e1,e2,e3⟩:=h.put.ex;obtain⟨u1,l1,_⟩:=h.left;obtain⟨u2,a1,_⟩:=h.ans;simp only[RO.M,Zu,Z6,Xm]at z;rcases z with z|z|z|z|z<;>rw[z]at k1
  ·rw[h.ob]at k1;cases k1
  ·rw[e2]at k1;cases k1
  ·rw[h.note]at k1;cases k1
  ·rw[l1]at k1;cases k1
  ·rw[a1]at k1;cases k1
 exact⟨sm,ob,h.f1,h.f2,h.f3,h.f4,h.f5,h.d1,h.d2,h.d3,⟨kvs,p.kp _ _ nrl k1,k2.pr p⟩,h.bd,h.ms,⟨p.kp _ _ h.nm.2 h.nm.1,h.nm.2⟩,h.sk.pr p,td,nb,put,note,left,ans,us,ct,en⟩
theorem a0y.lefts(h:a0y K CR CW H0 H r dx o G s)(p:Pr K (o.M r) H H')(e:H' o.lf=H o.lf):∃us,H' o.lf=some (.lst us)/\Paired (WyAt K CW H' (o.M r)) us s.left:=by
 obtain⟨us,h1,h2⟩:=h.left;exact⟨us,e.trans h1,Paired.mapP h2 λ_ _ z=>z.pr p⟩
theorem a0y.anss(h:a0y K CR CW H0 H r dx o G s)(p:Pr K (o.M r) H H')(e:H' o.an=H o.an):∃us,H' o.an=some (.lst us)/\DmL K H' (o.M r) us (anD s.ans):=by
 obtain⟨us,h1,h2⟩:=h.ans;exact⟨us,e.trans h1,h2.pr p⟩
theorem a0y.puts(h:a0y K CR CW H0 H r dx o G s)(p:Pr K (o.M r) H H')(e:H' o.pd=H o.pd):a2i K H' o.pd s.rows:=by
 obtain⟨kvs,h1,h2⟩:=h.put.ex;exact⟨kvs,e.trans h1,h2.monoT p.kt⟩
theorem a0y.same(h:a0y K CR CW H0 H r dx o G s)(sm:Same H H'):a0y K CR CW H0 H' r dx o G s:=by
 have p:Pr K (o.M r) H H':=.same sm;obtain⟨e1,e2,_⟩:=h.put.ex;obtain⟨u1,l1,_⟩:=h.left;obtain⟨u2,a1,_⟩:=h.ans;exact h.next p (h.sm.trans sm) (sm _ _ h.ob) (h.td.pr p) (h.nb.pr p) (h.put.mono sm) (sm _ _ h.note) (h.lefts p ((sm _ _ l1).trans l1.symm)) (h.anss p ((sm _ _ a1).trans a1.symm)) h.us h.ct (h.en.pr p)
theorem a0y.setr(h:a0y K CR CW H0 H r dx o G s){td' nb':Addr}{us' ct':Int}{en':V}{s':St}(td:Dm K H (o.M r) (.ref td') (tdD s'.todo))(nb:Dm K H (o.M r) (.ref nb') (nbD s'.nums))(us:us'=(s'.us:Int))(ct:ct'=(s'.ct:Int))(en:Dm K H (o.M r) en' (enD s'.en))(e1:s'.rows=s.rows)(e2:s'.left=s.left)(e3:s'.ans=s.ans):
  a0y K CR CW H0 (upd H r (.ins CR dx { o with td:=td',nb:=nb',us:=us',ct:=ct',en:=en'}.fs)) r dx { o with td:=td',nb:=nb',us:=us',ct:=ct',en:=en'} G s'/\Pr K (o.M r) H (upd H r (.ins CR dx { o with td:=td',nb:=nb',us:=us',ct:=ct',en:=en'}.fs)):=by
 have p:Pr K (o.M r) H (upd H r (.ins CR dx { o with td:=td',nb:=nb',us:=us',ct:=ct',en:=en'}.fs)):=.upd (Yd ..) h.ob (λ_ z=>by cases z) (λ_ _ z=>by cases z);obtain⟨g1,g2,_⟩:=h.put.ex;obtain⟨u1,l1,_⟩:=h.left;obtain⟨u2,a1,_⟩:=h.ans;refine⟨h.next p (a1c h.sm h.f1) a0c (td.pr p) (nb.pr p) ?_ ?_ ?_ ?_ us ct (en.pr p),p⟩
 ·rw[e1];exact h.puts p (a0f (a1a g2 h.ob (λz=>by cases z)))
 ·rw[e1,a0f (a1a h.note h.ob (λz=>by cases z))];exact h.note
 ·rw[e2];exact h.lefts p (a0f (a1a l1 h.ob (λz=>by cases z)))
 ·rw[e3];exact h.anss p (a0f (a1a a1 h.ob (λz=>by cases z)))
theorem a0y.setl(h:a0y K CR CW H0 H r dx o G s){us:List V}{l:List Wy}(w:Paired (WyAt K CW H (o.M r)) us l):a0y K CR CW H0 (upd H o.lf (.lst us)) r dx o G { s with left:=l}/\Pr K (o.M r) H (upd H o.lf (.lst us)):=by
 obtain⟨g1,g2,_⟩:=h.put.ex;obtain⟨u1,l1,_⟩:=h.left;obtain⟨u2,a1,_⟩:=h.ans;have p:Pr K (o.M r) H (upd H o.lf (.lst us)):=.upd (by simp[RO.M]) l1 (λ_ z=>by cases z) (λ_ _ z=>by cases z);refine⟨h.next (s':={ s with left:=l}) p (a1c h.sm h.f4) ?_ (h.td.pr p) (h.nb.pr p) (h.puts p (a0f (a1a g2 l1 (λz=>by cases z)))) ?_ ⟨us,a0c,Paired.mapP w λ_ _ z=>z.pr p⟩ (h.anss p (a0f h.d3.symm)) h.us h.ct (h.en.pr p),p⟩
 ·rw[a0f (a1a h.ob l1 (λz=>by cases z))];exact h.ob
 ·rw[a0f h.d1];exact h.note
theorem a0y.seta(h:a0y K CR CW H0 H r dx o G s){us:List V}{l:List Ans}(w:DmL K H (o.M r) us (anD l)):a0y K CR CW H0 (upd H o.an (.lst us)) r dx o G { s with ans:=l}/\Pr K (o.M r) H (upd H o.an (.lst us)):=by
 obtain⟨g1,g2,_⟩:=h.put.ex;obtain⟨u1,l1,_⟩:=h.left;obtain⟨u2,a1,_⟩:=h.ans;have p:Pr K (o.M r) H (upd H o.an (.lst us)):=.upd (by simp[RO.M]) a1 (λ_ z=>by cases z) (λ_ _ z=>by cases z);refine⟨h.next (s':={ s with ans:=l}) p (a1c h.sm h.f5) ?_ (h.td.pr p) (h.nb.pr p) (h.puts p (a0f (a1a g2 a1 (λz=>by cases z)))) ?_ (h.lefts p (a0f h.d3)) ⟨us,a0c,w.pr p⟩ h.us h.ct (h.en.pr p),p⟩
 ·rw[a0f (a1a h.ob a1 (λz=>by cases z))];exact h.ob
 ·rw[a0f h.d2];exact h.note
theorem a0y.setp(h:a0y K CR CW H0 H r dx o G s){q:Rws}(k:Kp2 o.pd o.nl H H')(kt:KT K H H')(put:a2i K H' o.pd q)(note:H' o.nl=some (.lst (nms q))):a0y K CR CW H0 H' r dx o G { s with rows:=q}/\Pr K (o.M r) H H':=by
 obtain⟨g1,g2,_⟩:=h.put.ex;obtain⟨u1,l1,_⟩:=h.left;obtain⟨u2,a1,_⟩:=h.ans;have p:Pr K (o.M r) H H':=⟨λa ob n e=>k a ob (λz=>n (by rw[z];simp[RO.M])) (λz=>n (by rw[z];simp[RO.M])) e,kt⟩;refine⟨h.next (s':={ s with rows:=q}) p (λa ob e=>k a ob (a0w e h.f2) (a0w e h.f3) (h.sm _ _ e)) ?_ (h.td.pr p) (h.nb.pr p) put note (h.lefts p ?_) (h.anss p ?_) h.us h.ct (h.en.pr p),p⟩
 ·exact k _ _ (a1a h.ob g2 (λz=>by cases z)) (a1a h.ob h.note (λz=>by cases z)) h.ob
 ·rw[l1];exact k _ _ (a1a l1 g2 (λz=>by cases z)) h.d1.symm l1
 ·rw[a1];exact k _ _ (a1a a1 g2 (λz=>by cases z)) h.d2.symm a1
end
theorem rp_left{o:RO}{a:Addr}:putF (ofString "left") (.ref a) o.fs={ o with lf:=a}.fs:=(a7c (i:=9) (by rw[RO.nms];decide+kernel)).trans rfl
mutual
theorem Dm.onto{K:FG}{M M':List Addr}{H:Hp}(n:∀m∈M',m∈M\/H m=none):∀{v:V}{d:PyData},Dm K H M v d->Dm K H M' v d
 |_,_,.non=>.non
 |_,_,.bl b=>.bl b
 |_,_,.int i=>.int i
 |_,_,.str x=>.str x
 |_,_,.tup h l=>.tup h (DmL.onto n l)
 |_,_,.lst h a l=>.lst h (λz=>(n _ z).elim a (λe=>by rw[e]at h;cases h)) (DmL.onto n l)
theorem DmL.onto{K:FG}{M M':List Addr}{H:Hp}(n:∀m∈M',m∈M\/H m=none):∀{v:List V}{d:List PyData},DmL K H M v d->DmL K H M' v d
 |_,_,.nil=>.nil
 |_,_,.cons h l=>.cons (Dm.onto n h) (DmL.onto n l)
end
theorem WyAt.onto{K:FG}{CW:Addr}{H:Hp}{M M':List Addr}(n:∀m∈M',m∈M\/H m=none){v:V}{w:Wy}(h:WyAt K CW H M v w):WyAt K CW H M' v w:=by
 obtain⟨a,dw,g,r,t,m,e,h1,h2,h3,h4,h5,h6⟩:=h;exact⟨a,dw,g,r,t,m,e,h1,λz=>(n _ z).elim h2 (λe=>by rw[e]at h1;cases h1),h3,h4.onto n,h5.onto n,h6.onto n⟩
section
variable{K:W.Frag}{CR CW:Addr}{H0 H H':Hp}{r dx:Addr}{o:RO}{G:Cfg}{s:St}
theorem a0y.newl(h:a0y K CR CW H0 H r dx o G s){p:Addr}(hp:H p=none){us:List V}{l:List Wy}(w:Paired (WyAt K CW H (o.M r)) us l):
  a0y K CR CW H0 (upd (upd H p (.lst us)) r (.ins CR dx { o with lf:=p}.fs)) r dx { o with lf:=p} G { s with left:=l}:=by
 obtain⟨g1,g2,g3⟩:=h.put.ex;obtain⟨u2,a1,a2⟩:=h.ans;obtain⟨kvs,k1,k2⟩:=h.rls;have nrl:o.rl∉o.M r:=λz=>by
  obtain⟨u1,l1,_⟩:=h.left;simp only[RO.M,Zu,Z6,Xm]at z;rcases z with z|z|z|z|z<;>rw[z]at k1
  ·rw[h.ob]at k1;cases k1
  ·rw[g2]at k1;cases k1
  ·rw[h.note]at k1;cases k1
  ·rw[l1]at k1;cases k1
  ·rw[a1]at k1;cases k1
 have n:∀m∈[r,o.pd,o.nl,p,o.an],m∈o.M r\/H m=none:=λm hm=>by
  simp only[Zu,Z6,Xm]at hm;rcases hm with z|z|z|z|z
  ·exact .inl (by rw[z];simp[RO.M])
  ·exact .inl (by rw[z];simp[RO.M])
  ·exact .inl (by rw[z];simp[RO.M])
  ·exact .inr (by rw[z];exact hp)
  ·exact .inl (by rw[z];simp[RO.M])
 have nn:∀a ob,a∉o.M r->H a=some ob->a∉[r,o.pd,o.nl,p,o.an]:=λa ob na e z=>(n a z).elim na λq=>by rw[q]at e;cases e
 have np:∀{a:Addr}{ob:HO},H a=some ob->a≠p:=λe z=>by rw[z,hp]at e;cases e
 have hrp:(upd H p (.lst us)) r=some (.ins CR dx o.fs):=by rw[a0f (np h.ob)];exact h.ob
 have pr:Pr K [r,o.pd,o.nl,p,o.an] H (upd (upd H p (.lst us)) r (.ins CR dx { o with lf:=p}.fs)):=by
  refine⟨λa ob na e=>?_,(KT.same (a0h hp _)).trans (KT.upd hrp (λ_ z=>by cases z) (λ_ _ z=>by cases z))⟩;rw[a0f (λz=>na (by rw[z];simp)),a0f (np e)];exact e
 have keep:∀{a:Addr}{ob:HO},H a=some ob->a≠r->(upd (upd H p (.lst us)) r (.ins CR dx { o with lf:=p}.fs)) a=some ob:=λe z=>by
  rw[a0f z,a0f (np e)];exact e
 have eo:o.an≠r:=a1a a1 h.ob (λz=>by cases z);refine⟨?_,a0c,h.f1,h.f2,h.f3,?_,h.f5,np h.note,h.d2,(np a1).symm,⟨kvs,pr.kp _ _ (nn _ _ nrl k1) k1,?_⟩,h.bd,h.ms,⟨pr.kp _ _ (nn _ _ h.nm.2 h.nm.1) h.nm.1,nn _ _ h.nm.2 h.nm.1⟩,(h.sk.onto n).pr pr,(h.td.onto n).pr pr,(h.nb.onto n).pr pr,⟨g1,keep g2 (a1a g2 h.ob (λz=>by cases z)),g3.monoT pr.kt⟩,keep h.note (a1a h.note h.ob (λz=>by cases z)),⟨us,?_,Paired.mapP w λ_ _ z=>(z.onto n).pr pr⟩,⟨u2,keep a1 eo,(a2.onto n).pr pr⟩,h.us,h.ct,(h.en.onto n).pr pr⟩
 ·exact a1c (h.sm.trans (a0h hp _)) h.f1
 ·cases e:H0 p with
  |none=>rfl
  |some ob=>have:=h.sm _ _ e;rw[hp]at this;cases this
 ·exact Paired.mapP k2 λ_ _ z=>⟨z.1,(z.2.onto n).pr pr⟩
 ·rw[a0f (λz=>np h.ob z.symm),a0c]
end
noncomputable def askS(G:Cfg)(s:St)(w:Str)(ks:List Trm):St:=if(a1x G.tab (nd w ks.length)).isEmpty=true then s else{ s with left:=s.left++[⟨.app w ks,a1x G.tab (nd w ks.length),s.todo,s.nums,s.rows.length⟩]}
noncomputable def tryS(s:St)(w:Wy)(x:Rl)(rest:List Rl)(ok:Bool)(q:Rws):St:=
 { s with left:=if rest.isEmpty=true then s.left else s.left++[⟨w.goal,rest,s.todo,s.nums,s.rows.length⟩],us:=s.us+1,rows:=q,todo:=if ok=true then x.goals.map (λg=>(ren (mrk (s.us+1)) g,s.left.length))++s.todo else s.todo,nums:=if ok=true then s.nums++[(x.n:Int)]else s.nums}
structure RlOk(x:Rl):Prop where
 h1:x.head.size<=60
 h2:∀y∈vars x.head,y.length<=1000
 g0:x.goals.length<=20
 g1:∀g∈x.goals,g.size<=60
 g2:∀g∈x.goals,∀y∈vars g,y.length<=1000
abbrev b4u(CW:Addr):Sp:=λvs H Q _=>aR vs λa vs=>aV vs λg vs=>aV vs λr vs=>aV vs λt vs=>aV vs λn vs=>aI vs λk vs=>aE vs (∃dw,H a=some (.ins CW dw [])/\∀H',But a H H'->H' a=some (.ins CW dw (wyF g r t n k))->Q .non H')
abbrev a4n(K:W.Frag)(CR CW:Addr):Sp:=λvs H Q _=>aR vs λr vs=>aV vs λv vs=>aE vs (∃H0 dx o G s d,a0y K CR CW H0 H r dx o G s/\Dm K H (o.M r) v d/\∀H',a0y K CR CW H0 H' r dx { o with en:=v} G { s with en:=some d}->Q (.bl false) H')
abbrev a8t(K:W.Frag)(CR CW:Addr):Sp:=λvs H Q _=>aR vs λr vs=>aV vs λgv vs=>aV vs λrv vs=>aE vs (∃H0 dx o G s goal rules,a0y K CR CW H0 H r dx o G s/\Bd s/\Den K H gv (Trm.data goal)/\Dm K H (o.M r) rv (rlD rules)/\∀H',Pr K (o.M r) H H'->a0y K CR CW H0 H' r dx o G { s with left:=s.left++[⟨goal,rules,s.todo,s.nums,s.rows.length⟩]}->Q .non H')
abbrev a8u(K:W.Frag)(CR CW:Addr):Sp:=λvs H Q _=>aR vs λr vs=>aV vs λgv vs=>aE vs (∃H0 dx o G s w ks,a0y K CR CW H0 H r dx o G s/\Bd s/\Den K H gv (Trm.app w ks).data/\∀H',a0y K CR CW H0 H' r dx o G (askS G s w ks)->Q (.bl false) H')
abbrev a9j(K:W.Frag)(CR CW:Addr):Sp:=λvs H Q _=>aR vs λr vs=>aV vs λv vs=>aV vs λv' vs=>aE vs (∃H0 dx o G s t t' ok q c,a0y K CR CW H0 H r dx o G s/\Den K H v (Trm.data t)/\Den K H v' (Trm.data t')/\Un true s.rows [(t,t')] ok q c/\∀H',Pr K (o.M r) H H'->a0y K CR CW H0 H' r dx o G { s with rows:=q}->Q (.bl ok) H')
abbrev a9k(K:W.Frag)(CR CW:Addr):Sp:=λvs H Q _=>aR vs λr vs=>aV vs λwv vs=>aE vs (∃H0 dx o G s w x rest ok q c,a0y K CR CW H0 H r dx o G s/\Bd s/\WyAt K CW H (o.M r) wv w/\w.rules=x::rest/\RlOk x/\w.rules.length<=900/\Un true s.rows [(ren (mrk (s.us+1)) x.head,w.goal)] ok q c/\∀td' nb' us' H',a0y K CR CW H0 H' r dx { o with td:=td',nb:=nb',us:=us'} G (tryS s w x rest ok q)->Q (.bl ok) H')
theorem c5b{K:FG}{H:Hp}{M:List Addr}:∀{kvs:List (List Key×V)}{tab:List (List Key×List Rl)},Tab K H M kvs tab->∀k,(valV kvs k=none/\a1x tab k=[])\/∃v,valV kvs k=some v/\Dm K H M v (rlD (a1x tab k))
 |_,_,.nil,k=>.inl ⟨rfl,rfl⟩
 | (k1,v1)::kvs,(k2,r2)::tab,.cons ⟨e,d⟩ h,k=>by
  have e:k1=k2:=e;subst e
  by_cases c:k1=k
  ·refine .inr ⟨v1,?_,?_⟩
   ·unfold valV;rw[Vv (by exact Ye c)];rfl
   ·rw[a1x,if_pos c];exact d
  ·have e1:valV ((k1,v1)::kvs) k=valV kvs k:=by
    unfold valV;rw[Vw (by simpa using c)]
   rw[e1,a1x,if_neg c];exact c5b h k
theorem b8u{K:FG}{H:Hp}{M:List Addr}{v:V}{l:List Rl}(h:Dm K H M v (rlD l)):∃a us,v=.ref a/\H a=some (.lst us)/\a∉M/\DmL K H M us (l.map Rl.data):=by
 cases h with
 |lst h1 h2 h3=>exact⟨_,_,rfl,h1,h2,h3⟩
theorem c5c(rows:Rws):(nms rows).length=rows.length:=by unfold nms;exact length_map ..
theorem a0y.notM{K:FG}{CR CW:Addr}{H0 H:Hp}{r dx a:Addr}{o:RO}{G:Cfg}{s:St}(h:a0y K CR CW H0 H r dx o G s)(ha:H a=none):a∉o.M r:=λz=>by
 obtain⟨g1,g2,_⟩:=h.put.ex;obtain⟨u1,l1,_⟩:=h.left;obtain⟨u2,a1,_⟩:=h.ans;simp only[RO.M,Zu,Z6,Xm]at z;rcases z with z|z|z|z|z<;>rw[z]at ha
 ·rw[h.ob]at ha;cases ha
 ·rw[g2]at ha;cases ha
 ·rw[h.note]at ha;cases ha
 ·rw[l1]at ha;cases ha
 ·rw[a1]at ha;cases ha
theorem rl_tup{K:FG}{H:Hp}{M:List Addr}{v:V}{x:Rl}(h:Dm K H M v x.data):∃a hv gl ug,v=.ref a/\SqT K H a [.int (x.n:Int),hv,.ref gl]/\Den K H hv x.head.data/\H gl=some (.lst ug)/\gl∉M/\DenL K H ug (Trm.dataL x.goals):=by
 cases h with
 |tup h1 h2=>
  cases h2 with
  |cons a b=>
   cases a;cases b with
   |cons c d=>
    cases d with
    |cons e f=>
     cases f;cases e with
     |lst p q r=>exact⟨_,_,_,_,rfl,h1,(b0r _).mp c,p,q,(a5x _).mp r⟩
theorem c5d{K:FG}{H:Hp}{M:List Addr}{a:Addr}{l:List (Trm×Nat)}(h:Dm K H M (.ref a) (tdD l)):∃us,H a=some (.lst us)/\a∉M/\DmL K H M us (l.map tdE):=by
 cases h with
 |lst h1 h2 h3=>exact⟨_,h1,h2,h3⟩
theorem b4h{K:FG}{H:Hp}{M:List Addr}{a:Addr}{l:List Int}(h:Dm K H M (.ref a) (nbD l)):H a=some (.lst (l.map V.int))/\a∉M:=by
 cases h with
 |lst h1 h2 h3=>rw[(b4g l).mp h3]at h1;exact⟨h1,h2⟩
theorem b7k{K:FG}{H:Hp}{M:List Addr}{a:Addr}{l:List Int}(h:H a=some (.lst (l.map V.int)))(n:a∉M):Dm K H M (.ref a) (nbD l):=.lst h n ((b4g l).mpr rfl)
theorem c9y{K:FG}{H:Hp}{M:List Addr}{v:V}{l:List Int}(h:Dm K H M v (nbD l)):∃a,v=.ref a:=by
 cases h with
 |lst h1 h2 h3=>exact⟨_,rfl⟩
theorem td_ref{K:FG}{H:Hp}{M:List Addr}{v:V}{l:List (Trm×Nat)}(h:Dm K H M v (tdD l)):∃a,v=.ref a:=by
 cases h with
 |lst h1 h2 h3=>exact⟨_,rfl⟩
theorem b9y{K:FG}{H:Hp}:∀{kvs:List (Key×V)}{rows:Rws}{x:Str}{t:Trm},a1z K H kvs (rows++[(x,t)])->x∉rows.map (·.1)->a1z K H (a4l kvs (Sum.inr x)) rows/\∃v,valV kvs (Sum.inr x)=some v
 |_,[],x,t,h,_=>by
  cases h with
  | @cons p _ _ _ a b=>
   cases b;have e:p.1=Sum.inr x:=a.1;refine⟨?_,p.2,?_⟩
   ·rw[c7s e];exact .nil
   ·unfold valV;rw[Vv (by exact Ye e)];rfl
 |_,r::rows,x,t,h,hn=>by
  cases h with
  | @cons p _ _ _ a b=>
   have hx:x∉rows.map (·.1):=λz=>hn (by rw[Z5];exact Zx _ z)
   have hr:r.1≠x:=λz=>hn (by rw[Z5,z];exact Yd ..)
   have e:¬p.1=Sum.inr x:=λz=>hr (by have:=a.1;rw[z]at this;exact(Uq this).symm)
   obtain⟨c,v,d⟩:=b9y b hx;refine⟨?_,v,?_⟩
   ·rw[c7t e];exact .cons a c
   ·unfold valV at d ⊢;rw[Vw (by simpa using e)];exact d
abbrev allS:Str:=ofString "all"
abbrev c9z:Str:=ofString "spent"
abbrev c5e:Str:=ofString "enough"
def endT(x:Str):PyData:=.tuple [.str x]
inductive Back(G:Cfg):St->Bool->St->Prop
 |all {s:St}:s.left=[]->Back G s false { s with en:=some (endT allS)}
 |try_ {s:St} {l:List Wy} {w:Wy} {x:Rl} {rest:List Rl} {ok:Bool} {q:Rws} {c:Nat}:s.left=l++[w]->Bd s->(s.rows.map (·.1)).Nodup->w.rules=x::rest->w.rules.length<=900->RlOk x->w.nt<=s.rows.length->w.todo.length<=900->w.nums.length<=900->
   Un true (s.rows.take w.nt) [(ren (mrk (s.us+1)) x.head,w.goal)] ok q c->Back G s ok (tryS { s with left:=l,rows:=s.rows.take w.nt,todo:=w.todo,nums:=w.nums} w x rest ok q)
abbrev b0v(K:W.Frag)(CR CW:Addr):Sp:=λvs H Q _=>aR vs λr vs=>aE vs (∃H0 dx o G s b s',a0y K CR CW H0 H r dx o G s/\Back G s b s'/\∀td' nb' us' ct' en' H',a0y K CR CW H0 H' r dx { o with td:=td',nb:=nb',us:=us',ct:=ct',en:=en'} G s'->Q (.bl b) H')
theorem b4i(v:V)(us:List V):atI (v::us) 0=some v:=by
 obtain⟨w1,w2,w3⟩:=a5k (xs:=v::us) (i:=0) qd (by rw[length_cons];omega);rw[w2,<-w3];rfl
theorem b4v{α β:Type}{F:α->β->Prop}:∀{xs:List α}{ys:List β}{y:β},Paired F xs (ys++[y])->∃xs' x,xs=xs'++[x]/\Paired F xs' ys/\F x y
 |_,[],y,.cons a .nil=>⟨[],_,rfl,.nil,a⟩
 |_,_::ys,y,.cons a b=>by
  obtain⟨xs',x,e,h1,h2⟩:=b4v b;exact⟨_::xs',x,by rw[e];rfl,.cons a h1,h2⟩
def sumU(ts:List Trm):Int:=(ts.map λt=>upTo t.size 40).sum
theorem c5f:∀{ts:List Trm},Trm.sizeL ts<=40->sumU ts=(Trm.sizeL ts:Int)
 | [],_=>rfl
 |t::r,h=>by
  rw[Trm.sizeL]at h;have ih:=c5f (ts:=r) qo;unfold sumU at ih ⊢;rw[Z5,List.sum_cons,ih,upTo,if_pos qo,Trm.sizeL];omega
abbrev a7x(K:W.Frag):Sp:=λvs H Q _=>aR vs λa vs=>aR vs λpd vs=>aE vs (∃(us:List V)(ts ts':List Trm)(rows:Rws),SqL K H a us/\DenL K H us (Trm.dataL ts)/\a2i K H pd rows/\a2q rows ts ts'/\(∀t∈ts,t.size<=70)/\(∀r∈rows,r.2.size<=70)/\ts.length<=100/\∀H',Same H H'->Q (.int (sumU ts')) H')
structure GOk(G:Cfg):Prop where
 n:G.names.length=G.asked.length
 l:G.asked.length<=100
 z:∀t∈G.asked,t.size<=60
noncomputable def ansS(G:Cfg)(s:St)(ts:List Trm):St:={ s with ans:=s.ans++[(G.names.zip (anew ts),s.nums)],en:=if G.most<=((s.ans.length+1:Nat):Int)then some (endT c5e)else s.en}
abbrev a2g:Trm:=.app keepS []
def c2l(s:St)(h:Nat):St:={ s with nums:=s.nums++[0],left:=s.left.take h}
inductive Do(G:Cfg)(h:Nat)(s:St):Trm->Bool->St->Prop
 |named {w:Str} {ks:List Trm}:Wd w->Do G h s (.app w ks) false (askS G s w ks)
 |keep:Do G h s a2g true (c2l s h)
inductive Up(G:Cfg)(g:Trm)(h:Nat):St->Bool->St->Prop
 |spent {s:St}:G.bound<=(s.ct:Int)->Up G g h s false { s with en:=some (endT c9z)}
 |done {s s':St} {g':Trm} {b:Bool}:(s.ct:Int)<G.bound->Full s.rows g g'->g'.size<=40->g.size<=60->Do G h { s with ct:=s.ct+1} g' b s'->Up G g h s b s'
inductive On(G:Cfg):St->Bool->St->Prop
 |ans {s:St} {ts:List Trm}:s.todo=[]->Bd s->GOk G->a2q s.rows G.asked ts->Trm.sizeL ts<=40->On G s false (ansS G s ts)
 |up {s s':St} {g:Trm} {h:Nat} {rest:List (Trm×Nat)} {b:Bool}:s.todo=(g,h)::rest->Bd s->Up G g h { s with todo:=rest} b s'->On G s b s'
abbrev a7q(K:W.Frag)(CR CW:Addr):Sp:=λvs H Q _=>aR vs λr vs=>aE vs (∃H0 dx o G s ts,a0y K CR CW H0 H r dx o G s/\Bd s/\GOk G/\a2q s.rows G.asked ts/\Trm.sizeL ts<=40/\∀en' H',a0y K CR CW H0 H' r dx { o with en:=en'} G (ansS G s ts)->Q (.bl false) H')
abbrev a9l(K:W.Frag)(CR CW:Addr):Sp:=λvs H Q _=>aR vs λr vs=>aV vs λgv vs=>aI vs λi vs=>aE vs (∃H0 dx o G s h,i=((h:Nat):Int)/\a0y K CR CW H0 H r dx o G s/\Den K H gv (Trm.data a2g)/\∀lf' H',a0y K CR CW H0 H' r dx { o with lf:=lf'} G { s with left:=s.left.take h}->Q (.bl true) H')
abbrev b0w(K:W.Frag)(CR CW:Addr):Sp:=λvs H Q _=>aR vs λr vs=>aV vs λgv vs=>aI vs λi vs=>aE vs (∃H0 dx o G s h g b s',i=((h:Nat):Int)/\a0y K CR CW H0 H r dx o G s/\Bd s/\Den K H gv (Trm.data g)/\Do G h s g b s'/\∀nb' lf' H',a0y K CR CW H0 H' r dx { o with nb:=nb',lf:=lf'} G s'->Q (.bl b) H')
abbrev b0x(K:W.Frag)(CR CW:Addr):Sp:=λvs H Q _=>aR vs λr vs=>aV vs λgv vs=>aI vs λi vs=>aE vs (∃H0 dx o G s h g b s',i=((h:Nat):Int)/\a0y K CR CW H0 H r dx o G s/\Bd s/\Den K H gv (Trm.data g)/\Up G g h s b s'/\∀nb' lf' ct' en' H',a0y K CR CW H0 H' r dx { o with nb:=nb',lf:=lf',ct:=ct',en:=en'} G s'->Q (.bl b) H')
abbrev b3j(K:W.Frag)(CR CW:Addr):Sp:=λvs H Q _=>aR vs λr vs=>aE vs (∃H0 dx o G s b s',a0y K CR CW H0 H r dx o G s/\On G s b s'/\∀td' nb' lf' us' ct' en' H',a0y K CR CW H0 H' r dx { o with td:=td',nb:=nb',lf:=lf',us:=us',ct:=ct',en:=en'} G s'->Q (.bl b) H')
theorem b9z{K:FG}{H:Hp}:∀{names:List Str}{qs:List Addr}{ys:List V}{ts:List Trm},b0j H qs (names.map V.str) ys->DenL K H ys (Trm.dataL ts)->qs.length=names.length->ys.length=names.length->DenL K H (qs.map V.ref) ((names.zip ts).map prE)
 | [],[],_,_,_,_,_,_=>by
  show DenL K H [] _
  rw[List.zip_nil_left];exact .nil
 |x::names,q::qs,y::ys,[],p,d,h1,h2=>by cases d
 |x::names,q::qs,y::ys,t::ts,p,d,h1,h2=>by
  cases d with
  |cons d1 d2=>
   have e:H q=some (.tup [.str x,y]):=p 0 q (.str x) y rfl rfl rfl;refine .cons (.tup (SqT.of e) (.cons (.str x) (.cons d1 .nil))) (b9z (λj q' a b h3 h4 h5=>p (j+1) q' a b (by simpa using h3) (by simpa using h4) (by simpa using h5)) d2 (by simpa using h1) (by simpa using h2))
theorem b2d(ts:List Trm):(anew ts).length=ts.length:=by
 unfold anew;rw[a4u,length_map]
theorem c0a{ts:List Trm}{t:Trm}(h:t∈ts):t.size<=Trm.sizeL ts:=by
 obtain⟨a,b,rfl⟩:=Ts h;simp only[Trm.sizeL_app,Trm.sizeL];omega
theorem nmd_wd{w:Str}(h:Wd w):nmd w=true:=by
 rw[nmd,h.cl,Z3 (λz=>by
  rcases Zu.mp z with z|z
  ·exact h.kp z
  ·exact h.nt (Zq.mp z))]
 rfl
theorem b4w{α β:Type}{F:α->β->Prop}:∀(n:Nat){xs:List α}{ys:List β},Paired F xs ys->Paired F (xs.take n) (ys.take n)
 |0,_,_,_=>.nil
 |_+1,_,_,.nil=>.nil
 |n+1,_,_,.cons a b=>.cons a (b4w n b)
def ruE(x:Trm×List Trm):PyData:=.tuple [x.1.data,.tuple (Trm.dataL x.2)]
def fAn(x:Trm×List Trm):Str->Str:=sub (mkA (λj _=>uS++tn (j+1)) 0 (ordL (x.1::x.2) []))
def mkRl(n:Nat)(x:Trm×List Trm):Rl:=⟨n,ren (fAn x) x.1,renL (fAn x) x.2⟩
theorem d0a(x:Trm×List Trm):anew (x.1::x.2)=ren (fAn x) x.1::renL (fAn x) x.2:=by
 unfold anew fAn;rw[renL]
def keyT:Trm->List Key
 | .app w ks=>nd w ks.length
 |_=>[]
noncomputable def addT:List (List Key×List Rl)->List Key->Rl->List (List Key×List Rl)
 | [],k,x=>[(k,[x])]
 | (k',l)::r,k,x=>if k'=k then(k',l++[x])::r else(k',l)::addT r k x
noncomputable def tabF:List (Trm×List Trm)->Nat->List (List Key×List Rl)->List (List Key×List Rl)
 | [],_,tb=>tb
 |x::r,n,tb=>tabF r (n+1) (addT tb (keyT x.1) (mkRl (n+1) x))
def tabOf(l:List (Trm×List Trm)):List (List Key×List Rl):=tabF l 0 []
theorem c0b:∀(l:List (Trm×List Trm))(x:Trm×List Trm)(n:Nat)(tb:List (List Key×List Rl)),tabF (l++[x]) n tb=addT (tabF l n tb) (keyT x.1) (mkRl (n+l.length+1) x)
 | [],x,n,tb=>rfl
 |y::l,x,n,tb=>by
  rw[Xz,tabF,c0b l x,tabF,length_cons,show n+1+l.length+1=n+(l.length+1)+1 by omega]
structure RuOk(x:Trm×List Trm):Prop where
 ap:∃w ks,x.1=.app w ks
 z1:x.1.size<=60
 z2:∀g∈x.2,g.size<=60
 l:x.2.length<=10
theorem c2m{ts:List Trm}{B:Nat}(h:∀t∈ts,t.size<=B):Trm.sizeL ts<=ts.length*B:=by
 induction ts with
 |nil=>simp[Trm.sizeL]
 |cons t r ih=>
  rw[Trm.sizeL,length_cons,Nat.add_mul];have:=h t (Yd ..);have:=ih λt ht=>h t (Zx _ ht)
  omega
mutual
theorem Dm.more{K:FG}{M:List Addr}{H:Hp}{m:Addr}(n:H m=none):∀{v:V}{d:PyData},Dm K H M v d->Dm K H (m::M) v d
 |_,_,.non=>.non
 |_,_,.bl b=>.bl b
 |_,_,.int i=>.int i
 |_,_,.str x=>.str x
 |_,_,.tup h l=>.tup h (DmL.more n l)
 |_,_,.lst h e l=>.lst h (λz=>by
   rcases Zu.mp z with z|z
   ·rw[z,n]at h;cases h
   ·exact e z) (DmL.more n l)
theorem DmL.more{K:FG}{M:List Addr}{H:Hp}{m:Addr}(n:H m=none):∀{v:List V}{d:List PyData},DmL K H M v d->DmL K H (m::M) v d
 |_,_,.nil=>.nil
 |_,_,.cons h l=>.cons (Dm.more n h) (DmL.more n l)
end
mutual
theorem Dm.weak{K:FG}{M:List Addr}{H:Hp}:∀{v:V}{d:PyData},Dm K H M v d->Dm K H [] v d
 |_,_,.non=>.non
 |_,_,.bl b=>.bl b
 |_,_,.int i=>.int i
 |_,_,.str x=>.str x
 |_,_,.tup h l=>.tup h (DmL.weak l)
 |_,_,.lst h e l=>.lst h qz (DmL.weak l)
theorem DmL.weak{K:FG}{M:List Addr}{H:Hp}:∀{v:List V}{d:List PyData},DmL K H M v d->DmL K H [] v d
 |_,_,.nil=>.nil
 |_,_,.cons h l=>.cons (Dm.weak h) (DmL.weak l)
end
structure TabM(K:W.Frag)(H0 H:Hp)(p:Addr)(M:List Addr)(kvs:List (List Key×V))(tab:List (List Key×List Rl)):Prop where
 sm:Same H0 H
 top:H p=some (.dT kvs)
 f:H0 p=none
 fm:∀m∈M,H0 m=none
 row:Paired (λ(a:List Key×V) (b:List Key×List Rl)=>a.1=b.1/\∃m us,a.2=.ref m/\m∈M/\H m=some (.lst us)/\DmL K H M us (b.2.map Rl.data)) kvs tab
 nd:(kvs.map (·.2)).Nodup
 ex:∀m∈M,∃us,H m=some (.lst us)
abbrev b7l(K:W.Frag):Sp:=λvs H Q _=>aR vs λa vs=>aE vs (∃(us:List V)(rs:List (Trm×List Trm)),SqL K H a us/\DenL K H us (rs.map ruE)/\(∀x∈rs,RuOk x)/\rs.length<=100/\∀p kvs H',Same H H'->H p=none->H' p=some (.dT kvs)->Tab K H' [] kvs (tabOf rs)->Q (.ref p) H')
theorem TabM.same{K:FG}{H0 H H':Hp}{p:Addr}{M:List Addr}{kvs:List (List Key×V)}{tab:List (List Key×List Rl)}(h:TabM K H0 H p M kvs tab)(s:Same H H'):TabM K H0 H' p M kvs tab:=
 ⟨h.sm.trans s,s _ _ h.top,h.f,h.fm,Paired.mapP h.row λ_ _ ⟨e,m,us,e1,e2,e3,e4⟩=>⟨e,m,us,e1,e2,s _ _ e3,e4.pr (.same s)⟩,h.nd,λm hm=>let⟨us,e⟩:=h.ex m hm;⟨us,s _ _ e⟩⟩
theorem TabM.get{K:FG}{H:Hp}{M:List Addr}{kvs:List (List Key×V)}{tab:List (List Key×List Rl)}(h:Paired (λ(a:List Key×V) (b:List Key×List Rl)=>a.1=b.1/\∃m us,a.2=.ref m/\m∈M/\H m=some (.lst us)/\DmL K H M us (b.2.map Rl.data)) kvs tab)(k:List Key)(x:Rl):(valV kvs k=none/\addT tab k x=tab++[(k,[x])]/\putK kvs k=λv=>kvs++[(k,v)])\/∃k1 k2 m l1 l2 us l,kvs=k1++(k,.ref m)::k2/\valV kvs k=some (.ref m)/\m∈M/\H m=some (.lst us)/\DmL K H M us (l.map Rl.data)/\tab=l1++(k,l)::l2/\addT tab k x=l1++(k,l++[x])::l2/\Paired (λ(a:List Key×V) (b:List Key×List Rl)=>a.1=b.1/\∃m us,a.2=.ref m/\m∈M/\H m=some (.lst us)/\DmL K H M us (b.2.map Rl.data)) k1 l1/\Paired (λ(a:List Key×V) (b:List Key×List Rl)=>a.1=b.1/\∃m us,a.2=.ref m/\m∈M/\H m=some (.lst us)/\DmL K H M us (b.2.map Rl.data)) k2 l2:=by
 induction h with
 |nil=>exact .inl ⟨rfl,rfl,rfl⟩
 | @cons a b kvs tab h t ih=>
  obtain⟨ka,va⟩:=a;obtain⟨kb,lb⟩:=b;obtain⟨e,m,us,e1,e2,e3,e4⟩:=h;have e:ka=kb:=e;have e1:va=.ref m:=e1;subst e;subst e1
  by_cases c:ka=k
  ·subst c;refine .inr ⟨[],kvs,m,[],tab,us,lb,rfl,?_,e2,e3,e4,rfl,?_,.nil,t⟩
   ·unfold valV;rw[Vv (by exact Ye rfl)];rfl
   ·rw[addT,if_pos rfl];rfl
  ·have ev:valV ((ka,V.ref m)::kvs) k=valV kvs k:=by
    unfold valV;rw[Vw (by simpa using c)]
   rcases ih with⟨g1,g2,g3⟩|⟨k1,k2,m',l1,l2,us',l,g1,g2,g3,g4,g5,g6,g7,g8,g9⟩
   ·refine .inl ⟨ev.trans g1,by rw[addT,if_neg c,g2];rfl,?_⟩
    funext v
    have g3:=congrFun g3 v;unfold putK at g3 ⊢;have hn:(kvs.any λkv=>decide (kv.1=k))=false:=by
     cases hh:(kvs.any λkv=>decide (kv.1=k))with
     |false=>rfl
     |true=>
      rw[Se]at hh;obtain⟨kv,z1,z2⟩:=hh;unfold valV at g1;have:=Uk.mp (W5.mp g1) kv z1;exact absurd z2 this
    rw[Ws,hn,Z3 c];rfl
   ·refine .inr ⟨(ka,.ref m)::k1,k2,m',(ka,lb)::l1,l2,us',l,by rw[g1];rfl,ev.trans g2,g3,g4,g5,by rw[g6];rfl,by rw[addT,if_neg c,g7];rfl,.cons ⟨rfl,m,us,rfl,e2,e3,e4⟩ g8,g9⟩
mutual
theorem Dm.kl{K:FG}{M:List Addr}{H H':Hp}(k:∀a us,a∉M->H a=some (.lst us)->H' a=some (.lst us))(kt:KT K H H'):∀{v:V}{d:PyData},Dm K H M v d->Dm K H' M v d
 |_,_,.non=>.non
 |_,_,.bl b=>.bl b
 |_,_,.int i=>.int i
 |_,_,.str x=>.str x
 |_,_,.tup h l=>.tup (kt _ _ h) (DmL.kl k kt l)
 |_,_,.lst h n l=>.lst (k _ _ n h) n (DmL.kl k kt l)
theorem DmL.kl{K:FG}{M:List Addr}{H H':Hp}(k:∀a us,a∉M->H a=some (.lst us)->H' a=some (.lst us))(kt:KT K H H'):∀{v:List V}{d:List PyData},DmL K H M v d->DmL K H' M v d
 |_,_,.nil=>.nil
 |_,_,.cons h l=>.cons (Dm.kl k kt h) (DmL.kl k kt l)
end
abbrev TR(K:W.Frag)(H:Hp)(M:List Addr):List Key×V->List Key×List Rl->Prop:=λa b=>a.1=b.1/\∃m us,a.2=.ref m/\m∈M/\H m=some (.lst us)/\DmL K H M us (b.2.map Rl.data)
theorem TR.apart{K:FG}{H:Hp}{M:List Addr}{m:Addr}{o:HO}(p:Pr K M H (upd H m o)){k1:List (List Key×V)}{l1:List (List Key×List Rl)}(h:Paired (TR K H M) k1 l1)(n:V.ref m∉k1.map (·.2)):Paired (TR K (upd H m o) M) k1 l1:=by
 induction h with
 |nil=>exact .nil
 |cons z _ ih=>
  obtain⟨e,m',us,e1,e2,e3,e4⟩:=z;rw[Z5]at n;have hne:m'≠m:=λz=>n (by rw[e1,z];exact Yd ..)
  exact .cons ⟨e,m',us,e1,e2,by rw[a0f hne];exact e3,e4.pr p⟩ (ih λz=>n (Zx _ z))
theorem b7m{α β:Type}{F:α->β->Prop}:∀{a1:List α}{b1:List β}{a2:List α}{b2:List β},Paired F a1 b1->Paired F a2 b2->Paired F (a1++a2) (b1++b2)
 |_,_,_,_,.nil,h=>h
 |_,_,_,_,.cons a t,h=>.cons a (b7m t h)
section
variable{K:W.Frag}{H0 H H1:Hp}{p:Addr}{M:List Addr}{kvs:List (List Key×V)}{tab:List (List Key×List Rl)}
theorem TabM.notM(h:TabM K H0 H p M kvs tab){a:Addr}(e:H a=none):a∉M:=λz=>by
 obtain⟨us,e2⟩:=h.ex a z;rw[e]at e2;cases e2
theorem TabM.app(h:TabM K H0 H p M kvs tab){k:List Key}{m:Addr}{v:V}{x:Rl}(hv:valV kvs k=some (.ref m))(d:Dm K H M v x.data):∃us,H m=some (.lst us)/\(∃b∈addT tab k x,b.2.length=us.length+1)/\TabM K H0 (upd H m (.lst (us++[v]))) p M kvs (addT tab k x)/\Pr K M H (upd H m (.lst (us++[v]))):=by
 rcases TabM.get h.row k x with⟨g1,_,_⟩|⟨k1,k2,m',l1,l2,us,l,g1,g2,g3,g4,g5,g6,g7,g8,g9⟩
 ·rw[hv]at g1;cases g1
 ·rw[hv]at g2;cases g2;have pr:Pr K M H (upd H m (.lst (us++[v]))):=.upd g3 g4 (λ_ z=>by cases z) (λ_ _ z=>by cases z);have nd:=h.nd;rw[g1,Zo,Xq,Z5]at nd;have n1:V.ref m∉k1.map (·.2):=λz=>nd.2.2 _ z _ (Yd ..) rfl
  have n2:V.ref m∉k2.map (·.2):=(Xv.mp nd.2.1).1;have hl:=g5.length;rw[length_map]at hl;refine⟨us,g4,⟨(k,l++[x]),by rw[g7];simp,by simp[hl]⟩,⟨a1c h.sm (h.fm m g3),?_,h.f,h.fm,?_,h.nd,λa ha=>?_⟩,pr⟩
  ·rw[a0f (a1a h.top g4 (λz=>by cases z))];exact h.top
  ·rw[g7,g1];refine b7m (TR.apart pr g8 n1) (.cons ⟨rfl,m,_,rfl,g3,a0c,?_⟩ (TR.apart pr g9 n2));rw[Zo];exact(g5.pr pr).append (.cons (d.pr pr) .nil)
  ·by_cases c:a=m
   ·rw[c];exact⟨_,a0c⟩
   ·obtain⟨us2,e2⟩:=h.ex a ha;exact⟨us2,by rw[a0f c];exact e2⟩
theorem TabM.at(h:TabM K H0 H p M kvs tab){k:List Key}{m:Addr}(hv:valV kvs k=some (.ref m)):∃us,H m=some (.lst us):=by
 rcases TabM.get h.row k ⟨0,.num 0,[]⟩with⟨g1,_,_⟩|⟨k1,k2,m',l1,l2,us,l,g1,g2,g3,g4,_⟩
 ·rw[hv]at g1;cases g1
 ·rw[hv]at g2;cases g2;exact⟨us,g4⟩
theorem TabM.setd(h:TabM K H0 H1 p M kvs tab){k:List Key}{px pe:Addr}(hx:H1 px=some (.tup (k.map kV)))(he:H1 pe=none)(hz:kvs.length<=1000){Q:VK}
  (kq:∀H2 m M' kvs' tab',TabM K H0 H2 p M' kvs' tab'->valV kvs' k=some (.ref m)->(∀x,addT tab' k x=addT tab k x)->kvs'.length<=kvs.length+1->KT K H1 H2->(∀a us,a∉M->H1 a=some (.lst us)->H2 a=some (.lst us)/\a∉M')->Q (.ref m) H2):c1z (.ref p) [.ref px,.ref pe] (upd H1 pe (.lst [])) Q:=by
 have s1:=a0h he (.lst []);have h1:=h.same s1;refine d2u h1.top (s1 _ _ hx) (ln qo) (λv hv=>?_) λhv=>?_
 ·rcases TabM.get h.row k ⟨0,.num 0,[]⟩with⟨g1,_,_⟩|⟨k1,k2,m',l1,l2,us,l,g1,g2,g3,g4,g5,g6,g7,g8,g9⟩
  ·rw[hv]at g1;cases g1
  ·rw[hv]at g2;cases g2;exact kq _ m' M kvs tab h1 hv (λ_=>rfl) (Ur _) (KT.same s1) λa us n e=>⟨s1 _ _ e,n⟩
 ·have hpe0:H0 pe=none:=by
   cases e:H0 pe with
   |none=>rfl
   |some o=>rw[h.sm _ _ e]at he;cases he
  have npe:pe≠p:=λz=>by rw[z,h.top]at he;cases he
  have hM:pe∉M:=h.notM he;rcases TabM.get h.row k ⟨0,.num 0,[]⟩with⟨g1,_,g3⟩|⟨_,_,_,_,_,_,_,_,g2,_⟩
  rotate_left
  ·rw[hv]at g2;cases g2
  have g3:=congrFun g3 (.ref pe);rw[g3];have kt:KT K (upd H1 pe (.lst [])) (upd (upd H1 pe (.lst [])) p (.dT (kvs++[(k,.ref pe)]))):=.upd h1.top (λ_ z=>by cases z) (λ_ _ z=>by cases z);have kl:∀a us,(upd H1 pe (.lst [])) a=some (.lst us)->(upd (upd H1 pe (.lst [])) p (.dT (kvs++[(k,.ref pe)]))) a=some (.lst us):=λa us e=>by rw[a0f (a1a e h1.top (λz=>by cases z))];exact e
  have hnew:∀x,addT (tab++[(k,[])]) k x=addT tab k x:=λx=>by
   rcases TabM.get h.row k x with⟨_,g2,_⟩|⟨_,_,_,_,_,_,_,_,g2,_⟩
   ·rw[g2];have:∀(tb:List (List Key×List Rl)),addT tb k x=tb++[(k,[x])]->addT (tb++[(k,[])]) k x=tb++[(k,[x])]:=λtb=>by
     induction tb with
     |nil=>intro _;show addT [(k,[])] k x=_;rw[addT,if_pos rfl];rfl
     |cons y r ih=>
      intro e;obtain⟨ky,ly⟩:=y;rw[addT]at e;rw[Xz,addT]
      by_cases c:ky=k
      ·rw[if_pos c]at e
       exfalso
       have:=Xn List.length e
       simp at this
      ·rw[if_neg c]at e ⊢;rw[ih (S3 e).2];rfl
    exact this tab g2
   ·rw[hv]at g2;cases g2
  refine kq _ pe (pe::M) (kvs++[(k,.ref pe)]) (tab++[(k,[])]) ⟨a1c h1.sm h.f,a0c,h.f,λm hm=>?_,?_,?_,λm hm=>?_⟩ ?_ hnew qz ((KT.same s1).trans kt) (λa us n e=>⟨kl _ _ (s1 _ _ e),λz=>?_⟩)
  ·rcases Zu.mp hm with z|z
   ·rw[z];exact hpe0
   ·exact h.fm m z
  ·refine Sf (Paired.mapP h.row λ_ _ ⟨e,m,us,e1,e2,e3,e4⟩=>⟨e,m,us,e1,Zx _ e2,kl _ _ (s1 _ _ e3),((e4.more he).pr (.same s1)).kl (λa us _ e=>kl _ _ e) kt⟩) ⟨rfl,pe,[],rfl,Yd ..,kl _ _ a0c,.nil⟩
  ·rw[Zo,Xq];refine⟨h.nd,qz,λa ha b hb z=>?_⟩;have hb:b=.ref pe:=by simpa using hb
   obtain⟨kv,hkv,e1⟩:=Ys.mp ha;have:∀{k1:List (List Key×V)}{l1:List (List Key×List Rl)},Paired (TR K H1 M) k1 l1->∀y∈k1,∃m us,y.2=.ref m/\H1 m=some (.lst us):=λ{k1 l1} q=>by
    induction q with
    |nil=>intro y hy;simp at hy
    |cons a t ih=>
     intro y hy;obtain⟨_,m,us,c1,_,c3,_⟩:=a;rcases Zu.mp hy with z|z
     ·rw[z];exact⟨m,us,c1,c3⟩
     ·exact ih y z
   obtain⟨m,us,c1,c2⟩:=this h.row kv hkv;rw[<-e1,c1,hb]at z;cases z;rw[he]at c2;cases c2
  ·rcases Zu.mp hm with z|z
   ·rw[z];exact⟨_,kl _ _ a0c⟩
   ·obtain⟨us,e⟩:=h.ex m z;exact⟨us,kl _ _ (s1 _ _ e)⟩
  ·unfold valV at hv ⊢;rw[T5,W5.mp hv]
   simp
  ·rcases Zu.mp z with z|z
   ·rw[z,he]at e;cases e
   ·exact n z
end
theorem b5u{k:List Key}{x:Rl}{n:Nat}:∀{tb:List (List Key×List Rl)},(∀b∈tb,b.2.length<=n)->∀b∈addT tb k x,b.2.length<=n+1
 | [],_,b,hb=>by
  rw[addT]at hb;rw[Zq.mp hb]
  show 1<=n+1
  omega
 | (k',l)::r,h,b,hb=>by
  rw[addT]at hb;have h1:l.length<=n:=h (k',l) (Yd ..)
  by_cases c:k'=k
  ·rw[if_pos c]at hb;rcases Zu.mp hb with z|z
   ·rw[z];simp;exact h1
   ·have:=h b (Zx _ z);omega
  ·rw[if_neg c]at hb;rcases Zu.mp hb with z|z
   ·rw[z];show l.length<=n+1;omega
   ·exact b5u (λb hb=>h b (Zx _ hb)) b z
theorem c2n:∀{rs:List (Trm×List Trm)}{k n:Nat}{tb:List (List Key×List Rl)},(∀b∈tb,b.2.length<=n)->∀b∈tabF rs k tb,b.2.length<=n+rs.length
 | [],k,n,tb,h,b,hb=>h b hb
 |x::r,k,n,tb,h,b,hb=>by
  rw[tabF]at hb;have:=c2n (b5u h) b hb;rw[length_cons];omega
def a3p(rs:List (Trm×List Trm))(gs:List Trm)(bound most:Int):Cfg:=⟨tabOf rs,bound,most,ordL gs [],anew ((ordL gs []).map Trm.any)⟩
noncomputable def st0(gs:List Trm):St:=⟨(anew gs).map λg=>(g,0),[],[],[],0,0,[],none⟩
abbrev b4x(K:W.Frag)(CR CW:Addr):Sp:=λvs H Q _=>aR vs λr vs=>aR vs λra vs=>aR vs λga vs=>aI vs λbound vs=>aI vs λmost vs=>aE vs (∃H0 dx ur ug rs gs,H r=some (.ins CR dx [])/\Same H0 H/\H0 r=none/\SqL K H0 ra ur/\DenL K H0 ur (rs.map ruE)/\(∀x∈rs,RuOk x)/\rs.length<=100/\SqL K H0 ga ug/\DenL K H0 ug (Trm.dataL gs)/\(∀g∈gs,g.size<=60)/\gs.length<=10/\∀o H',a0y K CR CW H0 H' r dx o (a3p rs gs bound most) (st0 gs)->Q .non H')
inductive Rn(G:Cfg):Bool->St->St->Nat->Prop
 |stop {b:Bool} {s:St}:s.en.isSome=true->Rn G b s s 0
 |on {b:Bool} {s s' f:St} {c:Nat}:s.en=none->On G s b s'->Rn G b s' f c->Rn G true s f (c+1)
 |back {b:Bool} {s s' f:St} {c:Nat}:s.en=none->Back G s b s'->Rn G b s' f c->Rn G false s f (c+1)
abbrev b4y(K:W.Frag)(CR CW:Addr):Sp:=λvs H Q _=>aR vs λra vs=>aR vs λga vs=>aI vs λbound vs=>aI vs λmost vs=>aE vs (∃ur ug rs gs f c,SqL K H ra ur/\DenL K H ur (rs.map ruE)/\(∀x∈rs,RuOk x)/\rs.length<=100/\SqL K H ga ug/\DenL K H ug (Trm.dataL gs)/\(∀g∈gs,g.size<=60)/\gs.length<=10/\Rn (a3p rs gs bound most) true (st0 gs) f c/\(∀b∈[f.en],b≠some .none)/\∀r dx o H',a0y K CR CW H H' r dx o (a3p rs gs bound most) f->Q (.ref r) H')
def resD(f:St):PyData:=.tuple [.list (anD f.ans),enD f.en,.int (f.ct:Int)]
abbrev b3k(K:W.Frag):Sp:=λvs H Q _=>aR vs λra vs=>aR vs λga vs=>aI vs λbound vs=>aI vs λmost vs=>aE vs (∃ur ug rs gs f c,SqL K H ra ur/\DenL K H ur (rs.map ruE)/\(∀x∈rs,RuOk x)/\rs.length<=100/\SqL K H ga ug/\DenL K H ug (Trm.dataL gs)/\(∀g∈gs,g.size<=60)/\gs.length<=10/\Rn (a3p rs gs bound most) true (st0 gs) f c/\(∀b∈[f.en],b≠some .none)/\∀p H',Same H H'->Dm K H' [] (.ref p) (resD f)->Q (.ref p) H')
theorem c2o:∀{fs:List (Str×V)}{f:Str}{v:V},(fs.map (·.1)).all (λg=>!(f==g))=true->putF f v fs=fs++[(f,v)]
 | [],f,v,_=>rfl
 | (g,x)::fs,f,v,h=>by
  rw[Z5,Uz,Xp]at h;have e:¬g=f:=λz=>by
   have:=h.1;rw[z,Vz]at this;cases this
  rw[putF,if_neg e,c2o h.2];rfl
theorem stp_r{H0 A B:Hp}{r dx C:Addr}{fs:List (Str×V)}{o':HO}(h:A r=some (.ins C dx fs))(f:H0 r=none)(sm:Same H0 A)(e:upd A r o'=B):But r A B/\B r=some o'/\Same H0 B:=by
 subst e;exact⟨b4e,a0c,a1c sm f⟩
theorem zP{H0 A:Hp}{r C dx:Addr}{fs:List (Str×V)}{f:Str}{y:V}{N:Hp->Prop}(o:A r=some (.ins C dx fs))(p:(fs.map (·.1)).all (λg=>!(f==g))=true)(f0:H0 r=none)(sm:Same H0 A)(k:∀B,But r A B->B r=some (.ins C dx (fs++[(f,y)]))->Same H0 B->N B):N (upd A r (.ins C dx (putF f y fs))):=by
 rw[c2o p];have z:=stp_r (o':=.ins C dx (fs++[(f,y)])) o f0 sm rfl;exact k _ z.1 z.2.1 z.2.2
theorem bkt{K:FG}{A B:Hp}{r C dx:Addr}{fs:List (Str×V)}(b:But r A B)(h:A r=some (.ins C dx fs)):KT K A B:=λa xs q=>by
 rcases q with(q|⟨o',q⟩)|q
 ·exact .inl (.inl (b _ _ (a1a q h (λz=>by cases z)) q))
 ·exact .inl (.inr ⟨o',b _ _ (a1a q h (λz=>by cases z)) q⟩)
 ·exact .inr q
theorem bkl{A B:Hp}{r C dx:Addr}{fs:List (Str×V)}(b:But r A B)(h:A r=some (.ins C dx fs)):∀a us,A a=some (.lst us)->B a=some (.lst us):=λa us e=>b _ _ (a1a e h (λz=>by cases z)) e
theorem sbut{A B:Hp}{r:Addr}(s:Same A B):But r A B:=λb o _ e=>s b o e
mutual
theorem Dm.kl2{K:FG}{M:List Addr}{H H':Hp}(k:∀a us,H a=some (.lst us)->H' a=some (.lst us))(kt:KT K H H')(n:∀m∈M,∀us,H m≠some (.lst us)):∀{v:V}{d:PyData},Dm K H [] v d->Dm K H' M v d
 |_,_,.non=>.non
 |_,_,.bl b=>.bl b
 |_,_,.int i=>.int i
 |_,_,.str x=>.str x
 |_,_,.tup h l=>.tup (kt _ _ h) (DmL.kl2 k kt n l)
 |_,_,.lst h _ l=>.lst (k _ _ h) (λz=>n _ z _ h) (DmL.kl2 k kt n l)
theorem DmL.kl2{K:FG}{M:List Addr}{H H':Hp}(k:∀a us,H a=some (.lst us)->H' a=some (.lst us))(kt:KT K H H')(n:∀m∈M,∀us,H m≠some (.lst us)):∀{v:List V}{d:List PyData},DmL K H [] v d->DmL K H' M v d
 |_,_,.nil=>.nil
 |_,_,.cons h l=>.cons (Dm.kl2 k kt n h) (DmL.kl2 k kt n l)
end
theorem b5v{A B:Hp}{r m:Addr}(b:But r A B)(h:B m=none)(n:m≠r):A m=none:=by
 cases e:A m with
 |none=>rfl
 |some o=>rw[b m o n e]at h;cases h
inductive Rs(G:Cfg):Bool->St->Bool->St->Nat->Prop
 |refl {b:Bool} {s:St}:Rs G b s b s 0
 |on {b b':Bool} {s s' f:St} {c:Nat}:s.en=none->On G s b s'->Rs G b s' b' f c->Rs G true s b' f (c+1)
 |back {b b':Bool} {s s' f:St} {c:Nat}:s.en=none->Back G s b s'->Rs G b s' b' f c->Rs G false s b' f (c+1)
theorem Rs.trans{G:Cfg}{b b1 b2:Bool}{s s1 s2:St}{n m:Nat}(h:Rs G b s b1 s1 n)(g:Rs G b1 s1 b2 s2 m):∃k,Rs G b s b2 s2 k:=by
 induction h with
 |refl=>exact⟨m,g⟩
 |on a o _ i=>exact(i g).elim λk r=>⟨k+1,.on a o r⟩
 |back a o _ i=>exact(i g).elim λk r=>⟨k+1,.back a o r⟩
theorem Rs.rn{G:Cfg}{b b1:Bool}{s f:St}{n:Nat}(h:Rs G b s b1 f n)(g:f.en.isSome=true):Rn G b s f n:=by
 induction h with
 |refl=>exact .stop g
 |on a o _ i=>exact .on a o (i g)
 |back a o _ i=>exact .back a o (i g)
structure RwS(rows:Rws):Prop where
 nd:(rows.map (·.1)).Nodup
 ln:rows.length<=50
 sz:∀r∈rows,r.2.size=1
structure At(kn:Rws)(L:List Wy)(s:St):Prop where
 en:s.en=none
 left:s.left=L
 ll:L.length<=50
 rows:∃e,s.rows=kn++e/\RwS (kn++e)
 t:s.todo.length<=50
 n:s.nums.length<=50
def Cap(G:Cfg)(s:St)(an:List Ans)(c d:Nat):Prop:=((s.ans.length+an.length:Nat):Int)<G.most/\s.ans.length+an.length<=500/\((s.ct+c:Nat):Int)<=G.bound/\s.us+d<=10000
def Gets(G:Cfg)(b:Bool)(s:St)(kn:Rws)(L:List Wy)(an:List Ans)(c d:Nat):Prop:=∃s' n,Rs G b s false s' n/\At kn L s'/\s'.ans=s.ans++an/\s'.ct=s.ct+c/\s'.us=s.us+d
def fin(L:List Wy):Option Nat->List Wy
 |none=>L
 |some h=>L.take h
def ExB(G:Cfg)(kn:Rws)(L:List Wy)(w:Wy)(an:List Ans)(c d:Nat)(cut:Option Nat):Prop:=∀s,At kn (L++[w]) s->Cap G s an c d->Gets G false s kn (fin L cut) an c d
def ExO(G:Cfg)(kn:Rws)(L:List Wy)(td:List (Trm×Nat))(nm:List Int)(an:List Ans)(c d:Nat)(cut:Option Nat):Prop:=∀s,At kn L s->s.rows=kn->s.todo=td->s.nums=nm->Cap G s an c d->Gets G true s kn (fin L cut) an c d
section
variable{G:Cfg}{kn:Rws}{L:List Wy}{s:St}{an:List Ans}{c d:Nat}{cut:Option Nat}{td rest:List (Trm×Nat)}{nm:List Int}{h:Nat}
theorem Cap.one(k:Cap G s an c d):s.ans.length<=900/\s.us<=1000000:=by
 obtain⟨_,a,_,b⟩:=k;omega
theorem At.bd(h:At kn L s)(k:Cap G s an c d):Bd s/\(s.rows.map (·.1)).Nodup:=by
 obtain⟨e,e1,e2⟩:=h.rows;obtain⟨k1,k2⟩:=k.one;have h1:=h.t;have h2:=h.n;have h3:=e2.ln;have h4:=h.ll;exact⟨⟨qo,qo,by rw[e1];omega,by rw[h.left];omega,k1,k2,λx hx=>by rw[e1]at hx;rw[e2.sz x hx];decide⟩,by rw[e1];exact e2.nd⟩
theorem At.less{e:Rws}(h:At (kn++e) L s):At kn L s:=by
 obtain⟨e',e1,e2⟩:=h.rows;exact⟨h.en,h.left,h.ll,⟨e++e',by rw[<-Y0];exact e1,by rw[<-Y0];exact e2⟩,h.t,h.n⟩
theorem ExO.fine{cut':Option Nat}(o:ExO G kn L td nm an c d cut)(e:fin L cut=fin L cut'):ExO G kn L td nm an c d cut':=λs a b c d k=>by
 rw[<-e];exact o s a b c d k
theorem ExO.to{an':List Ans}{c' d':Nat}(o:ExO G kn L td nm an c d cut)(e1:an=an')(e2:c=c')(e3:d=d'):ExO G kn L td nm an' c' d' cut:=by
 subst e1 e2 e3;exact o
theorem ExB.to{w:Wy}{an':List Ans}{c' d':Nat}(o:ExB G kn L w an c d cut)(e1:an=an')(e2:c=c')(e3:d=d'):ExB G kn L w an' c' d' cut:=by
 subst e1 e2 e3;exact o
theorem d0b{ns:List Int}:anew (ns.map Trm.num)=ns.map Trm.num:=by
 unfold anew;rw[a4u,T4];rfl
theorem c0c:∀(ns:List Int),Trm.sizeL (ns.map Trm.num)=ns.length
 | []=>rfl
 |n::r=>by rw[Z5,Trm.sizeL,c0c r,length_cons,Trm.size];omega
theorem b8v(gok:GOk G){ns:List Int}(hf:a2q kn G.asked (ns.map .num))(hl:ns.length<=40):ExO G kn L [] nm [(G.names.zip (ns.map .num),nm)] 0 0 none:=λs a hr ht hn k=>by
 have on:On G s false (ansS G s (ns.map .num)):=.ans ht (a.bd k).1 gok (by rw[hr];exact hf) (by rw[c0c];exact hl);obtain⟨k1,k2,k3,k4⟩:=k;have ea:ansS G s (ns.map .num)={ s with ans:=s.ans++[(G.names.zip (ns.map .num),nm)],en:=none}:=by
  unfold ansS;rw[d0b,hn,if_neg (λz=>by rw[Zy]at k1;omega)];rw[a.en]
 rw[ea]at on;exact⟨_,_,.on a.en on .refl,⟨rfl,a.left,a.ll,a.rows,a.t,a.n⟩,rfl,rfl,rfl⟩
def cutH(h:Nat):Option Nat->Option Nat
 |none=>some h
 |some h'=>some (min h' h)
theorem d3m:fin (L.take h) cut=fin L (cutH h cut):=by
 cases cut with
 |none=>rfl
 |some h'=>show(L.take h).take h'=L.take (min h' h);rw[List.take_take]
theorem b2e(hn:nm.length<=40)(o:ExO G kn (L.take h) rest (nm++[0]) an c d cut):ExO G kn L ((a2g,h)::rest) nm an (c+1) d (cutH h cut):=λs a hr ht hm k=>by
 have k0:=k;obtain⟨k1,k2,k3,k4⟩:=k;have on:On G s true (c2l { { s with todo:=rest}with ct:=s.ct+1} h):=.up ht (a.bd k0).1 (.done (g':=a2g) (by show(s.ct:Int)<G.bound;omega) (.app .nil) (by show(1:Nat)+0<=40;decide) (by show(1:Nat)+0<=60;decide) .keep);have ht':=a.t;rw[ht,length_cons]at ht';have a1:At kn (L.take h) (c2l { { s with todo:=rest}with ct:=s.ct+1} h):=⟨a.en,by show s.left.take h=_;rw[a.left],by rw[Z7];have:=a.ll;omega,a.rows,by show rest.length<=50;omega,by show(s.nums++[0]).length<=50;rw[hm,Zl,Zy];omega⟩;obtain⟨s',n,r,g1,g2,g3,g4⟩:=o _ a1 hr rfl (by show s.nums++[0]=_;rw[hm]) ⟨k1,k2,by show((s.ct+1+c:Nat):Int)<=_;omega,k4⟩;exact⟨s',n+1,.on a.en on r,by rw[<-d3m];exact g1,g2,by rw[g3];show s.ct+1+c=_;omega,g4⟩
theorem d0c{w:Str}{z:Trm}{x:Str}(hw:Wd w)(hz:Full kn (.app w [z]) (.app w [.any x]))(hs:z.size<=50)(a:At kn L s)(hr:s.rows=kn)(ht:s.todo=(.app w [z],h)::rest)(k:Cap G s an c d)(h1:1<=c):On G s false (askS G { { s with todo:=rest}with ct:=s.ct+1} w [.any x]):=
 .up ht (a.bd k).1 (.done (g':=.app w [.any x]) (by have:=k.2.2.1;show(s.ct:Int)<G.bound;omega) (by show Full s.rows _ _;rw[hr];exact hz) (by show 1+(1+0)<=40;decide) (by show 1+(z.size+0)<=60;omega) (.named hw))
theorem c5g{w:Str}{z:Trm}{x:Str}{F:List Rl}(hw:Wd w)(hz:Full kn (.app w [z]) (.app w [.any x]))(hs:z.size<=50)(hF:a1x G.tab (nd w 1)=F)(hne:F≠[])(hL:L.length<=40)
  (o:ExB G kn L ⟨.app w [.any x],F,rest,nm,kn.length⟩ an c d cut):ExO G kn L ((.app w [z],h)::rest) nm an (c+1) d cut:=λs a hr ht hm k=>by
 have on:=d0c hw hz hs a hr ht k qo;obtain⟨k1,k2,k3,k4⟩:=k;have ea:askS G { { s with todo:=rest}with ct:=s.ct+1} w [.any x]={ s with todo:=rest,ct:=s.ct+1,left:=s.left++[⟨.app w [.any x],F,rest,s.nums,s.rows.length⟩]}:=by
  unfold askS;rw[show([Trm.any x]:List Trm).length=1 from rfl,hF,if_neg (by cases F with|nil=>exact absurd rfl hne|cons _ _=>exact Zr)]
 rw[ea]at on;have ht':=a.t;rw[ht,length_cons]at ht';have a1:At kn (L++[⟨.app w [.any x],F,rest,nm,kn.length⟩]) { s with todo:=rest,ct:=s.ct+1,left:=s.left++[⟨.app w [.any x],F,rest,s.nums,s.rows.length⟩]}:=⟨a.en,by show s.left++_=_;rw[a.left,hm,hr],by rw[Zl,Zy];omega,a.rows,by show rest.length<=50;omega,a.n⟩;obtain⟨s',n,r,g1,g2,g3,g4⟩:=o _ a1 ⟨k1,k2,by show((s.ct+1+c:Nat):Int)<=_;omega,k4⟩;exact⟨s',n+1,.on a.en on r,g1,g2,by rw[g3];show s.ct+1+c=_;omega,g4⟩
theorem c2p{w:Str}{z:Trm}{x:Str}(hw:Wd w)(hz:Full kn (.app w [z]) (.app w [.any x]))(hs:z.size<=50)(hF:a1x G.tab (nd w 1)=[]):ExO G kn L ((.app w [z],h)::rest) nm [] 1 0 none:=λs a hr ht hm k=>by
 have on:=d0c hw hz hs a hr ht k qo;obtain⟨k1,k2,k3,k4⟩:=k;have ea:askS G { { s with todo:=rest}with ct:=s.ct+1} w [.any x]={ s with todo:=rest,ct:=s.ct+1}:=by
  unfold askS;rw[show([Trm.any x]:List Trm).length=1 from rfl,hF];rfl
 rw[ea]at on;have ht':=a.t;rw[ht,length_cons]at ht';exact⟨_,_,.on a.en on .refl,⟨a.en,a.left,a.ll,a.rows,by show rest.length<=50;omega,a.n⟩,by rw[Yg],rfl,rfl⟩
noncomputable def wyR(L:List Wy)(g:Trm)(td:List (Trm×Nat))(nm:List Int)(n:Nat):List Rl->List Wy
 | []=>L
 |x::r=>L++[⟨g,x::r,td,nm,n⟩]
theorem exB_one{g:Trm}{r:Rl}{rs:List Rl}{e1:Rws}{q:Nat}(hr:RlOk r)(hg:r.goals.length<=10)(hz:rs.length<=800)(ht:td.length<=30)(hn:nm.length<=40)(ro:RwS (kn++e1))(a:At kn (L++[⟨g,r::rs,td,nm,kn.length⟩]) s)(k:Cap G s an c d)(un:Un true kn [(ren (mrk (s.us+1)) r.head,g)] true (kn++e1) q):
  ∃s1,Rs G false s true s1 1/\At (kn++e1) (wyR L g td nm kn.length rs) s1/\s1.rows=kn++e1/\s1.todo=r.goals.map (λg=>(ren (mrk (s.us+1)) g,L.length))++td/\s1.nums=nm++[(r.n:Int)]/\s1.ans=s.ans/\s1.ct=s.ct/\s1.us=s.us+1:=by
 obtain⟨b1,b2⟩:=a.bd k;obtain⟨e,r1,r2⟩:=a.rows;have htk:s.rows.take kn.length=kn:=by rw[r1,List.take_left'];rfl
 have hL:=a.ll;rw[Zl,Zy]at hL;have st:=Back.try_ (G:=G) (l:=L) (w:=⟨g,r::rs,td,nm,kn.length⟩) (c:=q) a.left b1 b2 (x:=r) (rest:=rs) rfl (by show(r::rs).length<=900;rw[length_cons];omega) hr (by show kn.length<=s.rows.length;rw[r1,Zl];omega) (by show td.length<=900;omega) (by show nm.length<=900;omega) (ok:=true) (q:=kn++e1) (by show Un true (s.rows.take kn.length) _ _ _ _;rw[htk];exact un);refine⟨_,.back a.en st .refl,⟨a.en,?_,?_,⟨[],by rw[Yg];rfl,by rw[Yg];exact ro⟩,?_,?_⟩,rfl,rfl,rfl,rfl,rfl,rfl⟩
 ·show(if rs.isEmpty=true then L else L++[⟨g,rs,td,nm,(s.rows.take kn.length).length⟩])=_
  rw[htk];cases rs with
  |nil=>rfl
  |cons _ _=>rfl
 ·cases rs with
  |nil=>show L.length<=50;omega
  |cons _ _=>show(L++[_]).length<=50;rw[Zl,Zy];omega
 ·show(r.goals.map _++td).length<=50
  rw[Zl,length_map];omega
 ·show(nm++[_]).length<=50
  rw[Zl,Zy];omega
theorem c5h{g:Trm}{r:Rl}{rs:List Rl}{e1:Nat->Rws}{an1 an2:List Ans}{c1 c2 d1 d2:Nat}{cut1 cut2:Option Nat}(hr:RlOk r)(hg:r.goals.length<=10)(hz:rs.length<=800)(ht:td.length<=30)(hn:nm.length<=40)
  (un:∀k,RwS (kn++e1 k)/\∃q,Un true kn [(ren (mrk k) r.head,g)] true (kn++e1 k) q)
  (o:∀k,ExO G (kn++e1 k) (wyR L g td nm kn.length rs) (r.goals.map (λg=>(ren (mrk k) g,L.length))++td) (nm++[(r.n:Int)]) an1 c1 d1 cut1):
  (∀h,cut1=some h->h<=L.length->ExB G kn L ⟨g,r::rs,td,nm,kn.length⟩ an1 c1 (d1+1) (some h))/\
  (cut1=none->rs=[]->ExB G kn L ⟨g,r::rs,td,nm,kn.length⟩ an1 c1 (d1+1) none)/\
  (cut1=none->rs≠[]->ExB G kn L ⟨g,rs,td,nm,kn.length⟩ an2 c2 d2 cut2->ExB G kn L ⟨g,r::rs,td,nm,kn.length⟩ (an1++an2) (c1+c2) (d1+1+d2) cut2):=by
 have go:∀{s:St}{an:List Ans}{c d:Nat},At kn (L++[⟨g,r::rs,td,nm,kn.length⟩]) s->Cap G s an c d->an1.length<=an.length->c1<=c->d1+1<=d->Gets G false s kn (fin (wyR L g td nm kn.length rs) cut1) an1 c1 (d1+1):=λ{s an c d} a k z1 z2 z3=>by
  obtain⟨ro,q,u⟩:=un (s.us+1);obtain⟨s1,r1,a1,e1,e2,e3,e4,e5,e6⟩:=exB_one hr hg hz ht hn ro a k u;obtain⟨k1,k2,k3,k4⟩:=k;obtain⟨s2,n,r2,a2,f1,f2,f3⟩:=o (s.us+1) s1 a1 e1 e2 e3 ⟨by rw[e4];omega,by rw[e4];omega,by rw[e5];omega,by rw[e6];omega⟩;obtain⟨m,r3⟩:=r1.trans r2;exact⟨s2,m,r3,a2.less,by rw[f1,e4],by rw[f2,e5],by rw[f3,e6];omega⟩
 refine⟨λh e hl s a k=>?_,λe e2 s a k=>?_,λe e2 o2 s a k=>?_⟩
 ·have:=go a k (Zn _) (Zn _) (Zn _);subst e;have e3:fin (wyR L g td nm kn.length rs) (some h)=fin L (some h):=by
   cases rs with
   |nil=>rfl
   |cons _ _=>show(L++[_]).take h=L.take h;rw[Sh hl]
  rw[e3]at this;exact this
 ·have:=go a k (Zn _) (Zn _) (Zn _);subst e e2;exact this
 ·obtain⟨s1,n,r1,a1,f1,f2,f3⟩:=go a k (by rw[Zl];omega) qo qo;subst e;have e3:fin (wyR L g td nm kn.length rs) none=L++[⟨g,rs,td,nm,kn.length⟩]:=by
   cases rs with
   |nil=>exact absurd rfl e2
   |cons _ _=>rfl
  rw[e3]at a1;obtain⟨k1,k2,k3,k4⟩:=k;rw[Zl]at k1 k2;obtain⟨s2,m,r2,a2,h1,h2,h3⟩:=o2 s1 a1 ⟨by rw[f1,Zl];omega,by rw[f1,Zl];omega,by rw[f2];omega,by rw[f3];omega⟩;obtain⟨l,r3⟩:=r1.trans r2;exact⟨s2,l,r3,a2,by rw[h1,f1,Y0],by rw[h2,f2];omega,by rw[h3,f3];omega⟩
end
def cutL{α:Type}(cut:Option Nat)(l:List α):List α:=match cut with
 |none=>l
 |some _=>l.take 1
noncomputable def fR(w:Str)(p:Nat×Int):Rl:=⟨p.1,.app w [.num p.2],[]⟩
theorem fR_ok{w:Str}{p:Nat×Int}:RlOk (fR w p):=⟨by show 1+(1+0)<=60;decide,λy hy=>by have hy:y∈([]:List Str):=hy;simp at hy,by show 0<=20;decide,λg hg=>by have hg:g∈([]:List Trm):=hg;simp at hg,λg hg=>by have hg:g∈([]:List Trm):=hg;simp at hg⟩
section
variable{G:Cfg}{kn:Rws}{L:List Wy}{s:St}{an:List Ans}{c d:Nat}{cut:Option Nat}{td rest:List (Trm×Nat)}{nm:List Int}{h:Nat}
theorem RwS.snoc(r:RwS kn)(hl:kn.length<=40){x:Str}{t:Trm}(hx:a1b kn x=none)(ht:t.size=1):RwS (kn++[(x,t)]):=by
 refine⟨?_,by rw[Zl,Zy];omega,λy hy=>?_⟩
 ·rw[Zo,Xq];refine⟨r.nd,qz,λa ha b hb e=>?_⟩;have hb:b=x:=by simpa using hb
  exact b1y hx (by rw[<-hb,<-e];exact ha)
 ·rcases Yt.mp hy with z|z
  ·exact r.sz y z
  ·rw[Zq.mp z];exact ht
def rowU(x:Str):Trm->Str×Trm
 | .any a=>(a,.any x)
 |t=>(x,t)
theorem d0d{w x:Str}{t:Trm}(r:RwS kn)(hl:kn.length<=40)(hx:a1b kn x=none)(ht:(∃m,t=.num m)\/∃a,t=.any a/\a≠x/\a1b kn a=none):
  ∃q,Un true kn [(.app w [t],.app w [.any x])] true (kn++[rowU x t]) q:=by
 have z2:(Trm.app w [.any x]).size<=60:=by show 1+(1+0)<=60;decide
 have w1:∀s ks,Wlk kn 0 (.app s ks) (.app s ks):=λs ks=>.stop λy e=>by cases e
 have wx:Wlk kn 0 (.any x) (.any x):=.stop λy e=>by cases e;exact hx
 have np:∀t,t≠.any x->pl2 kn (.app w [t]) (.app w [.any x])=.kids w [t] [.any x]:=λt ht=>by
  have c:¬eqb (.app w [t]) (.app w [.any x])=true:=λz=>ht (by have:=(a8h _ _).mp z;cases this;rfl)
  rw[pl2,if_neg c]
  show(if w=w/\([t]:List Trm).length=([.any x]:List Trm).length then Pl.kids w [t] [.any x]else _)=_
  rw[if_pos ⟨rfl,rfl⟩]
 have okp:∀{t:Trm},t.size=1->Okp kn (.app w [t]) (.app w [.any x]):=λ{t} z=>⟨by show 1+(t.size+0)<=60;omega,z2,qo,(λx e=>by cases e),(λy e=>by cases e)⟩
 rcases ht with⟨m,rfl⟩|⟨a,rfl,ha,hla⟩
 ·have ok2:Okp kn (.num m) (.any x):=⟨by show 1<=60;decide,by show 1<=60;decide,qo,(λx e=>by cases e),λy e _=>⟨by show 1<=60;decide,by simp[vars],λy hy=>by simp[vars]at hy⟩⟩;have hp:pl2 kn (.num m) (.any x)=.go (kn++[(x,.num m)]):=by
   rw[pl2,if_neg (λz=>by have:=(a8h _ _).mp z;cases this),<-b5j (b1y hx)];rfl
  exact⟨_,.kids (w1 _ _) (w1 _ _) (okp rfl) (np _ (λe=>by cases e)) (.go (.stop λy e=>by cases e) wx ok2 hp .done)⟩
 ·have hne:(Trm.any a)≠.any x:=λe=>ha (by cases e;rfl)
  have ok2:Okp kn (.any a) (.any x):=⟨by show 1<=60;decide,by show 1<=60;decide,qo,λy e _=>⟨by show 1<=60;decide,by cases e;simpa[vars]using ha,λy hy=>by
   have hy:y=x:=by simpa[vars]using hy
   rw[hy];exact hx⟩,λy _ e=>by cases e⟩
  have hp:pl2 kn (.any a) (.any x)=.go (kn++[(a,.any x)]):=by
   rw[pl2,if_neg (λz=>hne ((a8h _ _).mp z)),<-b5j (b1y hla)];rfl
  exact⟨_,.kids (w1 _ _) (w1 _ _) (okp rfl) (np _ hne) (.go (.stop λy e=>by cases e;exact hla) wx ok2 hp .done)⟩
theorem c2q{α β:Type}(f:α->List β)(a:α):[a].flatMap f=f a:=by rw[Wr,List.flatMap_nil,Yg]
theorem c0d{w x:Str}{C D:Nat}{A:Nat×Int->List Ans}(rk:RwS kn)(hk:kn.length<=20)(hx:a1b kn x=none)(hcut:∀h,cut=some h->h<=L.length)(ht:td.length<=30)(hn:nm.length<=40)
  (K:∀p L1,(L1=L\/∃v,L1=L++[v])->ExO G (kn++[(x,.num p.2)]) L1 td (nm++[(p.1:Int)]) (A p) C D cut):∀{fs:List (Nat×Int)},fs≠[]->fs.length<=500->ExB G kn L ⟨.app w [.any x],fs.map (fR w),td,nm,kn.length⟩ ((cutL cut fs).flatMap A) ((cutL cut fs).length*C) ((cutL cut fs).length*(D+1)) cut
 | [],h,_=>absurd rfl h
 |p::r,_,hl=>by
  rw[length_cons]at hl
  have tr:=λan2 c2 d2 cut2=>c5h (G:=G) (kn:=kn) (L:=L) (td:=td) (nm:=nm) (g:=.app w [.any x]) (r:=fR w p) (rs:=r.map (fR w)) (e1:=λ_=>[(x,.num p.2)]) (an1:=A p) (an2:=an2) (c1:=C) (c2:=c2) (d1:=D) (d2:=d2) (cut1:=cut) (cut2:=cut2) fR_ok (by show 0<=10;decide) (by rw[length_map];omega) ht hn (λk=>⟨rk.snoc qo hx rfl,d0d rk qo hx (.inl ⟨p.2,rfl⟩)⟩) (λk=>K p _ (by
   cases r with
   |nil=>exact .inl rfl
   |cons _ _=>exact .inr ⟨_,rfl⟩))
  cases hc:cut with
  |some h=>
   have:=(tr [] 0 0 none).1 h hc (hcut h hc);exact this.to (c2q A p).symm (Sg C).symm (Sg _).symm
  |none=>
   by_cases hr:r=[]
   ·subst hr;have:=(tr [] 0 0 none).2.1 hc rfl;exact this.to (c2q A p).symm (Sg C).symm (Sg _).symm
   ·have ih:=c0d (w:=w) rk hk hx hcut ht hn K hr qo;rw[hc]at ih;have:=(tr _ _ _ _).2.2 hc (λe=>hr (Ub.mp e)) ih;refine this.to ?_ ?_ ?_
    ·show A p++r.flatMap A=(p::r).flatMap A
     rw[Wr]
    ·show C+r.length*C=(r.length+1)*C
     rw[T1];omega
    ·show D+1+r.length*(D+1)=(r.length+1)*(D+1)
     rw[T1 (r.length)];omega
theorem a5y{w x:Str}{z:Trm}{C D:Nat}{A:Nat×Int->List Ans}{fs:List (Nat×Int)}(rk:RwS kn)(hk:kn.length<=20)(hx:a1b kn x=none)(hcut:∀h,cut=some h->h<=L.length)(ht:td.length<=30)(hn:nm.length<=40)(hL:L.length<=40)
  (hw:Wd w)(hz:Full kn (.app w [z]) (.app w [.any x]))(hs:z.size<=50)(hF:a1x G.tab (nd w 1)=fs.map (fR w))(hfl:fs.length<=500)
  (K:∀p L1,(L1=L\/∃v,L1=L++[v])->ExO G (kn++[(x,.num p.2)]) L1 td (nm++[(p.1:Int)]) (A p) C D cut):ExO G kn L ((.app w [z],h)::td) nm ((cutL cut fs).flatMap A) (1+(cutL cut fs).length*C) ((cutL cut fs).length*(D+1)) (if fs=[]then none else cut):=by
 by_cases hf:fs=[]
 ·subst hf;rw[if_pos rfl];have e:cutL cut ([]:List (Nat×Int))=[]:=by cases cut<;>rfl
  rw[e];exact(c2p hw hz hs hF).to rfl (by show 1=1+0*C;omega) (by show 0=0*(D+1);omega)
 ·rw[if_neg hf];have:=c0d (w:=w) rk hk hx hcut ht hn K hf hfl;exact(c5g hw hz hs hF (λe=>hf (Ub.mp e)) hL this).to rfl qo rfl
end
inductive Bdy where
 |plain|ahead|behind
def a2o(g:Trm):Bdy->List Trm
 | .plain=>[g]
 | .ahead=>[a2g,g]
 | .behind=>[g,a2g]
noncomputable def solR(n:Nat)(fs:List (Nat×Int)):Bdy->List (Int×List Int)
 | .plain=>fs.map λp=>(p.2,[(n:Int),(p.1:Int)])
 | .ahead=>fs.map λp=>(p.2,[(n:Int),0,(p.1:Int)])
 | .behind=>(fs.take 1).map λp=>(p.2,[(n:Int),(p.1:Int),0])
def a5g(fs:List (Nat×Int)):Bdy->Bool
 | .plain=>false
 | .ahead=>true
 | .behind=>!fs.isEmpty
noncomputable def cntR(fs:List (Nat×Int)):Bdy->Nat
 | .plain=>1
 | .ahead=>2
 | .behind=>if fs=[]then 1 else 2
noncomputable def nB(ck:Option Nat)(fs:List (Nat×Int)):Bdy->Nat
 | .behind=>(fs.take 1).length
 |_=>(cutL ck fs).length
noncomputable def cB(ck:Option Nat)(fs:List (Nat×Int))(C:Nat):Bdy->Nat
 | .plain=>1+(cutL ck fs).length*C
 | .ahead=>2+(cutL ck fs).length*C
 | .behind=>1+(fs.take 1).length*(C+1)
noncomputable def cutB(ck:Option Nat)(fs:List (Nat×Int))(l:Nat):Bdy->Option Nat
 | .plain=>if fs=[]then none else ck
 | .ahead=>cutH l (if fs=[]then none else ck)
 | .behind=>if fs=[]then none else cutH l ck
theorem c2r{α β:Type}(ck:Option Nat)(f:α->β)(l:List α):cutL ck (l.map f)=(cutL ck l).map f:=by
 cases ck with
 |none=>rfl
 |some h=>exact V1.symm
theorem d3n{α:Type}(ck:Option Nat){l:List α}(h:l.length<=1):cutL ck l=l:=by
 cases ck with
 |none=>rfl
 |some _=>exact Yo h
theorem b5w{α β γ:Type}(f:α->β)(g:β->List γ)(l:List α):(l.map f).flatMap g=l.flatMap λa=>g (f a):=by
 induction l with
 |nil=>rfl
 |cons a r ih=>rw[Z5,Wr,Wr,ih]
def KX(G:Cfg)(kn:Rws)(x:Str)(rest:List (Trm×Nat))(nm:List Int)(A:Int×List Int->List Ans)(C D:Nat)(ck:Option Nat):Prop:=∀(k:Nat)(m:Int)(way:List Int)(L:List Wy),way.length<=5->L.length<=10->ExO G (kn++[(mrk k (uS++tn 1),.any x)]++[(x,.num m)]) L rest (nm++way) (A (m,way)) C D ck
theorem d3o{G:Cfg}{kn:Rws}{L L1:List Wy}{w x a:Str}{n C D k:Nat}{A:Int×List Int->List Ans}{fs:List (Nat×Int)}{ck:Option Nat}{rest:List (Trm×Nat)}{nm:List Int}(b:Bdy)(rk:RwS (kn++[(a,.any x)]))(hk:kn.length<=10)(ha:a=mrk k (uS++tn 1))(hx:a1b (kn++[(a,.any x)]) x=none)(hla:a1b (kn++[(a,.any x)]) a=some (.any x))(hck:ck=none\/ck=some 0)(ht:rest.length<=20)(hn:nm.length<=20)(hL:L.length<=5)(hL1:L1=L\/∃v,L1=L++[v])
  (hw:Wd w)(hF:a1x G.tab (nd w 1)=fs.map (fR w))(hfl:fs.length<=500)(K:KX G kn x rest nm A C D ck):
  ExO G (kn++[(a,.any x)]) L1 ((a2o (.app w [.any a]) b).map (λg=>(g,L.length))++rest) (nm++[(n:Int)]) ((cutL ck (solR n fs b)).flatMap A) (cB ck fs C b) (nB ck fs b*(D+1)) (cutB ck fs L.length b):=by
 have hz:Full (kn++[(a,.any x)]) (.app w [.any a]) (.app w [.any x]):=.app (.cons (.yes hla (.no hx)) .nil);have hck0:∀{L':List Wy} h,ck=some h->h<=L'.length:=λ{L'} h e=>by
  rcases hck with z|z
  ·rw[z]at e;cases e
  ·rw[z]at e;cases e;exact Z0 _
 have hll:L1.length<=6/\L1.take L.length=L:=by
  rcases hL1 with rfl|⟨v,rfl⟩
  ·exact⟨qo,Yx ..⟩
  ·exact⟨by rw[Zl,Zy];omega,by rw[List.take_left'];rfl⟩
 have lk:(kn++[(a,Trm.any x)]).length<=20:=by rw[Zl,Zy];omega
 cases b with
 |plain=>
  have:=a5y (G:=G) (L:=L1) (h:=L.length) (td:=rest) (nm:=nm++[(n:Int)]) (cut:=ck) (A:=λp=>A (p.2,[(n:Int),(p.1:Int)])) (C:=C) (D:=D) rk lk hx hck0 qo (by rw[Zl,Zy];omega) qo hw hz (by show 1<=50;decide) hF hfl (λp L2 h2=>by
   have:=K k p.2 [(n:Int),(p.1:Int)] L2 qz (by
    rcases h2 with rfl|⟨v,rfl⟩
    ·omega
    ·rw[Zl,Zy];omega)
   rw[Y0 nm,<-ha]at*
   exact this)
  refine this.to ?_ rfl rfl;rw[solR,c2r,b5w]
 |ahead=>
  have:=a5y (G:=G) (L:=L) (h:=L.length) (td:=rest) (nm:=nm++[(n:Int)]++[0]) (cut:=ck) (A:=λp=>A (p.2,[(n:Int),0,(p.1:Int)])) (C:=C) (D:=D) rk lk hx hck0 qo (by rw[Zl,Zl,Zy,Zy];omega) qo hw hz (by show 1<=50;decide) hF hfl (λp L2 h2=>by
   have:=K k p.2 [(n:Int),0,(p.1:Int)] L2 qz (by
    rcases h2 with rfl|⟨v,rfl⟩
    ·omega
    ·rw[Zl,Zy];omega)
   rw[Y0 nm,Y0 nm,<-ha]at*
   exact this)
  have:=b2e (L:=L1) (h:=L.length) (nm:=nm++[(n:Int)]) (by rw[Zl,Zy];omega) (by rw[hll.2];exact this);refine this.to ?_ (by show 1+_+1=2+_;omega) rfl;rw[solR,c2r,b5w]
 |behind=>
  have:=a5y (G:=G) (L:=L1) (h:=L.length) (td:=(a2g,L.length)::rest) (nm:=nm++[(n:Int)]) (cut:=cutH L.length ck) (A:=λp=>A (p.2,[(n:Int),(p.1:Int),0])) (C:=C+1) (D:=D) rk lk hx (λh e=>by
   have:h<=L.length:=by
    cases ck with
    |none=>cases e;exact Zn _
    |some h'=>cases e;omega
   have h2:L.length<=L1.length:=by
    rcases hL1 with rfl|⟨v,rfl⟩
    ·exact Zn _
    ·rw[Zl];omega
   omega) (by rw[length_cons];omega) (by rw[Zl,Zy];omega) qo hw hz (by show 1<=50;decide) hF hfl (λp L2 h2=>by
   have e2:L2.take L.length=L:=by
    rcases h2 with rfl|⟨v,rfl⟩
    ·exact hll.2
    ·rw[Sh (by rcases hL1 with rfl|⟨v,rfl⟩;exact Zn _;rw[Zl];omega)];exact hll.2
   have:=K k p.2 [(n:Int),(p.1:Int),0] L qz qo;refine b2e (L:=L2) (h:=L.length) (by rw[Zl,Zl,Zy,Zy];omega) ?_;rw[e2,Y0 nm,Y0 nm,<-ha]at*
   exact this)
  have ec:cutL (cutH L.length ck) fs=fs.take 1:=by cases ck<;>rfl
  rw[ec]at this;refine this.to ?_ rfl rfl;rw[solR,d3n ck (by rw[length_map,Z7];omega),b5w]
structure R4 where
 n:Nat
 b:Bdy
 w:Str
 fs:List (Nat×Int)
abbrev uA:Trm:=.any (uS++tn 1)
def R4.rl(w3:Str)(r:R4):Rl:=⟨r.n,.app w3 [uA],a2o (.app r.w [uA]) r.b⟩
structure R4.Ok(G:Cfg)(r:R4):Prop where
 w:Wd r.w
 f:a1x G.tab (nd r.w 1)=r.fs.map (fR r.w)
 l:r.fs.length<=500
noncomputable def sol4:List R4->List (Int×List Int)
 | []=>[]
 |r::rs=>solR r.n r.fs r.b++(if a5g r.fs r.b=true then[]else sol4 rs)
noncomputable def cut4(ck:Option Nat)(l:Nat):List R4->Option Nat
 | []=>none
 |r::rs=>match cutB ck r.fs l r.b with
  |some h=>some h
  |none=>cut4 ck l rs
noncomputable def c4(ck:Option Nat)(C l:Nat):List R4->Nat
 | []=>0
 |r::rs=>cB ck r.fs C r.b+match cutB ck r.fs l r.b with
  |some _=>0
  |none=>c4 ck C l rs
noncomputable def d4(ck:Option Nat)(D l:Nat):List R4->Nat
 | []=>0
 |r::rs=>nB ck r.fs r.b*(D+1)+1+match cutB ck r.fs l r.b with
  |some _=>0
  |none=>d4 ck D l rs
theorem b8w{r:R4}(h:solR r.n r.fs r.b=[]):r.fs=[]:=by
 obtain⟨n,b,w,fs⟩:=r;cases fs with
 |nil=>rfl
 |cons p q=>cases b<;>cases h
theorem b3l{ck:Option Nat}(hck:ck=none\/ck=some 0){r:R4}{l:Nat}:(cutB ck r.fs l r.b=none/\cutL ck (sol4 (r::[]))=cutL ck (solR r.n r.fs r.b)/\a5g r.fs r.b=false/\(ck=none\/solR r.n r.fs r.b=[]))\/(∃h,cutB ck r.fs l r.b=some h/\h<=l/\(ck=none\/solR r.n r.fs r.b=[]->a5g r.fs r.b=true/\h=l)/\(ck=some 0->solR r.n r.fs r.b≠[]->h=0)):=by
 obtain⟨n,b,w,fs⟩:=r;have e0:cutL ck (sol4 [⟨n,b,w,fs⟩])=cutL ck (solR n fs b):=by
  show cutL ck (solR n fs b++(if a5g fs b=true then[]else[]))=_
  rw[ite_self,Yg]
 cases b with
 |plain=>
  by_cases hf:fs=[]
  ·exact .inl ⟨by show(if fs=[]then none else ck)=none;rw[if_pos hf],e0,rfl,.inr (by subst hf;rfl)⟩
  ·rcases hck with rfl|rfl
   ·exact .inl ⟨by show(if fs=[]then none else none)=none;rw[if_neg hf],e0,rfl,.inl rfl⟩
   ·refine .inr ⟨0,by show(if fs=[]then none else some 0)=_;rw[if_neg hf],Z0 _,λz=>?_,λ_ _=>rfl⟩;rcases z with z|z
    ·cases z
    ·exact absurd (b8w (r:=⟨n,.plain,w,fs⟩) z) hf
 |ahead=>
  by_cases hf:fs=[]
  ·exact .inr ⟨l,by show cutH l (if fs=[]then none else ck)=_;rw[if_pos hf];rfl,Zn _,λ_=>⟨rfl,rfl⟩,λ_ z=>absurd (by show solR n fs .ahead=[];rw[hf];rfl) z⟩
  ·rcases hck with rfl|rfl
   ·exact .inr ⟨l,by show cutH l (if fs=[]then none else none)=_;rw[if_neg hf];rfl,Zn _,λ_=>⟨rfl,rfl⟩,λz=>by cases z⟩
   ·refine .inr ⟨0,by show cutH l (if fs=[]then none else some 0)=_;rw[if_neg hf];show some (min 0 l)=_;rw[Nat.zero_min],Z0 _,λz=>?_,λ_ _=>rfl⟩;rcases z with z|z
    ·cases z
    ·exact absurd (b8w (r:=⟨n,.ahead,w,fs⟩) z) hf
 |behind=>
  by_cases hf:fs=[]
  ·exact .inl ⟨by show(if fs=[]then none else _)=none;rw[if_pos hf],e0,by show(!fs.isEmpty)=false;rw[hf];rfl,.inr (by subst hf;rfl)⟩
  ·have ho:a5g fs .behind=true:=by
    show(!fs.isEmpty)=true
    cases fs with
    |nil=>exact absurd rfl hf
    |cons _ _=>rfl
   rcases hck with rfl|rfl
   ·exact .inr ⟨l,by show(if fs=[]then none else cutH l none)=_;rw[if_neg hf];rfl,Zn _,λ_=>⟨ho,rfl⟩,λz=>by cases z⟩
   ·refine .inr ⟨0,by show(if fs=[]then none else cutH l (some 0))=_;rw[if_neg hf];show some (min 0 l)=_;rw[Nat.zero_min],Z0 _,λz=>?_,λ_ _=>rfl⟩;rcases z with z|z
    ·cases z
    ·exact absurd (b8w (r:=⟨n,.behind,w,fs⟩) z) hf
theorem R4.rlOk(w3:Str)(r:R4):RlOk (r.rl w3)/\(r.rl w3).goals.length<=2/\∀(k l:Nat),(r.rl w3).goals.map (λg=>(ren (mrk k) g,l))=(a2o (.app r.w [.any (mrk k (uS++tn 1))]) r.b).map λg=>(g,l):=by
 have hu:(uS++tn 1).length<=1000:=by decide+kernel
 have hv:∀y∈vars (.app r.w [uA]),y.length<=1000:=λy hy=>by
  have hy:y=uS++tn 1:=by simpa[vars,a3n]using hy
  rw[hy];exact hu
 obtain⟨n,b,w,fs⟩:=r;have h2:(Trm.app w [uA]).size<=60:=by show 1+(1+0)<=60;decide
 have h3:a2g.size<=60:=by show 1+0<=60;decide
 have h4:∀g∈a2o (.app w [uA]) b,g=.app w [uA]\/g=a2g:=λg hg=>by
  cases b<;>simp only[a2o,Zu,Z6,Xm]at hg
  ·exact .inl hg
  ·exact hg.symm
  ·exact hg
 refine⟨⟨by show 1+(1+0)<=60;decide,λy hy=>?_,by cases b<;>simp[R4.rl,a2o],λg hg=>?_,λg hg y hy=>?_⟩,by cases b<;>simp[R4.rl,a2o],λk l=>by cases b<;>rfl⟩
 ·have hy:y=uS++tn 1:=by simpa[R4.rl,vars,a3n]using hy
  rw[hy];exact hu
 ·rcases h4 g hg with rfl|rfl
  ·exact h2
  ·exact h3
 ·rcases h4 g hg with rfl|rfl
  ·exact hv y hy
  ·simp[vars,a3n]at hy
section
variable{G:Cfg}{kn:Rws}{L:List Wy}{rest:List (Trm×Nat)}{nm:List Int}{h C D:Nat}{w3 x:Str}{A:Int×List Int->List Ans}{ck:Option Nat}
theorem c2s{α:Type}{a b:List α}:(ck=none\/a=[]->cutL ck (a++b)=cutL ck a++cutL ck b)/\((∃h,ck=some h)->a≠[]->cutL ck (a++b)=cutL ck a):=by
 refine⟨λz=>?_,λz n=>?_⟩
 ·rcases z with rfl|rfl
  ·rfl
  ·cases ck with
   |none=>rfl
   |some _=>rfl
 ·obtain⟨h,rfl⟩:=z;cases a with
  |nil=>exact absurd rfl n
  |cons _ _=>rfl
theorem c0e(rk:RwS kn)(hk:kn.length<=5)(hx:a1b kn x=none)(hm:∀k,mrk k (uS++tn 1)≠x/\a1b kn (mrk k (uS++tn 1))=none)(hck:ck=none\/ck=some 0)(ht:rest.length<=20)(hn:nm.length<=15)(hL:L.length<=5)(K:KX G kn x rest nm A C D ck):
  ∀{rs:List R4},(∀r∈rs,r.Ok G)->rs≠[]->rs.length<=500->ExB G kn L ⟨.app w3 [.any x],rs.map (R4.rl w3),rest,nm,kn.length⟩ ((cutL ck (sol4 rs)).flatMap A) (c4 ck C L.length rs) (d4 ck D L.length rs) (cut4 ck L.length rs)
 | [],_,h,_=>absurd rfl h
 |r::rs,hr,_,hl=>by
  rw[length_cons]at hl;obtain⟨o1,o2,o3⟩:=r.rlOk w3;have rok:=hr r (Yd ..);have look2:∀k,a1b (kn++[(mrk k (uS++tn 1),.any x)]) x=none/\a1b (kn++[(mrk k (uS++tn 1),.any x)]) (mrk k (uS++tn 1))=some (.any x):=λk=>by
   obtain⟨m1,m2⟩:=hm k;refine⟨?_,?_⟩
   ·unfold a1b at hx ⊢;rw[T5,W5.mp hx]
    simp[m1]
   ·unfold a1b at m2 ⊢;rw[T5,W5.mp m2]
    simp
  have tr:=λan2 c2 d2 cut2=>c5h (G:=G) (kn:=kn) (L:=L) (td:=rest) (nm:=nm) (g:=.app w3 [.any x]) (r:=r.rl w3) (rs:=rs.map (R4.rl w3)) (e1:=λk=>[(mrk k (uS++tn 1),.any x)]) (an1:=(cutL ck (solR r.n r.fs r.b)).flatMap A) (an2:=an2) (c1:=cB ck r.fs C r.b) (c2:=c2) (d1:=nB ck r.fs r.b*(D+1)) (d2:=d2) (cut1:=cutB ck r.fs L.length r.b) (cut2:=cut2) o1 qo (by rw[length_map];omega) qo qo
   (λk=>⟨rk.snoc qo (hm k).2 rfl,d0d (t:=.any (mrk k (uS++tn 1))) rk qo hx (.inr ⟨_,rfl,(hm k).1,(hm k).2⟩)⟩)
   (λk=>by
    rw[o3]
    exact d3o r.b (rk.snoc qo (hm k).2 rfl) qo (k:=k) rfl (look2 k).1 (look2 k).2 hck ht qo hL (by
     cases rs with
     |nil=>exact .inl rfl
     |cons _ _=>exact .inr ⟨_,rfl⟩) rok.w rok.f rok.l K)
  rcases b3l hck (r:=r) (l:=L.length)with⟨e,_,ho,hz⟩|⟨hh,e,hle,h1,h2⟩
  ·have es:sol4 (r::rs)=solR r.n r.fs r.b++sol4 rs:=by
    rw[sol4,ho];rfl
   by_cases hrs:rs=[]
   ·subst hrs;have:=(tr [] 0 0 none).2.1 e rfl;have ec:cut4 ck L.length [r]=none:=by rw[cut4,e];rfl
    rw[ec];refine this.to ?_ ?_ ?_
    ·rw[es]
     show _=(cutL ck (solR r.n r.fs r.b++[])).flatMap A
     rw[Yg]
    ·rw[c4,e];rfl
    ·rw[d4,e];rfl
   ·have ih:=c0e (rs:=rs) rk hk hx hm hck ht hn hL K (λy hy=>hr y (Zx _ hy)) hrs qo;have:=(tr _ _ _ _).2.2 e (λz=>hrs (Ub.mp z)) ih;have ec:cut4 ck L.length (r::rs)=cut4 ck L.length rs:=by rw[cut4,e]
    rw[ec];refine this.to ?_ ?_ ?_
    ·rw[es,c2s.1 hz,R9]
    ·rw[c4,e]
    ·rw[d4,e]
  ·have:=(tr [] 0 0 none).1 hh e hle;have ec:cut4 ck L.length (r::rs)=some hh:=by rw[cut4,e]
   rw[ec];refine this.to ?_ ?_ ?_
   ·by_cases hz:ck=none\/solR r.n r.fs r.b=[]
    ·rw[sol4,(h1 hz).1,if_pos rfl,Yg]
    ·have n1:ck≠none:=λz=>hz (.inl z)
     have n2:solR r.n r.fs r.b≠[]:=λz=>hz (.inr z)
     rw[sol4,c2s.2 (by cases ck with|none=>exact absurd rfl n1|some h=>exact⟨h,rfl⟩) n2]
   ·rw[c4,e];rfl
   ·rw[d4,e];rfl
theorem a8d{rs:List R4}(rk:RwS kn)(hk:kn.length<=5)(hx:a1b kn x=none)(hm:∀k,mrk k (uS++tn 1)≠x/\a1b kn (mrk k (uS++tn 1))=none)(hck:ck=none\/ck=some 0)(ht:rest.length<=20)(hn:nm.length<=15)(hL:L.length<=5)
  (hw:Wd w3)(hF:a1x G.tab (nd w3 1)=rs.map (R4.rl w3))(hr:∀r∈rs,r.Ok G)(hl:rs.length<=500)(K:KX G kn x rest nm A C D ck):
  ExO G kn L ((.app w3 [.any x],h)::rest) nm ((cutL ck (sol4 rs)).flatMap A) (c4 ck C L.length rs+1) (d4 ck D L.length rs) (cut4 ck L.length rs):=by
 have hz:Full kn (.app w3 [.any x]) (.app w3 [.any x]):=.app (.cons (.no hx) .nil)
 by_cases hrs:rs=[]
 ·subst hrs;have e:cutL ck (sol4 [])=[]:=by cases ck<;>rfl
  rw[e];exact c2p hw hz (by show 1<=50;decide) hF
 ·exact c5g hw hz (by show 1<=50;decide) hF (λe=>hrs (Ub.mp e)) qo (c0e rk hk hx hm hck ht hn hL K hr hrs hl)
end
theorem c0f{l:Nat}:∀(rs:List R4),cut4 none l rs=none\/cut4 none l rs=some l
 | []=>.inl rfl
 |r::rs=>by
  rw[cut4];rcases b3l (ck:=none) (.inl rfl) (r:=r) (l:=l)with⟨e,_⟩|⟨h,e,_,h1,_⟩
  ·rw[e];exact c0f rs
  ·rw[e,(h1 (.inl rfl)).2];exact .inr rfl
theorem d3p{L:List Wy}(rs:List R4):fin L (cut4 none L.length rs)=fin L none:=by
 rcases c0f (l:=L.length) rs with e|e
 ·rw[e]
 ·rw[e];show L.take L.length=L;rw[Yx]
noncomputable def cnt4:List R4->Nat
 | []=>0
 |r::rs=>cntR r.fs r.b+(if a5g r.fs r.b=true then 0 else cnt4 rs)
theorem cB_cnt{r:R4}{C:Nat}:cB none r.fs C r.b=cntR r.fs r.b+(solR r.n r.fs r.b).length*C:=by
 obtain⟨n,b,w,fs⟩:=r;cases b with
 |plain=>show 1+fs.length*C=1+(fs.map _).length*C;rw[length_map]
 |ahead=>show 2+fs.length*C=2+(fs.map _).length*C;rw[length_map]
 |behind=>
  show 1+(fs.take 1).length*(C+1)=(if fs=[]then 1 else 2)+((fs.take 1).map _).length*C
  rw[length_map];cases fs with
  |nil=>rw[if_pos rfl];show 1+0*(C+1)=1+0*C;omega
  |cons p q=>rw[if_neg qz];show 1+1*(C+1)=2+1*C;omega
theorem b7n{C l:Nat}:∀(rs:List R4),c4 none C l rs=cnt4 rs+(sol4 rs).length*C
 | []=>by show 0=0+0*C;omega
 |r::rs=>by
  have ih:=b7n (C:=C) (l:=l) rs;rw[c4,cnt4,sol4,cB_cnt,Zl];rcases b3l (ck:=none) (.inl rfl) (r:=r) (l:=l)with⟨e,_,ho,_⟩|⟨h,e,_,h1,_⟩
  ·rw[e,ho];simp only[Wi,V3];rw[ih,Nat.add_mul];omega
  ·rw[e,(h1 (.inl rfl)).1];simp only[if_true];rw[length_nil,T3,T3,T3]
def Sm(rs:List R4):Prop:=rs.length<=2/\∀r∈rs,r.fs.length<=4
theorem b3m{α:Type}(l:List α):(l.take 1).length<=1:=by rw[Z7];omega
theorem a5r{α:Type}(ck:Option Nat)(l:List α):(cutL ck l).length<=l.length:=by
 cases ck with
 |none=>exact Zn _
 |some _=>show(l.take 1).length<=_;rw[Z7];omega
theorem nB_le{ck:Option Nat}{fs:List (Nat×Int)}{b:Bdy}(h:fs.length<=4):nB ck fs b<=4:=by
 have h1:=a5r ck fs;have h2:=b3m fs;cases b
 ·show(cutL ck fs).length<=4;omega
 ·show(cutL ck fs).length<=4;omega
 ·show(fs.take 1).length<=4;omega
theorem d0e{n:Nat}{fs:List (Nat×Int)}{b:Bdy}(h:fs.length<=4):(solR n fs b).length<=4:=by
 have h2:=b3m fs;cases b
 ·show(fs.map _).length<=4;rw[length_map];exact h
 ·show(fs.map _).length<=4;rw[length_map];exact h
 ·show((fs.take 1).map _).length<=4;rw[length_map];omega
theorem cB_le{ck:Option Nat}{fs:List (Nat×Int)}{b:Bdy}{C:Nat}(h:fs.length<=4):cB ck fs C b<=2+4*(C+1):=by
 have h1:=X9 C (Yn (a5r ck fs) h);have h2:=X9 (C+1) (b3m fs);cases b
 ·show 1+_*C<=_;omega
 ·show 2+_*C<=_;omega
 ·show 1+_*(C+1)<=_;omega
theorem c2t{α:Type}(f:List α->Nat)(g:α->Nat)(N:Nat)(h0:f []=0)(h1:∀r rs,f (r::rs)<=g r+f rs):∀{rs:List α},rs.length<=2->(∀r∈rs,g r<=N)->f rs<=2*N
 | [],_,_=>by omega
 | [a],_,h=>by
  have:=h1 a [];have:=h a qz;omega
 | [a,b],_,h=>by
  have:=h1 a [b];have:=h1 b [];have:=h a qz;have:=h b qz;omega
 |_::_::_::_,h,_=>by simp at h
theorem b8x{rs:List R4}(h:Sm rs):(sol4 rs).length<=8:=c2t (λrs=>(sol4 rs).length) (λr=>(solR r.n r.fs r.b).length) 4 rfl (λr rs=>by
 show(solR r.n r.fs r.b++_).length<=_
 rw[Zl]
 split
 ·simp
 ·exact Zn _) h.1 λr hr=>d0e (h.2 r hr)
theorem c0y{ck:Option Nat}{C l:Nat}{rs:List R4}(h:Sm rs):c4 ck C l rs<=2*(2+4*(C+1)):=c2t (c4 ck C l) (λr=>cB ck r.fs C r.b) _ rfl (λr rs=>by
 rw[c4]
 split<;>omega) h.1 λr hr=>cB_le (h.2 r hr)
theorem d4_le{ck:Option Nat}{D l:Nat}{rs:List R4}(h:Sm rs):d4 ck D l rs<=2*(4*(D+1)+1):=c2t (d4 ck D l) (λr=>nB ck r.fs r.b*(D+1)+1) _ rfl (λr rs=>by
 rw[d4]
 split<;>omega) h.1 λr hr=>by
  have:=X9 (D+1) (nB_le (ck:=ck) (b:=r.b) (h.2 r hr))
  show nB ck r.fs r.b*(D+1)+1<=_
  omega
noncomputable def fsel(k:List Key):List (Trm×List Trm)->Nat->List Rl
 | [],_=>[]
 |x::r,n=>if keyT x.1=k then mkRl (n+1) x::fsel k r (n+1)else fsel k r (n+1)
theorem c0g{k k':List Key}{x:Rl}:∀(tb:List (List Key×List Rl)),a1x (addT tb k' x) k=if k'=k then a1x tb k++[x]else a1x tb k
 | []=>by
  rw[addT,a1x,a1x]
  by_cases c:k'=k
  ·rw[if_pos c,if_pos c];rfl
  ·rw[if_neg c,if_neg c,a1x]
 | (a,l)::r=>by
  have ih:=c0g (k:=k) (k':=k') (x:=x) r;rw[addT]
  by_cases c1:a=k'
  ·rw[if_pos c1,a1x,a1x]
   by_cases c2:k'=k
   ·rw[if_pos (c1.trans c2),if_pos c2,if_pos (c1.trans c2)]
   ·have c3:¬a=k:=λz=>c2 (c1.symm.trans z)
    rw[if_neg c3,if_neg c2,if_neg c3]
  ·rw[if_neg c1,a1x,a1x]
   by_cases c3:a=k
   ·have c2:¬k'=k:=λz=>c1 (c3.trans z.symm)
    rw[if_pos c3,if_neg c2,if_pos c3]
   ·rw[if_neg c3,ih,if_neg c3]
theorem b7o{k:List Key}:∀(rs:List (Trm×List Trm))(n:Nat)(tb:List (List Key×List Rl)),a1x (tabF rs n tb) k=a1x tb k++fsel k rs n
 | [],n,tb=>by rw[tabF,fsel,Yg]
 |x::r,n,tb=>by
  rw[tabF,b7o r,c0g,fsel]
  by_cases c:keyT x.1=k
  ·rw[if_pos c,if_pos c,Y0];rfl
  ·rw[if_neg c,if_neg c]
theorem b8y{w w':Str}{n m:Nat}:nd w' n=nd w m↔w'=w/\n=m:=by
 constructor
 ·intro h;simp only[nd,Te,Sum.inr.injEq,Sum.inl.injEq,and_true]at h;exact⟨h.1,by have:=h.2;omega⟩
 ·rintro⟨rfl,rfl⟩;rfl
theorem b4z(a b:Str):(a++b).length=a.length+b.length:=by
 obtain⟨⟨a⟩⟩:=a;obtain⟨⟨b⟩⟩:=b;rw[str_app,str_len,str_len,str_len,Zl]
inductive En where
 |fact(i:Nat)(m:Int)
 |rule(b:Bdy)(i:Nat)
abbrev aaS:Str:=ofString "A"
abbrev xxS:Str:=ofString "X"
abbrev yyS:Str:=ofString "Y"
def En.tr(W:Nat->Str):En->Trm×List Trm
 | .fact i m=>(.app (W i) [.num m],[])
 | .rule b i=>(.app (W 3) [.any aaS],a2o (.app (W i) [.any aaS]) b)
noncomputable def fcs(i:Nat):List En->Nat->List (Nat×Int)
 | [],_=>[]
 | .fact j m::r,n=>if j=i then(n+1,m)::fcs i r (n+1)else fcs i r (n+1)
 | .rule _ _::r,n=>fcs i r (n+1)
noncomputable def rls(W:Nat->Str)(es:List En):List En->Nat->List R4
 | [],_=>[]
 | .fact _ _::r,n=>rls W es r (n+1)
 | .rule b i::r,n=>⟨n+1,b,W i,fcs i es 0⟩::rls W es r (n+1)
structure WOk(W:Nat->Str):Prop where
 inj:∀i j,i<5->j<5->W i=W j->i=j
 wd:∀i,i<5->Wd (W i)
def En.Ok:En->Prop
 | .fact i _=>i<3
 | .rule _ i=>i<2
theorem mk_fact{W:Nat->Str}{i n:Nat}{m:Int}:mkRl n ((En.fact i m).tr W)=fR (W i) (n,m):=rfl
theorem mk_rule{W:Nat->Str}{b:Bdy}{i n:Nat}{fs:List (Nat×Int)}:mkRl n ((En.rule b i).tr W)=R4.rl (W 3) ⟨n,b,W i,fs⟩:=by
 have eo:ordL ((.app (W 3) [.any aaS])::a2o (.app (W i) [.any aaS]) b) []=[aaS]:=by
  cases b<;>simp[ordL,ord,a2o]
 have ef:fAn ((En.rule b i).tr W) aaS=uS++tn 1:=by
  show sub (mkA (λj _=>uS++tn (j+1)) 0 (ordL ((.app (W 3) [.any aaS])::a2o (.app (W i) [.any aaS]) b) [])) aaS=_
  rw[eo];rfl
 have e1:∀w,ren (fAn ((En.rule b i).tr W)) (.app w [.any aaS])=.app w [uA]:=λw=>by
  rw[ren,renL,renL,ren,ef]
 show(⟨n,ren (fAn ((En.rule b i).tr W)) (.app (W 3) [.any aaS]),renL (fAn ((En.rule b i).tr W)) (a2o (.app (W i) [.any aaS]) b)⟩:Rl)=_
 rw[e1];have e2:renL (fAn ((En.rule b i).tr W)) (a2o (.app (W i) [.any aaS]) b)=a2o (.app (W i) [uA]) b:=by
  cases b
  ·show[ren _ _]=_;rw[e1];rfl
  ·show[ren _ _,ren _ _]=_;rw[e1];rfl
  ·show[ren _ _,ren _ _]=_;rw[e1];rfl
 rw[e2];rfl
theorem a9m{W:Nat->Str}(hW:WOk W){i:Nat}(hi:i<3):∀{es:List En}{n:Nat},(∀e∈es,e.Ok)->fsel (nd (W i) 1) (es.map (En.tr W)) n=(fcs i es n).map (fR (W i))
 | [],_,_=>rfl
 | .fact j m::r,n,h=>by
  have ih:=a9m hW hi (es:=r) (n:=n+1) λe he=>h e (Zx _ he)
  have hj:j<3:=h _ (Yd ..);rw[Z5,fsel,fcs]
  by_cases c:j=i
  ·subst c;rw[if_pos (show keyT ((En.fact j m).tr W).1=nd (W j) 1 from rfl),if_pos rfl,ih,mk_fact];rfl
  ·rw[if_neg (show ¬keyT ((En.fact j m).tr W).1=nd (W i) 1 fromλz=>c (hW.inj j i qo qo (b8y.mp z).1)),if_neg c,ih]
 | .rule b j::r,n,h=>by
  have ih:=a9m hW hi (es:=r) (n:=n+1) λe he=>h e (Zx _ he)
  rw[Z5,fsel,fcs,if_neg (show ¬keyT ((En.rule b j).tr W).1=nd (W i) 1 fromλz=>by have:=hW.inj 3 i qo qo (b8y.mp z).1;omega),ih]
theorem b3n{W:Nat->Str}(hW:WOk W){es0:List En}:∀{es:List En}{n:Nat},(∀e∈es,e.Ok)->fsel (nd (W 3) 1) (es.map (En.tr W)) n=(rls W es0 es n).map (R4.rl (W 3))
 | [],_,_=>rfl
 | .fact j m::r,n,h=>by
  have ih:=b3n hW (es0:=es0) (es:=r) (n:=n+1) λe he=>h e (Zx _ he)
  have hj:j<3:=h _ (Yd ..);rw[Z5,fsel,rls,if_neg (show ¬keyT ((En.fact j m).tr W).1=nd (W 3) 1 fromλz=>by have:=hW.inj j 3 qo qo (b8y.mp z).1;omega),ih]
 | .rule b j::r,n,h=>by
  have ih:=b3n hW (es0:=es0) (es:=r) (n:=n+1) λe he=>h e (Zx _ he)
  rw[Z5,fsel,rls,if_pos (show keyT ((En.rule b j).tr W).1=nd (W 3) 1 from rfl),ih,mk_rule];rfl
theorem a8v{W:Nat->Str}{es0:List En}{P:R4->Prop}(hP:∀b i n,i<2->P ⟨n,b,W i,fcs i es0 0⟩):∀{es:List En}{n:Nat},(∀e∈es,e.Ok)->∀r∈rls W es0 es n,P r
 | [],_,_,r,hr=>by simp[rls]at hr
 | .fact j m::es,n,h,r,hr=>a8v hP (λe he=>h e (Zx _ he)) r hr
 | .rule b j::es,n,h,r,hr=>by
  rw[rls]at hr;rcases Zu.mp hr with z|z
  ·rw[z];exact hP b j _ (h _ (Yd ..))
  ·exact a8v hP (λe he=>h e (Zx _ he)) r z
abbrev u1:Str:=uS++tn 1
abbrev u2:Str:=uS++tn 2
theorem u12:u1≠u2:=by decide+kernel
theorem d0f{k:Nat}{x y:Str}(hx:2<=x.length)(hy:y.length<=2):mrk k x≠y:=λe=>by
 have h:=Xn Str.length e;unfold mrk at h;rw[b4z,b4z]at h;have:dotS.length=1:=by decide+kernel
 omega
theorem mrk1{k:Nat}:mrk k u1≠u1:=d0f qk qk
theorem mrk2{k:Nat}:mrk k u1≠u2:=d0f qk qk
theorem a1w{x y:Str}{t:Trm}{r:Rws}:a1b ((x,t)::r) y=if x=y then some t else a1b r y:=by
 unfold a1b
 by_cases c:x=y
 ·rw[Vv (by exact Ye c),if_pos c];rfl
 ·rw[Vw (by simpa using c),if_neg c]
theorem a3j{y:Str}:a1b [] y=none:=rfl
def a1g(W:Nat->Str)(kept:Bool):Nat->List Trm
 |0=>[.app (W 3) [.any xxS]]
 |1=>.app (W 2) [.any yyS]::(if kept=true then[a2g]else[])++[.app (W 3) [.any xxS]]
 |_=>.app (W 3) [.any xxS]::(if kept=true then[a2g]else[])++[.app (W 2) [.any yyS]]
def a4a:Nat->List Str
 |0=>[xxS]
 |1=>[yyS,xxS]
 |_=>[xxS,yyS]
def kz(kept:Bool):List Int:=if kept=true then[0]else[]
def kc(kept:Bool):Option Nat:=if kept=true then some 0 else none
def a0(p:Int×List Int):Ans:=([(xxS,.num p.1)],p.2)
def a1(kept:Bool)(q:Nat×Int)(p:Int×List Int):Ans:=([(yyS,.num q.2),(xxS,.num p.1)],[(q.1:Int)]++kz kept++p.2)
def a2(kept:Bool)(p:Int×List Int)(q:Nat×Int):Ans:=([(xxS,.num p.1),(yyS,.num q.2)],p.2++kz kept++[(q.1:Int)])
def b7p(kept:Bool)(S:List (Int×List Int))(F:List (Nat×Int)):Nat->List Ans
 |0=>S.map a0
 |1=>(cutL (kc kept) F).flatMap λq=>S.map (a1 kept q)
 |_=>(cutL (kc kept) S).flatMap λp=>F.map (a2 kept p)
def b4j(kept:Bool)(c:Nat)(S:List (Int×List Int))(F:List (Nat×Int)):Nat->Int
 |0=>(c:Int)
 |1=>1+((cutL (kc kept) F).length:Int)*((c:Int)+(if kept=true then 1 else 0))
 |_=>if kept=true then -1 else(c:Int)+(S.length:Int)
theorem b5x{W:Nat->Str}{kept:Bool}{sh:Nat}:ordL (a1g W kept sh) []=a4a sh:=by
 have h:xxS≠yyS:=by decide+kernel
 match sh with
 |0=>simp[a1g,ordL,ord,a4a]
 |1=>cases kept<;>simp[a1g,ordL,ord,a4a,h,a2g]
 |_+2=>cases kept<;>simp[a1g,ordL,ord,a4a,h.symm,a2g]
noncomputable def ask36:Nat->List Trm
 |0=>[.any u1]
 |_+1=>[.any u1,.any u2]
noncomputable def td36(W:Nat->Str)(kept:Bool):Nat->List Trm
 |0=>[.app (W 3) [.any u1]]
 |1=>.app (W 2) [.any u1]::(if kept=true then[a2g]else[])++[.app (W 3) [.any u2]]
 |_+2=>.app (W 3) [.any u1]::(if kept=true then[a2g]else[])++[.app (W 2) [.any u2]]
theorem asked36{sh:Nat}:anew ((a4a sh).map Trm.any)=ask36 sh:=by
 have h:xxS≠yyS:=by decide+kernel
 match sh with
 |0=>unfold anew;rw[show ordL ((a4a 0).map Trm.any) []=[xxS]from rfl];rfl
 |1=>
  unfold anew;rw[show ordL ((a4a 1).map Trm.any) []=[yyS,xxS] by simp[a4a,ordL,ord,h]];rfl
 |n+2=>
  unfold anew;rw[show ordL ((a4a (n+2)).map Trm.any) []=[xxS,yyS] by simp[a4a,ordL,ord,h.symm]];rfl
theorem todo36{W:Nat->Str}{kept:Bool}{sh:Nat}:anew (a1g W kept sh)=td36 W kept sh:=by
 unfold anew;rw[b5x]
 match sh with
 |0=>rfl
 |1=>cases kept<;>rfl
 |_+2=>cases kept<;>rfl
theorem d4_l{ck:Option Nat}{D l l':Nat}:∀(rs:List R4),d4 ck D l rs=d4 ck D l' rs
 | []=>rfl
 |r::rs=>by
  have ih:=d4_l (ck:=ck) (D:=D) (l:=l) (l':=l') rs;have e:(cutB ck r.fs l r.b=none/\cutB ck r.fs l' r.b=none)\/∃h h',cutB ck r.fs l r.b=some h/\cutB ck r.fs l' r.b=some h':=by
   obtain⟨n,b,w,fs⟩:=r
   by_cases hf:fs=[]
   ·cases b<;>simp[cutB,hf,cutH]
   ·cases ck<;>cases b<;>simp[cutB,hf,cutH]
  rcases e with⟨e1,e2⟩|⟨h,h',e1,e2⟩
  ·rw[d4,d4,e1,e2]
   show _+d4 ck D l rs=_+d4 ck D l' rs
   rw[ih]
  ·rw[d4,d4,e1,e2]
theorem b5y{α β:Type}(f:α->β)(l:List α):(l.flatMap λa=>[f a])=l.map f:=by
 induction l with
 |nil=>rfl
 |cons a r ih=>rw[Wr,ih];rfl
theorem b2f{α β:Type}{f:α->List β}{N:Nat}(h:∀a,(f a).length<=N)(l:List α):(l.flatMap f).length<=l.length*N:=by
 induction l with
 |nil=>simp
 |cons a r ih=>
  rw[Wr,Zl,length_cons,T1];have:=h a;omega
theorem r0:RwS []:=⟨qz,qz,λr hr=>by simp at hr⟩
theorem b7q{G:Cfg}{td:List (Trm×Nat)}{an:List Ans}{c d:Nat}{cut:Option Nat}(o:ExO G [] [] td [] an c d cut)(ht:td.length<=50)(h1:(an.length:Int)<G.most)(h2:an.length<=500)(h3:(c:Int)<=G.bound)(h4:d<=10000):∃f n,Rn G true ⟨td,[],[],[],0,0,[],none⟩ f n/\f.en=some (endT allS)/\f.ans=an/\f.ct=c:=by
 obtain⟨s',n,r,a,e1,e2,e3⟩:=o ⟨td,[],[],[],0,0,[],none⟩ ⟨rfl,rfl,qz,⟨[],rfl,r0⟩,ht,qz⟩ rfl rfl rfl ⟨by show((0+an.length:Nat):Int)<_;rw[Wq];exact h1,by show 0+_<=_;omega,by show((0+c:Nat):Int)<=_;rw[Wq];exact h3,by show 0+_<=_;omega⟩;have hl:s'.left=[]:=by
  rw[a.left];cases cut with
  |none=>rfl
  |some h=>show([]:List Wy).take h=[];rw[List.take_nil]
 obtain⟨k,r2⟩:=r.trans (.back a.en (.all hl) (.refl (b:=false)));exact⟨_,k,r2.rn rfl,rfl,e1,by show s'.ct=c;rw[e2];exact Wq c⟩
theorem run36{W:Nat->Str}(hW:WOk W){es:List En}(he:∀e∈es,e.Ok)(hF:∀i,i<3->(fcs i es 0).length<=4)(hR:(rls W es es 0).length<=2){kept:Bool}{sh:Nat}(hk:sh=0->kept=false):
  ∃f c,Rn (a3p (es.map (En.tr W)) (a1g W kept sh) 400 40) true (st0 (a1g W kept sh)) f c/\f.en=some (endT allS)/\f.ans=b7p kept (sol4 (rls W es es 0)) (fcs 2 es 0) sh/\(0<=b4j kept (1+cnt4 (rls W es es 0)) (sol4 (rls W es es 0)) (fcs 2 es 0) sh->(f.ct:Int)=b4j kept (1+cnt4 (rls W es es 0)) (sol4 (rls W es es 0)) (fcs 2 es 0) sh):=by
 have tb:∀k,a1x (a3p (es.map (En.tr W)) (a1g W kept sh) 400 40).tab k=fsel k (es.map (En.tr W)) 0:=λk=>by
  show a1x (tabF _ 0 []) k=_
  rw[b7o];rfl
 have tb3:=(tb _).trans (b3n hW (es0:=es) (es:=es) (n:=0) he);have tb2:=(tb _).trans (a9m hW (i:=2) qd (es:=es) (n:=0) he);have rok:∀r∈rls W es es 0,r.Ok (a3p (es.map (En.tr W)) (a1g W kept sh) 400 40):=a8v (λb i n hi=>⟨hW.wd i qo,(tb _).trans (a9m hW qo he),by have:=hF i qo;show(fcs i es 0).length<=500;omega⟩) he;have sm:Sm (rls W es es 0):=⟨hR,a8v (P:=λr=>r.fs.length<=4) (λb i n hi=>hF i qo) he⟩;have hn:(a3p (es.map (En.tr W)) (a1g W kept sh) 400 40).names=a4a sh:=b5x;have ha:(a3p (es.map (En.tr W)) (a1g W kept sh) 400 40).asked=ask36 sh:=by
  show anew ((ordL (a1g W kept sh) []).map Trm.any)=_
  rw[b5x];exact asked36
 have gok:GOk (a3p (es.map (En.tr W)) (a1g W kept sh) 400 40):=by
  refine⟨?_,?_,λt ht=>?_⟩
  ·rw[hn,ha]
   match sh with
   |0=>rfl
   |1=>rfl
   |_+2=>rfl
  ·rw[ha]
   match sh with
   |0=>show 1<=100;decide
   |_+1=>show 2<=100;decide
  ·rw[ha]at ht
   match sh with
   |0=>
    have ht:t∈[Trm.any u1]:=ht;rw[Zq.mp ht]
    show 1<=60
    decide
   |_+1=>
    have ht:t∈[Trm.any u1,Trm.any u2]:=ht;simp only[Zu,Z6,Xm]at ht;rcases ht with rfl|rfl<;>(show 1<=60;decide)
 have hw2:=hW.wd 2 qd;have hw3:=hW.wd 3 qd;have hF2:=hF 2 qd;have hS:=b8x sm;have hc4:∀l,c4 none 0 l (rls W es es 0)=cnt4 (rls W es es 0):=λl=>by rw[b7n];omega
 have hcn:cnt4 (rls W es es 0)<=12:=by rw[<-hc4 0];exact c0y sm
 have hd0:d4 none 0 0 (rls W es es 0)<=10:=d4_le sm;have bnd:(a3p (es.map (En.tr W)) (a1g W kept sh) 400 40).bound=400:=rfl;have mst:(a3p (es.map (En.tr W)) (a1g W kept sh) 400 40).most=40:=rfl;have et:st0 (a1g W kept sh)=⟨(anew (a1g W kept sh)).map λg=>(g,0),[],[],[],0,0,[],none⟩:=rfl;rw[et,todo36];generalize a3p (es.map (En.tr W)) (a1g W kept sh) 400 40=G at*;generalize rls W es es 0=R at*;generalize fcs 2 es 0=F at*
 match sh,hk,hn,ha with
 |0,hk,hn,ha=>
  have hk:=hk rfl;subst hk
  have K:KX G [] u1 [] [] (λp=>[a0 p]) 0 0 none:=λk m way L _ _=>(b8v gok (L:=L) (nm:=[]++way) (ns:=[m]) (by
   rw[ha];refine .cons (.yes (u:=.num m) ?_ (.num m)) .nil
   show a1b [(mrk k u1,.any u1),(u1,.num m)] u1=_
   rw[a1w,if_neg mrk1,a1w,if_pos rfl]) qz).to (by rw[hn];rfl) rfl rfl
  have o:=a8d (G:=G) (kn:=[]) (L:=[]) (h:=0) (nm:=[]) r0 qz a3j (λk=>⟨mrk1,a3j⟩) (.inl rfl) qz qz qz hw3 tb3 rok (by have:=sm.1;omega) K;have o:=o.to (b5y a0 (sol4 R)) (by rw[hc4]) (rfl:_=d4 none 0 0 R);obtain⟨f,n,g1,g2,g3,g4⟩:=b7q (td:=[(.app (W 3) [.any u1],0)]) o qz (by rw[length_map,mst];omega) (by rw[length_map];omega) (by rw[bnd];omega) qo;exact⟨f,n,g1,g2,g3,λ_=>by rw[g4];show((cnt4 R+1:Nat):Int)=((1+cnt4 R:Nat):Int);omega⟩
 |1,hk,hn,ha=>
  have look1:∀m,a1b [(u1,Trm.num m)] u2=none:=λm=>by rw[a1w,if_neg u12];rfl
  have lookm:∀m k,a1b [(u1,Trm.num m)] (mrk k u1)=none:=λm k=>by rw[a1w,if_neg (Ne.symm mrk1)];rfl
  have o3:∀(q:Nat×Int)(L:List Wy),L.length<=2->ExO G [(u1,.num q.2)] L [(.app (W 3) [.any u2],0)] ([(q.1:Int)]++kz kept) ((sol4 R).map (a1 kept q)) (cnt4 R+1) (d4 none 0 0 R) none:=λq L hL=>by
   have K:KX G [(u1,.num q.2)] u2 [] ([(q.1:Int)]++kz kept) (λp=>[a1 kept q p]) 0 0 none:=λk m way L _ _=>(b8v gok (L:=L) (nm:=[(q.1:Int)]++kz kept++way) (ns:=[q.2,m]) (by
    rw[ha];refine .cons (.yes (u:=.num q.2) ?_ (.num q.2)) (.cons (.yes (u:=.num m) ?_ (.num m)) .nil)
    ·show a1b [(u1,.num q.2),(mrk k u1,.any u2),(u2,.num m)] u1=_
     rw[a1w,if_pos rfl]
    ·show a1b [(u1,.num q.2),(mrk k u1,.any u2),(u2,.num m)] u2=_
     rw[a1w,if_neg u12,a1w,if_neg mrk2,a1w,if_pos rfl]) qz).to (by rw[hn];rfl) rfl rfl
   have o:=a8d (G:=G) (kn:=[(u1,.num q.2)]) (L:=L) (h:=0) (nm:=[(q.1:Int)]++kz kept) (r0.snoc qz a3j rfl) qz (look1 _) (λk=>⟨mrk2,lookm _ _⟩) (.inl rfl) qz (by cases kept<;>simp[kz]) qo hw3 tb3 rok (by have:=sm.1;omega) K;exact(o.fine (d3p R)).to (b5y (a1 kept q) (sol4 R)) (by rw[hc4]) (d4_l R)
  have hz:Full [] (.app (W 2) [.any u1]) (.app (W 2) [.any u1]):=.app (.cons (.no a3j) .nil);have fl:∀(cut:Option Nat),((cutL cut F).flatMap λq=>(sol4 R).map (a1 kept q)).length<=32:=λcut=>by
   have h1:=b2f (f:=λq=>(sol4 R).map (a1 kept q)) (N:=8) (λq=>by rw[length_map];exact hS) (cutL cut F);have h2:=a5r cut F;omega
  have ml:∀(cut:Option Nat)(C M:Nat),C<=M->(cutL cut F).length*C<=4*M:=λcut C M h=>Nat.mul_le_mul (by have:=a5r cut F;omega) h
  cases kept with
  |false=>
   have o:=a5y (G:=G) (kn:=[]) (L:=[]) (h:=0) (td:=[(.app (W 3) [.any u2],0)]) (nm:=[]) (cut:=none) (A:=λq=>(sol4 R).map (a1 false q)) (C:=cnt4 R+1) (D:=d4 none 0 0 R) r0 qz a3j (λh e=>by cases e) qz qz qz hw2 hz (by show 1<=50;decide) tb2 qo (λq L1 h1=>o3 q L1 (by rcases h1 with rfl|⟨v,rfl⟩<;>simp));have b1:=ml none (cnt4 R+1) 13 qo;have b2:=ml none (d4 none 0 0 R+1) 11 qo;obtain⟨f,n,g1,g2,g3,g4⟩:=b7q (td:=[(.app (W 2) [.any u1],0),(.app (W 3) [.any u2],0)]) o qz (by rw[mst];have:=fl none;omega) (by have:=fl none;omega) (by rw[bnd];omega) qo;refine⟨f,n,g1,g2,g3,λ_=>?_⟩;rw[g4]
   show((1+F.length*(cnt4 R+1):Nat):Int)=1+(F.length:Int)*(((1+cnt4 R:Nat):Int)+0)
   rw[Int.natCast_add,Int.natCast_mul,Int.add_zero,Ra 1 (cnt4 R)];rfl
  |true=>
   have o:=a5y (G:=G) (kn:=[]) (L:=[]) (h:=0) (td:=[(a2g,0),(.app (W 3) [.any u2],0)]) (nm:=[]) (cut:=some 0) (A:=λq=>(sol4 R).map (a1 true q)) (C:=cnt4 R+1+1) (D:=d4 none 0 0 R) r0 qz a3j (λh e=>by cases e;exact Z0 _) qz qz qz hw2 hz (by show 1<=50;decide) tb2 qo (λq L1 h1=>b2e (h:=0) (cut:=none) (nm:=[(q.1:Int)]) qz (o3 q [] qz));have b1:=ml (some 0) (cnt4 R+1+1) 14 qo;have b2:=ml (some 0) (d4 none 0 0 R+1) 11 qo;obtain⟨f,n,g1,g2,g3,g4⟩:=b7q (td:=[(.app (W 2) [.any u1],0),(a2g,0),(.app (W 3) [.any u2],0)]) o qz (by rw[mst];have:=fl (some 0);omega) (by have:=fl (some 0);omega) (by rw[bnd];omega) qo;refine⟨f,n,g1,g2,g3,λ_=>?_⟩;rw[g4]
   show((1+(F.take 1).length*(cnt4 R+1+1):Nat):Int)=1+((F.take 1).length:Int)*(((1+cnt4 R:Nat):Int)+1)
   rw[Int.natCast_add,Int.natCast_mul,Ra 1 (cnt4 R)];rfl
 |sh+2,hk,hn,ha=>
  have rk2:∀k m,RwS [(mrk k u1,Trm.any u1),(u1,.num m)]:=λk m=>(r0.snoc (x:=mrk k u1) (t:=.any u1) qz a3j rfl).snoc (x:=u1) (t:=.num m) qz (by show a1b [(mrk k u1,Trm.any u1)] u1=none;rw[a1w,if_neg mrk1];rfl) rfl
  have look2:∀k m,a1b [(mrk k u1,Trm.any u1),(u1,.num m)] u2=none:=λk m=>by rw[a1w,if_neg mrk2,a1w,if_neg u12];rfl
  have o2:∀(k:Nat)(m:Int)(way:List Int)(L:List Wy),way.length<=5->L.length<=10->ExO G [(mrk k u1,Trm.any u1),(u1,.num m)] L [(.app (W 2) [.any u2],0)] (way++kz kept) (F.map (a2 kept (m,way))) 1 F.length none:=λk m way L hw hL=>by
   have o:=a5y (G:=G) (kn:=[(mrk k u1,Trm.any u1),(u1,.num m)]) (L:=L) (h:=0) (td:=[]) (nm:=way++kz kept) (cut:=none) (A:=λq=>[a2 kept (m,way) q]) (C:=0) (D:=0) (rk2 k m) qz (look2 k m) (λh e=>by cases e) qz (by rw[Zl];cases kept<;>simp[kz]<;>omega) qo hw2 (.app (.cons (.no (look2 k m)) .nil)) (by show 1<=50;decide) tb2 qo (λq L1 h1=>(b8v gok (L:=L1) (nm:=way++kz kept++[(q.1:Int)]) (ns:=[m,q.2]) (by
    rw[ha];refine .cons (.yes (u:=.num m) ?_ (.num m)) (.cons (.yes (u:=.num q.2) ?_ (.num q.2)) .nil)
    ·show a1b [(mrk k u1,.any u1),(u1,.num m),(u2,.num q.2)] u1=_
     rw[a1w,if_neg mrk1,a1w,if_pos rfl]
    ·show a1b [(mrk k u1,.any u1),(u1,.num m),(u2,.num q.2)] u2=_
     rw[a1w,if_neg mrk2,a1w,if_neg u12,a1w,if_pos rfl]) qz).to (by rw[hn];rfl) rfl rfl)
   refine(o.fine (cut':=none) (by split<;>rfl)).to (b5y (a2 kept (m,way)) F) ?_ ?_
   ·show 1+F.length*0=1;omega
   ·show F.length*1=F.length;omega
  have fl:∀(cut:Option Nat),((cutL cut (sol4 R)).flatMap λp=>F.map (a2 kept p)).length<=32:=λcut=>by
   have h1:=b2f (f:=λp=>F.map (a2 kept p)) (N:=4) (λq=>by rw[length_map];exact hF2) (cutL cut (sol4 R));have h2:=a5r cut (sol4 R);omega
  cases kept with
  |false=>
   have K:KX G [] u1 [(.app (W 2) [.any u2],0)] [] (λp=>F.map (a2 false p)) 1 F.length none:=λk m way L h1 h2=>by
    have:=o2 k m way L h1 h2;rw[show way++kz false=way from Yg _]at this;exact this
   have o:=a8d (G:=G) (kn:=[]) (L:=[]) (h:=0) (nm:=[]) r0 qz a3j (λk=>⟨mrk1,a3j⟩) (.inl rfl) qz qz qz hw3 tb3 rok (by have:=sm.1;omega) K;have b1:=c0y (ck:=none) (C:=1) (l:=0) sm;have b2:=d4_le (ck:=none) (D:=F.length) (l:=0) sm;obtain⟨f,n,g1,g2,g3,g4⟩:=b7q (td:=[(.app (W 3) [.any u1],0),(.app (W 2) [.any u2],0)]) o qz (by rw[mst];have:=fl none;omega) (by have:=fl none;omega) (by rw[bnd];show((c4 none 1 0 R+1:Nat):Int)<=_;omega) (by show d4 none F.length 0 R<=_;omega);refine⟨f,n,g1,g2,g3,λ_=>?_⟩;rw[g4,b7n]
   show((cnt4 R+(sol4 R).length*1+1:Nat):Int)=((1+cnt4 R:Nat):Int)+((sol4 R).length:Int)
   omega
  |true=>
   have K:KX G [] u1 [(a2g,0),(.app (W 2) [.any u2],0)] [] (λp=>F.map (a2 true p)) 2 F.length (some 0):=λk m way L h1 h2=>b2e (h:=0) (cut:=none) (nm:=way) qo (o2 k m way [] h1 qz)
   have o:=a8d (G:=G) (kn:=[]) (L:=[]) (h:=0) (nm:=[]) r0 qz a3j (λk=>⟨mrk1,a3j⟩) (.inr rfl) qz qz qz hw3 tb3 rok (by have:=sm.1;omega) K;have b1:=c0y (ck:=some 0) (C:=2) (l:=0) sm;have b2:=d4_le (ck:=some 0) (D:=F.length) (l:=0) sm;obtain⟨f,n,g1,g2,g3,g4⟩:=b7q (td:=[(.app (W 3) [.any u1],0),(a2g,0),(.app (W 2) [.any u2],0)]) o qz (by rw[mst];have:=fl (some 0);omega) (by have:=fl (some 0);omega) (by rw[bnd];show((c4 (some 0) 2 0 R+1:Nat):Int)<=_;omega) (by show d4 (some 0) F.length 0 R<=_;omega);exact⟨f,n,g1,g2,g3,λz=>absurd z (by show ¬(0:Int)<=-1;decide)⟩
theorem nwq{A B:Hp}{p:Addr}{o:HO}(h:A p=none)(e:upd A p o=B):Same A B/\B p=some o:=by
 subst e;exact⟨a0h h _,a0c⟩
theorem a4x{H H1:Hp}{p:Addr}{o:HO}(s:Same H H1)(h:H p=none):Same H (upd H1 p o):=λa x hx=>by
 rw[a0f (λe=>by rw[e,h]at hx;cases hx)];exact s a x hx
def wF(ws:List Str)(i:Nat):Str:=ws.getD i keepS
theorem a5m{ws:List Str}(h:ws.length=5){i:Nat}(hi:i<5):atI (ws.map V.str) (i:Int)=some (.str (wF ws i)):=by
 obtain⟨v,h2,h3⟩:=a5k (xs:=ws.map V.str) (i:=(i:Int)) qo (by rw[length_map];omega);rw[h2,<-h3,Yk];have:i<ws.length:=by omega
 unfold wF;rw[Z2,show((i:Int)).toNat=i from rfl,Zj this];rfl
theorem wF_ok{ws:List Str}(h:ws.length=5)(nd:ws.Nodup)(wd:∀w∈ws,Wd w):WOk (wF ws):=by
 have g:∀i,i<5->∃h:i<ws.length,wF ws i=ws[i]:=λi hi=>by
  have hi:i<ws.length:=by omega
  refine⟨hi,?_⟩;unfold wF;rw[Z2,Zj hi];rfl
 refine⟨λi j hi hj e=>?_,λi hi=>?_⟩
 ·obtain⟨h1,e1⟩:=g i hi;obtain⟨h2,e2⟩:=g j hj;rw[e1,e2]at e;exact(List.getElem_inj nd).mp e
 ·obtain⟨h1,e1⟩:=g i hi;rw[e1];exact wd _ (Yq h1)
def nr:List En->Nat
 | []=>0
 | .fact _ _::r=>nr r
 | .rule _ _::r=>nr r+1
theorem a8w:∀(a b:List En),nr (a++b)=nr a+nr b
 | [],b=>by show nr b=0+nr b;omega
 | .fact _ _::a,b=>a8w a b
 | .rule _ _::a,b=>by show nr (a++b)+1=nr a+1+nr b;rw[a8w a b];omega
theorem a8i{W:Nat->Str}{es0:List En}:∀(es:List En)(n:Nat),(rls W es0 es n).length=nr es
 | [],_=>rfl
 | .fact _ _::r,n=>a8i r (n+1)
 | .rule _ _::r,n=>by show(rls W es0 r (n+1)).length+1=nr r+1;rw[a8i r (n+1)]
theorem b2g{i:Nat}:∀(es:List En)(e:En)(n:Nat),fcs i (es++[e]) n=fcs i es n++fcs i [e] (n+es.length)
 | [],e,n=>rfl
 | .fact j m::r,e,n=>by
  have ih:=b2g (i:=i) r e (n+1);rw[Xz,fcs,fcs,ih,length_cons,show n+1+r.length=n+(r.length+1) by omega]
  split<;>rfl
 | .rule b j::r,e,n=>by
  have ih:=b2g (i:=i) r e (n+1);rw[Xz,fcs,fcs,ih,length_cons,show n+1+r.length=n+(r.length+1) by omega]
theorem b8z{i:Nat}:∀(es:List En)(n:Nat),(fcs i es n).length<=es.length
 | [],_=>Zn _
 | .fact j m::r,n=>by
  have ih:=b8z (i:=i) r (n+1);rw[fcs,length_cons]
  split
  ·rw[length_cons];omega
  ·omega
 | .rule b j::r,n=>by
  have ih:=b8z (i:=i) r (n+1);rw[fcs,length_cons];omega
structure EsOk(es:List En):Prop where
 ok:∀e∈es,e.Ok
 nr:nr es<=2
 ln:es.length<=20
abbrev esD(W:Nat->Str)(es:List En):List PyData:=es.map λe=>ruE (e.tr W)
def ftE(p:Nat×Int):PyData:=.tuple [(Trm.num p.2).data,.int (p.1:Int)]
def wyE(p:Int×List Int):PyData:=.tuple [(Trm.num p.1).data,nbD p.2]
abbrev a6b(K:W.Frag):Sp:=λvs H Q _=>aR vs λa vs=>aI vs λk vs=>aE vs (∃ns:List Int,SqL K H a (ns.map V.int)/\0<=k/\k<=1000/\∀v,Q (.int v) H)
abbrev a9n:Sp:=λvs H Q _=>aI vs λ_ vs=>aI vs λk vs=>aI vs λm vs=>aE vs (0<=k/\k<=1000/\0<m/\∀v H',0<=v->v<m->Same H H'->Q (.int v) H')
abbrev b7r(K:W.Frag):Sp:=λvs H Q _=>aI vs λ_ vs=>aE vs (∀p (ws:List Str) H',Same H H'->H' p=some (.lst (ws.map V.str))->ws.length=5->ws.Nodup->(∀w∈ws,Wd w)->Q (.ref p) H')
abbrev b3o(K:W.Frag):Sp:=λvs H Q _=>aS vs λw vs=>aS vs λx vs=>aE vs (∀a H',Same H H'->Den K H' (.ref a) (Trm.app w [.any x]).data->Q (.ref a) H')
abbrev b7s(K:W.Frag):Sp:=λvs H Q _=>aR vs λa vs=>aR vs λwp vs=>aI vs λ_ vs=>aE vs (∃(ns:List Int)(ws:List Str),SqL K H a (ns.map V.int)/\SqL K H wp (ws.map V.str)/\ws.length=5/\∀p (ur:List V) (es:List En) H',Same H H'->H p=none->H' p=some (.lst ur)->DenL K H' ur (esD (wF ws) es)->EsOk es->Q (.ref p) H')
abbrev a8e(K:W.Frag):Sp:=λvs H Q _=>aR vs λrp vs=>aS vs λw vs=>aE vs (∃(ur:List V)(W:Nat->Str)(es:List En)(i:Nat),SqL K H rp ur/\DenL K H ur (esD W es)/\(∀e∈es,e.Ok)/\WOk W/\i<3/\w=W i/\es.length<=100/\∀p (us:List V) H',Same H H'->H' p=some (.lst us)->DenL K H' us (((fcs i es 0).take 4).map ftE)->Q (.ref p) H')
abbrev b5z(K:W.Frag):Sp:=λvs H Q _=>aR vs λa vs=>aB vs λb vs=>aE vs (∃us:List V,H a=some (.lst us)/\us.length<=1000/\∀p H',Same H H'->H' p=some (.lst (if b=true then us.take 1 else us))->(p=a\/H p=none)->Q (.ref p) H')
structure PgAt(K:W.Frag)(H:Hp)(rp wp:Addr)(ws:List Str)(es:List En):Prop where
 r:∃ur,SqL K H rp ur/\DenL K H ur (esD (wF ws) es)
 w:SqL K H wp (ws.map V.str)
 l:ws.length=5
 ok:WOk (wF ws)
 eo:EsOk es
 f:∀i,i<3->(fcs i es 0).length<=4
theorem PgAt.mono{K:FG}{H H':Hp}{rp wp:Addr}{ws:List Str}{es:List En}(h:PgAt K H rp wp ws es)(s:Same H H'):PgAt K H' rp wp ws es:=by
 obtain⟨ur,r1,r2⟩:=h.r;exact⟨⟨ur,s.seq r1,r2.mono s⟩,s.seq h.w,h.l,h.ok,h.eo,h.f⟩
abbrev b3p(K:W.Frag):Sp:=λvs H Q _=>aR vs λrp vs=>aR vs λwp vs=>aI vs λn vs=>aI vs λc vs=>aE vs (∃(ws:List Str)(es:List En)(k:Nat)(b:Bdy)(i:Nat),PgAt K H rp wp ws es/\es[k]? =some (.rule b i)/\n=((k+1:Nat):Int)/\∀p t (us:List V) H',Same H H'->SqT K H' p [.ref t,.int (c+(cntR (fcs i es 0) b:Int)),.bl (a5g (fcs i es 0) b)]->H' t=some (.lst us)->DmL K H' [] us ((solR (k+1) (fcs i es 0) b).map wyE)->Q (.ref p) H')
abbrev b5a(K:W.Frag):Sp:=λvs H Q _=>aR vs λrp vs=>aR vs λwp vs=>aE vs (∃(ws:List Str)(es:List En),PgAt K H rp wp ws es/\∀p t (us:List V) H',Same H H'->SqT K H' p [.ref t,.int ((1+cnt4 (rls (wF ws) es es 0):Nat):Int)]->H' t=some (.lst us)->DmL K H' [] us ((sol4 (rls (wF ws) es es 0)).map wyE)->Q (.ref p) H')
abbrev c2u(K:W.Frag):Sp:=λvs H Q _=>aR vs λrp vs=>aR vs λwp vs=>aI vs λz vs=>aB vs λkept vs=>aE vs (∃(ws:List Str)(es:List En)(sh:Nat),PgAt K H rp wp ws es/\z=(sh:Int)/\sh<=2/\∀p t (us:List V) H',Same H H'->SqT K H' p [.ref t,.int (b4j kept (1+cnt4 (rls (wF ws) es es 0)) (sol4 (rls (wF ws) es es 0)) (fcs 2 es 0) sh)]->H' t=some (.lst us)->DmL K H' [] us (anD (b7p kept (sol4 (rls (wF ws) es es 0)) (fcs 2 es 0) sh))->Q (.ref p) H')
abbrev b7t(K:W.Frag):Sp:=λvs H Q _=>aR vs λa vs=>aE vs (∃ns:List Int,SqL K H a (ns.map V.int)/\ns.length<=63/\∀H',Q (.bl true) H')
theorem b7u{K:FG}{H:Hp}{u:V}{x:Trm×List Trm}(h:Den K H u (ruE x)):∃a hv gp ug,u=.ref a/\SqT K H a [hv,.ref gp]/\Den K H hv x.1.data/\SqT K H gp ug/\DenL K H ug (Trm.dataL x.2):=by
 cases h with
 |tup c d=>
  cases d with
  |cons e f=>
   cases f with
   |cons g h=>
    cases h;cases g with
    |tup g1 g2=>exact⟨_,_,_,_,rfl,c,e,g1,g2⟩
theorem c0z{K:FG}{H:Hp}{W:Nat->Str}{ur:List V}{es:List En}(h:DenL K H ur (esD W es)){k:Nat}(h1:k<ur.length)(h2:k<es.length):ur.getD k .non=ur[k]/\Den K H ur[k] (ruE (es[k].tr W)):=by
 have hx:ur[k]? =some ur[k]:=Zj h1
 obtain⟨d,e1,e2⟩:=h.get hx;rw[esD,Yk,Zj h2]at e1;cases e1;exact⟨by rw[Z2,hx];rfl,e2⟩
theorem b6a{i k:Nat}{es:List En}(h:k<es.length):fcs i (es.take (k+1)) 0=fcs i (es.take k) 0++fcs i [es[k]] k:=by
 rw[take_succ' h,b2g,Z7,Wq,Vj qo]
theorem DenL.take'{K:FG}{H:Hp}:∀{us:List V}{ds:List PyData}(n:Nat),DenL K H us ds->DenL K H (us.take n) (ds.take n)
 |_,_,0,_=>.nil
 |_,_,_+1,.nil=>.nil
 |_,_,n+1,.cons a b=>.cons a (DenL.take' n b)
theorem DenL.drop'{K:FG}{H:Hp}:∀{us:List V}{ds:List PyData}(n:Nat),DenL K H us ds->DenL K H (us.drop n) (ds.drop n)
 |_,_,0,h=>h
 |_,_,_+1,.nil=>.nil
 |_,_,n+1,.cons _ b=>DenL.drop' n b
def kepB:Bdy->Bool
 | .plain=>false
 |_=>true
def aheB:Bdy->Bool
 | .ahead=>true
 |_=>false
noncomputable def wayB(n m:Int):Bdy->List Int
 | .plain=>[n,m]
 | .ahead=>[n,0,m]
 | .behind=>[n,m,0]
theorem d3q{n:Nat}{fs:List (Nat×Int)}{b:Bdy}:solR n fs b=(if(kepB b&& !aheB b)=true then fs.take 1 else fs).map λp=>(p.2,wayB n p.1 b):=by cases b<;>rfl
theorem fcs4{ws:List Str}{es:List En}{K:FG}{H:Hp}{rp wp:Addr}(h:PgAt K H rp wp ws es){i:Nat}(hi:i<3):(fcs i es 0).take 4=fcs i es 0:=Yo (h.f i hi)
theorem PgAt.len{ws:List Str}{es:List En}{K:FG}{H:Hp}{rp wp:Addr}(h:PgAt K H rp wp ws es):es.length<=100:=by
 have:=h.eo.ln;omega
theorem ft_inv{K:FG}{H:Hp}{v:V}{p:Nat×Int}(h:Den K H v (ftE p)):∃a tv,v=.ref a/\SqT K H a [tv,.int (p.1:Int)]/\Den K H tv (Trm.num p.2).data:=by
 cases h with
 |tup c d=>
  cases d with
  |cons e f=>
   cases f with
   |cons g h=>
    cases h;cases g;exact⟨_,_,rfl,c,e⟩
theorem ft_at{K:FG}{H:Hp}{us:List V}{F:List (Nat×Int)}(h:DenL K H us (F.map ftE)){j:Nat}(h1:j<us.length)(h2:j<F.length):∃a tv,us.getD j .non=.ref a/\SqT K H a [tv,.int (F[j].1:Int)]/\Den K H tv (Trm.num F[j].2).data:=by
 have hx:us[j]? =some us[j]:=Zj h1
 obtain⟨d,e1,e2⟩:=h.get hx;rw[Yk,Zj h2]at e1;cases e1;obtain⟨a,tv,e,c,d⟩:=ft_inv e2;exact⟨a,tv,by rw[Z2,hx,<-e];rfl,c,d⟩
theorem c2v{K:FG}{H:Hp}{us:List V}{F:List (Nat×Int)}(c:Bool)(h:DenL K H us (F.map ftE)):DenL K H (if c=true then us.take 1 else us) ((if c=true then F.take 1 else F).map ftE):=by
 cases c with
 |true=>show DenL K H (us.take 1) ((F.take 1).map ftE);rw[V1];exact DenL.take' 1 h
 |false=>exact h
theorem cntR_eq{fs:List (Nat×Int)}{b:Bdy}:(cntR fs b:Int)=1+(if aheB b=true then 1 else 0)+(if(kepB b&& !aheB b&& !fs.isEmpty)=true then 1 else 0):=by
 cases b<;>cases fs<;>rfl
theorem d3r{fs:List (Nat×Int)}{b:Bdy}:a5g fs b=(aheB b|| (kepB b&& !fs.isEmpty)):=by
 cases b<;>cases fs<;>rfl
theorem wayB_eq{n m:Int}{b:Bdy}:wayB n m b=if kepB b=true then(if aheB b=true then[n,0,m]else[n,m,0])else[n,m]:=by
 cases b<;>rfl
theorem isE_len{α β:Type}{a:List α}{b:List β}(h:a.length=b.length):a.isEmpty=b.isEmpty:=by
 cases a<;>cases b<;>simp at h<;>rfl
theorem sq3{K:FG}{H:Hp}{p t:Addr}{a c:Int}{b d:Bool}(h:H p=some (.tup [.ref t,.int a,.bl b]))(e1:a=c)(e2:b=d):SqT K H p [.ref t,.int c,.bl d]:=by
 subst e1 e2;exact SqT.of h
theorem d0g{W:Nat->Str}{es:List En}{i j:Nat}{m:Int}(h:i<es.length)(e:es[i]=.fact j m):rls W es (es.drop i) i=rls W es (es.drop (i+1)) (i+1):=by
 rw[Wk h,e];rfl
theorem d0h{W:Nat->Str}{es:List En}{i j:Nat}{b:Bdy}(h:i<es.length)(e:es[i]=.rule b j):rls W es (es.drop i) i=⟨i+1,b,W j,fcs j es 0⟩::rls W es (es.drop (i+1)) (i+1):=by
 rw[Wk h,e];rfl
theorem c2w{K:FG}{H:Hp}{M:List Addr}{p pp pn:Addr}{us:List V}{a:Ans}(h:H p=some (.tup [.ref pp,.ref pn]))(h1:H pp=some (.lst us))(n1:pp∉M)(d:DenL K H us (a.1.map prE))(h2:H pn=some (.lst (a.2.map V.int)))(n2:pn∉M):Dm K H M (.ref p) (anE a):=
 .tup (SqT.of h) (.cons (.lst h1 n1 (DenL.dm d)) (.cons (b7k h2 n2) .nil))
theorem wy_inv{K:FG}{H:Hp}{v:V}{p:Int×List Int}(h:Dm K H [] v (wyE p)):∃a tv w,v=.ref a/\SqT K H a [tv,.ref w]/\Den K H tv (Trm.num p.1).data/\H w=some (.lst (p.2.map V.int)):=by
 cases h with
 |tup c d=>
  cases d with
  |cons e f=>
   cases f with
   |cons g h=>
    cases h;obtain⟨w,rfl⟩:=c9y g;exact⟨_,_,w,rfl,c,(b0r _).mp e,(b4h g).1⟩
theorem DmL.get{K:FG}{M:List Addr}{H:Hp}:∀{us:List V}{ds:List PyData}{i:Nat}{u:V},DmL K H M us ds->us[i]? =some u->∃d,ds[i]? =some d/\Dm K H M u d
 |_,_,_,_,.nil,e=>by simp at e
 |_,_,0,_,.cons h _,e=>by simp at e;subst e;exact⟨_,rfl,h⟩
 |_,_,i+1,u,.cons _ l,e=>by
  obtain⟨d,h1,h2⟩:=DmL.get (i:=i) (u:=u) l (by simpa using e);exact⟨d,by simpa using h1,h2⟩
theorem wy_at{K:FG}{H:Hp}{us:List V}{S:List (Int×List Int)}(h:DmL K H [] us (S.map wyE)){j:Nat}(h1:j<us.length)(h2:j<S.length):∃a tv w,us.getD j .non=.ref a/\SqT K H a [tv,.ref w]/\Den K H tv (Trm.num S[j].1).data/\H w=some (.lst (S[j].2.map V.int)):=by
 have hx:us[j]? =some us[j]:=Zj h1
 obtain⟨d,e1,e2⟩:=h.get hx;rw[Yk,Zj h2]at e1;cases e1;obtain⟨a,tv,w,e,c,d,f⟩:=wy_inv e2;exact⟨a,tv,w,by rw[Z2,hx,<-e];rfl,c,d,f⟩
theorem DmL.take1{K:FG}{H:Hp}{us:List V}{ds:List PyData}(h:DmL K H [] us ds):DmL K H [] (us.take 1) (ds.take 1):=by
 cases h with
 |nil=>exact .nil
 |cons a b=>exact .cons a .nil
theorem dm_if{K:FG}{H:Hp}{us:List V}{S:List (Int×List Int)}(c:Bool)(h:DmL K H [] us (S.map wyE)):DmL K H [] (if c=true then us.take 1 else us) ((cutL (kc c) S).map wyE):=by
 cases c with
 |true=>show DmL K H [] (us.take 1) ((S.take 1).map wyE);rw[V1];exact h.take1
 |false=>exact h
theorem den_cut{K:FG}{H:Hp}{us:List V}{F:List (Nat×Int)}(c:Bool)(h:DenL K H us (F.map ftE)):DenL K H (if c=true then us.take 1 else us) ((cutL (kc c) F).map ftE):=by
 have:=c2v c h;cases c<;>exact this
theorem d0i(kept:Bool):List.replicate (if kept=true then(1:Int)else 0).toNat (V.int 0)=(kz kept).map V.int:=by cases kept<;>rfl
theorem b3q(kept:Bool):(kz kept).length<=1:=by cases kept<;>decide
theorem c0h{α β:Type}{f:α->List β}{l:List α}{i:Nat}(h:i<l.length):(l.take (i+1)).flatMap f=(l.take i).flatMap f++f l[i]:=by
 rw[take_succ' h,R9,Wr,List.flatMap_nil,Yg]
theorem sol_way{n:Nat}{fs:List (Nat×Int)}{b:Bdy}:∀p∈solR n fs b,p.2.length<=3:=λp hp=>by
 cases b<;>(obtain⟨a,_,rfl⟩:=Ys.mp hp;simp)
theorem b6b:∀{rs:List R4},∀p∈sol4 rs,p.2.length<=3
 | [],p,hp=>by simp[sol4]at hp
 |r::rs,p,hp=>by
  rw[sol4]at hp;rcases Yt.mp hp with z|z
  ·exact sol_way p z
  ·split at z
   ·simp at z
   ·exact b6b p z
def b7v(x:List Ans×Str×Nat):PyData:=.tuple [.list (anD x.1),endT x.2.1,.int (x.2.2:Int)]
theorem d0j{K:FG}{H:Hp}{p:Addr}{x:List Ans×Str×Nat}(h:Dm K H [] (.ref p) (b7v x)):∃us,SqT K H p us/\DxL K H us [.list (anD x.1),endT x.2.1,.int (x.2.2:Int)]:=by
 cases h with
 |tup c d=>exact⟨_,c,d.dx⟩
structure AnP(a:Ans):Prop where
 l1:a.1.length<=100
 l2:a.2.length<=100
 z:∀p∈a.1,p.2.size<=60
theorem a3e{n:Nat}:∀{ds:List PyData},(∀d∈ds,d.depth<=n)->PyData.depthAll ds<=n
 | [],_=>Z0 _
 |d::r,h=>by
  unfold PyData.depthAll;have:=h d (Yd ..);have:=a3e λe he=>h e (Zx _ he)
  omega
theorem d0k{x:List Ans×Str×Nat}(h:∀a∈x.1,AnP a):PyData.depthAll [.list (anD x.1),endT x.2.1,.int (x.2.2:Int)]<=149:=by
 refine a3e λd hd=>?_
 simp only[Zu,Z6,Xm]at hd;rcases hd with rfl|rfl|rfl
 ·show PyData.depthAll (anD x.1)+1<=149
  have:PyData.depthAll (anD x.1)<=140:=a3e λd hd=>by
   obtain⟨a,ha,rfl⟩:=Ys.mp hd
   show PyData.depthAll [.list (a.1.map prE),nbD a.2]+1<=140
   have:PyData.depthAll [.list (a.1.map prE),nbD a.2]<=139:=a3e λe he=>by
    simp only[Zu,Z6,Xm]at he;rcases he with rfl|rfl
    ·show PyData.depthAll (a.1.map prE)+1<=139
     have:PyData.depthAll (a.1.map prE)<=138:=a3e λe he=>by
      obtain⟨p,hp,rfl⟩:=Ys.mp he;have h1:=(h a ha).z p hp;have h2:=Trm.depth_le p.2
      show PyData.depthAll [.str p.1,p.2.data]+1<=138
      have:PyData.depthAll [.str p.1,p.2.data]<=137:=a3e λe he=>by
       simp only[Zu,Z6,Xm]at he;rcases he with rfl|rfl
       ·exact Z0 _
       ·omega
      omega
     omega
    ·show PyData.depthAll (a.2.map PyData.int)+1<=139
     have:PyData.depthAll (a.2.map PyData.int)<=0:=a3e λe he=>by
      obtain⟨i,_,rfl⟩:=Ys.mp he;exact Zn _
     omega
   omega
  omega
 ·show PyData.depthAll [.str x.2.1]+1<=149
  have:PyData.depthAll [.str x.2.1]<=0:=a3e λe he=>by
   rw[Zq.mp he];exact Zn _
  omega
 ·exact Z0 _
theorem d0l{K:FG}{H:Hp}{p:Addr}{x:List Ans×Str×Nat}(h:Dm K H [] (.ref p) (b7v x)):∃tp pe ua,SqT K H p [.ref tp,.ref pe,.int (x.2.2:Int)]/\H tp=some (.lst ua)/\DmL K H [] ua (anD x.1)/\SqT K H pe [.str x.2.1]:=by
 cases h with
 |tup c d=>
  cases d with
  |cons e f=>
   cases f with
   |cons g h=>
    cases h with
    |cons i j=>
     cases j;cases i;cases e with
     |lst e1 _ e3=>
      cases g with
      |tup g1 g2=>
       cases g2 with
       |cons a b=>cases a;cases b;exact⟨_,_,_,c,e1,e3,g1⟩
theorem en_ruok{W:Nat->Str}(e:En):RuOk (e.tr W):=by
 cases e with
 |fact i m=>exact⟨⟨_,_,rfl⟩,by show 1+(1+0)<=60;decide,λg hg=>by have hg:g∈([]:List Trm):=hg;simp at hg,by show 0<=10;decide⟩
 |rule b i=>
  have h2:∀g∈a2o (.app (W i) [.any aaS]) b,g.size<=60:=λg hg=>by
   have h3:g=.app (W i) [.any aaS]\/g=a2g:=by
    cases b<;>simp only[a2o,Zu,Z6,Xm]at hg
    ·exact .inl hg
    ·exact hg.symm
    ·exact hg
   rcases h3 with rfl|rfl
   ·show 1+(1+0)<=60;decide
   ·show 1+0<=60;decide
  exact⟨⟨_,_,rfl⟩,by show 1+(1+0)<=60;decide,h2,by show(a2o _ b).length<=10;cases b<;>simp[a2o]⟩
theorem c6f{W:Nat->Str}{kept:Bool}{sh:Nat}:(∀g∈a1g W kept sh,g.size<=60)/\(a1g W kept sh).length<=10:=by
 have h1:∀w x,(Trm.app w [.any x]).size<=60:=λw x=>by show 1+(1+0)<=60;decide
 have h2:a2g.size<=60:=by show 1+0<=60;decide
 have h3:∀g∈a1g W kept sh,(∃w x,g=.app w [.any x])\/g=a2g:=λg hg=>by
  match sh with
  |0=>exact .inl ⟨_,_,Zq.mp hg⟩
  |1=>cases kept<;>simp[a1g]at hg<;>rcases hg with rfl|hg<;>first|exact .inl ⟨_,_,rfl⟩| (rcases hg with rfl|rfl<;>first|exact .inl ⟨_,_,rfl⟩|exact .inr rfl)| (subst hg;exact .inl ⟨_,_,rfl⟩)
  |_+2=>cases kept<;>simp[a1g]at hg<;>rcases hg with rfl|hg<;>first|exact .inl ⟨_,_,rfl⟩| (rcases hg with rfl|rfl<;>first|exact .inl ⟨_,_,rfl⟩|exact .inr rfl)| (subst hg;exact .inl ⟨_,_,rfl⟩)
 refine⟨λg hg=>?_,?_⟩
 ·rcases h3 g hg with⟨w,x,rfl⟩|rfl
  ·exact h1 w x
  ·exact h2
 ·match sh with
  |0=>show 1<=10;decide
  |1=>cases kept<;>(show _<=10;simp[a1g])
  |_+2=>cases kept<;>(show _<=10;simp[a1g])
theorem res36{K:FG}{H:Hp}{rp wp:Addr}{ws:List Str}{es:List En}(P:PgAt K H rp wp ws es){kept:Bool}{sh:Nat}(hk:sh=0->kept=false):
  ∃f c,Rn (a3p (es.map (En.tr (wF ws))) (a1g (wF ws) kept sh) 400 40) true (st0 (a1g (wF ws) kept sh)) f c/\(∀b∈[f.en],b≠some .none)/\resD f=b7v (b7p kept (sol4 (rls (wF ws) es es 0)) (fcs 2 es 0) sh,allS,f.ct)/\(0<=b4j kept (1+cnt4 (rls (wF ws) es es 0)) (sol4 (rls (wF ws) es es 0)) (fcs 2 es 0) sh->(f.ct:Int)=b4j kept (1+cnt4 (rls (wF ws) es es 0)) (sol4 (rls (wF ws) es es 0)) (fcs 2 es 0) sh):=by
 obtain⟨f,c,h1,h2,h3,h4⟩:=run36 P.ok P.eo.ok P.f (by rw[a8i];exact P.eo.nr) (kept:=kept) (sh:=sh) hk;refine⟨f,c,h1,λb hb z=>?_,?_,h4⟩
 ·rw[Zq.mp hb,h2]at z;cases z
 ·unfold resD b7v;rw[h2,h3];rfl
theorem due_P{kept:Bool}{S:List (Int×List Int)}{F:List (Nat×Int)}(hS:∀p∈S,p.2.length<=3):∀{sh:Nat},∀a∈b7p kept S F sh,AnP a:=by
 have kl:=b3q kept
 have hc:∀p∈cutL (kc kept) S,p.2.length<=3:=λp hp=>hS p (by
  cases kept with
  |true=>exact V5 hp
  |false=>exact hp)
 intro sh a ha
 match sh with
 |0=>
  obtain⟨p,hp,rfl⟩:=Ys.mp ha;have:=hS p hp;exact⟨by show 1<=100;decide,by show p.2.length<=100;omega,λx hx=>by rw[Zq.mp hx];show 1<=60;decide⟩
 |1=>
  obtain⟨q,_,ha⟩:=List.mem_flatMap.mp ha;obtain⟨p,hp,rfl⟩:=Ys.mp ha;have:=hS p hp;refine⟨by show 2<=100;decide,by show(([(q.1:Int)]++kz kept)++p.2).length<=100;simp;omega,λx hx=>?_⟩;simp only[a1,Zu,Z6,Xm]at hx;rcases hx with rfl|rfl<;>(show 1<=60;decide)
 |_+2=>
  obtain⟨p,hp,ha⟩:=List.mem_flatMap.mp ha;obtain⟨q,_,rfl⟩:=Ys.mp ha;have:=hc p hp;refine⟨by show 2<=100;decide,by show((p.2++kz kept)++[(q.1:Int)]).length<=100;simp;omega,λx hx=>?_⟩;simp only[a2,Zu,Z6,Xm]at hx;rcases hx with rfl|rfl<;>(show 1<=60;decide)
theorem d0m{es:List En}{e:En}{i:Nat}:fcs i (es++[e]) 0=fcs i es 0++fcs i [e] es.length:=by
 rw[b2g,Wq]
local macro_rules | `(tactic| walk_at "iF") => `(tactic| ((try with_reducible refine a6e (by assumption) ?_); refine iteF ?_))
local macro_rules | `(tactic| walk_at "iT") => `(tactic| ((try with_reducible refine a6e (by assumption) ?_); refine iteT ?_))
local macro_rules | `(tactic| walk_at "gn") => `(tactic| ((try with_reducible refine a6e (by assumption) ?_); (with_reducible refine c4k ?_); try with_reducible refine a6e (by assumption) ?_))
local macro_rules | `(tactic| walk_at "nx") => `(tactic| ((with_reducible refine c4j ?_); try with_reducible refine a6e (by assumption) ?_))
local macro_rules | `(tactic| walk_at "in") => `(tactic| repeat (with_reducible first | refine aR_i (fun _ => ?_) | refine aI_i (fun _ => ?_) | refine aS_i (fun _ => ?_) | refine aB_i (fun _ => ?_) | refine aV_i (fun _ => ?_) | refine aE_i ?_))
local macro_rules | `(tactic| ext) => `(tactic| walk_at "s")
local macro_rules | `(tactic| nofun) => `(tactic| walk_at "or1")
local macro_rules | `(tactic| ac_rfl) => `(tactic| walk_at "r")
local macro_rules | `(tactic| obtain $p:rcasesPatMed := $e:term) => `(tactic| (refine hideG fun G hG => ?_; rcases $e:term with $p:rcasesPatMed <;> refine hG ?_))
section
variable{P:Program}{w:World}{K:W.Frag}{mg:Str->Option Value}{base:Heap}{t:Ad}
theorem c2x(T:Txt K mg t)  :FnOk P w K mg base CX0 1 t.a_b7 t.d_b7 ["_law_script","_law_k"] (a6b K):=by
 exists T.F_b7.ok c2h,(a0d (a1d (a0z c0t (mv 1) (a1s (a2x K rfl) rfl T.n_f4 Yw (a0a (mv 0) a0b)) (a0t _)) (a0g (a0o (a0n (a0j K rfl) (mv 0) (mv 1) (λ_ _=>rfl)))) a0u) (a0g (a0o a0e))),H,Q,E,hr,h
 rename_i a k;obtain⟨ns,hS,h0,h1,q⟩:=h;ext
 exists a4h hS
 exists e
 ·ext;have hk:k<((ns.map V.int).length:Int):=Z8 e;obtain⟨v,hv,hv2⟩:=a5k (xs:=ns.map V.int) h0 hk;obtain⟨x,rfl⟩:=ints_at hv;refine a2l hS hv ?_;exact q _
 ·ext;exact q _
theorem d0n{ns:List Int}{i:Int}(h0:0<=i)(h1:i<(ns.length:Int)):∃n∈ns,atI (ns.map V.int) i=some (.int n):=by
 obtain⟨v,hv,_⟩:=a5k (xs:=ns.map V.int) (i:=i) h0 (by simpa using h1);have:=c4l hv;obtain⟨n,hn,e⟩:=Ys.mp this;exact⟨n,hn,by rw[hv,<-e]⟩
theorem d0o(T:Txt K mg t)  :FnOk P w K mg base CX0 1 t.a_a3 t.d_a3 ["_law_cell","_law_k","_law_many"] (a9n):=by
 exists T.F_a3.ok b9t,(a0d (a0p (i:=3) (hs:=a6c) b9t.nd rfl (by nofun) (a0n (a0j K rfl) (a1e (a0a a0e (a0a a0e (a0a a0e (a0a a0e (a0a a0e (a0a a0e (a0a a0e a0b)))))))) (a1h b0d (mv 1) a0e) (λ_ _=>rfl))) (a0g (a0o (a1h b0d (a1h b0d (a1h (a1t K rfl) (a1h b6l (mv 0) (mv 3)) (a1h b6l a0e (mv 1))) (a0n (a0j K rfl) (a1e (a0a a0e (a0a a0e (a0a a0e a0b)))) (a1h b0d (mv 1) a0e) (λ_ _=>rfl))) (mv 2))))),H,Q,E,hr,h
 rename_i c k m;obtain⟨h0,h1,hm,q⟩:=h;ext;refine⟨ln (by show 7<=100000;decide),λp1 hp1=>?_⟩;have s1:=a0h hp1 (.lst [.int 48271,.int 69621,.int 39373,.int 16807,.int 40692,.int 52774,.int 33614]);have k1:(upd H p1 (.lst [.int 48271,.int 69621,.int 39373,.int 16807,.int 40692,.int 52774,.int 33614])) p1=some (.lst ([48271,69621,39373,16807,40692,52774,33614].map V.int)):=a0c;generalize upd H p1 (.lst [.int 48271,.int 69621,.int 39373,.int 16807,.int 40692,.int 52774,.int 33614])=H1 at s1 k1 ⊢;ext;obtain⟨x,hx,hv⟩:=d0n (ns:=[48271,69621,39373,16807,40692,52774,33614]) (i:=k%7) qo (by simp;omega);have hx:-(2^64)<x/\x<2^64:=(by decide:∀x∈([48271,69621,39373,16807,40692,52774,33614]:List Int),-(2^64)<x/\x<2^64) x hx
 exists a2l (SqL.of k1) hv
 exists b6q (b4o hx)
 exists b6q (b6p qd)
 refine⟨ln (by show 3<=100000;decide),λp2 hp2=>?_⟩;have s2:=a0h hp2 (.lst [.int 1000003,.int 999983,.int 999979]);have k2:(upd H1 p2 (.lst [.int 1000003,.int 999983,.int 999979])) p2=some (.lst ([1000003,999983,999979].map V.int)):=a0c;generalize upd H1 p2 (.lst [.int 1000003,.int 999983,.int 999979])=H2 at s2 k2 ⊢;ext;obtain⟨y,hy,hw⟩:=d0n (ns:=[1000003,999983,999979]) (i:=k%3) qo (by simp;omega);have hy:0<y:=(by decide:∀y∈([1000003,999983,999979]:List Int),0<y) y hy
 exists a2l (SqL.of k2) hw
 exists m2_i hy
 refine m2_i hm ?_;exact q _ _ (Int.emod_nonneg _ qo) (Qk _ hm) (s1.trans s2)
end
section
variable{P:Program}{w:World}{K:W.Frag}{mg:Str->Option Value}{base:Heap}{t:Ad}
theorem d0p(T:Txt K mg t)  :FnOk P w K mg base CX0 1 t.a_a6 t.d_a6 ["_law_word","_law_name"] (b3o K):=by
 exists T.F_a6.ok c9n,(a0g (a0o (a0s (a0a a0v (a0a (mv 0) (a0a (a0s (a0a (a0s (a0a a0v (a0a (mv 1) a0b))) a0b)) a0b)))))),H,Q,E,hr,h
 rename_i w x;ext;refine⟨ln qz,λp1 hp1=>?_⟩;generalize e9:upd H p1 _=H1;obtain⟨sp1,kp1⟩:=nwq hp1 e9;clear e9;ext;refine⟨ln qz,λp2 hp2=>?_⟩;generalize e9:upd H1 p2 _=H2;obtain⟨sp2,kp2⟩:=nwq hp2 e9;clear e9;ext;refine zL (ln qz) λp3 hp3 H3 sp3 kp3=>?_
 ext;exact h p3 _ (sp1.trans (sp2.trans sp3)) (b0h (SqT.of kp3) (SqT.of (sp3 _ _ kp2)) (.cons (c4n (SqT.of ((sp2.trans sp3) _ _ kp1))) .nil))
theorem d3s(T:Txt K mg t)  :FnOk P w K mg base CX0 1 t.a_b5 t.d_b5 ["_law_ways","_law_kept"] (b5z K):=by
 exists T.F_b5.ok d3c,(a0d (a1d (a2k K rfl (mv 1)) (a0g (a0o (a5o (a6u K rfl) (mv 0) a6q (a6s a0e)))) a0u) (a0g (a0o (mv 0)))),H,Q,E,hr,h
 rename_i a kept;obtain⟨us,hS,hl,q⟩:=h;ext;cases kept with
 |true=>
  walk_at "D";refine⟨a,us,rfl,SqL.of hS,λp hp=>?_⟩;rw[c2i _ _ qo];exact q p _ (a0h hp _) a0c (.inr hp)
 |false=>
  walk_at "C";exact q a H (Same.refl _) hS (.inl rfl)
theorem c6g(T:Txt K mg t)  :FnOk P w K mg base CX0 1 t.a_b1 t.d_b1 ["_law_rules_here","_law_word"] (a8e K):=by
 exists T.F_b1.ok a8a,(a0d (a0p (i:=2) (hs:=a3x) a8a.nd rfl (by nofun) (a1e a0b)) (a0d (a3i Yj rfl (b5g K rfl rfl T.n_h1 (a0a (mv 0) a0b)) (a3w K rfl rfl (a1j (a1f (i:=3) a8a.nd rfl (by nofun)) (a1j (a1f (i:=4) a8a.nd rfl (by nofun)) a3k))) (a0g (a1d (PW.pt (a8j (a0z (ko_eqEm K rfl (a2y hr)) (a0n (a0j K rfl) (mv 4) a0e (λ_ _=>rfl)) (a0s a0b) (a0t _)) (a9x (a0z a2b (a0n (a0j K rfl) (a0n (a0j K rfl) (mv 4) a0e (λ_ _=>rfl)) a0e (λ_ _=>rfl)) (mv 1) (a0t _))))) (a0g (a1m (a2p K rfl Z4 Yv Y1 a2j (mv 2) (a0a (a0s (a0a (a0n (a0j K rfl) (a0n (a0j K rfl) (a0n (a0j K rfl) (mv 4) a0e (λ_ _=>rfl)) a0e (λ_ _=>rfl)) a0e (λ_ _=>rfl)) (a0a (a1h (a1t K rfl) (mv 3) a0e) a0b))) a0b)))) a0u))) (a0g (a0o (a5o (a6u K rfl) (mv 2) a6q (a6s a0e)))))),H,Q,E,hr,h
 rename_i rp w;obtain⟨ur,W,es,i,hS,hd,he,hW,hi,rfl,hl,q⟩:=h;have hul:=hd.length;rw[esD,length_map]at hul;ext;refine zL (Z0 _) λD hD H1 s1 kD=>?_
 ext;refine⟨rp,ur,rfl,s1.seq hS,?_⟩;refine b2t (λk σ' J=>∃(o3 o4:Option V)(us:List V),σ'=[some (.ref rp),some (.str (W i)),some (.ref D),o3,o4]/\Same H J/\J D=some (.lst us)/\DenL K J us ((fcs i (es.take k) 0).map ftE)) ⟨none,none,[],rfl,s1,kD,.nil⟩ (λk σ' J hP=>by obtain⟨_,_,_,_,sj,_⟩:=hP;exact sj.seq hS) (λk σ' J T' hk hP hT=>?_) (λσ' J hP=>?_)
 ·obtain⟨o3,o4,us,rfl,g1,g2,g3⟩:=hP;have hk:k<ur.length:=hk;have hke:k<es.length:=by omega
  have gl:=g3.length;rw[length_map]at gl;have gl2:=b8z (i:=i) (es.take k) 0;rw[Z7]at gl2;obtain⟨hg,de⟩:=c0z hd hk hke;rw[hg];refine a4r (SqT.of a0c) rfl ?_;have sT:=a0h hT (.tup [.int k,ur[k]]);generalize upd J T' (.tup [.int k,ur[k]])=J1 at sT ⊢;have gT:=g1.trans sT;obtain⟨ra,hv,gp,ug,er,hs,hh,hg1,hg2⟩:=b7u (de.mono gT);rw[er];ext
  exists a0k hs (v:=.ref gp) rfl
  refine⟨Z0 _,λpe hpe=>?_⟩;generalize e9:upd J1 pe _=J2;obtain⟨s2,ke⟩:=nwq hpe e9;clear e9;have g12:=gT.trans s2;have gD2:=(sT.trans s2) _ _ g2;have g32:=g3.mono (sT.trans s2);have hs:=s2.tup hs;have hh:=hh.mono s2;refine em_t (s2.tup hg1) (SqT.of ke) ?_;cases hek:es[k]with
  |rule b j=>
   rw[hek]at hg2;have hne:ug.isEmpty=false:=by
    have:=hg2.length;cases ug with
    |nil=>cases b<;>(simp[En.tr,a2o,Trm.dataL]at this)
    |cons _ _=>rfl
   rw[hne,Zt];ext;walk_at "iF";walk_at "C";exact⟨_,_,us,rfl,g12,gD2,by rw[b6a hke,hek,show fcs i [En.rule b j] k=[]from rfl,Yg];exact g32⟩
  |fact j m=>
   rw[hek]at hg2 hh;have hem:ug.isEmpty=true:=by cases hg2;rfl
   rw[hem,Zt];ext;walk_at "iT";obtain⟨a1,b1,u1,rfl,h1,h2,h3⟩:=a1q hh;obtain⟨nv,rfl,hn⟩:∃nv,u1=[nv]/\Den K J2 nv (Trm.num m).data:=by
    cases h3 with
    |cons a b=>cases b;exact⟨_,rfl,a⟩
   ext
   exists a0k hs (v:=.ref a1) rfl
   exists a0k h1 (v:=.str (W j)) rfl
   exists e
   ·have e:W j=W i:=Z8 (by simpa using e);have hj3:=he _ (Yq hke);rw[hek]at hj3;have hj3:j<3:=hj3;have ej:j=i:=hW.inj j i qo qo e;ext;refine⟨.inl ⟨rfl,_,SqL.of gD2⟩,?_⟩;ext
    exists a0k hs (v:=.ref a1) rfl
    exists a0k h1 (v:=.ref b1) rfl
    exists a0k h2 (v:=nv) rfl
    refine⟨ln qz,λpt hpt=>?_⟩;generalize e9:upd J2 pt _=J3;obtain⟨s3,kt⟩:=nwq hpt e9;clear e9;ext;refine a2f (s3 _ _ gD2) (ln1 qo) ?_;refine⟨_,_,us++[.ref pt],rfl,a1c (g12.trans s3) hD,a0c,?_⟩;rw[b6a hke,hek,fcs,if_pos ej,Zo];exact((g32.mono s3).append (.cons (.tup (SqT.of kt) (.cons (hn.mono s3) (.cons (.int _) .nil))) .nil)).lst (s3 _ _ gD2)
   ·have ej:¬j=i:=λz=>by subst z;simp at e
    ext;exact⟨_,_,us,rfl,g12,gD2,by rw[b6a hke,hek,fcs,if_neg ej,show fcs i [] (k+1)=[]from rfl,Yg];exact g32⟩
 obtain⟨o3,o4,us,rfl,g1,g2,g3⟩:=hP;rw[hul,Yx]at g3;ext;refine⟨D,us,rfl,SqL.of g2,λp hp=>?_⟩;rw[c2i _ _ qo];have:=a0h hp (.lst (us.take (4:Int).toNat));exact q p _ _ (g1.trans this) a0c (by rw[V1];exact DenL.take' 4 (g3.mono this))
end
section
variable{P:Program}{w:World}{K:W.Frag}{mg:Str->Option Value}{base:Heap}{t:Ad}
theorem ok_law(T:Txt K mg t)(G_d2:FnOk P w K mg base CX0 2 t.a_d2 t.d_d2 ["_law_cell"] (b7r K))(G_b7:FnOk P w K mg base CX0 1 t.a_b7 t.d_b7 ["_law_script","_law_k"] (a6b K))(G_d3:FnOk P w K mg base CX0 2 t.a_d3 t.d_d3 ["_law_script","_law_words_here","_law_way"] (b7s K))(G_a3:FnOk P w K mg base CX0 1 t.a_a3 t.d_a3 ["_law_cell","_law_k","_law_many"] (a9n))(G_d4:FnOk P w K mg base CX0 4 t.a_d4 t.d_d4 ["_law_rules_here","_law_words_here","_law_shape","_law_kept"] (c2u K))(G_b6:FnOk P w K mg base CX0 78 t.a_b6 t.d_b6 ["rules","goals","bound","most"] (b3k K))(G_a6:FnOk P w K mg base CX0 1 t.a_a6 t.d_a6 ["_law_word","_law_name"] (b3o K))(G_b1:FnOk P w K mg base CX0 1 t.a_b1 t.d_b1 ["_law_rules_here","_law_word"] (a8e K)):FnOk P w K mg base CX0 79 t.a_law t.d_law ["_law_script"] (b7t K):=by
 exists T.F_law.ok a4v,(a0d (a0p (i:=1) (hs:=a1n) a4v.nd rfl (by nofun) (a0l G_d2 hr.o rfl T.m_d2 T.F_d2.kp T.b_d2 .nil a0m (a0a (a0l G_b7 hr.o rfl T.m_b7 T.F_b7.kp T.b_b7 .nil a0m (a0a (mv 0) (a0a a0e a0b))) a0b))) (a0d (a0p (i:=2) (hs:=a1n) a4v.nd rfl (by nofun) (a0l G_b7 hr.o rfl T.m_b7 T.F_b7.kp T.b_b7 .nil a0m (a0a (mv 0) (a0a a0e a0b)))) (a0d (a0p (i:=3) (hs:=a3x) a4v.nd rfl (by nofun) (a1e a0b)) (a0d (a3i Yj rfl (a2e K rfl (a0l G_d3 hr.o rfl T.m_d3 T.F_d3.kp T.b_d3 .nil a0m (a0a (mv 0) (a0a (mv 1) (a0a (mv 2) a0b))))) (a1f (i:=4) a4v.nd rfl (by nofun)) (a0g (a1d (PW.pt (pw_or (a0z (b4c K rfl (a2y hr)) (a0n (a0j K rfl) (mv 4) a0e (λ_ _=>rfl)) (a0s a0b) (a0t _)) (c1b (a0z c0t (a1s (a2x K rfl) rfl T.n_f4 Yw (a0a (a0l G_b1 hr.o rfl T.m_b1 T.F_b1.kp T.b_b1 .nil a0m (a0a (mv 3) (a0a (a0n (a0j K rfl) (a0n (a0j K rfl) (mv 4) a0e (λ_ _=>rfl)) a0e (λ_ _=>rfl)) a0b))) a0b)) a0e (a0t _))))) (a0g (a1m (a2p K rfl Z4 Yv Y1 a2j (mv 3) (a0a (mv 4) a0b)))) a0u))) (a0d (a0p (i:=5) (hs:=a1n) a4v.nd rfl (by nofun) (a0l G_a3 hr.o rfl T.m_a3 T.F_a3.kp T.b_a3 .nil a0m (a0a (mv 2) (a0a a0e (a0a a0e a0b))))) (a0d (a0p (i:=6) a4v.nd rfl (by nofun) (a7i (a2a b3y (mv 5) a0e (a0t _)) (a4o (a2a a2b (a0l G_a3 hr.o rfl T.m_a3 T.F_a3.kp T.b_a3 .nil a0m (a0a (mv 2) (a0a a0e (a0a a0e a0b)))) a0e (a0t _))))) (a0d (a0p (i:=7) (hs:=a3x) a4v.nd rfl (by nofun) (a1e (a0a (a0l G_a6 hr.o rfl T.m_a6 T.F_a6.kp T.b_a6 .nil a0m (a0a (a0n (a0j K rfl) (mv 1) a0e (λ_ _=>rfl)) (a0a a0v a0b))) a0b))) (a0d (a1d (a0z b3y (mv 5) a0e (a0t _)) (a0g (a1m (a2p K rfl Z4 Vn Ul a9b (mv 7) (a0a (a1o a7j rfl T.n_g1 U1 (a0a (a2a a2b (mv 5) a0e (a0t _)) a0b)) (a0a (a0l G_a6 hr.o rfl T.m_a6 T.F_a6.kp T.b_a6 .nil a0m (a0a (a0n (a0j K rfl) (mv 1) a0e (λ_ _=>rfl)) (a0a a0v a0b))) a0b))))) a0u) (a0d (a1d (a2k K rfl (mv 6)) (a0g (a1m (a2p K rfl Z4 Vn Ul a9b (mv 7) (a0a a0e (a0a (a0s (a0a a0v (a0a a0v (a0a (a0s a0b) a0b)))) a0b))))) a0u) (a0d (b6e (a0l G_d4 hr.o rfl T.m_d4 T.F_d4.kp T.b_d4 .nil a0m (a0a (mv 3) (a0a (mv 1) (a0a (mv 5) (a0a (mv 6) a0b))))) (a3w K rfl rfl (a1j (a1f (i:=8) a4v.nd rfl (by nofun)) (a1j (a1f (i:=9) a4v.nd rfl (by nofun)) a3k)))) (a0d (a0p (i:=10) (hs:=a1n) a4v.nd rfl (by nofun) (a0l G_b6 hr.o rfl T.m_b6 T.F_b6.kp T.b_b6 .nil a0m (a0a (a1o (a8g K rfl) rfl T.n_g0 Vy (a0a (mv 3) a0b)) (a0a (a1o (a8g K rfl) rfl T.n_g0 Vy (a0a (mv 7) a0b)) (a0a a0e (a0a a0e a0b)))))) (a0d (a1d (PW.pt (pw_or (a0z (c9d K rfl (a2y hr)) (a0n (a0j K rfl) (mv 10) a0e (λ_ _=>rfl)) (mv 8) (a0t _)) (c1b (a0z (c9d K rfl (a2y hr)) (a0n (a0j K rfl) (mv 10) a0e (λ_ _=>rfl)) (a0s (a0a a0v a0b)) (a0t _))))) (a0g (a0o a4b)) a0u) (a0g (a0o (b6n (a2a c0t (mv 9) a0e (a0t _)) (a4o (a7i (a2a a2b (a0n (a0j K rfl) (mv 10) a0e (λ_ _=>rfl)) (mv 9) (a0t _)) (a4o (a2a (ko_eqX K rfl (a2y hr)) (a0l G_b6 hr.o rfl T.m_b6 T.F_b6.kp T.b_b6 .nil a0m (a0a (a1o (a8g K rfl) rfl T.n_g0 Vy (a0a (mv 3) a0b)) (a0a (a1o (a8g K rfl) rfl T.n_g0 Vy (a0a (mv 7) a0b)) (a0a a0e (a0a a0e a0b))))) (mv 10) (a0t _)))))))))))))))))))),H,Q,E,hr,h
 rename_i a;obtain⟨ns,hS,hns,q⟩:=h;ext;refine⟨ns,hS,qd,qd,λc0=>?_⟩;ext;refineλwp ws H1 s1 kw hwl hwn hwd=>?_
 have hWk:=wF_ok hwl hwn hwd;ext;refine⟨ns,s1.seq hS,qd,qd,λway=>?_⟩;ext;refine zL (Z0 _) λrp hrp H2 s2 kr=>?_
 have t2:=s1.trans s2;ext;refine⟨ns,ws,t2.seq hS,SqL.of (s2 _ _ kw),hwl,λrq uq eq H3 s3 hrq kq dq eo=>?_⟩;have luq:=dq.length;rw[esD,length_map]at luq;have leq:=eo.ln;refine⟨rq,rfl,⟨_,SqL.of kq⟩,?_⟩;refine a3m (a2d (xs:=uq)) (λi σ' J=>∃(o4:Option V)(ur:List V)(es:List En),σ'=[some (.ref a),some (.ref wp),some (.int way),some (.ref rp),o4,none,none,none,none,none,none]/\Same H1 J/\J rq=some (.lst uq)/\DenL K J uq (esD (wF ws) eq)/\J rp=some (.lst ur)/\DenL K J ur (esD (wF ws) es)/\(∀e∈es,e.Ok)/\nr es=nr (eq.take i)/\es.length<=i/\∀j,(fcs j es 0).length<=4) ⟨none,[],[],rfl,s2.trans s3,kq,dq,s3 _ _ kr,.nil,λe he=>by simp at he,rfl,Zn _,λj=>Z0 _⟩ (λi σ' J hP=>by obtain⟨_,_,_,_,_,z,_⟩:=hP;exact SqL.of z) (λi σ' J hi hP=>?_) (λσ' J hP=>?_)
 ·obtain⟨o4,ur,es,rfl,g1,g2,g3,g4,g5,g6,g7,g8,g9⟩:=hP;have hie:i<eq.length:=by omega
  have g0:=s1.trans g1;obtain⟨hg,de⟩:=c0z g3 hi hie;obtain⟨ra,hv,gp,ug,er,hs,hh,hg1,hg2⟩:=b7u de;have nrp:rq≠rp:=λz=>by rw[z,kr]at hrq;cases hrq
  have htk:eq.take (i+1)=eq.take i++[eq[i]]:=take_succ' hie;have g4l:=g5.length;rw[esD,length_map]at g4l;rw[hg,er];have app:∀{X:Hp},Same J X->∀e,e=eq[i]->(∀j,(fcs j (es++[e]) 0).length<=4)->∃(o4:Option V)(ur':List V)(es':List En),[some (.ref a),some (.ref wp),some (.int way),some (.ref rp),some (.ref ra),none,none,none,none,none,none]=[some (.ref a),some (.ref wp),some (.int way),some (.ref rp),o4,none,none,none,none,none,none]/\Same H1 (upd X rp (.lst (ur++[.ref ra])))/\(upd X rp (.lst (ur++[.ref ra]))) rq=some (.lst uq)/\DenL K (upd X rp (.lst (ur++[.ref ra]))) uq (esD (wF ws) eq)/\(upd X rp (.lst (ur++[.ref ra]))) rp=some (.lst ur')/\DenL K (upd X rp (.lst (ur++[.ref ra]))) ur' (esD (wF ws) es')/\(∀e∈es',e.Ok)/\nr es'=nr (eq.take (i+1))/\es'.length<=i+1/\∀j,(fcs j es' 0).length<=4:=λ{X} sX e he hf=>by
   refine⟨_,ur++[.ref ra],es++[e],rfl,a1c (g1.trans sX) hrp,?_,(g3.mono sX).lst (sX _ _ g4),a0c,?_,λx hx=>?_,?_,?_,hf⟩
   ·rw[a0f nrp];exact sX _ _ g2
   ·rw[esD,Zo];rw[er]at de;have d1:Den K X (.ref ra) (ruE (e.tr (wF ws))):=by rw[he];exact de.mono sX
    exact((g5.mono sX).append (.cons d1 .nil)).lst (sX _ _ g4)
   ·rcases Yt.mp hx with z|z
    ·exact g6 x z
    ·rw[Zq.mp z,he];exact eo.ok _ (Yq hie)
   ·rw[a8w,htk,a8w,g7,he]
   ·rw[Zl,Zy];omega
  ext
  exists a0k hs (v:=.ref gp) rfl
  refine⟨Z0 _,λpe hpe=>?_⟩;generalize e9:upd J pe _=J2;obtain⟨s2',ke⟩:=nwq hpe e9;clear e9;refine em_t (s2'.tup hg1) (SqT.of ke) ?_;cases hek:eq[i]with
  |rule b j=>
   rw[hek]at hg2;have hne:ug.isEmpty=false:=by
    have:=hg2.length;cases ug with
    |nil=>cases b<;>(simp[En.tr,a2o,Trm.dataL]at this)
    |cons _ _=>rfl
   rw[hne];ext;refine iteB (λ_=>?_) (λz=>absurd z qd);ext;refine⟨.inl ⟨rfl,_,SqL.of (s2' _ _ g4)⟩,?_⟩;ext;refine a2f (s2' _ _ g4) (ln1 qo) ?_;exact app s2' (.rule b j) hek.symm λk=>by rw[d0m];show(fcs k es 0++[]).length<=4;rw[Yg];exact g9 k
  |fact j m=>
   rw[hek]at hg2 hh;have hem:ug.isEmpty=true:=by cases hg2;rfl
   rw[hem];ext;refine iteB (λz=>absurd z qd) (λ_=>?_);have hj:j<3:=by have:=eo.ok _ (Yq hie);rw[hek]at this;exact this
   obtain⟨a1,b1,u1,rfl,h1,h2,h3⟩:=a1q hh;ext
   exists a0k (s2'.tup hs) (v:=.ref a1) rfl
   exists a0k (s2'.tup h1) (v:=.str (wF ws j)) rfl
   refine⟨ur,wF ws,es,j,SqL.of (s2' _ _ g4),g5.mono s2',g6,hWk,hj,rfl,qo,λfp uf J3 s3' kf df=>?_⟩;have lf:=df.length;rw[length_map,Z7]at lf;ext
   exists a4h (SqL.of kf)
   have s23:=s2'.trans s3'
   exists e
   ·have e:(uf.length:Int)<4:=Z8 (by simpa using e);ext;refine⟨.inl ⟨rfl,_,SqL.of (s23 _ _ g4)⟩,?_⟩;ext;refine a2f (s23 _ _ g4) (ln1 qo) ?_;exact app s23 (.fact j m) hek.symm λk=>by
     rw[d0m,Zl];have:=g9 k
     by_cases c:j=k
     ·subst c;rw[fcs,if_pos rfl]
      show _+([]:List (Nat×Int)).length.succ<=4
      have e:uf.length<4:=by omega
      rw[length_nil];omega
     ·rw[fcs,if_neg c]
      show _+0<=4
      omega
   ·walk_at "nx";exact⟨_,ur,es,rfl,g1.trans s23,s23 _ _ g2,g3.mono s23,s23 _ _ g4,g5.mono s23,g6,by rw[g7,htk,a8w,hek];rfl,qo,g9⟩
 obtain⟨o4,ur,es,rfl,g1,g2,g3,g4,g5,g6,g7,g8,g9⟩:=hP;have P:PgAt K J rp wp ws es:=⟨⟨ur,SqL.of g4,g5⟩,SqL.of (g1 _ _ kw),hwl,hWk,⟨g6,by rw[g7,luq,Yx];exact eo.nr,qo⟩,λi _=>g9 i⟩;have t3:=s1.trans g1;clear g2 g3 g7 g8 dq kq eo;ext;refine⟨qd,qd,qd,λv Ja v0 v1 sa=>?_⟩;obtain⟨sh,rfl⟩:=U4 v0;have hsh:sh<=2:=by omega
 walk_at "gn"
 (with_reducible refine a2m (λσ' X=>∃kept:Bool,σ'=[some (.ref a),some (.ref wp),some (.int way),some (.ref rp),o4,some (.int (sh:Int)),some (.bl kept),none,none,none,none]/\Same Ja X/\(sh=0->kept=false)) (λσ' X hP=>?_) (λkk=>?_))
 rotate_left
 ·ext
  exists e
  ·have e:(0:Int)<(sh:Int):=Z8 (by simpa using e);ext;refine⟨qd,qd,qd,λv2 Jb v20 v21 sb=>?_⟩;ext;exact kk _ _ ⟨_,rfl,sb,λz=>by omega⟩
  ·ext;exact kk _ _ ⟨false,rfl,Same.refl _,λ_=>rfl⟩
 obtain⟨kept,rfl,sX,hkp⟩:=hP;have sXa:=sa.trans sX;ext
 exists a2l (sXa.seq P.w) (a5m hwl (i:=3) qd)
 refineλga Xb sg dg=>?_
 ext;refine zL (ln qz) λgp hgp Xc sgp kgp=>?_
 have u3:=sXa.trans (sg.trans sgp);walk_at "gn"
 (with_reducible refine a2m (λσ' Y=>∃(ug:List V),σ'=[some (.ref a),some (.ref wp),some (.int way),some (.ref rp),o4,some (.int (sh:Int)),some (.bl kept),some (.ref gp),none,none,none]/\Same X Y/\Y gp=some (.lst ug)/\DenL K Y ug (Trm.dataL (a1g (wF ws) false sh))) (λσ' Y hP=>?_) (λkk=>?_))
 rotate_left
 ·ext
  exists e
  ·have e:(0:Int)<(sh:Int):=Z8 (by simpa using e);ext;refine⟨.inl ⟨rfl,_,SqL.of kgp⟩,?_⟩;ext
   exists a2l (u3.seq P.w) (a5m hwl (i:=2) qd)
   refineλgb Xd sd dd=>?_
   ext;have hgpX:=a1k sg hgp;have kgd:=sd _ _ kgp;rcases(by omega:sh=1\/sh=2)with rfl|rfl
   ·refine b0l kgd qd qz qz ?_;exact kk _ _ ⟨[.ref gb,.ref ga],rfl,a4x (sg.trans (sgp.trans sd)) hgpX,a0c,DenL.lst kgd (.cons dd (.cons (dg.mono (sgp.trans sd)) .nil))⟩
   ·refine b0l kgd qd qz qz ?_;exact kk _ _ ⟨[.ref ga,.ref gb],rfl,a4x (sg.trans (sgp.trans sd)) hgpX,a0c,DenL.lst kgd (.cons (dg.mono (sgp.trans sd)) (.cons dd .nil))⟩
  ·have e:sh=0:=by
    by_cases c:sh=0
    ·exact c
    ·have:(0:Int)<(sh:Int):=by omega
     rw[Ye this]at e;cases e
   subst e;walk_at "nx";exact kk _ _ ⟨[.ref ga],rfl,sg.trans sgp,kgp,.cons (dg.mono sgp) .nil⟩
 obtain⟨ug,rfl,sY,kg,dgs⟩:=hP;have hgpJ:=a1k (sXa.trans sg) hgp;have sJY:=sXa.trans sY
 (with_reducible refine a2m (λσ' Z=>∃(uh:List V),σ'=[some (.ref a),some (.ref wp),some (.int way),some (.ref rp),o4,some (.int (sh:Int)),some (.bl kept),some (.ref gp),none,none,none]/\Same J Z/\Z gp=some (.lst uh)/\DenL K Z uh (Trm.dataL (a1g (wF ws) kept sh))) (λσ' Z hP=>?_) (λkk=>?_))
 rotate_left
 ·ext
  exists e
  ·have hs0:sh≠0:=λz=>by rw[hkp z]at e;cases e
   ext;refine⟨.inl ⟨rfl,_,SqL.of kg⟩,?_⟩;ext;refine⟨Z0 _,λp1 hp1=>?_⟩;generalize e9:upd Y p1 _=Ya;obtain⟨sp1,kp1⟩:=nwq hp1 e9;clear e9;ext;refine⟨ln qz,λp2 hp2=>?_⟩;generalize e9:upd Ya p2 _=Yb;obtain⟨sp2,kp2⟩:=nwq hp2 e9;clear e9;ext;have lg:=dgs.length;have dk:Den K Yb (.ref p2) a2g.data:=b0h (SqT.of kp2) (SqT.of (sp2 _ _ kp1)) .nil;have u2:=sp1.trans sp2;have hne:∃g1 g2,a1g (wF ws) false sh=[g1,g2]/\a1g (wF ws) true sh=[g1,a2g,g2]:=by
    rcases(by omega:sh=1\/sh=2)with rfl|rfl
    ·exact⟨_,_,rfl,rfl⟩
    ·exact⟨_,_,rfl,rfl⟩
   obtain⟨g1',g2',eg1,eg2⟩:=hne;rw[eg1]at dgs;subst e;rw[eg2]at kk;obtain⟨x1,x2,rfl,dx1,dx2⟩:∃x1 x2,ug=[x1,x2]/\Den K Y x1 g1'.data/\Den K Y x2 g2'.data:=by
    cases dgs with
    |cons a b=>
     cases b with
     |cons c d=>cases d;exact⟨_,_,rfl,a,c⟩
   refine b0l (u2 _ _ kg) qd qz qz ?_;exact kk _ _ ⟨[x1,.ref p2,x2],rfl,a4x (sJY.trans u2) hgpJ,a0c,DenL.lst (u2 _ _ kg) (.cons (dx1.mono u2) (.cons dk (.cons (dx2.mono u2) .nil)))⟩
  ·have e:kept=false:=by simpa using e
   rw[e]at kk;walk_at "nx";rw[e];exact kk _ _ ⟨ug,rfl,sJY,kg,dgs⟩
 obtain⟨uh,rfl,sZ,kh,dh⟩:=hP;obtain⟨f,c,r1,r2,r3,r4⟩:=res36 (P.mono sZ) (kept:=kept) (sh:=sh) hkp;obtain⟨gz1,gz2⟩:=c6f (W:=wF ws) (kept:=kept) (sh:=sh);have hdP:=due_P (kept:=kept) (S:=sol4 (rls (wF ws) es es 0)) (F:=fcs 2 es 0) (λp hp=>b6b p hp) (sh:=sh);ext;refine⟨ws,es,sh,P.mono sZ,rfl,hsh,λp9 t9 u9 Za s9 sq9 k9 d9=>?_⟩;generalize b4j kept (1+cnt4 (rls (wF ws) es es 0)) (sol4 (rls (wF ws) es es 0)) (fcs 2 es 0) sh=cnt at*;generalize b7p kept (sol4 (rls (wF ws) es es 0)) (fcs 2 es 0) sh=due at*
 (with_reducible refine a6e (by assumption) ?_);refine a4r sq9 rfl ?_
 ext;have uZ:=sZ.trans s9;have kr9:=uZ _ _ g4;have dr9:=g5.mono uZ;have kh9:=s9 _ _ kh;have dh9:=dh.mono s9;have hur:=g5.length;rw[esD,length_map]at hur;have hrs:esD (wF ws) es=(es.map (En.tr (wF ws))).map ruE:=by rw[esD,T4];rfl
 rw[hrs]at dr9;have hen:=P.eo.ln;have srch:∀{X:Hp}{lr lg:Addr}{Q:VK}{E:XK},Same Za X->X lr=some (.lst ur)->X lg=some (.lst uh)->(∀fv H',Same X H'->Dm K H' [] (.ref fv) (b7v (due,allS,f.ct))->Q (.ref fv) H')->b3k K [.ref lr,.ref lg,.int 400,.int 40] X Q E:=λ{X lr lg Q E} s k1 k2 kk=>⟨ur,uh,es.map (En.tr (wF ws)),a1g (wF ws) kept sh,f,c,SqL.of k1,dr9.mono s,λx hx=>by obtain⟨e,_,rfl⟩:=Ys.mp hx;exact en_ruok e,by rw[length_map];omega,SqL.of k2,dh9.mono s,gz1,gz2,r1,r2,λfv H' sf df=>kk fv H' sf (by rw[r3]at df;exact df)⟩
 refine⟨rp,ur,rfl,.inl (SqL.of kr9),λl1 hl1=>?_⟩;generalize e9:upd Za l1 _=Zb;obtain⟨sl1,kl1⟩:=nwq hl1 e9;clear e9;ext;refine⟨gp,uh,rfl,.inl (SqL.of (sl1 _ _ kh9)),λl2 hl2=>?_⟩;generalize e9:upd Zb l2 _=Zc;obtain⟨sl2,kl2⟩:=nwq hl2 e9;clear e9;ext;refine srch (sl1.trans sl2) (sl2 _ _ kl1) kl2 λfv Zd sf df=>?_
 have tcd:=sl1.trans (sl2.trans sf);ext;obtain⟨fp,fe,ua,f1,f2,f3,f4⟩:=d0l df;have rd:=d0k (x:=(due,allS,f.ct)) hdP;have rd0:PyData.depthAll (anD due)<=149:=by
  have:PyData.depthAll [.list (anD due),endT allS,.int (f.ct:Int)]<=149:=rd;unfold PyData.depthAll at this;have h0:(PyData.list (anD due)).depth=PyData.depthAll (anD due)+1:=rfl;omega
 exists a0k f1 (v:=.ref fp) rfl
 refine⟨fp,t9,ua,u9,anD due,rfl,rfl,.inr ⟨SqL.of f2,SqL.of (tcd _ _ k9)⟩,f3.dx,(d9.pr (.same tcd)).dx,rd0,?_⟩;ext;refine iteB (λz=>absurd z qd) (λ_=>?_);ext
 exists a0k f1 (v:=.ref fe) rfl
 refine⟨ln qz,λpe hpe=>?_⟩;generalize e9:upd Zd pe _=Ze;obtain⟨spe,kpe⟩:=nwq hpe e9;clear e9;refine⟨fe,pe,_,_,[.str allS],rfl,rfl,.inl ⟨spe.tup f4,SqT.of kpe⟩,.cons (.str _) .nil,.cons (.str _) .nil,qd,?_⟩;ext;refine iteB (λz=>absurd z qd) (λ_=>?_);ext;refine iteB (λ_=>?_) (λe=>?_)
 ·exact q _
 have e:¬cnt<0:=by simpa using e
 have r4:=r4 qo;ext
 exists a0k (spe.tup f1) (v:=.int (f.ct:Int)) rfl
 rw[r4,Ye rfl];refine iteB (λ_=>?_) (λz=>absurd z qd);ext;have tcE:=tcd.trans spe;refine⟨rp,ur,rfl,.inl (SqL.of (tcE _ _ kr9)),λm1 hm1=>?_⟩;generalize e9:upd Ze m1 _=Zf;obtain⟨sm1,km1⟩:=nwq hm1 e9;clear e9;ext;refine⟨gp,uh,rfl,.inl (SqL.of ((tcE.trans sm1) _ _ kh9)),λm2 hm2=>?_⟩;generalize e9:upd Zf m2 _=Zg;obtain⟨sm2,km2⟩:=nwq hm2 e9;clear e9;ext;refine srch (tcE.trans (sm1.trans sm2)) (sm2 _ _ km1) km2 λfv2 Zh sg dg2=>?_
 ext;obtain⟨us1,e1,e2⟩:=d0j dg2;obtain⟨us2,e3,e4⟩:=d0j (df.pr (M:=[]) (.same (spe.trans (sm1.trans (sm2.trans sg)))));refine⟨fv2,fv,us1,us2,_,rfl,rfl,.inl ⟨e1,e3⟩,e2,e4,rd,?_⟩;exact q _
end
section
variable{P:Program}{w:World}{K:W.Frag}{mg:Str->Option Value}{base:Heap}{t:Ad}
theorem d3t(T:Txt K mg t)(G_e0:FnOk P w K mg base CX0 3 t.a_e0 t.d_e0 ["_law_rules_here","_law_words_here"] (b5a K))(G_b1:FnOk P w K mg base CX0 1 t.a_b1 t.d_b1 ["_law_rules_here","_law_word"] (a8e K))(G_b5:FnOk P w K mg base CX0 1 t.a_b5 t.d_b5 ["_law_ways","_law_kept"] (b5z K)):FnOk P w K mg base CX0 4 t.a_d4 t.d_d4 ["_law_rules_here","_law_words_here","_law_shape","_law_kept"] (c2u K):=by
 exists T.F_d4.ok a2n,(a0d (b6e (a0l G_e0 hr.o rfl T.m_e0 T.F_e0.kp T.b_e0 .nil a0m (a0a (mv 0) (a0a (mv 1) a0b))) (a3w K rfl rfl (a1j (a1f (i:=4) a2n.nd rfl (by nofun)) (a1j (a1f (i:=5) a2n.nd rfl (by nofun)) a3k)))) (a0d (a1d (a0z a2b (mv 2) a0e (a0t _)) (a0g (a0o (a0s (a0a (d2y K rfl rfl (a2e K rfl (mv 4)) (d2r (a0i b4d) ["_law_rules_here","_law_words_here","_law_shape","_law_kept","_law_fourth_here","_law_count","_law_facts_here","_law_told","_law_term","_law_fact","_law_other","_law_way"] ["_law_rules_here","_law_words_here","_law_shape","_law_kept","_law_fourth_here","_law_count","_law_facts_here","_law_told","%_law_term","_law_fact","_law_other","%_law_way"] rfl rfl qk) (λ_ _ _ _ _=>(a0s (a0a (a1e (a0a (a0s (a0a a0v (a0a (mv 0) a0b))) a0b)) (a0a (mv 1) a0b))))) (a0a (mv 5) a0b))))) a0u) (a0d (a0p (i:=6) (hs:=a1n) a2n.nd rfl (by nofun) (a0l G_b1 hr.o rfl T.m_b1 T.F_b1.kp T.b_b1 .nil a0m (a0a (mv 0) (a0a (a0n (a0j K rfl) (mv 1) a0e (λ_ _=>rfl)) a0b)))) (a0d (a0p (i:=7) (hs:=a3x) a2n.nd rfl (by nofun) (a1e a0b)) (a0d (a1d (a0z a2b (mv 2) a0e (a0t _)) (a0d (a0p (i:=6) (hs:=a1n) a2n.nd rfl (by nofun) (a0l G_b5 hr.o rfl T.m_b5 T.F_b5.kp T.b_b5 .nil a0m (a0a (mv 6) (a0a (mv 3) a0b)))) (a0d (a3i Yj rfl (a2e K rfl (mv 6)) (a3w K rfl rfl (a1j (a1f (i:=8) a2n.nd rfl (by nofun)) (a1j (a1f (i:=9) a2n.nd rfl (by nofun)) a3k))) (a0g (a3i Yj rfl (a2e K rfl (mv 4)) (a3w K rfl rfl (a1j (a1f (i:=10) a2n.nd rfl (by nofun)) (a1j (a1f (i:=11) a2n.nd rfl (by nofun)) a3k))) (a0g (a1m (a2p K rfl Z4 Yv Y1 a2j (mv 7) (a0a (a0s (a0a (a1e (a0a (a0s (a0a a0v (a0a (mv 8) a0b))) (a0a (a0s (a0a a0v (a0a (mv 10) a0b))) a0b))) (a0a (a1h (a1t K rfl) (a1h (a1t K rfl) (a1e (a0a (mv 9) a0b)) (a1h c4r (a1e (a0a a0e a0b)) (a1o a7j rfl T.n_g1 U1 (a0a (mv 3) a0b)))) (mv 11)) a0b))) a0b))))))) (a0g (a0o (a0s (a0a (mv 7) (a0a (a1h (a1t K rfl) a0e (a1h b6l (a1s (a2x K rfl) rfl T.n_f4 Yw (a0a (mv 6) a0b)) (a1h (a1t K rfl) (mv 5) (a1o a7j rfl T.n_g1 U1 (a0a (mv 3) a0b))))) a0b))))))) a0u) (a0d (a3i Yj rfl (a2e K rfl (a0l G_b5 hr.o rfl T.m_b5 T.F_b5.kp T.b_b5 .nil a0m (a0a (mv 4) (a0a (mv 3) a0b)))) (a3w K rfl rfl (a1j (a1f (i:=10) a2n.nd rfl (by nofun)) (a1j (a1f (i:=11) a2n.nd rfl (by nofun)) a3k))) (a0g (a3i Yj rfl (a2e K rfl (mv 6)) (a3w K rfl rfl (a1j (a1f (i:=8) a2n.nd rfl (by nofun)) (a1j (a1f (i:=9) a2n.nd rfl (by nofun)) a3k))) (a0g (a1m (a2p K rfl Z4 Yv Y1 a2j (mv 7) (a0a (a0s (a0a (a1e (a0a (a0s (a0a a0v (a0a (mv 10) a0b))) (a0a (a0s (a0a a0v (a0a (mv 8) a0b))) a0b))) (a0a (a1h (a1t K rfl) (a1h (a1t K rfl) (mv 11) (a1h c4r (a1e (a0a a0e a0b)) (a1o a7j rfl T.n_g1 U1 (a0a (mv 3) a0b)))) (a1e (a0a (mv 9) a0b))) a0b))) a0b))))))) (a0d (a1d (a2k K rfl (mv 3)) (a0g (a0o (a0s (a0a (mv 7) (a0a (pe_un c1l a0e) a0b))))) a0u) (a0g (a0o (a0s (a0a (mv 7) (a0a (a1h (a1t K rfl) (mv 5) (a1s (a2x K rfl) rfl T.n_f4 Yw (a0a (mv 4) a0b))) a0b)))))))))))),H,Q,E,hr,h
 rename_i rp wp z kept;obtain⟨ws,es,sh,P,rfl,hsh,q⟩:=h;have hR8:=b8x (rs:=rls (wF ws) es es 0) ⟨by rw[a8i];exact P.eo.nr,a8v (P:=λr=>r.fs.length<=4) (λb i n hi=>P.f i qo) P.eo.ok⟩;have hF4:=P.f 2 qd;have hwl:∀p∈sol4 (rls (wF ws) es es 0),p.2.length<=3:=λp hp=>b6b p hp
 have hcl:1+cnt4 (rls (wF ws) es es 0)<=13:=by
  have h1:=b7n (C:=0) (l:=0) (rls (wF ws) es es 0);have h2:=c0y (ck:=none) (C:=0) (l:=0) (rs:=rls (wF ws) es es 0) ⟨by rw[a8i];exact P.eo.nr,a8v (P:=λr=>r.fs.length<=4) (λb i n hi=>P.f i qo) P.eo.ok⟩;omega
 ext;refine⟨ws,es,P,λp4 t4 u4 J1 s1 sq4 k4 d4=>?_⟩;have l4:=d4.length;rw[length_map]at l4;generalize hc4:1+cnt4 (rls (wF ws) es es 0)=c4 at*;generalize sol4 (rls (wF ws) es es 0)=S at*
 (with_reducible refine a6e (by assumption) ?_);refine a4r sq4 rfl ?_
 ext
 exists e
 ·have e:(sh:Int)=0:=Z8 (by simpa using e);have e:sh=0:=by omega
  subst e;ext;refine d2s ?_;ext;refine⟨t4,rfl,⟨_,SqL.of k4⟩,λD hD=>?_⟩;refine c9j (a2d (xs:=u4)) (λi ys J=>Same J1 J/\J D=some (.lst ys)/\DmL K J [D] ys (anD ((S.take i).map a0))) (ln qo) ⟨a0h hD _,a0c,.nil⟩ (λi ys J hP=>SqL.of (hP.1 _ _ k4)) (λi ys J Q' hi hl' hP k=>?_) (λys J hl' hP=>?_)
  ·obtain⟨f1,f2,f3⟩:=hP;have hiS:i<S.length:=by omega
   obtain⟨ra,tv,wy,er,h1,h2,h3⟩:=wy_at d4 hi hiS;refine⟨ra,tv,.ref wy,er,f1.tup h1,?_⟩;ext;refine⟨ln qz,λp1 hp1=>?_⟩;generalize e9:upd J p1 _=Ja;obtain⟨sp1,kp1⟩:=nwq hp1 e9;clear e9;ext;refine⟨ln qz,λp2 hp2=>?_⟩;generalize e9:upd Ja p2 _=Jb;obtain⟨sp2,kp2⟩:=nwq hp2 e9;clear e9;ext;refine zL (ln qz) λp3 hp3 Jc sp3 kp3=>?_
   have u3:=sp1.trans (sp2.trans sp3);have dA:=c2w (M:=[D]) (a:=a0 S[i]) kp3 (sp3 _ _ kp2) (λz=>by rw[Zq.mp z,sp1 _ _ f2]at hp2;cases hp2) (.cons (.tup (SqT.of ((sp2.trans sp3) _ _ kp1)) (.cons (.str _) (.cons (h2.mono (f1.trans u3)) .nil))) .nil) (u3 _ _ (f1 _ _ h3)) (λz=>by rw[Zq.mp z,hD]at h3;cases h3);refine k _ _ (u3 _ _ f2) ⟨a1c (f1.trans u3) hD,a0c,?_⟩;rw[take_succ' hiS,Zo,anD,Zo];exact((f3.pr (.same u3)).append (.cons dA .nil)).pr (.upd (Zq.mpr rfl) (u3 _ _ f2) (λ_ z=>by cases z) (λ_ _ z=>by cases z))
  ·obtain⟨f1,f2,f3⟩:=hP;rw[l4,Yx]at f3;ext;refine⟨ln qz,λpz hpz=>?_⟩;have sz:=a0h hpz (.tup [.ref D,.int (c4:Int)]);exact q pz D ys _ (s1.trans (f1.trans sz)) (SqT.of a0c) (sz _ _ f2) (f3.pr (.same sz)).weak
 have e:¬sh=0:=λz=>by subst z;simp at e
 ext
 exists a2l (s1.seq P.w) (a5m P.l (i:=2) qd)
 obtain⟨ur,hR,hd⟩:=P.r;refine⟨ur,wF ws,es,2,s1.seq hR,hd.mono s1,P.eo.ok,P.ok,qd,rfl,P.len,λfp uf J2 s2 hfp dfp=>?_⟩;rw[fcs4 P qd]at dfp;have lf:=dfp.length;rw[length_map]at lf;generalize fcs 2 es 0=F at*;ext;refine zL (Z0 _) λtp htp J3 s3 ktp=>?_
 have s12:=s1.trans s2;have htp0:H tp=none:=a1k s12 htp;have d42:=d4.pr (.same s2);have k42:=s2 _ _ k4;ext
 exists e1
 ·have e1:(sh:Int)=1:=Z8 (by simpa using e1);have e1:sh=1:=by omega
  subst e1;ext;refine⟨uf,s3 _ _ hfp,qo,λcp J4 s4 hcp hcq=>?_⟩;have ncp:cp≠tp:=λz=>by
   rw[z]at hcq;rcases hcq with z|z
   ·rw[<-z,htp]at hfp;cases hfp
   ·rw[ktp]at z;cases z
  have dc:=den_cut kept (dfp.mono (s3.trans s4));have hFl:(cutL (kc kept) F).length<=4:=Yn (a5r _ _) hF4;have q:∀p t us H',Same H H'->SqT K H' p [.ref t,.int (1+((cutL (kc kept) F).length:Int)*((c4:Int)+(if kept=true then 1 else 0)))]->H' t=some (.lst us)->DmL K H' [] us (anD ((cutL (kc kept) F).flatMap λq=>S.map (a1 kept q)))->Q (.ref p) H':=q;generalize cutL (kc kept) F=F1 at*;generalize (if kept=true then uf.take 1 else uf)=uc at*;have lc:=dc.length;rw[length_map]at lc;walk_at "gn";ext;refine⟨cp,rfl,⟨_,SqL.of hcp⟩,?_⟩;refine a3m (a2d (xs:=uc)) (λi σ' J=>∃(o8 o9 oA oB:Option V)(ut:List V),σ'=[some (.ref rp),some (.ref wp),some (.int ((1:Nat):Int)),some (.bl kept),some (.ref t4),some (.int (c4:Int)),some (.ref cp),some (.ref tp),o8,o9,oA,oB]/\Same J2 J/\J cp=some (.lst uc)/\DenL K J uc (F1.map ftE)/\J tp=some (.lst ut)/\DmL K J [tp] ut (anD ((F1.take i).flatMap λq=>S.map (a1 kept q)))) ⟨none,none,none,none,[],rfl,s3.trans s4,hcp,dc,s4 _ _ ktp,.nil⟩ (λi σ' J hP=>by obtain⟨_,_,_,_,_,_,_,z,_⟩:=hP;exact SqL.of z) (λi σ' J hi hP=>?_) (λσ' J hP=>?_)
  ·obtain⟨o8,o9,oA,oB,ut,rfl,g1,g2,g3,g4,g5⟩:=hP;have hiF:i<F1.length:=by omega
   obtain⟨ta,tv,et,ht1,ht2⟩:=ft_at g3 hi hiF;rw[et]
   exists a4r ht1 rfl
   refine⟨t4,rfl,⟨_,SqL.of (g1 _ _ k42)⟩,?_⟩;refine a3m (a2d (xs:=u4)) (λj σ' X=>∃(oA oB:Option V)(ut:List V),σ'=[some (.ref rp),some (.ref wp),some (.int ((1:Nat):Int)),some (.bl kept),some (.ref t4),some (.int (c4:Int)),some (.ref cp),some (.ref tp),some tv,some (.int (F1[i].1:Int)),oA,oB]/\Same J2 X/\X cp=some (.lst uc)/\DenL K X uc (F1.map ftE)/\DenL K X [tv] [(Trm.num F1[i].2).data]/\X tp=some (.lst ut)/\DmL K X [tp] ut (anD (((F1.take i).flatMap λq=>S.map (a1 kept q))++(S.take j).map (a1 kept F1[i])))) ⟨_,_,ut,rfl,g1,g2,g3,.cons ht2 .nil,g4,by rw[Vu,U8,Yg];exact g5⟩ (λj σ' X hP=>by obtain⟨_,_,_,_,z,_⟩:=hP;exact SqL.of (z _ _ k42)) (λj σ' X hj hP=>?_) (λσ' X hP=>?_)
   ·obtain⟨oA,oB,ut,rfl,m1,m2,m3,m4,m5,m6⟩:=hP;have hjS:j<S.length:=by omega
    obtain⟨ra,xv,wy,er,h1,h2,h3⟩:=wy_at d42 hj hjS;have dtv:Den K X tv (Trm.num F1[i].2).data:=by cases m4 with|cons a b=>exact a
    have hwy:wy∉[tp]:=λz=>by rw[Zq.mp z,htp]at h3;cases h3
    have h1:=m1.tup h1;have h2:=h2.mono m1;have h3:=m1 _ _ h3;have ml:=m6.length;rw[anD,length_map,Zl,length_map,Z7]at ml;have fl:((F1.take i).flatMap λq=>S.map (a1 kept q)).length<=4*8:=Yn (b2f (N:=8) (λq=>by rw[length_map];exact hR8) _) (X9 8 (by rw[Z7];omega));rw[er]
    exists a4r h1 rfl
    refine⟨.inl ⟨rfl,_,SqL.of m5⟩,?_⟩;ext;refine⟨ln qz,λp1 hp1=>?_⟩;generalize e9:upd X p1 _=Xa;obtain⟨sp1,kp1⟩:=nwq hp1 e9;clear e9;ext;refine⟨ln qz,λp2 hp2=>?_⟩;generalize e9:upd Xa p2 _=Xb;obtain⟨sp2,kp2⟩:=nwq hp2 e9;clear e9;ext;refine⟨ln qz,λp3 hp3=>?_⟩;generalize e9:upd Xb p3 _=Xc;obtain⟨sp3,kp3⟩:=nwq hp3 e9;clear e9;ext;refine⟨ln qz,λp4 hp4=>?_⟩;generalize e9:upd Xc p4 _=Xd;obtain⟨sp4,kp4⟩:=nwq hp4 e9;clear e9;ext;refine⟨ln qz,λp5 hp5=>?_⟩;generalize e9:upd Xd p5 _=Xe;obtain⟨sp5,kp5⟩:=nwq hp5 e9;clear e9;ext;have u5:=sp1.trans (sp2.trans (sp3.trans (sp4.trans sp5)));refine c4s kp5 (by split<;>decide) (by split<;>decide) λp6 hp6=>?_
    generalize e9:upd Xe p6 _=Xf;obtain⟨sp6,kp6⟩:=nwq hp6 e9;clear e9;rw[d0i]at kp6;ext;refine a6a ((sp5.trans sp6) _ _ kp4) kp6 (ln (by have:=b3q kept;simp;omega)) λp7 hp7=>?_
    generalize e9:upd Xf p7 _=Xg;obtain⟨sp7,kp7⟩:=nwq hp7 e9;clear e9;ext;refine a6a kp7 ((u5.trans (sp6.trans sp7)) _ _ h3) (ln (by have:=hwl _ (Yq hjS);have:=b3q kept;simp;omega)) λp8 hp8=>?_
    generalize e9:upd Xg p8 _=Xh;obtain⟨sp8,kp8⟩:=nwq hp8 e9;clear e9;ext;refine⟨ln qz,λp9 hp9=>?_⟩;generalize e9:upd Xh p9 _=Xi;obtain⟨sp9,kp9⟩:=nwq hp9 e9;clear e9;ext;have u9:=u5.trans (sp6.trans (sp7.trans (sp8.trans sp9)));have nt:∀{Y:Hp}{a:Addr},Same X Y->Y a=none->a∉[tp]:=λ{Y a} s h z=>by
     rw[Zq.mp z,s _ _ m5]at h;cases h
    have dA:=c2w (M:=[tp]) (a:=a1 kept F1[i] S[j]) kp9 ((sp4.trans (sp5.trans (sp6.trans (sp7.trans (sp8.trans sp9))))) _ _ kp3) (nt (sp1.trans sp2) hp3) (.cons (.tup (SqT.of ((sp2.trans (sp3.trans (sp4.trans (sp5.trans (sp6.trans (sp7.trans (sp8.trans sp9))))))) _ _ kp1)) (.cons (.str _) (.cons (dtv.mono u9) .nil))) (.cons (.tup (SqT.of ((sp3.trans (sp4.trans (sp5.trans (sp6.trans (sp7.trans (sp8.trans sp9)))))) _ _ kp2)) (.cons (.str _) (.cons (h2.mono u9) .nil))) .nil)) (by rw[a1,Zo,Zo];exact sp9 _ _ kp8) (nt (u5.trans (sp6.trans sp7)) hp8);refine a2f (u9 _ _ m5) (ln1 qo) ?_;refine⟨_,_,ut++[.ref p9],rfl,a1c (m1.trans u9) htp,?_,(m3.mono u9).lst (u9 _ _ m5),(m4.mono u9).lst (u9 _ _ m5),a0c,?_⟩
    ·rw[a0f ncp];exact u9 _ _ m2
    ·rw[take_succ' hjS,Zo,<-Y0,anD,Zo];exact((m6.pr (.same u9)).append (.cons dA .nil)).pr (.upd (Zq.mpr rfl) (u9 _ _ m5) (λ_ z=>by cases z) (λ_ _ z=>by cases z))
   ·obtain⟨oA,oB,ut,rfl,m1,m2,m3,m4,m5,m6⟩:=hP;rw[l4,Yx]at m6;exact⟨_,_,_,_,ut,rfl,m1,m2,m3,m5,by rw[c0h hiF];exact m6⟩
  ·obtain⟨o8,o9,oA,oB,ut,rfl,g1,g2,g3,g4,g5⟩:=hP;rw[lc,Yx]at g5;ext
   exists a4h (SqL.of g2)
   exists b6q (b4o ⟨by split<;>omega,by split<;>omega⟩)
   refine⟨ln qz,λpz hpz=>?_⟩;rw[<-lc]at q;have sz:=a0h hpz (.tup [.ref tp,.int (1+(uc.length:Int)*((c4:Int)+(if kept=true then 1 else 0)))]);exact q pz tp ut _ (s12.trans (g1.trans sz)) (SqT.of a0c) (sz _ _ g4) (g5.pr (.same sz)).weak
 ·have e2:¬sh=1:=λz=>by subst z;simp at e1
  have e1:sh=2:=by omega
  subst e1;ext;refine⟨u4,s3 _ _ k42,qo,λcp J4 s4 hcp hcq=>?_⟩;have ncp:cp≠tp:=λz=>by
   rw[z]at hcq;rcases hcq with z|z
   ·rw[<-z,htp]at k42;cases k42
   ·rw[ktp]at z;cases z
  have dc:=dm_if kept d42;have hSl:(cutL (kc kept) S).length<=8:=Yn (a5r _ _) hR8
  have hwc:∀p∈cutL (kc kept) S,p.2.length<=3:=λp hp=>hwl p (by
   cases kept with
   |true=>exact V5 hp
   |false=>exact hp)
  have q:∀p t us H',Same H H'->SqT K H' p [.ref t,.int (if kept=true then -1 else(c4:Int)+(S.length:Int))]->H' t=some (.lst us)->DmL K H' [] us (anD ((cutL (kc kept) S).flatMap λp=>F.map (a2 kept p)))->Q (.ref p) H':=q;generalize cutL (kc kept) S=S1 at*;generalize (if kept=true then u4.take 1 else u4)=uc at*;have lc:=dc.length;rw[length_map]at lc;ext;refine⟨cp,rfl,⟨_,SqL.of hcp⟩,?_⟩;refine a3m (a2d (xs:=uc)) (λi σ' J=>∃(o8 o9 oA oB:Option V)(ut:List V),σ'=[some (.ref rp),some (.ref wp),some (.int ((2:Nat):Int)),some (.bl kept),some (.ref t4),some (.int (c4:Int)),some (.ref fp),some (.ref tp),o8,o9,oA,oB]/\Same J2 J/\J cp=some (.lst uc)/\J tp=some (.lst ut)/\DmL K J [tp] ut (anD ((S1.take i).flatMap λp=>F.map (a2 kept p)))) ⟨none,none,none,none,[],rfl,s3.trans s4,hcp,s4 _ _ ktp,.nil⟩ (λi σ' J hP=>by obtain⟨_,_,_,_,_,_,_,z,_⟩:=hP;exact SqL.of z) (λi σ' J hi hP=>?_) (λσ' J hP=>?_)
  ·obtain⟨o8,o9,oA,oB,ut,rfl,g1,g2,g4,g5⟩:=hP;have hiS:i<S1.length:=by omega
   obtain⟨ra,xv,wy,er,h1,h2,h3⟩:=wy_at dc hi hiS;have hwy:wy∉[tp]:=λz=>by rw[Zq.mp z,htp]at h3;cases h3
   rw[er]
   exists a4r (g1.tup h1) rfl
   refine⟨fp,rfl,⟨_,SqL.of (g1 _ _ hfp)⟩,?_⟩;refine a3m (a2d (xs:=uf)) (λj σ' X=>∃(o8 o9:Option V)(ut:List V),σ'=[some (.ref rp),some (.ref wp),some (.int ((2:Nat):Int)),some (.bl kept),some (.ref t4),some (.int (c4:Int)),some (.ref fp),some (.ref tp),o8,o9,some xv,some (.ref wy)]/\Same J2 X/\X cp=some (.lst uc)/\X tp=some (.lst ut)/\DmL K X [tp] ut (anD (((S1.take i).flatMap λp=>F.map (a2 kept p))++(F.take j).map (a2 kept S1[i])))) ⟨_,_,ut,rfl,g1,g2,g4,by rw[Vu,U8,Yg];exact g5⟩ (λj σ' X hP=>by obtain⟨_,_,_,_,z,_⟩:=hP;exact SqL.of (z _ _ hfp)) (λj σ' X hj hP=>?_) (λσ' X hP=>?_)
   ·obtain⟨o8,o9,ut,rfl,m1,m2,m5,m6⟩:=hP;have hjF:j<F.length:=by omega
    obtain⟨ta,tv,et,ht1,ht2⟩:=ft_at dfp hj hjF;have ml:=m6.length;rw[anD,length_map,Zl,length_map,Z7]at ml;have fl:((S1.take i).flatMap λp=>F.map (a2 kept p)).length<=8*4:=Yn (b2f (N:=4) (λq=>by rw[length_map];exact hF4) _) (X9 4 (by rw[Z7];omega));rw[et]
    exists a4r (m1.tup ht1) rfl
    refine⟨.inl ⟨rfl,_,SqL.of m5⟩,?_⟩;ext;refine⟨ln qz,λp1 hp1=>?_⟩;generalize e9:upd X p1 _=Xa;obtain⟨sp1,kp1⟩:=nwq hp1 e9;clear e9;ext;refine⟨ln qz,λp2 hp2=>?_⟩;generalize e9:upd Xa p2 _=Xb;obtain⟨sp2,kp2⟩:=nwq hp2 e9;clear e9;ext;refine⟨ln qz,λp3 hp3=>?_⟩;generalize e9:upd Xb p3 _=Xc;obtain⟨sp3,kp3⟩:=nwq hp3 e9;clear e9;ext;refine⟨ln qz,λp4 hp4=>?_⟩;generalize e9:upd Xc p4 _=Xd;obtain⟨sp4,kp4⟩:=nwq hp4 e9;clear e9;ext;have u4':=sp1.trans (sp2.trans (sp3.trans sp4));refine c4s kp4 (by split<;>decide) (by split<;>decide) λp5 hp5=>?_
    generalize e9:upd Xd p5 _=Xe;obtain⟨sp5,kp5⟩:=nwq hp5 e9;clear e9;rw[d0i]at kp5;ext;refine a6a ((m1.trans (u4'.trans sp5)) _ _ h3) kp5 (ln (by have:=hwc _ (Yq hiS);have:=b3q kept;simp;omega)) λp6 hp6=>?_
    generalize e9:upd Xe p6 _=Xf;obtain⟨sp6,kp6⟩:=nwq hp6 e9;clear e9;ext;refine⟨ln qz,λp7 hp7=>?_⟩;generalize e9:upd Xf p7 _=Xg;obtain⟨sp7,kp7⟩:=nwq hp7 e9;clear e9;ext;refine a6a (sp7 _ _ kp6) kp7 (ln (by have:=hwc _ (Yq hiS);have:=b3q kept;simp;omega)) λp8 hp8=>?_
    generalize e9:upd Xg p8 _=Xh;obtain⟨sp8,kp8⟩:=nwq hp8 e9;clear e9;ext;refine⟨ln qz,λp9 hp9=>?_⟩;generalize e9:upd Xh p9 _=Xi;obtain⟨sp9,kp9⟩:=nwq hp9 e9;clear e9;ext;have u9:=u4'.trans (sp5.trans (sp6.trans (sp7.trans (sp8.trans sp9))));have nt:∀{Y:Hp}{a:Addr},Same X Y->Y a=none->a∉[tp]:=λ{Y a} s h z=>by
     rw[Zq.mp z,s _ _ m5]at h;cases h
    have w49:=sp4.trans (sp5.trans (sp6.trans (sp7.trans (sp8.trans sp9))));have dA:=c2w (M:=[tp]) (a:=a2 kept S1[i] F[j]) kp9 (w49 _ _ kp3) (nt (sp1.trans sp2) hp3) (.cons (.tup (SqT.of ((sp2.trans (sp3.trans w49)) _ _ kp1)) (.cons (.str _) (.cons (h2.mono (m1.trans u9)) .nil))) (.cons (.tup (SqT.of ((sp3.trans w49) _ _ kp2)) (.cons (.str _) (.cons (ht2.mono (m1.trans u9)) .nil))) .nil)) (by rw[a2,Zo,Zo];exact sp9 _ _ kp8) (nt (u4'.trans (sp5.trans (sp6.trans sp7))) hp8);refine a2f (u9 _ _ m5) (ln1 qo) ?_;refine⟨_,_,ut++[.ref p9],rfl,a1c (m1.trans u9) htp,?_,a0c,?_⟩
    ·rw[a0f ncp];exact u9 _ _ m2
    ·rw[take_succ' hjF,Zo,<-Y0,anD,Zo];exact((m6.pr (.same u9)).append (.cons dA .nil)).pr (.upd (Zq.mpr rfl) (u9 _ _ m5) (λ_ z=>by cases z) (λ_ _ z=>by cases z))
   ·obtain⟨o8,o9,ut,rfl,m1,m2,m5,m6⟩:=hP;rw[lf,Yx]at m6;exact⟨_,_,_,_,ut,rfl,m1,m2,m5,by rw[c0h hiS];exact m6⟩
  ·obtain⟨o8,o9,oA,oB,ut,rfl,g1,g2,g4,g5⟩:=hP;rw[lc,Yx]at g5;ext
   exists ek
   ·ext;refine⟨ln qz,λpz hpz=>?_⟩;rw[if_pos ek]at q;exact q pz tp ut _ (s12.trans (g1.trans (a0h hpz _))) (SqT.of a0c) ((a0h hpz _) _ _ g4) (g5.pr (.same (a0h hpz _))).weak
   ·rw[if_neg (by simpa using ek)]at q;ext
    exists a4h (SqL.of (g1 _ _ k42))
    refine⟨ln qz,λpz hpz=>?_⟩;rw[<-l4]at q;exact q pz tp ut _ (s12.trans (g1.trans (a0h hpz _))) (SqT.of a0c) ((a0h hpz _) _ _ g4) (g5.pr (.same (a0h hpz _))).weak
end
section
variable{P:Program}{w:World}{K:W.Frag}{mg:Str->Option Value}{base:Heap}{t:Ad}
theorem c6h(T:Txt K mg t)(G_a3:FnOk P w K mg base CX0 1 t.a_a3 t.d_a3 ["_law_cell","_law_k","_law_many"] (a9n))(G_a6:FnOk P w K mg base CX0 1 t.a_a6 t.d_a6 ["_law_word","_law_name"] (b3o K))(G_b7:FnOk P w K mg base CX0 1 t.a_b7 t.d_b7 ["_law_script","_law_k"] (a6b K)):FnOk P w K mg base CX0 2 t.a_d3 t.d_d3 ["_law_script","_law_words_here","_law_way"] (b7s K):=by
 exists T.F_d3.ok a3d,(a0d (a0p (i:=3) (hs:=c8p) a3d.nd rfl (by nofun) (a0s (a0a a0v (a0a a0v (a0a (a0s a0b) a0b))))) (a0d (a0p (i:=4) (hs:=a3x) a3d.nd rfl (by nofun) (a1e (a0a (a0l G_a6 hr.o rfl T.m_a6 T.F_a6.kp T.b_a6 .nil a0m (a0a (a0n (a0j K rfl) (mv 1) a0e (λ_ _=>rfl)) (a0a a0v a0b))) a0b))) (a0d (a0p (i:=5) (hs:=a1n) a3d.nd rfl (by nofun) (a0l G_a3 hr.o rfl T.m_a3 T.F_a3.kp T.b_a3 .nil a0m (a0a (mv 2) (a0a a0e (a0a a0e a0b))))) (a0d (a1d (a0z c0t (mv 5) a0e (a0t _)) (a0g (a1m (a2p K rfl Z4 Vn Ul a9b (mv 4) (a0a (mv 5) (a0a (mv 3) a0b))))) a0u) (a0d (a0p (i:=6) (hs:=a3x) a3d.nd rfl (by nofun) (a1e (a0a (a0l G_a6 hr.o rfl T.m_a6 T.F_a6.kp T.b_a6 .nil a0m (a0a (a0n (a0j K rfl) (mv 1) a0e (λ_ _=>rfl)) (a0a a0v a0b))) a0b))) (a0d (a1d (a0z a2b (a0l G_a3 hr.o rfl T.m_a3 T.F_a3.kp T.b_a3 .nil a0m (a0a (mv 2) (a0a a0e (a0a a0e a0b)))) a0e (a0t _)) (a0g (a1m (a2p K rfl Z4 Yv Y1 a2j (mv 6) (a0a (mv 3) a0b)))) a0u) (a0d (a0p (i:=7) (hs:=a3x) a3d.nd rfl (by nofun) (a1e (a0a (a0s (a0a (a0l G_a6 hr.o rfl T.m_a6 T.F_a6.kp T.b_a6 .nil a0m (a0a (a0n (a0j K rfl) (mv 1) a0e (λ_ _=>rfl)) (a0a a0v a0b))) (a0a (a1o (b1k K rfl) rfl T.n_g3 So (a0a (mv 4) a0b)) a0b))) (a0a (a0s (a0a (a0l G_a6 hr.o rfl T.m_a6 T.F_a6.kp T.b_a6 .nil a0m (a0a (a0n (a0j K rfl) (mv 1) a0e (λ_ _=>rfl)) (a0a a0v a0b))) (a0a (a1o (b1k K rfl) rfl T.n_g3 So (a0a (mv 6) a0b)) a0b))) a0b)))) (a0d (a3i Yj rfl (a8x rfl T.n_g6 (a0a (a0l G_a3 hr.o rfl T.m_a3 T.F_a3.kp T.b_a3 .nil a0m (a0a (mv 2) (a0a a0e (a0a a0e a0b)))) a0b)) (a1f (i:=8) a3d.nd rfl (by nofun)) (a0d (a0p (i:=9) (hs:=a1n) a3d.nd rfl (by nofun) (a0l G_b7 hr.o rfl T.m_b7 T.F_b7.kp T.b_b7 .nil a0m (a0a (mv 0) (a0a (a1h (a1t K rfl) a0e (mv 8)) a0b)))) (a0d (a0p (i:=10) (hs:=c8p) a3d.nd rfl (by nofun) (a0s (a0a (a0s (a0a a0v (a0a (a0n (a0j K rfl) (mv 1) (a0l G_a3 hr.o rfl T.m_a3 T.F_a3.kp T.b_a3 .nil a0m (a0a (mv 9) (a0a a0e (a0a a0e a0b)))) (λ_ _=>rfl)) (a0a (a0s (a0a (a0s (a0a a0v (a0a (a1h b0d (mv 9) (a1h mo_pow a0e a0e)) a0b))) a0b)) a0b)))) (a0a (a0s a0b) a0b)))) (a0g (a1m (a2p K rfl Z4 Vn Ul a9b (mv 7) (a0a (a0l G_a3 hr.o rfl T.m_a3 T.F_a3.kp T.b_a3 .nil a0m (a0a (mv 9) (a0a a0e (a0a (a1h (a1t K rfl) (a1s (a2x K rfl) rfl T.n_f4 Yw (a0a (mv 7) a0b)) a0e) a0b)))) (a0a (mv 10) a0b)))))))) (a0g (a0o (mv 7))))))))))),H,Q,E,hr,h
 rename_i a wp way;obtain⟨ns,ws,hS,hW,hwl,q⟩:=h;ext;refine⟨Z0 _,λp1 hp1=>?_⟩;generalize e9:upd H p1 _=H1;obtain⟨sp1,kp1⟩:=nwq hp1 e9;clear e9;ext;refine zL (ln qz) λpk hpk H2 spk kpk=>?_
 ext;have dk:Den K H2 (.ref pk) a2g.data:=b0h (SqT.of kpk) (SqT.of (spk _ _ kp1)) .nil;have t2:=sp1.trans spk
 exists a2l (t2.seq hW) (a5m hwl (i:=0) qd)
 refineλg0 H3 sg0 dg0=>?_
 ext;refine zL (ln qz) λpf hpf H4 spf kpf=>?_
 ext;have t4:=t2.trans (sg0.trans spf);refine⟨qd,qd,qd,λv5 H5 v50 v51 s5=>?_⟩;walk_at "gn"
 (with_reducible refine a2m (λσ' J=>∃(b1:Bdy)(us1:List V),σ'=[some (.ref a),some (.ref wp),some (.int way),some (.ref pk),some (.ref pf),some (.int v5),none,none,none,none,none]/\Same H2 J/\J pf=some (.lst us1)/\DenL K J us1 (Trm.dataL (a2o (.app (wF ws 0) [.any aaS]) b1))) (λσ' J hP=>?_) (λk=>?_))
 rotate_left
 ·ext
  exists e
  ·have e:v5<2:=Z8 (by simpa using e);ext;refine⟨.inl ⟨rfl,_,SqL.of (s5 _ _ kpf)⟩,?_⟩;ext;rcases(by omega:v5=0\/v5=1)with rfl|rfl
   ·refine b0l (s5 _ _ kpf) qd qz qz ?_;exact k _ _ ⟨.ahead,[.ref pk,.ref g0],rfl,a4x (sg0.trans (spf.trans s5)) (a1k sg0 hpf),a0c,DenL.lst (s5 _ _ kpf) (.cons (dk.mono (sg0.trans (spf.trans s5))) (.cons (dg0.mono (spf.trans s5)) .nil))⟩
   ·refine b0l (s5 _ _ kpf) qd qz qz ?_;exact k _ _ ⟨.behind,[.ref g0,.ref pk],rfl,a4x (sg0.trans (spf.trans s5)) (a1k sg0 hpf),a0c,DenL.lst (s5 _ _ kpf) (.cons (dg0.mono (spf.trans s5)) (.cons (dk.mono (sg0.trans (spf.trans s5))) .nil))⟩
  ·walk_at "nx";exact k _ _ ⟨.plain,[.ref g0],rfl,sg0.trans (spf.trans s5),s5 _ _ kpf,.cons (dg0.mono (spf.trans s5)) .nil⟩
 obtain⟨b1,us1,rfl,t5,kf1,df1⟩:=hP;ext
 exists a2l ((t2.trans t5).seq hW) (a5m hwl (i:=1) qd)
 refineλg1 J6 sg1 dg1=>?_
 ext;refine zL (ln qz) λps hps J7 sps kps=>?_
 walk_at "gn"
 (with_reducible refine a2m (λσ' X=>∃(b2:Bdy)(us2:List V),σ'=[some (.ref a),some (.ref wp),some (.int way),some (.ref pk),some (.ref pf),some (.int v5),some (.ref ps),none,none,none,none]/\Same J X/\X ps=some (.lst us2)/\DenL K X us2 (Trm.dataL (a2o (.app (wF ws 1) [.any aaS]) b2))) (λσ' X hP=>?_) (λk=>?_))
 rotate_left
 ·ext;refine⟨qd,qd,qd,λv8 J8 v80 v81 s8=>?_⟩;ext;have u8:=sg1.trans (sps.trans s8);have dk8:=dk.mono (t5.trans u8)
  exists e
  ·ext;refine⟨.inl ⟨rfl,_,SqL.of (s8 _ _ kps)⟩,?_⟩;ext;refine a2f (s8 _ _ kps) (ln1 qz) ?_;exact k _ _ ⟨.behind,[.ref g1,.ref pk],rfl,a4x u8 (a1k sg1 hps),a0c,DenL.lst (s8 _ _ kps) (.cons (dg1.mono (sps.trans s8)) (.cons dk8 .nil))⟩
  ·walk_at "nx";exact k _ _ ⟨.plain,[.ref g1],rfl,u8,s8 _ _ kps,.cons (dg1.mono (sps.trans s8)) .nil⟩
 obtain⟨b2,us2,rfl,t6,kf2,df2⟩:=hP;have r0:=t2.trans (t5.trans t6);have kf1:=t6 _ _ kf1;have df1:=df1.mono t6;ext
 exists a2l (r0.seq hW) (a5m hwl (i:=3) qd)
 refineλg2 X1 sg2 dg2=>?_
 ext;refine⟨pf,us1,rfl,.inl ⟨SqL.of (sg2 _ _ kf1),λpa hpa=>?_⟩⟩;generalize e9:upd X1 pa _=X2;obtain⟨spa,kpa⟩:=nwq hpa e9;clear e9;ext;refine⟨ln qz,λpb hpb=>?_⟩;generalize e9:upd X2 pb _=X3;obtain⟨spb,kpb⟩:=nwq hpb e9;clear e9;ext;have r3:=r0.trans (sg2.trans (spa.trans spb))
 exists a2l (r3.seq hW) (a5m hwl (i:=3) qd)
 refineλg3 X4 sg3 dg3=>?_
 ext;refine⟨ps,us2,rfl,.inl ⟨SqL.of ((sg2.trans (spa.trans (spb.trans sg3))) _ _ kf2),λpc hpc=>?_⟩⟩;generalize e9:upd X4 pc _=X5;obtain⟨spc,kpc⟩:=nwq hpc e9;clear e9;ext;refine⟨ln qz,λpd hpd=>?_⟩;generalize e9:upd X5 pd _=X6;obtain⟨spd,kpd⟩:=nwq hpd e9;clear e9;ext;refine zL (ln qz) λpr hpr X7 spr kpr=>?_
 ext;have q7:=sg2.trans (spa.trans (spb.trans (sg3.trans (spc.trans (spd.trans spr)))));have r7:=r0.trans q7;have e1:Den K X7 (.ref pb) (ruE ((En.rule b1 0).tr (wF ws))):=.tup (SqT.of ((sg3.trans (spc.trans (spd.trans spr))) _ _ kpb)) (.cons (dg2.mono (spa.trans (spb.trans (sg3.trans (spc.trans (spd.trans spr)))))) (.cons (.tup (SqT.of ((spb.trans (sg3.trans (spc.trans (spd.trans spr)))) _ _ kpa)) (df1.mono q7)) .nil));have e2:Den K X7 (.ref pd) (ruE ((En.rule b2 1).tr (wF ws))):=.tup (SqT.of (spr _ _ kpd)) (.cons (dg3.mono (spc.trans (spd.trans spr))) (.cons (.tup (SqT.of ((spd.trans spr) _ _ kpc)) (df2.mono q7)) .nil));have hpr0:H pr=none:=a1k (r0.trans (sg2.trans (spa.trans (spb.trans (sg3.trans (spc.trans spd)))))) hpr;clear df1 df2 kf1 kf2 dg2 dg3 kpa kpb kpc kpd hpa hpb hpc hpd;refine⟨qd,qd,qd,λn N n0 n1 sn=>?_⟩;ext;refine⟨n,rfl,qo,qo,?_⟩
 refine a3m (a8y 0 n.toNat) (λi σ' J=>∃(o8 o9 oa:Option V)(ur:List V)(es:List En),σ'=[some (.ref a),some (.ref wp),some (.int way),some (.ref pk),some (.ref pf),some (.int v5),some (.ref ps),some (.ref pr),o8,o9,oa]/\Same H J/\J pr=some (.lst ur)/\DenL K J ur (esD (wF ws) es)/\(∀e∈es,e.Ok)/\nr es<=2/\es.length=2+i) ⟨none,none,none,_,[.rule b1 0,.rule b2 1],rfl,r7.trans sn,sn _ _ kpr,.cons (e1.mono sn) (.cons (e2.mono sn) .nil),λe he=>by
  simp only[Zu,Z6,Xm]at he;rcases he with rfl|rfl
  ·show 0<2;decide
  ·show 1<2;decide,by simp[nr],rfl⟩ (λ_ _ _ _=>trivial) (λi σ' J hi hPv=>?_) (λσ' J hPv=>?_)
 ·obtain⟨o8,o9,oa,ur,es,rfl,g1,g2,g3,g4,g5,g6⟩:=hPv;have gl:=g3.length;rw[esD,length_map]at gl;ext;refine⟨ns,g1.seq hS,qo,qo,λc0=>?_⟩;ext;refine⟨qd,qd,qd,λv3 H3 v30 v31 s3=>?_⟩;ext;obtain⟨j,rfl⟩:=U4 v30
  exists a2l ((g1.trans s3).seq hW) (a5m hwl qo)
  refine m2_i (C:=CPow) ⟨qd,qd,qd⟩ ?_
  exists m2_i (C:=λ_ j=>0<j) qd
  refine⟨ln qz,λqa hqa=>?_⟩;generalize e9:upd H3 qa _=Ha;obtain⟨sqa,kqa⟩:=nwq hqa e9;clear e9;ext;refine⟨ln qz,λqb hqb=>?_⟩;generalize e9:upd Ha qb _=Hb;obtain⟨sqb,kqb⟩:=nwq hqb e9;clear e9;ext;refine⟨ln qz,λqc hqc=>?_⟩;generalize e9:upd Hb qc _=Hc;obtain⟨sqc,kqc⟩:=nwq hqc e9;clear e9;ext;refine⟨Z0 _,λdqd hqd=>?_⟩;generalize e9:upd Hc dqd _=Hd;obtain⟨sqd,kqd⟩:=nwq hqd e9;clear e9;ext;refine zL (ln qz) λqe hqe He sqe kqe=>?_
  ext;have tE:=s3.trans (sqa.trans (sqb.trans (sqc.trans (sqd.trans sqe))));refine⟨.inl ⟨rfl,_,SqL.of (tE _ _ g2)⟩,?_⟩;ext
  exists a4h (SqL.of (tE _ _ g2))
  refine⟨qd,qd,qo,λv6 H6 v60 v61 s6=>?_⟩;ext;have t6':=tE.trans s6;have gE:=t6' _ _ g2;refine b0l gE v60 qo qo ?_;have df:Den K H6 (.ref qe) (ruE ((En.fact j (c0%10^(30:Int).toNat)).tr (wF ws))):=.tup (SqT.of (s6 _ _ kqe)) (.cons (b0h (SqT.of ((sqd.trans (sqe.trans s6)) _ _ kqc)) (SqT.of ((sqc.trans (sqd.trans (sqe.trans s6))) _ _ kqb)) (.cons (num_den (SqT.of ((sqb.trans (sqc.trans (sqd.trans (sqe.trans s6)))) _ _ kqa))) .nil)) (.cons (.tup (SqT.of ((sqe.trans s6) _ _ kqd)) .nil) .nil));refine⟨_,_,_,_,es.take v6.toNat++.fact j (c0%10^(30:Int).toNat)::es.drop v6.toNat,rfl,a1c (g1.trans t6') hpr0,a0c,?_,?_,?_,?_⟩
  ·rw[esD,Zo,Z5,V1,List.map_drop];exact DenL.lst gE ((DenL.take' _ (g3.mono t6')).append (.cons df (DenL.drop' _ (g3.mono t6'))))
  ·intro e he;rcases Yt.mp he with z|z
   ·exact g4 e (V5 z)
   ·rcases Zu.mp z with z|z
    ·rw[z];show j<3;omega
    ·exact g4 e (List.mem_of_mem_drop z)
  ·rw[a8w];have:=a8w (es.take v6.toNat) (es.drop v6.toNat);rw[Rh]at this
   show nr _+nr (es.drop v6.toNat)<=2
   omega
  ·rw[Zl,length_cons,Z7,V0];omega
 obtain⟨o8,o9,oa,ur,es,rfl,g1,g2,g3,g4,g5,g6⟩:=hPv;ext;exact q pr ur es J g1 hpr0 g2 g3 ⟨g4,g5,qo⟩
end
section
variable{P:Program}{w:World}{K:W.Frag}{mg:Str->Option Value}{base:Heap}{t:Ad}
theorem c2y(T:Txt K mg t)(G_b1:FnOk P w K mg base CX0 1 t.a_b1 t.d_b1 ["_law_rules_here","_law_word"] (a8e K))(G_b5:FnOk P w K mg base CX0 1 t.a_b5 t.d_b5 ["_law_ways","_law_kept"] (b5z K)):FnOk P w K mg base CX0 2 t.a_e1 t.d_e1 ["_law_rules_here","_law_words_here","_law_number","_law_count"] (b3p K):=by
 exists T.F_e1.ok a1u,(a0d (a0p (i:=4) (hs:=a6c) a1u.nd rfl (by nofun) (a0n (a0j K rfl) (a0n (a0j K rfl) (mv 0) (a1h b6k (mv 2) a0e) (λ_ _=>rfl)) a0e (λ_ _=>rfl))) (a0d (a0p (i:=5) (hs:=a6c) a1u.nd rfl (by nofun) (a0n (a0j K rfl) (mv 1) (a1o a7j rfl T.n_g1 U1 (a0a (b6n (a2a a2b (a0n (a0j K rfl) (a0n (a0j K rfl) (mv 4) (pe_un c1l a0e) (λ_ _=>rfl)) a0e (λ_ _=>rfl)) (a0n (a0j K rfl) (mv 1) a0e (λ_ _=>rfl)) (a0t _)) (a4o (a2a a2b (a0n (a0j K rfl) (a0n (a0j K rfl) (mv 4) a0e (λ_ _=>rfl)) a0e (λ_ _=>rfl)) (a0n (a0j K rfl) (mv 1) a0e (λ_ _=>rfl)) (a0t _)))) a0b)) (λ_ _=>rfl))) (a0d (a0p (i:=6) a1u.nd rfl (by nofun) (a2a a2b (a1s (a2x K rfl) rfl T.n_f4 Yw (a0a (mv 4) a0b)) a0e (a0t _))) (a0d (a0p (i:=7) a1u.nd rfl (by nofun) (a7i (mv 6) (a4o (a2a a2b (a0n (a0j K rfl) (a0n (a0j K rfl) (mv 4) a0e (λ_ _=>rfl)) a0e (λ_ _=>rfl)) a0v (a0t _))))) (a0d (a0p (i:=8) (hs:=a1n) a1u.nd rfl (by nofun) (a0l G_b1 hr.o rfl T.m_b1 T.F_b1.kp T.b_b1 .nil a0m (a0a (mv 0) (a0a (mv 5) a0b)))) (a0d (a0p (i:=9) (hs:=a3x) a1u.nd rfl (by nofun) (a1e a0b)) (a0d (a3i Yj rfl (a2e K rfl (a0l G_b5 hr.o rfl T.m_b5 T.F_b5.kp T.b_b5 .nil a0m (a0a (mv 8) (a0a (a7i (mv 6) (a4o (ke_not K rfl (mv 7)))) a0b)))) (a3w K rfl rfl (a1j (a1f (i:=10) a1u.nd rfl (by nofun)) (a1j (a1f (i:=11) a1u.nd rfl (by nofun)) a3k))) (a0d (a0p (i:=12) (hs:=a3x) a1u.nd rfl (by nofun) (a1e (a0a (mv 2) (a0a (mv 11) a0b)))) (a0d (a1d (a2k K rfl (mv 6)) (a0g (a0p (i:=12) (hs:=a6c) a1u.nd rfl (by nofun) (a0n (a0j K rfl) (a1e (a0a (a1e (a0a (mv 2) (a0a (mv 11) (a0a a0e a0b)))) (a0a (a1e (a0a (mv 2) (a0a a0e (a0a (mv 11) a0b)))) a0b))) (a1o a7j rfl T.n_g1 U1 (a0a (mv 7) a0b)) (λ_ _=>rfl)))) a0u) (a0g (a1m (a2p K rfl Z4 Yv Y1 a2j (mv 9) (a0a (a0s (a0a (mv 10) (a0a (mv 12) a0b))) a0b))))))) (a0d (a0p (i:=3) (hs:=b0i) a1u.nd rfl (by nofun) (a1h (a1t K rfl) (a1h (a1t K rfl) (mv 3) a0e) (a1o a7j rfl T.n_g1 U1 (a0a (mv 7) a0b)))) (a0d (a1d (PW.pt (a8j (a2k K rfl (mv 6)) (a8j (a9y (a2k K rfl (mv 7))) (a9x (a0z (b4c K rfl (a2y hr)) (mv 8) (a1e a0b) (a0t _)))))) (a0g (a0p (i:=3) (hs:=b0i) a1u.nd rfl (by nofun) (a1h (a1t K rfl) (mv 3) a0e))) a0u) (a0g (a0o (a0s (a0a (mv 9) (a0a (mv 3) (a0a (b6n (mv 7) (a4o (a7i (mv 6) (a4o (a2a (b4c K rfl (a2y hr)) (mv 8) (a1e a0b) (a0t _)))))) a0b))))))))))))))),H,Q,E,hr,h
 rename_i rp wp n c;obtain⟨ws,es,k,b,i,P,hek,rfl,q⟩:=h;obtain⟨ur,hR,hd⟩:=P.r;obtain⟨hke,hek2⟩:=Yi.mp hek;have hi:i<2:=by have:=P.eo.ok _ (Y4 hek);exact this
 have hul:=hd.length;rw[esD,length_map]at hul;obtain⟨hg,de⟩:=c0z hd (k:=k) qo hke;rw[hek2]at de;obtain⟨ra,hv,gp,ug,er,hs,hh,hg1,hg2⟩:=b7u de;have hat:atI ur (((k+1:Nat):Int)-1)=some (.ref ra):=by
  rw[show((k+1:Nat):Int)-1=(k:Int) by omega];obtain⟨v,h2,h3⟩:=a5k (xs:=ur) (i:=(k:Int)) qo qo;rw[h2,<-h3,<-er,show((k:Int)).toNat=k from rfl,Zj qo]
 ext
 exists a2l hR hat
 refine a0k hs (v:=.ref gp) rfl ?_;walk_at "gn";have gt:∃gv,Den K H gv (Trm.app (wF ws i) [.any aaS]).data/\((b=.plain/\ug=[gv])\/∃kv,Den K H kv a2g.data/\((b=.ahead/\ug=[kv,gv])\/(b=.behind/\ug=[gv,kv]))):=by
  cases b with
  |plain=>
   cases hg2 with
   |cons a1 a2=>cases a2;exact⟨_,a1,.inl ⟨rfl,rfl⟩⟩
  |ahead=>
   cases hg2 with
   |cons a1 a2=>
    cases a2 with
    |cons a3 a4=>cases a4;exact⟨_,a3,.inr ⟨_,a1,.inl ⟨rfl,rfl⟩⟩⟩
  |behind=>
   cases hg2 with
   |cons a1 a2=>
    cases a2 with
    |cons a3 a4=>cases a4;exact⟨_,a1,.inr ⟨_,a3,.inr ⟨rfl,rfl⟩⟩⟩
 obtain⟨gv,dg,ht⟩:=gt;obtain⟨ga,gb,gu,rfl,w1,w2,w3⟩:=a1q dg;have hW:=P.w;have hwl:=P.l;have hw1:wF ws 1≠keepS:=(P.ok.wd 1 qd).kp
 (with_reducible refine a2m (λσ' J=>σ'=[some (.ref rp),some (.ref wp),some (.int ((k+1:Nat):Int)),some (.int c),some (.ref gp),some (.str (wF ws i)),none,none,none,none,none,none,none]/\Same H J) (λσ' J hP=>?_) (λkk=>?_))
 rotate_left
 ·have qT:decide (wF ws 1=wF ws 1)=true:=by simp
  have qF:decide (wF ws 0=wF ws 1)=false:=Z3 λz=>by have:=P.ok.inj 0 1 qd qd z;omega
  have qK:decide (keepS=wF ws 1)=false:=Z3 (Ne.symm hw1);rcases ht with⟨rfl,rfl⟩|⟨kv,dk,⟨rfl,rfl⟩|⟨rfl,rfl⟩⟩<;>rcases(by omega:i=0\/i=1)with rfl|rfl
  all_goals (
   try rcases a1q dk with⟨kva,kvb,kvu,rfl,k1,k2,k3⟩
   ext
   exists a0k hg1 rfl
   first|refine a0k w1 rfl ?_|refine a0k k1 rfl ?_
   ext
   exists a2l hW (a5m hwl (i:=1) qd)
   first
   |rw[qT,Zt]
    walk_at "iT"
   |first|rw[qF,Zt]|rw[qK,Zt]
    walk_at "C"
    exists a0k hg1 rfl
    first|refine a0k w1 rfl ?_|refine a0k k1 rfl ?_
    ext
    exists a2l hW (a5m hwl (i:=1) qd)
    first|rw[qT,Zt]|rw[qF,Zt]|rw[qK,Zt]
   ext
   first|refine a2l hW (a5m hwl (i:=0) qd) ?_|refine a2l hW (a5m hwl (i:=1) qd) ?_
   ext
   exact kk _ _ ⟨rfl,Same.refl _⟩)
 obtain⟨rfl,s1⟩:=hP;have hkb:decide ((ug.length:Int)=2)=kepB b:=by
  rcases ht with⟨rfl,rfl⟩|⟨kv,dk,⟨rfl,rfl⟩|⟨rfl,rfl⟩⟩<;>rfl
 (with_reducible refine a2m (λσ' X=>σ'=[some (.ref rp),some (.ref wp),some (.int ((k+1:Nat):Int)),some (.int c),some (.ref gp),some (.str (wF ws i)),some (.bl (kepB b)),none,none,none,none,none,none]/\Same H X) (λσ' X hP=>?_) (λkk=>?_))
 rotate_left
 ·ext
  exists b6r (s1.tup hg1)
  rw[hkb,Zt];exact kk _ _ ⟨rfl,s1⟩
 obtain⟨rfl,s2⟩:=hP
 (with_reducible refine a2m (λσ' Y=>σ'=[some (.ref rp),some (.ref wp),some (.int ((k+1:Nat):Int)),some (.int c),some (.ref gp),some (.str (wF ws i)),some (.bl (kepB b)),some (.bl (aheB b)),none,none,none,none,none]/\Same H Y) (λσ' Y hP=>?_) (λkk=>?_))
 rotate_left
 ·rcases ht with⟨rfl,rfl⟩|⟨kv,dk,⟨rfl,rfl⟩|⟨rfl,rfl⟩⟩
  ·ext;refine iteB (λe=>absurd e qd) (λ_=>?_);ext;exact kk _ _ ⟨rfl,s2⟩
  ·obtain⟨kva,kvb,kvu,rfl,k1,k2,k3⟩:=a1q dk;ext;refine iteB (λ_=>?_) (λe=>absurd e qd);ext
   exists a0k (s2.tup hg1) (v:=.ref kva) rfl
   exists a0k (s2.tup k1) (v:=.str keepS) rfl
   exact kk _ _ ⟨rfl,s2⟩
  ·ext;refine iteB (λ_=>?_) (λe=>absurd e qd);ext
   exists a0k (s2.tup hg1) (v:=.ref ga) rfl
   exists a0k (s2.tup w1) (v:=.str (wF ws i)) rfl
   rw[Z3 (P.ok.wd i qo).kp];exact kk _ _ ⟨rfl,s2⟩
 obtain⟨rfl,s3⟩:=hP;ext;refine⟨ur,wF ws,es,i,s3.seq hR,hd.mono s3,P.eo.ok,P.ok,qo,rfl,P.len,λfp uf J4 s4 hfp dfp=>?_⟩;rw[fcs4 P qo]at dfp;ext;refine zL (Z0 _) λtp htp J5 s5 ktp=>?_
 have t5:=s3.trans (s4.trans s5);have hfl:=P.f i qo;have hul2:=dfp.length;rw[length_map]at hul2;have hfp4:=hfp;have dfp:=dfp.mono s5;have hfp:=s5 _ _ hfp;rw[d3q]at q;clear ht hkb hs hh hg1 hg2 dg w1 w2 w3 hd de er hat s1 s2;generalize fcs i es 0=fs at*;have htp0:H tp=none:=a1k (s3.trans s4) htp;have htp5:=ktp;obtain⟨F,hF⟩:∃F,F=(if(kepB b&& !aheB b)=true then fs.take 1 else fs):=⟨_,rfl⟩;rw[<-hF,d3r,cntR_eq]at q;have hwy:∀n m,wayB n m b=if kepB b=true then(if aheB b=true then[n,0,m]else[n,m,0])else[n,m]:=λn m=>wayB_eq
 generalize kepB b=kb at*;generalize aheB b=ab at*;have hie:uf.isEmpty=fs.isEmpty:=isE_len hul2;ext
 exists e
 all_goals (
  ext;refine⟨uf,hfp,qo,λcp J6 s6 hcp hcq=>?_⟩;have ncp:cp≠tp:=λz=>by
   rw[z]at hcq;rcases hcq with z|z
   ·rw[<-z,htp]at hfp4;cases hfp4
   ·rw[htp5]at z;cases z
  have dl:∃us',J6 cp=some (.lst us')/\DenL K J6 us' (F.map ftE):=⟨_,hcp,by
   first
   | (rw[hF,show(kb&& !ab)= !ab by rw[e];rfl];exact c2v (!ab) (dfp.mono s6))
   | (rw[hF,show(kb&& !ab)=false by rw[e];rfl];exact c2v false (dfp.mono s6))⟩
  obtain⟨us',hcp',dl⟩:=dl;have hFl:F.length<=4:=by
   rw[hF]
   split
   ·rw[Z7];omega
   ·exact hfl
  have hul3:=dl.length;rw[length_map]at hul3;refine⟨cp,rfl,⟨_,SqL.of hcp'⟩,?_⟩;refine a3m (a2d (xs:=us')) (λj σ' J=>∃(oa ob oc:Option V)(ut:List V),σ'=[some (.ref rp),some (.ref wp),some (.int ((k+1:Nat):Int)),some (.int c),some (.ref gp),some (.str (wF ws i)),some (.bl kb),some (.bl ab),some (.ref fp),some (.ref tp),oa,ob,oc]/\Same H J/\Same J4 J/\J cp=some (.lst us')/\DenL K J us' (F.map ftE)/\J tp=some (.lst ut)/\DmL K J [tp] ut (((F.take j).map λp=>(p.2,wayB (((k+1:Nat):Int)) p.1 b)).map wyE)) ⟨none,none,none,[],rfl,t5.trans s6,s5.trans s6,hcp',dl,s6 _ _ ktp,.nil⟩ (λj σ' J hP=>by obtain⟨_,_,_,_,_,_,_,z,_⟩:=hP;exact SqL.of z) (λj σ' J hj hP=>?_) (λσ' J hP=>?_)
  ·obtain⟨oa,ob,oc,ut,rfl,g1,g2,g4,g5,g6,g7⟩:=hP;have hjF:j<F.length:=by omega
   obtain⟨ta,tv,et,ht1,ht2⟩:=ft_at g5 hj hjF;have gl:=g7.length;rw[length_map,length_map,Z7]at gl;rw[et]
   exists a4r ht1 rfl
   refine zL (ln qz) λpw hpw Ja sw kw=>?_
   walk_at "gn"
   (with_reducible refine a2m (λσ' X=>∃wq,σ'=[some (.ref rp),some (.ref wp),some (.int ((k+1:Nat):Int)),some (.int c),some (.ref gp),some (.str (wF ws i)),some (.bl kb),some (.bl ab),some (.ref fp),some (.ref tp),some tv,some (.int (F[j].1:Int)),some (.ref wq)]/\Same J X/\J wq=none/\X wq=some (.lst ((wayB (((k+1:Nat):Int)) F[j].1 b).map V.int))) (λσ' X hP=>?_) (λkk=>?_))
   rotate_left
   ·rw[hwy]at kk;ext
    exists e1
    ·rw[if_pos e1]at kk;ext;refine⟨ln qz,λp1 hp1=>?_⟩;generalize e9:upd Ja p1 _=Jb;obtain⟨sp1,kp1⟩:=nwq hp1 e9;clear e9;ext;refine⟨ln qz,λp2 hp2=>?_⟩;generalize e9:upd Jb p2 _=Jc;obtain⟨sp2,kp2⟩:=nwq hp2 e9;clear e9;ext;refine⟨ln qz,λp3 hp3=>?_⟩;generalize e9:upd Jc p3 _=Jd;obtain⟨sp3,kp3⟩:=nwq hp3 e9;clear e9;ext;have u4:=sw.trans (sp1.trans (sp2.trans sp3));cases hab:ab with
     |true=>
      rw[if_pos hab]at kk
      exists a2l (SqL.of kp3) (v:=.ref p2) rfl
      first
      |exact kk _ _ ⟨p2,rfl,u4,a1k (sw.trans sp1) hp2,sp3 _ _ kp2⟩
      | (rw[hab]at kk;exact kk _ _ ⟨p2,rfl,u4,a1k (sw.trans sp1) hp2,sp3 _ _ kp2⟩)
     |false=>
      rw[if_neg (by rw[hab];exact Zr)]at kk
      exists a2l (SqL.of kp3) (v:=.ref p1) rfl
      first
      |exact kk _ _ ⟨p1,rfl,u4,a1k sw hp1,(sp2.trans sp3) _ _ kp1⟩
      | (rw[hab]at kk;exact kk _ _ ⟨p1,rfl,u4,a1k sw hp1,(sp2.trans sp3) _ _ kp1⟩)
    ·rw[if_neg (by simpa using e1)]at kk;walk_at "nx";exact kk _ _ ⟨pw,rfl,sw,hpw,kw⟩
   obtain⟨wq,rfl,sX,hwq,kwq⟩:=hP;ext;refine⟨.inl ⟨rfl,_,SqL.of (sX _ _ g6)⟩,?_⟩;ext;refine⟨ln qz,λpy hpy=>?_⟩;generalize e9:upd X py _=X1;obtain⟨spy,kpy⟩:=nwq hpy e9;clear e9;ext;have u5:=sX.trans spy;refine a2f (u5 _ _ g6) (ln1 qo) ?_;have pU:Pr K [tp] X1 (upd X1 tp (.lst (ut++[.ref py]))):=.upd (Zq.mpr rfl) (u5 _ _ g6) (λ_ z=>by cases z) (λ_ _ z=>by cases z);have nwq1:wq∉[tp]:=λz=>by rw[Zq.mp z,g6]at hwq;cases hwq
   have h5:Same J4 (upd X1 tp (.lst (ut++[.ref py]))):=a1c (g2.trans u5) htp;refine⟨_,_,_,ut++[.ref py],rfl,a1c (g1.trans u5) htp0,h5,?_,(g5.mono u5).lst (u5 _ _ g6),a0c,?_⟩
   ·rw[a0f ncp];exact u5 _ _ g4
   ·rw[take_succ' hjF,Zo,Zo];exact((g7.pr (.same u5)).append (.cons (.tup (SqT.of kpy) (.cons (My.Den.dm (ht2.mono u5)) (.cons (b7k (spy _ _ kwq) nwq1) .nil))) .nil)).pr pU
  ·obtain⟨oa,ob,oc,ut,rfl,g1,g2,g4,g5,g6,g7⟩:=hP;rw[hul3,Yx]at g7;ext
   exists hkb
   ·ext
    exists hab
    ·have hab:ab=false:=by simpa using hab
     ext;refine⟨Z0 _,λp1 hp1=>?_⟩;generalize e9:upd J p1 _=Ja;obtain⟨sp1,kp1⟩:=nwq hp1 e9;clear e9
     exists em_l (SqL.of ((g2.trans sp1) _ _ hfp4)) (SqL.of kp1)
     exists he
     ·have he:uf.isEmpty=false:=by simpa using he
      ext;refine iteB (λz=>absurd z (by rw[hab];decide)) (λ_=>?_);ext;refine iteB (λ_=>?_) (λz=>absurd z (by rw[hkb];decide));ext;refine⟨Z0 _,λp2 hp2=>?_⟩;generalize e9:upd Ja p2 _=Jb;obtain⟨sp2,kp2⟩:=nwq hp2 e9;clear e9
      exists em_l (SqL.of ((g2.trans (sp1.trans sp2)) _ _ hfp4)) (SqL.of kp2)
      refine⟨ln qz,λpz hpz=>?_⟩;exact q pz tp ut _ ((g1.trans (sp1.trans sp2)).trans (a0h hpz _)) (sq3 a0c (by simp[hkb,hab,<-hie,he]<;>omega) (by simp[hkb,hab,<-hie,he])) (((sp1.trans sp2).trans (a0h hpz _)) _ _ g6) (g7.pr (.same ((sp1.trans sp2).trans (a0h hpz _)))).weak
     ·have he:uf.isEmpty=true:=by simpa using he
      ext;refine iteB (λz=>absurd z (by rw[hab];decide)) (λ_=>?_);ext;refine iteB (λ_=>?_) (λz=>absurd z (by rw[hkb];decide));ext;refine⟨Z0 _,λp2 hp2=>?_⟩;generalize e9:upd Ja p2 _=Jb;obtain⟨sp2,kp2⟩:=nwq hp2 e9;clear e9
      exists em_l (SqL.of ((g2.trans (sp1.trans sp2)) _ _ hfp4)) (SqL.of kp2)
      refine⟨ln qz,λpz hpz=>?_⟩;exact q pz tp ut _ ((g1.trans (sp1.trans sp2)).trans (a0h hpz _)) (sq3 a0c (by simp[hkb,hab,<-hie,he]<;>omega) (by simp[hkb,hab,<-hie,he])) (((sp1.trans sp2).trans (a0h hpz _)) _ _ g6) (g7.pr (.same ((sp1.trans sp2).trans (a0h hpz _)))).weak
    ·have hab:ab=true:=by simpa using hab
     ext;refine iteB (λz=>absurd z qd) (λ_=>?_);ext;refine iteB (λ_=>?_) (λz=>absurd z (by rw[hab];decide));ext;refine⟨ln qz,λpz hpz=>?_⟩;exact q pz tp ut _ (g1.trans (a0h hpz _)) (sq3 a0c (by simp[hkb,hab]<;>omega) (by simp[hkb,hab])) (((Same.refl J).trans (a0h hpz _)) _ _ g6) (g7.pr (.same ((Same.refl J).trans (a0h hpz _)))).weak
   ·have hkb:kb=false:=by simpa using hkb
    ext;refine iteB (λz=>absurd z qd) (λ_=>?_);ext
    exists hab
    ·ext;refine⟨ln qz,λpz hpz=>?_⟩;exact q pz tp ut _ (g1.trans (a0h hpz _)) (sq3 a0c (by simp[hkb,hab]<;>omega) (by simp[hkb,hab])) (((Same.refl J).trans (a0h hpz _)) _ _ g6) (g7.pr (.same ((Same.refl J).trans (a0h hpz _)))).weak
    ·have hab:ab=false:=by simpa using hab
     ext;refine iteB (λz=>absurd z (by rw[hkb];decide)) (λ_=>?_);ext;refine⟨ln qz,λpz hpz=>?_⟩;exact q pz tp ut _ (g1.trans (a0h hpz _)) (sq3 a0c (by simp[hkb,hab]<;>omega) (by simp[hkb,hab])) (((Same.refl J).trans (a0h hpz _)) _ _ g6) (g7.pr (.same ((Same.refl J).trans (a0h hpz _)))).weak
  )
end
section
variable{P:Program}{w:World}{K:W.Frag}{mg:Str->Option Value}{base:Heap}{t:Ad}
theorem c3s(T:Txt K mg t)(G_e1:FnOk P w K mg base CX0 2 t.a_e1 t.d_e1 ["_law_rules_here","_law_words_here","_law_number","_law_count"] (b3p K)):FnOk P w K mg base CX0 3 t.a_e0 t.d_e0 ["_law_rules_here","_law_words_here"] (b5a K):=by
 exists T.F_e0.ok a2w,(a0d (a0p (i:=2) (hs:=a3x) a2w.nd rfl (by nofun) (a1e a0b)) (a0d (a0p (i:=3) a2w.nd rfl (by nofun) a0e) (a0d (a3i Yj rfl (b5g K rfl rfl T.n_h1 (a0a (mv 0) a0b)) (a3w K rfl rfl (a1j (a1f (i:=4) a2w.nd rfl (by nofun)) (a1j (a1f (i:=5) a2w.nd rfl (by nofun)) a3k))) (a0g (a1d (a0z (b4c K rfl (a2y hr)) (a0n (a0j K rfl) (mv 5) a0e (λ_ _=>rfl)) (a0s a0b) (a0t _)) (a0d (b6e (a0l G_e1 hr.o rfl T.m_e1 T.F_e1.kp T.b_e1 .nil a0m (a0a (mv 0) (a0a (mv 1) (a0a (a1h (a1t K rfl) (mv 4) a0e) (a0a (mv 3) a0b))))) (a3w K rfl rfl (a1j (a1f (i:=6) a2w.nd rfl (by nofun)) (a1j (a1f (i:=3) a2w.nd rfl (by nofun)) (a1j (a1f (i:=7) a2w.nd rfl (by nofun)) a3k))))) (a0d (a0p (i:=2) (hs:=b0i) a2w.nd rfl (by nofun) (a1h (a1t K rfl) (mv 2) (mv 6))) (a0g (a1d (a2k K rfl (mv 7)) (a0g (a0o (a0s (a0a (mv 2) (a0a (mv 3) a0b))))) a0u)))) a0u))) (a0g (a0o (a0s (a0a (mv 2) (a0a (mv 3) a0b)))))))),H,Q,E,hr,h
 rename_i rp wp;obtain⟨ws,es,P,q⟩:=h;obtain⟨ur,hR,hd⟩:=P.r;have hul:=hd.length;rw[esD,length_map]at hul;ext;refine zL (Z0 _) λt0 ht0 H1 s1 k0=>?_
 ext;refine⟨rp,ur,rfl,s1.seq hR,?_⟩;refine b2t (λi σ' J=>∃(tp:Addr)(c:Nat)(o4 o5 o6 o7:Option V)(ut:List V)(S:List (Int×List Int)),σ'=[some (.ref rp),some (.ref wp),some (.ref tp),some (.int (c:Int)),o4,o5,o6,o7]/\Same H J/\J tp=some (.lst ut)/\DmL K J [] ut (S.map wyE)/\sol4 (rls (wF ws) es es 0)=S++sol4 (rls (wF ws) es (es.drop i) i)/\1+cnt4 (rls (wF ws) es es 0)=c+cnt4 (rls (wF ws) es (es.drop i) i)) ⟨t0,1,none,none,none,none,[],[],rfl,s1,k0,.nil,rfl,rfl⟩ (λi σ' J hP=>by obtain⟨_,_,_,_,_,_,_,_,_,sj,_⟩:=hP;exact sj.seq hR) (λi σ' J T' hi hP hT=>?_) (λσ' J hP=>?_)
 ·obtain⟨tp,c,o4,o5,o6,o7,ut,S,rfl,g1,g2,g3,g4,g5⟩:=hP;have hi:i<ur.length:=hi;have hie:i<es.length:=by omega
  have hsl:S.length<=500:=by
   have:=Xn List.length g4;have h8:=b8x (rs:=rls (wF ws) es es 0) ⟨by rw[a8i];exact P.eo.nr,a8v (P:=λr=>r.fs.length<=4) (λb i n hi=>P.f i qo) P.eo.ok⟩;rw[Zl]at this;omega
  have gl:=g3.length;rw[length_map]at gl;obtain⟨hg,de⟩:=c0z hd hi hie;rw[hg];refine a4r (SqT.of a0c) rfl ?_;have sT:=a0h hT (.tup [.int i,ur[i]]);generalize upd J T' (.tup [.int i,ur[i]])=J1 at sT ⊢;have gT:=g1.trans sT;obtain⟨ra,hv,gp,ug,er,hs,hh,hg1,hg2⟩:=b7u (de.mono gT);rw[er];ext
  exists a0k hs (v:=.ref gp) rfl
  refine⟨Z0 _,λpe hpe=>?_⟩;generalize e9:upd J1 pe _=J2;obtain⟨s2,ke⟩:=nwq hpe e9;clear e9;have g12:=gT.trans s2;have gU:=sT.trans s2;refine em_t (s2.tup hg1) (SqT.of ke) ?_;cases hek:es[i]with
  |fact j m=>
   rw[hek]at hg2;rw[d0g hie hek]at g4 g5;have hem:ug.isEmpty=true:=by cases hg2;rfl
   rw[hem];ext;refine iteB (λz=>absurd z qd) (λ_=>?_);ext;exact⟨tp,c,_,_,_,_,ut,S,rfl,g12,gU _ _ g2,g3.pr (.same gU),g4,g5⟩
  |rule b j=>
   rw[hek]at hg2;rw[d0h hie hek]at g4 g5;have hne:ug.isEmpty=false:=by
    have:=hg2.length;cases ug with
    |nil=>cases b<;>(simp[En.tr,a2o,Trm.dataL]at this)
    |cons _ _=>rfl
   rw[hne];ext;refine iteB (λ_=>?_) (λz=>absurd z qd);ext;refine⟨ws,es,i,b,j,P.mono g12,by rw[Zj hie,hek],qo,λp9 t9 u9 J3 s3 sq9 k9 d9=>?_⟩;have d9l:=d9.length;rw[length_map]at d9l;have h9:=d0e (n:=i+1) (b:=b) (P.f j (by have:=P.eo.ok _ (Yq hie);rw[hek]at this;have this:j<2:=this;omega))
   (with_reducible refine a6e (by assumption) ?_);refine a4r sq9 rfl ?_
   ext;refine a6a ((gU.trans s3) _ _ g2) k9 (ln qo) λpD hpD=>?_
   generalize e9:upd J3 pD _=J4;obtain⟨sD,kD⟩:=nwq hpD e9;clear e9;have u4:=s3.trans sD;have d4':DmL K J4 [] (ut++u9) ((S++solR (i+1) (fcs j es 0) b).map wyE):=by
    rw[Zo];exact(g3.pr (.same (gU.trans u4))).append (d9.pr (.same sD))
   ext
   exists ho
   ·have g4:sol4 (rls (wF ws) es es 0)=S++(solR (i+1) (fcs j es 0) b++(if a5g (fcs j es 0) b=true then[]else sol4 (rls (wF ws) es (es.drop (i+1)) (i+1)))):=g4;have g5:1+cnt4 (rls (wF ws) es es 0)=c+(cntR (fcs j es 0) b+(if a5g (fcs j es 0) b=true then 0 else cnt4 (rls (wF ws) es (es.drop (i+1)) (i+1)))):=g5;rw[if_pos ho,Yg]at g4;rw[if_pos ho,T3]at g5;rw[g4,g5]at q;ext;refine⟨ln qz,λpz hpz=>?_⟩;have sz:=a0h hpz (.tup [.ref pD,.int ((c:Int)+(cntR (fcs j es 0) b:Int))]);exact q pz pD (ut++u9) _ (g12.trans (u4.trans sz)) (SqT.of a0c) (sz _ _ kD) (d4'.pr (.same sz))
   ·walk_at "nx";have g4:sol4 (rls (wF ws) es es 0)=S++(solR (i+1) (fcs j es 0) b++(if a5g (fcs j es 0) b=true then[]else sol4 (rls (wF ws) es (es.drop (i+1)) (i+1)))):=g4;have g5:1+cnt4 (rls (wF ws) es es 0)=c+(cntR (fcs j es 0) b+(if a5g (fcs j es 0) b=true then 0 else cnt4 (rls (wF ws) es (es.drop (i+1)) (i+1)))):=g5;have hof:¬a5g (fcs j es 0) b=true:=by simpa using ho
    rw[if_neg hof,<-Y0]at g4;rw[if_neg hof,<-Nat.add_assoc]at g5;exact⟨pD,c+cntR (fcs j es 0) b,_,_,_,_,ut++u9,S++solR (i+1) (fcs j es 0) b,rfl,g12.trans u4,kD,d4',g4,g5⟩
 obtain⟨tp,c,o4,o5,o6,o7,ut,S,rfl,g1,g2,g3,g4,g5⟩:=hP;rw[hul,Sd]at g4 g5;have g4:sol4 (rls (wF ws) es es 0)=S++[]:=g4;have g5:1+cnt4 (rls (wF ws) es es 0)=c+0:=g5;rw[Yg]at g4;rw[g4,g5]at q;ext;refine⟨ln qz,λpz hpz=>?_⟩;have sz:=a0h hpz (.tup [.ref tp,.int (c:Int)]);exact q pz tp ut _ (g1.trans sz) (SqT.of a0c) (sz _ _ g2) (g3.pr (.same sz))
end
section
variable{P:Program}{w:World}{K:W.Frag}{mg:Str->Option Value}{base:Heap}{t:Ad}
def lt(i:Int):Nat:=97+i.toNat
theorem c0i:a3v.cps.toList=(List.range 26).map (97+ ·):=by decide+kernel
theorem lt_at{i:Int}(h0:0<=i)(h1:i<26):atI a3v.cps.toList i=some (lt i):=by
 obtain⟨v,e1,e2⟩:=a5k (xs:=a3v.cps.toList) (i:=i) h0 (by rw[c0i];simp;omega);rw[e1];rw[c0i,Yk,R8 qo]at e2;exact e2.symm
theorem d0q:∀n<26,inner (one (97+n))=true/\inS (one (97+n)) a3v=true:=by decide+kernel
def zs(bs:List Int)(at_:Int)(k:Int)(j:Nat):List Nat:=(List.range j).map λm=>lt ((bs.getD m 0+k*(if(m:Int)=at_ then 1 else 0))%26)
theorem b0y(bs:List Int)(at_ k:Int)(j:Nat):(zs bs at_ k j).length=j:=by simp[zs]
theorem zs_succ(bs:List Int)(at_ k:Int)(j:Nat):zs bs at_ k (j+1)=zs bs at_ k j++[lt ((bs.getD j 0+k*(if(j:Int)=at_ then 1 else 0))%26)]:=by
 unfold zs;rw[Sj,Zo];rfl
theorem zs_low{bs:List Int}{at_ k:Int}{j:Nat}:∀c∈zs bs at_ k j,∃n,n<26/\c=97+n:=λc hc=>by
 obtain⟨m,_,e⟩:=Ys.mp hc;refine⟨((bs.getD m 0+k*(if(m:Int)=at_ then 1 else 0))%26).toNat,?_,e.symm⟩;omega
theorem zs_inj{bs:List Int}{at_:Int}{i k:Int}{j:Nat}(h0:0<=at_)(h1:at_<j)(hi:0<=i/\i<5)(hk:0<=k/\k<5)(e:zs bs at_ i j=zs bs at_ k j):i=k:=by
 have h2:at_.toNat<j:=by omega
 have h3:((at_.toNat:Nat):Int)=at_:=by omega
 have e1:(zs bs at_ i j)[at_.toNat]? =(zs bs at_ k j)[at_.toNat]?:=by rw[e]
 unfold zs at e1;rw[Yk,Yk,R8 h2,Option.map_some,Option.map_some,h3,if_pos rfl]at e1;have e2:=Zw e1;unfold lt at e2;omega
abbrev bad3:List Str:=[keepS,notS,ofString "infix"]
def sOf(z:List Nat):Str:=⟨z.toArray⟩
theorem sOf_inj{y z:List Nat}(h:sOf y=sOf z):y=z:=by
 unfold sOf at h;have:=Xn Str.cps h
 simpa using this
theorem c2z(z:List Nat)(c:Nat):sOf z++(⟨#[c]⟩:Str)=sOf (z++[c]):=by
 show(⟨z.toArray++ #[c]⟩:Str)=⟨(z++[c]).toArray⟩
 simp
theorem b4k(z:List Nat):(sOf z).length=z.length:=by simp[sOf,Str.length]
def fz(z:List Nat):List Nat:=if sOf z∈bad3 then z++[51]else z
theorem fz_eq(z:List Nat):sOf (fz z)=if sOf z∈bad3 then sOf z++ofString "3" else sOf z:=by
 unfold fz
 split
 ·exact(c2z z 51).symm
 ·rfl
theorem fz_inj{y z:List Nat}(hl:y.length=z.length)(h:sOf (fz y)=sOf (fz z)):y=z:=by
 have h:=sOf_inj h;unfold fz at h
 by_cases a:sOf y∈bad3<;>by_cases b:sOf z∈bad3
 ·rw[if_pos a,if_pos b]at h;exact List.append_cancel_right h
 ·rw[if_pos a,if_neg b]at h;have:=Xn List.length h
  simp at this
  omega
 ·rw[if_neg a,if_pos b]at h;have:=Xn List.length h
  simp at this
  omega
 ·rw[if_neg a,if_neg b]at h;exact h
theorem wd_of{z:List Nat}(h1:1<=z.length)(h2:z.length<=8)(hz:∀c∈z,∃n,n<26/\c=97+n):Wd (sOf (fz z)):=by
 have key:∀y:List Nat,1<=y.length->y.length<=9->(∀c∈y,inner (one c)=true)->(∃n,n<26/\y.head? =some (97+n))->called (sOf y) a3v=true:=by
  intro y a b c ⟨n,hn,hd⟩;cases y with
  |nil=>simp at a
  |cons x r=>
   have hx:x=97+n:=by simpa using hd
   unfold called;rw[b4k,show fst (sOf (x::r))=one x from rfl,show one x=one (97+n) by rw[hx],(d0q n hn).2,Ye (show(1:Int)<=((x::r).length:Int) by omega),Ye (show((x::r).length:Int)<=12 by omega)]
   show(true&&(true&&(sOf (x::r)).cps.toList.all λc=>inner (one c)))=true
   rw[V2,V2,X0];intro w hw;exact c w hw
 have inl:∀c∈z,inner (one c)=true:=λc hc=>by
  obtain⟨n,hn,rfl⟩:=hz c hc;exact(d0q n hn).1
 have hhd:∃n,n<26/\z.head? =some (97+n):=by
  cases z with
  |nil=>simp at h1
  |cons x r=>
   obtain⟨n,hn,e⟩:=hz x (Yd ..);exact⟨n,hn,by rw[e];rfl⟩
 have cl:called (sOf (fz z)) a3v=true:=by
  unfold fz
  split
  ·refine key _ qz (by simp;omega) (λc hc=>?_) ?_
   ·rcases Yt.mp hc with e|e
    ·exact inl c e
    ·rw[Zq]at e;rw[e]
     decide+kernel
   ·obtain⟨n,hn,e⟩:=hhd;refine⟨n,hn,?_⟩;cases z with
    |nil=>simp at h1
    |cons x r=>exact e
  ·exact key _ h1 qo inl hhd
 have ne:∀w∈[keepS,notS],sOf (fz z)≠w:=by
  intro w hw e;rw[fz_eq]at e
  by_cases a:sOf z∈bad3
  ·rw[if_pos a]at e;have:∀x∈bad3,∀w∈[keepS,notS],x++ofString "3"≠w:=by decide+kernel
   exact this _ a w hw e
  ·rw[if_neg a]at e;rw[e]at a;simp only[Zu,Z6,Xm]at hw;rcases hw with rfl|rfl
   ·exact a qz
   ·exact a qz
 refine⟨cl,ne _ qz,ne _ qz,λe=>?_,?_⟩
 ·rw[e]at cl;exact absurd cl qk
 ·rw[b4k];unfold fz
  split
  ·simp;omega
  ·omega
theorem c6i(T:Txt K mg t)(G_a3:FnOk P w K mg base CX0 1 t.a_a3 t.d_a3 ["_law_cell","_law_k","_law_many"] (a9n)):FnOk P w K mg base CX0 2 t.a_d2 t.d_d2 ["_law_cell"] (b7r K):=by
 exists T.F_d2.ok a2v,(a0d (a0p (i:=1) a2v.nd rfl (by nofun) a0v) (a0d (ps_comp (i:=2) a2v.nd rfl (by nofun) rfl (a8x rfl T.n_g6 (a0a (a1h (a1t K rfl) a0e (a0l G_a3 hr.o rfl T.m_a3 T.F_a3.kp T.b_a3 .nil a0m (a0a (mv 0) (a0a a0e (a0a a0e a0b))))) a0b)) (a4k (a0i a9e) ["_law_cell","_law_letters","_law_base","_law_at","_law_words_here","_law_k","_law_word","_law_j"] ["_law_cell","_law_letters","_law_base","_law_at","_law_words_here","%_law_k","_law_word","_law_j"] rfl rfl qk) (λ_ _ _ _ _=>a4j) (λ_ _ _ _ _=>(a0l G_a3 hr.o rfl T.m_a3 T.F_a3.kp T.b_a3 .nil a0m (a0a (mv 1) (a0a (mv 0) (a0a a0e a0b)))))) (a0d (a0p (i:=3) (hs:=a1n) a2v.nd rfl (by nofun) (a0l G_a3 hr.o rfl T.m_a3 T.F_a3.kp T.b_a3 .nil a0m (a0a (mv 0) (a0a a0e (a0a (a1s (a2x K rfl) rfl T.n_f4 Yw (a0a (mv 2) a0b)) a0b))))) (a0d (a0p (i:=4) (hs:=a3x) a2v.nd rfl (by nofun) (a1e a0b)) (a0d (a3i Yj rfl (a8x rfl T.n_g6 (a0a a0e a0b)) (a1f (i:=5) a2v.nd rfl (by nofun)) (a0d (a0p (i:=6) a2v.nd rfl (by nofun) a0v) (a0d (a3i Yj rfl (a8x rfl T.n_g6 (a0a (a1s (a2x K rfl) rfl T.n_f4 Yw (a0a (mv 2) a0b)) a0b)) (a1f (i:=7) a2v.nd rfl (by nofun)) (a0g (a0p (i:=6) (hs:=b0i) a2v.nd rfl (by nofun) (a1h (a1t K rfl) (mv 6) (a0n (a0j K rfl) (mv 1) (a1h b0d (a1h (a1t K rfl) (a0n (a0j K rfl) (mv 2) (mv 7) (λ_ _=>rfl)) (a1h b6l (mv 5) (a1o a7j rfl T.n_g1 U1 (a0a (a2a a2b (mv 7) (mv 3) (a0t _)) a0b)))) a0e) (λ_ _=>rfl)))))) (a0d (a1d (a0z (ko_inV K rfl) (mv 6) (a0s (a0a a0v (a0a a0v (a0a a0v a0b)))) (by with_unfolding_all rfl)) (a0g (a0p (i:=6) (hs:=b0i) a2v.nd rfl (by nofun) (a1h (a1t K rfl) (mv 6) a0v))) a0u) (a0g (a1m (a2p K rfl Z4 Yv Y1 a2j (mv 4) (a0a (mv 6) a0b)))))))) (a0g (a0o (mv 4)))))))),H,Q,E,hr,h
 rename_i c;ext;refine⟨qd,qd,qd,λn H1 n0 n1 s1=>?_⟩;ext;refine⟨1+n,rfl,qo,qo,?_⟩;intro D hD;refine a3q (a8y 0 (1+n).toNat) (λi ys Hi=>Same H1 Hi/\(∃bs:List Int,ys=bs.map V.int)/\Hi D=some (.lst ys)) (ln qo) ⟨a0h hD _,⟨[],rfl⟩,a0c⟩ (λ_ _ _ _=>trivial) (λi ys Hi Q' hi hl hP kk=>?_) (λys Hi hl hP=>?_)
 ·obtain⟨si,⟨bs,rfl⟩,kD⟩:=hP;ext;refine⟨qo,qo,qd,λv H2 v0 v1 s2=>?_⟩;refine kk _ _ (s2 _ _ kD) ⟨a4x (si.trans s2) hD,⟨bs++[v],qz⟩,a0c⟩
 obtain⟨si,⟨bs,rfl⟩,kD⟩:=hP;have hbs:bs.length=(1+n).toNat:=by simpa using hl
 ext
 exists a4h (SqL.of kD)
 rw[length_map];refine⟨qd,qd,qo,λat_ H3 a0 a1 s3=>?_⟩;ext;refine⟨ln (by show 0<=100000;decide),λpw hpw=>?_⟩;have s4:=a0h hpw (.lst []);have k4:(upd H3 pw (.lst [])) pw=some (.lst []):=a0c;generalize upd H3 pw (.lst [])=H4 at s4 k4 ⊢;ext;refine⟨5,rfl,qd,qd,?_⟩;have sD:Same H1 H4:=si.trans (s3.trans s4);have kD4:H4 D=some (.lst (bs.map V.int)):=s4 _ _ (s3 _ _ kD);refine a3m (a8y 0 (5:Int).toNat) (λk σ' Hk=>∃(o5 o6 o7:Option V),σ'=[some (.int c),some (.str a3v),some (.ref D),some (.int at_),some (.ref pw),o5,o6,o7]/\Same H3 Hk/\Hk pw=some (.lst (((List.range k).map λi:Nat=>sOf (fz (zs bs at_ (i:Int) bs.length))).map V.str)))
  ⟨none,none,none,rfl,s4,k4⟩ (λ_ _ _ _=>trivial) (λk σ' Hk hk hP=>?_) (λσ' Hk hP=>?_)
 ·obtain⟨o5,o6,o7,rfl,sk,kk⟩:=hP;have hk:k<5:=hk;ext
  exists a4h (SqL.of (sk _ _ (s3 _ _ kD)))
  rw[length_map];refine⟨(bs.length:Int),rfl,qo,qo,?_⟩;refine a3m (a8y 0 (bs.length:Int).toNat) (λj σ' Hj=>∃(o7:Option V),σ'=[some (.int c),some (.str a3v),some (.ref D),some (.int at_),some (.ref pw),some (.int (0+(k:Int))),some (.str (sOf (zs bs at_ (0+(k:Int)) j))),o7]/\Hj=Hk)
   ⟨o7,rfl,rfl⟩ (λ_ _ _ _=>trivial) (λj σ' Hj hj hP=>?_) (λσ' Hj hP=>?_)
  ·obtain⟨o7,rfl,rfl⟩:=hP;have hj:j<bs.length:=by simpa using hj
   ext;have hb:atI (bs.map V.int) (0+(j:Int))=some (.int (bs.getD j 0)):=by
    obtain⟨v,e1,e2⟩:=a5k (xs:=bs.map V.int) (i:=0+(j:Int)) qo (by rw[length_map];omega);rw[e1];rw[show(0+(j:Int)).toNat=j by omega,Yk,Zj hj]at e2;rw[Z2,Zj hj];exact e2.symm
   exists a2l (SqL.of (sk _ _ (s3 _ _ kD))) hb
   exists b6q (b6p qo)
   exists mIx_s (ln qk) (lt_at (Int.emod_nonneg _ qd) (Qk _ qd))
   exists c7z (ln (by rw[b4k,b0y];show j+1<=100000;omega))
   refine⟨some (.int (0+(j:Int))),?_,rfl⟩;rw[c2z,zs_succ];simp only[Int.zero_add,Zt,Tw];rfl
  ·obtain⟨o7,rfl,rfl⟩:=hP;have e0:(bs.length:Int).toNat=bs.length:=rfl;rw[e0];have ez:(0+(k:Int))=(k:Int):=by omega
   rw[ez];ext;refine⟨ln (by show 3<=100000;decide),λp5 hp5=>?_⟩;have s5:=a0h hp5 (.tup [.str "keep",.str "not",.str "infix"]);have k5:(upd Hj p5 (.tup [.str "keep",.str "not",.str "infix"])) p5=some (.tup (bad3.map V.str)):=a0c;generalize upd Hj p5 (.tup [.str "keep",.str "not",.str "infix"])=H5 at s5 k5 ⊢;ext;refine in_strs bad3 (.inr (SqT.of k5)) ?_;have fin:∀w:Str,w=sOf (fz (zs bs at_ (k:Int) bs.length))->(Same H3 (upd H5 pw (.lst (((List.range k).map λi:Nat=>sOf (fz (zs bs at_ (i:Int) bs.length))).map V.str++[.str w])))/\(upd H5 pw (.lst (((List.range k).map λi:Nat=>sOf (fz (zs bs at_ (i:Int) bs.length))).map V.str++[.str w]))) pw=some (.lst (((List.range (k+1)).map λi:Nat=>sOf (fz (zs bs at_ (i:Int) bs.length))).map V.str))):=λw e=>by
    refine⟨a4x (sk.trans s5) hpw,?_⟩;rw[a0c,Sj,e]
    simp
   ext
   exists e
   ·have e:sOf (zs bs at_ (k:Int) bs.length)∈bad3:=Z8 e;ext
    exists c7z (ln (by rw[b4k,b0y];show bs.length+1<=100000;omega))
    refine⟨.inl ⟨rfl,_,SqL.of (s5 _ _ kk)⟩,?_⟩;ext
    exists a2f (s5 _ _ kk) (ln (by simp;omega))
    obtain⟨f1,f2⟩:=fin (sOf (zs bs at_ (k:Int) bs.length)++ofString "3") (by rw[fz_eq,if_pos e]);exact⟨_,_,_,rfl,f1,f2⟩
   ·have e:¬sOf (zs bs at_ (k:Int) bs.length)∈bad3:=Xx e;ext;refine⟨.inl ⟨rfl,_,SqL.of (s5 _ _ kk)⟩,?_⟩;ext
    exists a2f (s5 _ _ kk) (ln (by simp;omega))
    obtain⟨f1,f2⟩:=fin (sOf (zs bs at_ (k:Int) bs.length)) (by rw[fz_eq,if_neg e]);exact⟨_,_,_,rfl,f1,f2⟩
 ·obtain⟨o5,o6,o7,rfl,sk,kk⟩:=hP;ext;have kk:Hk pw=some (.lst (((List.range 5).map λi:Nat=>sOf (fz (zs bs at_ (i:Int) bs.length))).map V.str)):=kk;refine h pw _ _ (s1.trans (si.trans (s3.trans sk))) kk qz ?_ λw hw=>?_
  ·rw[Ui,List.pairwise_map];refine(Ui.mp List.nodup_range).imp_of_mem ?_;intro i j hi hj hne e;rw[Wh]at hi hj;refine hne ?_;have:=zs_inj (bs:=bs) (j:=bs.length) a0 qo (i:=(i:Int)) (k:=(j:Int)) qo qo (fz_inj (by rw[b0y,b0y]) e);omega
  ·obtain⟨i,_,e⟩:=Ys.mp hw;rw[<-e];exact wd_of (by rw[b0y];omega) (by rw[b0y];omega) zs_low
end
section
variable{P:Program}{w:World}{K:W.Frag}{mg:Str->Option Value}{base:Heap}{t:Ad}
theorem c3a(T:Txt K mg t)(G_b0:FnOk P w K mg base CX0 1 t.a_b0 t.d_b0 ["terms"] (a5e K))(G_a9:FnOk P w K mg base CX0 72 t.a_a9 t.d_a9 ["term","names"] (a5f K 70)):FnOk P w K mg base CX0 73 t.a_a8 t.d_a8 ["terms"] (a6l K):=by
 exists T.F_a8.ok a6j,(a0d (a0p (i:=1) a6j.nd rfl (by nofun) a5p) (a0d (a3i Yj rfl (a2e K rfl (a0l G_b0 hr.o rfl T.m_b0 T.F_b0.kp T.b_b0 .nil a0m (a0a (mv 0) a0b))) (a1f (i:=2) a6j.nd rfl (by nofun)) (a0d (a0p (i:=3) (hs:=b0i) a6j.nd rfl (by nofun) (a1h (a1t K rfl) (a1s c7r rfl T.n_f4 Yw (a0a (mv 1) a0b)) a0e)) (a0g (b0c (a5l hr) (mv 1) (mv 2) (pe_f2n (mv 3)) rfl)))) (a0g (a0o (a5a rfl (a2e K rfl (mv 0)) (a4k (a0i a7e) ["terms","names","name","number"] ["terms","names","name","number"] rfl rfl qk) (λ_ _ _ _ _=>a4j) (λ_ _ _ _ _=>(a0l G_a9 hr.o rfl T.m_a9 T.F_a9.kp T.b_a9 .nil a0m (a0a (mv 0) (a0a (mv 2) a0b))))))))),H,Q,E,hr,h
 rename_i a;obtain⟨us,ts,hS,hd,hz,hz70,q⟩:=h;have hul:=a3b hd;have tl:=Trm.len_le ts;ext;intro pd hpd;have s1:=a0h hpd (.dK []);have k1:(upd H pd (.dK [])) pd=some (.dK []):=a0c;generalize upd H pd (.dK [])=H1 at s1 k1 ⊢;ext;refine⟨us,ts,s1.seq hS,hd.mono s1,hz,λp H2 s2 hp kp=>?_⟩;have hu:=nodL ts;have hl:=b1n ts [];have hv:∀x∈a3n ts,x∈ordL ts []:=λx hx=>d3b hx
 have han:anew ts=renL (sub (mkA (λj _=>uS++tn (j+1)) 0 (ordL ts []))) ts:=rfl;generalize ordL ts []=u at hu hl hv kp han;rw[length_nil,Wq]at hl;have hne:pd≠p:=λz=>by rw[<-z,k1]at hp;cases hp
 refine⟨p,rfl,⟨_,SqL.of kp⟩,?_⟩;refine a3m (a2d (xs:=u.map V.str)) (λi σ' J=>∃(o1 o2:Option V),σ'=[some (.ref a),some (.ref pd),o1,o2]/\J pd=some (.dK (encS (mkA (λj _=>uS++tn (j+1)) 0 (u.take i))))/\J p=some (.lst (u.map V.str))/\Same H J) ⟨none,none,rfl,by rw[Vu];exact s2 _ _ k1,kp,s1.trans s2⟩ (λi σ' J hP=>by obtain⟨_,_,_,_,h,_⟩:=hP;exact SqL.of h) (λi σ' J hi hP=>?_) (λσ' J hP=>?_)
 ·obtain⟨o1,o2,rfl,g1,g2,g3⟩:=hP;rw[length_map]at hi;rw[b2u hi];ext;refine⟨pd,_,rfl,g1,?_⟩;rw[b8k,b8m,Z7,Vj qo];ext;obtain⟨l1,l2,l3⟩:=c9o (i:=(i:Int)+1) qo qo;refine⟨_,rfl,l1,l2,?_⟩;rw[l3];ext;refine⟨pd,_,rfl,DPut.k (k:=Sum.inr u[i]) g1 (by rw[b8k,b8m,Z7,Y3];omega),?_⟩;rw[c4y (λj _=>uS++tn (j+1)) hu hi (by show ofString "U"++tn ((i:Int)+1).toNat=uS++tn (i+1);rw[show((i:Int)+1).toNat=i+1 by omega];rfl)];have bb:=b4e (p:=pd) (H:=J) (o:=.dK (encS (mkA (λj _=>uS++tn (j+1)) 0 (u.take (i+1)))));exact⟨_,_,rfl,a0c,bb _ _ hne.symm g2,b8q g3 bb hpd⟩
 obtain⟨o1,o2,rfl,g1,g2,g3⟩:=hP;rw[length_map,Yx]at g1;ext;refine⟨a,rfl,⟨_,g3.seq hS⟩,λD hD=>?_⟩;refine a3q (a2d (xs:=us)) (λi ys J2=>Same J J2/\J2 D=some (.lst ys)/\DenL K J2 ys (Trm.dataL (renL (sub (mkA (λj _=>uS++tn (j+1)) 0 u)) (ts.take i)))) (ln qo) ⟨a0h hD _,a0c,by rw[Vu,renL];exact .nil⟩ (λi ys J2 hP=>hP.1.seq (g3.seq hS)) (λi ys J2 Q' hi hl' hP k=>?_) (λys J2 hl' hP=>?_)
 ·obtain⟨f1,f2,f3⟩:=hP;have hki:i<ts.length:=by omega
  obtain⟨hui,dk⟩:=a5t hd hki;ext;rw[getD_at hui];refine⟨ts[i],_,(dk.mono g3).mono f1,f1 _ _ g1,λx hx=>?_,hz70 _ (Yq hki),qo,λx J3 s3 dx=>?_⟩
  ·rw[a8p];exact hv x (b8n (Yq hki) x hx)
  ·have g6:J3 D=some (.lst ys):=s3 _ _ f2;refine k _ _ g6 ⟨a1c (f1.trans s3) hD,a0c,?_⟩;rw[take_succ' hki,a4u,Zo,<-a4u,a4w];exact((f3.mono s3).append (.cons dx .nil)).lst g6
 obtain⟨f1,f2,f3⟩:=hP;rw[Yo qo,<-han]at f3;exact q D ys J2 (g3.trans f1) (a1k g3 hD) f2 f3
theorem d0r(T:Txt K mg t)(G_b0:FnOk P w K mg base CX0 1 t.a_b0 t.d_b0 ["terms"] (a5e K))(G_a9:FnOk P w K mg base CX0 72 t.a_a9 t.d_a9 ["term","names"] (a5f K 70)):FnOk P w K mg base CX0 73 t.a_c6 t.d_c6 ["term","n"] (b9v K):=by
 exists T.F_c6.ok b3e,(a0d (a0p (i:=2) b3e.nd rfl (by nofun) a5p) (a0d (a3i Yj rfl (a2e K rfl (a0l G_b0 hr.o rfl T.m_b0 T.F_b0.kp T.b_b0 .nil a0m (a0a (a1e (a0a (mv 0) a0b)) a0b))) (a1f (i:=3) b3e.nd rfl (by nofun)) (a0g (b0c (a5l hr) (mv 2) (mv 3) (pe_f3n (mv 3) (mv 1)) rfl))) (a0g (a0o (a0l G_a9 hr.o rfl T.m_a9 T.F_a9.kp T.b_a9 .nil a0m (a0a (mv 0) (a0a (mv 2) a0b))))))),H,Q,E,hr,h
 rename_i v n;obtain⟨t,hd,hz,h0,h30,hx30,q⟩:=h;ext;intro pd hpd;have s1:=a0h hpd (.dK []);have k1:(upd H pd (.dK [])) pd=some (.dK []):=a0c;generalize upd H pd (.dK [])=H1 at s1 k1 ⊢;ext;refine⟨ln (by show 1<=100000;decide),λp1 hp1=>?_⟩;have sp1:Same H1 (upd H1 p1 (.lst [v])):=a0h hp1 _;have kp1:(upd H1 p1 (.lst [v])) p1=some (.lst [v]):=a0c;generalize upd H1 p1 (.lst [v])=H2 at sp1 kp1 ⊢;ext;ext;refine⟨[v],[t],SqL.of kp1,.cons (hd.mono (s1.trans sp1)) .nil,by simp only[Trm.sizeL];omega,λp H3 s3 hp kp=>?_⟩;rw[d2z]at kp;have hu:=nod0 t;have hl:=b8j t [];have hv:∀x∈vars t,x∈ord t []:=λx hx=>c4x hx
 have hvx:∀x∈ord t [],x.length<=1000:=λx hx=>hx30 x (ord_var hx)
 have han:ren (sub (mkA (λ_ x=>mrk n.toNat x) 0 (ord t []))) t=ren (mrk n.toNat) t:=mrk_sub;generalize ord t []=u at hu hl hv kp han hvx;rw[length_nil,Wq]at hl;have s13:=sp1.trans s3;have hne:pd≠p:=λz=>by have:=sp1 _ _ k1;rw[z,hp]at this;cases this
 refine⟨p,rfl,⟨_,SqL.of kp⟩,?_⟩;refine a3m (a2d (xs:=u.map V.str)) (λi σ' J=>∃(o1:Option V),σ'=[some v,some (.int n),some (.ref pd),o1]/\J pd=some (.dK (encS (mkA (λ_ x=>mrk n.toNat x) 0 (u.take i))))/\J p=some (.lst (u.map V.str))/\Same H J) ⟨none,rfl,by rw[Vu];exact s13 _ _ k1,kp,s1.trans s13⟩ (λi σ' J hP=>by obtain⟨_,_,_,h,_⟩:=hP;exact SqL.of h) (λi σ' J hi hP=>?_) (λσ' J hP=>?_)
 ·obtain⟨o1,rfl,g1,g2,g3⟩:=hP;rw[length_map]at hi;rw[b2u hi];ext;obtain⟨l1,l2,l3⟩:=c9o (i:=n) h0 h30;have hxl:=hvx _ (Yq hi);refine⟨u[i],rfl,qo,?_⟩;ext;refine⟨n,rfl,l1,l2,?_⟩;rw[l3];ext;refine⟨pd,_,rfl,DPut.k (k:=Sum.inr u[i]) g1 (by rw[b8k,b8m,Z7,Y3];omega),?_⟩;rw[c4y (λ_ x=>mrk n.toNat x) hu hi (y:=u[i]++ofString "."++tn n.toNat) rfl];have bb:=b4e (p:=pd) (H:=J) (o:=.dK (encS (mkA (λ_ x=>mrk n.toNat x) 0 (u.take (i+1)))));exact⟨_,rfl,a0c,bb _ _ hne.symm g2,b8q g3 bb hpd⟩
 obtain⟨o1,rfl,g1,g2,g3⟩:=hP;rw[length_map,Yx]at g1;ext;refine⟨t,_,hd.mono g3,g1,λx hx=>by rw[a8p];exact hv x hx,hz,qo,λx J2 s2 dx=>?_⟩;rw[han]at dx;exact q x J2 (g3.trans s2) dx
theorem c3t(T:Txt K mg t)  :FnOk P w K mg base CX0 1 t.a_d0 t.d_d0 ["sign"] (b4s):=by
 exists T.F_d0.ok c3q,(a0g (a0o (b6n (a2a b6o (mv 0) (a6t rfl T.m_g5) (by with_unfolding_all rfl)) (b6n (a2a b6o (mv 0) (a6t rfl T.m_g8) (by with_unfolding_all rfl)) (a4o (a2a b6o (mv 0) (a6t rfl T.m_g9) (by with_unfolding_all rfl))))))),H,Q,E,hr,h
 rename_i c;ext;have h:Q (.bl (inner c)) H:=h;unfold inner at h
 exists e
 ·rw[Zt]at e;rw[e]at h;exact h
 ·rw[Zt]at e;rw[e,S5]at h;ext
  exists e
  ·rw[Zt]at e;rw[e]at h;exact h
  ·rw[Zt]at e;rw[e,S5]at h;ext;rw[Zt];exact h
theorem c3b(T:Txt K mg t)(G_d0:FnOk P w K mg base CX0 1 t.a_d0 t.d_d0 ["sign"] (b4s)):FnOk P w K mg base CX0 2 t.a_d5 t.d_d5 ["text","firsts"] (b3i):=by
 exists T.F_d5.ok c2g,(a0d (a1d (PW.pt (pw_or (a9y (a2k K rfl (a1s (kc_is K rfl) rfl T.n_h5 boot_isinstance (a0a (mv 0) (a0a (c7y rfl T.n_h3 boot_str) a0b))))) (c1b (a9y (d1p mo_le mo_le a0e (a1s (a2x K rfl) rfl T.n_f4 Yw (a0a (mv 0) a0b)) (a8f rfl T.m_h0)))))) (a0g (a0o a4b)) a0u) (a0g (a0o (a7i (a2a b6o (a0n (a0j K rfl) (mv 0) a0e (λ_ _=>rfl)) (mv 1) (by with_unfolding_all rfl)) (a4o (a1s (kc_all K rfl rfl) rfl T.n_h7 boot_all (a0a (a5a rfl (pi_str (mv 0)) (a4k (a0i a7d) ["text","firsts"] ["text","firsts"] rfl rfl qk) (λ_ _ _ _ _=>a4j) (λ_ _ _ _ _=>(a0l G_d0 hr.o rfl T.m_d0 T.F_d0.kp T.b_d0 .nil a0m (a0a (mv 0) a0b)))) a0b))))))),H,Q,E,hr,h
 rename_i z f;obtain⟨hz,q⟩:=h;walk_at "A"
 exists mLen_s (ln qo)
 unfold called at q;have lo:decide ((1:Int)<=z.length)=false\/decide ((1:Int)<=z.length)=true/\decide ((z.length:Int)<=12)=false->Q (.bl false) H:=λc=>by
  have q:=q H (Same.refl H);rcases c with c|⟨c1,c2⟩
  ·rw[c]at q;simpa using q
  ·rw[c1,c2]at q;simpa using q
 exists e
 rotate_left
 ·ext;exact lo (.inl e)
 ext
 exists e2
 ·ext;refine lo (.inr ⟨e,?_⟩);cases d:decide ((z.length:Int)<=12)with
  |false=>rfl
  |true=>rw[d]at e2;cases e2
 have e2:decide ((z.length:Int)<=12)=true:=by
  cases d:decide ((z.length:Int)<=12)with
  |true=>rfl
  |false=>rw[d]at e2;cases e2
 rw[e,e2]at q;simp only[Bool.and_self,V2]at q;have hp:0<z.length:=by have:=Z8 e;omega
 ext
 exists mIx_s (ln qo) (len_fst hp)
 rw[Zt]
 exists e3
 rotate_left
 ·have e3:inS (fst z) f=false:=e3;rw[e3]at q;exact q H (Same.refl H)
 have e3:inS (fst z) f=true:=e3;rw[e3]at q;simp only[V2]at q;ext;refine⟨z,rfl,λD hD=>?_⟩;refine a3q (row_str z) (λi ys H'=>Same H H'/\ys=((List.range i).map λk=>inner (one (z.cps.getD k 0))).map V.bl/\H' D=some (.lst ys)) (ln (by unfold Str.length at hz;omega)) ⟨a0h hD _,rfl,a0c⟩ (λ_ _ _ _=>trivial) (λi ys H' Q' hi hl hP k=>?_) (λys H' hl hP=>?_)
 ·obtain⟨h1,h2,h3⟩:=hP;ext;refine k _ _ h3 ⟨a1c h1 hD,?_,a0c⟩;rw[Sj,Zo,Zo,h2];rfl
 ·obtain⟨h1,h2,h3⟩:=hP;ext;refine⟨_,SqL.of (h2▸h3),?_⟩;have:=q H' h1;rw[<-all_get z (λc=>inner (one c))]at this;exact this
theorem c6j(T:Txt K mg t)(G_d5:FnOk P w K mg base CX0 2 t.a_d5 t.d_d5 ["text","firsts"] (b3i)):FnOk P w K mg base CX0 3 t.a_d8 t.d_d8 ["text"] (b7g):=by
 exists T.F_d8.ok c5y,(a0g (a0o (a0l G_d5 hr.o rfl T.m_d5 T.F_d5.kp T.b_d5 .nil a0m (a0a (mv 0) (a0a (a6t rfl T.m_g5) a0b))))),H,Q,E,hr,h
 rename_i z;ext;exact h
theorem c3u(T:Txt K mg t)(G_d8:FnOk P w K mg base CX0 3 t.a_d8 t.d_d8 ["text"] (b7g)):FnOk P w K mg base CX0 4 t.a_c9 t.d_c9 ["term"] (b4t K):=by
 exists T.F_c9.ok c3r,(a0g (a0o (a7i (a2a a2b (a0n (a0j K rfl) (mv 0) a0e (λ_ _=>rfl)) a0v (a0t _)) (a7i (a0l G_d8 hr.o rfl T.m_d8 T.F_d8.kp T.b_d8 .nil a0m (a0a (a0n (a0j K rfl) (mv 0) a0e (λ_ _=>rfl)) a0b)) (a4o (a2a (ko_ninV K rfl) (a0n (a0j K rfl) (mv 0) a0e (λ_ _=>rfl)) (a0s (a0a (a6t rfl T.m_g4) (a0a (a6t rfl T.m_g7) a0b))) (by with_unfolding_all rfl))))))),H,Q,E,hr,h
 rename_i v;obtain⟨s,ks,hd,hw,q⟩:=h;obtain⟨a,pa,us,rfl,hs,hb,hk⟩:=a1q hd;ext
 exists a0k hs (v:=.str appS) rfl
 refine iteB (λe=>?_) (λe=>absurd e qk);ext
 exists a0k hs (v:=.str s) rfl
 refine⟨hw,λH1 s1=>?_⟩;ext
 exists e1
 ·ext
  exists a0k (s1.tup hs) (v:=.str s) rfl
  refine⟨ln (by show 2<=100000;decide),λp1 hp1=>?_⟩;refine d2d [keepS,notS] (.inr (SqT.of a0c)) ?_;have:=q _ (s1.trans (a0h hp1 (.tup [.str keepS,.str notS])));rw[nmd,e1,V2]at this;exact this
 ·have:=q _ s1;rw[nmd,e1,Bool.false_and]at this;exact this
theorem c6k(T:Txt K mg t)  :FnOk P w K mg base CX0 1 t.a_c0 t.d_c0 ["goal"] (b1w K):=by
 exists T.F_c0.ok c6a,(a0g (a0o (a0s (a0a (a0n (a0j K rfl) (mv 0) a0e (λ_ _=>rfl)) (a0a (a1s (a2x K rfl) rfl T.n_f4 Yw (a0a (a0n (a0j K rfl) (mv 0) a0e (λ_ _=>rfl)) a0b)) a0b))))),H,Q,E,hr,h
 rename_i v;obtain⟨s,ks,hd,q⟩:=h;obtain⟨a,pa,us,rfl,hs,hb,hk⟩:=a1q hd;ext
 exists a0k hs (v:=.str s) rfl
 exists a0k hs (v:=.ref pa) rfl
 exists b6r hb
 refine⟨ln (by show 2<=100000;decide),λp hp=>?_⟩;have hl:=hk.length;rw[Trm.dataL_map,length_map]at hl;exact q p _ (a0h hp _) (by rw[a0c,hl];rfl)
end
section
variable{P:Program}{w:World}{K:W.Frag}{mg:Str->Option Value}{base:Heap}{t:Ad}
theorem c6l(T:Txt K mg t)(G_a8:FnOk P w K mg base CX0 73 t.a_a8 t.d_a8 ["terms"] (a6l K))(G_c0:FnOk P w K mg base CX0 1 t.a_c0 t.d_c0 ["goal"] (b1w K)):FnOk P w K mg base CX0 74 t.a_d6 t.d_d6 ["rules"] (b7l K):=by
 exists T.F_d6.ok a6k,(a0d (a0p (i:=1) a6k.nd rfl (by nofun) d1m) (a0d (a3i Yj rfl (b5g K rfl rfl T.n_h1 (a0a (mv 0) a0b)) (a3w K rfl rfl (a1j (a1f (i:=2) a6k.nd rfl (by nofun)) (a1j (a1f (i:=3) a6k.nd rfl (by nofun)) a3k))) (a0d (a0p (i:=4) (hs:=a1n) a6k.nd rfl (by nofun) (a0l G_a8 hr.o rfl T.m_a8 T.F_a8.kp T.b_a8 .nil a0m (a0a (a1h (a1t K rfl) (a1e (a0a (a0n (a0j K rfl) (mv 3) a0e (λ_ _=>rfl)) a0b)) (a1o (a8g K rfl) rfl T.n_g0 Vy (a0a (a0n (a0j K rfl) (mv 3) a0e (λ_ _=>rfl)) a0b))) a0b))) (a0g (a1m (a2p K rfl Z4 Yv Y1 a2j (a2p K rfl T6 Rb F.type_dict_setdefault (d2t (a2y hr)) (mv 1) (a0a (a0l G_c0 hr.o rfl T.m_c0 T.F_c0.kp T.b_c0 .nil a0m (a0a (a0n (a0j K rfl) (mv 4) a0e (λ_ _=>rfl)) a0b)) (a0a (a1e a0b) a0b))) (a0a (a0s (a0a (a1h (a1t K rfl) (mv 2) a0e) (a0a (a0n (a0j K rfl) (mv 4) a0e (λ_ _=>rfl)) (a0a (a5o (a6u K rfl) (mv 4) (a6s a0e) a6q) a0b)))) a0b)))))) (a0g (a0o (mv 1))))),H,Q,E,hr,h
 rename_i a;obtain⟨us,rs,hS,hd,hok,hl,q⟩:=h;have hul:=hd.length;rw[length_map]at hul;ext;intro p hp;have s1:Same H (upd H p (.dT [])):=a0h hp _;have k1:(upd H p (.dT [])) p=some (.dT []):=a0c;generalize upd H p (.dT [])=H1 at s1 k1 ⊢;ext;refine⟨a,us,rfl,s1.seq hS,?_⟩;refine b2t (λi σ' J=>∃(o1 o2 o3:Option V)(M:List Addr)(kvs:List (List Key×V)),σ'=[some (.ref a),some (.ref p),o1,o2,o3]/\TabM K H J p M kvs (tabF (rs.take i) 0 [])/\kvs.length<=i) ⟨none,none,none,[],[],rfl,⟨s1,k1,hp,λm hm=>by simp at hm,.nil,qz,λm hm=>by simp at hm⟩,Zn _⟩ (λi σ' J hP=>by obtain⟨_,_,_,_,_,_,tm,_⟩:=hP;exact tm.sm.seq hS) (λi σ' J T' hi hP hT=>?_) (λσ' J hP=>?_)
 ·obtain⟨o1,o2,o3,M,kvs,rfl,tm,hkl⟩:=hP;have hki:i<rs.length:=by omega
  have hx:us[i]? =some us[i]:=Zj hi
  obtain⟨d,e1,e2⟩:=hd.get hx;rw[Yk,Zj hki]at e1;have e1:ruE rs[i]=d:=Zw e1;subst e1;have hg:us.getD i .non=us[i]:=by rw[Z2,hx];rfl
  rw[hg];have rok:=hok _ (Yq hki);refine a4r (SqT.of a0c) rfl ?_;have sT:=a0h hT (.tup [.int i,us[i]]);have tm1:=tm.same sT;generalize upd J T' (.tup [.int i,us[i]])=J1 at sT tm1 ⊢;have e2:=e2.mono tm1.sm;obtain⟨w1,ks,ehd⟩:=rok.ap;generalize hx0:rs[i]=x0 at e2 rok ehd;generalize us[i]=u0 at e2 ⊢;obtain⟨ta,hv,gp,ug,rfl,hts,hhd,hgp,hgd⟩:∃ta hv gp ug,u0=.ref ta/\SqT K J1 ta [hv,.ref gp]/\Den K J1 hv x0.1.data/\SqT K J1 gp ug/\DenL K J1 ug (Trm.dataL x0.2):=by
   cases e2 with
   |tup c d=>
    cases d with
    |cons e f=>
     cases f with
     |cons g h=>
      cases h;cases g with
      |tup i j=>exact⟨_,_,_,_,rfl,c,e,i,j⟩
  have hgl:=a3b hgd;have hg10:=rok.l;ext
  exists a0k hts (v:=hv) rfl
  refine⟨ln (by show 1<=100000;decide),λp2 hp2=>?_⟩;have sp2:Same J1 (upd J1 p2 (.lst [hv])):=a0h hp2 _;have kp2:(upd J1 p2 (.lst [hv])) p2=some (.lst [hv]):=a0c;generalize upd J1 p2 (.lst [hv])=J2 at sp2 kp2 ⊢;ext
  exists a0k (sp2.tup hts) (v:=.ref gp) rfl
  refine⟨gp,ug,rfl,.inr (sp2.tup hgp),λp3 hp3=>?_⟩;have s3:=a0h hp3 (.lst ug);have k3:(upd J2 p3 (.lst ug)) p3=some (.lst ug):=a0c;generalize upd J2 p3 (.lst ug)=J3 at s3 k3 ⊢;ext;refine a6a (s3 _ _ kp2) k3 (ln (by show 1+ug.length<=_;omega)) λp4 hp4=>?_
  have s4:=a0h hp4 (.lst ([hv]++ug));have k4:(upd J3 p4 (.lst ([hv]++ug))) p4=some (.lst (hv::ug)):=a0c;generalize upd J3 p4 (.lst ([hv]++ug))=J4 at s4 k4 ⊢;have s14:=sp2.trans (s3.trans s4);ext;have hz1:=rok.z1;have hz2:=c2m rok.z2;have hz3:x0.2.length*60<=10*60:=X9 _ hg10;refine⟨hv::ug,x0.1::x0.2,SqL.of k4,.cons (hhd.mono s14) (hgd.mono s14),by rw[Trm.sizeL];omega,λt ht=>?_,λp5 us5 J5 s5 hp5 kp5 d5=>?_⟩
  ·rcases Zu.mp ht with z|z
   ·rw[z];omega
   ·have:=rok.z2 t z;omega
  rw[d0a]at d5;cases d5 with
  | @cons u5 us5 _ _ du5 dus5=>
  have tm5:=tm1.same (s14.trans s5);have tm4:=tm1.same s14;have n5:p5∉M:=tm4.notM hp5;have eR:ren (fAn x0) x0.1=.app w1 (renL (fAn x0) ks):=by rw[ehd,ren]
  have eK:keyT x0.1=nd w1 (renL (fAn x0) ks).length:=by rw[ehd,a4u,length_map];rfl
  ext;refine⟨.inr (.inr (.inl ⟨rfl,.inr ⟨_,tm5.top⟩⟩)),?_⟩;ext
  exists a2l (SqL.of kp5) (b4i _ _)
  refine⟨w1,renL (fAn x0) ks,by rw[<-eR];exact du5,λp6 J6 s6 hp6=>?_⟩;have tm6:=tm5.same s6;ext;refine⟨Z0 _,λp7 hp7=>?_⟩;ext;refine tm6.setd hp6 hp7 qo λJ8 m8 M8 kvs8 tab8 tm8 hv8 ha8 hl8 kt8 kl8=>?_
  obtain⟨us8,e8⟩:=tm8.at hv8;obtain⟨k58,n58⟩:=kl8 p5 _ n5 (s6 _ _ kp5);ext;refine⟨.inl ⟨rfl,_,SqL.of e8⟩,?_⟩;ext
  exists a2l (SqL.of k58) (b4i _ _)
  refine⟨p5,_,rfl,SqL.of k58,λp9 hp9=>?_⟩;rw[b1v _ 1 qd,show(u5::us5).drop (1:Int).toNat=us5 from rfl];have s9:Same J8 (upd J8 p9 (.lst us5)):=a0h hp9 _;have k9:(upd J8 p9 (.lst us5)) p9=some (.lst us5):=a0c;generalize upd J8 p9 (.lst us5)=J9 at s9 k9 ⊢;ext;refine⟨ln (by show 3<=100000;decide),λpA hpA=>?_⟩;have sA:Same J9 (upd J9 pA (.tup [.int ((i:Int)+1),u5,.ref p9])):=a0h hpA _;have kA:(upd J9 pA (.tup [.int ((i:Int)+1),u5,.ref p9])) pA=some (.tup [.int ((i+1:Nat):Int),u5,.ref p9]):=a0c;generalize upd J9 pA (.tup [.int ((i:Int)+1),u5,.ref p9])=JA at sA kA ⊢;have tmA:=tm8.same (s9.trans sA);have ktA:KT K J5 JA:=(KT.same s6).trans (kt8.trans (KT.same (s9.trans sA)));have dA:Dm K JA M8 (.ref pA) (mkRl (i+1) x0).data:=.tup (SqT.of kA) (.cons (.int _) (.cons ((b0r _).mpr (du5.monoT ktA)) (.cons (.lst (sA _ _ k9) (tm8.notM hp9) ((a5x _).mpr (dus5.monoT ktA))) .nil)));obtain⟨usA,eA,⟨bA,hbA,hlA⟩,tmB,prB⟩:=tmA.app hv8 dA;rw[ha8,<-eK]at hbA tmB;have hlen:=b5u (n:=i) (λb hb=>by have:=c2n (rs:=rs.take i) (n:=0) (tb:=[]) (λb hb=>by simp at hb) b hb;rw[Z7]at this;omega) bA hbA;ext;refine a2f eA (ln1 qo) ?_;refine⟨_,_,_,M8,kvs8,rfl,?_,qo⟩;rw[take_succ' hki,c0b,Z7,hx0,show 0+min i rs.length+1=i+1 by omega];exact tmB
 obtain⟨o1,o2,o3,M,kvs,rfl,tm,hkl⟩:=hP;rw[Yo qo]at tm;ext;exact q p kvs J tm.sm hp tm.top (Paired.mapP tm.row λ_ _ ⟨e,m,us,e1,e2,e3,e4⟩=>⟨e,by rw[e1];exact .lst e3 qz e4.weak⟩)
end
section
variable{P:Program}{w:World}{K:W.Frag}{mg:Str->Option Value}{base:Heap}{t:Ad}
theorem c6m(T:Txt K mg t)  :FnOk P w K mg base CX0 1 t.a_b3 t.d_b3 ["name"] (a8b K):=by
 exists T.F_b3.ok c5x,(a0g (a0o (a0s (a0a a0v (a0a (mv 0) a0b))))),H,Q,E,hr,h
 rename_i x;ext;exact⟨ln (by show 2<=100000;decide),λp hp=>h _ _ (a0h hp _) (c4n (SqT.of a0c))⟩
theorem c6n(T:Txt K mg t)(G_b3:FnOk P w K mg base CX0 1 t.a_b3 t.d_b3 ["name"] (a8b K))(G_a7:FnOk P w K mg base CX0 1 t.a_a7 t.d_a7 ["sign","kids"] (b3h K))(n:Nat)(G_a9:FnOk P w K mg base CX0 (n+2) t.a_a9 t.d_a9 ["term","names"] (a5f K n)):FnOk P w K mg base CX0 (n+2+1) t.a_a9 t.d_a9 ["term","names"] (a5f K (n+1)):=by
 exists T.F_a9.ok (k:=n+2) c5z,(a0d (a1d (a0z a2b (a0n (a0j K rfl) (mv 0) a0e (λ_ _=>rfl)) a0v (a0t _)) (a0g (a0o (a0l G_b3 hr.o rfl T.m_b3 T.F_b3.kp T.b_b3 .nil a0m (a0a (b8c (a5l hr) (mv 1) (a0n (a0j K rfl) (mv 0) a0e (λ_ _=>rfl)) (λ_ _=>rfl)) a0b)))) a0u) (a0d (a1d (a0z a2b (a0n (a0j K rfl) (mv 0) a0e (λ_ _=>rfl)) a0v (a0t _)) (a0g (a0o (a0l G_a7 hr.o rfl T.m_a7 T.F_a7.kp T.b_a7 .nil a0m (a0a (a0n (a0j K rfl) (mv 0) a0e (λ_ _=>rfl)) (a0a (a5a rfl (c4i K rfl (a0n (a0j K rfl) (mv 0) a0e (λ_ _=>rfl))) (a4k (a0i a9d) ["term","names"] ["term","names"] rfl rfl qk) (λ_ _ _ _ _=>a4j) (λ_ _ _ _ _=>(a0l G_a9 hr.o rfl T.m_a9 T.F_a9.kp T.b_a9 .nil a0m (a0a (mv 0) (a0a (mv 2) a0b))))) a0b))))) a0u) (a0g (a0o (mv 0))))),H,Q,E,hr,h
 rename_i v d;obtain⟨t0,as,hd,hD,hv,hz,hn,q⟩:=h;ext;cases t0 with
 |any x=>
  obtain⟨a,rfl,hs⟩:=a2t hd
  exists a0k hs (v:=.str anyS) rfl
  rw[Zt,q3];walk_at "D"
  exists a0k hs (v:=.str x) rfl
  have dg:DGet H d (.str x) (valV (encS as) (Sum.inr x)):=DGet.k (k:=Sum.inr x) hD;rw[val_sub (hv x (by simp[vars]))]at dg;refine⟨d,_,rfl,dg,?_⟩;ext;intro w H' s' dw;exact q w H' s' (by rw[ren];exact dw)
 |num m=>
  obtain⟨a,rfl,hs⟩:=a2z hd
  exists a0k hs (v:=.str numS) rfl
  rw[Zt,q1];walk_at "C"
  exists a0k hs (v:=.str numS) rfl
  refine iteB (λe=>absurd e qk) (λe=>?_);ext;exact q _ H (Same.refl _) (by rw[ren];exact hd)
 |app sg ks=>
  obtain⟨a,b,us,rfl,hs,hb,hk⟩:=a1q hd;have hkl:=a3b hk;simp only[Trm.size]at hz
  exists a0k hs (v:=.str appS) rfl
  rw[Zt,q2];walk_at "C"
  exists a0k hs (v:=.str appS) rfl
  refine iteB (λe=>?_) (λe=>absurd e qk);ext
  exists a0k hs (v:=.str sg) rfl
  refine a0k hs (v:=.ref b) rfl ?_;refine⟨b,rfl,⟨_,hb⟩,λD hD'=>?_⟩;have zl:=Trm.len_le ks;refine a3q (c4f (xs:=us)) (λi ys J=>Same H J/\J D=some (.lst ys)/\DenL K J ys (Trm.dataL (renL (sub as) (ks.take i)))) (ln qo) ⟨a0h hD' _,a0c,by rw[Vu,renL];exact .nil⟩ (λi ys J hP=>hP.1.tup hb) (λi ys J Q' hi hl' hP k=>?_) (λys J hl' hP=>?_)
  ·obtain⟨g1,g2,g3⟩:=hP;have hki:i<ks.length:=by omega
   obtain⟨hu,dk⟩:=a5t hk hki;have z1:=c2j (Zj hki);ext;rw[getD_at hu];refine⟨ks[i],as,dk.mono g1,g1 _ _ hD,λx hx=>hv x ?_,qo,qo,λx J2 s2 dx=>?_⟩
   ·rw[vars];have:∀(l:List Trm)(i:Nat)(h:i<l.length),x∈vars l[i]->x∈a3n l:=by
     intro l
     induction l with
     |nil=>intro i h;simp at h
     |cons a r ih=>
      intro i h hx;rw[a3n,Yt];cases i with
      |zero=>exact .inl hx
      |succ i=>exact .inr (ih i (by simpa using h) (by simpa using hx))
    exact this ks i hki hx
   ·have g6:J2 D=some (.lst ys):=s2 _ _ g2;refine k _ _ g6 ⟨a1c (g1.trans s2) hD',a0c,?_⟩;rw[take_succ' hki,a4u,Zo,<-a4u,a4w];exact((g3.mono s2).append (.cons dx .nil)).lst g6
  obtain⟨g1,g2,g3⟩:=hP;rw[Yo qo]at g3;ext;refine⟨ys,_,SqL.of g2,g3,λw J2 s2 dw=>?_⟩;exact q (.ref w) J2 (g1.trans s2) (by rw[ren];exact dw)
theorem c6o(T:Txt K mg t)(G_b3:FnOk P w K mg base CX0 1 t.a_b3 t.d_b3 ["name"] (a8b K))(G_a7:FnOk P w K mg base CX0 1 t.a_a7 t.d_a7 ["sign","kids"] (b3h K))(n:Nat):FnOk P w K mg base CX0 (n+2) t.a_a9 t.d_a9 ["term","names"] (a5f K n):=by
 induction n with
 |zero=>
  have no:∀vs H Q E,(a5f K 0) vs H Q E->False:=λvs H Q E h=>by
   revert vs
   walk_at "in";exactλh=>c6b h
  exact⟨λvs H Q E h=>(no vs H Q E h).elim,λA outer s H args us vs Q E _ _ _ _ h=>(no vs H Q E h).elim⟩
 |succ n ih=>
  have e:n+1+2=n+2+1:=by omega
  rw[e];exact c6n T G_b3 G_a7 n ih
theorem b9a(T:Txt K mg t)  :FnOk P w K mg base CX0 1 t.a_b0 t.d_b0 ["terms"] (a5e K):=by
 exists T.F_b0.ok a5d,(a0d (a0p (i:=1) a5d.nd rfl (by nofun) a5p) (a0d (a0p (i:=2) (hs:=a1n) a5d.nd rfl (by nofun) (b6x K rfl rfl rfl T.n_g0 rfl T.n_h2 (a0a (mv 0) a0b))) (a0d (a5n Yj (a2k K rfl (mv 2)) (a0d (a0p (i:=3) (hs:=a1n) a5d.nd rfl (by nofun) (b0f K rfl Z4 W7 Vk b0e (mv 2))) (a0g (a1d (a0z a2b (a0n (a0j K rfl) (mv 3) a0e (λ_ _=>rfl)) a0v (a0t _)) (a0g (b0c (a5l hr) (mv 1) (a0n (a0j K rfl) (mv 3) a0e (λ_ _=>rfl)) a4b rfl)) (a0g (a1d (a0z a2b (a0n (a0j K rfl) (mv 3) a0e (λ_ _=>rfl)) a0v (a0t _)) (a0g (a1m (a2p K rfl Z4 Vo Tt (b2p K rfl) (mv 2) (a0a (b6x K rfl rfl rfl T.n_g0 rfl T.n_h2 (a0a (a0n (a0j K rfl) (mv 3) a0e (λ_ _=>rfl)) a0b)) a0b)))) a0u)))))) (a0g (a0o (a1o (d1x rfl) rfl T.n_g0 Vy (a0a (mv 1) a0b))))))),H,Q,E,hr,h
 rename_i a;obtain⟨us,ts,hS,hd,hz,q⟩:=h;have hul:=a3b hd;have tl:=Trm.len_le ts;ext;intro pd hpd;have s1:=a0h hpd (.dK []);have k1:(upd H pd (.dK [])) pd=some (.dK []):=a0c;generalize upd H pd (.dK [])=H1 at s1 k1 ⊢;ext;refine⟨a,us,rfl,.inl (s1.seq hS),qo,λpt hpt=>?_⟩;have s2:=a0h hpt (.lst us.reverse);have k2:(upd H1 pt (.lst us.reverse)) pt=some (.lst us.reverse):=a0c;generalize upd H1 pt (.lst us.reverse)=H2 at s2 k2 ⊢;have hpt0:H pt=none:=a1k s1 hpt;have hne:pd≠pt:=λz=>by rw[z,hpt]at k1;cases k1
 have d2:DenL K H2 us.reverse (Trm.dataL ts.reverse):=by rw[<-b9w];exact My.DenL.rev (hd.mono (s1.trans s2))
 ext;refine a4q (λn σ' H'=>∃(ws:List V)(st:List Trm)(acc:List Str)(o1:Option V),σ'=[some (.ref a),some (.ref pd),some (.ref pt),o1]/\H' pt=some (.lst ws)/\DenL K H' ws (Trm.dataL st)/\H' pd=some (.dK (encB acc))/\acc.length+Trm.sizeL st<=1000/\ordL st.reverse acc=ordL ts []/\n=Trm.sizeL st/\Same H H') (Trm.sizeL ts.reverse) ⟨us.reverse,ts.reverse,[],none,rfl,k2,d2,s2 _ _ k1,by rw[b3g];simpa using hz,by rw[Rw],rfl,s1.trans s2⟩ (λn σ' H' R hP kT kF=>?_);obtain⟨ws,st,acc,o1,rfl,h1,h2,h3,h4,h5,h6,h7⟩:=hP;ext;refine .inl ⟨ws,SqL.of h1,?_⟩;rcases nil_or_snoc' st with rfl|⟨st',t1,rfl⟩
 ·have e:ws=[]:=by have:=a3b h2;simpa using this
  subst e
  exists kF H'
  refine⟨pd,_,rfl,.inl h3,λpr hpr=>?_⟩;rw[c9p];rw[List.reverse_nil,ordL]at h5;rw[h5];exact q pr _ (a1c h7 (a1k h7 hpr)) (a1k h7 hpr) a0c
 ·rw[a4w]at h2;obtain⟨ws',w,rfl,g1,g2⟩:=DenL.snoc h2;have hwl:=a3b g1;have hsl:=Trm.len_le st';have e:(!(ws'++[w]).isEmpty)=true:=by simp
  rw[e];have hsz:=Trm.sizeL_app st' [t1];have hs1:Trm.sizeL [t1]=t1.size:=by simp[Trm.sizeL]
  have tpos:=t1.size_pos;rw[R6,List.reverse_singleton,List.singleton_append,ordL]at h5;refine kT H' (λD' e1 e2 hnx hct=>?_);ext;refine⟨.inl ⟨rfl,_,SqL.of h1⟩,?_⟩
  exists b0g h1
  have f1:DenL K (upd H' pt (.lst ws')) ws' (Trm.dataL st'):=g1.lst h1;have f2:Den K (upd H' pt (.lst ws')) w t1.data:=g2.lst h1;have f3:Same H (upd H' pt (.lst ws')):=a1c h7 hpt0;have f4:(upd H' pt (.lst ws')) pt=some (.lst ws'):=a0c;have f5:(upd H' pt (.lst ws')) pd=some (.dK (encB acc)):=by rw[a0f hne];exact h3
  generalize upd H' pt (.lst ws')=J at f1 f2 f3 f4 f5 ⊢;cases t1 with
  |any x=>
   obtain⟨b,rfl,hb⟩:=a2t f2
   exists a0k hb (v:=.str anyS) rfl
   rw[Zt,q3];walk_at "D"
   exists a0k hb (v:=.str x) rfl
   refine⟨pd,_,rfl,DPut.k (k:=Sum.inr x) f5 (by rw[d3e,Y3];omega),?_⟩;rw[d3g];have bb:But pd J (upd J pd (.dK (encB (ord (.any x) acc)))):=b4e;have ol:=b8j (.any x) acc;refine hnx _ _ (Trm.sizeL st') qo ⟨ws',st',ord (.any x) acc,_,rfl,bb _ _ hne.symm f4,f1.monoT (d3d bb f5),a0c,qo,h5,rfl,b8q f3 bb hpd⟩
  |num m=>
   obtain⟨b,rfl,hb⟩:=a2z f2
   exists a0k hb (v:=.str numS) rfl
   rw[Zt,q1];walk_at "C"
   exists a0k hb (v:=.str numS) rfl
   refine iteB (λe=>absurd e qk) (λe=>?_);ext;rw[ord]at h5;exact hnx _ _ (Trm.sizeL st') qo ⟨ws',st',acc,_,rfl,f4,f1,f5,qo,h5,rfl,f3⟩
  |app sg ks=>
   obtain⟨b,c,ku,rfl,hb,hc,hk⟩:=a1q f2;have hkl:=a3b hk;have kl:=Trm.len_le ks;simp only[Trm.size]at hs1 tpos
   exists a0k hb (v:=.str appS) rfl
   rw[Zt,q2];walk_at "C"
   exists a0k hb (v:=.str appS) rfl
   refine iteB (λe=>?_) (λe=>absurd e qk);ext;refine⟨.inl ⟨rfl,_,SqL.of f4⟩,?_⟩;ext
   exists a0k hb (v:=.ref c) rfl
   refine⟨c,ku,rfl,.inr hc,qo,λpr hpr=>?_⟩;have s5:=a0h hpr (.lst ku.reverse);have k5:(upd J pr (.lst ku.reverse)) pr=some (.lst ku.reverse):=a0c;generalize upd J pr (.lst ku.reverse)=J5 at s5 k5 ⊢;ext
   exists mExt_l (s5 _ _ f4) k5 (ln (by rw[Uc];omega))
   rw[ord]at h5;have sz:=Trm.sizeL_app st' ks.reverse;rw[b3g]at sz;have k6:=s5 _ _ f4;refine hnx _ _ (Trm.sizeL (st'++ks.reverse)) qo ⟨ws'++ku.reverse,st'++ks.reverse,acc,_,rfl,a0c,?_,?_,qo,?_,rfl,a1c (f3.trans s5) hpt0⟩
   ·rw[a4w,<-b9w];exact((f1.mono s5).append (My.DenL.rev (hk.mono s5))).lst k6
   ·rw[a0f hne];exact s5 _ _ f5
   ·rw[R6,Rw,c2d];exact h5
theorem d0s(T:Txt K mg t)  :FnOk P w K mg base CX0 1 t.a_a5 t.d_a5 ["term","puts"] (a7m K):=by
 exists T.F_a5.ok b3f,(a0d (a0p (i:=2) b3f.nd rfl (by nofun) (mv 0)) (a0d (a5n Yj (PW.pt (a8j (a0z a2b (a0n (a0j K rfl) (mv 2) a0e (λ_ _=>rfl)) a0v (a0t _)) (a9x (a0z (c8d (a5l hr)) (a0n (a0j K rfl) (mv 2) a0e (λ_ _=>rfl)) (mv 1) (by with_unfolding_all rfl))))) (a0g (a0p (i:=2) (hs:=a6c) b3f.nd rfl (by nofun) (b8c (a5l hr) (mv 1) (a0n (a0j K rfl) (mv 2) a0e (λ_ _=>rfl)) (λ_ _=>rfl))))) (a0g (a0o (mv 2))))),H,Q,E,hr,h
 rename_i v pd;obtain⟨rows,t0,n,u,hP,hd,hw,q⟩:=h;ext;refine a4q (λn σ' H'=>∃(v':V)(t':Trm),σ'=[some v,some (.ref pd),some v']/\Den K H v' t'.data/\Wlk rows n t' u/\H'=H) n ⟨v,t0,rfl,hd,hw,rfl⟩ (λn σ' H' R hP2 kT kF=>?_);obtain⟨v',t',rfl,hd',hw',rfl⟩:=hP2;have fin:hnf rows u->Den K H' v' u.data->R false H':=λhh hdu=>by
  exists kF _
  exact q _ hdu
 cases hw' with
 |stop hs=>
  cases u with
  |num m=>
   obtain⟨a,rfl,hs1⟩:=a2z hd';ext
   exists a0k hs1 (v:=.str numS) rfl
   rw[Zt,q1];walk_at "iF";exact fin hs hd'
  |app sg ks=>
   obtain⟨a,b,us,rfl,hs1,hb,hk⟩:=a1q hd';ext
   exists a0k hs1 (v:=.str appS) rfl
   rw[Zt,q2];walk_at "iF";exact fin hs hd'
  |any x=>
   obtain⟨a,rfl,hs1⟩:=a2t hd';ext
   exists a0k hs1 (v:=.str anyS) rfl
   rw[Zt,q3];walk_at "D"
   exists a0k hs1 (v:=.str x) rfl
   rcases hP.get x with⟨c1,c2⟩|⟨t,w',c1,c2,c3⟩
   ·refine⟨pd,_,rfl,c2,?_⟩;ext;exact fin hs hd'
   ·have:=hs x rfl;rw[c1]at this;cases this
 |step hl hw2=>
  rename_i m x ux;obtain⟨a,rfl,hs1⟩:=a2t hd';ext
  exists a0k hs1 (v:=.str anyS) rfl
  rw[Zt,q3];walk_at "D"
  exists a0k hs1 (v:=.str x) rfl
  rcases hP.get x with⟨c1,c2⟩|⟨t,w',c1,c2,c3⟩
  ·rw[hl]at c1;cases c1
  ·rw[hl]at c1;cases c1;refine⟨pd,_,rfl,c2,?_⟩;ext;refine kT _ (λD' e1 e2 hnx hct=>?_);ext
   exists a0k hs1 (v:=.str x) rfl
   refine⟨pd,_,rfl,c2,?_⟩;ext;exact hnx _ _ m qo ⟨_,_,rfl,c3,hw2,rfl⟩
theorem b9b(T:Txt K mg t)(G_a5:FnOk P w K mg base CX0 1 t.a_a5 t.d_a5 ["term","puts"] (a7m K)):FnOk P w K mg base CX0 2 t.a_c1 t.d_c1 ["term","puts","most"] (a6z K):=by
 exists T.F_c1.ok a3z,(a0d (a0p (i:=3) a3z.nd rfl (by nofun) a0e) (a0d (a0p (i:=4) (hs:=a3x) a3z.nd rfl (by nofun) (a1e (a0a (mv 0) a0b))) (a0d (a5n Yj (a2k K rfl (mv 4)) (a0d (a1d (a0z mo_ge (mv 3) (mv 2) (a0t _)) (a0g (a0o (a1h (a1t K rfl) (mv 2) a0e))) a0u) (a0d (c4m (i:=3) a3z.nd rfl (by nofun) a0e b2q) (a0d (a0p (i:=5) (hs:=a1n) a3z.nd rfl (by nofun) (a0l G_a5 hr.o rfl T.m_a5 T.F_a5.kp T.b_a5 .nil a0m (a0a (b0f K rfl Z4 W7 Vk b0e (mv 4)) (a0a (mv 1) a0b)))) (a0g (a1d (a0z a2b (a0n (a0j K rfl) (mv 5) a0e (λ_ _=>rfl)) a0v (a0t _)) (a0g (a1m (a2p K rfl Z4 Vo Tt (b2p K rfl) (mv 4) (a0a (a0n (a0j K rfl) (mv 5) a0e (λ_ _=>rfl)) a0b)))) a0u)))))) (a0g (a0o (mv 3)))))),H,Q,E,hr,h
 rename_i v pd most;obtain⟨rows,t0,tf,hP,hd,hf,hz,hrz,hm0,hm1,q⟩:=h;ext;refine⟨ln (by show 1<=100000;decide),λp hp=>?_⟩;have sp:Same H (upd H p (.lst [v])):=a0h hp _;have kp:(upd H p (.lst [v])) p=some (.lst [v]):=a0c;generalize upd H p (.lst [v])=H1 at sp kp ⊢;ext;refine a4q (λn σ' H'=>∃(us:List V)(ts ts':List Trm)(c:Nat)(o:Option V),σ'=[some v,some (.ref pd),some (.int most),some (.int (c:Int)),some (.ref p),o]/\H' p=some (.lst us)/\DenL K H' us (Trm.dataL ts)/\a2q rows ts ts'/\c+Trm.sizeL ts'=tf.size/\(c:Int)<=most/\(∀t∈ts,t.size<=70)/\ts.length<=1+70*c/\n=Trm.sizeL ts'/\Same H H') tf.size ⟨[v],[t0],[tf],0,none,rfl,kp,.cons (hd.mono sp) .nil,.cons hf .nil,by simp[Trm.sizeL],qo,λt ht=>by rw[Zq.mp ht];exact hz,qz,by simp[Trm.sizeL],sp⟩ (λn σ' H' R hP2 kT kF=>?_);obtain⟨us,ts,ts',c,o,rfl,h1,h2,h3,h4,h5,h6,h7,h8,h9⟩:=hP2;ext;refine .inl ⟨us,SqL.of h1,?_⟩;rcases nil_or_snoc' ts with rfl|⟨ts0,t1,rfl⟩
 ·have e:=h2.nil_inv;subst e;cases h3
  exists kF H'
  have e:upTo tf.size most=(c:Int):=by
   simp only[Trm.sizeL]at h4;unfold upTo;rw[if_pos qo];omega
  rw[e]at q;exact q H' h9
 ·rw[Trm.dataL_map,Zo,<-Trm.dataL_map]at h2;obtain⟨us',u,rfl,g1,g2⟩:=DenL.snoc h2;obtain⟨tb,ty,rfl,f1,f2⟩:=h3.snoc;rw[Trm.sizeL_app]at h4 h8;have s1:Trm.sizeL [ty]=ty.size:=by simp[Trm.sizeL]
  rw[s1]at h4 h8;have typ:=ty.size_pos;have e:(!(us'++[u]).isEmpty)=true:=by simp
  rw[e];refine kT H' (λD' e1 e2 hnx hct=>?_);ext
  exists e
  ·have hc:=Z8 e;ext;have e:upTo tf.size most=most+1:=by
    unfold upTo;rw[if_neg qo]
   rw[e]at q;exact q H' h9
  have hc:=Xx e;have hlen:=g1.length;rw[Trm.dataL_map,length_map]at hlen;rw[Zl,Zy]at h7;ext;refine⟨.inl ⟨rfl,_,SqL.of h1⟩,?_⟩
  exists b0g h1
  have f3:DenL K (upd H' p (.lst us')) us' (Trm.dataL ts0):=g1.lst h1;have f4:Den K (upd H' p (.lst us')) u t1.data:=g2.lst h1;have f5:Same H (upd H' p (.lst us')):=a1c h9 hp;have f6:a2i K (upd H' p (.lst us')) pd rows:=(hP.mono h9).lst h1;have k6:(upd H' p (.lst us')) p=some (.lst us'):=a0c;generalize upd H' p (.lst us')=J at f3 f4 f5 f6 k6 ⊢;obtain⟨nw,uw,w1,w2⟩:=f2.walk;have hzu:=w1.size hrz (h6 t1 qz);refine⟨rows,t1,nw,uw,f6,f4,w1,λv' dv=>?_⟩;have hno:=w1.hnf;ext;cases uw with
  |num m=>
   obtain⟨a,rfl,hs⟩:=a2z dv;cases w2
   exists a0k hs (v:=.str numS) rfl
   rw[Zt,q4];walk_at "C";exact hnx _ _ (Trm.sizeL tb) qo ⟨us',ts0,tb,c+1,_,rfl,k6,f3,f1,by simp only[Trm.size]at h4;omega,qo,λt ht=>h6 t (by simp[ht]),qo,rfl,f5⟩
  |any x=>
   obtain⟨a,rfl,hs⟩:=a2t dv;have hx:=hno x rfl;cases w2 with
   |yes e _=>rw[hx]at e;cases e
   |no _=>
    exists a0k hs (v:=.str anyS) rfl
    rw[Zt,q5];walk_at "C";exact hnx _ _ (Trm.sizeL tb) qo ⟨us',ts0,tb,c+1,_,rfl,k6,f3,f1,by simp only[Trm.size]at h4;omega,qo,λt ht=>h6 t (by simp[ht]),qo,rfl,f5⟩
  |app sg ks=>
   obtain⟨a,b,ku,rfl,hs,hb,hk⟩:=a1q dv;cases w2 with
   | @app _ _ ls hkl=>
    have hkl2:=hk.length;rw[Trm.dataL_map,length_map]at hkl2;have hk70:ks.length<=70:=by
     have:=Trm.len_le ks;simp only[Trm.size]at hzu;omega
    exists a0k hs (v:=.str appS) rfl
    rw[Zt,q6];walk_at "D";refine⟨.inl ⟨rfl,_,SqL.of k6⟩,?_⟩;ext
    exists a0k hs (v:=.ref b) rfl
    refine mExt_t k6 hb (ln qo) ?_;simp only[Trm.size]at h4;refine hnx _ _ (Trm.sizeL (tb++ls)) (by rw[Trm.sizeL_app];simp only[Trm.size]at h8;omega) ⟨us'++ku,ts0++ks,tb++ls,c+1,_,rfl,a0c,?_,f1.append hkl,by rw[Trm.sizeL_app];omega,qo,λt ht=>?_,by rw[Zl];omega,rfl,a1c f5 hp⟩
    ·rw[Trm.dataL_map,Zo,<-Trm.dataL_map,<-Trm.dataL_map];exact(f3.append hk).lst k6
    ·rcases Yt.mp ht with z|z
     ·exact h6 t (by simp[z])
     ·exact b7f hzu t z
theorem ok_a7(T:Txt K mg t)  :FnOk P w K mg base CX0 1 t.a_a7 t.d_a7 ["sign","kids"] (b3h K):=by
 exists T.F_a7.ok sc_a7,(a0g (a0o (a0s (a0a a0v (a0a (mv 0) (a0a (a1o (b1k K rfl) rfl T.n_g3 So (a0a (mv 1) a0b)) a0b)))))),H,Q,E,hr,h
 rename_i sg p;obtain⟨us,ks,hS,hd,q⟩:=h;ext;refine mTup_l hS (λp2 hp2=>?_);have s2:=a0h hp2 (.tup us);have k2:(upd H p2 (.tup us)) p2=some (.tup us):=a0c;generalize upd H p2 (.tup us)=H2 at s2 k2 ⊢;ext;refine⟨ln (by show 3<=100000;decide),λp3 hp3=>?_⟩;have s3:=a0h hp3 (.tup [.str "app",.str sg,.ref p2]);exact q _ _ (s2.trans s3) (b0h (SqT.of a0c) (SqT.of (s3 _ _ k2)) (hd.mono (s2.trans s3)))
theorem d0t(T:Txt K mg t)(G_a5:FnOk P w K mg base CX0 1 t.a_a5 t.d_a5 ["term","puts"] (a7m K))(G_a7:FnOk P w K mg base CX0 1 t.a_a7 t.d_a7 ["sign","kids"] (b3h K))(n:Nat)(G_b8:FnOk P w K mg base CX0 (n+2) t.a_b8 t.d_b8 ["term","puts"] (a7n K n)):FnOk P w K mg base CX0 (n+2+1) t.a_b8 t.d_b8 ["term","puts"] (a7n K (n+1)):=by
 exists T.F_b8.ok (k:=n+2) b9r,(a0d (a0p (i:=2) (hs:=a1n) b9r.nd rfl (by nofun) (a0l G_a5 hr.o rfl T.m_a5 T.F_a5.kp T.b_a5 .nil a0m (a0a (mv 0) (a0a (mv 1) a0b)))) (a0d (a1d (a0z mo_ne (a0n (a0j K rfl) (mv 2) a0e (λ_ _=>rfl)) a0v (a0t _)) (a0g (a0o (mv 2))) a0u) (a0g (a0o (a0l G_a7 hr.o rfl T.m_a7 T.F_a7.kp T.b_a7 .nil a0m (a0a (a0n (a0j K rfl) (mv 2) a0e (λ_ _=>rfl)) (a0a (a5a rfl (c4i K rfl (a0n (a0j K rfl) (mv 2) a0e (λ_ _=>rfl))) (a4k (a0i b1r) ["term","puts","part"] ["term","puts","part"] rfl rfl qk) (λ_ _ _ _ _=>a4j) (λ_ _ _ _ _=>(a0l G_b8 hr.o rfl T.m_b8 T.F_b8.kp T.b_b8 .nil a0m (a0a (mv 0) (a0a (mv 2) a0b))))) a0b))))))),H,Q,E,hr,h
 rename_i v pd;obtain⟨rows,t0,t',hP0,hd,hf,hz,hn,q⟩:=h;obtain⟨nw,u,w1,w2⟩:=hf.walk;have hno:=w1.hnf;ext;refine⟨rows,t0,nw,u,hP0,hd,w1,λx dx=>?_⟩;ext;cases u with
 |num m=>
  obtain⟨a,rfl,hs⟩:=a2z dx;cases w2
  exists a0k hs (v:=.str numS) rfl
  refine iteB (λe=>?_) (λe=>absurd e qk);ext;exact q _ _ (Same.refl _) dx
 |any y=>
  obtain⟨a,rfl,hs⟩:=a2t dx;have hy:=hno y rfl;cases w2 with
  |yes e _=>rw[hy]at e;cases e
  |no _=>
   exists a0k hs (v:=.str anyS) rfl
   refine iteB (λe=>?_) (λe=>absurd e qk);ext;exact q _ _ (Same.refl _) dx
 |app sg ks=>
  obtain⟨a,b,us,rfl,hs,hb,hk⟩:=a1q dx;cases w2 with
  | @app _ _ ls hkl=>
   have hl:=hk.length;rw[Trm.dataL_map,length_map]at hl;have hll:=hkl.len;have hls:=Trm.len_le ls;simp only[Trm.size]at hz
   exists a0k hs (v:=.str appS) rfl
   refine iteB (λe=>absurd e qk) (λe=>?_);ext
   exists a0k hs (v:=.str sg) rfl
   refine a0k hs (v:=.ref b) rfl ?_;refine⟨b,rfl,⟨_,hb⟩,λD hD=>?_⟩;refine a3q (c4f (xs:=us)) (λi ys J=>Same H J/\DenL K J ys (Trm.dataL (ls.take i))/\J D=some (.lst ys)) (ln qo) ⟨a0h hD _,.nil,a0c⟩ (λi ys J hP=>hP.1.tup hb) (λi ys J Q' hi' hl' hP k=>?_) (λys J hl' hP=>?_)
   ·obtain⟨g1,g2,g3⟩:=hP;have hki:i<ks.length:=by omega
    have hx:us[i]? =some us[i]:=Zj hi'
    have hg:us.getD i .non=us[i]:=by rw[Z2,hx];rfl
    obtain⟨d,e1,e2⟩:=hk.get hx;rw[Trm.dataL_map,Yk,Zj hki]at e1;have e1:ks[i].data=d:=Zw e1;subst e1;obtain⟨l,l1,l2⟩:=hkl.get (Zj hki);have lz:=c2j l1;ext;rw[hg];refine⟨rows,ks[i],l,hP0.mono g1,e2.mono g1,l2,qo,qo,λx J2 s2 dx=>?_⟩;refine k _ _ (s2 _ _ g3) ⟨a1c (g1.trans s2) hD,?_,a0c⟩;rw[Us,l1,Trm.dataL_map,Zo,<-Trm.dataL_map];exact((g2.mono s2).append (.cons dx .nil)).lst (s2 _ _ g3)
   obtain⟨g1,g2,g3⟩:=hP;rw[Yo qo]at g2;ext;exact⟨ys,ls,SqL.of g3,g2,λr J2 s2 d2=>q _ _ (g1.trans s2) d2⟩
theorem d0u(T:Txt K mg t)(G_a5:FnOk P w K mg base CX0 1 t.a_a5 t.d_a5 ["term","puts"] (a7m K))(G_a7:FnOk P w K mg base CX0 1 t.a_a7 t.d_a7 ["sign","kids"] (b3h K))(n:Nat):FnOk P w K mg base CX0 (n+2) t.a_b8 t.d_b8 ["term","puts"] (a7n K n):=by
 induction n with
 |zero=>
  have no:∀vs H Q E,(a7n K 0) vs H Q E->False:=λvs H Q E h=>by
   revert vs
   walk_at "in";exactλh=>c9q h
  exact⟨λvs H Q E h=>(no vs H Q E h).elim,λA outer s H args us vs Q E _ _ _ _ h=>(no vs H Q E h).elim⟩
 |succ n ih=>
  have e:n+1+2=n+2+1:=by omega
  rw[e];exact d0t T G_a5 G_a7 n ih
theorem b9c(T:Txt K mg t)(G_b8:FnOk P w K mg base CX0 42 t.a_b8 t.d_b8 ["term","puts"] (a7n K 40))(G_c1:FnOk P w K mg base CX0 2 t.a_c1 t.d_c1 ["term","puts","most"] (a6z K))(G_c5:FnOk P w K mg base CX0 1 t.a_c5 t.d_c5 ["self","words","row"] (a4s K)):FnOk P w K mg base (CXo P w) 43 t.a_b9 t.d_b9 ["term","puts"] (a7a K t.k_c3):=by
 exists T.F_b9.okX b8p,(a0d (a1d (a0z b3y (a0l G_c1 hr.o rfl T.m_c1 T.F_c1.kp T.b_c1 .nil a0m (a0a (mv 0) (a0a (mv 1) (a0a (a8f rfl T.m_g2) a0b)))) (a8f rfl T.m_g2) (a0t _)) (a0g (d2b rfl xeOk_cx (d2a T.mk_c3 G_c5 hr.o rfl T.m_c3 T.bd_c5 (show Vals [V.int 0] [Value.int 0 t.w_c5_0]from(.cons ⟨_,rfl⟩ .nil)) a0m (a0a (pe_f3i (a8f rfl T.m_g2)) a0b)))) a0u) (a0g (a0o (a0l G_b8 hr.o rfl T.m_b8 T.F_b8.kp T.b_b8 .nil a0m (a0a (mv 0) (a0a (mv 1) a0b)))))),H,Q,E,hr,h
 rename_i v pd;obtain⟨rows,t0,t',hP0,hd,hf,hz,hrz,q⟩:=h;ext;refine⟨rows,t0,t',hP0,hd,hf,hz,hrz,qo,qo,λH1 s1=>?_⟩;ext
 by_cases h40:t'.size<=40
 ·rw[Ye h40]at q;have q:∀x H',Same H H'->Den K H' x t'.data->Q x H':=q;refine iteB (λe=>by have:=Z8 e;unfold upTo at this;rw[if_pos qo]at this;omega) (λe=>?_);ext;exact⟨rows,t0,t',hP0.mono s1,hd.mono s1,hf,h40,qo,λx J s2 dx=>q x J (s1.trans s2) dx⟩
 ·rw[Z3 h40]at q;have q:onX H t.k_c3 E:=q;refine iteB (λe=>?_) (λe=>by have:=Xx e;unfold upTo at this;rw[if_neg qo]at this;omega);ext;refine⟨40,rfl,qk,qk,λz=>?_⟩;ext;refine⟨qz,λea hea=>?_⟩;refine⟨t.k_c3,_,true,T.x_c3,T.u_c3,T.at_c3,T.no_c3_row,a0c,λH9 b9=>⟨rfl,?_⟩⟩;obtain⟨dx9,h91,h92,h93⟩:=c5q hea (Same.refl _) hea b9;refine⟨ea,t.k_c3,dx9,_,rfl,T.x_c3,h91,?_⟩;exact q ea _ (s1.trans h93) h92
theorem d0v(T:Txt K mg t)  :FnOk P w K mg base CX0 1 t.a_b4 t.d_b4 ["term"] (b9u K):=by
 exists T.F_b4.ok c9m,(a0d (a1d (a0z a2b (a0n (a0j K rfl) (mv 0) a0e (λ_ _=>rfl)) a0v (a0t _)) (a0g (a0o (a0s (a0a a0v (a0a (a0n (a0j K rfl) (mv 0) a0e (λ_ _=>rfl)) a0b))))) a0u) (a0d (a1d (a0z a2b (a0n (a0j K rfl) (mv 0) a0e (λ_ _=>rfl)) a0v (a0t _)) (a0g (a0o (a0s (a0a a0v (a0a (a0n (a0j K rfl) (mv 0) a0e (λ_ _=>rfl)) (a0a (a1s (a2x K rfl) rfl T.n_f4 Yw (a0a (a0n (a0j K rfl) (mv 0) a0e (λ_ _=>rfl)) a0b)) a0b)))))) a0u) (a0g (a0o a5i)))),H,Q,E,hr,h
 rename_i v;obtain⟨t0,hd,q⟩:=h;cases t0 with
 |num m=>
  obtain⟨a,rfl,hs⟩:=a2z hd;ext
  exists a0k hs (v:=.str numS) rfl
  rw[Zt,q7];walk_at "D"
  exists a0k hs (v:=.int m) rfl
  exact⟨ln (by show 2<=100000;decide),λp hp=>q p _ (a0h hp _) a0c⟩
 |any y=>
  obtain⟨a,rfl,hs⟩:=a2t hd;ext
  exists a0k hs (v:=.str anyS) rfl
  refine iteB (λe=>absurd e qk) (λe=>?_);ext
  exists a0k hs (v:=.str anyS) rfl
  refine iteB (λe=>absurd e qk) (λe=>?_);ext;exact q
 |app sg ks=>
  obtain⟨a,b,us,rfl,hs,hb,hk⟩:=a1q hd;have hl:=hk.length;rw[Trm.dataL_map,length_map]at hl;ext
  exists a0k hs (v:=.str appS) rfl
  refine iteB (λe=>absurd e qk) (λe=>?_);ext
  exists a0k hs (v:=.str appS) rfl
  refine iteB (λe=>?_) (λe=>absurd e qk);ext
  exists a0k hs (v:=.str sg) rfl
  exists a0k hs (v:=.ref b) rfl
  exists b6r hb
  refine⟨ln (by show 3<=100000;decide),λp hp=>q p _ (a0h hp _) ?_⟩;rw[hl];exact a0c
theorem b3r(T:Txt K mg t)  :FnOk P w K mg base CX0 1 t.a_c5 t.d_c5 ["self","words","row"] (a4s K):=by
 exists T.F_c5.ok b3b,a4s,(a0d (a1m (d1z rfl T.n_h6 (a0a (mv 0) (a0a (mv 1) a0b)))) (a0g (ps_xset (mv 0) (mv 2)))),H,Q,E,hr,h
 try dsimp only[zxN,zxK]
 rename_i e v r;obtain⟨C,bm,fr,Xc,U,Xa,n1,hx,q⟩:=h;ext;refine⟨e,C,none,fr,bm,v,rfl,hx,Xc,?_⟩;ext;refine⟨e,C,bm,fr,rfl,Xc,U,Xa,n1,.inl ⟨hx,λdx hdx hne=>?_⟩⟩;refine q _ ⟨⟨dx,hdx,hne,a0c,by rw[a0f hne];exact a0c⟩,λb hb o ho=>?_⟩;rw[a0f hb,a0f (λz=>by rw[z,hdx]at ho;cases ho)];exact ho
end
section
variable{P:Program}{w:World}{K:W.Frag}{mg:Str->Option Value}{base:Heap}{t:Ad}
theorem nw34{A B:Hp}{p:Addr}{o:HO}(h:A p=none)(e:upd A p o=B):Same A B/\B p=some o:=by
 subst e;exact⟨a0h h _,a0c⟩
theorem c3v(T:Txt K mg t)(G_d6:FnOk P w K mg base CX0 74 t.a_d6 t.d_d6 ["rules"] (b7l K))(G_b0:FnOk P w K mg base CX0 1 t.a_b0 t.d_b0 ["terms"] (a5e K))(G_a8:FnOk P w K mg base CX0 73 t.a_a8 t.d_a8 ["terms"] (a6l K))(G_b3:FnOk P w K mg base CX0 1 t.a_b3 t.d_b3 ["name"] (a8b K)):FnOk P w K mg base CX0 75 t.a_f6 t.d_f6 ["self","rules","goals","bound","most"] (b4x K t.k_a0 t.k_a2):=by
 exists T.F_f6.ok c3p,(a0d (a1i (mv 0) (a0l G_d6 hr.o rfl T.m_d6 T.F_d6.kp T.b_d6 .nil a0m (a0a (mv 1) a0b)) rfl) (a0d (a1i (mv 0) (mv 3) rfl) (a0d (a1i (mv 0) (mv 4) rfl) (a0d (a1i (mv 0) (a0l G_b0 hr.o rfl T.m_b0 T.F_b0.kp T.b_b0 .nil a0m (a0a (mv 2) a0b)) rfl) (a0d (a1i (mv 0) (a0l G_a8 hr.o rfl T.m_a8 T.F_a8.kp T.b_a8 .nil a0m (a0a (a5a rfl (a2e K rfl (a0r (mv 0) rfl)) (a4k (a0i a6f) ["self","rules","goals","bound","most"] ["self","rules","goals","bound","most"] rfl rfl qk) (λ_ _ _ _ _=>a4j) (λ_ _ _ _ _=>(a0l G_b3 hr.o rfl T.m_b3 T.F_b3.kp T.b_b3 .nil a0m (a0a (mv 0) a0b)))) a0b)) rfl) (a0d (a1i (mv 0) (a5a rfl (a2e K rfl (a0l G_a8 hr.o rfl T.m_a8 T.F_a8.kp T.b_a8 .nil a0m (a0a (mv 2) a0b))) (a4k (a0i a6f) ["self","rules","goals","bound","most"] ["self","rules","goals","bound","most"] rfl rfl qk) (λ_ _ _ _ _=>a4j) (λ_ _ _ _ _=>(a0s (a0a (mv 0) (a0a a0e a0b))))) rfl) (a0d (a1i (mv 0) (a1e a0b) rfl) (a0d (a1i (mv 0) a5p rfl) (a0d (a1i (mv 0) (a1e a0b) rfl) (a0d (a1i (mv 0) (a1e a0b) rfl) (a0d (a1i (mv 0) a5p rfl) (a0d (a1i (mv 0) a0e rfl) (a0d (a1i (mv 0) a0e rfl) (a0d (a1i (mv 0) (a1e a0b) rfl) (a0g (a1i (mv 0) a5i rfl)))))))))))))))),H,Q,E,hr,h
 rename_i r ra ga bd1 ms1;obtain⟨H0,dx,ur,ug,rs,gs,hr0,sm0,f0,hS,hdr,hok,hl,hG,hdg,hgz,hgl,q⟩:=h;have hgz2:=c2m hgz;have hgz3:gs.length*60<=10*60:=X9 _ hgl;have hol:=b1n gs [];rw[length_nil,Wq]at hol;ext;refine⟨ur,rs,sm0.seq hS,hdr.mono sm0,hok,hl,λp1 kvs A1 a1 hp1 kp1 tb1=>?_⟩;have hrA:=a1 _ _ hr0;have smA:=sm0.trans a1;ext;refine sZ hrA T.cl_a0 T.no_a0_rules qz ?_;refine zP hrA (by show(roN.take 0).all _=true;decide+kernel) f0 smA λB1 bt0 hrA smA=>?_
 ext;refine sZ hrA T.cl_a0 T.no_a0_bound qz ?_;refine zP hrA (by show(roN.take 1).all _=true;decide+kernel) f0 smA λB2 bt1 hrA smA=>?_
 ext;refine sZ hrA T.cl_a0 T.no_a0_most qz ?_;refine zP hrA (by show(roN.take 2).all _=true;decide+kernel) f0 smA λB3 bt2 hrA smA=>?_
 ext;refine⟨ug,gs,smA.seq hG,hdg.mono smA,qo,λp4 A4 s4 hp4 kp4=>?_⟩;have hr0':=hrA;have hrA:=s4 _ _ hrA;have hr4:=hrA;have smA:=smA.trans s4;ext;refine sZ hrA T.cl_a0 T.no_a0_names qz ?_;refine zP hrA (by show(roN.take 3).all _=true;decide+kernel) f0 smA λB4 bt3 hrA smA=>?_
 ext
 exists zG hrA T.cl_a0 T.no_a0_names (a2h (i:=3) (by show(roN.take 4).findIdx? _=_;decide+kernel) rfl)
 have kpB4:=bt3 _ _ (Ne.symm (a0w hr0' hp4)) kp4;refine⟨p4,rfl,⟨_,SqL.of kpB4⟩,λD hD=>?_⟩;refine a3q (a2d (xs:=(ordL gs []).map V.str)) (λi ys J=>Same B4 J/\J D=some (.lst ys)/\DenL K J ys (Trm.dataL (((ordL gs []).take i).map Trm.any))) (ln (by rw[length_map];omega)) ⟨a0h hD _,a0c,.nil⟩ (λi ys J hP=>SqL.of (hP.1 _ _ kpB4)) (λi ys J Q' hi hl' hP k=>?_) (λys J hl' hP=>?_)
 ·obtain⟨f1,f2,f3⟩:=hP;rw[length_map]at hi;rw[b2u hi];ext;refineλv J2 s2 d2=>?_
  have g6:=s2 _ _ f2;refine k _ _ g6 ⟨a1c (f1.trans s2) hD,a0c,?_⟩;rw[take_succ' hi,Zo,a4w];exact((f3.mono s2).append (.cons d2 .nil)).lst g6
 obtain⟨f1,f2,f3⟩:=hP;rw[length_map,Yx]at f3;have hrA:=f1 _ _ hrA;have smA:=smA.trans f1;ext;have hzz:Trm.sizeL ((ordL gs []).map Trm.any)=(ordL gs []).length:=by
  generalize ordL gs []=l
  induction l with
  |nil=>rfl
  |cons x l ih=>rw[Z5,Trm.sizeL,ih,length_cons,Trm.size];omega
 refine⟨ys,_,SqL.of f2,f3,by rw[hzz];omega,λt ht=>by obtain⟨x,_,rfl⟩:=Ys.mp ht;show 1<=70;decide,λp5 us5 A5 s5 hp5 kp5 d5=>?_⟩;have b45:But r B4 A5:=sbut (f1.trans s5);have hrA:=s5 _ _ hrA;have hr5:=hrA;have smA:=smA.trans s5;ext;refine sZ hrA T.cl_a0 T.no_a0_asked qz ?_;refine zP hrA (by show(roN.take 4).all _=true;decide+kernel) f0 smA λB5 bt4 hrA smA=>?_
 ext;refine⟨ug,gs,smA.seq hG,hdg.mono smA,qo,λg hg=>by have:=hgz g hg;omega,λpg ugn A6 s6 hpg kpg d6=>?_⟩;have hun:=a3b d6;rw[b2d]at hun;refine⟨pg,rfl,⟨_,SqL.of kpg⟩,λD2 hD2=>?_⟩;refine a3q (a2d (xs:=ugn)) (λi ys J=>Same A6 J/\J D2=some (.lst ys)/\DenL K J ys ((((anew gs).take i).map λg=>(g,0)).map tdE)) (ln qo) ⟨a0h hD2 _,a0c,.nil⟩ (λi ys J hP=>SqL.of (hP.1 _ _ kpg)) (λi ys J Q' hi hl' hP k=>?_) (λys6 J6 hl' hP=>?_)
 ·obtain⟨f1,f2,f3⟩:=hP;have hki:i<(anew gs).length:=by rw[b2d];omega
  obtain⟨hui,dk⟩:=a5t d6 hki;rw[getD_at hui];ext;refine⟨ln (by show 2<=100000;decide),λp7 hp7=>?_⟩;have s7:=a0h hp7 (.tup [ugn[i],.int 0]);have g6:=s7 _ _ f2;refine k _ _ g6 ⟨a1c (f1.trans s7) hD2,a0c,?_⟩;rw[take_succ' hki,Zo,Zo];exact((f3.mono s7).append (.cons (.tup (SqT.of a0c) (.cons ((dk.mono f1).mono s7) (.cons (.int _) .nil))) .nil)).lst g6
 obtain⟨g1,g2,g3⟩:=hP;rw[Yo (by rw[b2d];omega)]at g3;have b56:But r B5 J6:=sbut (s6.trans g1);have hrA:=(s6.trans g1) _ _ hrA;have hr6:=hrA;have smA:=smA.trans (s6.trans g1);ext;refine sZ hrA T.cl_a0 T.no_a0_todo qz ?_;refine zP hrA (by show(roN.take 5).all _=true;decide+kernel) f0 smA λB6 bt5 hrA smA=>?_
 ext;refine⟨Z0 _,λp7 hp7=>?_⟩;generalize e9:upd B6 p7 _=C6;obtain⟨s9,kp7⟩:=nw34 hp7 e9;clear e9;have bs6:But r B6 C6:=sbut s9;have nrp7:p7≠r:=λz=>by rw[z,hrA]at hp7;cases hp7
 have h0p7:H0 p7=none:=a1k smA hp7;have hrA:=s9 _ _ hrA;have smA:=smA.trans s9;clear s9;ext;refine sZ hrA T.cl_a0 T.no_a0_numbers qz ?_;refine zP hrA (by show(roN.take 6).all _=true;decide+kernel) f0 smA λB7 bt6 hrA smA=>?_
 have bb6:=But.trans bs6 bt6;have b17:But r A1 B7:=bt0.trans (bt1.trans (bt2.trans ((sbut s4).trans (bt3.trans (b45.trans (bt4.trans (b56.trans (bt5.trans bb6))))))));have hrA1:=a1 _ _ hr0;have np1:p1≠r:=λz=>by rw[z,hr0]at hp1;cases hp1
 have e1:B7 p1=some (.dT kvs):=b17 _ _ np1 kp1;have w1:Tab K B7 [] kvs (tabOf rs):=Paired.mapP tb1 λ_ _ z=>⟨z.1,z.2.kl2 (bkl b17 hrA1) (bkt b17 hrA1) (λm hm=>by simp at hm)⟩
 have b47:But r A4 B7:=bt3.trans (b45.trans (bt4.trans (b56.trans (bt5.trans bb6))));have e4:B7 p4=some (.lst ((ordL gs []).map V.str)):=bkl b47 hr4 _ _ kp4;have b57:But r A5 B7:=bt4.trans (b56.trans (bt5.trans bb6));have w5:Dm K B7 [] (.ref p5) (.list (Trm.dataL (anew ((ordL gs []).map Trm.any)))):=.lst (bkl b57 hr5 _ _ kp5) qz ((a5x _).mpr (d5.monoT (bkt b57 hr5)));have b67:But r J6 B7:=bt5.trans bb6;have w6:Dm K B7 [] (.ref D2) (tdD ((anew gs).map λg=>(g,0))):=.lst (bkl b67 hr6 _ _ g2) qz (DenL.dm (g3.monoT (bkt b67 hr6)));have w7:Dm K B7 [] (.ref p7) (nbD []):=.lst (bt6 _ _ nrp7 kp7) qz .nil;have hr7:=hrA;ext;intro p8 hp8;generalize e9:upd B7 p8 _=C7;obtain⟨s9,kp8⟩:=nw34 hp8 e9;clear e9;have bs7:But r B7 C7:=sbut s9;have nrp8:p8≠r:=λz=>by rw[z,hrA]at hp8;cases hp8
 have h0p8:H0 p8=none:=a1k smA hp8;have hrA:=s9 _ _ hrA;have smA:=smA.trans s9;clear s9;ext;refine sZ hrA T.cl_a0 T.no_a0_puts qz ?_;refine zP hrA (by show(roN.take 7).all _=true;decide+kernel) f0 smA λB8 bt7 hrA smA=>?_
 have bb7:=But.trans bs7 bt7;ext;refine⟨Z0 _,λp9 hp9=>?_⟩;generalize e9:upd B8 p9 _=C8;obtain⟨s9,kp9⟩:=nw34 hp9 e9;clear e9;have bs8:But r B8 C8:=sbut s9;have nrp9:p9≠r:=λz=>by rw[z,hrA]at hp9;cases hp9
 have h0p9:H0 p9=none:=a1k smA hp9;have hrA:=s9 _ _ hrA;have smA:=smA.trans s9;clear s9;ext;refine sZ hrA T.cl_a0 T.no_a0_noted qz ?_;refine zP hrA (by show(roN.take 8).all _=true;decide+kernel) f0 smA λB9 bt8 hrA smA=>?_
 have bb8:=But.trans bs8 bt8;ext;refine⟨Z0 _,λpa hpa=>?_⟩;generalize e9:upd B9 pa _=C9;obtain⟨s9,kpa⟩:=nw34 hpa e9;clear e9;have bs9:But r B9 C9:=sbut s9;have nrpa:pa≠r:=λz=>by rw[z,hrA]at hpa;cases hpa
 have h0pa:H0 pa=none:=a1k smA hpa;have hrA:=s9 _ _ hrA;have smA:=smA.trans s9;clear s9;ext;refine sZ hrA T.cl_a0 T.no_a0_left qz ?_;refine zP hrA (by show(roN.take 9).all _=true;decide+kernel) f0 smA λBa bt9 hrA smA=>?_
 have bb9:=But.trans bs9 bt9;ext;intro pb hpb;generalize e9:upd Ba pb _=C10;obtain⟨s9,kpb⟩:=nw34 hpb e9;clear e9;have bs10:But r Ba C10:=sbut s9;have nrpb:pb≠r:=λz=>by rw[z,hrA]at hpb;cases hpb
 have h0pb:H0 pb=none:=a1k smA hpb;have hrA:=s9 _ _ hrA;have smA:=smA.trans s9;clear s9;ext;refine sZ hrA T.cl_a0 T.no_a0_nots qz ?_;refine zP hrA (by show(roN.take 10).all _=true;decide+kernel) f0 smA λBb bt10 hrA smA=>?_
 have bb10:=But.trans bs10 bt10;ext;refine sZ hrA T.cl_a0 T.no_a0_uses qz ?_;refine zP hrA (by show(roN.take 11).all _=true;decide+kernel) f0 smA λBc bt11 hrA smA=>?_
 ext;refine sZ hrA T.cl_a0 T.no_a0_count qz ?_;refine zP hrA (by show(roN.take 12).all _=true;decide+kernel) f0 smA λBd bt12 hrA smA=>?_
 ext;refine⟨Z0 _,λpe hpe=>?_⟩;generalize e9:upd Bd pe _=C13;obtain⟨s9,kpe⟩:=nw34 hpe e9;clear e9;have bs13:But r Bd C13:=sbut s9;have nrpe:pe≠r:=λz=>by rw[z,hrA]at hpe;cases hpe
 have h0pe:H0 pe=none:=a1k smA hpe;have hrA:=s9 _ _ hrA;have smA:=smA.trans s9;clear s9;ext;refine sZ hrA T.cl_a0 T.no_a0_answers qz ?_;refine zP hrA (by show(roN.take 13).all _=true;decide+kernel) f0 smA λBe bt13 hrA smA=>?_
 have bb13:=But.trans bs13 bt13;ext;refine sZ hrA T.cl_a0 T.no_a0_end qz ?_;refine zP hrA (by show(roN.take 14).all _=true;decide+kernel) f0 smA λBf bt14 hrA smA=>?_
 ext;have c7f:But r B7 Bf:=bb7.trans (bb8.trans (bb9.trans (bb10.trans (bt11.trans (bt12.trans (bb13.trans bt14))))));have c8f:But r B8 Bf:=bb8.trans (bb9.trans (bb10.trans (bt11.trans (bt12.trans (bb13.trans bt14)))));have c9f:But r B9 Bf:=bb9.trans (bb10.trans (bt11.trans (bt12.trans (bb13.trans bt14))));have caf:But r Ba Bf:=bb10.trans (bt11.trans (bt12.trans (bb13.trans bt14)));have cbd:But r Ba Bd:=bb10.trans (bt11.trans bt12);have nM:∀m∈[r,p8,p9,pa,pe],∀us,B7 m≠some (.lst us):=λm hm us z=>by
  simp only[Zu,Z6,Xm]at hm;have z9:B9 p9=some (.lst []):=bt8 _ _ nrp9 kp9;rcases hm with rfl|rfl|rfl|rfl|rfl
  ·rw[hr7]at z;cases z
  ·rw[hp8]at z;cases z
  ·rw[b5v bb7 hp9 nrp9]at z;cases z
  ·rw[b5v (bb7.trans bb8) hpa nrpa]at z;cases z
  ·rw[b5v (bb7.trans (bb8.trans (bb9.trans cbd))) hpe nrpe]at z;cases z
 have k9f:Bf p9=some (.lst []):=(bt8.trans c9f) _ _ nrp9 kp9;have kaf:Bf pa=some (.lst []):=(bt9.trans caf) _ _ nrpa kpa;have kef:Bf pe=some (.lst []):=(bt13.trans bt14) _ _ nrpe kpe;have k8f:Bf p8=some (.dK []):=(bt7.trans c8f) _ _ nrp8 kp8;have nn1:p9≠pa:=λz=>by rw[<-z,bt8 _ _ nrp9 kp9]at hpa;cases hpa
 have nn2:p9≠pe:=λz=>by rw[<-z,(bt8.trans (bb9.trans cbd)) _ _ nrp9 kp9]at hpe;cases hpe
 have nn3:pa≠pe:=λz=>by rw[<-z,(bt9.trans cbd) _ _ nrpa kpa]at hpe;cases hpe
 refine q ⟨p1,bd1,ms1,p4,p5,D2,p7,p8,p9,pa,pb,0,0,pe,.non⟩ Bf ⟨smA,hrA,f0,h0p8,h0p9,h0pa,h0pe,nn1,nn2,nn3,⟨kvs,c7f _ _ np1 e1,Paired.mapP w1 λ_ _ z=>⟨z.1,z.2.kl2 (bkl c7f hr7) (bkt c7f hr7) nM⟩⟩,rfl,rfl,⟨bkl c7f hr7 _ _ e4,λz=>nM _ z _ e4⟩,w5.kl2 (bkl c7f hr7) (bkt c7f hr7) nM,w6.kl2 (bkl c7f hr7) (bkt c7f hr7) nM,w7.kl2 (bkl c7f hr7) (bkt c7f hr7) nM,⟨[],k8f,.nil⟩,k9f,⟨[],kaf,.nil⟩,⟨[],kef,.nil⟩,rfl,rfl,.non⟩
end
section
variable{P:Program}{w:World}{K:W.Frag}{mg:Str->Option Value}{base:Heap}{t:Ad}
theorem c3w(T:Txt K mg t)  :FnOk P w K mg base CX0 1 t.a_c7 t.d_c7 ["self","lefts","rights"] (a9w K t.k_a4):=by
 exists T.F_c7.ok c3n,(a0d (a1i (mv 0) (mv 1) rfl) (a0d (a1i (mv 0) (mv 2) rfl) (a0g (a1i (mv 0) a0e rfl)))),H,Q,E,hr,h
 rename_i r a b;obtain⟨dr,hx,q⟩:=h;ext
 exists sZ hx T.cl_a4 T.no_a4_lefts qz
 exists sZ a0c T.cl_a4 T.no_a4_rights (a1y a6m)
 refine sZ a0c T.cl_a4 T.no_a4_taken (a1y (a1y a6m)) ?_;refine q _ (λc o hc ho=>?_) a0c;rw[a0f hc,a0f hc,a0f hc];exact ho
theorem b7w(T:Txt K mg t)  :FnOk P w K mg base CX0 1 t.a_f7 t.d_f7 ["self","puts","noted"] (a9h K t.k_a1):=by
 exists T.F_f7.ok b7b,(a0d (a1i (mv 0) (mv 1) rfl) (a0d (a1i (mv 0) (mv 2) rfl) (a0d (a1i (mv 0) (a1e a0b) rfl) (a0g (a1i (mv 0) a5p rfl))))),H,Q,E,hr,h
 rename_i j pd nl;obtain⟨dx,hx,q⟩:=h;ext
 exists sZ hx T.cl_a1 T.no_a1_puts qz
 exists sZ a0c T.cl_a1 T.no_a1_noted (a1y a6m)
 refine⟨Z0 _,λrl hrl=>?_⟩;have njr:j≠rl:=λz=>by rw[<-z,a0c]at hrl;cases hrl
 have hrl0:H rl=none:=by rw[a0f (Ne.symm njr),a0f (Ne.symm njr)]at hrl;exact hrl
 ext
 exists sZ (by rw[a0f njr];exact a0c) T.cl_a1 T.no_a1_rows (a1y (a1y a6m))
 intro md hmd;have njm:j≠md:=λz=>by rw[<-z,a0c]at hmd;cases hmd
 rw[a0f (Ne.symm njm)]at hmd;have nrm:rl≠md:=λz=>by rw[<-z,a0c]at hmd;cases hmd
 have hmd0:H md=none:=by rw[a0f (Ne.symm nrm),a0f (Ne.symm njm),a0f (Ne.symm njm)]at hmd;exact hmd
 ext;refine sZ (by rw[a0f njm];exact a0c) T.cl_a1 T.no_a1_met (a1y (a1y (a1y a6m))) ?_;refine q rl md _ hrl0 hmd0 nrm (λc o hc ho=>?_) a0c ?_ ?_
 ·have c1:c≠rl:=a0w ho hrl0;have c2:c≠md:=a0w ho hmd0;rw[a0f hc,a0f c2,a0f hc,a0f c1,a0f hc,a0f hc];exact ho
 ·rw[a0f (Ne.symm njr),a0f nrm,a0f (Ne.symm njr)];exact a0c
 ·rw[a0f (Ne.symm njm)];exact a0c
theorem b7x(T:Txt K mg t)  :FnOk P w K mg base CX0 1 t.a_c4 t.d_c4 ["self"] (a6n K t.k_a1 t.k_a4):=by
 exists T.F_c4.ok b7c,(a0g (a0o (a1o (b1k K rfl) rfl T.n_g3 So (a0a (a5a rfl (a2e K rfl (a5o (a6u K rfl) (a0r (mv 0) rfl) (a6s a0e) a6q)) (a4k (a0i a5b) ["self"] ["self"] rfl rfl qk) (λ_ _ _ _ _=>a4j) (λ_ _ _ _ _=>(a1h b6k (c1x K rfl (mv 0) rfl) a0e))) a0b)))),H,Q,E,hr,h
 rename_i j;obtain⟨H0,dx,pd,nl,rl,md,me,rows,rs,js,hl,q⟩:=h;ext
 exists zG js.o T.cl_a1 T.no_a1_rows a7b
 refine⟨rl,_,rfl,SqL.of js.rws,λp hp=>?_⟩;rw[b1v _ 1 qd,show(rs.map λq=>V.ref q.r).drop (1:Int).toNat=rs.tail.map λq=>V.ref q.r by rw[<-List.map_drop];simp];have sp:Same H (upd H p (.lst (rs.tail.map λq=>V.ref q.r))):=a0h hp _;have kp:(upd H p (.lst (rs.tail.map λq=>V.ref q.r))) p=some (.lst (rs.tail.map λq=>V.ref q.r)):=a0c;generalize upd H p (.lst (rs.tail.map λq=>V.ref q.r))=H1 at sp kp ⊢;ext;refine⟨p,rfl,⟨_,SqL.of kp⟩,λD hD=>?_⟩;have hlt:rs.tail.length<=50:=by rw[List.length_tail];omega
 refine a3q (a2d (xs:=rs.tail.map λq=>V.ref q.r)) (λi ys H'=>Same H1 H'/\ys=((rs.tail.take i).map λq=>q.k-1).map V.int/\H' D=some (.lst ys)) (ln (by rw[length_map];omega)) ⟨a0h hD _,rfl,a0c⟩ (λi ys H' hP=>SqL.of (hP.1 _ _ kp)) (λi ys H' Q' hi hl' hP k=>?_) (λys H' hl' hP=>?_)
 ·obtain⟨g1,g2,g3⟩:=hP;rw[length_map]at hi;have hx:(rs.tail.map λq=>V.ref q.r).getD i .non=.ref (rs.tail[i]).r:=by
   rw[Z2,Yk,Zj hi];rfl
  rw[hx];have hm:rs.tail[i]∈rs:=List.mem_of_mem_tail (Yq hi);have ho:=(sp.trans g1) _ _ (js.ro _ hm).1;ext
  exists zG ho T.cl_a4 T.no_a4_taken a7p
  refine k _ _ g3 ⟨a1c g1 hD,?_,a0c⟩;rw[g2,Us,Zj hi,Zo,Zo];rfl
 ·obtain⟨g1,g2,g3⟩:=hP;rw[length_map,Yo (Zn _)]at g2;ext;rw[g2]at g3;refine⟨D,_,rfl,.inl ⟨SqL.of g3,λl hl2=>?_⟩⟩;exact q l _ ((sp.trans g1).trans (a0h hl2 _)) (SqT.of a0c)
theorem b6c(T:Txt K mg t)  :FnOk P w K mg base CX0 1 t.a_d7 t.d_d7 ["name","term","puts"] (a8s K):=by
 exists T.F_d7.ok a4g,(a0d (a0p (i:=3) a4g.nd rfl (by nofun) a5p) (a0d (a0p (i:=4) (hs:=a3x) a4g.nd rfl (by nofun) (a1e (a0a (mv 1) a0b))) (a0d (a5n Yj (a2k K rfl (mv 4)) (a0d (a0p (i:=5) (hs:=a1n) a4g.nd rfl (by nofun) (b0f K rfl Z4 W7 Vk b0e (mv 4))) (a0d (a1d (a0z (c8r K rfl (a2y hr)) (mv 5) (a0s (a0a a0v (a0a (mv 0) a0b))) (a0t _)) (a0g (a0o a4b)) a0u) (a0g (a1d (a0z a2b (a0n (a0j K rfl) (mv 5) a0e (λ_ _=>rfl)) a0v (a0t _)) (a0g (a1m (a2p K rfl Z4 Vo Tt (b2p K rfl) (mv 4) (a0a (a0n (a0j K rfl) (mv 5) a0e (λ_ _=>rfl)) a0b)))) (a0g (a1d (PW.pt (a8j (a0z a2b (a0n (a0j K rfl) (mv 5) a0e (λ_ _=>rfl)) a0v (a0t _)) (a8j (a0z (c8d (a5l hr)) (a0n (a0j K rfl) (mv 5) a0e (λ_ _=>rfl)) (mv 2) (by with_unfolding_all rfl)) (a9x (a0z (ko_ninD (a5l hr)) (a0n (a0j K rfl) (mv 5) a0e (λ_ _=>rfl)) (mv 3) (by with_unfolding_all rfl)))))) (a0d (b0c (a5l hr) (mv 3) (a0n (a0j K rfl) (mv 5) a0e (λ_ _=>rfl)) a4b rfl) (a0g (a1m (a2p K rfl Z4 Yv Y1 a2j (mv 4) (a0a (b8c (a5l hr) (mv 2) (a0n (a0j K rfl) (mv 5) a0e (λ_ _=>rfl)) (λ_ _=>rfl)) a0b))))) a0u))))))) (a0g (a0o a4b))))),H,Q,E,hr,h
 rename_i x v pd;obtain⟨t0,rows,hd,hP,hc,q⟩:=h;ext;intro se hse;have ss:Same H (upd H se (.dK [])):=a0h hse _;generalize upd H se (.dK [])=Hs at ss ⊢;ext;refine⟨ln (by show 1<=100000;decide),λp hp=>?_⟩;have sp:Same Hs (upd Hs p (.lst [v])):=a0h hp _;have kp:(upd Hs p (.lst [v])) p=some (.lst [v]):=a0c;generalize upd Hs p (.lst [v])=H1 at sp kp ⊢;ext;have s1:=ss.trans sp;have hpH:H p=none:=ss.free hp;refine a4q (λn σ' H'=>∃(us:List V)(ts:List Trm)(o:Option V),σ'=[some (.str x),some v,some (.ref pd),some (.ref se),some (.ref p),o]/\H' p=some (.lst us)/\DenL K H' us (Trm.dataL ts)/\(∀t∈ts,a9g x rows t)/\Trm.sizeL ts<=60/\n=Trm.sizeL ts/\Same H H') t0.size ⟨[v],[t0],none,rfl,kp,.cons (hd.mono s1) .nil,λt ht=>by rw[Zq.mp ht];exact hc,?_,by simp[Trm.sizeL],s1⟩ (λn σ' H' R hP2 kT kF=>?_)
 ·have:=hc.sz;simp only[Trm.sizeL];omega
 obtain⟨us,ts,o,rfl,h1,h2,h3,h4,h5,h6⟩:=hP2;ext;refine .inl ⟨us,SqL.of h1,?_⟩;rcases nil_or_snoc' ts with rfl|⟨ts0,t1,rfl⟩
 ·have e:=h2.nil_inv;subst e
  exists kF H'
  exact q H' h6
 rw[Trm.dataL_map,Zo,<-Trm.dataL_map]at h2;obtain⟨us',u,rfl,g1,g2⟩:=DenL.snoc h2;rw[Trm.sizeL_app]at h4 h5;have z1:Trm.sizeL [t1]=t1.size:=by simp[Trm.sizeL]
 rw[z1]at h4 h5;have typ:=t1.size_pos;have hc1:=h3 t1 qz;rw[show(!(us'++[u]).isEmpty)=true by simp];refine kT H' (λD' e1 e2 hnx hct=>?_);ext;refine⟨.inl ⟨rfl,_,SqL.of h1⟩,?_⟩;refine b0g h1 ?_;have f3:DenL K (upd H' p (.lst us')) us' (Trm.dataL ts0):=g1.lst h1;have f4:Den K (upd H' p (.lst us')) u t1.data:=g2.lst h1;have f5:Same H (upd H' p (.lst us')):=a1c h6 hpH;have k6:(upd H' p (.lst us')) p=some (.lst us'):=a0c;generalize upd H' p (.lst us')=J at f3 f4 f5 k6 ⊢;ext;refine⟨ln (by show 2<=100000;decide),λpa hpa=>?_⟩;have spa:Same J (upd J pa (.tup [.str "any",.str x])):=a0h hpa _;have kpa:(upd J pa (.tup [.str "any",.str x])) pa=some (.tup [.str "any",.str x]):=a0c;generalize upd J pa (.tup [.str "any",.str x])=J1 at spa kpa ⊢;ext;have hda:Den K J1 (.ref pa) (Trm.any x).data:=.tup (SqT.of kpa) (.cons (.str _) (.cons (.str _) .nil));refine c8s (f4.mono spa) hda qo ?_;rw[c9r hc1,Zt];ext;walk_at "iF";have f3:=f3.mono spa;have f4:=f4.mono spa;have f5:=f5.trans spa;have k6:=spa _ _ k6;ext;have hlen:=f3.length;rw[Trm.dataL_map,length_map]at hlen;have hl2:=Trm.len_le ts0;cases t1 with
 |num m=>
  obtain⟨a,rfl,hs⟩:=a2z f4
  exists a0k hs (v:=.str numS) rfl
  rw[Zt,q4];walk_at "C"
  exists a0k hs (v:=.str numS) rfl
  rw[Zt,q1];walk_at "C";walk_at "iF";walk_at "nx";exact hnx _ _ _ qo ⟨us',ts0,_,rfl,k6,f3,λt ht=>h3 t (by simp[ht]),qo,rfl,f5⟩
 |any y=>
  obtain⟨a,rfl,hs⟩:=a2t f4;have hy:a1b rows y=none:=hc1.fr y (Zq.mpr rfl)
  exists a0k hs (v:=.str anyS) rfl
  rw[Zt,q5];walk_at "C"
  exists a0k hs (v:=.str anyS) rfl
  rw[Zt,q3];walk_at "D"
  exists a0k hs (v:=.str y) rfl
  rcases(hP.mono f5).get y with⟨_,c2⟩|⟨_,_,c1,_⟩
  ·refine⟨pd,_,rfl,c2,?_⟩;walk_at "A";walk_at "iF";walk_at "nx";exact hnx _ _ _ qo ⟨us',ts0,_,rfl,k6,f3,λt ht=>h3 t (by simp[ht]),qo,rfl,f5⟩
  ·rw[hy]at c1;cases c1
 |app sg ks=>
  obtain⟨a,b,uk,rfl,hs,hb,hk⟩:=a1q f4;have hlf:=c9s hc1;have hkk:=Trm.len_le ks;have hkl:=hk.length;rw[Trm.dataL_map,length_map]at hkl;rw[Trm.size]at h4 h5
  exists a0k hs (v:=.str appS) rfl
  rw[Zt,q6];walk_at "D";refine⟨.inl ⟨rfl,_,SqL.of k6⟩,?_⟩;ext
  exists a0k hs (v:=.ref b) rfl
  refine⟨p,b,us',uk,rfl,rfl,k6,.inr hb,ln qo,?_⟩;refine hnx _ _ (Trm.sizeL (ts0++ks)) (by rw[Trm.sizeL_app];omega) ⟨us'++uk,ts0++ks,_,rfl,a0c,?_,λt ht=>?_,by rw[Trm.sizeL_app];omega,rfl,a1c f5 hpH⟩
  ·rw[a4w];exact(f3.lst k6).append (hk.lst k6)
  ·rcases Yt.mp ht with z|z
   ·exact h3 t (by simp[z])
   ·exact hlf t z
end
section
variable{P:Program}{w:World}{K:W.Frag}{mg:Str->Option Value}{base:Heap}{t:Ad}
theorem b3s(T:Txt K mg t)(G_d7:FnOk P w K mg base CX0 1 t.a_d7 t.d_d7 ["name","term","puts"] (a8s K))(G_c4:FnOk P w K mg base CX0 1 t.a_c4 t.d_c4 ["self"] (a6n K t.k_a1 t.k_a4)):FnOk P w K mg base CX0 2 t.a_c8 t.d_c8 ["self","name","term"] (a7o K t.k_a1 t.k_a4):=by
 exists T.F_c8.ok b3c,(a0d (a1d (a2k K rfl (a0l G_d7 hr.o rfl T.m_d7 T.F_d7.kp T.b_d7 .nil a0m (a0a (mv 1) (a0a (mv 2) (a0a (a0r (mv 0) rfl) a0b))))) (a0g (a0o (a0s (a0a a0v (a0a (a8k (mv 0) T.cl_a1 T.me_c4 G_c4 hr.o T.b_c4 .nil a0m) (a0a (mv 1) a0b)))))) a0u) (a0d (b0c (a5l hr) (a0r (mv 0) rfl) (mv 1) (mv 2) rfl) (a0d (a1m (a2p K rfl Z4 Yv Y1 a2j (a0r (mv 0) rfl) (a0a (mv 1) a0b))) (a0g (a0o a5i))))),H,Q,E,hr,h
 rename_i j x v;obtain⟨H0,dx,pd,nl,rl,md,me,rows,rs,t0,js,hd,hc,hn,hl,q⟩:=h;ext
 exists zG js.o T.cl_a1 T.no_a1_puts b4f
 refine⟨t0,rows,hd,js.put,hc,λH1 s1=>?_⟩;have js1:=js.same s1;walk_at "A"
 exists zG js1.o T.cl_a1 T.no_a1_puts b4f
 obtain⟨kvs,e0,ok⟩:=js1.put.ex;have hkl:=ok.len;refine⟨pd,_,rfl,.inl ⟨kvs,.inr x,e0,rfl,ln1 qo,rfl⟩,?_⟩;have hpr:putR rows x t0=rows++[(x,t0)]:=b5j (b1y hn);have hnm:nms (putR rows x t0)=nms rows++[V.str x]:=by rw[hpr,nms,Zo];rfl
 obtain⟨js2,kt2⟩:=js1.put2 (ok.put (x:=x) (v:=v) (t:=t0) (hd.mono s1));have o2:(upd H1 pd (.dK (putK kvs (Sum.inr x) v))) j=some (.ins t.k_a1 dx (jF pd nl rl md)):=by rw[a0f (a1a js1.o e0 (λz=>by cases z))];exact js1.o
 have e3:(upd H1 pd (.dK (putK kvs (Sum.inr x) v))) nl=some (.lst (nms rows)):=by rw[a0f (a1a js1.note e0 (λz=>by cases z))];exact js1.note
 rw[hnm]at js2 kt2;generalize upd H1 pd (.dK (putK kvs (Sum.inr x) v))=H2 at js2 kt2 e3 o2 ⊢;ext
 exists zG o2 T.cl_a1 T.no_a1_noted d3h
 refine⟨.inl ⟨rfl,_,SqL.of e3⟩,?_⟩;ext
 exists a2f e3 (ln1 (by unfold nms;rw[length_map];omega))
 exact q _ ((KT.same s1).trans kt2) js2
theorem b0z(T:Txt K mg t)(G_c7:FnOk P w K mg base CX0 1 t.a_c7 t.d_c7 ["self","lefts","rights"] (a9w K t.k_a4)):FnOk P w K mg base CX0 3 t.a_e4 t.d_e4 ["self","left","right"] (a5u K t.k_a1 t.k_a4):=by
 exists T.F_e4.ok b0m,(a0g (a1d (a0z (ko_ninE K rfl (a2y hr)) (a0s (a0a (mv 1) (a0a (mv 2) a0b))) (a0r (mv 0) rfl) (by with_unfolding_all rfl)) (a0d (b6e a4b (pg_sub (a0r (mv 0) rfl) (a0s (a0a (mv 1) (a0a (mv 2) a0b))) (d2p K rfl (a2y hr)))) (a0g (a1m (a2p K rfl Z4 Yv Y1 a2j (a0r (mv 0) rfl) (a0a (b0a T.mk_a4 G_c7 hr.o rfl T.m_a4 T.b_c7 .nil a0m (a0a (a0n (a0j K rfl) (mv 1) a0e (λ_ _=>rfl)) (a0a (a0n (a0j K rfl) (mv 2) a0e (λ_ _=>rfl)) a0b))) a0b))))) a0u)),H,Q,E,hr,h
 rename_i j v v';obtain⟨H0,dx,pd,nl,rl,md,rows,rs,s1,ks,s2,ls,js,hd,hd',hz,hz',hl,q⟩:=h;ext;refine⟨ln (by show 2<=100000;decide),λp1 hp1=>?_⟩;have sp1:Same H (upd H p1 (.tup [v,v'])):=a0h hp1 _;have kp1:(upd H p1 (.tup [v,v'])) p1=some (.tup [v,v']):=a0c;generalize upd H p1 (.tup [v,v'])=H1 at sp1 kp1 ⊢;ext;have js1:=js.same sp1
 exists zG js1.o T.cl_a1 T.no_a1_met c9t
 obtain⟨om,m1,_,_,_,_,m2⟩:=js1.md0;have m2:=m2 rfl;subst m2;have hp:Den K H1 (.ref p1) (.tuple [(Trm.app s1 ks).data,(Trm.app s2 ls).data]):=.tup (SqT.of kp1) (.cons (hd.mono sp1) (.cons (hd'.mono sp1) .nil));refine⟨p1,md,_,rfl,rfl,m1,hp,b7j _ _,b7i hz hz',?_⟩;walk_at "B"
 exists zG js1.o T.cl_a1 T.no_a1_met c9t
 refine⟨ln (by show 2<=100000;decide),λp2 hp2=>?_⟩;have sp2:Same H1 (upd H1 p2 (.tup [v,v'])):=a0h hp2 _;have kp2:(upd H1 p2 (.tup [v,v'])) p2=some (.tup [v,v']):=a0c;generalize upd H1 p2 (.tup [v,v'])=H2 at sp2 kp2 ⊢;ext;have js2:=js1.same sp2;have hp2:Den K H2 (.ref p2) (.tuple [(Trm.app s1 ks).data,(Trm.app s2 ls).data]):=.tup (SqT.of kp2) (.cons (hd.mono (sp1.trans sp2)) (.cons (hd'.mono (sp1.trans sp2)) .nil));refine⟨md,p2,_,rfl,rfl,sp2 _ _ m1,hp2,b7j _ _,b7i hz hz',?_⟩;obtain⟨js3,kt3⟩:=js2.upd_md (om:=OpD md) (λ_ z=>by cases z) (λ_ z=>by cases z) (λ_ _ z=>by cases z) (λ_ _ _ z=>by cases z);generalize upd H2 md (OpD md)=H3 at js3 kt3 ⊢;have kt03:KT K H H3:=(KT.same (sp1.trans sp2)).trans kt3;obtain⟨a1,b1,us1,rfl,a2,a3,a4⟩:=a1q (hd.monoT kt03);obtain⟨c1,d1,us2,rfl,c2,c3,c4⟩:=a1q (hd'.monoT kt03);ext
 exists zG js3.o T.cl_a1 T.no_a1_rows a7b
 refine⟨.inl ⟨rfl,_,SqL.of js3.rws⟩,?_⟩;ext
 exists a0k a2 (v:=.ref b1) rfl
 exists a0k c2 (v:=.ref d1) rfl
 refineλr dr hr1 hr2 hne=>?_
 refine⟨dr,a0c,λH4 bt ho=>⟨rfl,?_⟩⟩;have s4:Same H3 H4:=a9i hr1 hr2 bt;have js4:=js3.same s4;have hr0:H0 r=none:=js3.sm.free hr1 (λz=>by obtain⟨k0,e0,_⟩:=js3.put.ex;rw[z,e0]at hr1;cases hr1) (λz=>by rw[z,js3.note]at hr1;cases hr1);have hrj:r≠j:=Ne.symm (a0w js3.o hr1);ext;refine a2f js4.rws (ln1 (by rw[length_map];omega)) ?_;have er:((rs.map λq=>V.ref q.r)++[V.ref r])=(rs++[(⟨r,dr,.ref b1,.ref d1,0⟩:RwO)]).map λq=>V.ref q.r:=by simp
 rw[er]
 obtain⟨js5,kt5⟩:=js4.upd_rl (rs':=rs++[⟨r,dr,.ref b1,.ref d1,0⟩]) (λq hq=>by
  rcases Yt.mp hq with z|z
  ·exact js4.ro q z
  ·rw[Zq.mp z];exact⟨ho,hr0,hrj⟩) (by
  rw[Zo,Xq];refine⟨js4.nd,qz,λx hx y hy e=>?_⟩;obtain⟨q,hq,rfl⟩:=Ys.mp hx;have hy:y=r:=by simpa using hy
  rw[hy]at e;have:=(js3.ro q hq).1;rw[e,hr1]at this
  cases this)
 have kt35:KT K H3 _:=(KT.same s4).trans kt5;exact q _ r dr b1 d1 us1 us2 (kt03.trans kt35) js5 (kt35 _ _ a3) (a4.monoT kt35) (kt35 _ _ c3) (c4.monoT kt35)
end
section
variable{P:Program}{w:World}{K:W.Frag}{mg:Str->Option Value}{base:Heap}{t:Ad}
theorem d0w{rows:Rws}{n:Int}{r:Trm}(h:nany r=true)(e:eqb (.num n) r=false):pl2 rows (.num n) r=.part (keyL (.num n)) (keyL r)/\keyL (.num n)≠keyL r:=by
 cases r with
 |any x=>cases h
 |num m=>
  refine⟨by rw[pl2,if_neg (by rw[e];exact Zr)];rfl,λz=>?_⟩;have e:decide (n=m)=false:=e;have z:([Sum.inr numS,Sum.inl n]:List Key)=[Sum.inr numS,Sum.inl m]:=z
  simp at z
  exact Xx e z
 |app s ks=>
  refine⟨by rw[pl2,if_neg (by rw[e];exact Zr)];rfl,λz=>?_⟩;have z:([Sum.inr numS,Sum.inl n]:List Key)=[Sum.inr appS,Sum.inr s,Sum.inl (ks.length:Int)]:=z
  simp at z
theorem d0x{rows:Rws}{s:Str}{ks:List Trm}{r:Trm}(h:nany r=true)(e:eqb (.app s ks) r=false):(pl2 rows (.app s ks) r=.part (keyL (.app s ks)) (keyL r)/\keyL (.app s ks)≠keyL r)\/∃ls,r=.app s ls/\ks.length=ls.length/\pl2 rows (.app s ks) r=.kids s ks ls:=by
 cases r with
 |any x=>cases h
 |num m=>
  refine .inl ⟨by rw[pl2,if_neg (by rw[e];exact Zr)];rfl,λz=>?_⟩;have z:([Sum.inr appS,Sum.inr s,Sum.inl (ks.length:Int)]:List Key)=[Sum.inr numS,Sum.inl m]:=z
  simp at z
 |app s' ls=>
  have e1:pl2 rows (.app s ks) (.app s' ls)=if s=s'/\ks.length=ls.length then .kids s ks ls else .part (keyL (.app s ks)) (keyL (.app s' ls)):=by rw[pl2,if_neg (by rw[e];exact Zr)];rfl
  by_cases hc:s=s'/\ks.length=ls.length
  ·obtain⟨rfl,hc2⟩:=hc;exact .inr ⟨ls,rfl,hc2,by rw[e1,if_pos ⟨rfl,hc2⟩]⟩
  ·refine .inl ⟨by rw[e1,if_neg hc],λz=>hc ?_⟩;have z:([Sum.inr appS,Sum.inr s,Sum.inl (ks.length:Int)]:List Key)=[Sum.inr appS,Sum.inr s',Sum.inl (ls.length:Int)]:=z;simp only[Te,Sum.inr.injEq,Sum.inl.injEq,and_true,true_and]at z;exact⟨z.1,by have:=z.2;omega⟩
theorem key_app{s:Str}{ks ls:List Trm}(h:ks.length=ls.length):keyL (.app s ks)=keyL (.app s ls):=by
 show([Sum.inr appS,Sum.inr s,Sum.inl (ks.length:Int)]:List Key)=[Sum.inr appS,Sum.inr s,Sum.inl (ls.length:Int)]
 rw[h]
theorem c1a{a b:List Key}(h:a≠b):(!decide (a=b))=true:=by rw[Z3 h];rfl
theorem b1a(T:Txt K mg t)(G_a5:FnOk P w K mg base CX0 1 t.a_a5 t.d_a5 ["term","puts"] (a7m K))(G_e4:FnOk P w K mg base CX0 3 t.a_e4 t.d_e4 ["self","left","right"] (a5u K t.k_a1 t.k_a4))(G_c8:FnOk P w K mg base CX0 2 t.a_c8 t.d_c8 ["self","name","term"] (a7o K t.k_a1 t.k_a4))(G_b4:FnOk P w K mg base CX0 1 t.a_b4 t.d_b4 ["term"] (b9u K))(G_c4:FnOk P w K mg base CX0 1 t.a_c4 t.d_c4 ["self"] (a6n K t.k_a1 t.k_a4)):FnOk P w K mg base CX0 4 t.a_e6 t.d_e6 ["self","one","other"] (a5v K t.k_a1 t.k_a4):=by
 exists T.F_e6.ok a3y,(a0d (a0p (i:=3) (hs:=a1n) a3y.nd rfl (by nofun) (a0l G_a5 hr.o rfl T.m_a5 T.F_a5.kp T.b_a5 .nil a0m (a0a (mv 1) (a0a (a0r (mv 0) rfl) a0b)))) (a0d (a0p (i:=4) (hs:=a1n) a3y.nd rfl (by nofun) (a0l G_a5 hr.o rfl T.m_a5 T.F_a5.kp T.b_a5 .nil a0m (a0a (mv 2) (a0a (a0r (mv 0) rfl) a0b)))) (a0d (a1d (a0z (c8r K rfl (a2y hr)) (mv 3) (mv 4) (a0t _)) (a0g (a0o a5i)) a0u) (a0d (a1d (a0z a2b (a0n (a0j K rfl) (mv 3) a0e (λ_ _=>rfl)) a0v (a0t _)) (a0g (a0o (a2s (mv 0) T.cl_a1 T.me_c8 G_c8 hr.o T.b_c8 .nil a0m (a0a (a0n (a0j K rfl) (mv 3) a0e (λ_ _=>rfl)) (a0a (mv 4) a0b))))) a0u) (a0d (a1d (a0z a2b (a0n (a0j K rfl) (mv 4) a0e (λ_ _=>rfl)) a0v (a0t _)) (a0g (a0o (a2s (mv 0) T.cl_a1 T.me_c8 G_c8 hr.o T.b_c8 .nil a0m (a0a (a0n (a0j K rfl) (mv 4) a0e (λ_ _=>rfl)) (a0a (mv 3) a0b))))) a0u) (a0d (a1d (a0z (ko_neKs K rfl (a2y hr)) (a0l G_b4 hr.o rfl T.m_b4 T.F_b4.kp T.b_b4 .nil a0m (a0a (mv 3) a0b)) (a0l G_b4 hr.o rfl T.m_b4 T.F_b4.kp T.b_b4 .nil a0m (a0a (mv 4) a0b)) (a0t _)) (a0g (a0o (a0s (a0a a0v (a0a (a8k (mv 0) T.cl_a1 T.me_c4 G_c4 hr.o T.b_c4 .nil a0m) (a0a (a0l G_b4 hr.o rfl T.m_b4 T.F_b4.kp T.b_b4 .nil a0m (a0a (mv 3) a0b)) (a0a (a0l G_b4 hr.o rfl T.m_b4 T.F_b4.kp T.b_b4 .nil a0m (a0a (mv 4) a0b)) a0b))))))) a0u) (a0d (a1m (a2s (mv 0) T.cl_a1 T.me_e4 G_e4 hr.o T.b_e4 .nil a0m (a0a (mv 3) (a0a (mv 4) a0b)))) (a0g (a0o a5i))))))))),H,Q,E,hr,h
 rename_i j v v';obtain⟨H0,dx,pd,nl,rl,md,me,rows,rs,t0,t1,n0,n1,L,R,js,hd,hd',w0,w1,okp,hln,q⟩:=h;have hrl:=okp.len;ext
 exists zG js.o T.cl_a1 T.no_a1_puts b4f
 refine⟨rows,t0,n0,_,js.put,hd,w0,λvl dl=>?_⟩;ext
 exists zG js.o T.cl_a1 T.no_a1_puts b4f
 refine⟨rows,t1,n1,_,js.put,hd',w1,λvr dR=>?_⟩;have nl0:∀y,L=.any y->a1b rows y=none:=w0.hnf;have nr0:∀y,R=.any y->a1b rows y=none:=w1.hnf;have dL:=dl;have zl:=okp.zl;have zr:=okp.zr;ext;refine c8s dL dR qo ?_;rw[Zt];ext
 exists e
 ·ext;rw[pl2,if_pos e]at q;exact q H (KT.refl H) js
 have e':¬eqb L R=true:=by rw[e];exact Zr
 ext;cases L with
 |any x=>
  obtain⟨a,rfl,hs⟩:=a2t dL
  exists a0k hs (v:=.str anyS) rfl
  rw[Zt,q3];walk_at "D"
  exists zM js.o (a7g qk)
  exists a0k hs (v:=.str x) rfl
  have hq:pl2 rows (.any x) R=.go (putR rows x R):=by rw[pl2,if_neg e'];rfl
  rw[hq]at q;refine⟨H0,dx,pd,nl,rl,md,me,rows,rs,R,js,dR,?_,nl0 x rfl,hrl,λH1 k1 js1=>?_⟩
  ·exact okp.cl x rfl e'
  ·ext;exact q H1 k1 js1
 |num n=>
  obtain⟨a,rfl,hs⟩:=a2z dL
  exists a0k hs (v:=.str numS) rfl
  rw[Zt,q1];walk_at "C";cases R with
  |any y=>
   obtain⟨a2,rfl,hs2⟩:=a2t dR
   exists a0k hs2 (v:=.str anyS) rfl
   rw[Zt,q3];walk_at "D"
   exists zM js.o (a7g qk)
   exists a0k hs2 (v:=.str y) rfl
   have hq:pl2 rows (.num n) (.any y)=.go (putR rows y (.num n)):=by rw[pl2,if_neg e'];rfl
   rw[hq]at q;exact⟨H0,dx,pd,nl,rl,md,me,rows,rs,_,js,dL,okp.cr y rfl rfl,nr0 y rfl,hrl,λH1 k1 js1=>q H1 k1 js1⟩
  |num m=>
   obtain⟨hpl,hne⟩:=d0w (rows:=rows) (r:=.num m) rfl e;have fL:nany (.num n)=true:=rfl;have fR:nany (.num m)=true:=rfl;obtain⟨a2,rfl,hs2⟩:=a2z dR
   exists a0k hs2 (v:=.str numS) rfl
   rw[Zt,q1];walk_at "C";refine⟨.num n,dL,?_⟩;rw[a1v fL];refineλk1 J1 t1 e1=>?_
   ext;refine⟨.num m,dR.mono t1,?_⟩;rw[a1v fR];refineλk2 J2 t2 e2=>?_
   have js2:=js.same (t1.trans t2);refine⟨k1,keyL (.num n),rfl,SqT.of (t2 _ _ e1),.inr ⟨k2,keyL (.num m),rfl,SqT.of e2,?_⟩⟩;ext;refine iteB (λe=>?_) (λe=>absurd e (by rw[c1a hne];exactλz=>by cases z));ext
   exists zM js2.o (a7g qk)
   refine⟨H0,dx,pd,nl,rl,md,me,rows,rs,js2,hln,λp3 J3 t3 e3=>?_⟩;ext;have t03:=t1.trans (t2.trans t3);refine⟨.num n,dL.mono t03,?_⟩;rw[a1v fL];refineλk4 J4 t4 e4=>?_
   ext;refine⟨.num m,dR.mono (t03.trans t4),?_⟩;rw[a1v fR];refineλk5 J5 t5 e5=>?_
   ext;refine⟨ln (by show 4<=100000;decide),λp6 hp6=>?_⟩;have t05:=t03.trans (t4.trans t5);have t6:=a0h hp6 (.tup [.str "part",.ref p3,.ref k4,.ref k5]);rw[hpl]at q;exact q _ _ (KT.same (t05.trans t6)) (js.same (t05.trans t6)) ⟨_,rfl⟩
  |app s2 ls=>
   obtain⟨hpl,hne⟩:=d0w (rows:=rows) (r:=.app s2 ls) rfl e;have fL:nany (.num n)=true:=rfl;have fR:nany (.app s2 ls)=true:=rfl;obtain⟨a2,b2,us2,rfl,hs2,hb2,hk2⟩:=a1q dR
   exists a0k hs2 (v:=.str appS) rfl
   rw[Zt,q2];walk_at "C";refine⟨.num n,dL,?_⟩;rw[a1v fL];refineλk1 J1 t1 e1=>?_
   ext;refine⟨.app s2 ls,dR.mono t1,?_⟩;rw[a1v fR];refineλk2 J2 t2 e2=>?_
   have js2:=js.same (t1.trans t2);refine⟨k1,keyL (.num n),rfl,SqT.of (t2 _ _ e1),.inr ⟨k2,keyL (.app s2 ls),rfl,SqT.of e2,?_⟩⟩;ext;refine iteB (λe=>?_) (λe=>absurd e (by rw[c1a hne];exactλz=>by cases z));ext
   exists zM js2.o (a7g qk)
   refine⟨H0,dx,pd,nl,rl,md,me,rows,rs,js2,hln,λp3 J3 t3 e3=>?_⟩;ext;have t03:=t1.trans (t2.trans t3);refine⟨.num n,dL.mono t03,?_⟩;rw[a1v fL];refineλk4 J4 t4 e4=>?_
   ext;refine⟨.app s2 ls,dR.mono (t03.trans t4),?_⟩;rw[a1v fR];refineλk5 J5 t5 e5=>?_
   ext;refine⟨ln (by show 4<=100000;decide),λp6 hp6=>?_⟩;have t05:=t03.trans (t4.trans t5);have t6:=a0h hp6 (.tup [.str "part",.ref p3,.ref k4,.ref k5]);rw[hpl]at q;exact q _ _ (KT.same (t05.trans t6)) (js.same (t05.trans t6)) ⟨_,rfl⟩
 |app s1 ks=>
  obtain⟨a,b1,us1,rfl,hs,hb1,hk1⟩:=a1q dL
  exists a0k hs (v:=.str appS) rfl
  rw[Zt,q2];walk_at "C";have fL:nany (.app s1 ks)=true:=rfl;cases R with
  |any y=>
   obtain⟨a2,rfl,hs2⟩:=a2t dR
   exists a0k hs2 (v:=.str anyS) rfl
   rw[Zt,q3];walk_at "D"
   exists zM js.o (a7g qk)
   exists a0k hs2 (v:=.str y) rfl
   have hq:pl2 rows (.app s1 ks) (.any y)=.go (putR rows y (.app s1 ks)):=by rw[pl2,if_neg e'];rfl
   rw[hq]at q;exact⟨H0,dx,pd,nl,rl,md,me,rows,rs,_,js,dL,okp.cr y rfl rfl,nr0 y rfl,hrl,λH1 k1 js1=>q H1 k1 js1⟩
  |num m=>
   have fR:nany (.num m)=true:=rfl;rcases d0x (rows:=rows) fR e with⟨hpl,hne⟩|⟨ls,z,_⟩
   rotate_left
   ·cases z
   obtain⟨a2,rfl,hs2⟩:=a2z dR
   exists a0k hs2 (v:=.str numS) rfl
   rw[Zt,q1];walk_at "C";refine⟨.app s1 ks,dL,?_⟩;rw[a1v fL];refineλk1 J1 t1 e1=>?_
   ext;refine⟨.num m,dR.mono t1,?_⟩;rw[a1v fR];refineλk2 J2 t2 e2=>?_
   have js2:=js.same (t1.trans t2);refine⟨k1,keyL (.app s1 ks),rfl,SqT.of (t2 _ _ e1),.inr ⟨k2,keyL (.num m),rfl,SqT.of e2,?_⟩⟩;ext;refine iteB (λe=>?_) (λe=>absurd e (by rw[c1a hne];exactλz=>by cases z));ext
   exists zM js2.o (a7g qk)
   refine⟨H0,dx,pd,nl,rl,md,me,rows,rs,js2,hln,λp3 J3 t3 e3=>?_⟩;ext;have t03:=t1.trans (t2.trans t3);refine⟨.app s1 ks,dL.mono t03,?_⟩;rw[a1v fL];refineλk4 J4 t4 e4=>?_
   ext;refine⟨.num m,dR.mono (t03.trans t4),?_⟩;rw[a1v fR];refineλk5 J5 t5 e5=>?_
   ext;refine⟨ln (by show 4<=100000;decide),λp6 hp6=>?_⟩;have t05:=t03.trans (t4.trans t5);have t6:=a0h hp6 (.tup [.str "part",.ref p3,.ref k4,.ref k5]);rw[hpl]at q;exact q _ _ (KT.same (t05.trans t6)) (js.same (t05.trans t6)) ⟨_,rfl⟩
  |app s2 ls=>
   have fR:nany (.app s2 ls)=true:=rfl;obtain⟨a2,b2,us2,rfl,hs2,hb2,hk2⟩:=a1q dR
   exists a0k hs2 (v:=.str appS) rfl
   rw[Zt,q2];walk_at "C";refine⟨.app s1 ks,dL,?_⟩;rw[a1v fL];refineλk1 J1 t1 e1=>?_
   ext;refine⟨.app s2 ls,dR.mono t1,?_⟩;rw[a1v fR];refineλk2 J2 t2 e2=>?_
   have js2:=js.same (t1.trans t2);refine⟨k1,keyL (.app s1 ks),rfl,SqT.of (t2 _ _ e1),.inr ⟨k2,keyL (.app s2 ls),rfl,SqT.of e2,?_⟩⟩;ext;rcases d0x (rows:=rows) fR e with⟨hpl,hne⟩|⟨ls',z,hlen,hpl⟩
   ·refine iteB (λe=>?_) (λe=>absurd e (by rw[c1a hne];exactλz=>by cases z));ext
    exists zM js2.o (a7g qk)
    refine⟨H0,dx,pd,nl,rl,md,me,rows,rs,js2,hln,λp3 J3 t3 e3=>?_⟩;ext;have t03:=t1.trans (t2.trans t3);refine⟨.app s1 ks,dL.mono t03,?_⟩;rw[a1v fL];refineλk4 J4 t4 e4=>?_
    ext;refine⟨.app s2 ls,dR.mono (t03.trans t4),?_⟩;rw[a1v fR];refineλk5 J5 t5 e5=>?_
    ext;refine⟨ln (by show 4<=100000;decide),λp6 hp6=>?_⟩;have t05:=t03.trans (t4.trans t5);have t6:=a0h hp6 (.tup [.str "part",.ref p3,.ref k4,.ref k5]);rw[hpl]at q;exact q _ _ (KT.same (t05.trans t6)) (js.same (t05.trans t6)) ⟨_,rfl⟩
   ·cases z;rw[hpl]at q;obtain⟨rfl,q⟩:=q;refine iteB (λe=>absurd e (by rw[Ye (key_app hlen)];exactλz=>by cases z)) (λe=>?_);ext
    exists zM js2.o (a7g qk)
    have t02:=t1.trans t2;refine⟨H0,dx,pd,nl,rl,md,rows,rs,s1,ks,s1,ls,js2,dL.mono t02,dR.mono t02,qo,qo,hln,λH3 r dr a3 b3 us3 us3' k3 js3 c1 c2 c3 c4=>?_⟩;ext;exact q H3 r dr a3 b3 us3 us3' ((KT.same t02).trans k3) js3 c1 c2 c3 c4
end
section
variable{P:Program}{w:World}{K:W.Frag}{mg:Str->Option Value}{base:Heap}{t:Ad}
theorem b1b(T:Txt K mg t)(G_c7:FnOk P w K mg base CX0 1 t.a_c7 t.d_c7 ["self","lefts","rights"] (a9w K t.k_a4))(G_e6:FnOk P w K mg base CX0 4 t.a_e6 t.d_e6 ["self","one","other"] (a5v K t.k_a1 t.k_a4)):FnOk P w K mg base CX0 5 t.a_e2 t.d_e2 ["self","one","other"] (a5w K t.k_a1 t.k_a4):=by
 exists T.F_e2.ok a3a,(a0d (a1i (mv 0) (a1e (a0a (b0a T.mk_a4 G_c7 hr.o rfl T.m_a4 T.b_c7 .nil a0m (a0a (a0s (a0a (mv 1) a0b)) (a0a (a0s (a0a (mv 2) a0b)) a0b))) a0b)) rfl) (a0d (a0p (i:=3) a3a.nd rfl (by nofun) a5i) (a0d (a5n Yj (PW.pt (a8j (a2k K rfl (a0r (mv 0) rfl)) (a9x (a0z b6t (mv 3) a5i (a0t _))))) (a0d (a0p (i:=4) (hs:=a6c) a3a.nd rfl (by nofun) (a0n (a0j K rfl) (a0r (mv 0) rfl) (pe_un c1l a0e) (λ_ _=>rfl))) (a0g (a1d (a0z a2b (a0r (mv 4) rfl) (a1s (a2x K rfl) rfl T.n_f4 Yw (a0a (a0r (mv 4) rfl) a0b)) (a0t _)) (a0g (a1m (b0f K rfl Z4 W7 Vk b0e (a0r (mv 0) rfl)))) (a0d (b2l (mv 4) a0e b2q) (a0g (a0p (i:=3) (hs:=a1n) a3a.nd rfl (by nofun) (a2s (mv 0) T.cl_a1 T.me_e6 G_e6 hr.o T.b_e6 .nil a0m (a0a (a0n (a0j K rfl) (a0r (mv 4) rfl) (a1h b6k (a0r (mv 4) rfl) a0e) (λ_ _=>rfl)) (a0a (a0n (a0j K rfl) (a0r (mv 4) rfl) (a1h b6k (a0r (mv 4) rfl) a0e) (λ_ _=>rfl)) a0b)))))))))) (a0g (a0o (mv 3)))))),H,Q,E,hr,h
 rename_i j v v';obtain⟨H0,dx,pd,nl,rl0,md,rows,t0,t1,okk,q0,c0,js,hd,hd',un,q⟩:=h;ext;refine⟨ln (by show 1<=100000;decide),λp1 hp1=>?_⟩;have sp1:Same H (upd H p1 (.tup [v])):=a0h hp1 _;have kp1:(upd H p1 (.tup [v])) p1=some (.tup [v]):=a0c;generalize upd H p1 (.tup [v])=H1 at sp1 kp1 ⊢;ext;refine⟨ln (by show 1<=100000;decide),λp2 hp2=>?_⟩;have sp2:Same H1 (upd H1 p2 (.tup [v'])):=a0h hp2 _;have kp2:(upd H1 p2 (.tup [v'])) p2=some (.tup [v']):=a0c;generalize upd H1 p2 (.tup [v'])=H2 at sp2 kp2 ⊢;ext;refineλr dr hr1 hr2 hne=>?_
 refine⟨dr,a0c,λH3 bt ho=>⟨rfl,?_⟩⟩;have s3:Same H2 H3:=a9i hr1 hr2 bt;ext;refine⟨ln (by show 1<=100000;decide),λrl hrl=>?_⟩;have s4:Same H3 (upd H3 rl (.lst [.ref r])):=a0h hrl _;have k4:(upd H3 rl (.lst [.ref r])) rl=some (.lst [.ref r]):=a0c;generalize upd H3 rl (.lst [.ref r])=H4 at s4 k4 ⊢;have s04:=sp1.trans (sp2.trans (s3.trans s4));have js4:=js.same s04;have js3:=js.same (sp1.trans (sp2.trans s3));ext;refine sZ js4.o T.cl_a1 T.no_a1_rows (by show 4<1000;decide) ?_;rw[c9u];have js2:=js.same (sp1.trans sp2)
 obtain⟨js5,kt5⟩:=js4.set_rl (rs':=[⟨r,dr,.ref p1,.ref p2,0⟩]) k4 (js3.free hrl) (a0w js3.note hrl) (λq hq=>by
  rw[Zq.mp hq]
  exact⟨s4 _ _ ho,js2.free hr1,Ne.symm (a0w js2.o hr1)⟩) qz
 have kt05:KT K H _:=(KT.same s04).trans kt5;have c1:SqT K _ p1 [v]:=kt5 _ _ (SqT.of ((sp2.trans (s3.trans s4)) _ _ kp1));have c2:SqT K _ p2 [v']:=kt5 _ _ (SqT.of ((s3.trans s4) _ _ kp2));have hd5:=hd.monoT kt05;have hd5':=hd'.monoT kt05;generalize upd H4 j (.ins t.k_a1 dx (jF pd nl rl md))=H5 at js5 kt5 kt05 c1 c2 hd5 hd5' ⊢;clear js4 js3 js2 js;ext;have pend0:Pend K H5 [⟨r,dr,.ref p1,.ref p2,((0:Nat):Int)⟩] ((([t0]:List Trm).drop 0).zip (([t1]:List Trm).drop 0)++[]):=.cons c1 (.cons hd5 .nil) c2 (.cons hd5' .nil) rfl (Z0 _) (by show 1<=60;decide) .nil;refine a4q (λn σ' J=>∃(told:V)(o:Option V),σ'=[some (.ref j),some v,some v',some told,o]/\KT K H J/\((told=.non/\∃me rw2 st ps c,JS K t.k_a1 t.k_a4 H0 J j dx pd nl rl md me rw2 st.reverse/\Pend K J st ps/\Un me rw2 ps okk q0 c/\st.length<=2/\(me=true->st.length<=1)/\n=2*c+st.length)\/(n=0/\okk=false/\∃me q1 st r,JS K t.k_a1 t.k_a4 H0 J j dx pd nl rl md me q0 (q1::st).reverse/\told=.ref r))) (2*c0+1) ⟨.non,none,rfl,kt05,.inl ⟨rfl,true,rows,[⟨r,dr,.ref p1,.ref p2,((0:Nat):Int)⟩],[(t0,t1)],c0,js5,pend0,un,(by show 1<=2;decide),(λ_=>(by show 1<=1;decide)),rfl⟩⟩ (λn σ' J R hP kT kF=>?_);clear pend0 c1 c2 hd5 hd5' kt05 kt5 js5 un;obtain⟨told,o,rfl,kt,hP⟩:=hP;rcases hP with⟨rfl,me,rw2,st,ps,c,js1,pe,un,hst,hme,hn⟩|⟨rfl,rfl,me,q1,st,rt,js1,rfl⟩
 rotate_left
 ·ext
  exists zG js1.o T.cl_a1 T.no_a1_rows a7b
  refine .inl ⟨_,SqL.of js1.rws,?_⟩;rw[c9v,show(!((st.reverse.map λq=>V.ref q.r)++[V.ref q1.r]).isEmpty)=true by simp];walk_at "D"
  exists kF J
  exact q (.ref rt) J js1.sm kt js1.put js1.note (.inr ⟨rfl,rt,rfl⟩)
 cases pe with
 |nil=>
  cases un;ext
  exists zG js1.o T.cl_a1 T.no_a1_rows a7b
  refine .inl ⟨_,SqL.of js1.rws,?_⟩;walk_at "iF"
  exists kF J
  exact q .non J js1.sm kt js1.put js1.note (.inl ⟨rfl,rfl⟩)
 | @cons qr qdr a b st rest us us' ks ls i sa da sb db hlen hle hsz pe=>
  have ho1:=(js1.ro ⟨qr,qdr,.ref a,.ref b,(i:Int)⟩ (by rw[Yz];exact Yl _ (Zq.mpr rfl))).1;have hrw:=js1.rws;rw[c9v]at hrw;have hul:=a3b da;have hul':=a3b db;rw[length_cons]at hst hme hn;ext
  exists zG js1.o T.cl_a1 T.no_a1_rows a7b
  refine .inl ⟨_,SqL.of hrw,?_⟩;rw[show(!((st.reverse.map λq=>V.ref q.r)++[V.ref qr]).isEmpty)=true by simp];walk_at "D";refine kT J (λD' e1 e2 hnx hct=>?_);ext
  exists zG js1.o T.cl_a1 T.no_a1_rows a7b
  exists a2l (SqL.of hrw) (v:=.ref qr) (by exact d1h _ _)
  exists zG ho1 T.cl_a4 T.no_a4_taken a7p
  exists zG ho1 T.cl_a4 T.no_a4_lefts b9x
  exists b6r sa
  exists e
  ·have e:(i:Int)=us.length:=Z8 (xor_n e);have ei:i=ks.length:=by omega
   rw[ei,Sd,List.zip_nil_left,Td]at un;ext
   exists zG js1.o T.cl_a1 T.no_a1_rows a7b
   refine⟨.inl ⟨rfl,_,SqL.of hrw⟩,?_⟩;refine b0g (xs:=st.reverse.map λq=>V.ref q.r) (v:=.ref qr) hrw ?_;obtain⟨js2,kt2⟩:=js1.upd_rl (rs':=st.reverse) (λq hq=>js1.ro q (by rw[Yz];exact V6 _ hq)) (by have:=js1.nd;rw[Yz,Zo,Xq]at this;exact this.1);exact hnx _ _ (2*c+st.length) qo ⟨.non,_,rfl,kt.trans kt2,.inl ⟨rfl,me,rw2,st,rest,c,js2,pe.mono kt2,un,qo,λz=>by have:=hme z;omega,rfl⟩⟩
  have hi:i<ks.length:=by
   have e:¬(i:Int)=us.length:=Xx (xor_n e);omega
  have hi':i<ls.length:=by omega
  rw[Wk hi,Wk hi',List.zip_cons_cons,Xz]at un;ext;refine⟨qr,_,qdr,_,_,rfl,ho1,T.cl_a4,T.no_a4_taken,a7p,?_⟩;ext;refine⟨qdr,_,ho1,by show 3<1000;decide,?_⟩;rw[c6d];have js1':=js1;rw[Yz]at js1';obtain⟨js2,kt2⟩:=JS.upd_last (rs0:=st.reverse) (q1:=⟨qr,qdr,.ref a,.ref b,(i:Int)+1⟩) js1' rfl;have ho2:(upd J qr (.ins t.k_a4 qdr [(a3o,.ref a),(a3h,.ref b),(a4i,.int ((i:Int)+1))])) qr=some (RwO.ob t.k_a4 ⟨qr,qdr,.ref a,.ref b,(i:Int)+1⟩):=a0c;have kt2:KT K J (upd J qr (.ins t.k_a4 qdr [(a3o,.ref a),(a3h,.ref b),(a4i,.int ((i:Int)+1))])):=kt2;have js2:JS K t.k_a1 t.k_a4 H0 (upd J qr (.ins t.k_a4 qdr [(a3o,.ref a),(a3h,.ref b),(a4i,.int ((i:Int)+1))])) j dx pd nl rl md me rw2 (st.reverse++[⟨qr,qdr,.ref a,.ref b,((i+1:Nat):Int)⟩]):=js2;have sa2:=kt2 _ _ sa;have sb2:=kt2 _ _ sb;have da2:=da.monoT kt2;have db2:=db.monoT kt2;have pe2:=pe.mono kt2;have kt02:=kt.trans kt2;generalize (upd J qr (.ins t.k_a4 qdr [(a3o,.ref a),(a3h,.ref b),(a4i,.int ((i:Int)+1))]))=J2 at js2 ho2 sa2 sb2 da2 db2 pe2 kt02 ⊢;have x1:us[i]? =some us[i]:=Zj qo
  have x2:us'[i]? =some us'[i]:=Zj qo
  obtain⟨_,z1⟩:=a5t da2 hi;obtain⟨_,z2⟩:=a5t db2 hi';have at1:atI us ((i:Int)+1-1)=some us[i]:=by
   rw[show(i:Int)+1-1=(i:Int) by omega];obtain⟨w1,w2,w3⟩:=a5k (xs:=us) (i:=(i:Int)) qo qo;rw[w2,<-w3];exact x1
  have at2:atI us' ((i:Int)+1-1)=some us'[i]:=by
   rw[show(i:Int)+1-1=(i:Int) by omega];obtain⟨w1,w2,w3⟩:=a5k (xs:=us') (i:=(i:Int)) qo qo;rw[w2,<-w3];exact x2
  have hsl:(st.reverse++[(⟨qr,qdr,.ref a,.ref b,((i+1:Nat):Int)⟩:RwO)]).length<=50:=by
   rw[Zl,Uc,Zy];omega
  ext
  exists zM js2.o (a7g qk)
  exists zG ho2 T.cl_a4 T.no_a4_lefts b9x
  exists zG ho2 T.cl_a4 T.no_a4_taken a7p
  exists a0k sa2 at1
  exists zG ho2 T.cl_a4 T.no_a4_rights c6c
  exists zG ho2 T.cl_a4 T.no_a4_taken a7p
  exists a0k sb2 at2
  cases un with
  | @go _ _ _ p' _ _ _ l r _ n1 m1 c w1 w2 okp hpl un=>
   refine⟨H0,dx,pd,nl,rl,md,me,rw2,_,ks[i],ls[i],n1,m1,l,r,js2,z1,z2,w1,w2,okp,hsl,?_⟩;rw[hpl];refineλJ3 k3 js3=>?_
   ext;exact hnx _ _ (2*c+(st.length+1)) qo ⟨.non,_,rfl,kt02.trans k3,.inl ⟨rfl,me,p',⟨qr,qdr,.ref a,.ref b,((i+1:Nat):Int)⟩::st,_,c,by rw[Yz];exact js3,.cons (k3 _ _ sa2) (da2.monoT k3) (k3 _ _ sb2) (db2.monoT k3) hlen hi hsz (pe2.mono k3),un,hst,hme,rfl⟩⟩
  | @part _ _ _ _ l r _ n1 m1 ka kb w1 w2 okp hpl=>
   refine⟨H0,dx,pd,nl,rl,md,me,_,_,ks[i],ls[i],n1,m1,l,r,js2,z1,z2,w1,w2,okp,hsl,?_⟩;rw[hpl];refineλw J3 k3 js3 hw=>?_
   obtain⟨rt,rfl⟩:=hw;ext;exact hnx _ _ 0 qo ⟨.ref rt,_,rfl,kt02.trans k3,.inr ⟨rfl,rfl,me,⟨qr,qdr,.ref a,.ref b,((i+1:Nat):Int)⟩,st,rt,by rw[Yz];exact js3,rfl⟩⟩
  | @kids _ _ _ _ _ l r _ n1 m1 c s2 ks2 ls2 w1 w2 okp hpl un=>
   have hst0:=hme rfl;obtain⟨el,er,hl2⟩:=pk hpl;have hz2:ks2.length<=60:=by
    have h1:=okp.zl;have h2:=Trm.len_le ks2;rw[el,Trm.size]at h1;omega
   refine⟨H0,dx,pd,nl,rl,md,true,rw2,_,ks[i],ls[i],n1,m1,l,r,js2,z1,z2,w1,w2,okp,hsl,?_⟩;rw[hpl];refine⟨rfl,λJ3 r3 dr3 a3 b3 us3 us3' k3 js3 g1 g2 g3 g4=>?_⟩;ext;have js3:JS K t.k_a1 t.k_a4 H0 J3 j dx pd nl rl md false rw2 ((⟨r3,dr3,.ref a3,.ref b3,((0:Nat):Int)⟩:RwO)::⟨qr,qdr,.ref a,.ref b,((i+1:Nat):Int)⟩::st).reverse:=by
    rw[Yz,Yz];exact js3
   have pe3:Pend K J3 ((⟨r3,dr3,.ref a3,.ref b3,((0:Nat):Int)⟩:RwO)::⟨qr,qdr,.ref a,.ref b,((i+1:Nat):Int)⟩::st) ((ks2.drop 0).zip (ls2.drop 0)++((ks.drop (i+1)).zip (ls.drop (i+1))++rest)):=.cons g1 g2 g3 g4 hl2 (Z0 _) hz2 (.cons (k3 _ _ sa2) (da2.monoT k3) (k3 _ _ sb2) (db2.monoT k3) hlen hi hsz (pe2.mono k3));exact hnx _ _ (2*c+(st.length+1+1)) qo ⟨.non,_,rfl,kt02.trans k3,.inl ⟨rfl,false,rw2,_,_,c,js3,pe3,un,by rw[length_cons,length_cons];omega,λz=>(by cases z),rfl⟩⟩
end
section
variable{P:Program}{w:World}{K:W.Frag}{mg:Str->Option Value}{base:Heap}{t:Ad}
theorem c3x(T:Txt K mg t)  :FnOk P w K mg base CX0 1 t.a_f5 t.d_f5 ["self","goal","rules","todo","numbers","noted_then"] (b4u t.k_a2):=by
 exists T.F_f5.ok c3o,(a0d (a1i (mv 0) (mv 1) rfl) (a0d (a1i (mv 0) (mv 2) rfl) (a0d (a1i (mv 0) (mv 3) rfl) (a0d (a1i (mv 0) (mv 4) rfl) (a0g (a1i (mv 0) (mv 5) rfl)))))),H,Q,E,hr,h
 rename_i a g1 r1 t1 n1 k1;obtain⟨dw,hx,q⟩:=h;ext
 exists sZ hx T.cl_a2 T.no_a2_goal qz
 exists sZ a0c T.cl_a2 T.no_a2_rules (a1y a6m)
 exists sZ a0c T.cl_a2 T.no_a2_todo (a1y (a1y a6m))
 exists sZ a0c T.cl_a2 T.no_a2_numbers (a1y (a1y (a1y a6m)))
 refine sZ a0c T.cl_a2 T.no_a2_noted_then (a1y (a1y (a1y (a1y a6m)))) ?_;refine q _ (λc o hc ho=>?_) a0c;rw[a0f hc,a0f hc,a0f hc,a0f hc,a0f hc];exact ho
theorem b7y(T:Txt K mg t)  :FnOk P w K mg base CX0 1 t.a_b2 t.d_b2 ["self","end"] (a4n K t.k_a0 t.k_a2):=by
 exists T.F_b2.ok b7d,(a0d (a1i (mv 0) (mv 1) rfl) (a0g (a0o a4b))),H,Q,E,hr,h
 rename_i r v;obtain⟨H0,dx,o,G,s,d,ra,hv,q⟩:=h;ext;refine sZ ra.ob T.cl_a0 T.no_a0_end (by show 15<1000;decide) ?_;rw[rp_end];ext;exact q _ (ra.setr (s':={ s with en:=some d}) ra.td ra.nb ra.us ra.ct hv rfl rfl rfl).1
theorem c3c(T:Txt K mg t)(G_f5:FnOk P w K mg base CX0 1 t.a_f5 t.d_f5 ["self","goal","rules","todo","numbers","noted_then"] (b4u t.k_a2)):FnOk P w K mg base CX0 3 t.a_c2 t.d_c2 ["self","goal","rules"] (a8t K t.k_a0 t.k_a2):=by
 exists T.F_c2.ok c2f,(a0g (a1m (a2p K rfl Z4 Yv Y1 a2j (a0r (mv 0) rfl) (a0a (b0a T.mk_a2 G_f5 hr.o rfl T.m_a2 T.b_f5 .nil a0m (a0a (mv 1) (a0a (mv 2) (a0a (a0r (mv 0) rfl) (a0a (a0r (mv 0) rfl) (a0a (a1s (a2x K rfl) rfl T.n_f4 Yw (a0a (a0r (mv 0) rfl) a0b)) a0b)))))) a0b)))),H,Q,E,hr,h
 rename_i r gv rv;obtain⟨H0,dx,o,G,s,goal,rules,ra,bd,hg,hru,q⟩:=h;obtain⟨us,hl,hw⟩:=ra.left;have wl:us.length=s.left.length:=hw.length;have b1:=bd.l;ext
 exists zG ra.ob T.cl_a0 T.no_a0_left b0u
 refine⟨.inl ⟨rfl,_,SqL.of hl⟩,?_⟩;ext
 exists zG ra.ob T.cl_a0 T.no_a0_todo b0s
 exists zG ra.ob T.cl_a0 T.no_a0_numbers a8c
 exists zG ra.ob T.cl_a0 T.no_a0_noted b1z
 exists a4h (SqL.of ra.note)
 refineλa dw ha1 ha2 hne=>?_
 refine⟨dw,a0c,λH1 bt ho=>⟨rfl,?_⟩⟩;have s1:Same H H1:=a9i ha1 ha2 bt;have ra1:=ra.same s1;rw[c5c]at ho;ext;refine a2f (s1 _ _ hl) (ln1 qo) ?_;obtain⟨ra2,p2⟩:=ra1.setl (us:=us++[.ref a]) (l:=s.left++[⟨goal,rules,s.todo,s.nums,s.rows.length⟩]) (Sf (Paired.mapP hw λ_ _ z=>z.pr (.same s1)) ⟨a,dw,gv,rv,.ref o.td,.ref o.nb,rfl,ho,ra.notM ha1,hg.mono s1,hru.pr (.same s1),ra1.td,ra1.nb⟩);ext;exact q _ ((Pr.same s1).trans p2) ra2
theorem b6d(T:Txt K mg t)(G_c0:FnOk P w K mg base CX0 1 t.a_c0 t.d_c0 ["goal"] (b1w K))(G_c2:FnOk P w K mg base CX0 3 t.a_c2 t.d_c2 ["self","goal","rules"] (a8t K t.k_a0 t.k_a2)):FnOk P w K mg base CX0 4 t.a_e3 t.d_e3 ["self","goal"] (a8u K t.k_a0 t.k_a2):=by
 exists T.F_e3.ok a8r,(a0d (a0p (i:=2) (hs:=a1n) a8r.nd rfl (by nofun) (d1n (a5l hr) (a0r (mv 0) rfl) (a0l G_c0 hr.o rfl T.m_c0 T.F_c0.kp T.b_c0 .nil a0m (a0a (mv 1) a0b)) (a1e a0b) ⟨rfl,rfl,rfl,rfl⟩)) (a0d (a1d (a2k K rfl (mv 2)) (a0g (a1m (a2s (mv 0) T.cl_a0 T.me_c2 G_c2 hr.o T.b_c2 .nil a0m (a0a (mv 1) (a0a (mv 2) a0b))))) a0u) (a0g (a0o a4b)))),H,Q,E,hr,h
 rename_i r gv;obtain⟨H0,dx,o,G,s,w1,ks,ra,bd,hg,q⟩:=h;obtain⟨kvs,hk,tb⟩:=ra.rls;ext
 exists zG ra.ob T.cl_a0 T.no_a0_rules d3i
 refine⟨o.rl,rfl,.inr ⟨kvs,.inl hk⟩,?_⟩;ext;refine⟨w1,ks,hg,λp H1 s1 hp=>?_⟩;ext;refine⟨ln (by show 0<=100000;decide),λp2 hp2=>?_⟩;have sp2:Same H1 (upd H1 p2 (.lst [])):=a0h hp2 _;have kp2:(upd H1 p2 (.lst [])) p2=some (.lst []):=a0c;generalize upd H1 p2 (.lst [])=H2 at sp2 kp2 ⊢;ext;have s2:=s1.trans sp2;have ra2:=ra.same s2;have tb2:=tb.pr (.same s2);refine⟨_,DGet.t (s2 _ _ hk) (sp2 _ _ hp),?_⟩;have np2:p2∉o.M r:=(ra.same s1).notM hp2;have hD:Dm K H2 (o.M r) ((valV kvs (nd w1 ks.length)).getD (.ref p2)) (rlD (a1x G.tab (nd w1 ks.length))):=by
  rcases c5b tb2 (nd w1 ks.length)with⟨e1,e2⟩|⟨v,e1,e2⟩
  ·rw[e1,e2];exact .lst kp2 np2 .nil
  ·rw[e1];exact e2
 unfold askS at q;generalize (valV kvs (nd w1 ks.length)).getD (.ref p2)=fv at hD ⊢;generalize a1x G.tab (nd w1 ks.length)=rules at hD q;obtain⟨a,us,rfl,ha,hn,hd⟩:=b8u hD;have hul:=hd.length;rw[length_map]at hul;ext;refine .inl ⟨us,SqL.of ha,?_⟩;ext;cases rules with
 |nil=>
  cases hd;walk_at "C";exact q _ ra2
 |cons x rest=>
  rw[if_neg qz]at q;have e:(!us.isEmpty)=true:=by
   cases us with
   |nil=>simp at hul
   |cons _ _=>rfl
  rw[e];walk_at "D"
  exists zM ra2.ob (a4m qk)
  refine⟨H0,dx,o,G,s,.app w1 ks,x::rest,ra2,bd,hg.mono s2,hD,λH3 p3 ra3=>?_⟩;ext;exact q _ ra3
theorem b7z(T:Txt K mg t)(G_e2:FnOk P w K mg base CX0 5 t.a_e2 t.d_e2 ["self","one","other"] (a5w K t.k_a1 t.k_a4))(G_f7:FnOk P w K mg base CX0 1 t.a_f7 t.d_f7 ["self","puts","noted"] (a9h K t.k_a1)):FnOk P w K mg base CX0 6 t.a_e8 t.d_e8 ["self","one","other"] (a9j K t.k_a0 t.k_a2):=by
 exists T.F_e8.ok b7e,(a0g (a0o (a2a b6t (a2s (b0a T.mk_a1 G_f7 hr.o rfl T.m_a1 T.b_f7 .nil a0m (a0a (a0r (mv 0) rfl) (a0a (a0r (mv 0) rfl) a0b))) T.cl_a1 T.me_e2 G_e2 hr.o T.b_e2 .nil a0m (a0a (mv 1) (a0a (mv 2) a0b))) a5i (a0t _)))),H,Q,E,hr,h
 rename_i r v v';obtain⟨H0,dx,o,G,s,t0,t1,okk,q0,c0,ra,hd,hd',un,q⟩:=h;obtain⟨kvs,e0,ok⟩:=ra.put.ex;ext
 exists zG ra.ob T.cl_a0 T.no_a0_puts b0t
 exists zG ra.ob T.cl_a0 T.no_a0_noted b1z
 refineλj dj hj hdj hne=>?_
 refine⟨dj,a0c,λrl md H3 hrl hmd hrm bt ho kr km=>⟨rfl,?_⟩⟩;have s3:Same H H3:=a9i hj hdj bt;have hrl2:H rl=none:=by
  cases e:H rl with
  |none=>rfl
  |some o=>
   have z1:rl≠j:=λz=>by rw[z,a0c]at hrl;cases hrl
   have z2:rl≠dj:=λz=>by rw[z,a0f hne,a0c]at hrl;cases hrl
   rw[a0f z1,a0f z2,e]at hrl;cases hrl
 have hmd2:H md=none:=by
  cases e:H md with
  |none=>rfl
  |some o=>
   have z1:md≠j:=λz=>by rw[z,a0c]at hmd;cases hmd
   have z2:md≠dj:=λz=>by rw[z,a0f hne,a0c]at hmd;cases hmd
   rw[a0f z1,a0f z2,e]at hmd;cases hmd
 have js3:JS K t.k_a1 t.k_a4 H H3 j dj o.pd o.nl rl md true s.rows []:=⟨(Kp2.refl _ _ H).same s3,ho,ra.put.mono s3,s3 _ _ ra.note,kr,⟨_,km,(λ_ z=>by cases z),(λ_ z=>by cases z),(λ_ _ z=>by cases z),(λ_ _ _ z=>by cases z),λ_=>rfl⟩,(λq hq=>by simp at hq),(by simp),hj,hrl2,hmd2,a0w ra.note hrl2,Ne.symm (a0w e0 hmd2)⟩;ext
 exists zM js3.o (a7g qk)
 refine⟨H,dj,o.pd,o.nl,rl,md,s.rows,t0,t1,okk,q0,c0,js3,hd.mono s3,hd'.mono s3,un,λw4 H4 k4 t4 p4 n4 hw=>?_⟩;obtain⟨ra4,pr4⟩:=ra.setp k4 ((KT.same s3).trans t4) p4 n4;rcases hw with⟨rfl,rfl⟩|⟨rfl,rt,rfl⟩
 ·ext;exact q _ pr4 ra4
 ·ext;exact q _ pr4 ra4
end
section
variable{P:Program}{w:World}{K:W.Frag}{mg:Str->Option Value}{base:Heap}{t:Ad}
theorem b8a(T:Txt K mg t)(G_c2:FnOk P w K mg base CX0 3 t.a_c2 t.d_c2 ["self","goal","rules"] (a8t K t.k_a0 t.k_a2))(G_e8:FnOk P w K mg base CX0 6 t.a_e8 t.d_e8 ["self","one","other"] (a9j K t.k_a0 t.k_a2))(G_c6:FnOk P w K mg base CX0 73 t.a_c6 t.d_c6 ["term","n"] (b9v K)):FnOk P w K mg base CX0 74 t.a_e5 t.d_e5 ["self","way"] (a9k K t.k_a0 t.k_a2):=by
 exists T.F_e5.ok a6i,(a0d (a0p (i:=2) (hs:=a1n) a6i.nd rfl (by nofun) (a1s (a2x K rfl) rfl T.n_f4 Yw (a0a (a0r (mv 0) rfl) a0b))) (a0d (a0p (i:=3) (hs:=a6c) a6i.nd rfl (by nofun) (a0n (a0j K rfl) (a0r (mv 1) rfl) a0e (λ_ _=>rfl))) (a0d (a1d (a0z b3y (a1s (a2x K rfl) rfl T.n_f4 Yw (a0a (a0r (mv 1) rfl) a0b)) a0e (a0t _)) (a0g (a1m (a2s (mv 0) T.cl_a0 T.me_c2 G_c2 hr.o T.b_c2 .nil a0m (a0a (a0r (mv 1) rfl) (a0a (a5o (a6u K rfl) (a0r (mv 1) rfl) (a6s a0e) a6q) a0b))))) a0u) (a0d (b2l (mv 0) a0e b2q) (a0d (a1d (a9y (a2k K rfl (a2s (mv 0) T.cl_a0 T.me_e8 G_e8 hr.o T.b_e8 .nil a0m (a0a (a0l G_c6 hr.o rfl T.m_c6 T.F_c6.kp T.b_c6 .nil a0m (a0a (a0n (a0j K rfl) (mv 3) a0e (λ_ _=>rfl)) (a0a (a0r (mv 0) rfl) a0b))) (a0a (a0r (mv 1) rfl) a0b))))) (a0g (a0o a4b)) a0u) (a0d (a1i (mv 0) (a1h (a1t K rfl) (a5a rfl (a2e K rfl (a0n (a0j K rfl) (mv 3) a0e (λ_ _=>rfl))) (a4k (a0i a5c) ["self","way","height","tried"] ["self","way","height","tried"] rfl rfl qk) (λ_ _ _ _ _=>a4j) (λ_ _ _ _ _=>(a0s (a0a (a0l G_c6 hr.o rfl T.m_c6 T.F_c6.kp T.b_c6 .nil a0m (a0a (mv 0) (a0a (c1x K rfl (mv 1) rfl) a0b))) (a0a (mv 3) a0b))))) (a0r (mv 0) rfl)) rfl) (a0d (a1i (mv 0) (a1h (a1t K rfl) (a0r (mv 0) rfl) (a1e (a0a (a0n (a0j K rfl) (mv 3) a0e (λ_ _=>rfl)) a0b))) rfl) (a0g (a0o a4b))))))))),H,Q,E,hr,h
 rename_i r wv;obtain⟨H0,dx,o,G,s,w1,x,rest,okk,q0,c0,ra,bd,hw,hr1,rok,hrl,un,q⟩:=h;obtain⟨wa,dw,gv,rv,tv,nv,rfl,how,hwn,hg,hru,htd,hnb⟩:=hw;rw[hr1]at hru hrl;obtain⟨rla,us,rfl,hrla,hrn,hrd⟩:=b8u hru;rw[Z5]at hrd;cases hrd with
 | @cons u us' _ _ hu hus=>
 have hul:=hus.length;rw[length_map]at hul;rw[length_cons]at hrl;obtain⟨ta,hv,gl,ug,rfl,hts,hh,hgl,hgn,hgd⟩:=rl_tup hu;have hgl':=a3b hgd;obtain⟨uw,hl,hww⟩:=ra.left;have wl:uw.length=s.left.length:=hww.length;have b1:=bd.l;have b2:=bd.u;have b3:=bd.t;have b4:=bd.n;have b5:=rok.g0;ext
 exists zG ra.ob T.cl_a0 T.no_a0_left b0u
 exists a4h (SqL.of hl)
 exists zG how T.cl_a2 T.no_a2_rules b2c
 refine a2l (SqL.of hrla) (b4i _ _) ?_;walk_at "gn"
 (with_reducible refine a2m (λσ' H'=>σ'=[some (.ref r),some (.ref wa),some (.int (uw.length:Int)),some (.ref ta)]/\Pr K (o.M r) H H'/\a0y K t.k_a0 t.k_a2 H0 H' r dx o G { s with left:=if rest.isEmpty=true then s.left else s.left++[⟨w1.goal,rest,s.todo,s.nums,s.rows.length⟩]}) (λσ' H2 hP=>?_) (λk=>?_))
 rotate_left
 ·ext
  exists zG how T.cl_a2 T.no_a2_rules b2c
  exists a4h (SqL.of hrla)
  exists e
  ·have e:(1:Int)<(us'.length+1:Nat):=Z8 e;have ne:rest.isEmpty=false:=by
    cases rest with
    |nil=>rw[length_nil]at hul;omega
    |cons _ _=>rfl
   ext
   exists zM ra.ob (a4m qk)
   exists zG how T.cl_a2 T.no_a2_goal c5a
   exists zG how T.cl_a2 T.no_a2_rules b2c
   refine⟨rla,_,rfl,SqL.of hrla,λp hp=>?_⟩;rw[b1v _ 1 qd,show(V.ref ta::us').drop (1:Int).toNat=us' from rfl];have s1:Same H (upd H p (.lst us')):=a0h hp _;have k1:(upd H p (.lst us')) p=some (.lst us'):=a0c;generalize upd H p (.lst us')=H1 at s1 k1 ⊢;ext;refine⟨H0,dx,o,G,s,w1.goal,rest,ra.same s1,bd,hg.mono s1,.lst k1 (ra.notM hp) (hus.pr (.same s1)),λH2 p2 ra2=>?_⟩;refine k _ _ ⟨rfl,(Pr.same s1).trans p2,?_⟩;rw[ne];exact ra2
  ·have e:¬(1:Int)<(us'.length+1:Nat):=Xx e;have ne:rest=[]:=List.length_eq_zero_iff.mp qo;walk_at "nx";refine k _ _ ⟨rfl,.refl,?_⟩;rw[ne];exact ra
 obtain⟨rfl,p2,ra2⟩:=hP;ext;refine⟨r,_,dx,_,_,rfl,ra2.ob,T.cl_a0,T.no_a0_uses,b8s,?_⟩;ext;refine⟨dx,_,ra2.ob,by show 15<1000;decide,?_⟩;rw[rp_uses];have eus:o.us+1=((s.us+1:Nat):Int):=by rw[ra.us];omega
 obtain⟨ra3,p3⟩:=ra2.setr (s':={ s with left:=if rest.isEmpty=true then s.left else s.left++[⟨w1.goal,rest,s.todo,s.nums,s.rows.length⟩],us:=s.us+1}) (us':=o.us+1) ra2.td ra2.nb eus ra2.ct ra2.en rfl rfl rfl;have p03:Pr K (o.M r) H (upd H2 r (.ins t.k_a0 dx { o with us:=o.us+1}.fs)):=p2.trans p3;generalize upd H2 r (.ins t.k_a0 dx { o with us:=o.us+1}.fs)=H3 at ra3 p03 ⊢;clear ra2 p2 p3;ext
 exists zM ra3.ob (a4m qk)
 exists a0k (p03.kt _ _ hts) (v:=hv) rfl
 exists zG ra3.ob T.cl_a0 T.no_a0_uses b8s
 refine⟨x.head,hh.monoT p03.kt,by have:=rok.h1;omega,by show 0<=o.us+1;rw[eus];omega,by show o.us+1<_;rw[eus];omega,rok.h2,λmv4 H4 s4 d4=>?_⟩;have p04:=p03.trans (.same s4);have ra4:=ra3.same s4;rw[eus,Uu]at d4;ext
 exists zG (p04.kp _ _ hwn how) T.cl_a2 T.no_a2_goal c5a
 refine⟨H0,dx,{ o with us:=o.us+1},G,_,_,w1.goal,okk,q0,c0,ra4,d4,hg.monoT p04.kt,un,λH5 p5 ra5=>?_⟩;have p05:=p04.trans p5;ext;cases okk with
 |false=>
  walk_at "D";exact q _ _ _ _ ra5
 |true=>
 walk_at "C";refine a0k (p05.kt _ _ hts) (v:=.ref gl) rfl ?_;have hgl5:=p05.kp _ _ hgn hgl;refine⟨gl,rfl,⟨_,SqL.of hgl5⟩,λD hD=>?_⟩;refine a3q (a2d (xs:=ug)) (λi ys J=>Same H5 J/\J D=some (.lst ys)/\DenL K J ys (((x.goals.take i).map λg=>(ren (mrk (s.us+1)) g,s.left.length)).map tdE)) (ln qo) ⟨a0h hD _,a0c,.nil⟩ (λi ys J hP=>SqL.of (hP.1 _ _ hgl5)) (λi ys J Q' hi hl' hP k=>?_) (λys J hl' hP=>?_)
 ·obtain⟨g1,g2,g3⟩:=hP;have hki:i<x.goals.length:=by omega
  obtain⟨hui,dk⟩:=a5t hgd hki;have raJ:=ra5.same g1;ext;rw[getD_at hui]
  exists zG raJ.ob T.cl_a0 T.no_a0_uses b8s
  refine⟨x.goals[i],(dk.monoT p05.kt).mono g1,by have:=rok.g1 _ (Yq hki);omega,by show 0<=o.us+1;rw[eus];omega,by show o.us+1<_;rw[eus];omega,rok.g2 _ (Yq hki),λmv6 J2 s6 d6=>?_⟩;have d6:Den K J2 mv6 (ren (mrk (o.us+1).toNat) x.goals[i]).data:=d6;rw[eus,Uu]at d6;ext;refine⟨ln (by show 2<=100000;decide),λp7 hp7=>?_⟩;have s7:=a0h hp7 (.tup [mv6,.int (uw.length:Int)]);have g6:=(s6.trans s7) _ _ g2;refine k _ _ g6 ⟨a1c (g1.trans (s6.trans s7)) hD,a0c,?_⟩;rw[take_succ' hki,Zo,Zo];exact((g3.mono (s6.trans s7)).append (.cons (.tup (SqT.of a0c) (.cons (d6.mono s7) (.cons (by rw[wl];exact .int _) .nil))) .nil)).lst g6
 obtain⟨g1,g2,g3⟩:=hP;rw[Yo qo]at g3;have raJ:=ra5.same g1;have p0J:=p05.trans (.same g1);obtain⟨ut,ht,htn,hte⟩:=c5d raJ.td;have hul2:=hte.length;rw[length_map]at hul2;have hul2:ut.length=s.todo.length:=hul2;ext
 exists zG raJ.ob T.cl_a0 T.no_a0_todo b0s
 refine a6a g2 ht (ln qo) λp8 hp8=>?_
 have s8:=a0h hp8 (.lst (ys++ut));have k8:(upd J p8 (.lst (ys++ut))) p8=some (.lst (ys++ut)):=a0c;have n8:p8∉o.M r:=raJ.notM hp8;generalize upd J p8 (.lst (ys++ut))=H8 at s8 k8 ⊢;have ra8:=raJ.same s8;have p08:=p0J.trans (.same s8);have d8:Dm K H8 (o.M r) (.ref p8) (tdD (x.goals.map (λg=>(ren (mrk (s.us+1)) g,s.left.length))++s.todo)):=.lst k8 n8 (by rw[Zo];exact(DenL.dm (g3.mono s8)).append (hte.pr (.same s8)));ext;refine sZ ra8.ob T.cl_a0 T.no_a0_todo (by show 15<1000;decide) ?_;rw[b8t];obtain⟨ra9,p9⟩:=ra8.setr (td':=p8) (s':={ s with left:=if rest.isEmpty=true then s.left else s.left++[⟨w1.goal,rest,s.todo,s.nums,s.rows.length⟩],us:=s.us+1,rows:=q0,todo:=x.goals.map (λg=>(ren (mrk (s.us+1)) g,s.left.length))++s.todo}) d8 ra8.nb ra8.us ra8.ct ra8.en rfl rfl rfl;have p09:Pr K (o.M r) H (upd H8 r (.ins t.k_a0 dx { o with us:=o.us+1,td:=p8}.fs)):=p08.trans p9;generalize upd H8 r (.ins t.k_a0 dx { o with us:=o.us+1,td:=p8}.fs)=H9 at ra9 p09 ⊢;obtain⟨hnb9,nnb9⟩:=b4h ra9.nb;ext
 exists zG ra9.ob T.cl_a0 T.no_a0_numbers a8c
 exists a0k (p09.kt _ _ hts) (v:=.int (x.n:Int)) rfl
 refine⟨ln (by show 1<=100000;decide),λpA hpA=>?_⟩;have spA:Same H9 (upd H9 pA (.lst [.int (x.n:Int)])):=a0h hpA _;have kpA:(upd H9 pA (.lst [.int (x.n:Int)])) pA=some (.lst [.int (x.n:Int)]):=a0c;generalize upd H9 pA (.lst [.int (x.n:Int)])=HA at spA kpA ⊢;ext;refine a6a (spA _ _ hnb9) kpA (ln (by rw[length_map];show s.nums.length+1<=_;omega)) λpB hpB=>?_
 have sB:=a0h hpB (.lst ((s.nums.map V.int)++[.int (x.n:Int)]));have kB:(upd HA pB (.lst ((s.nums.map V.int)++[.int (x.n:Int)]))) pB=some (.lst ((s.nums++[(x.n:Int)]).map V.int)):=by rw[Zo];exact a0c
 have raA:=ra9.same spA;have nB:pB∉o.M r:=raA.notM hpB;have raB:=raA.same sB;ext;refine sZ raB.ob T.cl_a0 T.no_a0_numbers (by show 15<1000;decide) ?_;rw[b2b];obtain⟨raC,pC⟩:=raB.setr (nb':=pB) (s':={ s with left:=if rest.isEmpty=true then s.left else s.left++[⟨w1.goal,rest,s.todo,s.nums,s.rows.length⟩],us:=s.us+1,rows:=q0,todo:=x.goals.map (λg=>(ren (mrk (s.us+1)) g,s.left.length))++s.todo,nums:=s.nums++[(x.n:Int)]}) raB.td (b7k kB nB) raB.us raB.ct raB.en rfl rfl rfl;ext;exact q _ _ _ _ raC
end
section
variable{P:Program}{w:World}{K:W.Frag}{mg:Str->Option Value}{base:Heap}{t:Ad}
theorem b9d(T:Txt K mg t)(G_b2:FnOk P w K mg base CX0 1 t.a_b2 t.d_b2 ["self","end"] (a4n K t.k_a0 t.k_a2))(G_e5:FnOk P w K mg base CX0 74 t.a_e5 t.d_e5 ["self","way"] (a9k K t.k_a0 t.k_a2)):FnOk P w K mg base CX0 75 t.a_f2 t.d_f2 ["self"] (b0v K t.k_a0 t.k_a2):=by
 exists T.F_f2.ok b0n,(a0d (a1d (a9y (a2k K rfl (a0r (mv 0) rfl))) (a0g (a0o (a2s (mv 0) T.cl_a0 T.me_b2 G_b2 hr.o T.b_b2 .nil a0m (a0a (a0s (a0a a0v a0b)) a0b)))) a0u) (a0d (a0p (i:=1) (hs:=a1n) b0n.nd rfl (by nofun) (b0f K rfl Z4 W7 Vk b0e (a0r (mv 0) rfl))) (a0d (a5n Yj (a0z b3y (a1s (a2x K rfl) rfl T.n_f4 Yw (a0a (a0r (mv 0) rfl) a0b)) (a0r (mv 1) rfl) (a0t _)) (a0g (a1m (a2p K rfl T6 F.slot_dict_pop F.type_dict_pop mm_popK (a0r (mv 0) rfl) (a0a (b0f K rfl Z4 W7 Vk b0e (a0r (mv 0) rfl)) a0b))))) (a0d (a1i (mv 0) (a0r (mv 1) rfl) rfl) (a0d (a1i (mv 0) (a0r (mv 1) rfl) rfl) (a0d (a1d (a2k K rfl (a0r (mv 1) rfl)) (a0g (a0o (a2s (mv 0) T.cl_a0 T.me_e5 G_e5 hr.o T.b_e5 .nil a0m (a0a (mv 1) a0b)))) a0u) (a0d a4c (a0g (a0o a4b))))))))),H,Q,E,hr,h
 rename_i r;obtain⟨H0,dx,o,G,s,bb,s',ra,bk,q⟩:=h;obtain⟨uw,hl,hww⟩:=ra.left;ext
 exists zG ra.ob T.cl_a0 T.no_a0_left b0u
 refine .inl ⟨_,SqL.of hl,?_⟩;cases bk with
 |all hz=>
  rw[hz]at hww;cases hww;walk_at "D"
  exists zM ra.ob (a4m qk)
  refine⟨ln (by show 1<=100000;decide),λp1 hp1=>?_⟩;have sp1:Same H (upd H p1 (.tup [.str "all"])):=a0h hp1 _;have kp1:(upd H p1 (.tup [.str "all"])) p1=some (.tup [.str "all"]):=a0c;generalize upd H p1 (.tup [.str "all"])=H1 at sp1 kp1 ⊢;ext;refine⟨H0,dx,o,G,s,endT allS,ra.same sp1,.tup (SqT.of kp1) (.cons (.str _) .nil),λH2 ra2=>?_⟩;ext;exact q _ _ _ _ _ _ ra2
 | @try_ l w1 x rest _ q0 c0 hz bd nod hr1 hr2 rok hnt ht1 hn1 un=>
 rw[hz]at hww;obtain⟨ul,wv,rfl,hwl,hw⟩:=b4v hww;have hw':=hw;obtain⟨wa,dw,gv,rv,tv,nv,rfl,how,hwn,hg,hru,htd,hnb⟩:=hw;rw[show(!(ul++[V.ref wa]).isEmpty)=true by simp];walk_at "C"
 exists zG ra.ob T.cl_a0 T.no_a0_left b0u
 refine⟨.inl ⟨rfl,_,SqL.of hl⟩,?_⟩;refine b0g hl ?_;obtain⟨ra1,p1⟩:=ra.setl (us:=ul) (l:=l) hwl;generalize upd H o.lf (.lst ul)=H1 at ra1 p1 ⊢;walk_at "gn";have hb1:=bd.r
 (with_reducible refine a2m (λσ' H'=>σ'=[some (.ref r),some (.ref wa)]/\Pr K (o.M r) H H'/\a0y K t.k_a0 t.k_a2 H0 H' r dx o G { s with left:=l,rows:=s.rows.take w1.nt}) (λσ' H2 hP=>?_) (λk=>?_))
 rotate_left
 ·refine a4q (λn σ' J=>σ'=[some (.ref r),some (.ref wa)]/\Pr K (o.M r) H J/\∃m,w1.nt<=m/\m<=s.rows.length/\n=m-w1.nt/\a0y K t.k_a0 t.k_a2 H0 J r dx o G { s with left:=l,rows:=s.rows.take m}) (s.rows.length-w1.nt) ⟨rfl,p1,s.rows.length,hnt,Zn _,rfl,by rw[Yx];exact ra1⟩ (λn σ' J R hP kT kF=>?_);obtain⟨rfl,pJ,m,hm1,hm2,hn,raJ⟩:=hP;have hrl:(s.rows.take m).length=m:=by rw[Z7];omega
  have how2:=pJ.kp _ _ hwn how;ext
  exists zG raJ.ob T.cl_a0 T.no_a0_noted b1z
  refine a4h (SqL.of raJ.note) ?_;rw[c5c];ext
  exists zG how2 T.cl_a2 T.no_a2_noted_then c0o
  rw[show((({ s with left:=l,rows:=s.rows.take m}:St).rows).length:Int)=(m:Int) by show((s.rows.take m).length:Int)=_;rw[hrl]]
  by_cases e:(w1.nt:Int)<(m:Int)
  ·rw[Ye e];refine kT J (λD' e1 e2 hnx hct=>?_);ext
   exists zG raJ.ob T.cl_a0 T.no_a0_puts b0t
   obtain⟨kvs,k1,k2⟩:=raJ.put.ex;refine⟨.inr (.inr (.inl ⟨rfl,.inl ⟨kvs,k1⟩⟩)),?_⟩;ext
   exists zG raJ.ob T.cl_a0 T.no_a0_noted b1z
   refine⟨.inl ⟨rfl,_,SqL.of raJ.note⟩,?_⟩;have hm3:m-1<s.rows.length:=by omega
   have et:s.rows.take m=s.rows.take (m-1)++[s.rows[m-1]]:=by
    have:=take_succ' hm3;rw[show m-1+1=m by omega]at this;exact this
   have hnm:nms (s.rows.take m)=nms (s.rows.take (m-1))++[V.str (s.rows[m-1]).1]:=by rw[et,nms,Zo];rfl
   have hnote:J o.nl=some (.lst (nms (s.rows.take (m-1))++[V.str (s.rows[m-1]).1])):=by rw[<-hnm];exact raJ.note
   refine b0g hnote ?_;have npn:o.pd≠o.nl:=a1a k1 raJ.note (λz=>by cases z);have hx:(s.rows[m-1]).1∉(s.rows.take (m-1)).map (·.1):=by
    have h1:(s.rows.take m).map (·.1)=(s.rows.map (·.1)).take m:=V1 ..;have h2:((s.rows.take m).map (·.1)).Nodup:=by rw[h1];exact List.Sublist.nodup (List.take_sublist ..) nod
    rw[et,Zo,Xq]at h2;exactλz=>h2.2.2 _ z _ qz rfl
   have k2:a1z K J kvs (s.rows.take (m-1)++[((s.rows[m-1]).1,(s.rows[m-1]).2)]):=by have k2:a1z K J kvs (s.rows.take m):=k2;rw[et]at k2;exact k2
   obtain⟨g1,v9,g2⟩:=b9y k2 hx;ext;refine mPopK_i (k:=Sum.inr (s.rows[m-1]).1) rfl (by rw[a0f npn];exact k1) g2 ?_;have kt1:KT K J (upd J o.nl (.lst (nms (s.rows.take (m-1))))):=.upd raJ.note (λ_ z=>by cases z) (λ_ _ z=>by cases z);have kt2:KT K J (upd (upd J o.nl (.lst (nms (s.rows.take (m-1))))) o.pd (.dK (a4l kvs (Sum.inr (s.rows[m-1]).1)))):=kt1.trans (.upd (by rw[a0f npn];exact k1) (λ_ z=>by cases z) (λ_ _ z=>by cases z));obtain⟨ra3,p3⟩:=raJ.setp (q:=s.rows.take (m-1)) ((Kp2.refl _ _ J).nl.pd) kt2 ⟨_,a0c,g1.monoT kt2⟩ (by rw[a0f npn.symm];exact a0c);exact hnx _ _ (m-1-w1.nt) qo ⟨rfl,pJ.trans p3,m-1,qo,qo,rfl,ra3⟩
  ·rw[Z3 e];refine kF J ?_;have em:m=w1.nt:=by omega
   rw[em]at raJ;exact k _ _ ⟨rfl,pJ,raJ⟩
 obtain⟨rfl,p2,ra2⟩:=hP;have how2:=p2.kp _ _ hwn how;have htd2:=htd.pr p2;have hnb2:=hnb.pr p2;obtain⟨ta,rfl⟩:=td_ref htd2;obtain⟨na,rfl⟩:=c9y hnb2;ext
 exists zG how2 T.cl_a2 T.no_a2_todo wg_todo
 refine sZ ra2.ob T.cl_a0 T.no_a0_todo (by show 15<1000;decide) ?_;rw[b8t];obtain⟨ra3,p3⟩:=ra2.setr (td':=ta) (s':={ s with left:=l,rows:=s.rows.take w1.nt,todo:=w1.todo}) htd2 ra2.nb ra2.us ra2.ct ra2.en rfl rfl rfl;have p03:Pr K (o.M r) H (upd H2 r (.ins t.k_a0 dx { o with td:=ta}.fs)):=p2.trans p3;generalize upd H2 r (.ins t.k_a0 dx { o with td:=ta}.fs)=H3 at ra3 p03 ⊢;have how3:=p03.kp _ _ hwn how;ext
 exists zG how3 T.cl_a2 T.no_a2_numbers c6e
 refine sZ ra3.ob T.cl_a0 T.no_a0_numbers (by show 15<1000;decide) ?_;rw[b2b];obtain⟨ra4,p4⟩:=ra3.setr (nb':=na) (s':={ s with left:=l,rows:=s.rows.take w1.nt,todo:=w1.todo,nums:=w1.nums}) ra3.td (hnb.pr p03) ra3.us ra3.ct ra3.en rfl rfl rfl;have p04:Pr K (o.M r) H (upd H3 r (.ins t.k_a0 dx { o with td:=ta,nb:=na}.fs)):=p03.trans p4;generalize upd H3 r (.ins t.k_a0 dx { o with td:=ta,nb:=na}.fs)=H4 at ra4 p04 ⊢;have how4:=p04.kp _ _ hwn how;have hru4:=hru.pr p04;obtain⟨rla,us,rfl,hrla,hrn,hrd⟩:=b8u hru4;ext
 exists zG how4 T.cl_a2 T.no_a2_rules b2c
 refine .inl ⟨_,SqL.of hrla,?_⟩;have hne:(!us.isEmpty)=true:=by
  rw[hr1]at hrd;cases hrd;rfl
 rw[hne];walk_at "D"
 exists zM ra4.ob (a4m qk)
 have bl:=bd.l;rw[hz,Zl]at bl;refine⟨H0,dx,_,G,_,w1,x,rest,bb,q0,c0,ra4,⟨ht1,hn1,by show(s.rows.take w1.nt).length<=900;rw[Z7];omega,by show l.length<=900;omega,bd.a,bd.u,λy hy=>bd.z y (V5 hy)⟩,hw'.pr p04,hr1,rok,hr2,un,λtd' nb' us' H5 ra5=>?_⟩;ext;exact q _ _ _ _ _ _ ra5
end
section
variable{P:Program}{w:World}{K:W.Frag}{mg:Str->Option Value}{base:Heap}{t:Ad}
theorem b4m(T:Txt K mg t)(G_c1:FnOk P w K mg base CX0 2 t.a_c1 t.d_c1 ["term","puts","most"] (a6z K)):FnOk P w K mg base CX0 3 t.a_d9 t.d_d9 ["terms","puts"] (a7x K):=by
 exists T.F_d9.ok a3u,(a0d (a0p (i:=2) a3u.nd rfl (by nofun) a0e) (a0d (a3i Yj rfl (a2e K rfl (mv 0)) (a1f (i:=3) a3u.nd rfl (by nofun)) (a0g (c4m (i:=2) a3u.nd rfl (by nofun) (a0l G_c1 hr.o rfl T.m_c1 T.F_c1.kp T.b_c1 .nil a0m (a0a (mv 3) (a0a (mv 1) (a0a (a8f rfl T.m_g2) a0b)))) b2q))) (a0g (a0o (mv 2))))),H,Q,E,hr,h
 rename_i a pd;obtain⟨us,ts,ts',rows,hS,hd,hP,hF,hz,hz2,hl,q⟩:=h;have hul:=a3b hd;have hfl:=hF.len;ext;refine⟨a,rfl,⟨_,hS⟩,?_⟩;refine a3m (a2d (xs:=us)) (λi σ' J=>∃(o1:Option V),σ'=[some (.ref a),some (.ref pd),some (.int (sumU (ts'.take i))),o1]/\Same H J) ⟨none,rfl,Same.refl _⟩ (λi σ' J hP2=>by obtain⟨_,_,s1⟩:=hP2;exact s1.seq hS) (λi σ' J hi hP2=>?_) (λσ' J hP2=>?_)
 ·obtain⟨o1,rfl,s1⟩:=hP2;have hki:i<ts.length:=by omega
  have hki':i<ts'.length:=by omega
  obtain⟨hui,dk⟩:=a5t hd hki;obtain⟨l,l1,l2⟩:=hF.get (Zj hki);rw[Zj hki']at l1;have l1:ts'[i]=l:=Zw l1;rw[getD_at hui];ext;refine⟨rows,ts[i],ts'[i],hP.mono s1,dk.mono s1,by rw[l1];exact l2,hz _ (Yq hki),hz2,qd,qd,λJ2 s2=>?_⟩;ext;have e:sumU (ts'.take (i+1))=sumU (ts'.take i)+upTo ts'[i].size 40:=by
   rw[take_succ' hki'];unfold sumU;rw[Zo,List.sum_append]
   simp
  refine⟨some us[i],?_,s1.trans s2⟩;rw[e];rfl
 obtain⟨o1,rfl,s1⟩:=hP2;rw[show ts'.take us.length=ts' from Yo qo];ext;exact q _ s1
theorem b3t(T:Txt K mg t)(G_a8:FnOk P w K mg base CX0 73 t.a_a8 t.d_a8 ["terms"] (a6l K))(G_d9:FnOk P w K mg base CX0 3 t.a_d9 t.d_d9 ["terms","puts"] (a7x K))(G_b2:FnOk P w K mg base CX0 1 t.a_b2 t.d_b2 ["self","end"] (a4n K t.k_a0 t.k_a2))(G_b9:FnOk P w K mg base (CXo P w) 43 t.a_b9 t.d_b9 ["term","puts"] (a7a K t.k_c3)):FnOk P w K mg base CX0 74 t.a_f3 t.d_f3 ["self"] (a7q K t.k_a0 t.k_a2):=by
 exists T.F_f3.ok a7l,(a0d (a1d (a0z b3y (a0l G_d9 hr.o rfl T.m_d9 T.F_d9.kp T.b_d9 .nil a0m (a0a (a0r (mv 0) rfl) (a0a (a0r (mv 0) rfl) a0b))) (a8f rfl T.m_g2) (a0t _)) (a0g a4c) a0u) (a0d (a0p (i:=1) (hs:=a1n) a7l.nd rfl (by nofun) (a0l G_a8 hr.o rfl T.m_a8 T.F_a8.kp T.b_a8 .nil a0m (a0a (a5a rfl (a2e K rfl (a0r (mv 0) rfl)) (a4k (a0i a3t) ["self","terms"] ["self","terms"] rfl rfl qk) (λ_ _ _ _ _=>a4j) (λ_ _ _ _ _=>(a0l G_b9 hr.o rfl T.m_b9 T.F_b9.kp T.b_b9 .nil passN (a0a (mv 0) (a0a (c1x K rfl (mv 1) rfl) a0b))))) a0b))) (a0d (a1m (a2p K rfl Z4 Yv Y1 a2j (a0r (mv 0) rfl) (a0a (a0s (a0a (ZL.pe_listZip K rfl rfl rfl T.n_g0 rfl T.n_h4 (a0a (a0r (mv 0) rfl) (a0a (mv 1) a0b))) (a0a (a1o (a8g K rfl) rfl T.n_g0 Vy (a0a (a0r (mv 0) rfl) a0b)) a0b))) a0b))) (a0d (a1d (a0z mo_ge (a1s (a2x K rfl) rfl T.n_f4 Yw (a0a (a0r (mv 0) rfl) a0b)) (a0r (mv 0) rfl) (a0t _)) (a0g (a0o (a2s (mv 0) T.cl_a0 T.me_b2 G_b2 hr.o T.b_b2 .nil a0m (a0a (a0s (a0a a0v a0b)) a0b)))) a0u) (a0g (a0o a4b)))))),H,Q,E,hr,h
 rename_i r;obtain⟨H0,dx,o,G,s,ts,ra,bd,gok,hF,hz,q⟩:=h;obtain⟨hnm,hnn⟩:=ra.nm;have hb1:=bd.a;have hb2:=bd.n;have g1:=gok.n;have g2:=gok.l;have hfl:=hF.len;have hsk:∃us,H o.sk=some (.lst us)/\DenL K H us (Trm.dataL G.asked):=by
  have:=ra.sk;cases this with
  |lst h1 h2 h3=>exact⟨_,h1,(a5x _).mp h3⟩
 obtain⟨us,hs1,hs2⟩:=hsk;have hul:=a3b hs2;have hrz:∀r∈s.rows,r.2.size<=70:=λx hx=>by have:=bd.z x hx;omega
 ext
 exists zG ra.ob T.cl_a0 T.no_a0_asked c2k
 exists zG ra.ob T.cl_a0 T.no_a0_puts b0t
 refine⟨us,G.asked,ts,s.rows,SqL.of hs1,hs2,ra.put,hF,λt ht=>by have:=gok.z t ht;omega,hrz,g2,λH1 s1=>?_⟩;rw[c5f hz];have ra1:=ra.same s1;ext;refine iteB (λe=>by have e:(40:Int)<(Trm.sizeL ts:Int):=Z8 e;omega) (λe=>?_);ext
 exists zG ra1.ob T.cl_a0 T.no_a0_asked c2k
 refine⟨o.sk,rfl,⟨_,SqL.of (s1 _ _ hs1)⟩,λD hD=>?_⟩;refine a3q (a2d (xs:=us)) (λi ys J=>Same H1 J/\J D=some (.lst ys)/\DenL K J ys (Trm.dataL (ts.take i))) (ln qo) ⟨a0h hD _,a0c,.nil⟩ (λi ys J hP=>SqL.of ((s1.trans hP.1) _ _ hs1)) (λi ys J Q' hi hl' hP k=>?_) (λys J hl' hP=>?_)
 ·obtain⟨f1,f2,f3⟩:=hP;have hki:i<G.asked.length:=by omega
  have hki':i<ts.length:=by omega
  obtain⟨hui,dk⟩:=a5t hs2 hki;obtain⟨l,l1,l2⟩:=hF.get (Zj hki);rw[Zj hki']at l1;have l1:ts[i]=l:=Zw l1;rw[<-l1]at l2;have raJ:=ra1.same f1;have hzi:=c0a (Yq hki');ext;rw[getD_at hui]
  exists zG raJ.ob T.cl_a0 T.no_a0_puts b0t
  refine⟨s.rows,G.asked[i],ts[i],raJ.put,dk.mono (s1.trans f1),l2,by have:=gok.z _ (Yq hki);omega,hrz,?_⟩;rw[Ye qo];refineλx J2 s2 d2=>?_
  have g6:J2 D=some (.lst ys):=s2 _ _ f2;refine k _ _ g6 ⟨a1c (f1.trans s2) hD,a0c,?_⟩;rw[take_succ' hki',a4w];exact((f3.mono s2).append (.cons d2 .nil)).lst g6
 obtain⟨f1,f2,f3⟩:=hP;rw[Yo qo]at f3;ext;have hz2:∀t∈ts,t.size<=70:=λt ht=>by have:=c0a ht;omega
 refine⟨ys,ts,SqL.of f2,f3,qo,hz2,λp2 us2 H2 s2 hp2 kp2 d2=>?_⟩;have s02:=s1.trans (f1.trans s2);have ra2:=ra.same s02;have hul2:=a3b d2;rw[b2d]at hul2;obtain⟨ua,ha1,ha2⟩:=ra2.ans;have hal:=ha2.length;rw[anD,length_map]at hal;ext
 exists zG ra2.ob T.cl_a0 T.no_a0_answers b2a
 refine⟨.inl ⟨rfl,_,SqL.of ha1⟩,?_⟩;ext
 exists zG ra2.ob T.cl_a0 T.no_a0_names d3k
 have hnm2:=ra2.nm.1;refine⟨o.nm,p2,_,_,rfl,SqL.of hnm2,SqL.of kp2,by rw[length_map];omega,λp3 H3 qs hp3 s3 kp3 hq3 pr3=>?_⟩;rw[length_map]at hq3;have ra3:=ra2.same s3;have dz:=b9z pr3 (d2.mono s3) hq3 qo;obtain⟨hnb3,nnb3⟩:=b4h ra3.nb;ext
 exists zG ra3.ob T.cl_a0 T.no_a0_numbers a8c
 refine⟨o.nb,_,rfl,.inl (SqL.of hnb3),λp4 hp4=>?_⟩;have s4:=a0h hp4 (.lst (s.nums.map V.int));have k4:(upd H3 p4 (.lst (s.nums.map V.int))) p4=some (.lst (s.nums.map V.int)):=a0c;generalize upd H3 p4 (.lst (s.nums.map V.int))=H4 at s4 k4 ⊢;ext;refine⟨ln (by show 2<=100000;decide),λp5 hp5=>?_⟩;have s5:=a0h hp5 (.tup [.ref p3,.ref p4]);have k5:(upd H4 p5 (.tup [.ref p3,.ref p4])) p5=some (.tup [.ref p3,.ref p4]):=a0c;generalize upd H4 p5 (.tup [.ref p3,.ref p4])=H5 at s5 k5 ⊢;have ra5:=ra3.same (s4.trans s5);have dA:Dm K H5 (o.M r) (.ref p5) (anE (G.names.zip (anew ts),s.nums)):=.tup (SqT.of k5) (.cons (.lst ((s4.trans s5) _ _ kp3) (ra2.notM hp3) (DenL.dm (dz.mono (s4.trans s5)))) (.cons (b7k (s5 _ _ k4) (ra3.notM hp4)) .nil));ext;refine a2f ((s3.trans (s4.trans s5)) _ _ ha1) (ln1 qo) ?_;obtain⟨ra6,p6⟩:=ra5.seta (us:=ua++[.ref p5]) (l:=s.ans++[(G.names.zip (anew ts),s.nums)]) (by unfold anD;rw[Zo];exact(ha2.pr (.same (s3.trans (s4.trans s5)))).append (.cons dA .nil));have k6:(upd H5 o.an (.lst (ua++[.ref p5]))) o.an=some (.lst (ua++[.ref p5])):=a0c;generalize upd H5 o.an (.lst (ua++[.ref p5]))=H6 at ra6 p6 k6 ⊢;ext
 exists zG ra6.ob T.cl_a0 T.no_a0_answers b2a
 exists a4h (SqL.of k6)
 exists zG ra6.ob T.cl_a0 T.no_a0_most rg_most
 rw[ra.ms,show(((ua++[V.ref p5]).length:Nat):Int)=((s.ans.length+1:Nat):Int) by rw[Zl,hal];rfl];unfold ansS at q
 exists e
 ·have e:G.most<=((s.ans.length+1:Nat):Int):=Z8 e;rw[if_pos e]at q;ext
  exists zM ra6.ob (a4m qk)
  refine⟨ln (by show 1<=100000;decide),λp7 hp7=>?_⟩;have sp7:Same H6 (upd H6 p7 (.tup [.str "enough"])):=a0h hp7 _;have kp7:(upd H6 p7 (.tup [.str "enough"])) p7=some (.tup [.str "enough"]):=a0c;generalize upd H6 p7 (.tup [.str "enough"])=H7 at sp7 kp7 ⊢;ext;refine⟨H0,dx,o,G,_,endT c5e,ra6.same sp7,.tup (SqT.of kp7) (.cons (.str _) .nil),λH8 ra8=>?_⟩;ext;exact q _ _ ra8
 ·have e:¬G.most<=((s.ans.length+1:Nat):Int):=Xx e;rw[if_neg e]at q;ext;exact q _ _ ra6
end
section
variable{P:Program}{w:World}{K:W.Frag}{mg:Str->Option Value}{base:Heap}{t:Ad}
theorem b8b(T:Txt K mg t)  :FnOk P w K mg base (CXo P w) 1 t.a_e7 t.d_e7 ["self","goal","height"] (a9l K t.k_a0 t.k_a2):=by
 exists T.F_e7.okX a9f,(a0d (a0p (i:=3) (hs:=a6c) a9f.nd rfl (by nofun) (a0n (a0j K rfl) (mv 1) a0e (λ_ _=>rfl))) (a0d (a1d (a0z a2b (mv 3) (a6t rfl T.m_g4) (a0t _)) (a0d (a1i (mv 0) (a5o (a6u K rfl) (a0r (mv 0) rfl) a6q (a6s (mv 2))) rfl) (a0g (a0o a4b))) a0u) (a0d a4c (a0d a4c (a0d a4c (a0g a4c)))))),H,Q,E,hr,h
 rename_i r gv i0;obtain⟨H0,dx,o,G,s,h1,rfl,ra,hg,q⟩:=h;obtain⟨a,pa,us,rfl,hs,hb,hk⟩:=a1q hg;obtain⟨ul,hl,wl⟩:=ra.left;ext
 exists a0k hs (v:=.str keepS) rfl
 refine iteB (λe=>?_) (λe=>absurd e qk);ext
 exists zG ra.ob T.cl_a0 T.no_a0_left b0u
 refine⟨o.lf,_,rfl,SqL.of hl,λp hp=>?_⟩;rw[c2i _ _ qo,Uu];have s1:=a0h hp (.lst (ul.take h1));ext;refine sZ (ra.same s1).ob T.cl_a0 T.no_a0_left (by show 15<1000;decide) ?_;rw[rp_left];ext;exact q p _ (ra.newl hp (b4w h1 wl))
theorem b9e(T:Txt K mg t)(G_c9:FnOk P w K mg base CX0 4 t.a_c9 t.d_c9 ["term"] (b4t K))(G_e3:FnOk P w K mg base CX0 4 t.a_e3 t.d_e3 ["self","goal"] (a8u K t.k_a0 t.k_a2))(G_e7:FnOk P w K mg base (CXo P w) 1 t.a_e7 t.d_e7 ["self","goal","height"] (a9l K t.k_a0 t.k_a2)):FnOk P w K mg base CX0 5 t.a_f0 t.d_f0 ["self","goal","height"] (b0w K t.k_a0 t.k_a2):=by
 exists T.F_f0.ok b0p,(a0d (a1d (a2k K rfl (a0l G_c9 hr.o rfl T.m_c9 T.F_c9.kp T.b_c9 .nil a0m (a0a (mv 1) a0b))) (a0g (a0o (a2s (mv 0) T.cl_a0 T.me_e3 G_e3 hr.o T.b_e3 .nil a0m (a0a (mv 1) a0b)))) a0u) (a0d (a1i (mv 0) (a1h (a1t K rfl) (a0r (mv 0) rfl) (a1e (a0a a0e a0b))) rfl) (a0g (c0n (n:=3) rfl rfl G_e7 hr.o (mv 0) T.cl_a0 T.me_e7 T.b_e7 .nil (a0a (mv 1) (a0a (mv 2) a0b)) b0p.nd rfl T.m_f9 T.x_f9 rfl rfl (by nofun) (λea=>(a0g a4c)))))),H,Q,E,hr,h
 rename_i r gv i0;obtain⟨H0,dx,o,G,s,h1,g,bb,s',rfl,ra,bd,hg,dd,q⟩:=h;cases dd with
 | @named w1 ks hw=>
  ext;refine⟨w1,ks,hg,hw.ln,λH1 s1=>?_⟩;rw[nmd_wd hw];walk_at "B"
  exists zM (ra.same s1).ob (a4m qk)
  refine⟨H0,dx,o,G,s,w1,ks,ra.same s1,bd,hg.mono s1,λH2 ra2=>?_⟩;ext;exact q o.nb o.lf _ ra2
 |keep=>
  ext;refine⟨keepS,[],hg,qk,λH1 s1=>?_⟩;rw[show nmd keepS=false from qk];walk_at "A";have ra1:=ra.same s1;obtain⟨hnb,nnb⟩:=b4h ra1.nb
  exists zG ra1.ob T.cl_a0 T.no_a0_numbers a8c
  ext;refine⟨ln (by show 1<=100000;decide),λpA hpA=>?_⟩;have spA:Same H1 (upd H1 pA (.lst [.int 0])):=a0h hpA _;have kpA:(upd H1 pA (.lst [.int 0])) pA=some (.lst [.int 0]):=a0c;generalize upd H1 pA (.lst [.int 0])=HA at spA kpA ⊢;ext;refine a6a (spA _ _ hnb) kpA (ln (by rw[length_map];have:=bd.n;show s.nums.length+1<=_;omega)) λpB hpB=>?_
  have sB:=a0h hpB (.lst ((s.nums.map V.int)++[.int 0]));have kB:(upd HA pB (.lst ((s.nums.map V.int)++[.int 0]))) pB=some (.lst ((s.nums++[0]).map V.int)):=by rw[Zo];exact a0c
  have raA:=ra1.same spA;have nB:pB∉o.M r:=raA.notM hpB;have raB:=raA.same sB;have g2:=((hg.mono s1).mono spA).mono sB;generalize upd HA pB (.lst ((s.nums.map V.int)++[.int 0]))=HB at raB kB sB g2 ⊢;ext;refine sZ raB.ob T.cl_a0 T.no_a0_numbers (by show 15<1000;decide) ?_;rw[b2b];obtain⟨raC,pC⟩:=raB.setr (nb':=pB) (s':={ s with nums:=s.nums++[0]}) raB.td (b7k kB nB) raB.us raB.ct raB.en rfl rfl rfl;have g3:=g2.monoT pC.kt;have bdn:=bd.n;ext;ext
  exists zM raC.ob (a4m qk)
  refine⟨H0,dx,_,G,_,h1,rfl,raC,g3,λlf' H' ra'=>?_⟩;exact q pB lf' _ ra'
theorem b9f(T:Txt K mg t)(G_f0:FnOk P w K mg base CX0 5 t.a_f0 t.d_f0 ["self","goal","height"] (b0w K t.k_a0 t.k_a2))(G_b2:FnOk P w K mg base CX0 1 t.a_b2 t.d_b2 ["self","end"] (a4n K t.k_a0 t.k_a2))(G_b9:FnOk P w K mg base (CXo P w) 43 t.a_b9 t.d_b9 ["term","puts"] (a7a K t.k_c3)):FnOk P w K mg base CX0 44 t.a_f1 t.d_f1 ["self","goal","height"] (b0x K t.k_a0 t.k_a2):=by
 exists T.F_f1.ok b0o,(a0d (a1d (a0z mo_ge (a0r (mv 0) rfl) (a0r (mv 0) rfl) (a0t _)) (a0g (a0o (a2s (mv 0) T.cl_a0 T.me_b2 G_b2 hr.o T.b_b2 .nil a0m (a0a (a0s (a0a a0v a0b)) a0b)))) a0u) (a0d (b2l (mv 0) a0e b2q) (a0d (c8n (i:=3) rfl rfl G_b9 hr.o rfl T.m_b9 T.F_b9.kp T.b_b9 .nil (a0a (mv 1) (a0a (a0r (mv 0) rfl) a0b)) b0o.nd rfl (by nofun) rfl T.m_c3 T.x_c3 (λea=>(a0g a4c))) (a0g (a0o (a2s (mv 0) T.cl_a0 T.me_f0 G_f0 hr.o T.b_f0 .nil a0m (a0a (mv 3) (a0a (mv 2) a0b)))))))),H,Q,E,hr,h
 rename_i r gv i0;obtain⟨H0,dx,o,G,s,h1,g,bb,s',rfl,ra,bd,hg,up,q⟩:=h;ext
 exists zG ra.ob T.cl_a0 T.no_a0_count b5t
 exists zG ra.ob T.cl_a0 T.no_a0_bound d3j
 rw[ra.ct,ra.bd];cases up with
 |spent hb=>
  refine iteB (λe=>?_) (λe=>absurd hb (Xx e));ext
  exists zM ra.ob (a4m qk)
  refine⟨ln (by show 1<=100000;decide),λp1 hp1=>?_⟩;have sp1:Same H (upd H p1 (.tup [.str "spent"])):=a0h hp1 _;have kp1:(upd H p1 (.tup [.str "spent"])) p1=some (.tup [.str "spent"]):=a0c;generalize upd H p1 (.tup [.str "spent"])=H1 at sp1 kp1 ⊢;ext;refine⟨H0,dx,o,G,s,endT c9z,ra.same sp1,.tup (SqT.of kp1) (.cons (.str _) .nil),λH2 ra2=>?_⟩;ext;exact q o.nb o.lf o.ct _ _ ra2
 | @done _ g' _ hb hF hz hgz dd=>
 refine iteB (λe=>by have e:G.bound<=(s.ct:Int):=Z8 e;omega) (λe=>?_);ext;refine⟨r,_,dx,_,_,rfl,ra.ob,T.cl_a0,T.no_a0_count,b5t,?_⟩;ext;refine⟨dx,_,ra.ob,by show 15<1000;decide,?_⟩;rw[d3l];have ect:o.ct+1=((s.ct+1:Nat):Int):=by rw[ra.ct];omega
 obtain⟨ra1,p1⟩:=ra.setr (s':={ s with ct:=s.ct+1}) (ct':=o.ct+1) ra.td ra.nb ra.us ect ra.en rfl rfl rfl;have p1:Pr K (o.M r) H (upd H r (.ins t.k_a0 dx { o with ct:=o.ct+1}.fs)):=p1;generalize upd H r (.ins t.k_a0 dx { o with ct:=o.ct+1}.fs)=H1 at ra1 p1 ⊢;ext
 exists zG ra1.ob T.cl_a0 T.no_a0_puts b0t
 refine⟨s.rows,g,g',ra1.put,hg.monoT p1.kt,hF,qo,λx hx=>by have:=bd.z x hx;omega,?_⟩;rw[Ye hz];refineλx H2 s2 d2=>?_
 have ra2:=ra1.same s2;ext
 exists zM ra2.ob (a4m qk)
 refine⟨H0,dx,_,G,{ s with ct:=s.ct+1},h1,g',_,_,rfl,ra2,⟨bd.t,bd.n,bd.r,bd.l,bd.a,bd.u,bd.z⟩,d2,dd,λnb' lf' H3 ra3=>?_⟩;ext;exact q nb' lf' _ o.en _ ra3
theorem c3d(T:Txt K mg t)(G_f1:FnOk P w K mg base CX0 44 t.a_f1 t.d_f1 ["self","goal","height"] (b0x K t.k_a0 t.k_a2))(G_f3:FnOk P w K mg base CX0 74 t.a_f3 t.d_f3 ["self"] (a7q K t.k_a0 t.k_a2)):FnOk P w K mg base CX0 75 t.a_e9 t.d_e9 ["self"] (b3j K t.k_a0 t.k_a2):=by
 exists T.F_e9.ok b3d,(a0d (a1d (a9y (a2k K rfl (a0r (mv 0) rfl))) (a0g (a0o (a8k (mv 0) T.cl_a0 T.me_f3 G_f3 hr.o T.b_f3 .nil a0m))) a0u) (a0d (a0p (i:=1) (hs:=a6c) b3d.nd rfl (by nofun) (a0n (a0j K rfl) (a0r (mv 0) rfl) a0e (λ_ _=>rfl))) (a0d (a1i (mv 0) (a5o (a6u K rfl) (a0r (mv 0) rfl) (a6s a0e) a6q) rfl) (a0d (a1d (a0z b6t (a0n (a0j K rfl) (mv 1) a0e (λ_ _=>rfl)) a5i (a0t _)) (a0g a4c) a0u) (a0g (a0o (a2s (mv 0) T.cl_a0 T.me_f1 G_f1 hr.o T.b_f1 .nil a0m (a0a (a0n (a0j K rfl) (mv 1) a0e (λ_ _=>rfl)) (a0a (a0n (a0j K rfl) (mv 1) a0e (λ_ _=>rfl)) a0b))))))))),H,Q,E,hr,h
 rename_i r;obtain⟨H0,dx,o,G,s,bb,s',ra,on,q⟩:=h;obtain⟨ut,ht,htn,hte⟩:=c5d ra.td;ext
 exists zG ra.ob T.cl_a0 T.no_a0_todo b0s
 refine .inl ⟨_,SqL.of ht,?_⟩;cases on with
 |ans hz bd gok hF hsz=>
  rw[hz]at hte;cases hte;walk_at "D"
  exists zM ra.ob (a4m qk)
  refine⟨H0,dx,o,G,s,_,ra,bd,gok,hF,hsz,λen' H2 ra2=>?_⟩;ext;exact q o.td o.nb o.lf o.us o.ct _ _ ra2
 | @up _ g h1 rest _ hz bd up=>
  rw[hz,Z5]at hte;cases hte with
  | @cons u us' _ _ hu hus=>
  obtain⟨a,gv,rfl,hs,hg⟩:∃a gv,u=.ref a/\SqT K H a [gv,.int (h1:Int)]/\Den K H gv g.data:=by
   cases hu with
   |tup c d=>
    cases d with
    |cons e f=>
     cases f with
     |cons i j=>
      cases i;cases j;exact⟨_,_,rfl,c,(b0r _).mp e⟩
  walk_at "C"
  exists zG ra.ob T.cl_a0 T.no_a0_todo b0s
  exists a2l (SqL.of ht) (b4i _ _)
  exists zG ra.ob T.cl_a0 T.no_a0_todo b0s
  refine⟨o.td,_,rfl,SqL.of ht,λp hp=>?_⟩;rw[b1v _ 1 qd,show(V.ref a::us').drop (1:Int).toNat=us' from rfl];have s1:Same H (upd H p (.lst us')):=a0h hp _;have k1:(upd H p (.lst us')) p=some (.lst us'):=a0c;generalize upd H p (.lst us')=H1 at s1 k1 ⊢;have ra1:=ra.same s1;ext;refine sZ ra1.ob T.cl_a0 T.no_a0_todo (by show 15<1000;decide) ?_;rw[b8t];obtain⟨ra2,p2⟩:=ra1.setr (td':=p) (s':={ s with todo:=rest}) (.lst k1 (ra.notM hp) (hus.pr (.same s1))) ra1.nb ra1.us ra1.ct ra1.en rfl rfl rfl;have p2:Pr K (o.M r) H1 (upd H1 r (.ins t.k_a0 dx { o with td:=p}.fs)):=p2;generalize upd H1 r (.ins t.k_a0 dx { o with td:=p}.fs)=H2 at ra2 p2 ⊢;have p02:=(Pr.same s1).trans p2;have hs2:=p02.kt _ _ hs;ext;refine a0k hs2 (v:=gv) rfl ?_;obtain⟨ga,rfl⟩:∃ga,gv=.ref ga:=by
   cases g<;>cases hg<;>exact⟨_,rfl⟩
  walk_at "A"
  exists zM ra2.ob (a4m qk)
  exists a0k hs2 (v:=.ref ga) rfl
  exists a0k hs2 (v:=.int (h1:Int)) rfl
  have bt:=bd.t;rw[hz,length_cons]at bt;refine⟨H0,dx,_,G,{ s with todo:=rest},h1,g,_,_,rfl,ra2,⟨by show rest.length<=900;omega,bd.n,bd.r,bd.l,bd.a,bd.u,bd.z⟩,hg.monoT p02.kt,up,λnb' lf' ct' en' H3 ra3=>?_⟩;ext;exact q p nb' lf' o.us ct' en' _ ra3
end
section
variable{P:Program}{w:World}{K:W.Frag}{mg:Str->Option Value}{base:Heap}{t:Ad}
theorem c3y(T:Txt K mg t)(G_f6:FnOk P w K mg base CX0 75 t.a_f6 t.d_f6 ["self","rules","goals","bound","most"] (b4x K t.k_a0 t.k_a2))(G_e9:FnOk P w K mg base CX0 75 t.a_e9 t.d_e9 ["self"] (b3j K t.k_a0 t.k_a2))(G_f2:FnOk P w K mg base CX0 75 t.a_f2 t.d_f2 ["self"] (b0v K t.k_a0 t.k_a2)):FnOk P w K mg base CX0 77 t.a_d1 t.d_d1 ["rules","goals","bound","most"] (b4y K t.k_a0 t.k_a2):=by
 exists T.F_d1.ok a7f,(a0d (a0p (i:=4) (hs:=a1n) a7f.nd rfl (by nofun) (b0a T.mk_a0 G_f6 hr.o rfl T.m_a0 T.b_f6 .nil a0m (a0a (mv 0) (a0a (mv 1) (a0a (mv 2) (a0a (mv 3) a0b)))))) (a0d (a0p (i:=5) a7f.nd rfl (by nofun) a4b) (a0d (a5n Yj (a0z b6t (a0r (mv 4) rfl) a5i (a0t _)) (a0g (a0p (i:=5) a7f.nd rfl (by nofun) (d1a (a2k K rfl (mv 5)) (a8k (mv 4) T.cl_a0 T.me_e9 G_e9 hr.o T.b_e9 .nil a0m) (a8k (mv 4) T.cl_a0 T.me_f2 G_f2 hr.o T.b_f2 .nil a0m))))) (a0g (a0o (mv 4)))))),H,Q,E,hr,h
 rename_i ra ga bd1 ms1;obtain⟨ur,ug,rs,gs,f,c,hS,hdr,hok,hl,hG,hdg,hgz,hgl,rn,hen,q⟩:=h;ext;refineλr dx hr1 hr2 hne=>?_
 have s1:Same H (upd (upd H dx (.own r)) r (.ins t.k_a0 dx [])):=λa o e=>by rw[a0f (a0w e hr1),a0f (a0w e hr2)];exact e
 refine⟨H,dx,ur,ug,rs,gs,a0c,s1,hr1,hS,hdr,hok,hl,hG,hdg,hgz,hgl,λo H1 ra1=>⟨rfl,?_⟩⟩;ext;have h0:Rn (a3p rs gs bd1 ms1) true (st0 gs) f c:=rn;refine a4q (λn σ' J=>∃(bb:Bool)(s:St)(o:RO),σ'=[some (.ref ra),some (.ref ga),some (.int bd1),some (.int ms1),some (.ref r),some (.bl bb)]/\a0y K t.k_a0 t.k_a2 H J r dx o (a3p rs gs bd1 ms1) s/\Rn (a3p rs gs bd1 ms1) bb s f n) c ⟨true,st0 gs,o,rfl,ra1,h0⟩ (λn σ' J R hP kT kF=>?_);obtain⟨bb,s,o,rfl,raJ,rnJ⟩:=hP;ext
 exists zG raJ.ob T.cl_a0 T.no_a0_end c9x
 cases rnJ with
 |stop hs=>
  obtain⟨d,e⟩:=S0.mp hs;have hend:=raJ.en;rw[e]at hend;have hn:o.en≠.non:=λz=>by
   rw[z]at hend;have hend:Dm K J (o.M r) .non d:=hend;cases hend;exact hen _ (by rw[e];exact Zq.mpr rfl) rfl
  refine⟨rfl,?_⟩;rw[Z3 hn]
  exists kF J
  exact q r dx o J raJ
 | @on b2 _ s2 _ c2 e st rn2=>
  have hend:=raJ.en;rw[e]at hend;have hn:o.en=.non:=by
   have hend:Dm K J (o.M r) o.en .none:=hend;generalize o.en=v at hend;cases hend;rfl
  refine⟨rfl,?_⟩;rw[Ye hn];refine kT J (λD' e1 e2 hnx hct=>?_);walk_at "B"
  exists zM raJ.ob (a4m qk)
  refine⟨H,dx,o,_,s,b2,s2,raJ,st,λtd' nb' lf' us' ct' en' J2 ra2=>?_⟩;ext;exact hnx _ _ c2 qo ⟨b2,s2,_,rfl,ra2,rn2⟩
 | @back b2 _ s2 _ c2 e st rn2=>
  have hend:=raJ.en;rw[e]at hend;have hn:o.en=.non:=by
   have hend:Dm K J (o.M r) o.en .none:=hend;generalize o.en=v at hend;cases hend;rfl
  refine⟨rfl,?_⟩;rw[Ye hn];refine kT J (λD' e1 e2 hnx hct=>?_);walk_at "A"
  exists zM raJ.ob (a4m qk)
  refine⟨H,dx,o,_,s,b2,s2,raJ,st,λtd' nb' us' ct' en' J2 ra2=>?_⟩;ext;exact hnx _ _ c2 qo ⟨b2,s2,_,rfl,ra2,rn2⟩
theorem d0y(T:Txt K mg t)(G_d1:FnOk P w K mg base CX0 77 t.a_d1 t.d_d1 ["rules","goals","bound","most"] (b4y K t.k_a0 t.k_a2)):FnOk P w K mg base CX0 78 t.a_b6 t.d_b6 ["rules","goals","bound","most"] (b3k K):=by
 exists T.F_b6.ok b9s,(a0d (a0p (i:=4) (hs:=a1n) b9s.nd rfl (by nofun) (a0l G_d1 hr.o rfl T.m_d1 T.F_d1.kp T.b_d1 .nil a0m (a0a (mv 0) (a0a (mv 1) (a0a (mv 2) (a0a (mv 3) a0b)))))) (a0g (a0o (a0s (a0a (a0r (mv 4) rfl) (a0a (a0r (mv 4) rfl) (a0a (a0r (mv 4) rfl) a0b))))))),H,Q,E,hr,h
 rename_i ra ga bd1 ms1;obtain⟨ur,ug,rs,gs,f,c,hS,hdr,hok,hl,hG,hdg,hgz,hgl,rn,hen,q⟩:=h;ext;refine⟨ur,ug,rs,gs,f,c,hS,hdr,hok,hl,hG,hdg,hgz,hgl,rn,hen,λr dx o H1 ra1=>?_⟩;ext
 exists zG ra1.ob T.cl_a0 T.no_a0_answers b2a
 exists zG ra1.ob T.cl_a0 T.no_a0_end c9x
 exists zG ra1.ob T.cl_a0 T.no_a0_count b5t
 refine⟨ln (by show 3<=100000;decide),λp hp=>?_⟩;have s2:=a0h hp (.tup [.ref o.an,o.en,.int o.ct]);obtain⟨ua,e1,e2⟩:=ra1.ans;have hen1:=ra1.en;refine q p _ (ra1.sm.trans s2) (.tup (SqT.of a0c) (.cons (.lst (s2 _ _ e1) qz ((e2.pr (.same s2)).weak)) (.cons ((hen1.pr (.same s2)).weak) (.cons (by rw[ra1.ct];exact .int _) .nil))))
end
section
variable{P:Program}{w:World}{K:W.Frag}{mg:Str->Option Value}{base:Heap}{t:Ad}
theorem ok_all(T:Txt K mg t):FnOk P w K mg base CX0 79 t.a_law t.d_law ["_law_script"] (b7t K):=by
 have h_c5:=b3r (P:=P) (w:=w) (base:=base) T;have h_c7:=c3w (P:=P) (w:=w) (base:=base) T;have h_f7:=b7w (P:=P) (w:=w) (base:=base) T;have h_c4:=b7x (P:=P) (w:=w) (base:=base) T;have h_f5:=c3x (P:=P) (w:=w) (base:=base) T;have h_b2:=b7y (P:=P) (w:=w) (base:=base) T;have h_e7:=b8b (P:=P) (w:=w) (base:=base) T;have h_b3:=c6m (P:=P) (w:=w) (base:=base) T;have h_a7:=ok_a7 (P:=P) (w:=w) (base:=base) T;have h_d0:=c3t (P:=P) (w:=w) (base:=base) T;have h_b0:=b9a (P:=P) (w:=w) (base:=base) T;have h_a5:=d0s (P:=P) (w:=w) (base:=base) T;have h_b4:=d0v (P:=P) (w:=w) (base:=base) T;have h_d7:=b6c (P:=P) (w:=w) (base:=base) T;have h_c0:=c6k (P:=P) (w:=w) (base:=base) T;have h_b7:=c2x (P:=P) (w:=w) (base:=base) T;have h_a3:=d0o (P:=P) (w:=w) (base:=base) T;have h_a6:=d0p (P:=P) (w:=w) (base:=base) T;have h_b1:=c6g (P:=P) (w:=w) (base:=base) T;have h_b5:=d3s (P:=P) (w:=w) (base:=base) T;have h_c8:=b3s T h_d7 h_c4;have h_d5:=c3b T h_d0;have h_c1:=b9b T h_a5;have h_d2:=c6i T h_a3;have h_d3:=c6h T h_a3 h_a6 h_b7;have h_e1:=c2y T h_b1 h_b5;have h_e4:=b0z T h_c7;have h_c2:=c3c T h_f5;have h_d8:=c6j T h_d5;have h_d9:=b4m T h_c1;have h_e0:=c3s T h_e1;have h_e6:=b1a T h_a5 h_e4 h_c8 h_b4 h_c4;have h_e3:=b6d T h_c0 h_c2;have h_c9:=c3u T h_d8;have h_d4:=d3t T h_e0 h_b1 h_b5;have h_e2:=b1b T h_c7 h_e6;have h_f0:=b9e T h_c9 h_e3 h_e7;have h_e8:=b7z T h_e2 h_f7;have h_b8:=d0u T h_a5 h_a7 40;have h_b9:=b9c T h_b8 h_c1 h_c5;have h_f1:=b9f T h_f0 h_b2 h_b9;have h_a9:=c6o T h_b3 h_a7 70;have h_a8:=c3a T h_b0 h_a9;have h_c6:=d0r T h_b0 h_a9;have h_f3:=b3t T h_a8 h_d9 h_b2 h_b9;have h_e5:=b8a T h_c2 h_e8 h_c6;have h_d6:=c6l T h_a8 h_c0;have h_f6:=c3v T h_d6 h_b0 h_a8 h_b3;have h_e9:=c3d T h_f1 h_f3;have h_f2:=b9d T h_b2 h_e5;have h_d1:=c3y T h_f6 h_e9 h_f2;have h_b6:=d0y T h_d1;exact ok_law T h_d2 h_b7 h_d3 h_a3 h_d4 h_b6 h_a6 h_b1
end
theorem walk{l:W.OpenLaw}{q:Program}{loose:List Str}{XP:(Str->Option Value)->Heap->Prop}{YP:World->Heap->Prop}{d:DefRec}{K:Params->W.Frag}(hn:l.most=some 63)(hdf:d.params.defaults=[])
  (hY:∀(w:World)(h:Heap),YP w h->(K w.params).In h)
  (F:∀(w:World)(mg:Str->Option Value)(fa:Addr)(h:Heap),(K w.params).In h->h.Ns mainGlobals mg->mg d.name=some (.ref fa)->
   ∃fd:FuncData,(∀(s:Shared)(u:Value),BindsTo s fd ⟨[u],[]⟩ [("_law_script",u)])/\∀base:Heap,(K w.params).In base->base.Ns mainGlobals mg->FnOk l.prog w (K w.params) mg base CX0 79 fa fd ["_law_script"] (b7t (K w.params))):
  W.WalkO q loose XP YP l.row.toRowW d [] (λf vs=>PySem.call f vs):=
 L2.walk_of (n:=63) (k:=79) (x:="_law_script") (CX:=λ_=>CX0) (sp:=λw=>b7t (K w.params)) hn qd hdf ⟨rfl,qd,qd,rfl⟩ hY F (λ_ _ a ns hl hO hS=>⟨ns,hS,hl,λ_=>rfl⟩) λ_ _ _ _ _ z=>z
end My
open PySem PySem.W PyProof.Rows L2
set_option maxRecDepth 100000 in
set_option maxHeartbeats 0 in
theorem PySem.Challenge.cw_goaltrail_k36_keeps_holds : PySem.Challenge.rw_goaltrail_k36_keeps.Holds := by
 w_on;refine W.holds_law My.said1 λsaid=>?_
 refine W.holds_open (q:=My.Q) (loose:=My.loose) (Xt:=My.Xt) (XP:=W.XL My.Q []) (Yf:=λs=>My.ads.map s.heap.get?) (Ya:=λw=>(My.KK w.params).map λ(p:Addr×Obj)=>some p.2) (YP:=W.InK My.KK) (N:=3528) My.left1 (W.InK.of (λ_=>by kernel_rfl)) W.InK.keeps (λs e=>W.xl_of s (V9.mp e).1) W.XL.keeps (by rfl) (by rfl) (by rfl) (λs e=>W.recFacts_of (V9.mp e).2) (by rfl) (by assumption) qk ⟨rfl,rfl,rfl,rfl,rfl,qk⟩ ?hw ?hc
 (case hw=>w_witness2)
 k_fill
 refine My.walk (l:=PySem.Challenge.rw_goaltrail_k36_keeps) rfl rfl (λw h Y=>Y) ?F
 case F=>
  intro w mg fa h KX G hmg;have TT:∃t:My.Ad,My.Txt (L2.KOf KX) mg t/\∀(s:Shared)(u:Value),BindsTo s t.d_law ⟨[u],[]⟩ [("_law_script",u)]:=by
   dsimp only[L2.KOf]
   apply Exists.intro (My.Ad.mk _ _ _ _ _ _ _ _ _ _ _ _ _ _ _ _ _ _ _ _ _ _ _ _ _ _ _ _ _ _ _ _ _ _ _ _ _ _ _ _ _ _ _ _ _ _ _ _ _ _ _ _ _ _ _ _ _ _ _ _ _ _ _ _ _ _ _ _ _ _ _ _ _ _ _ _ _ _ _ _ _ _ _ _ _ _ _ _ _ _ _ _ _ _ _ _ _ _ _ _ _ _ _ _ _ _ _ _ _ _ _ _ _ _ _ _ _ _ _ _ _ _ _ _ _)
   apply And.intro
   case left=>
    constructor
    all_goals try dsimp only
    all_goals try exact W.mg_of KX G (by k_is)
    all_goals try exact W.mg_none_of KX G (by k_is)
    all_goals first|exact xc_of (by k_is) qz qz qz (by simp)|exact⟨[],qz,rfl⟩|exact⟨[_],qz,rfl⟩|exact b1m.mk (by k_is) (by k_is) (by k_is)|exact na_of (by k_is)|exact XMk.mk (xc_of (by k_is) qz qz qz qz) (by k_is) (by k_is) (by k_is)|exact XIs.mk (by k_is) (by k_is) (by k_is) (by k_is)|exact XClsM.mk (by k_is) (by k_is) (by k_is) (by k_is)|exact Cls.mk (by k_is) (by k_is) (by k_is) (by k_is)|exact Mk.mk (by k_is) (by k_is) (is_fn (by k_is)) (by k_is)|exact Meth.mk (by k_is) (is_fn (by k_is)) (by k_is)|exact fun_mk (by k_is) (by k_is) (by k_is)|exact funD_mk (by k_is) (by k_is) (by k_is)|exact bi1 λ_=>rfl|exact bi2 λ_ _=>rfl|exact bi3 λ_ _ _=>rfl|exact bi4 λ_ _ _ _=>rfl|exact bi5 λ_ _ _ _ _=>rfl|exact bi6 λ_ _ _ _ _ _=>rfl|exact bd3 (its:=#[.int 0 _]) (by k_is) rfl λ_ _ _=>⟨_,rfl,rfl⟩|exact bd2 (its:=#[.int 0 _]) (by k_is) rfl λ_ _=>⟨_,rfl,rfl⟩|exact bd4 (its:=#[.int 200 _,.int 10 _]) (by k_is) rfl λ_ _ _ _=>⟨_,rfl,rfl⟩|exact bd22 (its:=#[.int 200 _,.int 10 _]) (by k_is) rfl λ_ _=>⟨_,rfl,rfl⟩|kit_is
   exactλs u=>.of_eq rfl
  obtain⟨t,T,e1⟩:=TT;have e0:=hmg.symm.trans T.m_law;cases e0;exact⟨t.d_law,e1,λbase kb nb=>My.ok_all T⟩
