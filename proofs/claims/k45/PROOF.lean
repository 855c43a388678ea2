import PyProof.Rows.All
import PyProof.StrBlock2
import PyProof.Rows.StrIntSpec
import KE.KItemsList
import KE.KDictLaws
import PyProof.SumWalkG
import KE.KRevIter
import PyProof.ListRange
import PyProof.Rows.SortWalk
import KE.KSortedM
import PyProof.Rows.SortStr
import KE.KIntText
import PyProof.Rows.ListMul
import PyProof.ReprHeadsTuple
import KE.KSortTup
import Wide.All
import OpenK.AllK
import Wide.FinOn
import Lean
import PyProof.EqAt
import PyProof.EqKinds
import PyProof.TupleCall
import PyProof.NeKinds
import PyProof.DictUpdate
import KE.KDictList
import KE.KEqDict
import PyProof.Draws
import PyProof.Rows.EnumRows
import PyProof.StationsW
import PyProof.ExcClass3
import PyProof.RulesAs
import PyProof.ExcBaseAll.ValueError
import PyProof.InstStoreFacts
import PyProof.ExcArgsOwn
import PyProof.NsDelKeeps
import KE.RegKIsAll
import PyProof.Rows.LoopZipPat
import PyProof.StrLawsRepr
import KE.KDictOf
import PyProof.WalksS
import PyProof.AttrMissHeap
import PySem.Challenge.RW_goaltrail_k45_whole_code_is_the_program
set_option Elab.async false
set_option linter.all false
set_option maxRecDepth 100000
set_option genSizeOf false
set_option bootstrap.genMatcherCode false
set_option compiler.extract_closed false
open PySem.Str (ofString)
open PySem.PyData (keyHash)
open List (length_cons length_map length_nil)
section
open PySem PySem.Spec PyProof.Rows
def Za:=@List.getElem?_eq_getElem
def Zb:=@wpAny_bind
def Zc:=@List.length_append
def Zd:=@Heap.get?_push_of_some
def Ze:=@List.size_toArray
def Zf:=@wpAny_pure
def Zg:=@Nat.le_refl
def Zh:=@List.getElem?_eq_some_iff
def Zi:=@Option.some.inj
def Zj:=@Bool.false_ne_true
def Zk:=@List.getD_eq_getElem?_getD
def Zl:=@Heap.get?_push_size
def Zm:=@List.mem_append
def Zn:=@List.map_append
def Zo:=@List.mem_cons
def Zp:=@List.map_cons
def Zq:=@PySem.boot_len
def Zr:=@List.mem_singleton
def Zs:=@List.getElem?_map
def Zt:=@List.append_assoc
def Zu:=@Heap.lt_size
def Zv:=@PassesOwn.never
def Zw:=@List.mem_cons_of_mem
def Zx:=@List.getElem_mem
def Zy:=@List.take_of_length_le
def Zz:=@Bool.false_xor
def Z0:=@List.mem_cons_self
def Z3:=@List.mem_map
def Z4:=@decide_eq_false
def Z5:=@List.length_take
def Z6:=@Nat.ne_of_lt
def Z7:=@List.append_nil
def Z8:=@of_decide_eq_true
def Z9:=@List.length_singleton
def Yb:=@sizeLine_eq
def Yc:=@List.length_replicate
def Yd:=@Nat.lt_of_lt_of_le
def Ye:=@Nat.zero_add
def Yg:=@decide_eq_true
def Yh:=@List.cons_append
def Yi:=@List.length_set
def Yj:=@List.getElem?_eq_none
def Yk:=@Nat.zero_le
def Yl:=@List.getElem?_append_left
def Ym:=@Option.map_eq_some_iff
def Yn:=@List.not_mem_nil
def Yo:=@Paired.length
def Yp:=@Array.getElem?_eq_getElem
def Yq:=@wpAny_ite_split
def Yr:=@wpAny_call_entry
def Ys:=@wpAny_newObj_type
def Yt:=@Nat.lt_irrefl
def Yu:=@PyProof.Rows.callWith_type1
def Yv:=@List.mem_append_right
def Yw:=@Array.length_toList
def Yx:=@List.nil_append
def Yy:=@List.getElem?_append_right
def Yz:=@F.plainAttrs_list
def Y0:=@List.mem_of_getElem?
def Y1:=@PySem.mem_of_lookup
def Y2:=@List.length_reverse
def Y3:=@Heap.get?_update_self
def Y4:=@List.map_map
def Y5:=@Int.toNat_natCast
def Y6:=@PyProof.Rows.slot_tuple_getitem
def Y7:=@wpAny_holding
def Y8:=@List.getElem?_set_self
def Y9:=@builtinLookup_eq_fast
def Xa:=@Array.getElem?_toList
def Xb:=@List.take_zero
def Xc:=@boot_isinstance
def Xd:=@Nat.le_trans
def Xe:=@List.getElem?_set_ne
def Xf:=@wpAny_dictEntries
def Xg:=@congrArg
def Xh:=@Heap.size_push
def Xi:=@Heap.get?_update_other
def Xj:=@Heap.SameBut.update
def Xk:=@wpAny_field
def Xl:=@tupleKind_room_in1
def Xm:=@of_decide_eq_false
def Xn:=@Obj.data_mapFields
def Xo:=@Nat.lt_succ_self
def Xp:=@F.slot_list_append
def Xq:=@wpAny_truthy_bool
def Xr:=@Nat.lt_succ_of_lt
def Xs:=@List.nodup_cons
def Xu:=@F.slot_dict_keyiterator_next
def Xv:=@Bool.eq_iff_iff
def Xw:=@beq_eq_false_iff_ne
def Xx:=@List.take_length
def Xy:=@List.all_eq_true
def Xz:=@SeqAt.EqAt.int_int
def X0:=@List.mem_range
def X1:=@F.type_list_append
def X2:=@wpAny_specialOf
def X3:=@typeLookup_type
def X4:=@if_false
def X5:=@List.take_add_one
def X6:=@List.reverse_cons
def X7:=@List.nodup_append
def X8:=@List.map_congr_left
def X9:=@or_false
def Wa:=@isSubtype_type
def Wb:=@W.kia_one
def Wc:=@List.getElem?_replicate
def We:=@wpAny_typeNameOfWhole_keyiter
def Wf:=@wpAny_of_eq
def Wg:=@wpAny_pyIter_tuple
def Wh:=@Bool.false_eq_true
def Wi:=@wpAny_passesOwn
def Wj:=@SeqAt.EqAt.same
def Wk:=@List.mem_iff_getElem?
def Wl:=@F.plainAttrs_dict
def Wm:=@Array.getD_eq_getD_getElem?
def Wn:=@wpAny_setField
def Wo:=@boot_tuple
def Wp:=@F.slot_tuple_iterator_next
def Wq:=@wpAny_isInstance
def Wr:=@Nat.le_add_right
def Ws:=@List.lookup_cons
def Wt:=@Int.zero_add
def Wu:=@Bool.and_eq_true
def Wv:=@List.pairwise_iff_getElem
def Ww:=@List.replicate_succ
def Wx:=@wpAny_typeNameOf_keyiter
def Wy:=@List.any_cons
def Wz:=@Option.map_some
def W0:=@List.find?_cons
def W1:=@F.slot_dict_get
def W2:=@wpAny_mono
def W3:=@Calls.spliced_cons
def W4:=@boot_list
def W5:=@wpAny_pyIter_list
def W6:=@call_meetsIn
def W7:=@List.ext_getElem?
def W8:=@F.slot_dict_setdefault
def W9:=@Calls.spliced_nil
def Va:=@Calls.callWith_builtin
def Vb:=@Bool.and_false
def Vc:=@Obj.isFreed_of_fields
def Vd:=@List.getElem?_toArray
def Ve:=@List.length_drop
def Vf:=@List.getElem_inj
def Vg:=@List.any_eq_true
def Vh:=@wpAny_attempt
def Vi:=@Paired.snoc
def Vj:=@Nat.le_succ
def Vk:=@List.reverse_reverse
def Vl:=@wpAny_dictEpoch
def Vm:=@List.reverse_append
def Vn:=@List.filterMap_cons
def Vo:=@Int.add_zero
def Vp:=@wpAny_rule
def Vq:=@wpAny_Call_Name_kw
def Vr:=@call_meets
def Vs:=@SeqAt.EqAt.str_str
def Vt:=@List.take_succ
def Vu:=@F.slot_list_extend
def Vv:=@List.drop_eq_getElem_cons
def Vw:=@wpAny_pyIter_enum
def Vx:=@atKey_none_of_get
def Vy:=@Sum.inr.inj
def Vz:=@List.length_range
def V0:=@List.foldl_append
def V1:=@List.flatten_cons
def V2:=@Bool.true_and
def V3:=@F.entry_dict_get
def V4:=@beq_iff_eq
def V5:=@Nat.succ_pos
def V6:=@Nat.succ.inj
def V7:=@List.map_nil
def V8:=@F.type_dict_setdefault
def V9:=@wpAny_updateSeq
def Ua:=@wpAny_execs_nil
def Ub:=@size_of_entries
def Uc:=@Nat.not_lt_zero
def Ud:=@Nat.min_eq_left
def Ue:=@List.sum_append
def Uf:=@wpAny_notOrdered_dict
def Ug:=@List.take_append_drop
def Uh:=@List.eq_nil_or_concat
def Ui:=@List.concat_eq_append
def Uj:=@wpAny_pyIter_keyiter
def Uk:=@Sum.inl.inj
def Ul:=@List.nodup_nil
def Um:=@List.drop_zero
def Uo:=@Int.one_mul
def Up:=@Calls.evalArgs_plain
def Uq:=@List.replicate_zero
def Ur:=@slot_tuple_getitem
def Us:=@SeqAt.RcNeAt.lists
def Ut:=@SeqAt.EqAt.str_int
def Uu:=@SeqAt.EqAt.int_str
def Uv:=@Option.isSome_some
def Uw:=@List.filter_append
def Ux:=@wpAny_typeOf
def Uy:=@wpAny_assign_Name
def Uz:=@decide_eq_true_eq
def U0:=@codeAny_mono
def U1:=@Option.isSome_map
def U2:=@Obj.cls_mapFields
def U3:=@Nat.sub_zero
def U4:=@Nat.sub_self
def U5:=@List.getElem_map
def U6:=@Heap.size_update
def U7:=@F.args_dict_keyiterator_next_1
def U8:=@W.Fast.te14364793385576792824
def U9:=@W.Fast.te10110043849684766642
def Ta:=@F.entry_dict_keyiterator_next
def Tc:=@List.of_mem_zip
def Td:=@F.slot_list_pop
def Te:=@F.args_tuple_iterator_next_1
def Tf:=@wpAny_richCompare_same_room
def Tg:=@F.entry_tuple_iterator_next
def Ti:=@wpAny_seqItems
def Tj:=@boot_min
def Tk:=@Calls.Name_function_global
def Tl:=@List.mem_of_find?_eq_some
def Tm:=@Calls.call_function_entry
def Tn:=@wpAny_standAt
def To:=@wpAny_handled
def Tp:=@wpAny_getItem_list_slice
def Tq:=@wpAny_comprehension_free
def Tr:=@listUpdate_at
def Ts:=@evalPart_none
def Tt:=@W.plainGet_of
def Tu:=@Option.isSome_iff_exists
def Tv:=@List.sum_cons
def Tw:=@List.getElem?_take_of_lt
def Tx:=@List.cons.inj
def Zy9:=@Bool.or_false
def Tz:=@Bool.not_true
def T0:=@Bool.false_or
def T1:=@List.length_eq_zero_iff
def T3:=@subscriptTail_builtinR
def T4:=@seqIndex_neg
def T5:=@W.callWith_K
def T6:=@Option.map_eq_none_iff
def T7:=@Nat.lt_or_ge
def T8:=@Nat.le_of_lt
def T9:=@List.reverse_singleton
def Sa:=@List.drop_of_length_le
def Sb:=@Int.pow_succ
def Sc:=@Array.getElem?_eq_none
def Sd:=@wpAny_isOneOf_keyiter
def Se:=@List.singleton_append
def Sf:=@List.getElem?_reverse
def Sg:=@wpAny_throw
def Sh:=@wpAny_pyIter_revIter
def Si:=@wpAny_mkInt
def Sj:=@storedH_new
def Sk:=@seqIndex_of
def Sl:=@seqEpoch_at
def Sm:=@lookup_relabel_local
def Sn:=@boot_int
def So:=@W.kitx_list
def Sq:=@Obj.data_mapDictKeys
def Sr:=@List.replicate_succ'
def Ss:=@List.mem_of_mem_take
def Su:=@List.mem_append_left
def Sv:=@List.dropLast_concat
def Sw:=@F.args_object_init_2
def Sx:=@F.args_list_extend_2
def Sy:=@Bool.and_eq_true_iff
def Sz:=@wpAny_dictFind_heap
def S0:=@entry_tuple_getitem
def S1:=@SeqAt.RcNeAt.tuples
def S3:=@List.getElem_of_mem
def S4:=@Heap.get?_update_ne
def S5:=@F.slot_list_reverse
def S6:=@F.slot_dict_getitem
def S7:=@F.plain_extend_loop
def S8:=@F.entry_list_extend
def S9:=@wpAny_Name
def Ra:=@typeIs_int
def Rb:=@call_reversed_list
def Rc:=@args_tuple_getitem
def Re:=@Walks.list
def Rf:=@Subscript_
def Rg:=@Option.toList_some
def Rh:=@List.mem_filterMap
def Ri:=@List.filterMap_map
def Rj:=@Int.natCast_nonneg
def Rk:=@Heap.IsSliceOf.new
def Rl:=@F.type_list_extend
def Rm:=@F.slot_dict_update
def Rn:=@F.args_tuple_add_2
end
noncomputable section
theorem qk{p:Prop}[Decidable p](h:decide p=true:=by decide +kernel):p:=of_decide_eq_true h
theorem qo{p:Prop}(h:p:=by omega):p:=h
theorem qd{p:Prop}(h:p:=by decide):p:=h
theorem qz{p:Prop}(h:p:=by simp):p:=h
theorem qn{p:Prop}(h:p:=by exact⟨rfl,rfl,rfl,qk,rfl,qk,qk⟩):p:=h
namespace L2
open PySem PySem.Spec PyProof.Rows
abbrev Key:=Sum Int Str
def b4r:Key->Value->Bool
 | .inl k,v=>Value.isInt k v
 | .inr x,v=>Value.isStrOf x v
def keyH(w:World):Key->Int
 | .inl k=>hashInt k
 | .inr x=>hashStr w x
theorem a3h:∀{k:Key}{v:Value},b4r k v=true->(∃i t,k=Sum.inl i/\v=Value.int i t)\/(∃x t,k=Sum.inr x/\v=Value.str x t)
 | .inl i,v,h=>by
  obtain⟨t,e⟩:=Value.isInt_shape (k:=i) (v:=v) h;exact .inl ⟨i,t,rfl,e⟩
 | .inr x,v,h=>by
  obtain⟨t,e⟩:=Value.isStrOf_shape (x:=x) (v:=v) h;exact .inr ⟨x,t,rfl,e⟩
theorem c8t(i:Int)(t:Tok):b4r (.inl i) (.int i t)=true:=by simp[b4r,Value.isInt]
theorem b3p(x:Str)(t:Tok):b4r (.inr x) (.str x t)=true:=by simp[b4r,Value.isStrOf]
theorem c8u(a b:Int):decide ((Sum.inl a:Key)=Sum.inl b)=(a==b):=by
 by_cases e:a=b
 ·subst e;simp
 ·have h:¬(Sum.inl a:Key)=Sum.inl b:=λq=>e (Uk q)
  rw[Z4 h];exact(Xw.mpr e).symm
theorem c8v(a b:Str):decide ((Sum.inr a:Key)=Sum.inr b)=decide (a=b):=by
 by_cases e:a=b
 ·subst e;simp
 ·have h:¬(Sum.inr a:Key)=Sum.inr b:=λq=>e (Vy q)
  rw[Z4 h,Z4 e]
theorem c8w(a:Int)(b:Str):decide ((Sum.inl a:Key)=Sum.inr b)=false:=Z4 (λq=>nomatch q)
theorem c8x(a:Str)(b:Int):decide ((Sum.inr a:Key)=Sum.inl b)=false:=Z4 (λq=>nomatch q)
def a1e(prog:Program)(w:World):PySem.KeyKind prog w Key where
 is:=b4r
 hash:=keyH w
 inj:=λv a b ha hb=>by
  rcases a3h ha with⟨i,t,rfl,rfl⟩|⟨x,t,rfl,rfl⟩
  ·rcases a3h hb with⟨j,u,rfl,e⟩|⟨y,u,rfl,e⟩
   ·injection e with e1 _;rw[e1]
   ·exact nomatch e
  ·rcases a3h hb with⟨j,u,rfl,e⟩|⟨y,u,rfl,e⟩
   ·exact nomatch e
   ·injection e with e1 _;rw[e1]
 byValue:=λk v h=>by
  rcases a3h h with⟨i,t,rfl,rfl⟩|⟨x,t,rfl,rfl⟩<;>rfl
 pyHash:=λhv h=>by
  rcases a3h hv with⟨i,t,rfl,rfl⟩|⟨x,t,rfl,rfl⟩
  ·exact wpAny_pyHash_int h
  ·exact wpAny_pyHash_str h
 eqBool:=λhu hv h=>by
  rcases a3h hu with⟨i,t,rfl,rfl⟩|⟨x,t,rfl,rfl⟩
  ·rcases a3h hv with⟨j,u,rfl,rfl⟩|⟨y,u,rfl,rfl⟩
   ·rw[c8u]at h;exact wpAny_eqBool_int h
   ·rw[c8w]at h;exact Uu i t y u _ _ _ _ h
  ·rcases a3h hv with⟨j,u,rfl,rfl⟩|⟨y,u,rfl,rfl⟩
   ·rw[c8x]at h;exact Ut x t j u _ _ _ _ h
   ·rw[c8v]at h;exact wpAny_eqBool_str h
 «strs»:=λk x t v h=>by
  rcases a3h h with⟨i,u,rfl,e⟩|⟨y,u,rfl,e⟩
  ·exact nomatch e
  ·injection e with e1 _
   subst e1;cases v<;>rfl
theorem b1d(prog:Program)(w:World)(i:Int)(t:Tok):(a1e prog w).is (.inl i) (.int i t)=true:=c8t i t
theorem b1e(prog:Program)(w:World)(x:Str)(t:Tok):(a1e prog w).is (.inr x) (.str x t)=true:=b3p x t
inductive V where
 |non|bl(b:Bool)|int(i:Int)|str(x:Str)|byt(b:Array UInt8)|flt(b:UInt64)|ref(a:Addr)|ty(n:String)
 deriving DecidableEq
def RelV:V->Value->Prop
 | .non,u=>u=Value.none
 | .bl b,u=>u=Value.bool b
 | .int i,u=>∃t,u=Value.int i t
 | .str x,u=>∃t,u=Value.str x t
 | .byt b,u=>∃t,u=Value.bytes b t
 | .flt b,u=>∃t,u=Value.float b t
 | .ref a,u=>u=Value.ref a
 | .ty n,u=>u=Value.type n
abbrev Vals:List V->List Value->Prop:=Paired RelV
theorem Vals.length{xs:List V}{us:List Value}(r:Vals xs us):xs.length=us.length:=Yo r
theorem Vals.get:∀{xs:List V}{us:List Value}{i:Nat}{x:V},Vals xs us->xs[i]? =some x->∃u,us[i]? =some u/\RelV x u
 |_,_,_,_,.nil,e=>by simp at e
 |_,_,0,_,.cons r _,e=>by simp at e;subst e;exact⟨_,rfl,r⟩
 |_,_,i+1,x,.cons _ t,e=>by
  obtain⟨u,h1,h2⟩:=Vals.get (i:=i) (x:=x) t (by simpa using e);exact⟨u,by simpa using h1,h2⟩
theorem Vals.set{x:V}{u:Value}(r:RelV x u):∀{xs:List V}{us:List Value}(i:Nat),Vals xs us->Vals (xs.set i x) (us.set i u)
 |_,_,_,.nil=>.nil
 |_,_,0,.cons _ t=>.cons r t
 |_,_,i+1,.cons q t=>.cons q (Vals.set r i t)
theorem Vals.append:∀{xs ys:List V}{us ws:List Value},Vals xs us->Vals ys ws->Vals (xs++ys) (us++ws)
 |_,_,_,_,.nil,s=>s
 |_,_,_,_,.cons r t,s=>.cons r (Vals.append t s)
theorem Vals.take:∀{xs:List V}{us:List Value}(n:Nat),Vals xs us->Vals (xs.take n) (us.take n)
 |_,_,0,_=>.nil
 |_,_,_+1,.nil=>.nil
 |_,_,n+1,.cons r t=>.cons r (Vals.take n t)
theorem Vals.drop:∀{xs:List V}{us:List Value}(n:Nat),Vals xs us->Vals (xs.drop n) (us.drop n)
 |_,_,0,r=>r
 |_,_,_+1,.nil=>.nil
 |_,_,n+1,.cons _ t=>Vals.drop n t
def RelO:Option V->Option Value->Prop
 |some v,some u=>RelV v u
 |none,none=>True
 |_,_=>False
def KV{κ:Type}:List (κ×V)->List (κ×Value)->Prop:=Paired λ(p:κ×V) (q:κ×Value)=>p.1=q.1/\RelV p.2 q.2
def kV:Key->V
 | .inl i=>.int i
 | .inr x=>.str x
inductive HO where
 |lst(xs:List V)
 |tup(xs:List V)
 |dK(kvs:List (Key×V))|dT(kvs:List (List Key×V))
 |set(S:Int->Bool)(n:Nat)
 |ins(C dx:Addr)(fs:List (Str×V))
 |own(x:Addr)
 |xd(fs:List (Str×V))
 |met(f x:Addr)
 |rng(lo hi:Int)
 |frz(o:Obj)(u:HO)
 |tbl(ps:Array Value)
 |ext(φ:Heap->Prop)
abbrev Hp:=Addr->Option HO
def upd(H:Hp)(a:Addr)(o:HO):Hp:=λb=>if b=a then some o else H b
theorem a0b{H:Hp}{a:Addr}{o:HO}:upd H a o a=some o:=by unfold upd;rw[if_pos rfl]
theorem a0l{H:Hp}{a b:Addr}{o:HO}(h:b≠a):upd H a o b=H b:=by unfold upd;rw[if_neg h]
theorem a1w{H:Hp}{a b:Addr}{o u:HO}(h:H a=some o)(h':H b=some u)(d:o≠u):a≠b:=by
 intro e;subst e;rw[h]at h';exact d (Zi h')
theorem a1m{H:Hp}{a b:Addr}{o:HO}(h:H a=some o)(h':H b=none):a≠b:=by
 intro e;subst e;rw[h]at h';cases h'
section
variable(P:Program)(w:World)
def a1s(H:Hp)(h:Heap)(a:Addr):HO->Prop
 | .lst xs=>xs.length<=sizeLine/\∃(its:List Value)(n:Nat),Vals xs its/\h.get? a=some { cls:=.type "list",data:=.seq its.toArray n}
 | .tup xs=>xs.length<=sizeLine/\∃its:List Value,Vals xs its/\IsTup h a its.toArray
 | .dK kvs=>kvs.length<=sizeLine/\(a==sysModules)=false/\∃vs,KV kvs vs/\h.DictOf (a1e P w) a vs
 | .dT kvs=>kvs.length<=sizeLine/\(a==sysModules)=false/\∃xs:List (List Key×Addr×Value),
   Paired (λ(p:List Key×V) (q:List Key×Addr×Value)=>p.1=q.1/\H q.2.1=some (.tup (p.1.map kV))/\RelV p.2 q.2.2) kvs xs/\
   ∃o es ep,h.get? a=some o/\o.ExactDict/\o.data=.dict es ep/\es.toList=xs.map (entryOfKey (tupleKind (a1e P w)))/\(xs.map (·.1)).Nodup
 | .set S n=>h.SetOf (intKind P w) a S n
 | .ins C dx fs=>H dx=some (.own a)/\fs.length<=1000/\dx≠a/\h.get? a=some (W.instObj C dx)/\
   ∃mA,h.Ns1 dx mA/\(∀f,RelO (fs.lookup f) (mA f))/\PySem.Within mA (fs.map (·.1))
 | .own _=>∃o,h.get? a=some o
 | .xd fs=>∃mA,h.Ns1 a mA/\∀f,RelO (fs.lookup f) (mA f)
 | .rng lo hi=>∃t u v,h.get? a=some { cls:=.type "range",data:=.fields #[.int lo t,.int hi u,.int 1 v]}
 | .frz o u=>h.get? a=some o/\a1s H h a u
 | .tbl ps=>h.get? a=some { cls:=.none,data:=.fields ps}
 | .met f x=>h.get? a=some (W.methodObj (.ref f) (.ref x))
 | .ext φ=>φ h/\(∃o,h.get? a=some o)/\∀h1 h2:Heap,φ h1->(∀o,h1.get? a=some o->h2.get? a=some o)->φ h2
def HOk(H:Hp)(h:Heap):Prop:=∀a o,H a=some o->a1s P w H h a o
end
section
variable{P:Program}{w:World}{H H':Hp}{h h':Heap}{a:Addr}{o:HO}
theorem a1s.lt(x:a1s P w H h a o):a<h.objs.size:=by
 cases o with
 |lst xs=>obtain⟨_,_,_,_,e⟩:=x;exact Zu e
 |tup xs=>obtain⟨_,_,_,p⟩:=x;exact p.lt
 |dK kvs=>obtain⟨_,_,_,_,o,_,_,e,_⟩:=x;exact Zu e
 |dT kvs=>obtain⟨_,_,_,_,o,_,_,e,_⟩:=x;exact Zu e
 |set S n=>obtain⟨o,_,_,_,e,_⟩:=x;exact Zu e
 |ins C dx fs=>obtain⟨_,_,_,e,_⟩:=x;exact Zu e
 |own y=>obtain⟨_,e⟩:=x;exact Zu e
 |xd fs=>obtain⟨_,⟨_,_,_,e,_⟩,_⟩:=x;exact Zu e
 |rng lo hi=>obtain⟨_,_,_,e⟩:=x;exact Zu e
 |frz ob u=>obtain⟨e,_⟩:=x;exact Zu e
 |tbl ps=>exact Zu (show h.get? a=some _ from x)
 |met f y=>exact Zu (show h.get? a=some _ from x)
 |ext φ=>obtain⟨_,⟨_,e⟩,_⟩:=x;exact Zu e
theorem Paired.mapP{α β:Type}{F G:α->β->Prop}:∀{l₁:List α}{l₂:List β},Paired F l₁ l₂->(∀a b,F a b->G a b)->Paired G l₁ l₂
 |_,_,.nil,_=>.nil
 |_,_,.cons r t,f=>.cons (f _ _ r) (Paired.mapP t f)
theorem a1s.stay(x:a1s P w H h a o)(k:∀b u,(b=a\/H b=some (.own a))->h.get? b=some u->h'.get? b=some u)
  (ho:∀b,H b=some (.own a)->H' b=some (.own a))(ht:∀b xs,H b=some (.tup xs)->H' b=some (.tup xs)):a1s P w H' h' a o:=by
 induction o with
 |lst xs=>obtain⟨z,its,n,r,e⟩:=x;exact⟨z,its,n,r,k _ _ (.inl rfl) e⟩
 |tup xs=>obtain⟨z,its,r,ob,e,c⟩:=x;exact⟨z,its,r,ob,k _ _ (.inl rfl) e,c⟩
 |dK kvs=>obtain⟨z,y,vs,r,ob,es,ep,e,c⟩:=x;exact⟨z,y,vs,r,ob,es,ep,k _ _ (.inl rfl) e,c⟩
 |dT kvs=>
  obtain⟨z,y,xs,r,ob,es,ep,e,c⟩:=x;exact⟨z,y,xs,Paired.mapP r λp q z=>⟨z.1,ht _ _ z.2.1,z.2.2⟩,ob,es,ep,k _ _ (.inl rfl) e,c⟩
 |set S n=>obtain⟨ob,es,ep,t,e,c⟩:=x;exact⟨ob,es,ep,t,k _ _ (.inl rfl) e,c⟩
 |ins C dx fs=>
  obtain⟨d,z,ne,e,mA,⟨od,es,ep,e2,c⟩,r⟩:=x;exact⟨ho _ d,z,ne,k _ _ (.inl rfl) e,mA,⟨od,es,ep,k _ _ (.inr d) e2,c⟩,r⟩
 |own y=>obtain⟨ob,e⟩:=x;exact⟨ob,k _ _ (.inl rfl) e⟩
 |xd fs=>obtain⟨mA,⟨od,es,ep,e,c⟩,r⟩:=x;exact⟨mA,⟨od,es,ep,k _ _ (.inl rfl) e,c⟩,r⟩
 |rng lo hi=>obtain⟨t,u,v,e⟩:=x;exact⟨t,u,v,k _ _ (.inl rfl) e⟩
 |frz ob u ih=>obtain⟨e,q⟩:=x;exact⟨k _ _ (.inl rfl) e,ih q⟩
 |tbl ps=>
  have e:h.get? a=some { cls:=.none,data:=.fields ps}:=x
  show h'.get? a=some { cls:=.none,data:=.fields ps}
  exact k a _ (.inl rfl) e
 |met f y=>
  have e:h.get? a=some (W.methodObj (.ref f) (.ref y)):=x
  show h'.get? a=some (W.methodObj (.ref f) (.ref y))
  exact k a _ (.inl rfl) e
 |ext φ=>obtain⟨p,⟨o,e⟩,st⟩:=x;exact⟨st _ _ p λo q=>k _ _ (.inl rfl) q,⟨o,k _ _ (.inl rfl) e⟩,st⟩
theorem HOk.lt(x:HOk P w H h)(e:H a=some o):a<h.objs.size:=(x a o e).lt
theorem HOk.fresh(x:HOk P w H h)(e:h.objs.size<=a):H a=none:=by
 cases q:H a with
 |none=>rfl
 |some u=>exact absurd (Yd (x.lt q) e) (Yt _)
theorem HOk.kept(x:HOk P w H h)(k:∀b u,h.get? b=some u->h'.get? b=some u):HOk P w H h':=λa o e=>
 (x a o e).stay (λb u _ q=>k b u q) (λ_ q=>q) λ_ _ q=>q
theorem HOk.laid(x:HOk P w H h)(k:∀b u,h.get? b=some u->h'.get? b=some u)(hp:h.objs.size<=a)(new:a1s P w (upd H a o) h' a o):HOk P w (upd H a o) h':=λb u e=>by
 have hn:=x.fresh hp
 by_cases hb:b=a
 ·subst hb;rw[a0b]at e;cases e;exact new
 ·rw[a0l hb]at e;exact(x b u e).stay (λc v _ q=>k c v q) (λc q=>by rw[a0l (a1m q hn)];exact q) λc xs q=>by rw[a0l (a1m q hn)];exact q
end
def Rd(H:Hp)(a:Addr)(u:HO):Prop:=H a=some u\/∃o,H a=some (.frz o u)
theorem Rd.ok{P:Program}{w:World}{H:Hp}{h:Heap}{a:Addr}{u:HO}(r:Rd H a u)(x:HOk P w H h):a1s P w H h a u:=by
 rcases r with r|⟨o,r⟩
 ·exact x a u r
 ·obtain⟨_,q⟩:=x a _ r;exact q
def Mut:Option HO->Prop
 |some (.lst _)=>True
 |some (.dK _)=>True
 |some (.dT _)=>True
 |some (.set _ _)=>True
 |some (.ins _ _ _)=>True
 |some (.ext _)=>True
 |_=>False
section
variable{P:Program}{w:World}{H:Hp}{h h':Heap}{x e:Addr}{o':HO}
theorem HOk.write(ok:HOk P w H h)(mu:Mut (H x))(he:e=x\/H e=some (.own x))(k:∀b u,b≠e->h.get? b=some u->h'.get? b=some u)(heo:∃u,h'.get? e=some u)
  (new:a1s P w (upd H x o') h' x o'):HOk P w (upd H x o') h':=λb u q=>by
 have nown:∀c y,H c=some (.own y)->c≠x:=λc y r z=>by subst z;rw[r]at mu;exact mu
 have ntup:∀c xs,H c=some (.tup xs)->c≠x:=λc xs r z=>by subst z;rw[r]at mu;exact mu
 by_cases hb:b=x
 ·subst hb;rw[a0b]at q;cases q;exact new
 ·rw[a0l hb]at q
  by_cases hbe:b=e
  ·have q':H b=some (.own x):=by
    rcases he with z|z
    ·exact absurd (hbe.trans z) hb
    ·rw[hbe];exact z
   rw[q]at q';cases q';obtain⟨v,hv⟩:=heo;exact⟨v,by rw[hbe];exact hv⟩
  ·refine(ok b u q).stay (λc v hc r=>k c v ?_ r) (λc r=>by rw[a0l (nown c b r)];exact r) λc xs r=>by rw[a0l (ntup c xs r)];exact r
   rcases hc with rfl|hc
   ·exact hbe
   ·rintro rfl
    rcases he with z|z
    ·exact nown c b hc z
    ·rw[hc]at z;cases z;exact hb rfl
end
structure Un(fs ex:List Addr)(H H':Hp)(h h':Heap):Prop where
 keep:∀b o,h.get? b=some o->H b=none->b∉fs->b∉ex->h'.get? b=some o
 slot:∀b o,h.get? b=some o->H b=none->b∈fs->b∉ex->∃sl,h'.get? b=some { o with slots:=sl}
 free:∀b o,h.get? b=some o->H b=none->b∉ex->H' b=none
 there:∀b o,h.get? b=some o->b∉ex->∃o',h'.get? b=some o'
 tups:∀b xs,H b=some (.tup xs)->H' b=some (.tup xs)
 frzs:∀b o u,H b=some (.frz o u)->H' b=some (.frz o u)
 tbls:∀b ps,H b=some (.tbl ps)->∃more,H' b=some (.tbl (ps++more))
section
variable{fs fs' ex ex':List Addr}{H H1 H2:Hp}{h h1 h2 h':Heap}{a x e:Addr}{o:HO}
theorem Un.any(u:Un fs ex H H1 h h1){b:Addr}{ob:Obj}(q:h.get? b=some ob)(n:H b=none)(hx:b∉ex):∃sl,h1.get? b=some { ob with slots:=sl}:=by
 by_cases hb:b∈fs
 ·exact u.slot b ob q n hb hx
 ·exact⟨ob.slots,u.keep b ob q n hb hx⟩
theorem Un.kept(k:∀b u,h.get? b=some u->h'.get? b=some u):Un fs ex H H h h':=
 ⟨λb ob q _ _ _=>k b ob q,λb ob q _ _ _=>⟨ob.slots,k b ob q⟩,λ_ _ _ n _=>n,λb ob q _=>⟨ob,k b ob q⟩,λ_ _ q=>q,λ_ _ _ q=>q,λ_ ps q=>⟨#[],by rw[q];simp⟩⟩
theorem Un.refl:Un fs ex H H h h:=Un.kept λ_ _ q=>q
theorem Un.laid(k:∀b u,h.get? b=some u->h'.get? b=some u)(hp:h.objs.size<=a)(hn:H a=none):Un fs ex H (upd H a o) h h' where
 keep:=λb u q _ _ _=>k b u q
 slot:=λb u q _ _ _=>⟨u.slots,k b u q⟩
 free:=λb u q n _=>by rw[a0l (Z6 (Yd (Zu q) hp))];exact n
 there:=λb u q _=>⟨u,k b u q⟩
 tups:=λb xs q=>by rw[a0l (a1m q hn)];exact q
 frzs:=λb u xs q=>by rw[a0l (a1m q hn)];exact q
 tbls:=λb ps q=>⟨#[],by rw[a0l (a1m q hn),q];simp⟩
theorem Un.write(mu:Mut (H x))(he:e=x\/H e=some (.own x))(k:∀b u,b≠e->h.get? b=some u->h'.get? b=some u)(heo:∃u,h'.get? e=some u):Un fs ex H (upd H x o) h h':=by
 have hx:∀b,H b=none->b≠x:=λb n z=>by subst z;rw[n]at mu;exact mu
 have hb:∀b,H b=none->b≠e:=λb n z=>by
  subst z;rcases he with r|r
  ·exact hx b n r
  ·rw[n]at r;cases r
 have hm:∀b u,H b=some u->¬Mut (some u)->b≠x:=λb u q nm z=>by subst z;rw[q]at mu;exact nm mu
 refine⟨λb u q n _ _=>k b u (hb b n) q,λb u q n _ _=>⟨u.slots,k b u (hb b n) q⟩,λb u q n _=>by rw[a0l (hx b n)];exact n,λb u q _=>?_,
  λb xs q=>by rw[a0l (hm b _ q λz=>z)];exact q,λb u xs q=>by rw[a0l (hm b _ q λz=>z)];exact q,λb ps q=>⟨#[],by rw[a0l (hm b _ q λz=>z),q];simp⟩⟩
 by_cases hbe:b=e
 ·subst hbe;exact heo
 ·exact⟨u,k b u hbe q⟩
end
noncomputable def trk(h:Heap)(H:Hp):List Addr:=(List.range h.objs.size).filter λa=>(H a).isSome
def hidT(h:Heap)(H:Hp):Heap:=W.hideAll h (trk h H)
theorem c8y(h:Heap)(H:Hp):(hidT h H).objs.size=h.objs.size:=W.hideAll_size _ _
theorem d2u{h:Heap}{H:Hp}{b:Addr}{o:Obj}(e:h.get? b=some o)(n:H b=none):(hidT h H).get? b=some o:=
 W.hideAll_get _ e λhm=>by
  have q:(H b).isSome=true:=(List.mem_filter.mp hm).2;rw[n]at q;simp at q
theorem of_hidT{h:Heap}{H:Hp}{b:Addr}{o:Obj}(e:(hidT h H).get? b=some o):h.get? b=some o/\H b=none:=by
 have e':h.get? b=some o:=W.of_hideAll (trk h H) e;refine⟨e',?_⟩;cases q:H b with
 |none=>rfl
 |some x=>
  have hm:b∈trk h H:=List.mem_filter.mpr ⟨X0.mpr (Zu e'),by simp[q]⟩;have z:(hidT h H).get? b=none:=W.hideAll_none (trk h H) hm;rw[z]at e;cases e
noncomputable def allNews(g h:Heap)(L:Addr):List (Addr×Obj):=(List.range h.objs.size).filterMap λa=>if a=L\/(g.get? a).isSome=true then none else(h.get? a).map λo=>(a,o)
noncomputable def rest(g h:Heap)(L d:Addr):List (Addr×Obj):=(allNews g h L).filter λp=>decide (p.1≠d)
structure Mod(K:W.Frag)(mg:Str->Option Value)(base:Heap):Prop where
 kin:K.In base
 glob:base.Ns mainGlobals mg
 blt:∃mb,base.Ns builtinsNs mb/\∀x:Str,x≠"__name__"->mb x=bootBuiltins x
 nolimit:base.NoLimit
structure Cx where
 prog:Program
 w:World
 K:W.Frag
 mg:Str->Option Value
 base:Heap
 A:Around
 N:List Str
 s₀:Shared
 H₀:Hp
 env:Env
 outer:List Env
 stack:List Env
 ex:List Addr
 fn:Str->Bool
 calm:Bool
 pn:List (Addr×Obj)
 xe:Value->Shared->Prop
noncomputable def frs(l:List Env):List Addr:=l.filterMap (·.frame)
abbrev Cx.fs(X:Cx):List Addr:=frs X.outer
def Vis(sc:Scope)(x:Str):Prop:=sc.names.lookup x=some .local\/sc.names.lookup x=some .cell\/sc.names.lookup x=some .free
def Loc(sc:Scope)(x:Str):Prop:=sc.names.lookup x=some .local\/sc.names.lookup x=some .cell
def Look(env:Env)(h:Heap)(m:Str->Option Value)(x:Str)(u:Value):Prop:=
 (env.kindOf x=some .local/\m x=some u)\/((env.kindOf x=some .cell\/env.kindOf x=some .free)/\∃c,env.cells.lookup x=some c/\h.IsCell c (some u))
structure Cx.Ok(X:Cx):Prop where
 mod:Mod X.K X.mg X.base
 kind:X.env.scope.kind=.function
 glob:X.env.globals=mainGlobals
 blt:X.env.builtins=builtinsNs
 above:X.s₀.heap.objs.size<=X.env.locals
 inj:∀x y c,X.env.cells.lookup x=some c->X.env.cells.lookup y=some c->x=y
 has:∀x,(X.env.kindOf x=some .cell\/X.env.kindOf x=some .free)->∃c,X.env.cells.lookup x=some c
 cab:∀x c,X.fn x=true->X.env.cells.lookup x=some c->X.s₀.heap.objs.size<=c
 hd:X.calm=true->X.A.handled=none
 frames:X.A.frames=some X.stack
 stk:X.stack=X.outer\/(X.stack=X.env::X.outer/\X.env.frame=some X.env.locals)
 exf:∀b∈X.ex,b≠X.env.locals/\∀x c,X.env.cells.lookup x=some c->c≠b
 bs:∀b o,X.base.get? b=some o->X.s₀.heap.get? b=some o/\X.H₀ b=none
 bsz:X.base.objs.size<=X.s₀.heap.objs.size
 noex:∀b o,X.base.get? b=some o->b∉X.ex
 exfs:∀b∈X.ex,b∉X.fs
 funs:X.s₀.heap.FunFrames X.base X.outer
 frf:∀b∈X.fs,X.H₀ b=none
structure Inv(X:Cx)(pins:List (Addr×Obj))(σ:List (Option V))(H:Hp)(s:Shared):Prop where
 ok:X.Ok
 os:s.os=X.s₀.os
 bare:AllBare s.gens
 base:Un X.fs X.ex X.H₀ H X.s₀.heap s.heap
 loc:∃m,s.heap.Ns X.env.locals m/\∀(i:Nat)(x:Str)(v:V),X.N[i]? =some x->σ[i]? =some (some v)->Vis X.env.scope x->∃u,RelV v u/\Look X.env s.heap m x u
 cell:∀x c,X.env.cells.lookup x=some c->∃v,s.heap.IsCell c v
 free:H X.env.locals=none
 freeC:∀x c,X.env.cells.lookup x=some c->H c=none
 pin:∀p∈X.pn++pins,s.heap.get? p.1=some p.2/\H p.1=none/\p.1≠X.env.locals/\p.1∉X.fs/\∀v,p.2.data≠.cell v
 hok:HOk X.prog X.w H s.heap
 len:σ.length=X.N.length
section
variable{X:Cx}{pins:List (Addr×Obj)}{σ:List (Option V)}{H H':Hp}{s:Shared}{h':Heap}
theorem Cx.Ok.nofr(ok:X.Ok){b:Addr}{o:Obj}(e:X.base.get? b=some o):b∉X.fs:=λhb=>by
 have:=(ok.funs.mem hb).1;rw[e]at this;cases this
theorem Inv.bs(I:Inv X pins σ H s):∀b o,X.base.get? b=some o->s.heap.get? b=some o/\H b=none:=λb o e=>
 ⟨I.base.keep b o (I.ok.bs b o e).1 (I.ok.bs b o e).2 (I.ok.nofr e) (I.ok.noex b o e),I.base.free b o (I.ok.bs b o e).1 (I.ok.bs b o e).2 (I.ok.noex b o e)⟩
theorem Inv.bk(I:Inv X pins σ H s):∀b o,X.base.get? b=some o->s.heap.get? b=some o:=λb o e=>(I.bs b o e).1
theorem Inv.mod(I:Inv X pins σ H s):Mod X.K X.mg X.base:=I.ok.mod
theorem Inv.kIn(I:Inv X pins σ H s):X.K.In s.heap:=I.ok.mod.kin.keeps I.bk
theorem Inv.lt(I:Inv X pins σ H s):X.env.locals<s.heap.objs.size:=let⟨_,hn,_⟩:=I.loc;hn.lt
theorem Inv.sz(I:Inv X pins σ H s):X.s₀.heap.objs.size<=s.heap.objs.size:=Xd I.ok.above (T8 I.lt)
theorem Inv.nofs(I:Inv X pins σ H s){a:Addr}(h:s.heap.objs.size<=a):a∉X.fs:=λhb=>by
 obtain⟨_,o,ho,_⟩:=I.ok.funs.mem hb;exact absurd (Yd (Zu ho) (Xd I.sz h)) (Yt _)
theorem Inv.cne(I:Inv X pins σ H s):∀x c,X.env.cells.lookup x=some c->c≠X.env.locals:=λx c e z=>by
 obtain⟨v,o,ho,hd⟩:=I.cell x c e;obtain⟨m,⟨o',es,ep,ho',hd',_⟩,_⟩:=I.loc;rw[z,ho']at ho;cases ho;rw[hd']at hd;cases hd
theorem Inv.funs(I:Inv X pins σ H s):s.heap.FunFrames X.base X.outer:=by
 have all:∀(l:List Env),(∀b∈frs l,b∈X.fs)->X.s₀.heap.FunFrames X.base l->s.heap.FunFrames X.base l:=by
  intro l
  induction l with
  |nil=>intro _ _;trivial
  |cons env r ih=>
   intro hs hl;obtain⟨hk,⟨L,o,hf,hn,ho,hd⟩,hr⟩:=hl;have hL:L∈X.fs:=hs L (by unfold frs;rw[Vn,hf];exact Z0);obtain⟨sl,e⟩:=I.base.slot L o ho (I.ok.frf L hL) hL λz=>I.ok.exfs L z hL
   exact⟨hk,⟨L,_,hf,hn,e,hd⟩,ih (λb hb=>hs b (by unfold frs;rw[Vn,hf];exact Zw _ hb)) hr⟩
 exact all X.outer (λ_ hb=>hb) I.ok.funs
theorem Inv.stack(I:Inv X pins σ H s):s.heap.FunFrames X.base X.stack:=by
 rcases I.ok.stk with e|⟨e,hf⟩
 ·rw[e];exact I.funs
 ·rw[e];obtain⟨m,hn,_⟩:=I.loc;refine .cons (by rw[I.ok.kind];decide) hf hn ?_ I.funs;exact Heap.get?_none_of_le (Xd I.ok.bsz I.ok.above)
theorem Inv.stkSub(I:Inv X pins σ H s):∀b∈frs X.stack,b∈X.env.locals::X.fs:=λb hb=>by
 rcases I.ok.stk with e|⟨e,hf⟩
 ·rw[e]at hb;exact Zw _ hb
 ·rw[e]at hb;unfold frs at hb;rw[Vn,hf]at hb;exact hb
theorem Inv.stkFree(I:Inv X pins σ H s):∀b∈frs X.stack,H b=none:=λb hb=>by
 rcases Zo.mp (I.stkSub b hb)with e|hb
 ·rw[e];exact I.free
 ·obtain⟨_,o,ho,_⟩:=I.ok.funs.mem hb;exact I.base.free b o ho (I.ok.frf b hb) λz=>I.ok.exfs b z hb
theorem Inv.step{g':Array GenState}{t':Nat}{d':Drawn}{ch:List Addr}(I:Inv X pins σ H s)
  (hch:∀b∈ch,(b∈X.ex\/X.s₀.heap.objs.size<=b)/\b≠X.env.locals/\(∀x c,X.env.cells.lookup x=some c->c≠b)/\∀p∈X.pn++pins,p.1≠b)
  (keep:∀b o,b≠X.env.locals->b∉X.fs->b∉ch->s.heap.get? b=some o->H b=none->h'.get? b=some o)
  (slot:∀b o,b≠X.env.locals->b∈X.fs->b∉ch->s.heap.get? b=some o->H b=none->∃sl,h'.get? b=some { o with slots:=sl})(free:∀b o,b∉ch->s.heap.get? b=some o->H b=none->H' b=none)
  (there:∀b o,b∉ch->s.heap.get? b=some o->∃o',h'.get? b=some o')
  (tups:∀b xs,H b=some (.tup xs)->H' b=some (.tup xs))(frzs:∀b o u,H b=some (.frz o u)->H' b=some (.frz o u))(tbls:∀b ps,H b=some (.tbl ps)->∃more,H' b=some (.tbl (ps++more)))
  (ns:∀m,s.heap.Ns X.env.locals m->h'.Ns X.env.locals m)(hok:HOk X.prog X.w H' h')(hg:AllBare g'):
  Inv X pins σ H' { s with heap:=h',gens:=g',drawn:=d',toks:=t'}:=by
 have neL:∀b o,X.s₀.heap.get? b=some o->b≠X.env.locals:=λb o e=>Z6 (Yd (Zu e) I.ok.above)
 have neC:∀b o,X.s₀.heap.get? b=some o->b∉X.ex->b∉ch:=λb o e hx hb=>by
  rcases(hch b hb).1 with z|z
  ·exact hx z
  ·exact absurd (Yd (Zu e) z) (Yt _)
 have cellK:∀x c,X.env.cells.lookup x=some c->∀v,s.heap.IsCell c v->h'.IsCell c v:=λx c e v ⟨o,ho,hd⟩=>by
  have nch:c∉ch:=λz=>(hch c z).2.2.1 x c e rfl
  by_cases hc:c∈X.fs
  ·obtain⟨sl,q⟩:=slot c o (I.cne x c e) hc nch ho (I.freeC x c e);exact⟨_,q,hd⟩
  ·exact⟨o,keep c o (I.cne x c e) hc nch ho (I.freeC x c e),hd⟩
 refine⟨I.ok,I.os,hg,⟨λb o e n hb hx=>?_,λb o e n hb hx=>?_,λb o e n hx=>?_,λb o e hx=>?_,λb xs e=>tups b xs (I.base.tups b xs e),λb o xs e=>frzs b o xs (I.base.frzs b o xs e),λb ps e=>?_⟩,?_,λx c e=>?_,?_,λx c e=>?_,λp hp=>?_,hok,I.len⟩
 ·exact keep b o (neL b o e) hb (neC b o e hx) (I.base.keep b o e n hb hx) (I.base.free b o e n hx)
 ·obtain⟨sl,e1⟩:=I.base.slot b o e n hb hx;obtain⟨sl',e2⟩:=slot b _ (neL b o e) hb (neC b o e hx) e1 (I.base.free b o e n hx);exact⟨sl',e2⟩
 ·obtain⟨o',e1⟩:=I.base.there b o e hx;exact free b o' (neC b o e hx) e1 (I.base.free b o e n hx)
 ·obtain⟨o',e1⟩:=I.base.there b o e hx;exact there b o' (neC b o e hx) e1
 ·obtain⟨m1,e1⟩:=I.base.tbls b ps e;obtain⟨m2,e2⟩:=tbls b _ e1;exact⟨m1++m2,by rw[e2,Array.append_assoc]⟩
 ·obtain⟨m,hn,hl⟩:=I.loc;refine⟨m,ns m hn,λi x v e1 e2 e3=>?_⟩;obtain⟨u,r,l⟩:=hl i x v e1 e2 e3;refine⟨u,r,?_⟩;rcases l with l|⟨k,c,e,z⟩
  ·exact .inl l
  ·exact .inr ⟨k,c,e,cellK x c e _ z⟩
 ·obtain⟨v,z⟩:=I.cell x c e;exact⟨v,cellK x c e v z⟩
 ·obtain⟨m,⟨o,_,_,ho,_⟩,_⟩:=I.loc;exact free _ o (λz=>(hch _ z).2.1 rfl) ho I.free
 ·obtain⟨v,o,ho,hd⟩:=I.cell x c e;exact free c o (λz=>(hch c z).2.2.1 x c e rfl) ho (I.freeC x c e)
 ·obtain⟨e,n,ne,nf,d⟩:=I.pin p hp;have nch:p.1∉ch:=λz=>(hch p.1 z).2.2.2 p hp rfl
  exact⟨keep p.1 p.2 ne nf nch e n,free p.1 p.2 nch e n,ne,nf,d⟩
theorem Inv.un{t':Nat}(I:Inv X pins σ H s)(u:Un X.fs [] H H' s.heap h')(hok:HOk X.prog X.w H' h'):Inv X pins σ H' { s with heap:=h',toks:=t'}:=by
 obtain⟨m,⟨o,es,ep,ho,r⟩,_⟩:=id I.loc;obtain⟨sl,hL⟩:=u.any ho I.free qz
 exact I.step (g':=s.gens) (d':=s.drawn) (ch:=[]) (λ_ z=>nomatch z) (λb o _ hb _ e n=>u.keep b o e n hb qz) (λb o _ hb _ e n=>u.slot b o e n hb qz) (λb o _ e n=>u.free b o e n qz) (λb o _ e=>u.there b o e qz) u.tups u.frzs u.tbls (λm' hm=>by
  obtain⟨o',es',ep',ho',r'⟩:=hm;rw[ho]at ho';cases ho'
  exact⟨_,es',ep',hL,r'⟩) hok I.bare
theorem Inv.call{g':Array GenState}{t':Nat}{d':Drawn}{ch:List Addr}(I:Inv X pins σ H s)(u:Un (frs X.stack) ch H H' s.heap h')(hok:HOk X.prog X.w H' h')(hg:AllBare g')
  (hch:∀b∈ch,(b∈X.ex\/X.s₀.heap.objs.size<=b)/\b≠X.env.locals/\(∀x c,X.env.cells.lookup x=some c->c≠b)/\∀p∈X.pn++pins,p.1≠b):
  Inv X pins σ H' { s with heap:=h',gens:=g',drawn:=d',toks:=t'}:=by
 obtain⟨m,⟨o,es,ep,ho,r⟩,_⟩:=id I.loc;obtain⟨sl,hL⟩:=u.any ho I.free λz=>(hch _ z).2.1 rfl
 exact I.step (ch:=ch) hch (λb o hL hb hc e n=>u.keep b o e n (λz=>(Zo.mp (I.stkSub b z)).elim hL hb) hc) (λb o _ _ hc e n=>u.any e n hc) (λb o hc e n=>u.free b o e n hc) (λb o hc e=>u.there b o e hc) u.tups u.frzs u.tbls (λm' hm=>by
  obtain⟨o',es',ep',ho',r'⟩:=hm;rw[ho]at ho';cases ho'
  exact⟨_,es',ep',hL,r'⟩) hok hg
theorem Inv.turned{t':Nat}{it:Addr}(I:Inv X pins σ H s)(k:∀b o,b≠it->s.heap.get? b=some o->h'.get? b=some o)(hn:H it=none)(hL:it≠X.env.locals)
  (h1:it∈X.ex\/X.s₀.heap.objs.size<=it)(h2:∀x c,X.env.cells.lookup x=some c->c≠it)(h3:∀p∈X.pn++pins,p.1≠it):Inv X pins σ H { s with heap:=h',toks:=t'}:=by
 have nit:∀b u,H b=some u->b≠it:=λb u e z=>by rw[z,hn]at e;cases e
 refine I.step (g':=s.gens) (d':=s.drawn) (ch:=[it]) (λb hb=>?_) (λb o _ _ hc e _=>k b o (λz=>hc (by simp[z])) e) (λb o _ _ hc e _=>⟨o.slots,k b o (λz=>hc (by simp[z])) e⟩) (λ_ _ _ _ n=>n)
  (λb o hc e=>⟨o,k b o (λz=>hc (by simp[z])) e⟩) (λ_ _ e=>e) (λ_ _ _ e=>e) (λb ps e=>⟨#[],by rw[e];simp⟩) (λm hm=>?_) (λb u e=>?_) I.bare
 ·have e:b=it:=by simpa using hb
  subst e;exact⟨h1,hL,h2,h3⟩
 ·obtain⟨o,es,ep,ho,r⟩:=hm;exact⟨o,es,ep,k _ o (Ne.symm hL) ho,r⟩
 ·refine(I.hok b u e).stay (λc v hc q=>k c v ?_ q) (λ_ q=>q) λ_ _ q=>q
  rcases hc with z|z
  ·rw[z];exact nit b u e
  ·exact nit c _ z
theorem Inv.tok(I:Inv X pins σ H s)(t:Nat):Inv X pins σ H { s with toks:=t}:=I.un (h':=s.heap) (t':=t) Un.refl I.hok
theorem Inv.kept{t':Nat}(I:Inv X pins σ H s)(k:∀b u,s.heap.get? b=some u->h'.get? b=some u):Inv X pins σ H { s with heap:=h',toks:=t'}:=I.un (Un.kept k) (I.hok.kept k)
theorem Inv.laid{a:Addr}{o:HO}{t':Nat}(I:Inv X pins σ H s)(k:∀b u,s.heap.get? b=some u->h'.get? b=some u)(hp:s.heap.objs.size<=a)(new:a1s X.prog X.w (upd H a o) h' a o):
  Inv X pins σ (upd H a o) { s with heap:=h',toks:=t'}:=I.un (Un.laid k hp (I.hok.fresh hp)) (I.hok.laid k hp new)
theorem Inv.write{x e:Addr}{o:HO}{t':Nat}(I:Inv X pins σ H s)(mu:Mut (H x))(he:e=x\/H e=some (.own x))(k:∀b u,b≠e->s.heap.get? b=some u->h'.get? b=some u)(heo:∃u,h'.get? e=some u)
  (new:a1s X.prog X.w (upd H x o) h' x o):Inv X pins σ (upd H x o) { s with heap:=h',toks:=t'}:=I.un (Un.write mu he k heo) (I.hok.write mu he k heo new)
theorem Inv.pins_of{pins':List (Addr×Obj)}(I:Inv X pins σ H s)(h:∀p∈pins',s.heap.get? p.1=some p.2/\H p.1=none/\p.1≠X.env.locals/\p.1∉X.fs/\∀v,p.2.data≠.cell v):Inv X pins' σ H s:=
 ⟨I.ok,I.os,I.bare,I.base,I.loc,I.cell,I.free,I.freeC,λp hp=>(Zm.mp hp).elim (λz=>I.pin p (Su _ z)) (h p),I.hok,I.len⟩
theorem c2g{N:List Str}(hN:N.Nodup){i j:Nat}{x:Str}(a:N[i]? =some x)(b:N[j]? =some x):i=j:=by
 obtain⟨h1,e1⟩:=Zh.mp a;obtain⟨h2,e2⟩:=Zh.mp b;exact(Vf hN).mp (e1.trans e2.symm)
theorem c0g{M:Model}{A:Around}{E:Value->Shared->Prop}{i:Nat}{x:Str}{v:V}{u:Value}{Q:Unit->Shared->Prop}(I:Inv X pins σ H s)(hN:X.N.Nodup)(hi:X.N[i]? =some x)(hx:Loc X.env.scope x)(r:RelV v u)
  (h:∀s',Inv X pins (σ.set i (some v)) H s'->(∃a,Heap.SameBut a s.heap s'.heap/\(a=X.env.locals\/X.env.cells.lookup x=some a))->Q () s')(hf:X.fn x=true\/X.env.scope.names.lookup x=some .local:=by first|exact .inl rfl|exact .inr rfl|assumption):wpAny M A (storeName X.env x u) Q E s:=by
 obtain⟨m,hn,hl⟩:=id I.loc;have hcls:(X.env.scope.kind==.class|| (X.env.scope.kind==.module&&X.env.locals !=X.env.globals))=false:=by rw[I.ok.kind];rfl
 have hiσ:i<σ.length:=by rw[I.len];exact(Zh.mp hi).1
 have cne:=I.cne;have tracked:∀{a:Addr}{h':Heap},(∃o,s.heap.get? a=some o/\H a=none)->Heap.SameBut a s.heap h'->HOk X.prog X.w H h':=λ{a h'} ha hs b ob e=>by
  obtain⟨_,_,hfree⟩:=ha;refine(I.hok b ob e).stay (λc w' hc q=>(hs.2 c ?_).trans q) (λ_ q=>q) λ_ _ q=>q
  rintro rfl
  rcases hc with rfl|hc
  ·rw[hfree]at e;cases e
  ·rw[hfree]at hc;cases hc
 rcases hx with hk|hk
 ·refine wpAny_storeName_local hk hn (λh' hn' hs=>?_) hcls;obtain⟨oL,_,_,hoL,_⟩:=id hn;refine h _ ⟨I.ok,I.os,I.bare,⟨λb o e n hb hx=>?_,λb o e n hb hx=>?_,I.base.free,λb o e hx=>?_,I.base.tups,I.base.frzs,I.base.tbls⟩,⟨_,hn',λj y v' e1 e2 e3=>?_⟩,λy c e=>?_,I.free,I.freeC,λp hp=>?_,tracked ⟨oL,hoL,I.free⟩ hs,by simpa using I.len⟩ ⟨_,hs,.inl rfl⟩
  ·exact(hs.2 b (Z6 (Yd (Zu e) I.ok.above))).trans (I.base.keep b o e n hb hx)
  ·obtain⟨sl,e1⟩:=I.base.slot b o e n hb hx;exact⟨sl,(hs.2 b (Z6 (Yd (Zu e) I.ok.above))).trans e1⟩
  ·obtain⟨o',e1⟩:=I.base.there b o e hx;exact⟨o',(hs.2 b (Z6 (Yd (Zu e) I.ok.above))).trans e1⟩
  ·by_cases hj:j=i
   ·subst hj;rw[hi]at e1;cases e1;rw[Y8 hiσ]at e2;cases e2;exact⟨u,r,.inl ⟨hk,qz⟩⟩
   ·rw[Xe (Ne.symm hj)]at e2;obtain⟨u',r',q⟩:=hl j y v' e1 e2 e3;refine⟨u',r',?_⟩;rcases q with⟨k,e⟩|⟨k,c,e,z⟩
    ·refine .inl ⟨k,?_⟩;have:y≠x:=λe=>hj (c2g hN e1 (e▸hi))
     simp[this,e]
    ·exact .inr ⟨k,c,e,z.sameBut hs (cne y c e)⟩
  ·obtain⟨w',z⟩:=I.cell y c e;exact⟨w',z.sameBut hs (cne y c e)⟩
  ·obtain⟨e,n,ne,nf,d⟩:=I.pin p hp;exact⟨(hs.2 p.1 ne).trans e,n,ne,nf,d⟩
 ·have hfn:X.fn x=true:=by
   rcases hf with z|z
   ·exact z
   ·rw[z]at hk;cases hk
  obtain⟨c,hc⟩:=I.ok.has x (.inl hk);obtain⟨w',z⟩:=I.cell x c hc;refine wpAny_storeName_cell I.ok.kind hk hc z (λh' hc' hs=>?_);obtain⟨oc,hoc,hocd⟩:=id z;refine h { s with heap:=h'} ⟨I.ok,I.os,I.bare,⟨λb o e n hb hx=>?_,λb o e n hb hx=>?_,I.base.free,λb o e hx=>?_,I.base.tups,I.base.frzs,I.base.tbls⟩,⟨m,hn.sameBut hs (Ne.symm (cne x c hc)),λj y v' e1 e2 e3=>?_⟩,λy c' e=>?_,I.free,I.freeC,λp hp=>?_,tracked ⟨oc,hoc,I.freeC x c hc⟩ hs,by simpa using I.len⟩ ⟨c,hs,.inr hc⟩
  ·exact(hs.2 b (Z6 (Yd (Zu e) (I.ok.cab x c hfn hc)))).trans (I.base.keep b o e n hb hx)
  ·obtain⟨sl,e1⟩:=I.base.slot b o e n hb hx;exact⟨sl,(hs.2 b (Z6 (Yd (Zu e) (I.ok.cab x c hfn hc)))).trans e1⟩
  ·obtain⟨o',e1⟩:=I.base.there b o e hx;exact⟨o',(hs.2 b (Z6 (Yd (Zu e) (I.ok.cab x c hfn hc)))).trans e1⟩
  ·by_cases hj:j=i
   ·subst hj;rw[hi]at e1;cases e1;rw[Y8 hiσ]at e2;cases e2;exact⟨u,r,.inr ⟨.inl hk,c,hc,hc'⟩⟩
   ·rw[Xe (Ne.symm hj)]at e2;obtain⟨u',r',q⟩:=hl j y v' e1 e2 e3;refine⟨u',r',?_⟩;rcases q with q|⟨k,c',e,z'⟩
    ·exact .inl q
    ·refine .inr ⟨k,c',e,z'.sameBut hs ?_⟩
     rintro rfl
     exact hj (c2g hN e1 (I.ok.inj _ _ _ e hc▸hi))
  ·by_cases hcc:c'=c
   ·subst hcc;exact⟨_,hc'⟩
   ·obtain⟨w2,z2⟩:=I.cell y c' e;exact⟨w2,z2.sameBut hs hcc⟩
  ·obtain⟨e,n,ne,nf,d⟩:=I.pin p hp;refine⟨(hs.2 p.1 ?_).trans e,n,ne,nf,d⟩;intro q;rw[q,hoc]at e;have q':oc=p.2:=Zi e;exact d w' (by rw[<-q'];exact hocd)
theorem b5u{M:Model}{A:Around}{E:Value->Shared->Prop}{i:Nat}{x:Str}{v:V}{u:Value}{Q:Unit->Shared->Prop}(I:Inv X pins σ H s)(hN:X.N.Nodup)(hi:X.N[i]? =some x)(hx:Loc X.env.scope x)(r:RelV v u)
  (h:∀s',Inv X pins (σ.set i (some v)) H s'->Q () s')(hf:X.fn x=true\/X.env.scope.names.lookup x=some .local:=by first|exact .inl rfl|exact .inr rfl|assumption):wpAny M A (storeName X.env x u) Q E s:=
 c0g I hN hi hx r (λs' I' _=>h s' I') hf
theorem Inv.call'{s':Shared}{ch:List Addr}(I:Inv X pins σ H s)(ho:s'.os=s.os)(u:Un (frs X.stack) ch H H' s.heap s'.heap)(hok:HOk X.prog X.w H' s'.heap)(hg:AllBare s'.gens)
  (hch:∀b∈ch,(b∈X.ex\/X.s₀.heap.objs.size<=b)/\b≠X.env.locals/\(∀x c,X.env.cells.lookup x=some c->c≠b)/\∀p∈X.pn++pins,p.1≠b):Inv X pins σ H' s':=by
 obtain⟨h',g',d',t',o'⟩:=s';have e:o'=s.os:=ho;subst e;exact I.call (g':=g') (t':=t') (d':=d') u hok hg hch
end
abbrev XK:=Value->Option Addr->Hp->Prop
abbrev St:=List (Option V)
abbrev VK:=V->Hp->Prop
abbrev TE:=St->Hp->VK->Prop
abbrev TT:=St->Hp->(Bool->Hp->Prop)->Prop
abbrev TA:=St->Hp->(List V->Hp->Prop)->Prop
structure Ends where
 nx:St->Hp->Prop
 rt:VK
 bk:St->Hp->Prop:=λ_ _=>False
 ct:St->Hp->Prop:=λ_ _=>False
abbrev TS:=Ends->St->Hp->Prop
def EP(X:Cx)(pins:List (Addr×Obj))(σ:St)(Q:VK)(u:Value)(s':Shared):Prop:=∃v H',Inv X pins σ H' s'/\RelV v u/\Q v H'
def TP(X:Cx)(pins:List (Addr×Obj))(σ:St)(Q:Bool->Hp->Prop)(b:Bool)(s':Shared):Prop:=∃H',Inv X pins σ H' s'/\Q b H'
def AP(X:Cx)(pins:List (Addr×Obj))(σ:St)(Q:List V->Hp->Prop)(us:List Value)(s':Shared):Prop:=∃vs H',Inv X pins σ H' s'/\Vals vs us/\Q vs H'
def SP(X:Cx)(pins:List (Addr×Obj))(D:Ends)(f:Flow)(s':Shared):Prop:=
 match f with
 | .next=>∃σ' H',Inv X pins σ' H' s'/\D.nx σ' H'
 | .brk=>∃σ' H',Inv X pins σ' H' s'/\D.bk σ' H'
 | .cont=>∃σ' H',Inv X pins σ' H' s'/\D.ct σ' H'
 | .ret u=>∃v σ' H',Inv X pins σ' H' s'/\RelV v u/\D.rt v H'
def PE(X:Cx)(e:Expr)(t:TE):Prop:=
 ∀(pins:List (Addr×Obj))(s:Shared)(σ:St)(H:Hp)(Q:VK),Inv X pins σ H s->t σ H Q->wpAny (model X.prog X.w) X.A (eval e X.env) (EP X pins σ Q) X.xe s
def PT(X:Cx)(e:Expr)(t:TT):Prop:=
 ∀(pins:List (Addr×Obj))(s:Shared)(σ:St)(H:Hp)(Q:Bool->Hp->Prop),Inv X pins σ H s->t σ H Q->wpAny (model X.prog X.w) X.A (isTrue e X.env (eval e X.env)) (TP X pins σ Q) X.xe s
def PW(X:Cx)(e:Expr)(t:TT):Prop:=
 ∀(whole:Sem Value)(pins:List (Addr×Obj))(s:Shared)(σ:St)(H:Hp)(Q:Bool->Hp->Prop),Inv X pins σ H s->t σ H Q->wpAny (model X.prog X.w) X.A (isTrue e X.env whole) (TP X pins σ Q) X.xe s
theorem PW.pt{X:Cx}{e:Expr}{t:TT}(h:PW X e t):PT X e t:=h _
def PA(X:Cx)(es:List Expr)(t:TA):Prop:=
 ∀(pos:Pos)(pins:List (Addr×Obj))(s:Shared)(σ:St)(H:Hp)(Q:List V->Hp->Prop),Inv X pins σ H s->t σ H Q->wpAny (model X.prog X.w) X.A (spliced (backTo pos (starEach es X.env))) (AP X pins σ Q) X.xe s
def PS(X:Cx)(st:Stmt)(t:TS):Prop:=
 ∀(pins:List (Addr×Obj))(s:Shared)(σ:St)(H:Hp)(D:Ends),Inv X pins σ H s->t D σ H->wpAny (model X.prog X.w) X.A (exec st X.env) (SP X pins D) X.xe s
def PSs(X:Cx)(st:List Stmt)(t:TS):Prop:=
 ∀(pins:List (Addr×Obj))(s:Shared)(σ:St)(H:Hp)(D:Ends),Inv X pins σ H s->t D σ H->wpAny (model X.prog X.w) X.A (execs st X.env) (SP X pins D) X.xe s
theorem thn{α:Type}{t:Sem α}{Q Q':α->Shared->Prop}{M:Model}{A:Around}{E:Value->Shared->Prop}{s:Shared}(h:wpAny M A t Q E s)(hQ:∀a s,Q a s->Q' a s):wpAny M A t Q' E s:=W2 h hQ λ_ _ x=>x
section
variable{X:Cx}
def tVar(i:Nat):TE:=λσ H Q=>∃v,σ[i]? =some (some v)/\Q v H
def tC(v:V):TE:=λ_ H Q=>Q v H
theorem pe_var{i:Nat}{x:Str}{pos:Pos}(hN:X.N[i]? =some x)(hv:Vis X.env.scope x)(hd:(x==("__debug__":Str))=false:=by decide)(hcd:(x==("__classdict__":Str))=false:=by decide):PE X (.Name x pos) (tVar i):=by
 intro pins s σ H Q I h;obtain⟨v,e,h⟩:=h;obtain⟨m,hn,hl⟩:=I.loc;obtain⟨u,r,l⟩:=hl i x v hN e hv;have fin:EP X pins σ Q u s:=⟨v,H,I,r,h⟩;rcases l with⟨hk,hm⟩|⟨hk,c,hc,hcell⟩
 ·exact S9 (wpAny_loadName_local I.ok.kind hk hn hm fin) hd
 ·rcases hk with hk|hk
  ·exact S9 (wpAny_loadName_cell I.ok.kind hk hc hcell fin) hd
  ·exact S9 (wpAny_loadName_free I.ok.kind hk hc hcell fin hcd) hd
theorem a0d{i j pos}:PE X (.Constant (.int i) j pos) (tC (.int i)):=λ_ _ _ H _ I h=>wpAny_Constant_int ⟨.int i,H,I.tok _,⟨_,rfl⟩,h⟩
theorem a3m{b j pos}:PE X (.Constant (.bool b) j pos) (tC (.bl b)):=λ_ _ _ H _ I h=>Constant_bool ⟨.bl b,H,I,rfl,h⟩
theorem a3i{j pos}:PE X (.Constant .none j pos) (tC .non):=λ_ _ _ H _ I h=>Constant_none ⟨.non,H,I,rfl,h⟩
theorem a0k{x j pos}:PE X (.Constant (.str x) j pos) (tC (.str x)):=λ_ _ _ H _ I h=>Calls.Constant_str ⟨.str x,H,I.tok _,⟨_,rfl⟩,h⟩
def Gl(X:Cx)(x:Str):Prop:=X.env.kindOf x=some .globalImplicit
theorem b9j{E:Value->Shared->Prop}{pins:List (Addr×Obj)}{s:Shared}{σ:St}{H:Hp}{x:Str}{u:Value}{pos:Pos}{Q:Value->Shared->Prop}(I:Inv X pins σ H s)(hg:Gl X x)(hm:X.mg x=some u)(h:Q u s)
  (hd:(x==("__debug__":Str))=false:=by decide):wpAny (model X.prog X.w) X.A (eval (.Name x pos) X.env) Q E s:=
 Tk I.ok.kind hg (Calls.loadGlobal_global (by rw[I.ok.glob];exact I.mod.glob.keeps I.bk) hm h) hd
theorem a6u{E:Value->Shared->Prop}{pins:List (Addr×Obj)}{s:Shared}{σ:St}{H:Hp}{x:Str}{u:Value}{pos:Pos}{Q:Value->Shared->Prop}(I:Inv X pins σ H s)(hg:Gl X x)(hm:X.mg x=none)(hv:bootBuiltins x=some u)(h:Q u s)
  (hn:x≠"__name__":=by decide)(hd:(x==("__debug__":Str))=false:=by decide):wpAny (model X.prog X.w) X.A (eval (.Name x pos) X.env) Q E s:=by
 obtain⟨mb,h1,h2⟩:=I.mod.blt;exact Tk I.ok.kind hg (Calls.loadGlobal_builtin (by rw[I.ok.glob];exact I.mod.glob.keeps I.bk) hm (by rw[I.ok.blt];exact h1.keeps I.bk) ((h2 x hn).trans hv) h) hd
theorem b9k{x:Str}{v:V}{u:Value}{pos:Pos}(hg:Gl X x)(hm:X.mg x=some u)(r:RelV v u)(hd:(x==("__debug__":Str))=false:=by decide):PE X (.Name x pos) (tC v):=
 λ_ _ _ H _ I h=>b9j I hg hm ⟨v,H,I,r,h⟩ hd
theorem pe_bltn{x:Str}{v:V}{u:Value}{pos:Pos}(hg:Gl X x)(hm:X.mg x=none)(hv:bootBuiltins x=some u)(r:RelV v u)(hn:x≠"__name__":=by decide)(hd:(x==("__debug__":Str))=false:=by decide):PE X (.Name x pos) (tC v):=
 λ_ _ _ H _ I h=>a6u I hg hm hv ⟨v,H,I,r,h⟩ hn hd
variable{a b:Expr}{ta tb:TE}{pos:Pos}
variable{tA tB':TT}{rest:List Expr}
def tAnd(t u:TT):TT:=λσ H Q=>t σ H λc H1=>if c=true then u σ H1 Q else Q false H1
def tOr(t u:TT):TT:=λσ H Q=>t σ H λc H1=>if c=true then Q true H1 else u σ H1 Q
def tNot(t:TT):TT:=λσ H Q=>t σ H λc H1=>Q (!c) H1
theorem a9r(ha:PT X a tA):PW X (.BoolOp .And [a] pos) tA:=by
 intro wh pins s σ H Q I h;refine isTrue_and (thn (ha pins s σ H Q I h) λc s1 e=>?_);cases c with
 |true=>exact isTrue_and_nil e
 |false=>exact e
theorem a3j(ha:PT X a tA):PW X (.BoolOp .Or [a] pos) tA:=by
 intro wh pins s σ H Q I h;refine isTrue_or (thn (ha pins s σ H Q I h) λc s1 e=>?_);cases c with
 |false=>exact isTrue_or_nil e
 |true=>exact e
theorem b1n(ha:PT X a tA)(hb:PW X (.BoolOp .And (b::rest) pos) tB'):PW X (.BoolOp .And (a::b::rest) pos) (tAnd tA tB'):=by
 intro wh pins s σ H Q I h;refine isTrue_and (thn (ha pins s σ H _ I h) λc s1 z9=>?_);obtain⟨H1,I1,q1⟩:=z9;cases c with
 |true=>exact hb wh pins s1 σ H1 Q I1 q1
 |false=>exact⟨H1,I1,q1⟩
theorem a2x(ha:PT X a tA)(hb:PW X (.BoolOp .Or (b::rest) pos) tB'):PW X (.BoolOp .Or (a::b::rest) pos) (tOr tA tB'):=by
 intro wh pins s σ H Q I h;refine isTrue_or (thn (ha pins s σ H _ I h) λc s1 z9=>?_);obtain⟨H1,I1,q1⟩:=z9;cases c with
 |true=>exact⟨H1,I1,q1⟩
 |false=>exact hb wh pins s1 σ H1 Q I1 q1
theorem a3c(ha:PT X a tA):PT X (.UnaryOp .Not a pos) (tNot tA):=by
 intro pins s σ H Q I h;exact isTrue_not (ha pins s σ H (λc H1=>Q (!c) H1) I h)
def tAndV(ta tb:TE):TE:=λσ H Q=>ta σ H λx H1=>∃c,x=.bl c/\if c=true then tb σ H1 Q else Q (.bl false) H1
def tOrV(ta tb:TE):TE:=λσ H Q=>ta σ H λx H1=>∃c,x=.bl c/\if c=true then Q (.bl true) H1 else tb σ H1 Q
theorem a7m{op}{t:TE}(h:PE X a t):PE X (.BoolOp op [a] pos) t:=λpins s σ H Q I hw=>BoolOp_one (h pins s σ H Q I hw)
theorem pe_and(ha:PE X a ta)(hb:PE X (.BoolOp .And (b::rest) pos) tb):PE X (.BoolOp .And (a::b::rest) pos) (tAndV ta tb):=by
 intro pins s σ H Q I h;refine BoolOp_and (thn (ha pins s σ H _ I h) λv s1 z9=>?_);obtain⟨x,H1,I1,r1,q1⟩:=z9;obtain⟨c,rfl,q1⟩:=q1;cases r1;refine Xq ?_;cases c with
 |true=>exact hb pins s1 σ H1 Q I1 q1
 |false=>exact⟨.bl false,H1,I1,rfl,q1⟩
theorem pe_or(ha:PE X a ta)(hb:PE X (.BoolOp .Or (b::rest) pos) tb):PE X (.BoolOp .Or (a::b::rest) pos) (tOrV ta tb):=by
 intro pins s σ H Q I h;refine BoolOp_or (thn (ha pins s σ H _ I h) λv s1 z9=>?_);obtain⟨x,H1,I1,r1,q1⟩:=z9;obtain⟨c,rfl,q1⟩:=q1;cases r1;refine Xq ?_;cases c with
 |false=>exact hb pins s1 σ H1 Q I1 q1
 |true=>exact⟨.bl true,H1,I1,rfl,q1⟩
def tIf(t:TT)(ta tb:TE):TE:=λσ H Q=>t σ H λc H1=>if c=true then ta σ H1 Q else tb σ H1 Q
theorem b5v{c:Expr}(hc:PT X c tA)(ha:PE X a ta)(hb:PE X b tb):PE X (.IfExp c a b pos) (tIf tA ta tb):=by
 intro pins s σ H Q I h;refine wpAny_IfExp (thn (hc pins s σ H _ I h) λd s1 z9=>?_);obtain⟨H1,I1,q1⟩:=z9;cases d with
 |true=>exact ha pins s1 σ H1 Q I1 q1
 |false=>exact hb pins s1 σ H1 Q I1 q1
end
def SqL(K:W.Frag)(H:Hp)(a:Addr)(xs:List V):Prop:=
 Rd H a (.lst xs)\/
  ∃(o:Obj)(its:Array Value)(n:Nat),K.lookup a=some o/\o.cls=.type "list"/\o.dict=none/\o.data=.seq its n/\its.size<=sizeLine/\Vals xs its.toList
def SqT(K:W.Frag)(H:Hp)(a:Addr)(xs:List V):Prop:=
 Rd H a (.tup xs)\/
  ∃(o:Obj)(its:Array Value)(n:Nat),K.lookup a=some o/\o.cls=.type "tuple"/\o.data=.seq its n/\its.size<=sizeLine/\Vals xs its.toList
noncomputable def absV:Value->Option V
 | .none=>some .non
 | .bool b=>some (.bl b)
 | .int i _=>some (.int i)
 | .str x _=>some (.str x)
 | .bytes b _=>some (.byt b)
 | .float b _=>some (.flt b)
 | .ref a=>some (.ref a)
 | .type n=>some (.ty n)
 |_=>none
theorem RelV.abs{x:V}{u:Value}(r:RelV x u):absV u=some x:=by
 cases x with
 |non=>cases r;rfl
 |bl _=>cases r;rfl
 |int _=>obtain⟨t,rfl⟩:=r;rfl
 |str _=>obtain⟨t,rfl⟩:=r;rfl
 |byt _=>obtain⟨t,rfl⟩:=r;rfl
 |flt _=>obtain⟨t,rfl⟩:=r;rfl
 |ref _=>cases r;rfl
 |ty _=>cases r;rfl
theorem RelV.inj{x y:V}{u:Value}(r:RelV x u)(q:RelV y u):x=y:=Zi (r.abs.symm.trans q.abs)
theorem Vals.inj{xs ys:List V}{us:List Value}(h:Vals xs us)(g:Vals ys us):xs=ys:=by
 induction h generalizing ys with
 |nil=>cases g;rfl
 |cons r _ ih=>cases g with
  |cons r' t'=>rw[r.inj r',ih t']
section
variable{X:Cx}{pins:List (Addr×Obj)}{σ:St}{H:Hp}{s:Shared}{a:Addr}{xs ys:List V}
theorem SqL.of{K:W.Frag}(h:H a=some (.lst xs)):SqL K H a xs:=.inl (.inl h)
theorem SqT.of{K:W.Frag}(h:H a=some (.tup xs)):SqT K H a xs:=.inl (.inl h)
theorem Inv.list(I:Inv X pins σ H s)(h:SqL X.K H a xs):∃its:List Value,Vals xs its/\PlainL s.heap a its.toArray/\xs.length<=sizeLine:=by
 rcases h with h|⟨o,its,n,hk,hc,hd,hs,hz,r⟩
 ·obtain⟨z,its,n,r,e⟩:=h.ok I.hok;exact⟨its,r,⟨_,n,e,rfl,rfl,rfl⟩,z⟩
 ·refine⟨its.toList,r,⟨o,n,I.kIn a o hk,hc,hd,by simpa using hs⟩,?_⟩;have e:=r.length;simp only[Yw]at e;omega
theorem Inv.tuple(I:Inv X pins σ H s)(h:SqT X.K H a xs):∃its:List Value,Vals xs its/\IsTup s.heap a its.toArray/\xs.length<=sizeLine:=by
 rcases h with h|⟨o,its,n,hk,hc,hs,hz,r⟩
 ·obtain⟨z,its,r,p⟩:=h.ok I.hok;exact⟨its,r,p,z⟩
 ·refine⟨its.toList,r,⟨o,I.kIn a o hk,hc,n,by simpa using hs⟩,?_⟩;have e:=r.length;simp only[Yw]at e;omega
theorem Inv.list_inj(I:Inv X pins σ H s)(h:SqL X.K H a xs)(h':SqL X.K H a ys):xs=ys:=by
 obtain⟨its,r,⟨o,n,e,_,_,d⟩,_⟩:=I.list h;obtain⟨its',r',⟨o',n',e',_,_,d'⟩,_⟩:=I.list h';rw[e]at e';cases e';rw[d]at d'
 injection d' with d1 _
 have:its=its':=by simpa using Xg Array.toList d1
 subst this;exact r.inj r'
theorem Inv.tuple_inj(I:Inv X pins σ H s)(h:SqT X.K H a xs)(h':SqT X.K H a ys):xs=ys:=by
 obtain⟨its,r,⟨o,e,_,n,d⟩,_⟩:=I.tuple h;obtain⟨its',r',⟨o',e',_,n',d'⟩,_⟩:=I.tuple h';rw[e]at e';cases e';rw[d]at d'
 injection d' with d1 _
 have:its=its':=by simpa using Xg Array.toList d1
 subst this;exact r.inj r'
end
abbrev Cx.wish(X:Cx)(E:Value->Shared->Prop):Cx:={ X with xe:=E}
abbrev Cx.nox(X:Cx):Cx:=X.wish λ_ _=>False
theorem Cx.Ok.wish{X:Cx}(ok:X.Ok)(E:Value->Shared->Prop):(X.wish E).Ok:=
 ⟨ok.mod,ok.kind,ok.glob,ok.blt,ok.above,ok.inj,ok.has,ok.cab,ok.hd,ok.frames,ok.stk,ok.exf,ok.bs,ok.bsz,ok.noex,ok.exfs,ok.funs,ok.frf⟩
theorem Cx.Ok.unwish{X:Cx}{E:Value->Shared->Prop}(ok:(X.wish E).Ok):X.Ok:=
 ⟨ok.mod,ok.kind,ok.glob,ok.blt,ok.above,ok.inj,ok.has,ok.cab,ok.hd,ok.frames,ok.stk,ok.exf,ok.bs,ok.bsz,ok.noex,ok.exfs,ok.funs,ok.frf⟩
section
variable{X:Cx}{pins:List (Addr×Obj)}{σ:St}{H:Hp}{s:Shared}{E:Value->Shared->Prop}
theorem Inv.wish(I:Inv X pins σ H s)(E:Value->Shared->Prop):Inv (X.wish E) pins σ H s:=⟨I.ok.wish E,I.os,I.bare,I.base,I.loc,I.cell,I.free,I.freeC,I.pin,I.hok,I.len⟩
theorem Inv.unwish(I:Inv (X.wish E) pins σ H s):Inv X pins σ H s:=⟨I.ok.unwish,I.os,I.bare,I.base,I.loc,I.cell,I.free,I.freeC,I.pin,I.hok,I.len⟩
theorem SP.unwish{D:Ends}{f:Flow}{s':Shared}(h:SP (X.wish E) pins D f s'):SP X pins D f s':=by
 cases f with
 |next=>obtain⟨σ',H',I,q⟩:=h;exact⟨σ',H',I.unwish,q⟩
 |brk=>obtain⟨σ',H',I,q⟩:=h;exact⟨σ',H',I.unwish,q⟩
 |cont=>obtain⟨σ',H',I,q⟩:=h;exact⟨σ',H',I.unwish,q⟩
 |ret u=>obtain⟨v,σ',H',I,r,q⟩:=h;exact⟨v,σ',H',I.unwish,r,q⟩
theorem PSs.nox{st:List Stmt}{t:TS}(h:PSs X.nox st t):PSs X st t:=λpins s σ H D I hw=>
 W2 (h pins s σ H D (I.wish _) hw) (λ_ _ q=>q.unwish) λ_ _ z=>False.elim z
end
section
variable{X:Cx}{st:Stmt}{rest:List Stmt}{t u:TS}{e:Expr}{te:TE}{pos:Pos}
def tNext:TS:=λD σ H=>D.nx σ H
def tSeq(t u:TS):TS:=λD σ H=>t { D with nx:=u D} σ H
theorem a0v:PSs X [] tNext:=λ_ _ σ H _ I h=>Ua ⟨σ,H,I,h⟩
theorem a0e(h1:PS X st t)(h2:PSs X rest u):PSs X (st::rest) (tSeq t u):=by
 intro pins s σ H D I h;refine wpAny_execs_cons (thn (h1 pins s σ H { D with nx:=u D} I h) λf s1 q=>?_);cases f with
 |next=>
  obtain⟨σ',H',I',q⟩:=q;exact h2 pins s1 σ' H' D I' q
 |ret v=>exact q
 |brk=>exact q
 |cont=>exact q
theorem a0g(h1:PS X st t):PSs X [st] t:=by
 intro pins s σ H D I h;refine wpAny_execs_cons (thn (h1 pins s σ H D I h) λf s1 q=>?_);cases f with
 |next=>exact Ua q
 |ret v=>exact q
 |brk=>exact q
 |cont=>exact q
theorem Inv.quiet{pins:List (Addr×Obj)}{σ:St}{H:Hp}{s:Shared}(I:Inv X pins σ H s):interactive X.env=false:=by simp[interactive,I.ok.kind]
def tDrop(te:TE):TS:=λD σ H=>te σ H λ_ H1=>D.nx σ H1
theorem a1f(he:PE X e te)(hs:swapsWith e none pos.line X.env=pure false:=by rfl):PS X (.Expr e pos) (tDrop te):=by
 intro pins s σ H D I h;exact wpAny_Expr_any (thn (he pins s σ H _ I h) λv s1 ⟨x,H1,I1,r1,q1⟩=>⟨σ,H1,I1,q1⟩) I.quiet hs
def tRet(te:TE):TS:=λD σ H=>te σ H D.rt
theorem a0q(he:PE X e te):PS X (.Return (some e) pos) (tRet te):=by
 intro pins s σ H D I h;exact wpAny_Return_some (thn (he pins s σ H _ I h) λv s1 ⟨x,H1,I1,r1,q1⟩=>⟨x,σ,H1,I1,r1,q1⟩)
def tIfS(c:TT)(t u:TS):TS:=λD σ H=>c σ H λb H1=>if b=true then t D σ H1 else u D σ H1
theorem a0y{c:Expr}{a b:List Stmt}{tc:TT}(hc:PT X c tc)(ha:PSs X a t)(hb:PSs X b u):PS X (.If c a b pos) (tIfS tc t u):=by
 intro pins s σ H D I h;refine wpAny_If (thn (hc pins s σ H _ I h) λd s1 z9=>?_);obtain⟨H1,I1,q1⟩:=z9;cases d with
 |true=>exact ha pins s1 σ H1 D I1 q1
 |false=>exact hb pins s1 σ H1 D I1 q1
end
abbrev TG:=V->St->Hp->(St->Hp->Prop)->Prop
abbrev TGs:=List V->St->Hp->(St->Hp->Prop)->Prop
def PG(X:Cx)(target:Expr)(t:TG):Prop:=
 ∀(pins:List (Addr×Obj))(s:Shared)(σ:St)(H:Hp)(v:V)(u:Value)(Q:St->Hp->Prop),Inv X pins σ H s->RelV v u->t v σ H Q->
  wpAny (model X.prog X.w) X.A (assign target X.env u) (λ_ s'=>∃σ' H',Inv X pins σ' H' s'/\Q σ' H') X.xe s
def PGs(X:Cx)(ts:List Expr)(t:TGs):Prop:=
 ∀(pins:List (Addr×Obj))(s:Shared)(σ:St)(H:Hp)(vs:List V)(us:List Value)(Q:St->Hp->Prop),Inv X pins σ H s->Vals vs us->t vs σ H Q->
  wpAny (model X.prog X.w) X.A (assignInOrder ((assignEach ts X.env).map (·.2)) us) (λ_ s'=>∃σ' H',Inv X pins σ' H' s'/\Q σ' H') X.xe s
abbrev TSet:=V->V->V->Hp->(Hp->Prop)->Prop
def PSet(X:Cx)(t:TSet):Prop:=
 ∀(pins:List (Addr×Obj))(s:Shared)(σ:St)(H:Hp)(o i v:V)(ov iv u:Value)(Q:Hp->Prop),Inv X pins σ H s->RelV o ov->RelV i iv->RelV v u->t o i v H Q->
  wpAny (model X.prog X.w) X.A (setItem ov iv u) (λ_ s'=>∃H',Inv X pins σ H' s'/\Q H') X.xe s
abbrev TIp:=V->V->Hp->VK->Prop
def PIp(X:Cx)(op:Operator)(t:TIp):Prop:=
 ∀(pins:List (Addr×Obj))(s:Shared)(σ:St)(H:Hp)(x y:V)(v u:Value)(Q:VK),Inv X pins σ H s->RelV x v->RelV y u->t x y H Q->
  wpAny (model X.prog X.w) X.A (inplaceOp op v u) (EP X pins σ Q) X.xe s
section
variable{X:Cx}{pos:Pos}
def b7f(i:Nat):TG:=λv σ H Q=>Q (σ.set i (some v)) H
theorem a1a{i:Nat}{x:Str}(hN:X.N.Nodup)(hi:X.N[i]? =some x)(hx:Loc X.env.scope x)(hf:X.fn x=true\/X.env.scope.names.lookup x=some .local:=by first|exact .inl rfl|exact .inr rfl|assumption):PG X (.Name x pos) (b7f i):=by
 intro pins s σ H v u Q I r h;exact Uy (b5u I hN hi hx r (λs' I'=>⟨_,H,I',h⟩) hf)
def gNil:TGs:=λvs σ H Q=>vs=[]/\Q σ H
def gCons(t:TG)(u:TGs):TGs:=λvs σ H Q=>∃v r,vs=v::r/\t v σ H λσ' H'=>u r σ' H' Q
theorem a7e:PGs X [] gNil:=by
 intro pins s σ H vs us Q I r h;obtain⟨e,h⟩:=h;subst e;cases r;exact assignInOrder_nil ⟨σ,H,I,h⟩
theorem a2n{e:Expr}{es:List Expr}{t:TG}{u:TGs}(h1:PG X e t)(h2:PGs X es u)
  (hs:(assignEach (e::es) X.env).map (·.2)=assign e X.env::(assignEach es X.env).map (·.2):=by rfl):PGs X (e::es) (gCons t u):=by
 intro pins s σ H vs us Q I r h;obtain⟨v,vr,e1,h⟩:=h;subst e1;cases r with
 |cons r rr=>
  rw[hs];refine assignInOrder_cons (thn (h1 pins s σ H _ _ _ I r h) λ_ s1 z9=>?_);obtain⟨σ1,H1,I1,q1⟩:=z9;exact h2 pins s1 σ1 H1 _ _ Q I1 rr q1
def gTup(K:W.Frag)(n:Nat)(t:TGs):TG:=λv σ H Q=>∃a xs,v=.ref a/\SqT K H a xs/\xs.length=n/\t xs σ H Q
theorem pg_tup{es:List Expr}{k:Nat}{t:TGs}{n:Nat}(hc:X.calm=true)(h:PGs X es t)
  (hn:(assignEach es X.env).length=n:=by rfl)(hst:(assignEach es X.env).findIdx? (·.1)=none:=by rfl):PG X (.Tuple es k pos) (gTup X.K n t):=by
 intro pins s σ H v u Q I r hw;obtain⟨a,xs,e1,hq,hl,hw⟩:=hw;subst e1;cases r;obtain⟨its,rv,ht,hz⟩:=I.tuple hq;refine assign_Tuple_tuple (I.ok.hd hc) ht (by simp[hn,<-hl,rv.length]) hst λh' hx=>?_
 have I1:Inv X pins σ H { s with heap:=h'}:=I.kept (t':=s.toks) λb o e=>hx b o (Z6 (Zu e)) e
 exact h pins _ σ H xs _ Q I1 (by simpa using rv) hw
def gSub(to ti:TE)(t:TSet):TG:=λv σ H Q=>to σ H λo H1=>ti σ H1 λi H2=>t o i v H2 λH3=>Q σ H3
theorem pg_sub{o i:Expr}{to ti:TE}{t:TSet}(ho:PE X o to)(hi:PE X i ti)(hs:PSet X t)
  (ha:∀v,assign (.Subscript o i pos) X.env v=(do
   let ov <-holding [v] (eval o X.env)
   let iv <-holding [v,ov] (eval i X.env)
   standAt pos
   holding [v,ov,iv] (setItem ov iv v)
   release [v,ov,iv] []):=by intro _;rfl):PG X (.Subscript o i pos) (gSub to ti t):=by
 intro pins s σ H v u Q I r h;rw[ha];refine Zb (Y7 (thn (ho pins s σ H _ I h) λov s1 z9=>?_));obtain⟨x,H1,I1,r1,q1⟩:=z9;refine Zb (Y7 (thn (hi pins s1 σ H1 _ I1 q1) λiv s2 z9=>?_));obtain⟨y,H2,I2,r2,q2⟩:=z9;refine Zb (Tn (Zb (Y7 (thn (hs pins s2 σ H2 x y v ov iv u _ I2 r1 r2 r q2) λ_ s3 z9=>?_))));obtain⟨H3,I3,q3⟩:=z9;exact wpAny_release ⟨σ,H3,I3,q3⟩
def tAsg(te:TE)(g:TG):TS:=λD σ H=>te σ H λx H1=>g x σ H1 D.nx
theorem c2h{tg e:Expr}{te:TE}{g:TG}(he:PE X e te)(hg:PG X tg g)(hs:swapsWithSole [tg] e pos.line X.env=pure false:=by rfl)(hw:swappedStores [tg] e X.env=pure none:=by rfl)
  (h1:(assignEach [tg] X.env).map (·.2)=[assign tg X.env]:=by rfl):PS X (.Assign [tg] e pos) (tAsg te g):=by
 intro pins s σ H D I h;refine wpAny_Assign_stores (thn (he pins s σ H _ I h) λv s1 ⟨x,H1,I1,r1,q1⟩=>?_) hs hw;rw[h1];exact thn (hg pins s1 σ H1 x v _ I1 r1 q1) λ_ s2 q=>q
theorem a0p{i:Nat}{x:Str}{e:Expr}{te:TE}{pos':Pos}(hN:X.N.Nodup)(hi:X.N[i]? =some x)(hx:Loc X.env.scope x)(he:PE X e te)(hs:swapsWith e (some (.Name x pos')) pos.line X.env=pure false:=by rfl)(hf:X.fn x=true\/X.env.scope.names.lookup x=some .local:=by first|exact .inl rfl|exact .inr rfl|assumption):
  PS X (.Assign [.Name x pos'] e pos) (tAsg te (b7f i)):=by
 intro pins s σ H D I h;refine wpAny_Assign_Name (thn (he pins s σ H _ I h) λv s1 ⟨y,H1,I1,r1,q1⟩=>?_) hs;exact b5u I1 hN hi hx r1 (λs2 I2=>⟨_,H1,I2,q1⟩) hf
end
section
variable{X:Cx}{pos:Pos}
def c2i(c:TT)(tb:TS):TS:=λD σ H=>∃W:Nat->St->Hp->Prop,(∃m,W m σ H)/\∀m σ H,W m σ H->
 c σ H λb H1=>if b=true then ∃N:St->Hp->Prop,(∀σ' H',N σ' H'->∃m',m'<m/\W m' σ' H')/\tb { D with nx:=N,ct:=N,bk:=D.nx} σ H1 else D.nx σ H1
theorem b2v{c:Expr}{body:List Stmt}{tc:TT}{tb:TS}(hp:PassesOwn (model X.prog X.w) X.A X.env X.xe)(hc:PT X c tc)(hb:PSs X body tb):PS X (.While c body [] pos) (c2i tc tb):=by
 intro pins s σ H D I h;obtain⟨W,⟨m0,w0⟩,turn⟩:=h;refine wpAny_While (codeAny_whileLoop (λn s'=>∃σ' H',Inv X pins σ' H' s'/\W n σ' H') ?_ m0 ⟨σ,H,I,w0⟩)
 rintro n s1 ⟨σ1,H1,I1,w1⟩
 refine Wi hp (thn (hc pins s1 σ1 H1 _ I1 (turn n σ1 H1 w1)) λb s2 z9=>?_);obtain⟨H2,I2,q2⟩:=z9;cases b with
 |true=>
  obtain⟨N,hN,q2⟩:=q2;rw[if_pos rfl];refine Wi hp (thn (hb pins s2 σ1 H2 _ I2 q2) λf s3 q3=>?_);cases f with
  |next=>
   obtain⟨σ3,H3,I3,n3⟩:=q3;obtain⟨m',hm,w3⟩:=hN σ3 H3 n3;exact⟨m',hm,σ3,H3,I3,w3⟩
  |cont=>
   obtain⟨σ3,H3,I3,n3⟩:=q3;obtain⟨m',hm,w3⟩:=hN σ3 H3 n3;exact⟨m',hm,σ3,H3,I3,w3⟩
  |brk=>exact q3
  |ret v=>exact q3
 |false=>
  rw[if_neg Zj];exact Ua ⟨σ1,H2,I2,q2⟩
end
structure It where
 go:Nat->Hp->Prop
 yld:Nat->Hp->V->Hp->Prop
 stop:Nat->Hp->Prop
def FpOk(X:Cx)(pins:List (Addr×Obj))(H:Hp)(b:Addr):Prop:=
 H b=none/\b≠X.env.locals/\b∉X.fs/\(b∈X.ex\/X.s₀.heap.objs.size<=b)/\(∀x c,X.env.cells.lookup x=some c->c≠b)/\∀p∈X.pn++pins,p.1≠b
theorem Inv.fpOk{X:Cx}{pins:List (Addr×Obj)}{σ:St}{H H':Hp}{s:Shared}{b:Addr}(I:Inv X pins σ H s)(hb:s.heap.objs.size<=b)(hn:H' b=none):FpOk X pins H' b:=by
 refine⟨hn,Nat.ne_of_gt (Yd I.lt hb),I.nofs hb,.inr (Xd I.sz hb),λx c e z=>?_,λp hp z=>?_⟩
 ·obtain⟨v,q⟩:=I.cell x c e;exact absurd (Yd q.lt (by rw[z];exact hb)) (Yt _)
 ·exact absurd (Yd (Zu (I.pin p hp).1) (by rw[z];exact hb)) (Yt _)
structure Turn(P:Program)(w:World)(K:W.Frag)(tg:Expr)(J:It)(fp:List Addr)(it:Addr)(tn:Nat->Heap->Prop):Prop where
 mem:it∈fp
 obj:∀i h,tn i h->∀b∈fp,∃o,h.get? b=some o/\∀v,o.data≠.cell v
 keep:∀i h h',tn i h->(∀b∈fp,∀o,h.get? b=some o->h'.get? b=some o)->tn i h'
 item:∀(X:Cx),X.prog=P->X.w=w->X.K=K->X.calm=true->∀(i:Nat)(pins:List (Addr×Obj))(s:Shared)(σ:St)(H:Hp)(E:Value->Shared->Prop),Inv X pins σ H s->(∀b∈fp,FpOk X pins H b)->tn i s.heap->J.go i H->
  wpAny (model P w) X.A (pyNext (.ref it)) (λr s1=>∃u,r=some u/\
   wpAny (model P w) X.A (letOwnedTupleGo tg (.ref it) u) (λ_ s2=>∃x H',Inv X pins σ H' s2/\RelV x u/\J.yld i H x H'/\tn (i+1) s2.heap/\∀b∈fp,H' b=none) E s1) E s
 done:∀(X:Cx),X.prog=P->X.w=w->X.K=K->X.calm=true->∀(i:Nat)(pins:List (Addr×Obj))(s:Shared)(σ:St)(H:Hp)(E:Value->Shared->Prop),Inv X pins σ H s->(∀b∈fp,FpOk X pins H b)->tn i s.heap->J.stop i H->
  wpAny (model P w) X.A (pyNext (.ref it)) (λr s1=>r=none/\Inv X pins σ H s1) E s
 self:∀(A:Around)(i:Nat)(s:Shared)(Q:Value->Shared->Prop)(E:Value->Shared->Prop),tn i s.heap->Q (.ref it) s->wpAny (model P w) A (pyIter (.ref it)) Q E s
abbrev TI:=St->Hp->(It->Hp->Prop)->Prop
def PIE(X:Cx)(pins:List (Addr×Obj))(σ:St)(tg:Expr)(R:It->Hp->Prop)(itv:Value)(s2:Shared):Prop:=
 ∃(it:Addr)(fp:List Addr)(tn:Nat->Heap->Prop)(J:It)(H':Hp),itv=.ref it/\Inv X pins σ H' s2/\Turn X.prog X.w X.K tg J fp it tn/\tn 0 s2.heap/\(∀b∈fp,FpOk X pins H' b)/\R J H'
def PI(X:Cx)(tg iter:Expr)(wi:TI):Prop:=
 ∀(pins:List (Addr×Obj))(s:Shared)(σ:St)(H:Hp)(R:It->Hp->Prop),Inv X pins σ H s->wi σ H R->
  wpAny (model X.prog X.w) X.A (eval iter X.env) (λv s1=>wpAny (model X.prog X.w) X.A (pyIter v) (PIE X pins σ tg R) X.xe s1) X.xe s
theorem b2w{M:Model}{A:Around}{E:Value->Shared->Prop}{s:Shared}{tg:Expr}{it:Addr}{u:Value}{o:Obj}{n:String}{vs:Array Value}{Q:Unit->Shared->Prop}(ho:s.heap.get? it=some o)(hc:o.cls=.type n)(hd:o.data=.fields vs)
  (hn:["enumerate","zip","dict_itemiterator","dict_reverseitemiterator","odict_iterator","itertools.zip_longest","itertools.pairwise"].contains n=false)(hQ:Q () s):wpAny M A (letOwnedTupleGo tg (.ref it) u) Q E s:=by
 unfold letOwnedTupleGo;cases tg<;>first
  |exact Zf hQ
  | (cases u<;>first
    |exact Zf hQ
    | (refine Zb (wpAny_load ho ?_)
       rw[hc,hd]
       show wpAny M A (if(["enumerate","zip","dict_itemiterator","dict_reverseitemiterator","odict_iterator","itertools.zip_longest","itertools.pairwise"].contains n&&vs[0]? ==some (rawInt _))=true then _ else _) Q E s
       rw[if_neg (by intro h;rw[hn,Bool.false_and]at h;cases h)]
       exact Zf hQ))
def Itl(K:W.Frag)(a:Addr):It:=
 ⟨λi H=>∃xs x,SqL K H a xs/\xs[i]? =some x,λi H x H'=>H'=H/\∀xs,SqL K H a xs->xs[i]? =some x,λi H=>∃xs,SqL K H a xs/\xs.length<=i⟩
def Itt(K:W.Frag)(a:Addr):It:=
 ⟨λi H=>∃xs x,SqT K H a xs/\xs[i]? =some x,λi H x H'=>H'=H/\∀xs,SqT K H a xs->xs[i]? =some x,λi H=>∃xs,SqT K H a xs/\xs.length<=i⟩
def Itr(lo:Int)(n:Nat):It:=⟨λi _=>i<n,λi H x H'=>H'=H/\x=.int (lo+i),λi _=>n<=i⟩
theorem c0h{P:Program}{w:World}{K:W.Frag}{tg:Expr}(a it:Addr):Turn P w K tg (Itl K a) [it] it (λi h=>h.IsListIter it a i) where
 mem:=by simp
 obj:=λi h st b hb=>by
  have e:b=it:=by simpa using hb
  subst e;obtain⟨o,e,c,d⟩:=st;exact⟨o,e,λv z=>by rw[d]at z;cases z⟩
 keep:=λi h h' st k=>st.at λo e=>k it qz o e
 item:=by
  intro X hP hw hK hc i pins s σ H E I hf st hg;subst hP hw hK;obtain⟨xs,x,hq,hx⟩:=hg;obtain⟨its,rv,p,hz⟩:=I.list hq;obtain⟨u,hu,ru⟩:=rv.get hx;obtain⟨f0,f1,f2,f3,f4,f5⟩:=hf it qz;refine wpAny_pyNext_list_item st p.isList (x:=u) (by simpa using hu) λh' st' sb=>?_
  have I1:Inv X pins σ H { s with heap:=h'}:=I.turned (t':=s.toks) (λb o hb e=>(sb.2 b hb).trans e) f0 f1 f3 f4 f5;obtain⟨o,e,c,d⟩:=id st';exact⟨u,rfl,b2w (s:={ s with heap:=h'}) e c d qd ⟨x,H,I1,ru,⟨rfl,λys hy=>by rw[I.list_inj hy hq];exact hx⟩,st',λb hb=>(hf b hb).1⟩⟩
 done:=by
  intro X hP hw hK hc i pins s σ H E I hf st hg;subst hP hw hK;obtain⟨xs,hq,hx⟩:=hg;obtain⟨its,rv,p,hz⟩:=I.list hq;obtain⟨f0,f1,f2,f3,f4,f5⟩:=hf it qz;have hl:=rv.length;exact wpAny_pyNext_list_end (I.ok.hd hc) st p.isList (by simp;omega) λh' eb=>⟨rfl,I.turned (t':=s.toks) (λb o hb e=>eb b o hb e) f0 f1 f3 f4 f5⟩
 self:=λ_ _ _ _ _ st h=>wpAny_pyIter_listiter st h
theorem b7g{P:Program}{w:World}{K:W.Frag}{tg:Expr}(a it:Addr):Turn P w K tg (Itt K a) [it] it (λi h=>h.IsTupleIter it a i) where
 mem:=by simp
 obj:=λi h st b hb=>by
  have e:b=it:=by simpa using hb
  subst e;obtain⟨o,e,c,d⟩:=st;exact⟨o,e,λv z=>by rw[d]at z;cases z⟩
 keep:=λi h h' st k=>st.at λo e=>k it qz o e
 item:=by
  intro X hP hw hK hc i pins s σ H E I hf st hg;subst hP hw hK;obtain⟨xs,x,hq,hx⟩:=hg;obtain⟨its,rv,p,hz⟩:=I.tuple hq;obtain⟨u,hu,ru⟩:=rv.get hx;obtain⟨f0,f1,f2,f3,f4,f5⟩:=hf it qz;refine wpAny_pyNext_tuple_item st (show s.heap.IsTuple a its.toArray from p) (x:=u) (by simpa using hu) λh' st' sb=>?_
  have I1:Inv X pins σ H { s with heap:=h'}:=I.turned (t':=s.toks) (λb o hb e=>(sb.2 b hb).trans e) f0 f1 f3 f4 f5;obtain⟨o,e,c,d⟩:=id st';exact⟨u,rfl,b2w (s:={ s with heap:=h'}) e c d qd ⟨x,H,I1,ru,⟨rfl,λys hy=>by rw[I.tuple_inj hy hq];exact hx⟩,st',λb hb=>(hf b hb).1⟩⟩
 done:=by
  intro X hP hw hK hc i pins s σ H E I hf st hg;subst hP hw hK;obtain⟨xs,hq,hx⟩:=hg;obtain⟨its,rv,p,hz⟩:=I.tuple hq;obtain⟨f0,f1,f2,f3,f4,f5⟩:=hf it qz;have hl:=rv.length;exact wpAny_pyNext_tuple_end (I.ok.hd hc) st (show s.heap.IsTuple a its.toArray from p) (by simp;omega) λh' eb=>⟨rfl,I.turned (t':=s.toks) (λb o hb e=>eb b o hb e) f0 f1 f3 f4 f5⟩
 self:=λ_ _ _ _ _ st h=>wpAny_pyIter_tupleiter st h
theorem c7a{P:Program}{w:World}{K:W.Frag}{tg:Expr}(it:Addr)(lo:Int)(n:Nat):Turn P w K tg (Itr lo n) [it] it (λi h=>IsRangeIter h it (lo+(i:Nat)*1) ((n:Int)-(i:Nat)) 1) where
 mem:=by simp
 obj:=λi h st b hb=>by
  have e:b=it:=by simpa using hb
  subst e
  exact⟨_,st,λv z=>by
   have z':Data.fields _=Data.cell v:=z
   cases z'⟩
 keep:=λi h h' st k=>k it qz _ st
 item:=by
  intro X hP hw hK hc i pins s σ H E I hf st hg;subst hP hw hK;obtain⟨f0,f1,f2,f3,f4,f5⟩:=hf it qz;have W:=Walks.range (prog:=X.prog) (w:=X.w) (I.ok.hd hc) it lo 1 n;refine W.item i s _ _ hg st λv h' tk hv st' kk=>?_
  obtain⟨t,rfl⟩:=hv;have I1:Inv X pins σ H { s with heap:=h',toks:=tk}:=I.turned (λb o hb e=>kk b o (by simpa using hb) e) f0 f1 f3 f4 f5;refine⟨_,rfl,b2w (s:={ s with heap:=h',toks:=tk}) (n:="range_iterator") st' rfl rfl qd ⟨.int (lo+i),H,I1,⟨t,?_⟩,⟨rfl,rfl⟩,st',λb hb=>(hf b hb).1⟩⟩;rw[Int.mul_one]
 done:=by
  intro X hP hw hK hc i pins s σ H E I hf st hg;subst hP hw hK;obtain⟨f0,f1,f2,f3,f4,f5⟩:=hf it qz;exact wpAny_pyNext_range_end (I.ok.hd hc) st (by have:n<=i:=hg;omega) λh' eb=>⟨rfl,I.turned (t':=s.toks) (λb o hb e=>eb b o hb e) f0 f1 f3 f4 f5⟩
 self:=λ_ _ _ _ _ st h=>wpAny_pyIter_rangeiter st h
section
variable{X:Cx}{tg:Expr}
def iList(K:W.Frag)(tl:TE):TI:=λσ H R=>tl σ H λx H1=>∃a,x=.ref a/\(∃xs,SqL K H1 a xs)/\R (Itl K a) H1
def iTup(K:W.Frag)(tl:TE):TI:=λσ H R=>tl σ H λx H1=>∃a,x=.ref a/\(∃xs,SqT K H1 a xs)/\R (Itt K a) H1
theorem pi_list{l:Expr}{tl:TE}(hl:PE X l tl):PI X tg l (iList X.K tl):=by
 intro pins s σ H R I h;refine thn (hl pins s σ H _ I h) λv s1 z9=>?_
 obtain⟨x,H1,I1,r1,q1⟩:=z9;obtain⟨a,e,⟨xs,hq⟩,q⟩:=q1;subst e;cases r1;obtain⟨its,rv,p,hz⟩:=I1.list hq;refine W5 p.isList ?_;refine⟨s1.heap.objs.size,[s1.heap.objs.size],_,_,H1,rfl,I1.kept (t':=s1.toks) λb o e=>Zd _ e,c0h a _,⟨_,Zl _ rfl,rfl,rfl⟩,λb hb=>?_,q⟩;have e:b=s1.heap.objs.size:=by simpa using hb
 subst e;exact I1.fpOk (Zg _) (I1.hok.fresh (Zg _))
theorem pi_tup{l:Expr}{tl:TE}(hl:PE X l tl):PI X tg l (iTup X.K tl):=by
 intro pins s σ H R I h;refine thn (hl pins s σ H _ I h) λv s1 z9=>?_
 obtain⟨x,H1,I1,r1,q1⟩:=z9;obtain⟨a,e,⟨xs,hq⟩,q⟩:=q1;subst e;cases r1;obtain⟨its,rv,p,hz⟩:=I1.tuple hq;refine Wg (show s1.heap.IsTuple a its.toArray from p) ?_;refine⟨s1.heap.objs.size,[s1.heap.objs.size],_,_,H1,rfl,I1.kept (t':=s1.toks) λb o e=>Zd _ e,b7g a _,⟨_,Zl _ rfl,rfl,rfl⟩,λb hb=>?_,q⟩;have e:b=s1.heap.objs.size:=by simpa using hb
 subst e;exact I1.fpOk (Zg _) (I1.hok.fresh (Zg _))
theorem c2j{pins:List (Addr×Obj)}{σ:St}{H:Hp}{s:Shared}{R:It->Hp->Prop}{E:Value->Shared->Prop}{lo hi:Int}{t u v:Tok}{tk:Nat}(I:Inv X pins σ H s)(h1:-(2^62)<=lo)(h2:lo<2^62)(h3:-(2^62)<=hi)(h4:hi<2^62)
  (q:R (Itr lo (hi-lo).toNat) H):wpAny (model X.prog X.w) X.A (pyIter (.ref s.heap.objs.size)) (PIE X pins σ tg R) E { s with heap:=s.heap.push { cls:=.type "range",data:=.fields #[.int lo t,.int hi u,.int 1 v]},toks:=tk}:=by
 refine wpAny_pyIter_range (IsRange.new ..) (small_one h1 h2 h3 h4) ?_;have I1:Inv X pins σ H { s with heap:=s.heap.push { cls:=.type "range",data:=.fields #[.int lo t,.int hi u,.int 1 v]},toks:=tk}:=I.kept λb o e=>Zd _ e
 refine⟨(s.heap.push { cls:=.type "range",data:=.fields #[.int lo t,.int hi u,.int 1 v]}).objs.size,[(s.heap.push { cls:=.type "range",data:=.fields #[.int lo t,.int hi u,.int 1 v]}).objs.size],_,_,H,rfl,
  I1.kept (t':=tk) λb o e=>Zd _ e,c7a _ lo (hi-lo).toNat,?_,λb hb=>?_,q⟩
 ·have e1:lo+((0:Nat):Int)*1=lo:=by simp
  have e2:(((hi-lo).toNat:Nat):Int)-((0:Nat):Int)=Builtin.Range.rangeSize lo hi 1:=by rw[rangeSize_one];split<;>omega
  show IsRangeIter _ _ (lo+((0:Nat):Int)*1) ((((hi-lo).toNat:Nat):Int)-((0:Nat):Int)) 1
  rw[e1,e2];exact Zl _ rfl
 ·have e:b=(s.heap.push { cls:=.type "range",data:=.fields #[.int lo t,.int hi u,.int 1 v]}).objs.size:=by simpa using hb
  subst e;exact I1.fpOk (Zg _) (I1.hok.fresh (Zg _))
def iRng1(ta:TA):TI:=λσ H R=>ta σ H λvs H1=>∃j:Int,vs=[.int j]/\-(2^62)<=j/\j<2^62/\R (Itr 0 j.toNat) H1
def iRng2(ta:TA):TI:=λσ H R=>ta σ H λvs H1=>∃i j:Int,vs=[.int i,.int j]/\(-(2^62)<=i/\i<2^62/\-(2^62)<=j/\j<2^62)/\R (Itr i (j-i).toNat) H1
theorem a2o{a:Expr}{ta:TA}{p pos:Pos}(hg:Gl X "range")(hm:X.mg "range"=none)(ha:PA X [a] ta)(hs:starEach [a] X.env=[(false,eval a X.env)]:=by rfl):PI X tg (.Call (.Name "range" p) [a] [] pos) (iRng1 ta):=by
 intro pins s σ H R I h;refine Call_ (a6u I hg hm boot_range (Yu (thn (ha pos pins s σ H _ I h) λus s1 ⟨vs,H1,I1,r1,q1⟩=>?_) hs rfl));obtain⟨j,e,q1,q2,q⟩:=q1;subst e;cases r1 with
 |cons r rr=>
  cases rr;obtain⟨t,rfl⟩:=r;exact call_range_1 (c2j I1 qo qo q1 q2 (by simpa using q))
theorem a8o{a b:Expr}{ta:TA}{p pos:Pos}(hg:Gl X "range")(hm:X.mg "range"=none)(ha:PA X [a,b] ta)(hs:starEach [a,b] X.env=[(false,eval a X.env),(false,eval b X.env)]:=by rfl)(hs2:starEach [b] X.env=[(false,eval b X.env)]:=by rfl):
  PI X tg (.Call (.Name "range" p) [a,b] [] pos) (iRng2 ta):=by
 intro pins s σ H R I h;refine Call_ (a6u I hg hm boot_range (Yu (thn (ha pos pins s σ H _ I h) λus s1 ⟨vs,H1,I1,r1,q1⟩=>?_) (by rw[hs,hs2]) (by rw[hs2];rfl)));obtain⟨i,j,e,⟨q1,q2,q3,q4⟩,q⟩:=q1;subst e;cases r1 with
 |cons r rr=>
  cases rr with
  |cons r' rr=>
   cases rr;obtain⟨t,rfl⟩:=r;obtain⟨t',rfl⟩:=r';exact call_range_2 (c2j I1 q1 q2 q3 q4 q)
def tFor(wi:TI)(g:TG)(tb:TS):TS:=λD σ H=>wi σ H λJ H1=>∃W:Nat->Nat->St->Hp->Prop,(∃m,W 0 m σ H1)/\∀i m σ H,W i m σ H->
 (J.stop i H/\D.nx σ H)\/(J.go i H/\∃N:St->Hp->Prop,(∀σ' H',N σ' H'->∃m',m'<m/\W (i+1) m' σ' H')/\∀x H',J.yld i H x H'->g x σ H' λσ2 H2=>tb { D with nx:=N,ct:=N,bk:=D.nx} σ2 H2)
def b1o(fp:List Addr)(h:Heap):List (Addr×Obj):=fp.filterMap λb=>(h.get? b).map λo=>(b,o)
theorem a9f{fp:List Addr}{h:Heap}{b:Addr}{o:Obj}(hb:b∈fp)(e:h.get? b=some o):(b,o)∈b1o fp h:=Rh.mpr ⟨b,hb,by rw[e];rfl⟩
theorem c8z{fp:List Addr}{h:Heap}{p:Addr×Obj}(hp:p∈b1o fp h):p.1∈fp/\h.get? p.1=some p.2:=by
 obtain⟨b,hb,e⟩:=Rh.mp hp;cases q:h.get? b with
 |none=>rw[q]at e;cases e
 |some o=>
  rw[q]at e;have e':(b,o)=p:=Zi e;subst e';exact⟨hb,q⟩
theorem Inv.pinned{pins:List (Addr×Obj)}{σ:St}{H:Hp}{s:Shared}{fp:List Addr}(I:Inv X pins σ H s)(hf:∀b∈fp,FpOk X pins H b)(ho:∀b∈fp,∃o,s.heap.get? b=some o/\∀v,o.data≠.cell v):Inv X (pins++b1o fp s.heap) σ H s:=
 I.pins_of λp hp=>(Zm.mp hp).elim (λz=>I.pin p (Yv _ z)) λz=>by
  obtain⟨hb,e⟩:=c8z z;obtain⟨f0,f1,f2,_⟩:=hf p.1 hb;obtain⟨o,e',d⟩:=ho p.1 hb;rw[e]at e';cases e';exact⟨e,f0,f1,f2,d⟩
theorem Inv.unpinned{pins pl:List (Addr×Obj)}{σ:St}{H:Hp}{s:Shared}(I:Inv X (pins++pl) σ H s):Inv X pins σ H s:=I.pins_of λp hp=>I.pin p (Yv _ (Su _ hp))
theorem a1p{iter:Expr}{body:List Stmt}{wi:TI}{g:TG}{tb:TS}{pos:Pos}(hp:PassesOwn (model X.prog X.w) X.A X.env X.xe)(hc:X.calm=true)(hi:PI X tg iter wi)(hg:PG X tg g)(hb:PSs X body tb)
  (hs:∀x,foldedSetIterable iter X.env x=pure x:=by intro _;rfl):PS X (.For tg iter body [] pos) (tFor wi g tb):=by
 intro pins s σ H D I h;refine wpAny_For (thn (hi pins s σ H _ I h) λv s1 h1=>thn h1 λitv s2 h2=>?_) hs;obtain⟨it,fp,tn,J,H2,e,I2,T,st2,f2,W,⟨m0,w0⟩,turn⟩:=h2;subst e;have stat:∀{H':Hp},(∀b∈fp,H' b=none)->∀b∈fp,FpOk X pins H' b:=λhn b hb=>⟨hn b hb,(f2 b hb).2⟩
 refine codeAny_forLoop_any (λn s'=>∃i σ' H',Inv X pins σ' H' s'/\tn i s'.heap/\(∀b∈fp,H' b=none)/\W i n σ' H') ?_ m0 ⟨0,σ,H2,I2,st2,λb hb=>(f2 b hb).1,w0⟩
 rintro n s3 ⟨i,σ3,H3,I3,st3,fr3,w3⟩
 rcases turn i n σ3 H3 w3 with⟨stop,qn⟩|⟨go,N,hN,step⟩
 ·refine Wi hp (thn (T.done X rfl rfl rfl hc i pins s3 σ3 H3 X.xe I3 (stat fr3) st3 stop) λr s4 ⟨hr,I4⟩=>?_);subst hr;exact Ua ⟨σ3,H3,I4,qn⟩
 ·refine Wi hp (thn (T.item X rfl rfl rfl hc i pins s3 σ3 H3 X.xe I3 (stat fr3) st3 go) λr s4 ⟨u,hr,h4⟩=>?_);subst hr;refine Wi hp (thn h4 λ_ s5 z9=>?_);obtain⟨x,H5,I5,r5,y5,st5,fr5⟩:=z9;have I5':=I5.pinned (stat fr5) (T.obj _ _ st5);refine Wi hp (thn (hg _ s5 σ3 H5 x u _ I5' r5 (step x H5 y5)) λ_ s6 z9=>?_);obtain⟨σ6,H6,I6,q6⟩:=z9;refine Wi hp (thn (hb _ s6 σ6 H6 _ I6 q6) λf s7 q7=>?_);have again:∀{σ7:St}{H7:Hp},Inv X (pins++b1o fp s5.heap) σ7 H7 s7->N σ7 H7->∃m,m<n/\∃i σ' H',Inv X pins σ' H' s7/\tn i s7.heap/\(∀b∈fp,H' b=none)/\W i m σ' H':=λ{σ7 H7} I7 n7=>by
   obtain⟨m',hm,w7⟩:=hN σ7 H7 n7;refine⟨m',hm,i+1,σ7,H7,I7.unpinned,T.keep _ _ _ st5 λb hb o e=>(I7.pin (b,o) (Yv _ (Yv _ (a9f hb e)))).1,λb hb=>?_,w7⟩;obtain⟨o,e,d⟩:=T.obj _ _ st5 b hb;exact(I7.pin (b,o) (Yv _ (Yv _ (a9f hb e)))).2.1
  cases f with
  |next=>obtain⟨σ7,H7,I7,n7⟩:=q7;exact again I7 n7
  |cont=>obtain⟨σ7,H7,I7,n7⟩:=q7;exact again I7 n7
  |brk=>obtain⟨σ7,H7,I7,q7⟩:=q7;exact⟨σ7,H7,I7.unpinned,q7⟩
  |ret v=>obtain⟨x7,σ7,H7,I7,r7,q7⟩:=q7;exact⟨x7,σ7,H7,I7.unpinned,r7,q7⟩
end
abbrev R2:=V->V->Hp->VK->Prop
def OpR(X:Cx)(f:Value->Value->Sem Value)(r:R2):Prop:=
 ∀(pins:List (Addr×Obj))(s:Shared)(σ:St)(H:Hp)(x y:V)(v u:Value)(Q:VK),Inv X pins σ H s->RelV x v->RelV y u->r x y H Q->
  wpAny (model X.prog X.w) X.A (f v u) (EP X pins σ Q) X.xe s
def UnR(X:Cx)(f:Value->Sem Value)(r:V->Hp->VK->Prop):Prop:=
 ∀(pins:List (Addr×Obj))(s:Shared)(σ:St)(H:Hp)(x:V)(v:Value)(Q:VK),Inv X pins σ H s->RelV x v->r x H Q->
  wpAny (model X.prog X.w) X.A (f v) (EP X pins σ Q) X.xe s
def a2w(X:Cx)(f:Value)(r:List V->Hp->VK->Prop):Prop:=
 ∀(pins:List (Addr×Obj))(s:Shared)(σ:St)(H:Hp)(xs:List V)(us:List Value)(Q:VK),Inv X pins σ H s->Vals xs us->r xs H Q->
  wpAny (model X.prog X.w) X.A (call f us) (EP X pins σ Q) X.xe s
def TruR(X:Cx)(r:V->Hp->(Bool->Hp->Prop)->Prop):Prop:=
 ∀(pins:List (Addr×Obj))(s:Shared)(σ:St)(H:Hp)(x:V)(v:Value)(Q:Bool->Hp->Prop),Inv X pins σ H s->RelV x v->r x H Q->
  wpAny (model X.prog X.w) X.A (truthy v) (TP X pins σ Q) X.xe s
def tOp(r:R2)(ta tb:TE):TE:=λσ H Q=>ta σ H λx H1=>tb σ H1 λy H2=>r x y H2 Q
def tUn(r:V->Hp->VK->Prop)(ta:TE):TE:=λσ H Q=>ta σ H λx H1=>r x H1 Q
def rI(C:Int->Int->Prop)(g:Int->Int->V):R2:=λx y H Q=>∃i j,x=.int i/\y=.int j/\C i j/\Q (g i j) H
def rI0(g:Int->Int->V):R2:=λx y H Q=>∃i j,x=.int i/\y=.int j/\Q (g i j) H
def rU(g:Int->V):V->Hp->VK->Prop:=λx H Q=>∃i,x=.int i/\Q (g i) H
section
variable{X:Cx}{a b c:Expr}{ta tb tc:TE}{pos:Pos}
theorem binT(ha:PE X a ta)(hb:PE X b tb){pins:List (Addr×Obj)}{s:Shared}{σ:St}{H:Hp}{R:V->V->Hp->Prop}(I:Inv X pins σ H s)
  (h:ta σ H λx H1=>tb σ H1 λy H2=>R x y H2){Q:Value->Shared->Prop}{f:Value->Value->Sem Value}
  (hf:∀v u s2 x y H2,Inv X pins σ H2 s2->RelV x v->RelV y u->R x y H2->wpAny (model X.prog X.w) X.A (f v u) Q X.xe s2):
  wpAny (model X.prog X.w) X.A (eval a X.env) (λv s₁=>wpAny (model X.prog X.w) X.A (eval b X.env) (λu s₂=>wpAny (model X.prog X.w) X.A (f v u) Q X.xe s₂) X.xe s₁) X.xe s:=by
 refine thn (ha pins s σ H _ I h) λv s1 z9=>?_
 obtain⟨x,H1,I1,r1,q1⟩:=z9;refine thn (hb pins s1 σ H1 _ I1 q1) λu s2 z9=>?_
 obtain⟨y,H2,I2,r2,q2⟩:=z9;exact hf v u s2 x y H2 I2 r1 r2 q2
theorem a0u{op:Operator}{r:R2}(ho:OpR X (binaryOp op) r)(ha:PE X a ta)(hb:PE X b tb):PE X (.BinOp a op b pos) (tOp r ta tb):=by
 intro pins s σ H Q I h;exact wpAny_BinOp (binT ha hb I h λv u s2 x y H2 I2 rx ry q=>ho pins s2 σ H2 x y v u Q I2 rx ry q)
theorem b7h{op:UnaryOp}{r:V->Hp->VK->Prop}(ho:UnR X (unaryOp op) r)(ha:PE X a ta):PE X (.UnaryOp op a pos) (tUn r ta):=by
 intro pins s σ H Q I h;exact UnaryOp_ (thn (ha pins s σ H _ I h) λv s1 ⟨x,H1,I1,r1,q1⟩=>ho pins s1 σ H1 x v Q I1 r1 q1)
theorem opI{f:Value->Value->Sem Value}{C:Int->Int->Prop}{g:Int->Int->Int}
  (rule:∀(i j:Int)(t u:Tok)(s:Shared)(Q:Value->Shared->Prop)(E:Value->Shared->Prop),C i j->Q (.int (g i j) s.toks) { s with toks:=s.toks+1}->wpAny (model X.prog X.w) X.A (f (.int i t) (.int j u)) Q E s):
  OpR X f (rI C λi j=>.int (g i j)):=by
 intro pins s σ H x y v u Q I rx ry h;obtain⟨i,j,rfl,rfl,hc,q⟩:=h;obtain⟨t,rfl⟩:=rx;obtain⟨t',rfl⟩:=ry;exact rule i j t t' s _ _ hc ⟨.int (g i j),H,I.tok _,⟨_,rfl⟩,q⟩
theorem opI0{f:Value->Value->Sem Value}{g:Int->Int->Int}
  (rule:∀(i j:Int)(t u:Tok)(s:Shared)(Q:Value->Shared->Prop)(E:Value->Shared->Prop),Q (.int (g i j) s.toks) { s with toks:=s.toks+1}->wpAny (model X.prog X.w) X.A (f (.int i t) (.int j u)) Q E s):
  OpR X f (rI0 λi j=>.int (g i j)):=by
 intro pins s σ H x y v u Q I rx ry h;obtain⟨i,j,rfl,rfl,q⟩:=h;obtain⟨t,rfl⟩:=rx;obtain⟨t',rfl⟩:=ry;exact rule i j t t' s _ _ ⟨.int (g i j),H,I.tok _,⟨_,rfl⟩,q⟩
theorem opB0{f:Value->Value->Sem Value}{g:Int->Int->Bool}
  (rule:∀(i j:Int)(t u:Tok)(s:Shared)(Q:Value->Shared->Prop)(E:Value->Shared->Prop),Q (.bool (g i j)) s->wpAny (model X.prog X.w) X.A (f (.int i t) (.int j u)) Q E s):
  OpR X f (rI0 λi j=>.bl (g i j)):=by
 intro pins s σ H x y v u Q I rx ry h;obtain⟨i,j,rfl,rfl,q⟩:=h;obtain⟨t,rfl⟩:=rx;obtain⟨t',rfl⟩:=ry;exact rule i j t t' s _ _ ⟨.bl (g i j),H,I,rfl,q⟩
def CDiv(i j:Int):Prop:=0<j/\j<1073741824
def CPow(i j:Int):Prop:=0<=j/\j<=1000000/\i.natAbs<2^64
def CMul(i j:Int):Prop:=(-(2^64)<i/\i<2^64)\/(-(2^64)<j/\j<2^64)
theorem CMul.ok{i j:Int}(h:CMul i j):IntMulOk i j:=by
 rcases h with⟨h1,h2⟩|⟨h1,h2⟩
 ·exact .of_left (intBits_le_64 h1 h2)
 ·exact .of_right (intBits_le_64 h1 h2)
theorem op_add:OpR X (binaryOp .Add) (rI0 λi j=>.int (i+j)):=opI0 λ_ _ _ _ _ _ _ q=>add_int q
theorem op_sub:OpR X (binaryOp .Sub) (rI0 λi j=>.int (i-j)):=opI0 λ_ _ _ _ _ _ _ q=>sub_int q
theorem op_fdiv:OpR X (binaryOp .FloorDiv) (rI CDiv λi j=>.int (i/j)):=opI λi j _ _ _ _ _ hc q=>by
 have h1:(0:Int)<j:=hc.1;have h2:j<1073741824:=hc.2;exact floordiv_int qo (by rw[Int.fdiv_eq_ediv_of_nonneg i qo];exact q) (.inl (PyProof.noPylong_small qo))
theorem op_mod:OpR X (binaryOp .Mod) (rI (λ_ j=>0<j) λi j=>.int (i%j)):=opI λi j _ _ _ _ _ hc q=>by
 have h1:(0:Int)<j:=hc;exact mod_int' qo (by rw[Int.fmod_eq_emod_of_nonneg i qo];exact q)
theorem op_pow:OpR X (binaryOp .Pow) (rI CPow λi j=>.int (i^j.toNat)):=opI λ_ _ _ _ _ _ _ hc q=>pow_int_small hc.1 hc.2.1 hc.2.2 q
theorem op_shl:OpR X (binaryOp .LShift) (rI CPow λi j=>.int (i*2^j.toNat)):=opI λ_ _ _ _ _ _ _ hc q=>lshift_int_small hc.1 hc.2.1 hc.2.2 q
theorem op_or:OpR X (binaryOp .BitOr) (rI0 λi j=>.int (Builtin.bitOr i j)):=opI0 λ_ _ _ _ _ _ _ q=>or_int q
theorem iop_add:OpR X (inplaceOp .Add) (rI0 λi j=>.int (i+j)):=opI0 λ_ _ _ _ _ _ _ q=>iadd_int q
theorem unI{f:Value->Sem Value}{g:Int->Int}
  (rule:∀(i:Int)(t:Tok)(s:Shared)(Q:Value->Shared->Prop)(E:Value->Shared->Prop),Q (.int (g i) s.toks) { s with toks:=s.toks+1}->wpAny (model X.prog X.w) X.A (f (.int i t)) Q E s):
  UnR X f (rU λi=>.int (g i)):=by
 intro pins s σ H x v Q I rx h;obtain⟨i,rfl,q⟩:=h;obtain⟨t,rfl⟩:=rx;exact rule i t s _ _ ⟨.int (g i),H,I.tok _,⟨_,rfl⟩,q⟩
theorem un_neg:UnR X (unaryOp .USub) (rU λi=>.int (-i)):=unI λ_ _ _ _ _ q=>neg_int q
end
noncomputable def scal:V->V->Bool
 | .non,.non=>true| .non,.int _=>true| .int _,.non=>true| .non,.bl _=>true| .bl _,.non=>true| .non,.str _=>true| .str _,.non=>true
 | .int _,.int _=>true| .bl _,.bl _=>true| .str _,.str _=>true| .byt _,.byt _=>true
 | .int _,.str _=>true| .str _,.int _=>true| .bl _,.str _=>true| .str _,.bl _=>true
 |_,_=>false
def rEq:R2:=λx y H Q=>scal x y=true/\Q (.bl (decide (x=y))) H
def rNe:R2:=λx y H Q=>scal x y=true/\Q (.bl (!decide (x=y))) H
theorem c5k{i j:Int}:decide (V.int i=V.int j)=(i==j):=by
 rw[Xv]
 simp
theorem c9a{i j:Bool}:decide (V.bl i=V.bl j)=(i==j):=by
 rw[Xv]
 simp
theorem c5l{i j:Str}:decide (V.str i=V.str j)=(i==j):=by
 rw[Xv]
 simp
theorem c5m{i j:Array UInt8}:decide (V.byt i=V.byt j)=(i.toList==j.toList):=by
 rw[Xv];cases i;cases j
 simp
section
variable{X:Cx}{a b c:Expr}{ta tb tc:TE}{pos:Pos}
theorem a1j{pins:List (Addr×Obj)}{σ:St}{H:Hp}{s:Shared}{Q:VK}{k k':Bool}(I:Inv X pins σ H s)(q:Q (.bl k) H)(e:k=k'):EP X pins σ Q (.bool k') s:=by
 subst e;exact⟨.bl k,H,I,rfl,q⟩
theorem op_eq:OpR X (compareOp .Eq) rEq:=by
 intro pins s σ H x y v u Q I rx ry h;obtain⟨hs,q⟩:=h;cases x with
 |non=>
  cases rx;cases y with
  |non=>cases ry;exact PySem.EqNone.eq_none_none (a1j I q qz)
  |bl j=>cases ry;exact PySem.EqNone.eq_none_bool (a1j I q qz)
  |int j=>obtain⟨t',rfl⟩:=ry;exact PySem.EqNone.eq_none_int (a1j I q qz)
  |str j=>obtain⟨t',rfl⟩:=ry;exact PySem.EqNone.eq_none_str (a1j I q qz)
  |_=>exact absurd (show false=true from hs) Zj
 |bl i=>
  cases rx;cases y with
  |non=>cases ry;exact PySem.EqNone.eq_bool_none (a1j I q qz)
  |bl j=>cases ry;exact eq_bool (a1j I q c9a)
  |str j=>obtain⟨t',rfl⟩:=ry;exact PySem.EqMixed.eq_bool_str (a1j I q qz)
  |_=>exact absurd (show false=true from hs) Zj
 |int i=>
  obtain⟨t,rfl⟩:=rx;cases y with
  |non=>cases ry;exact PySem.EqNone.eq_int_none (a1j I q qz)
  |int j=>obtain⟨t',rfl⟩:=ry;exact eq_int (a1j I q c5k)
  |str j=>obtain⟨t',rfl⟩:=ry;exact PySem.EqMixed.eq_int_str (a1j I q qz)
  |_=>exact absurd (show false=true from hs) Zj
 |str i=>
  obtain⟨t,rfl⟩:=rx;cases y with
  |non=>cases ry;exact PySem.EqNone.eq_str_none (a1j I q qz)
  |bl j=>cases ry;exact PySem.EqMixed.eq_str_bool (a1j I q qz)
  |int j=>obtain⟨t',rfl⟩:=ry;exact PySem.EqMixed.eq_str_int (a1j I q qz)
  |str j=>obtain⟨t',rfl⟩:=ry;exact eq_str (a1j I q c5l)
  |_=>exact absurd (show false=true from hs) Zj
 |byt i=>
  obtain⟨t,rfl⟩:=rx;cases y with
  |byt j=>obtain⟨t',rfl⟩:=ry;exact W.eq_bytes (a1j I q c5m)
  |_=>exact absurd (show false=true from hs) Zj
 |_=>cases y<;>exact absurd (show false=true from hs) Zj
theorem op_ne:OpR X (compareOp .NotEq) rNe:=by
 intro pins s σ H x y v u Q I rx ry h;obtain⟨hs,q⟩:=h;cases x with
 |non=>
  cases rx;cases y with
  |non=>cases ry;exact PySem.EqNone.ne_none_none (a1j I q qz)
  |bl j=>cases ry;exact PySem.EqNone.ne_none_bool (a1j I q qz)
  |int j=>obtain⟨t',rfl⟩:=ry;exact PySem.EqNone.ne_none_int (a1j I q qz)
  |str j=>obtain⟨t',rfl⟩:=ry;exact PySem.EqNone.ne_none_str (a1j I q qz)
  |_=>exact absurd (show false=true from hs) Zj
 |bl i=>
  cases rx;cases y with
  |non=>cases ry;exact PySem.EqNone.ne_bool_none (a1j I q qz)
  |bl j=>cases ry;exact ne_bool (a1j I q (Xg not c9a))
  |str j=>obtain⟨t',rfl⟩:=ry;exact PySem.EqMixed.ne_bool_str (a1j I q qz)
  |_=>exact absurd (show false=true from hs) Zj
 |int i=>
  obtain⟨t,rfl⟩:=rx;cases y with
  |non=>cases ry;exact PySem.EqNone.ne_int_none (a1j I q qz)
  |int j=>obtain⟨t',rfl⟩:=ry;exact ne_int (a1j I q (Xg not c5k))
  |str j=>obtain⟨t',rfl⟩:=ry;exact PySem.EqMixed.ne_int_str (a1j I q qz)
  |_=>exact absurd (show false=true from hs) Zj
 |str i=>
  obtain⟨t,rfl⟩:=rx;cases y with
  |non=>cases ry;exact PySem.EqNone.ne_str_none (a1j I q qz)
  |bl j=>cases ry;exact PySem.EqMixed.ne_str_bool (a1j I q qz)
  |int j=>obtain⟨t',rfl⟩:=ry;exact PySem.EqMixed.ne_str_int (a1j I q qz)
  |str j=>obtain⟨t',rfl⟩:=ry;exact ne_str (a1j I q (Xg not c5l))
  |_=>exact absurd (show false=true from hs) Zj
 |byt i=>
  obtain⟨t,rfl⟩:=rx;cases y with
  |byt j=>obtain⟨t',rfl⟩:=ry;exact W.ne_bytes (a1j I q (Xg not c5m))
  |_=>exact absurd (show false=true from hs) Zj
 |_=>cases y<;>exact absurd (show false=true from hs) Zj
theorem op_lt:OpR X (compareOp .Lt) (rI0 λi j=>.bl (decide (i<j))):=opB0 λ_ _ _ _ _ _ _ q=>lt_int q
theorem op_le:OpR X (compareOp .LtE) (rI0 λi j=>.bl (decide (i<=j))):=opB0 λ_ _ _ _ _ _ _ q=>le_int q
theorem op_gt:OpR X (compareOp .Gt) (rI0 λi j=>.bl (decide (j<i))):=opB0 λ_ _ _ _ _ _ _ q=>gt_int q
theorem op_ge:OpR X (compareOp .GtE) (rI0 λi j=>.bl (decide (j<=i))):=opB0 λ_ _ _ _ _ _ _ q=>ge_int q
theorem c9b:OpR X (compareOp .In) (λx y H Q=>∃i j,x=.str i/\y=.str j/\Q (.bl (!(Builtin.Str.occurrences j i 0 j.length 1).isEmpty)) H):=by
 intro pins s σ H x y v u Q I rx ry h;obtain⟨i,j,rfl,rfl,q⟩:=h;obtain⟨t,rfl⟩:=rx;obtain⟨t',rfl⟩:=ry;exact in_str (a1j I q rfl)
theorem op_isN:OpR X (compareOp .Is) (λx y H Q=>y=.non/\Q (.bl (decide (x=.non))) H):=by
 intro pins s σ H x y v u Q I rx ry h;obtain⟨rfl,q⟩:=h;cases ry;refine is_none_gen (a1j I q ?_);cases x<;>first
  | (cases rx;rfl)
  | (obtain⟨t,rfl⟩:=rx;rfl)
theorem op_notN:OpR X (compareOp .IsNot) (λx y H Q=>y=.non/\Q (.bl (!decide (x=.non))) H):=by
 intro pins s σ H x y v u Q I rx ry h;obtain⟨rfl,q⟩:=h;cases ry;refine isnot_none_gen (a1j I q ?_);cases x<;>first
  | (cases rx;rfl)
  | (obtain⟨t,rfl⟩:=rx;rfl)
theorem OpR.or{f:Value->Value->Sem Value}{r r':R2}(h:OpR X f r)(h':OpR X f r'):OpR X f (λx y H Q=>r x y H Q\/r' x y H Q):=by
 intro pins s σ H x y v u Q I rx ry q;rcases q with q|q
 ·exact h pins s σ H x y v u Q I rx ry q
 ·exact h' pins s σ H x y v u Q I rx ry q
theorem a0t(b:Expr){op:CmpOp}(h:op≠.In:=by decide)(h2:op≠.NotIn:=by decide):behindInMarks op b=false:=by
 have e1:(op==CmpOp.In)=false:=by cases op<;>first|rfl|exact absurd rfl h
 have e2:(op==CmpOp.NotIn)=false:=by cases op<;>first|rfl|exact absurd rfl h2
 cases b<;>simp[behindInMarks,e1,e2]
theorem a2k{op:CmpOp}{r:R2}(ho:OpR X (compareOp op) r)(ha:PE X a ta)(hb:PE X b tb)(hm:behindInMarks op b=false):PE X (.Compare a [op] [b] pos) (tOp r ta tb):=by
 intro pins s σ H Q I h;exact wpAny_Compare1 (binT ha hb I h λv u s2 x y H2 I2 rx ry q=>ho pins s2 σ H2 x y v u Q I2 rx ry q) hm
def tTest(t:TE):TT:=λσ H Q=>t σ H λx H'=>∃k,x=.bl k/\Q k H'
theorem pt_cmpR{op:CmpOp}{r:R2}(ho:OpR X (compareOp op) r)(ha:PE X a ta)(hb:PE X b tb)(hm:behindInMarks op b=false):PT X (.Compare a [op] [b] pos) (tTest (tOp r ta tb)):=by
 intro pins s σ H Q I h
 refine wpAny_isTrue_Compare1 (thn (ha pins s σ H _ I h) λv s1 ⟨x,H1,I1,r1,q1⟩=>thn (hb pins s1 σ H1 _ I1 q1) λu s2 ⟨y,H2,I2,r2,q2⟩=>
  thn (ho pins s2 σ H2 x y v u _ I2 r1 r2 q2) λc s3 ⟨z,H3,I3,r3,k,e,q3⟩=>?_) hm
 subst e;cases r3;exact Xq ⟨H3,I3,q3⟩
def c2k(r r':R2)(ta tb tc:TE):TE:=λσ H Q=>ta σ H λx H1=>tb σ H1 λy H2=>r x y H2 λz H3=>∃k,z=.bl k/\
 (if k=true then tc σ H3 λw' H4=>r' y w' H4 Q else Q (.bl false) H3)
theorem d2v{op op':CmpOp}{r r':R2}(ho:OpR X (compareOp op) r)(ho':OpR X (compareOp op') r')(ha:PE X a ta)(hb:PE X b tb)(hc:PE X c tc)
  (hm:lastMarks [op,op'] [b,c]=false:=by with_unfolding_all rfl):PT X (.Compare a [op,op'] [b,c] pos) (tTest (c2k r r' ta tb tc)):=by
 intro pins s σ H Q I h
 refine isTrue_chain (thn (ha pins s σ H _ I h) λv s1 ⟨x,H1,I1,r1,q1⟩=>test_link (thn (hb pins s1 σ H1 _ I1 q1) λu s2 ⟨y,H2,I2,r2,q2⟩=>
  thn (ho pins s2 σ H2 x y v u _ I2 r1 r2 q2) λd s3 ⟨z,H3,I3,r3,k,e,q3⟩=>?_)) hm
 subst e;cases r3;refine Xq ?_;cases k with
 |false=>
  obtain⟨k',e',q'⟩:=q3;cases e';exact ite_ff ⟨H3,I3,q'⟩
 |true=>
  refine ite_tt (test_last (thn (hc pins s3 σ H3 _ I3 q3) λw' s4 ⟨z',H4,I4,r4,q4⟩=>thn (ho' pins s4 σ H4 y z' u w' _ I4 r2 r4 q4) λd' s5 z9=>?_));obtain⟨z2,H5,I5,r5,k2,e2,q5⟩:=z9;subst e2;cases r5;exact Xq ⟨H5,I5,q5⟩
def TruV(K:W.Frag)(x:V)(H:Hp)(k:Bool):Prop:=
 match x with
 | .non=>k=false
 | .bl b=>k=b
 | .int i=>k=(i !=0)
 | .str y=>y.length<=sizeLine/\k=((y.length:Int) !=0)
 | .byt y=>y.size<=sizeLine/\k=((y.size:Int) !=0)
 | .ref p=>(∃xs,SqL K H p xs/\k= !xs.isEmpty)\/(∃xs,SqT K H p xs/\k= !xs.isEmpty)\/∃kvs,H p=some (.dK kvs)/\k= !kvs.isEmpty
 |_=>False
theorem c7b{κ:Type}{kvs:List (κ×V)}{vs:List (κ×Value)}(r:KV kvs vs):(!vs.isEmpty)= !kvs.isEmpty:=by
 cases r<;>rfl
theorem b7i{xs:List V}{its:List Value}(r:Vals xs its):(!its.toArray.isEmpty)= !xs.isEmpty:=by
 cases r<;>simp
theorem b1p:(sizeLine:Nat)<2^63:=by rw[Yb];decide
theorem c9c:TruR X (λx H Q=>∃k,TruV X.K x H k/\Q k H):=by
 intro pins s σ H x v Q I rx h;obtain⟨k,e,q⟩:=h;have hl:=b1p;have hs:sizeLine=16777216:=Yb;cases x with
 |non=>
  cases rx;have e':k=false:=e;subst e';exact truthy_none ⟨H,I,q⟩
 |bl b=>
  cases rx;have e':k=b:=e;subst e';exact Xq ⟨H,I,q⟩
 |int i=>
  obtain⟨t,rfl⟩:=rx;have e':k=(i !=0):=e;subst e';exact PySem.P.truthy_int ⟨H,I,q⟩
 |str y=>
  obtain⟨t,rfl⟩:=rx;obtain⟨hy,e'⟩:y.length<=sizeLine/\k=((y.length:Int) !=0):=e;subst e';exact PySem.P.truthy_str qo ⟨H,I.tok _,q⟩
 |byt y=>
  obtain⟨t,rfl⟩:=rx;obtain⟨hy,e'⟩:y.size<=sizeLine/\k=((y.size:Int) !=0):=e;subst e';exact W.truthy_bytes qo ⟨H,I.tok _,q⟩
 |ref p=>
  cases rx;have e':(∃xs,SqL X.K H p xs/\k= !xs.isEmpty)\/(∃xs,SqT X.K H p xs/\k= !xs.isEmpty)\/∃kvs,H p=some (.dK kvs)/\k= !kvs.isEmpty:=e;rcases e' with⟨xs,hx,e'⟩|⟨xs,hx,e'⟩|⟨kvs,hx,e'⟩
  ·subst e';obtain⟨its,r,pl,hz⟩:=I.list hx;have hlen:=r.length;exact wpAny_truthy_list pl.isList (by simp only[Ze];omega) ⟨H,I.tok _,by rw[b7i r];exact q⟩
  ·subst e';obtain⟨its,r,pl,hz⟩:=I.tuple hx;have hlen:=r.length;exact truthy_tuple pl (by simp only[Ze];omega) ⟨H,I.tok _,by rw[b7i r];exact q⟩
  ·subst e';obtain⟨hz,hS,vs,r,m⟩:kvs.length<=sizeLine/\(p==sysModules)=false/\∃vs,KV kvs vs/\s.heap.DictOf (a1e X.prog X.w) p vs:=I.hok p _ hx;have hlen:kvs.length=vs.length:=Yo r;exact wpAny_truthy_dict hS m qo ⟨H,I.tok _,by rw[c7b r];exact q⟩
 |_=>exact(show False from e).elim
theorem c7c:OpR X (binaryOp .Add) (λx y H Q=>∃i j,x=.str i/\y=.str j/\i.length+j.length<=sizeLine/\Q (.str (i++j)) H):=by
 intro pins s σ H x y v u Q I rx ry h;obtain⟨i,j,rfl,rfl,hz,q⟩:=h;obtain⟨t,rfl⟩:=rx;obtain⟨t',rfl⟩:=ry;exact add_str (λt' tk=>⟨.str (i++j),H,I.tok _,⟨_,rfl⟩,q⟩) hz
theorem c4x:OpR X (inplaceOp .Add) (λx y H Q=>∃i j,x=.str i/\y=.str j/\i.length+j.length<=sizeLine/\Q (.str (i++j)) H):=by
 intro pins s σ H x y v u Q I rx ry h;obtain⟨i,j,rfl,rfl,hz,q⟩:=h;obtain⟨t,rfl⟩:=rx;obtain⟨t',rfl⟩:=ry;exact iadd_str (λt' tk=>⟨.str (i++j),H,I.tok _,⟨_,rfl⟩,q⟩) hz
theorem vals1{x:V}{us:List Value}(r:Vals [x] us):∃u,us=[u]/\RelV x u:=by
 cases r with
 |cons r1 r2=>cases r2;exact⟨_,rfl,r1⟩
theorem c1v{x y:V}{us:List Value}(r:Vals [x,y] us):∃u w',us=[u,w']/\RelV x u/\RelV y w':=by
 cases r with
 |cons r1 r2=>
  cases r2 with
  |cons r3 r4=>cases r4;exact⟨_,_,rfl,r1,r3⟩
theorem c9d(hc:X.calm=true):a2w X (.builtin "min") (λxs H Q=>∃i j,xs=[.int i,.int j]/\Q (.int (if j<i then j else i)) H):=by
 intro pins s σ H xs us Q I r h;obtain⟨i,j,rfl,q⟩:=h;obtain⟨u,w',rfl,⟨t,rfl⟩,⟨t',rfl⟩⟩:=c1v r;refine min_two_ints (I.ok.hd hc) λh' tk k=>⟨_,H,I.kept k,?_,q⟩
 by_cases hj:j<i
 ·rw[if_pos hj,if_pos hj];exact⟨_,rfl⟩
 ·rw[if_neg hj,if_neg hj];exact⟨_,rfl⟩
theorem c9e:a2w X (.type "int") (λxs H Q=>(∃i,xs=[.int i]/\Q (.int i) H)\/∃k,xs=[.bl k]/\Q (.int (if k then 1 else 0)) H):=by
 intro pins s σ H xs us Q I r h;rcases h with⟨i,rfl,q⟩|⟨k,rfl,q⟩
 ·obtain⟨u,rfl,t,rfl⟩:=vals1 r;exact call_int_int ⟨.int i,H,I,⟨_,rfl⟩,q⟩
 ·obtain⟨u,rfl,r1⟩:=vals1 r;cases r1;exact call_int_bool ⟨.int (if k then 1 else 0),H,I.tok _,⟨_,rfl⟩,q⟩
def LenV(K:W.Frag)(x:V)(H:Hp)(n:Nat):Prop:=
 match x with
 | .str y=>y.length<=sizeLine/\n=y.length
 | .byt y=>y.size<=sizeLine/\n=y.size
 | .ref p=>(∃xs,SqL K H p xs/\n=xs.length)\/∃xs,SqT K H p xs/\n=xs.length
 |_=>False
theorem d2w:a2w X (.builtin "len") (λxs H Q=>∃x n,xs=[x]/\LenV X.K x H n/\Q (.int n) H):=by
 intro pins s σ H xs us Q I r h;obtain⟨x,n,rfl,e,q⟩:=h;obtain⟨u,rfl,rx⟩:=vals1 r;have hl:=b1p;have hs:sizeLine=16777216:=Yb;cases x with
 |str y=>
  obtain⟨t,rfl⟩:=rx;obtain⟨hy,e'⟩:y.length<=sizeLine/\n=y.length:=e;subst e';exact len_str qo ⟨.int _,H,I.tok _,⟨_,rfl⟩,q⟩
 |byt y=>
  obtain⟨t,rfl⟩:=rx;obtain⟨hy,e'⟩:y.size<=sizeLine/\n=y.size:=e;subst e';exact W.len_bytes qo ⟨.int _,H,I.tok _,⟨_,rfl⟩,q⟩
 |ref p=>
  cases rx;have e':(∃xs,SqL X.K H p xs/\n=xs.length)\/∃xs,SqT X.K H p xs/\n=xs.length:=e;rcases e' with⟨xs,hx,e'⟩|⟨xs,hx,e'⟩
  ·subst e';obtain⟨its,r',pl,hz⟩:=I.list hx;have hlen:=r'.length;exact Calls.call_len_list pl.isList (by simp only[Ze];omega) ⟨.int xs.length,H,I.tok _,⟨_,by simp only[Ze];rw[hlen]⟩,q⟩
  ·subst e';obtain⟨its,r',pl,hz⟩:=I.tuple hx;have hlen:=r'.length;exact len_tuple pl (by simp only[Ze];omega) ⟨.int xs.length,H,I.tok _,⟨_,by simp only[Ze];rw[hlen]⟩,q⟩
 |_=>exact(show False from e).elim
end
structure ObjM(h:Heap)(x dx C:Addr)(mA:Str->Option Value):Prop where
 obj:h.get? x=some (W.instObj C dx)
 ns:h.Ns1 dx mA
 ne:dx≠x
theorem c9f{h:Heap}{dx:Addr}{mA:Str->Option Value}(n:h.Ns1 dx mA):∃od,h.get? dx=some od/\∀name,W.lookIn name od=some (mA name):=by
 obtain⟨o,es,ep,ho,hd,hk,_,hm⟩:=n;refine⟨o,ho,λname=>?_⟩;have e:=hm name;unfold nsFind findBy at e;rw[<-Array.find?_toList]at e;unfold W.lookIn;rw[hd]
 dsimp only
 split
 ·rename_i y q;rw[q]at e;exact Xg some e
 ·rename_i q;rw[q]at e;have a:es.toList.any (·.refKey)=false:=by
   rw[List.any_eq_false];intro y hy;obtain⟨z,t,hkey⟩:=hk y (Array.mem_toList_iff.mp hy)
   simp[DictEntry.refKey,hkey]
  have a':¬es.toList.any (·.refKey)=true:=by rw[a];exact Zj
  rw[if_neg a'];exact Xg some e
theorem ObjM.look{h:Heap}{x dx C:Addr}{mA:Str->Option Value}(I:ObjM h x dx C mA):∃od,W.InstAt h x (W.instObj C dx) C (some od)/\∀name,W.lookIn name od=some (mA name):=
 let⟨od,ho,hl⟩:=c9f I.ns
 ⟨od,⟨I.obj,rfl,rfl,ho⟩,hl⟩
section
variable{prog:Program}{w:World}{A:Around}{E:Value->Shared->Prop}{s:Shared}{K:W.Frag}{x dx C f:Addr}{mA:Str->Option Value}{name:Str}{v:Value}
theorem get_map{expr:Bool}{Q:Value->Shared->Prop}(X:K.In s.heap)(I:ObjM s.heap x dx C mA)(hg:W.plainGet K C name=true)(hh:W.hasDictIn K C=true)
  (ha:W.findIn K (.ref C) name=some none)(hv:mA name=some v)(hv':W.handedIn v=true)(h:Q v { s with toks:=s.toks+1}):
  wpAny (model prog w) A (getAttr (.ref x) name expr) Q E s:=by
 obtain⟨od,J,hl⟩:=I.look;exact W.get_value X J (Tt hg).1 (W.findObj_own hh ha rfl (by rw[hl,hv])) hv' h
theorem d2x{pl:Sem Bool}{Q:Value×List Value->Shared->Prop}(X:K.In s.heap)(I:ObjM s.heap x dx C mA)(hg:W.plainGet K C name=true)
  (hf:W.findIn K (.ref C) name=some (some (.ref f)))(ht:W.isFn K (.ref f)=true)(hv:mA name=none)(h:Q (.ref f,[.ref x]) s):
  wpAny (model prog w) A (getMethod (.ref x) name pl) Q E s:=by
 obtain⟨od,J,hl⟩:=I.look;exact W.method_fn X J (Tt hg).1 (Tt hg).2 hf (V4.mp ht) (by show(W.lookIn name od).map (·.isSome)=some false;rw[hl,hv];rfl) h
theorem set_map{ns:List Str}{Q:Unit->Shared->Prop}(X:K.In s.heap)(I:ObjM s.heap x dx C mA)
  (hs:W.findIn K (.ref C) "__setattr__"=some (some (.builtin "object.__setattr__")))(hp:W.plainOver K C=true)(ht:W.takerIn K C name=some none)(hh:W.hasDictIn K C=true)
  (hw:PySem.Within mA ns)(hsz:ns.length<=sizeLine)
  (h:∀h',ObjM h' x dx C (λy=>if y=name then some v else mA y)->Heap.SameBut dx s.heap h'->Q () { s with heap:=h',toks:=s.toks+2}):
  wpAny (model prog w) A (setAttr (.ref x) name v) Q E s:=by
 obtain⟨od,J,hl⟩:=I.look;refine W.set_plain X J hs (W.osa_open (s:={ s with toks:=s.toks+1}) (r:=none) X J hp ht λb=>?_);obtain⟨cd,hc,hd'⟩:=W.any_some hh;have hx:s.heap.get? x=some ⟨.ref C,some dx,.plain,#[]⟩:=I.obj;refine Zb (Zf (Zb (Zb (wpAny_loadPart hx (Zb (W.Looks.here (s:={ s with toks:=s.toks+1}) (W.looks_clsIn X hc) ?_))))));rw[hd'];refine Zf (a:=some dx) (Zb (Zf (Zb ?_)));refine wpAny_nsSet1 (s:={ s with toks:=s.toks+1}) I.ns λh' hn2 hs2=>?_
 obtain⟨oD,esD,epD,hoD,hdD,hcD⟩:=hn2.count (PySem.Within.cons name v hw);refine Zb (wpAny_lookBehind hoD (by rw[hdD];exact pastItsLine_dict (Xd hcD (by rw[length_cons];omega))) ?_);exact Zf (h _ ⟨(hs2.2 _ (Ne.symm I.ne)).trans I.obj,hn2,I.ne⟩ hs2)
theorem d2y{R:Result->Shared->Prop}{vs:List Value}{kw:List (Str×Value)}(X:K.In s.heap)(hm:W.makesIn K C=true)
  (hi:W.findIn K (.ref C) "__init__"=some (some (.ref f)))(hf:W.typeIn K (.ref f)=some (.type "function"))
  (h:codeAny (model prog w) (A.under (.builtin "type.__call__" ⟨.ref C::vs,kw⟩)) (.call (.ref f) ⟨.ref (s.heap.objs.size+1)::vs,kw⟩) (W.InitBack (s.heap.objs.size+1) R)
   { s with heap:=(s.heap.push W.emptyDict).push (W.instObj C s.heap.objs.size)}):
  codeAny (model prog w) A (.call (.ref C) ⟨vs,kw⟩) R s:=by
 obtain⟨hh,g,d,t,os⟩:=s;exact W.make_core (W.makes_of X hm) (W.looks_findIn X hi) (λself=>W.bind_fn X self hf) (.inl rfl) h
end
noncomputable def putF(f:Str)(v:V):List (Str×V)->List (Str×V)
 | []=>[(f,v)]
 | (g,x)::r=>if g=f then(g,v)::r else(g,x)::putF f v r
theorem b5n(f g:Str)(v:V):∀fs:List (Str×V),(putF f v fs).lookup g=if g=f then some v else fs.lookup g
 | []=>by
  show List.lookup g [(f,v)]=_
  by_cases h:g=f
  ·have hb:(g==f)=true:=V4.mpr h;simp only[List.lookup,hb,if_pos h]
  ·have hb:(g==f)=false:=Xw.mpr h;simp only[List.lookup,hb,if_neg h]
 | (k,x)::r=>by
  have ih:=b5n f g v r;rw[show putF f v ((k,x)::r)=(if k=f then(k,v)::r else(k,x)::putF f v r)from rfl]
  by_cases hk:k=f
  ·rw[if_pos hk]
   by_cases h:g=k
   ·have hb:(g==k)=true:=V4.mpr h;simp only[List.lookup,hb,if_pos (h.trans hk)]
   ·have hb:(g==k)=false:=Xw.mpr h;simp only[List.lookup,hb,if_neg (λe:g=f=>h (e.trans hk.symm))]
  ·rw[if_neg hk]
   by_cases h:g=k
   ·have hb:(g==k)=true:=V4.mpr h;simp only[List.lookup,hb,if_neg (λe:g=f=>hk (h.symm.trans e))]
   ·have hb:(g==k)=false:=Xw.mpr h;simp only[List.lookup,hb];exact ih
theorem b3q(f:Str)(v:V):∀fs:List (Str×V),f∈(putF f v fs).map (·.1)/\∀g,g∈fs.map (·.1)->g∈(putF f v fs).map (·.1)
 | []=>⟨by simp[putF],λg h=>by simp at h⟩
 | (k,x)::r=>by
  obtain⟨i1,i2⟩:=b3q f v r;rw[show putF f v ((k,x)::r)=(if k=f then(k,v)::r else(k,x)::putF f v r)from rfl]
  by_cases hk:k=f
  ·rw[if_pos hk];subst hk;exact⟨qz,λg h=>by simpa using h⟩
  ·rw[if_neg hk];refine⟨?_,λg h=>?_⟩
   ·rw[Zp];exact Zw _ i1
   ·rw[Zp]at h ⊢;rcases Zo.mp h with e|e
    ·exact Zo.mpr (.inl e)
    ·exact Zw _ (i2 g e)
theorem b5o(f:Str)(v:V):∀fs:List (Str×V),(putF f v fs).length<=fs.length+1
 | []=>by simp[putF]
 | (k,x)::r=>by
  have ih:=b5o f v r;rw[show putF f v ((k,x)::r)=(if k=f then(k,v)::r else(k,x)::putF f v r)from rfl]
  by_cases hk:k=f
  ·rw[if_pos hk,length_cons,length_cons];omega
  ·rw[if_neg hk,length_cons,length_cons];omega
theorem RelO.some_of{v:V}{o:Option Value}(r:RelO (some v) o):∃u,o=some u/\RelV v u:=by
 cases o with
 |none=>exact(show False from r).elim
 |some u=>exact⟨u,rfl,r⟩
theorem RelO.none_of{o:Option Value}(r:RelO none o):o=none:=by
 cases o with
 |none=>rfl
 |some u=>exact(show False from r).elim
theorem c9g{v:V}{u:Value}(r:RelV v u):W.handedIn u=true:=by
 cases v with
 |non=>cases(show u=Value.none from r);rfl
 |bl b=>cases(show u=Value.bool b from r);rfl
 |int i=>obtain⟨t,e⟩:=(show ∃t,u=Value.int i t from r);cases e;rfl
 |str x=>obtain⟨t,e⟩:=(show ∃t,u=Value.str x t from r);cases e;rfl
 |byt b=>obtain⟨t,e⟩:=(show ∃t,u=Value.bytes b t from r);cases e;rfl
 |flt b=>obtain⟨t,e⟩:=(show ∃t,u=Value.float b t from r);cases e;rfl
 |ref a=>cases(show u=Value.ref a from r);rfl
 |ty n=>cases(show u=Value.type n from r);rfl
section
variable{P:Program}{w:World}{H H':Hp}{h h':Heap}{a C dx:Addr}{fs fs':List (Str×V)}
theorem b4s(hok:HOk P w H h)(e:H a=some (.ins C dx fs)):∃mA,ObjM h a dx C mA/\(∀f,RelO (fs.lookup f) (mA f))/\PySem.Within mA (fs.map (·.1))/\fs.length<=1000/\H dx=some (.own a):=by
 obtain⟨d,z,ne,ob,mA,n,r,q⟩:=(show a1s P w H h a (.ins C dx fs)from hok a _ e);exact⟨mA,⟨ob,n,ne⟩,r,q,z,d⟩
end
structure Cls(K:W.Frag)(C:Addr):Prop where
 pg:W.plainGet K C Str.empty=true
 hd:W.hasDictIn K C=true
 po:W.plainOver K C=true
 sa:W.findIn K (.ref C) "__setattr__"=some (some (.builtin "object.__setattr__"))
theorem Cls.get{K:W.Frag}{C:Addr}(c:Cls K C)(f:Str):W.plainGet K C f=true:=c.pg
def a2y(K:W.Frag)(C:Addr)(f:Str):Prop:=W.findIn K (.ref C) f=some none
theorem a2y.taker{K:W.Frag}{C:Addr}{f:Str}(n:a2y K C f):W.takerIn K C f=some none:=by
 unfold W.takerIn;rw[show W.findIn K (.ref C) f=some none from n];rfl
structure Meth(K:W.Frag)(C:Addr)(m:Str)(f:Addr):Prop where
 at_:W.findIn K (.ref C) m=some (some (.ref f))
 fn:W.isFn K (.ref f)=true
 kp:W.keepIn K (.ref f)=true
section
variable{X:Cx}{pins:List (Addr×Obj)}{σ:St}{H:Hp}{s:Shared}{a C dx:Addr}{fs:List (Str×V)}{f:Str}{v:V}{A:Around}{E:Value->Shared->Prop}
theorem b7j{b:Bool}{Q:Value->Shared->Prop}(I:Inv X pins σ H s)(e:H a=some (.ins C dx fs))(c:Cls X.K C)(n:a2y X.K C f)(l:fs.lookup f=some v)
  (h:∀u s',Inv X pins σ H s'->RelV v u->Q u s'):wpAny (model X.prog X.w) A (getAttr (.ref a) f b) Q E s:=by
 obtain⟨mA,O,r,_,_,_⟩:=b4s I.hok e;obtain⟨u,hu,ru⟩:=RelO.some_of (v:=v) (o:=mA f) (by rw[<-l];exact r f);exact get_map I.kIn O (c.get f) c.hd n hu (c9g ru) (h u _ (I.tok _) ru)
theorem b7k{m:Str}{g:Addr}{pl:Sem Bool}{Q:Value×List Value->Shared->Prop}(I:Inv X pins σ H s)(e:H a=some (.ins C dx fs))(c:Cls X.K C)(k:Meth X.K C m g)(l:fs.lookup m=none)
  (h:Q (.ref g,[.ref a]) s):wpAny (model X.prog X.w) A (getMethod (.ref a) m pl) Q E s:=by
 obtain⟨mA,O,r,_,_,_⟩:=b4s I.hok e;have hn:mA m=none:=RelO.none_of (by rw[<-l];exact r m);exact d2x I.kIn O (c.get m) k.at_ k.fn hn h
theorem b7l{y:V}{u:Value}{Q:Unit->Shared->Prop}(I:Inv X pins σ H s)(e:H a=some (.ins C dx fs))(c:Cls X.K C)(n:a2y X.K C f)(hl:fs.length<1000)(ry:RelV y u)
  (h:∀s',Inv X pins σ (upd H a (.ins C dx (putF f y fs))) s'->Q () s'):wpAny (model X.prog X.w) A (setAttr (.ref a) f u) Q E s:=by
 obtain⟨mA,O,r,wi,_,ho⟩:=b4s I.hok e;have hz:(fs.map (·.1)).length<=sizeLine:=by rw[length_map,Yb];omega
 refine set_map I.kIn O c.sa c.po n.taker c.hd wi hz λh' O' sb=>h _ ?_
 have hd:∃o,h'.get? dx=some o:=let⟨o,_,_,e',_⟩:=O'.ns;⟨o,e'⟩
 refine I.write (x:=a) (e:=dx) (by rw[e];exact True.intro) (.inr ho) (λb q hb z=>(sb.2 b hb).trans z) hd ?_;refine⟨by rw[a0l O.ne];exact ho,?_,O.ne,O'.obj,_,O'.ns,λg=>?_,λg hg=>?_⟩
 ·have:=b5o f y fs;omega
 ·show RelO ((putF f y fs).lookup g) (if g=f then some u else mA g)
  rw[b5n]
  by_cases q:g=f
  ·rw[if_pos q,if_pos q];exact ry
  ·rw[if_neg q,if_neg q];exact r g
 ·by_cases q:g=f
  ·rw[q];exact(b3q f y fs).1
  ·refine(b3q f y fs).2 g (wi g λz=>hg ?_)
   show(if g=f then some u else mA g)=none
   rw[if_neg q];exact z
theorem Inv.made(I:Inv X pins σ H s):Inv X pins σ (upd (upd H s.heap.objs.size (.own (s.heap.objs.size+1))) (s.heap.objs.size+1) (.ins C s.heap.objs.size []))
  { s with heap:=(s.heap.push W.emptyDict).push (W.instObj C s.heap.objs.size)}:=by
 have e1:(s.heap.push W.emptyDict).get? s.heap.objs.size=some W.emptyDict:=Zl s.heap rfl;have e2:((s.heap.push W.emptyDict).push (W.instObj C s.heap.objs.size)).get? (s.heap.objs.size+1)=some (W.instObj C s.heap.objs.size):=by
  have:=Zl (s.heap.push W.emptyDict) (o:=W.instObj C s.heap.objs.size) rfl;rwa[Xh]at this
 have e3:(s.heap.push W.emptyDict).Ns s.heap.objs.size (λ_=>none):=⟨W.emptyDict,#[],_,e1,rfl,(λe he=>absurd he qz),λ_=>rfl⟩;have I1:=I.laid (a:=s.heap.objs.size) (o:=.own (s.heap.objs.size+1)) (h':=s.heap.push W.emptyDict) (t':=s.toks) (λb u q=>Zd _ q) (Zg _) ⟨_,e1⟩;refine I1.laid (a:=s.heap.objs.size+1) (o:=.ins C s.heap.objs.size []) (t':=s.toks) (λb u q=>Zd _ q) (Nat.le_of_eq (Xh _ _)) ?_;have ne:s.heap.objs.size≠s.heap.objs.size+1:=Z6 (Xo _);refine⟨by rw[a0l ne,a0b],Yk _,ne,e2,λ_=>none,(Heap.Ns1.of_empty e3).at λo q=>Zd _ q,λ_=>True.intro,λy hy=>absurd rfl hy⟩
theorem attr_of{prog:Program}{w:World}{env:Env}{e:Expr}{f:Str}{pos:Pos}{s:Shared}{Q:Value->Shared->Prop}(hb:attributeBase e f env (eval e env)=eval e env)
  (h:wpAny (model prog w) A (eval e env) (λo s₁=>wpAny (model prog w) A (getAttr o f true) Q E s₁) E s):wpAny (model prog w) A (eval (.Attribute e f pos) env) Q E s:=
 Attribute_any_ h (by rw[arm_eval_Attribute,hb])
end
def tFld(K:W.Frag)(ta:TE)(f:Str):TE:=λσ H Q=>ta σ H λx H1=>∃a C dx fs v,x=.ref a/\H1 a=some (.ins C dx fs)/\Cls K C/\a2y K C f/\fs.lookup f=some v/\Q v H1
def sFld(K:W.Frag)(ta tv:TE)(f:Str):TS:=λD σ H=>tv σ H λy H1=>ta σ H1 λx H2=>∃a C dx fs,x=.ref a/\H2 a=some (.ins C dx fs)/\Cls K C/\a2y K C f/\fs.length<1000/\
 D.nx σ (upd H2 a (.ins C dx (putF f y fs)))
def InOp(X:Cx)(op:Operator)(rd:V->V->Hp->VK->Prop):Prop:=
 ∀(pins:List (Addr×Obj))(s:Shared)(σ:St)(H:Hp)(x y:V)(u v:Value)(Q:VK),Inv X pins σ H s->RelV x u->RelV y v->rd x y H Q->wpAny (model X.prog X.w) X.A (inplaceOp op u v) (EP X pins σ Q) X.xe s
def c5n(K:W.Frag)(ta tv:TE)(rd:V->V->Hp->VK->Prop)(f:Str):TS:=λD σ H=>ta σ H λx H1=>∃a C dx fs v,x=.ref a/\H1 a=some (.ins C dx fs)/\Cls K C/\a2y K C f/\fs.lookup f=some v/\
 tv σ H1 λy H2=>rd v y H2 λz H3=>∃dx' fs',H3 a=some (.ins C dx' fs')/\fs'.length<1000/\D.nx σ (upd H3 a (.ins C dx' (putF f z fs')))
section
variable{X:Cx}{o e value:Expr}{f:Str}{pos pos' tpos:Pos}{ta tv:TE}
theorem a4p(he:PE X e ta)(hb:attributeBase e f X.env (eval e X.env)=eval e X.env):PE X (.Attribute e f pos) (tFld X.K ta f):=by
 intro pins s σ H Q I h;refine attr_of hb (thn (he pins s σ H _ I h) λu s1 z9=>?_);obtain⟨x,H1,I1,rx,a,C,dx,fs,v,ex,ea,c,n,l,q⟩:=z9;subst ex;obtain rfl:u=Value.ref a:=rx;exact b7j I1 ea c n l λu' s2 I2 ru=>⟨v,H1,I2,ru,q⟩
theorem b3r(ha:PE X o ta)(hv:PE X value tv)(hs:swapsWith value (some (.Attribute o f pos')) pos.line X.env=pure false):PS X (.Assign [.Attribute o f pos'] value pos) (sFld X.K ta tv f):=by
 intro pins s σ H D I h;refine plainObj_wpAny_Assign_Attribute (thn (hv pins s σ H _ I h) λu s1 ⟨y,H1,I1,ry,q⟩=>thn (ha pins s1 σ H1 _ I1 q) λov s2 ⟨x,H2,I2,rx,a,C,dx,fs,ex,ea,c,n,l,q2⟩=>?_) hs;subst ex;obtain rfl:ov=Value.ref a:=rx;exact b7l I2 ea c n l ry λs3 I3=>⟨σ,_,I3,q2⟩
theorem c9h{op:Operator}{rd:V->V->Hp->VK->Prop}(ha:PE X o ta)(hv:PE X value tv)(hop:InOp X op rd):PS X (.AugAssign (.Attribute o f tpos) op value pos) (c5n X.K ta tv rd f):=by
 intro pins s σ H D I h;refine wpAny_AugAssign_AttributeAny (thn (ha pins s σ H _ I h) λov s1 z9=>?_);obtain⟨x,H1,I1,rx,a,C,dx,fs,v,ex,ea,c,n,l,q⟩:=z9;subst ex;obtain rfl:ov=Value.ref a:=rx;refine b7j I1 ea c n l λu s2 I2 ru=>thn (hv pins s2 σ H1 _ I2 q) λw3 s3 ⟨y,H2,I3,ry,q3⟩=>thn (hop pins s3 σ H2 v y u w3 _ I3 ru ry q3) λw4 s4 z9=>?_
 obtain⟨z,H3,I4,rz,dx',fs',ea',l',q4⟩:=z9;exact b7l I4 ea' c n l' rz λs5 I5=>⟨σ,_,I5,q4⟩
end
section
variable{X:Cx}{pins:List (Addr×Obj)}{σ:St}{H:Hp}{s:Shared}{A:Around}{E:Value->Shared->Prop}{Q:Value->Shared->Prop}{c:Value}{b:Bool}
inductive TyOf(K:W.Frag)(H:Hp):V->Value->Prop where
 |non:TyOf K H .non (.type "NoneType")
 |bl (x:Bool):TyOf K H (.bl x) (.type "bool")
 |int (i:Int):TyOf K H (.int i) (.type "int")
 |str (x:Str):TyOf K H (.str x) (.type "str")
 |flt (x:UInt64):TyOf K H (.flt x) (.type "float")
 |lst {a:Addr} {xs:List V} (e:H a=some (.lst xs)):TyOf K H (.ref a) (.type "list")
 |frz {a:Addr} {o:Obj} {xs:List V} (e:H a=some (.frz o (.lst xs))):TyOf K H (.ref a) (.type "list")
 |tup {a:Addr} {xs:List V} (e:H a=some (.tup xs)):TyOf K H (.ref a) (.type "tuple")
 |dK {a:Addr} {kvs:List (Key×V)} (e:H a=some (.dK kvs)):TyOf K H (.ref a) (.type "dict")
 |dT {a:Addr} {kvs:List (List Key×V)} (e:H a=some (.dT kvs)):TyOf K H (.ref a) (.type "dict")
 |ins {a C dx:Addr} {fs:List (Str×V)} (e:H a=some (.ins C dx fs)) (cl:Cls K C) (ha:W.findIn K (.ref C) "__class__"=some (some (.builtin "object.__class__")))
   (hn:W.specialIn K (.builtin "object.__class__") "__get__"=some (some (.builtin "getset_descriptor.__get__"))) (htk:W.takesIn K (.builtin "object.__class__")=some true)
   (hm:W.mroIn K C (.type "object")=some true):TyOf K H (.ref a) (.ref C)
theorem a7f{x:V}{u t:Value}(I:Inv X pins σ H s)(rx:RelV x u)(ty:TyOf X.K H x t)(e:W.kitOne X.K t c=some b)(h:∀tk,Q (.bool b) { s with toks:=tk}):
  wpAny (model X.prog X.w) A (call (.builtin "isinstance") [u,c]) Q E s:=by
 cases ty with
 |non=>cases(show u=Value.none from rx);exact Wb W.kitx_none I.kIn True.intro e (λz=>nomatch z) h
 |bl y=>cases(show u=Value.bool y from rx);exact Wb W.kitx_bool I.kIn True.intro e (λz=>nomatch z) h
 |int i=>obtain⟨t,q⟩:=(show ∃t,u=Value.int i t from rx);cases q;exact Wb W.kitx_int I.kIn True.intro e (λz=>nomatch z) h
 |str y=>obtain⟨t,q⟩:=(show ∃t,u=Value.str y t from rx);cases q;exact Wb W.kitx_str I.kIn True.intro e (λz=>nomatch z) h
 |flt y=>obtain⟨t,q⟩:=(show ∃t,u=Value.float y t from rx);cases q;exact Wb W.kitx_float I.kIn True.intro e (λz=>nomatch z) h
 | @lst a xs ea=>
  cases(show u=Value.ref a from rx)
  obtain⟨_,_,n,_,h1⟩:=(show a1s X.prog X.w H s.heap a (.lst xs)from I.hok a _ ea);exact Wb So I.kIn ⟨_,h1,rfl⟩ e (λz=>nomatch z) h
 | @frz a ob xs ea=>
  cases(show u=Value.ref a from rx)
  obtain⟨_,_,_,n,_,h1⟩:=(show a1s X.prog X.w H s.heap a (.frz ob (.lst xs))from I.hok a _ ea);exact Wb So I.kIn ⟨_,h1,rfl⟩ e (λz=>nomatch z) h
 | @tup a xs ea=>
  cases(show u=Value.ref a from rx)
  obtain⟨_,_,_,p⟩:=(show a1s X.prog X.w H s.heap a (.tup xs)from I.hok a _ ea);obtain⟨o,h1,h2,_⟩:=p;exact Wb W.kitx_tuple I.kIn ⟨o,h1,h2⟩ e (λz=>nomatch z) h
 | @dK a kvs ea=>
  cases(show u=Value.ref a from rx)
  obtain⟨_,_,vs,_,p⟩:=(show a1s X.prog X.w H s.heap a (.dK kvs)from I.hok a _ ea);obtain⟨o,es,ep,h1,h2,_⟩:=p;exact Wb W.kitx_dict I.kIn ⟨o,h1,h2.1⟩ e (λz=>nomatch z) h
 | @dT a kvs ea=>
  cases(show u=Value.ref a from rx)
  obtain⟨_,_,xs,_,o,es,ep,h1,h2,_⟩:=(show a1s X.prog X.w H s.heap a (.dT kvs)from I.hok a _ ea);exact Wb W.kitx_dict I.kIn ⟨o,h1,h2.1⟩ e (λz=>nomatch z) h
 | @ins a C dx fs ea cl ha hn htk hm=>
  cases(show u=Value.ref a from rx)
  obtain⟨mA,O,_⟩:=b4s I.hok ea;obtain⟨od,J,_⟩:=O.look;exact Wb (W.kitx_own (cl.get _) cl.hd ha hn htk hm) I.kIn J e (λz=>nomatch z) h
end
structure Room(k:Nat)(A:Around):Prop where
 hd:A.handled=none
 dp:A.depth+3*k+5<recursionLimit
 un:A.units+16*k+200<cLine
 gd:A.guards=some []
theorem Room.mono{j k:Nat}{A:Around}(r:Room k A)(h:j<=k):Room j A:=⟨r.hd,by have:=r.dp;omega,by have:=r.un;omega,r.gd⟩
theorem Room.o{j k:Nat}{A:Around}(r:Room k A)(h:j<=k:=by first|decide|exact Nat.le_refl _|exact Nat.le_add_left_of_le qd|omega):Room j A:=r.mono h
theorem Room.deeper{k:Nat}{A:Around}(r:Room (k+1) A)(env:Env):Room k (A.deeper env):=
 ⟨r.hd,by have:=r.dp;show A.depth+1+3*k+5<_;omega,by have:=r.un;show A.units+3+16*k+200<_;omega,r.gd⟩
theorem c7d{A:Around}{C:Addr}{us:List Value}{kw:List (Str×Value)}:(A.under (.builtin "type.__call__" ⟨.ref C::us,kw⟩)).depth=A.depth+1:=by
 first|rfl|simp[Around.under,Code.weight,Code.isCreation,Code.isGuard,Code.isCaller,Code.frames,Code.isFrame,guardIds]
theorem c7e{A:Around}{C:Addr}{us:List Value}{kw:List (Str×Value)}:(A.under (.builtin "type.__call__" ⟨.ref C::us,kw⟩)).units=A.units+1:=by
 first|rfl|simp[Around.under,Code.cUnits,Code.frames,Code.isFrame]
theorem c4y{A:Around}{C:Addr}{us:List Value}{kw:List (Str×Value)}:(A.under (.builtin "type.__call__" ⟨.ref C::us,kw⟩)).guards=A.guards:=by
 first|rfl|simp[Around.under,Code.guards,Code.isGuard,guardIds,pushGuards]
theorem Room.make{k:Nat}{A:Around}(r:Room (k+1) A)(C:Addr)(us:List Value)(kw:List (Str×Value)):Room k (A.under (.builtin "type.__call__" ⟨.ref C::us,kw⟩)):=
 ⟨r.hd,by have:=r.dp;rw[c7d];omega,by have:=r.un;rw[c7e];omega,c4y.trans r.gd⟩
theorem Room.depth{k:Nat}{A:Around}(r:Room k A):A.depth<recursionLimit:=by have:=r.dp;omega
theorem Room.units{k:Nat}{A:Around}(r:Room k A):A.units+64<cLine:=by have:=r.un;omega
def tNil:TA:=λ_ H Q=>Q [] H
def b7m(ta:TE)(tr:TA):TA:=λσ H Q=>ta σ H λx H1=>tr σ H1 λxs H2=>Q (x::xs) H2
section
variable{X:Cx}{e:Expr}{es:List Expr}{te:TE}{t:TA}{pos:Pos}
theorem a0c:PA X [] tNil:=λ_ _ _ _ H Q I h=>W9 ⟨[],H,I,.nil,h⟩
theorem b9l(ha:PE X e te)(hr:PA X es t)(hs:starEach (e::es) X.env=(false,eval e X.env)::starEach es X.env:=by rfl):PA X (e::es) (b7m te t):=by
 intro pos pins s σ H Q I h;rw[hs]
 show wpAny _ _ (spliced ((false,eval e X.env)::backTo pos (starEach es X.env))) _ _ s
 refine W3 (thn (ha pins s σ H _ I h) λu s1 z9=>?_);obtain⟨x,H1,I1,r1,q1⟩:=z9;exact thn (hr pos pins s1 σ H1 _ I1 q1) λus s2 ⟨xs,H2,I2,r2,q2⟩=>⟨x::xs,H2,I2,.cons r1 r2,q2⟩
def tTup(t:TA):TE:=λσ H Q=>t σ H λxs H1=>xs.length<=sizeLine/\∀p,H1 p=none->Q (.ref p) (upd H1 p (.tup xs))
def tLst(t:TA):TE:=λσ H Q=>t σ H λxs H1=>xs.length<=sizeLine/\∀p,H1 p=none->Q (.ref p) (upd H1 p (.lst xs))
theorem a0x{x1}(h:PA X es t):PE X (.Tuple es x1 pos) (tTup t):=by
 intro pins s σ H Q I hq;refine wpAny_Tuple_spliced (thn (h pos pins s σ H _ I hq) λus s1 ⟨xs,H1,I1,r,z,q⟩=>⟨by rw[<-r.length];exact z,?_⟩);have hf:H1 s1.heap.objs.size=none:=I1.hok.fresh (Zg _);refine⟨.ref s1.heap.objs.size,upd H1 s1.heap.objs.size (.tup xs),I1.laid (t':=s1.toks) (λb u e=>Zd _ e) (Zg _) ?_,rfl,q _ hf⟩;exact⟨z,us,r,⟨_,Zl _ rfl,rfl,_,rfl⟩⟩
theorem a1x(h:PA X es t):PE X (.List es pos) (tLst t):=by
 intro pins s σ H Q I hq;refine wpAny_List_spliced (thn (h pos pins s σ H _ I hq) λus s1 ⟨xs,H1,I1,r,z,q⟩=>⟨by rw[<-r.length];exact z,?_⟩);have hf:H1 s1.heap.objs.size=none:=I1.hok.fresh (Zg _);refine⟨.ref s1.heap.objs.size,upd H1 s1.heap.objs.size (.lst xs),I1.laid (t':=s1.toks) (λb u e=>Zd _ e) (Zg _) ?_,rfl,q _ hf⟩;exact⟨z,us,0,r,Zl _ rfl⟩
end
abbrev Sp:=List V->Hp->VK->XK->Prop
abbrev CXT:=List Env->Hp->Shared->XK->Value->Shared->Prop
structure Env0(P:Program)(w:World)(K:W.Frag)(mg:Str->Option Value)(base:Heap)(A:Around)(outer:List Env)(s:Shared)(H:Hp):Prop where
 frames:A.frames=some outer
 mod:Mod K mg base
 bs:∀b o,base.get? b=some o->s.heap.get? b=some o/\H b=none
 bsz:base.objs.size<=s.heap.objs.size
 funs:s.heap.FunFrames base outer
 frf:∀b∈frs outer,H b=none
 hok:HOk P w H s.heap
 bare:AllBare s.gens
def CE(outer:List Env)(P:Program)(w:World)(H:Hp)(s:Shared)(Q:VK)(u:Value)(s':Shared):Prop:=
 ∃v H',s'.os=s.os/\AllBare s'.gens/\Un (frs outer) [] H H' s.heap s'.heap/\HOk P w H' s'.heap/\RelV v u/\Q v H'
def CR(CX:CXT)(outer:List Env)(P:Program)(w:World)(H:Hp)(s:Shared)(Q:VK)(E:XK)(r:Result)(s':Shared):Prop:=
 match r with
 | .ok (.ret u)=>CE outer P w H s Q u s'
 | .ok _=>False
 | .error e=>CX outer H s E e s'
structure FnOk(P:Program)(w:World)(K:W.Frag)(mg:Str->Option Value)(base:Heap)(CX:CXT)(k:Nat)(f:Addr)(fd:FuncData)(ps:List Str)(sp:Sp):Prop where
 len:∀vs H Q E,sp vs H Q E->vs.length=ps.length
 run:∀(A:Around)(outer:List Env)(s:Shared)(H:Hp)(args:Args)(us:List Value)(vs:List V)(Q:VK)(E:XK),Room k A->Env0 P w K mg base A outer s H->BindsTo s fd args (ps.zip us)->Vals vs us->sp vs H Q E->
  codeAny (model P w) A (.call (.ref f) args) (CR CX outer P w H s Q E) s
theorem Env0.make{P:Program}{w:World}{K:W.Frag}{mg:Str->Option Value}{base:Heap}{A:Around}{outer:List Env}{s:Shared}{H:Hp}(e:Env0 P w K mg base A outer s H)(C:Addr)(us:List Value)(kw:List (Str×Value)):
  Env0 P w K mg base (A.under (.builtin "type.__call__" ⟨.ref C::us,kw⟩)) outer s H:=⟨by first|exact e.frames| (simpa[Around.under,Code.envs,Code.isFrame,pushEnvs]using e.frames),e.mod,e.bs,e.bsz,e.funs,e.frf,e.hok,e.bare⟩
section
variable{X:Cx}{pins:List (Addr×Obj)}{σ:St}{H:Hp}{s s':Shared}
theorem Inv.env0(I:Inv X pins σ H s):Env0 X.prog X.w X.K X.mg X.base X.A X.stack s H:=
 ⟨I.ok.frames,I.ok.mod,I.bs,Xd I.ok.bsz I.sz,I.stack,I.stkFree,I.hok,I.bare⟩
theorem Inv.after{Q:VK}{u:Value}(I:Inv X pins σ H s)(h:CE X.stack X.prog X.w H s Q u s'):EP X pins σ Q u s':=by
 obtain⟨v,H',os,bare,un,hok,r,q⟩:=h;obtain⟨hh,g,d,t,os'⟩:=s';obtain rfl:os'=s.os:=os;exact⟨v,H',I.call (h':=hh) (g':=g) (d':=d) (t':=t) (ch:=[]) un hok bare (λb z=>absurd z qz),r,q⟩
end
def tCall(sp:Sp)(dvs:List V)(E:XK)(t:TA):TE:=λσ H Q=>t σ H λvs H1=>sp (vs++dvs) H1 Q E
def tMeth(C:Addr)(m:Str)(sp:Sp)(dvs:List V)(E:XK)(ta:TE)(t:TA):TE:=λσ H Q=>ta σ H λx H1=>∃a dx fs,x=.ref a/\H1 a=some (.ins C dx fs)/\fs.lookup m=none/\
 t σ H1 λvs H2=>sp (x::(vs++dvs)) H2 Q E
def tMake(C:Addr)(sp:Sp)(dvs:List V)(E:XK)(t:TA):TE:=λσ H Q=>t σ H λvs H1=>∀x dx,H1 x=none->H1 dx=none->dx≠x->
 sp (.ref x::(vs++dvs)) (upd (upd H1 dx (.own x)) x (.ins C dx [])) (λv H2=>v=.non/\Q (.ref x) H2) E
def Binds(K:W.Frag)(fd:FuncData)(ps:List Str)(ds:List Value):Prop:=
 ∀(s:Shared)(us:List Value),K.In s.heap->(us++ds).length=ps.length->BindsTo s fd ⟨us,[]⟩ (ps.zip (us++ds))
theorem Binds.all{K:W.Frag}{fd:FuncData}{ps:List Str}(h:∀us:List Value,us.length=ps.length->bindArgs fd ⟨us,[]⟩=pure (ps.zip us)):Binds K fd ps []:=λs us _ hl=>by
 rw[Z7]at hl ⊢;exact .of_eq (h us hl)
def b0a(CX:CXT)(X:Cx)(E:XK):Prop:=∀(pins:List (Addr×Obj))(σ:St)(H:Hp)(s:Shared)(e:Value)(s':Shared),Inv X pins σ H s->CX X.stack H s E e s'->X.xe e s'
section
variable{X:Cx}{CX:CXT}{k:Nat}{f C:Addr}{fd:FuncData}{ps:List Str}{sp:Sp}{dvs:List V}{ds:List Value}{E:XK}{x m:Str}{p pos apos:Pos}{e o:Expr}{es:List Expr}{ta:TE}{t:TA}
theorem c2l{pins:List (Addr×Obj)}{σ:St}{H:Hp}{s:Shared}{Q:VK}{us:List Value}{vs:List V}(F:FnOk X.prog X.w X.K X.mg X.base CX k f fd ps sp)(hr:Room k X.A)(hb:Binds X.K fd ps ds)(hd:Vals dvs ds)(hx:b0a CX X E)
  (I:Inv X pins σ H s)(r:Vals vs us)(h:sp (vs++dvs) H Q E):wpAny (model X.prog X.w) X.A (call (.ref f) us) (EP X pins σ Q) X.xe s:=by
 have r2:Vals (vs++dvs) (us++ds):=r.append hd;have hl:(us++ds).length=ps.length:=by rw[<-r2.length];exact F.len _ _ _ _ h
 refine wpAny_call (U0 (F.run X.A X.stack s H ⟨us,[]⟩ (us++ds) (vs++dvs) Q E hr I.env0 (hb s us I.kIn hl) r2 h) λr s' hq=>?_);cases r with
 |error e=>exact hx pins σ H s e s' I hq
 |ok fl=>
  cases fl with
  |ret u=>exact I.after hq
  |next=>exact False.elim hq
  |brk=>exact False.elim hq
  |cont=>exact False.elim hq
theorem a0m(F:FnOk X.prog X.w X.K X.mg X.base CX k f fd ps sp)(hr:Room k X.A)(hg:Gl X x)(hm:X.mg x=some (.ref f))(hk:W.keepIn X.K (.ref f)=true)(hb:Binds X.K fd ps ds)(hd:Vals dvs ds)(hx:b0a CX X E)
  (ha:PA X (e::es) t)(hdb:(x==("__debug__":Str))=false:=by decide)(he:starEach (e::es) X.env=(false,eval e X.env)::starEach es X.env:=by rfl)(hpl:(backTo pos (starEach es X.env)).any (·.1)=false:=by rfl):
  PE X (.Call (.Name x p) (e::es) [] pos) (tCall sp dvs E t):=by
 intro pins s σ H Q I h;refine Vq (b9j I hg hm ?_ hdb);refine T5 (h₀:=X.base) I.ok.mod.kin hk (thn (ha pos pins s σ H _ I h) λus s1 ⟨vs,H1,I1,r,q⟩=>⟨I1.kIn,?_⟩) he hpl;exact c2l F hr hb hd hx I1 r q
theorem a1y{pl:Sem Bool}(he:PE X o ta)(c:Cls X.K C)(hm:Meth X.K C m f)(F:FnOk X.prog X.w X.K X.mg X.base CX k f fd ps sp)(hr:Room k X.A)(hb:Binds X.K fd ps ds)(hd:Vals dvs ds)(hx:b0a CX X E)(ha:PA X (e::es) t)
  (hst:starEach (e::es) X.env=(false,eval e X.env)::starEach es X.env:=by rfl)(hpl:(backTo pos (starEach es X.env)).any (·.1)=false:=by rfl)
  (ht:eval (.Call (.Attribute o m apos) (e::es) [] pos) X.env=(do
   let ov <-eval o X.env
   standAt apos.atName
   let(f,first) <-holding [ov] (getMethod ov m pl)
   callWith pos f first (backTo pos (starEach (e::es) X.env)) (backToKw pos (keywordEach [] X.env))):=by rfl):
  PE X (.Call (.Attribute o m apos) (e::es) [] pos) (tMeth C m sp dvs E ta t):=by
 intro pins s σ H Q I h;refine W.methodCall_KW (pl:=pl) (thn (he pins s σ H _ I h) λu s1 ⟨x,H1,I1,rx,a,dx,fs,ex,ea,l,q⟩=>?_) ht;subst ex;obtain rfl:u=Value.ref a:=rx;refine b7k I1 ea c hm l ?_;refine T5 (first:=[.ref a]) (h₀:=X.base) I.ok.mod.kin hm.kp (thn (ha pos pins s1 σ H1 _ I1 q) λus s2 ⟨vs,H2,I2,r,q2⟩=>⟨I2.kIn,?_⟩) hst hpl;exact c2l (us:=.ref a::us) (vs:=.ref a::vs) F hr hb hd hx I2 (.cons rfl r) q2
theorem d2z{pl:Sem Bool}(he:PE X o ta)(c:Cls X.K C)(hm:Meth X.K C m f)(F:FnOk X.prog X.w X.K X.mg X.base CX k f fd ps sp)(hr:Room k X.A)(hb:Binds X.K fd ps ds)(hd:Vals dvs ds)(hx:b0a CX X E)
  (ht:eval (.Call (.Attribute o m apos) [] [] pos) X.env=(do
   let ov <-eval o X.env
   standAt apos.atName
   let(f,first) <-holding [ov] (getMethod ov m pl)
   callWith pos f first (backTo pos (starEach [] X.env)) (backToKw pos (keywordEach [] X.env))):=by rfl):
  PE X (.Call (.Attribute o m apos) [] [] pos) (tMeth C m sp dvs E ta tNil):=by
 intro pins s σ H Q I h;refine W.methodCall_KW (pl:=pl) (thn (he pins s σ H _ I h) λu s1 ⟨x,H1,I1,rx,a,dx,fs,ex,ea,l,q⟩=>?_) ht;subst ex;obtain rfl:u=Value.ref a:=rx;refine b7k I1 ea c hm l ?_;exact W.callWith_K0 (first:=[.ref a]) I1.kIn hm.kp (c2l (us:=[.ref a]) (vs:=[.ref a]) F hr hb hd hx I1 (.cons rfl .nil) q)
structure Mk(K:W.Frag)(C f:Addr):Prop where
 makes:W.makesIn K C=true
 init:W.findIn K (.ref C) "__init__"=some (some (.ref f))
 fn:W.isFn K (.ref f)=true
 kp:W.keepIn K (.ref C)=true
theorem d3a{pins:List (Addr×Obj)}{σ:St}{H:Hp}{s:Shared}{Q:VK}{us:List Value}{vs:List V}(M:Mk X.K C f)(F:FnOk X.prog X.w X.K X.mg X.base CX k f fd ps sp)(hr:Room (k+1) X.A)(hb:Binds X.K fd ps ds)(hd:Vals dvs ds)
  (hx:b0a CX X E)(I:Inv X pins σ H s)(r:Vals vs us)
  (h:∀x dx,H x=none->H dx=none->dx≠x->sp (.ref x::(vs++dvs)) (upd (upd H dx (.own x)) x (.ins C dx [])) (λv H2=>v=.non/\Q (.ref x) H2) E):
  wpAny (model X.prog X.w) X.A (call (.ref C) us) (EP X pins σ Q) X.xe s:=by
 have hq:=h (s.heap.objs.size+1) s.heap.objs.size (I.hok.fresh (Vj _)) (I.hok.fresh (Zg _)) (Z6 (Xo _));have I2:=Inv.made (C:=C) I;have r2:Vals (V.ref (s.heap.objs.size+1)::(vs++dvs)) (Value.ref (s.heap.objs.size+1)::(us++ds)):=.cons rfl (r.append hd);have hl:(Value.ref (s.heap.objs.size+1)::us++ds).length=ps.length:=by
  have e:=r2.length;rw[F.len _ _ _ _ hq]at e;exact e.symm
 refine wpAny_call (d2y (f:=f) I.kIn M.makes M.init (V4.mp M.fn) (U0 (F.run _ X.stack _ _ ⟨Value.ref (s.heap.objs.size+1)::us,[]⟩ (Value.ref (s.heap.objs.size+1)::(us++ds)) _ _ E (hr.make C us [])
  (I2.env0.make C us []) (hb _ (Value.ref (s.heap.objs.size+1)::us) I2.kIn hl) r2 hq) λr s' hq'=>?_))
 cases r with
 |error e=>exact hx pins σ _ _ e s' I2 hq'
 |ok fl=>
  cases fl with
  |ret u=>
   obtain⟨v,H',I3,rv,ev,q3⟩:=I2.after hq';subst ev;exact⟨rv,⟨V.ref (s.heap.objs.size+1),H',I3,rfl,q3⟩⟩
  |next=>exact False.elim hq'
  |brk=>exact False.elim hq'
  |cont=>exact False.elim hq'
theorem pe_make(M:Mk X.K C f)(F:FnOk X.prog X.w X.K X.mg X.base CX k f fd ps sp)(hr:Room (k+1) X.A)(hg:Gl X x)(hm:X.mg x=some (.ref C))(hb:Binds X.K fd ps ds)(hd:Vals dvs ds)(hx:b0a CX X E)
  (ha:PA X (e::es) t)(hdb:(x==("__debug__":Str))=false:=by decide)(he:starEach (e::es) X.env=(false,eval e X.env)::starEach es X.env:=by rfl)(hpl:(backTo pos (starEach es X.env)).any (·.1)=false:=by rfl):
  PE X (.Call (.Name x p) (e::es) [] pos) (tMake C sp dvs E t):=by
 intro pins s σ H Q I h;refine Vq (b9j I hg hm ?_ hdb);refine T5 (h₀:=X.base) I.ok.mod.kin M.kp (thn (ha pos pins s σ H _ I h) λus s1 ⟨vs,H1,I1,r,q⟩=>⟨I1.kIn,?_⟩) he hpl;exact d3a M F hr hb hd hx I1 r q
end
structure a0w(N P:List Str)(sc:Scope):Prop where
 kind:sc.kind=.function
 co:sc.isCoroutine=false
 gen:sc.isGenerator=false
 nd:N.Nodup
 pre:N.take P.length=P
 par:∀x∈P,sc.names.lookup x=some .local\/sc.names.lookup x=some .cell
 nofree:∀y∈sc.names,y.2≠.free
theorem c0i{kindOf:Str->Option NameKind}{x:Str}:∀{binds:List (Str×Value)}{m:Str->Option Value},(∀v,(x,v)∉binds)->bindL kindOf binds m x=m x
 | [],_,_=>rfl
 | (n,v)::r,m,h=>by
  unfold bindL;rw[c0i λw hw=>h w (Zw _ hw)]
  split
  ·have:x≠n:=by rintro rfl;exact h v Z0
   simp[this]
  ·rfl
theorem c0j{kindOf:Str->Option NameKind}{x:Str}:∀{binds:List (Str×Value)}{m:Str->Option Value},(∀v,(x,v)∉binds)->bindC kindOf binds m x=m x
 | [],_,_=>rfl
 | (n,v)::r,m,h=>by
  unfold bindC;rw[c0j λw hw=>h w (Zw _ hw)]
  split
  ·rfl
  ·have:x≠n:=by rintro rfl;exact h v Z0
   simp[this]
theorem c0k{kindOf:Str->Option NameKind}{x:Str}{v:Value}:∀{P:List Str}{vs:List Value}{i:Nat}{m:Str->Option Value},P.Nodup->P[i]? =some x->vs[i]? =some v->kindOf x=some .local->
  bindL kindOf (P.zip vs) m x=some v
 | [],_,_,_,_,h,_,_=>by simp at h
 |_::_,[],_,_,_,_,h,_=>by simp at h
 |p::P,w::vs,0,m,nd,h1,h2,hk=>by
  simp at h1 h2;subst h1;subst h2
  show bindL kindOf ((p,w)::P.zip vs) m p=_
  unfold bindL;rw[c0i λv hv=>(Xs.mp nd).1 (Tc hv).1,if_pos hk]
  simp
 |p::P,w::vs,i+1,m,nd,h1,h2,hk=>by
  show bindL kindOf ((p,w)::P.zip vs) m x=_
  unfold bindL;exact c0k (i:=i) (Xs.mp nd).2 (by simpa using h1) (by simpa using h2) hk
theorem c0l{kindOf:Str->Option NameKind}{x:Str}{v:Value}:∀{P:List Str}{vs:List Value}{i:Nat}{m:Str->Option Value},P.Nodup->P[i]? =some x->vs[i]? =some v->kindOf x≠some .local->
  bindC kindOf (P.zip vs) m x=some v
 | [],_,_,_,_,h,_,_=>by simp at h
 |_::_,[],_,_,_,_,h,_=>by simp at h
 |p::P,w::vs,0,m,nd,h1,h2,hk=>by
  simp at h1 h2;subst h1;subst h2
  show bindC kindOf ((p,w)::P.zip vs) m p=_
  unfold bindC;rw[c0j λv hv=>(Xs.mp nd).1 (Tc hv).1,if_neg hk]
  simp
 |p::P,w::vs,i+1,m,nd,h1,h2,hk=>by
  show bindC kindOf ((p,w)::P.zip vs) m x=_
  unfold bindC;exact c0l (i:=i) (Xs.mp nd).2 (by simpa using h1) (by simpa using h2) hk
def start(N:List Str)(vs:List V):St:=vs.map some++List.replicate (N.length-vs.length) none
noncomputable def cxOf(CX:CXT)(P:Program)(w:World)(K:W.Frag)(mg:Str->Option Value)(base:Heap)(N:List Str)(qual:Str)(scope:Scope)(f:Addr)(cd:Value)(A:Around)(outer:List Env)(s:Shared)(H:Hp)(E:XK):Cx where
 prog:=P
 w:=w
 K:=K
 mg:=mg
 base:=base
 A:=A.deeper (envOfC qual scope s.heap.objs.size f cd)
 N:=N
 s₀:=s
 H₀:=H
 env:=envOfC qual scope s.heap.objs.size f cd
 outer:=outer
 stack:=envOfC qual scope s.heap.objs.size f cd::outer
 ex:=[]
 calm:=true
 fn:=λ_=>true
 pn:=[]
 xe:=λe s'=>wpAny (model P w) (A.deeper (envOfC qual scope s.heap.objs.size f cd)) (leaving (envOfC qual scope s.heap.objs.size f cd) e) (λ_ s''=>CX outer H s E e s'') (λe' s''=>CX outer H s E e' s'') s'
theorem c2m{sc:Scope}{n:Nat}{x:Str}(h:sc.names.lookup x=some .cell):∃c,(cellsFrom n sc.names []).lookup x=some c:=by
 have q:=W.cellsFrom_some sc.names n [] (.inl h);exact Tu.mp q
theorem c9i{CX:CXT}{P:Program}{w:World}{K:W.Frag}{mg:Str->Option Value}{base:Heap}{N ps:List Str}{qual:Str}{scope:Scope}{f:Addr}{cd:Value}{A:Around}{outer:List Env}{s s1:Shared}{H:Hp}{E:XK}{us:List Value}{vs:List V}
  (S:a0w N ps scope)(hd:A.handled=none)(e0:Env0 P w K mg base A outer s H)(hl:vs.length=ps.length)(r:Vals vs us)
  (x:InCallC s s.heap.objs.size (bindL (envOfC qual scope s.heap.objs.size f cd).kindOf (ps.zip us) λ_=>none) (cellsFrom (s.heap.objs.size+1) scope.names []) (bindC (envOfC qual scope s.heap.objs.size f cd).kindOf (ps.zip us) λ_=>none) s1):
  Inv (cxOf CX P w K mg base N qual scope f cd A outer s H E) [] (start N vs) H s1:=by
 have hpl:ps.length<=N.length:=by have:=Xg List.length S.pre;rw[Z5]at this;omega
 obtain⟨h1,tk,rfl,hk⟩:=x.done;have noA:∀b:Addr,b∉(cxOf CX P w K mg base N qual scope f cd A outer s H E).ex:=λb z=>absurd (show b∈([]:List Addr)from z) qz
 refine⟨⟨e0.mod,S.kind,rfl,rfl,Zg _,λy z c h1 h2=>?_,λy hy=>?_,λy c _ h=>?_,λ_=>hd,Around.frames_deeper e0.frames,.inr ⟨rfl,rfl⟩,λb z=>absurd z (noA b),e0.bs,e0.bsz,λb _ _=>noA b,λb z=>absurd z (noA b),e0.funs,e0.frf⟩,
  rfl,e0.bare,Un.kept hk,⟨_,x.toInCall.ns,λi y v h1 h2 h3=>?_⟩,λy c h=>⟨_,x.cell y c h⟩,e0.hok.fresh (Zg _),λy c h=>?_,λp hp=>absurd (show p∈([]:List (Addr×Obj))from hp) qz,e0.hok.kept hk,?_⟩
 ·exact name_of_addr x.apart (Y1 h1) (Y1 h2)
 ·have hy:scope.names.lookup y=some .cell\/scope.names.lookup y=some .free:=hy;rcases hy with hy|hy
  ·exact c2m hy
  ·exact absurd rfl (S.nofree _ (Y1 hy))
 ·exact T8 (x.above y c (Y1 h))
 ·have hi:i<vs.length:=by
   unfold start at h2
   by_cases hi:i<vs.length
   ·exact hi
   ·rw[Yy (by simpa using hi)]at h2;rw[Wc]at h2;split at h2<;>cases h2
  have ha:vs[i]? =some v:=by
   unfold start at h2;rw[Yl (by simpa using hi),Zs]at h2;cases e:vs[i]? with
   |none=>rw[e]at h2;cases h2
   |some a=>rw[e]at h2;cases h2;rfl
  obtain⟨u,hu,rv⟩:=r.get ha;have hp:ps[i]? =some y:=by
   rw[<-S.pre,Tw qo];exact h1
  have ndP:ps.Nodup:=by rw[<-S.pre];exact S.nd.sublist (List.take_sublist _ _)
  refine⟨u,rv,?_⟩;rcases S.par y (Y0 hp)with k|k
  ·exact .inl ⟨k,c0k ndP hp hu k⟩
  ·obtain⟨c,e⟩:=c2m (n:=s.heap.objs.size+1) k;refine .inr ⟨.inl k,c,e,?_⟩;have q:=x.cell y c e;rw[c0l ndP hp hu (by show scope.names.lookup y≠_;rw[k];decide)]at q;exact q
 ·exact e0.hok.fresh (T8 (x.above y c (Y1 h)))
 ·unfold start
  show _=N.length
  rw[Zc,length_map,Yc];omega
theorem fn_of{CX:CXT}{P:Program}{w:World}{K:W.Frag}{mg:Str->Option Value}{base:Heap}{k:Nat}{f:Addr}{name qual:Str}{params:Arguments}{body:List Stmt}{scope:Scope}{dV kV doc pm cdv ct oc:Value}{an od:Option Addr}
  {osl:Array (Option Value)}{N ps:List Str}{sp:Sp}(lk:K.lookup f=some ⟨oc,od,.func (W.fnOf name qual params body scope dV kV doc pm an cdv ct),osl⟩)(hcd:W.codeIn K cdv qual=true)(S:a0w N ps scope)
  (len:∀vs H Q E,sp vs H Q E->vs.length=ps.length)
  (hbody:∀(A:Around)(outer:List Env)(s:Shared)(H:Hp)(vs:List V)(Q:VK)(E:XK),Room k (A.deeper (envOfC qual scope s.heap.objs.size f cdv))->sp vs H Q E->
   ∃t,PSs (cxOf CX P w K mg base N qual scope f cdv A outer s H E) body t/\t { nx:=λ_ H'=>Q .non H',rt:=Q} (start N vs) H):
  FnOk P w K mg base CX (k+1) f (W.fnOf name qual params body scope dV kV doc pm an cdv ct) ps sp:=by
 refine⟨len,λA outer s H args us vs Q E hr e0 hb r hsp=>?_⟩;have hl:=len _ _ _ _ hsp;have KX:K.In s.heap:=e0.mod.kin.keeps λb o e=>(e0.bs b o e).1
 have lim:s.heap.NoLimit:=e0.mod.nolimit.keeps λb o e=>(e0.bs b o e).1
 have hkind:∀y∈ps.zip us,scope.names.lookup y.1=some .local\/(scope.names.lookup y.1=some .cell/\((cellsFrom (s.heap.objs.size+1) scope.names []).lookup y.1).isSome=true):=λ⟨n,v⟩ hy=>by
  rcases S.par n (Tc hy).1 with q|q
  ·exact .inl q
  ·exact .inr ⟨q,W.cellsFrom_some _ _ _ (.inl q)⟩
 refine codeAny_call_function hr.depth (KX _ _ lk) rfl S.co S.gen rfl (W.codeRec_of KX hcd) (hb _ _ _ _ ?_);refine wpAny_newFunctionEnv_cells S.kind hkind λenv he s1 x=>?_
 subst he;refine⟨lim.keeps x.toInCall.keep,codeAny_func ?_⟩;obtain⟨t,ht,hq⟩:=hbody A outer s H vs Q E (hr.deeper _) hsp;have I:Inv (cxOf CX P w K mg base N qual scope f cdv A outer s H E) [] (start N vs) H s1:=c9i S hr.hd e0 hl r x;refine W2 (ht [] s1 (start N vs) H _ I hq) (λfl s' hs=>?_) λe s' hs=>hs
 have fin:∀{σ':St}{H':Hp}{v:V}{u:Value},Inv (cxOf CX P w K mg base N qual scope f cdv A outer s H E) [] σ' H' s'->RelV v u->Q v H'->CE outer P w H s Q u s':=
  λ{σ' H' v u} J rv q=>⟨v,H',J.os,J.bare,J.base,J.hok,rv,q⟩
 cases fl with
 |ret u=>
  obtain⟨v,σ',H',J,rv,q⟩:=hs;exact fin J rv q
 |next=>
  obtain⟨σ',H',J,q⟩:=hs;exact fin (v:=V.non) (u:=Value.none) J rfl q
 |brk=>
  obtain⟨_,_,_,q⟩:=hs;exact False.elim q
 |cont=>
  obtain⟨_,_,_,q⟩:=hs;exact False.elim q
section
variable{X:Cx}{x:Str}{p pos:Pos}{e:Expr}{es:List Expr}{t:TA}{id T:String}{r:List V->Hp->VK->Prop}
def tCB(r:List V->Hp->VK->Prop)(t:TA):TE:=λσ H Q=>t σ H λvs H1=>r vs H1 Q
theorem a0r(hc:a2w X (.builtin id) r)(hg:Gl X x)(hm:X.mg x=none)(hv:bootBuiltins x=some (.builtin id))(ha:PA X (e::es) t)(hn:x≠"__name__":=by decide)(hdb:(x==("__debug__":Str))=false:=by decide)
  (he:starEach (e::es) X.env=(false,eval e X.env)::starEach es X.env:=by rfl)(hpl:(backTo pos (starEach es X.env)).any (·.1)=false:=by rfl):PE X (.Call (.Name x p) (e::es) [] pos) (tCB r t):=by
 intro pins s σ H Q I h;refine Vq (a6u I hg hm hv ?_ hn hdb);exact PyProof.Rows.callWith_builtin1 (thn (ha pos pins s σ H _ I h) λus s1 ⟨vs,H1,I1,r1,q1⟩=>hc pins s1 σ H1 vs us Q I1 r1 q1) he hpl
theorem a2f(hc:a2w X (.type T) r)(hg:Gl X x)(hm:X.mg x=none)(hv:bootBuiltins x=some (.type T))(ha:PA X (e::es) t)(hn:x≠"__name__":=by decide)(hdb:(x==("__debug__":Str))=false:=by decide)
  (he:starEach (e::es) X.env=(false,eval e X.env)::starEach es X.env:=by rfl)(hpl:(backTo pos (starEach es X.env)).any (·.1)=false:=by rfl):PE X (.Call (.Name x p) (e::es) [] pos) (tCB r t):=by
 intro pins s σ H Q I h;refine Vq (a6u I hg hm hv ?_ hn hdb);exact Yu (thn (ha pos pins s σ H _ I h) λus s1 ⟨vs,H1,I1,r1,q1⟩=>hc pins s1 σ H1 vs us Q I1 r1 q1) he hpl
end
end L2
namespace HT
open PySem PyProof.Rows
section
open PySem.SeqAt
open PySem.AutoSeq1 (wpAny_loadPart')
open PySem.MeetsSeq PySem.MeetsSeq2 PySem.MeetsSeq3
end
section
variable{prog:Program}{w:World}{A:Around}{E:Value->Shared->Prop}{s:Shared}
theorem cat_tup{t b:Addr}{vs ws:List Value}{Q:Value->Shared->Prop}(ht:IsTup s.heap t vs.toArray)(hb:IsTup s.heap b ws.toArray)(hv:vs≠[])
  (h1:ws=[]->Q (.ref t) s)(h2:ws≠[]->Q (.ref s.heap.objs.size) { s with heap:=s.heap.push { cls:=.type "tuple",data:=.seq (vs++ws).toArray}})
  (hsz:vs.length+ws.length<=sizeLine):wpAny (model prog w) A (binaryOp .Add (.ref t) (.ref b)) Q E s:=by
 obtain⟨⟨cls,dd,data,sl⟩,ho,hc,n,hd⟩:=id ht;obtain⟨⟨cls2,dd2,data2,sl2⟩,ho2,hc2,n2,hd2⟩:=id hb;simp only at hc hd hc2 hd2;subst hc hd hc2 hd2;have e:vs.toArray++ws.toArray=(vs++ws).toArray:=by simp
 by_cases hw:ws=[]
 ·exact concat_meets ⟨_,ho,rfl⟩ ⟨_,ho2,rfl⟩ noFill_tuple_add seq_tuple_add F.slot_tuple_add F.entry_tuple_add (Rn _ _)
   (tuple_addW1 t b vs.toArray ws.toArray n n2 dd dd2 sl sl2 (by simpa using hv) (by simp[hw])) ⟨ho,ho2,h1 hw⟩
 ·refine concat_meets ⟨_,ho,rfl⟩ ⟨_,ho2,rfl⟩ noFill_tuple_add seq_tuple_add F.slot_tuple_add F.entry_tuple_add (Rn _ _)
   (tuple_addW2 t b vs.toArray ws.toArray n n2 dd dd2 sl sl2 (by simpa using hv) (by simpa using hw) (by rw[Ze,Ze];exact hsz)) ⟨ho,ho2,?_⟩
  rw[e];exact h2 hw
def sIx(n d:Nat):Option Int->Nat
 |none=>d
 |some v=>if v<0 then(v+(n:Int)).toNat else min v.toNat n
theorem sIx_le(n d:Nat)(hd:d<=n)(o:Option Int):sIx n d o<=n:=by
 cases o with
 |none=>exact hd
 |some v=>
  show(if v<0 then(v+(n:Int)).toNat else min v.toNat n)<=n
  by_cases hv:v<0
  ·rw[if_pos hv];omega
  ·rw[if_neg hv];exact Nat.min_le_right _ _
theorem c5o(v:Int)(n d:Nat):(if v<0 then max (v+(n:Int)) 0 else min v (n:Int))=((sIx n d (some v):Nat):Int):=by
 show(if v<0 then max (v+(n:Int)) 0 else min v (n:Int))=(((if v<0 then(v+(n:Int)).toNat else min v.toNat n):Nat):Int)
 by_cases hv:v<0
 ·simp only[if_pos hv];omega
 ·simp only[if_neg hv];omega
theorem c7f(lo hi:Option Int)(n:Nat):Builtin.Slice.sliceAdjust lo hi 1 (n:Int)=(((sIx n 0 lo:Nat):Int),((sIx n n hi:Nat):Int)):=by
 have h1:¬((1:Int)<0):=by omega
 unfold Builtin.Slice.sliceAdjust;simp only[h1,X4];refine Prod.ext ?_ ?_
 ·cases lo with
  |none=>rfl
  |some v=>exact c5o v n 0
 ·cases hi with
  |none=>rfl
  |some v=>exact c5o v n n
theorem c7g(i j:Nat):Builtin.Slice.slicePlaces (i:Int) (j:Int) 1=j-i:=by
 unfold Builtin.Slice.slicePlaces;have h1:(1:Int)>0:=by omega
 simp only[h1,if_true,Int.ediv_one]
 split<;>omega
theorem b7n{v:Value}{o:Option Int}{Q:Option Int->Shared->Prop}(p:IsPart v o)(h:Q o s):wpAny (model prog w) A (Builtin.Slice.slicePartIndex v) Q E s:=by
 cases p with
 |none=>exact slicePart_none h
 |int i t=>exact slicePart_int h
theorem sliceApplied_gen{sl:Addr}{vl vu:Value}{lo hi:Option Int}{n:Nat}{Q:Int×Int×Nat->Shared->Prop}(hs:s.heap.IsSliceOf sl vl vu .none)(pl:IsPart vl lo)(pu:IsPart vu hi)
  (h:Q (((sIx n 0 lo:Nat):Int),1,sIx n n hi-sIx n 0 lo) s):wpAny (model prog w) A (Builtin.Slice.sliceApplied (.ref sl) (pure (n:Int))) Q E s:=by
 obtain⟨os,hos,hcs,hds⟩:=id hs;unfold Builtin.Slice.sliceApplied Builtin.Slice.sliceFields;refine Zb (Zb (Xk hos hds (x:=vl) rfl (Zb (Xk hos hds (x:=vu) rfl (Zb (Xk hos hds (x:=.none) rfl (Zf ?_)))))));refine Zb (slicePart_none ?_)
 show wpAny _ _ (if((1:Int)==0)=true then _ else _) _ _ s
 rw[if_neg qd];refine Zb (b7n pl (Zb (b7n pu (Zb (Zf ?_)))))
 show wpAny _ _ (match Builtin.Slice.sliceAdjust lo hi 1 (n:Int)with| (lo,hi)=>pure (lo,(1:Int),Builtin.Slice.slicePlaces lo hi 1)) _ _ s
 rw[c7f lo hi n]
 show wpAny _ _ (pure (((sIx n 0 lo:Nat):Int),(1:Int),Builtin.Slice.slicePlaces ((sIx n 0 lo:Nat):Int) ((sIx n n hi:Nat):Int) 1)) _ _ s
 rw[c7g];exact Zf h
theorem d3b(xs:Array Value)(i k:Nat):((List.range k).filterMap λ(m:Nat)=>xs[((i:Int)+(m:Int)*1).toNat]?).toArray=((xs.toList.drop i).take k).toArray:=by
 have e:(λ(m:Nat)=>xs[((i:Int)+(m:Int)*1).toNat]?)=λm=>xs[i+m]?:=by
  funext m
  have:((i:Int)+(m:Int)*1).toNat=i+m:=by omega
  rw[this]
 rw[e];have:=pick_run xs i k;rw[Ri]at this;have e2:((λx=>xs[x]?)∘λx=>i+x)=λm=>xs[i+m]?:=rfl
 rw[e2]at this;rw[this]
theorem getItem_tuple_cut{t sl:Addr}{items:Array Value}{vl vu:Value}{lo hi:Option Int}{Q:Value->Shared->Prop}(ht:IsTup s.heap t items)(hs:s.heap.IsSliceOf sl vl vu .none)(pl:IsPart vl lo)(pu:IsPart vu hi)
  (hw:¬(sIx items.size 0 lo=0/\sIx items.size items.size hi=items.size))
  (h:Q (.ref s.heap.objs.size) { s with heap:=s.heap.push { cls:=.type "tuple",data:=.seq ((items.toList.drop (sIx items.size 0 lo)).take (sIx items.size items.size hi-sIx items.size 0 lo)).toArray}})
  (hsz:items.size<=sizeLine):wpAny (model prog w) A (getItem (.ref t) (.ref sl)) Q E s:=by
 have htake:sizeOk (.seq ((items.toList.drop (sIx items.size 0 lo)).take (sIx items.size items.size hi-sIx items.size 0 lo)).toArray):=by
  show((items.toList.drop (sIx items.size 0 lo)).take (sIx items.size items.size hi-sIx items.size 0 lo)).toArray.size<=sizeLine
  rw[Ze,Z5,Ve,Yw];omega
 have hj:sIx items.size items.size hi<=items.size:=sIx_le _ _ (Zg _) hi;obtain⟨os,hos,hcs,hds⟩:=id hs;have hTs:s.TypeIs (.ref sl) "slice":=⟨os,hos,hcs⟩;unfold getItem
 try with_reducible refine Y7 ?_
 first|refine Zb (Zf ?_)|skip
 refine Zb (wpAny_sequenceKey ht.typeIs qd ?_)
 refine Zb (wpAny_callSpecial?_slot (name:=ofString "__getitem__") ht.typeIs Y6
  (Yr Y6 ht.typeIs S0 ?_ (Rc _ _)))
 show wpAny _ _ (Builtin.Tuple.tupleItemsOf (.ref t)>>=_) _ _ s
 refine Zb (tupleItemsOf_ ht ?_);refine Zb (Ux hTs ?_);rw[if_pos qd];refine Zb (sliceApplied_gen hs pl pu ?_);have hno:¬((((sIx items.size 0 lo:Nat):Int)==0&&(1:Int)==1&&(sIx items.size items.size hi-sIx items.size 0 lo)==items.size)=true):=by
  intro q;rw[Wu,Wu]at q;have q1:((sIx items.size 0 lo:Nat):Int)=0:=eq_of_beq q.1.1;have q2:sIx items.size items.size hi-sIx items.size 0 lo=items.size:=eq_of_beq q.2;exact hw ⟨qo,qo⟩
 show wpAny _ _ (if(((sIx items.size 0 lo:Nat):Int)==0&&(1:Int)==1&&(sIx items.size items.size hi-sIx items.size 0 lo)==items.size)=true then _ else _) _ _ s
 rw[if_neg hno,d3b]
 first
  |exact Zb (m:=Builtin.Tuple.tupleExact _) (Ys (Zf ⟨_,rfl,Zf h⟩) htake)
  |exact Zb (m:=Builtin.Tuple.tupleExact _) (Ys (Zb (Zf (Zf ⟨_,rfl,Zf h⟩))) htake)
  |exact Zb (Zb (m:=Builtin.Tuple.tupleExact _) (Ys (Zf (Zf ⟨_,rfl,Zf h⟩)) htake))
  |exact Zb (Zb (m:=Builtin.Tuple.tupleExact _) (Ys (Zf ⟨_,rfl,Zf h⟩) htake))
end
end HT
namespace L2
open PySem PySem.Spec PyProof.Rows
abbrev TO:=St->Hp->(Option Int->Hp->Prop)->Prop
def PO(X:Cx)(e:Option Expr)(t:TO):Prop:=
 ∀(pins:List (Addr×Obj))(s:Shared)(σ:St)(H:Hp)(Q:Option Int->Hp->Prop),Inv X pins σ H s->t σ H Q->
  wpAny (model X.prog X.w) X.A (evalPart e X.env) (λu s'=>∃o H',Inv X pins σ H' s'/\IsPart u o/\Q o H') X.xe s
def c5p:TO:=λ_ H Q=>Q none H
def tPart(t:TE):TO:=λσ H Q=>t σ H λx H1=>∃i,x=.int i/\Q (some i) H1
theorem intsAre_of{ns:List Int}:∀{us:List Value},Vals (ns.map V.int) us->IntsAre us ns:=by
 induction ns with
 |nil=>intro us r;rw[V7]at r;cases r;exact .nil
 |cons n ns ih=>
  intro us r;rw[Zp]at r;cases r with
  |cons r1 r2=>
   obtain⟨t,e⟩:=r1;subst e;exact .cons n t (ih r2)
section
variable{X:Cx}{e:Expr}{te:TE}{lo hi:Option Expr}{tl th:TO}{pos p2:Pos}
theorem a9s:PO X none c5p:=by
 intro pins s σ H Q I h;rw[Ts];exact Zf ⟨none,H,I,.none,h⟩
theorem po_some(h:PE X e te):PO X (some e) (tPart te):=by
 intro pins s σ H Q I hw;rw[evalPart_some];refine thn (h pins s σ H _ I hw) λu s1 z9=>?_
 obtain⟨x,H1,I1,r1,q1⟩:=z9;obtain⟨i,rfl,q⟩:=q1;obtain⟨t,rfl⟩:=r1;exact⟨some i,H1,I1,.int i t,q⟩
def SlR(X:Cx)(r:V->Option Int->Option Int->Hp->VK->Prop):Prop:=
 ∀(pins:List (Addr×Obj))(s:Shared)(σ:St)(H:Hp)(x:V)(v vl vu:Value)(lo hi:Option Int)(sl:Addr)(Q:VK),Inv X pins σ H s->RelV x v->s.heap.IsSliceOf sl vl vu .none->IsPart vl lo->IsPart vu hi->r x lo hi H Q->
  ∃T id,typeLookup (.type T) "__getitem__"=pure (some (.builtin id))/\s.TypeIs v T/\wpAny (model X.prog X.w) X.A (getItem v (.ref sl)) (EP X pins σ Q) X.xe s
def tSl(r:V->Option Int->Option Int->Hp->VK->Prop)(te:TE)(tl th:TO):TE:=λσ H Q=>te σ H λx H1=>tl σ H1 λl H2=>th σ H2 λu H3=>r x l u H3 Q
theorem a5p{r:V->Option Int->Option Int->Hp->VK->Prop}(hr:SlR X r)(he:PE X e te)(hl:PO X lo tl)(hu:PO X hi th):PE X (.Subscript e (.Slice lo hi none p2) pos) (tSl r te tl th):=by
 intro pins s σ H Q I h;refine Rf (thn (he pins s σ H _ I h) λv s1 z9=>?_);obtain⟨x,H1,I1,r1,q1⟩:=z9;refine wpAny_Slice (thn (hl pins s1 σ H1 _ I1 q1) λvl s2 ⟨l,H2,I2,pl,q2⟩=>thn (hu pins s2 σ H2 _ I2 q2) λvu s3 z9=>?_);obtain⟨u,H3,I3,pu,q3⟩:=z9;rw[Ts];refine Zf ?_;have I4:Inv X pins σ H3 { s3 with heap:=s3.heap.push { cls:=.type "slice",data:=.fields #[vl,vu,.none]}}:=I3.kept (t':=s3.toks) λb ob q=>Zd _ q
 obtain⟨T,id,hT,ht,hg⟩:=hr pins { s3 with heap:=s3.heap.push { cls:=.type "slice",data:=.fields #[vl,vu,.none]}} σ H3 x v vl vu l u s3.heap.objs.size Q I4 r1 (Rk ..) pl pu q3
 show wpAny (model X.prog X.w) X.A (subscriptTail e (.Slice lo hi none p2) v (.ref s3.heap.objs.size)) (EP X pins σ Q) X.xe { s3 with heap:=s3.heap.push { cls:=.type "slice",data:=.fields #[vl,vu,.none]}}
 exact tail_any (ops:=[.ref s3.heap.objs.size,v]) ht hT hg (by with_unfolding_all rfl)
noncomputable def cutV(xs:List V)(lo hi:Option Int):List V:=(xs.drop (HT.sIx xs.length 0 lo)).take (HT.sIx xs.length xs.length hi-HT.sIx xs.length 0 lo)
theorem b5p(xs:List V)(lo hi:Option Int):(cutV xs lo hi).length<=xs.length:=by
 unfold cutV;rw[Z5,Ve];omega
def rSlT(K:W.Frag):V->Option Int->Option Int->Hp->VK->Prop:=λx lo hi H Q=>∃a xs,x=.ref a/\SqT K H a xs/\
 ¬(HT.sIx xs.length 0 lo=0/\HT.sIx xs.length xs.length hi=xs.length)/\∀p,H p=none->Q (.ref p) (upd H p (.tup (cutV xs lo hi)))
theorem sl_tup:SlR X (rSlT X.K):=by
 intro pins s σ H x v vl vu lo hi sl Q I rx hs pl pu h;obtain⟨a,xs,rfl,hx,hw,q⟩:=h;cases rx;obtain⟨its,r,ht,hz⟩:=I.tuple hx;have hlen:its.toArray.size=xs.length:=by rw[Ze];exact r.length.symm
 refine⟨"tuple",_,Y6.lookup,ht.typeIs,?_⟩;refine HT.getItem_tuple_cut ht hs pl pu (by rw[hlen];exact hw) ?_ (by rw[hlen];exact hz);rw[hlen];refine⟨.ref s.heap.objs.size,_,I.laid (t':=s.toks) (o:=.tup (cutV xs lo hi)) (λb ob q=>Zd _ q) (Zg _) ?_,rfl,q _ (I.hok.fresh (Zg _))⟩;exact⟨Xd (b5p xs lo hi) hz,_,(r.drop (HT.sIx xs.length 0 lo)).take (HT.sIx xs.length xs.length hi-HT.sIx xs.length 0 lo),IsTup.new _ _⟩
def rCatT(K:W.Frag):R2:=λx y H Q=>∃a b xs ys,x=.ref a/\y=.ref b/\SqT K H a xs/\SqT K H b ys/\xs≠[]/\xs.length+ys.length<=sizeLine/\
 (ys=[]->Q (.ref a) H)/\(ys≠[]->∀p,H p=none->Q (.ref p) (upd H p (.tup (xs++ys))))
theorem Vals.nil_iff{xs:List V}{us:List Value}(r:Vals xs us):us=[]↔xs=[]:=by
 cases r with
 |nil=>simp
 |cons _ _=>simp
theorem op_catT:OpR X (binaryOp .Add) (rCatT X.K):=by
 intro pins s σ H x y v u Q I rx ry h;obtain⟨a,b,xs,ys,rfl,rfl,ha,hb,hx,hz,q1,q2⟩:=h;cases rx;cases ry;obtain⟨its,r1,p1,_⟩:=I.tuple ha;obtain⟨its2,r2,p2,_⟩:=I.tuple hb;refine HT.cat_tup p1 p2 (λz=>hx (r1.nil_iff.mp z)) (λz=>⟨.ref a,H,I,rfl,q1 (r2.nil_iff.mp z)⟩) (λz=>?_) (by rw[<-r1.length,<-r2.length];exact hz);refine⟨.ref s.heap.objs.size,_,I.laid (t':=s.toks) (o:=.tup (xs++ys)) (λb ob q=>Zd _ q) (Zg _) ?_,rfl,q2 (λw=>z (r2.nil_iff.mpr w)) _ (I.hok.fresh (Zg _))⟩;exact⟨by rw[Zc];exact hz,_,r1.append r2,IsTup.new _ _⟩
end
noncomputable def ixN(n:Nat)(i:Int):Option Nat:=if 0<=i then(if i<n then some i.toNat else none)else if -(n:Int)<=i then some (i+n).toNat else none
def atI{α:Type}(xs:List α)(i:Int):Option α:=(ixN xs.length i).bind λj=>xs[j]?
theorem c5q{n:Nat}{i:Int}{j:Nat}(h:ixN n i=some j):seqIndex? i n=some j/\j<n/\-(n:Int)<=i/\i<n:=by
 unfold ixN at h
 by_cases h0:0<=i
 ·rw[if_pos h0]at h
  by_cases h1:i<n
  ·rw[if_pos h1]at h;have e:i.toNat=j:=Zi h;exact⟨by rw[Sk h0 h1,e],qo,qo,h1⟩
  ·rw[if_neg h1]at h;cases h
 ·rw[if_neg h0]at h
  by_cases h1:-(n:Int)<=i
  ·rw[if_pos h1]at h;have e:(i+n).toNat=j:=Zi h;exact⟨by rw[T4 qo h1,e],qo,h1,qo⟩
  ·rw[if_neg h1]at h;cases h
theorem b4t{α:Type}{xs:List α}{i:Int}{v:α}(h:atI xs i=some v):∃j,seqIndex? i xs.length=some j/\xs[j]? =some v/\j<xs.length/\-(xs.length:Int)<=i/\i<xs.length:=by
 unfold atI at h;cases e:ixN xs.length i with
 |none=>rw[e]at h;cases h
 |some j=>
  rw[e]at h;obtain⟨h1,h2,h3,h4⟩:=c5q e;exact⟨j,h1,h,h2,h3,h4⟩
theorem a3n{α:Type}{xs:List α}{j:Nat}{v:α}(h:xs[j]? =some v):atI xs (j:Int)=some v:=by
 have hj:j<xs.length:=(Zh.mp h).1;have e:ixN xs.length (j:Int)=some j:=by
  unfold ixN;rw[if_pos qo,if_pos qo];simp
 unfold atI;rw[e];exact h
def PlainIx(b:Expr):Prop:=∀o i,subscripted b false o i=operate [o,i] (getItem o i)
def IxR(X:Cx)(r:R2):Prop:=
 ∀(value slice:Expr)(pins:List (Addr×Obj))(s:Shared)(σ:St)(H:Hp)(x y:V)(v u:Value)(Q:VK),Inv X pins σ H s->RelV x v->RelV y u->r x y H Q->
  subscripted slice false v u=operate [v,u] (getItem v u)->wpAny (model X.prog X.w) X.A (subscriptTail value slice v u) (EP X pins σ Q) X.xe s
def MtR(X:Cx)(id:String)(r:V->List V->Hp->VK->Prop):Prop:=
 ∀(pins:List (Addr×Obj))(s:Shared)(σ:St)(H:Hp)(x:V)(xs:List V)(v:Value)(us:List Value)(Q:VK),Inv X pins σ H s->RelV x v->Vals xs us->r x xs H Q->
  wpAny (model X.prog X.w) X.A (call (.builtin id) (v::us)) (EP X pins σ Q) X.xe s
section
variable{X:Cx}{a b:Expr}{ta tb:TE}{pos:Pos}
theorem IxR.or{r r':R2}(h:IxR X r)(h':IxR X r'):IxR X (λx y H Q=>r x y H Q\/r' x y H Q):=by
 intro value slice pins s σ H x y v u Q I rx ry q hs;rcases q with q|q
 ·exact h value slice pins s σ H x y v u Q I rx ry q hs
 ·exact h' value slice pins s σ H x y v u Q I rx ry q hs
theorem a0j{r:R2}(hr:IxR X r)(ha:PE X a ta)(hb:PE X b tb)(hs:PlainIx b):PE X (.Subscript a b pos) (tOp r ta tb):=by
 intro pins s σ H Q I h;exact Rf (binT ha hb I h λv u s2 x y H2 I2 rx ry q=>hr a b pins s2 σ H2 x y v u Q I2 rx ry q (hs _ _))
def rIxL(K:W.Frag):R2:=λx y H Q=>∃p xs i v,x=.ref p/\y=.int i/\SqL K H p xs/\atI xs i=some v/\Q v H
def rIxT(K:W.Frag):R2:=λx y H Q=>∃p xs i v,x=.ref p/\y=.int i/\SqT K H p xs/\atI xs i=some v/\Q v H
def rIxS:R2:=λx y H Q=>∃z i c,x=.str z/\y=.int i/\z.length<=sizeLine/\atI z.cps.toList i=some c/\Q (.str ⟨#[c]⟩) H
theorem ix_list:IxR X (rIxL X.K):=by
 intro value slice pins s σ H x y v u Q I rx ry h hs;obtain⟨p,xs,i,z,rfl,rfl,hq,he,q⟩:=h;cases rx;obtain⟨t,rfl⟩:=ry;obtain⟨its,r,pl,hz⟩:=I.list hq;obtain⟨j,h1,h2,h3,h4,h5⟩:=b4t he;obtain⟨w,ew,rw'⟩:=r.get h2;have hl:=r.length;have hn:=b1p;have fin:EP X pins σ Q w s:=⟨z,H,I,rw',q⟩
 by_cases h0:0<=i
 ·have hj:i.toNat=j:=by
   rw[Sk h0 h5]at h1;exact Zi h1
  exact item_listR pl.isList h0 qo (by rw[hj];simpa using ew) fin hs
 ·have hj:(i+(its.toArray.size:Int)).toNat=j:=by
   rw[T4 qo h4]at h1;rw[Ze,<-hl];exact Zi h1
  exact T3 (x:=w) pl.isList.typeIs slot_list_getitem.lookup
   (wpAny_getItem_list_neg (Q:=λr s'=>r=w/\EP X pins σ Q r s') pl.isList qo (by rw[Ze]<;>omega) qo (by rw[hj];simpa using ew) ⟨rfl,fin⟩) hs
theorem ix_tup:IxR X (rIxT X.K):=by
 intro value slice pins s σ H x y v u Q I rx ry h hs;obtain⟨p,xs,i,z,rfl,rfl,hq,he,q⟩:=h;cases rx;obtain⟨t,rfl⟩:=ry;obtain⟨its,r,pl,hz⟩:=I.tuple hq;obtain⟨j,h1,h2,h3,h4,h5⟩:=b4t he;obtain⟨w,ew,rw'⟩:=r.get h2;have hl:=r.length;have hn:=b1p;have fin:EP X pins σ Q w s:=⟨z,H,I,rw',q⟩;exact T3 (x:=w) pl.typeIs Ur.lookup
  (getItem_tuple (j:=j) (Q:=λr s'=>r=w/\EP X pins σ Q r s') pl qo qo (by rw[Ze,<-hl];exact h1) (by simpa using ew) ⟨rfl,fin⟩) hs
theorem ix_str:IxR X rIxS:=by
 intro value slice pins s σ H x y v u Q I rx ry h hs;obtain⟨z,i,c,rfl,rfl,hz,he,q⟩:=h;obtain⟨t,rfl⟩:=rx;obtain⟨t',rfl⟩:=ry;obtain⟨j,h1,h2,h3,h4,h5⟩:=b4t he;have hl:z.cps.toList.length=z.length:=by simp[Str.length]
 rw[hl]at h1 h4 h5;have hn:=b1p
 exact tail_any (typeIs_str s z t) slot_str_getitem.lookup (getItem_str (c:=c) (by
  have e1:decide (i< -(2^63:Int))=false:=Z4 qo;have e2:decide (i>=2^63)=false:=Z4 qo
  rw[e1,e2,Zy9]) (by rw[h1];simpa using h2) ⟨.str ⟨#[c]⟩,H,I.tok _,⟨_,rfl⟩,q⟩) hs
def rIx(K:W.Frag):R2:=λx y H Q=>rIxL K x y H Q\/rIxT K x y H Q\/rIxS x y H Q
theorem ix_seq:IxR X (rIx X.K):=ix_list.or (ix_tup.or ix_str)
theorem c7h(its:List Value)(n j:Nat)(u:Value):Obj.mapSeq (·.setIfInBounds j u) { cls:=.type "list",data:=.seq its.toArray n}={ cls:=.type "list",data:=.seq (its.set j u).toArray n}:=by
 simp[Obj.mapSeq]
theorem Inv.lst{pins:List (Addr×Obj)}{σ:St}{H:Hp}{s:Shared}{p:Addr}{xs:List V}(I:Inv X pins σ H s)(h:H p=some (.lst xs)):
  ∃(its:List Value)(n:Nat),Vals xs its/\s.heap.get? p=some { cls:=.type "list",data:=.seq its.toArray n}/\xs.length<=sizeLine:=by
 obtain⟨z,its,n,r,e⟩:=I.hok p _ h;exact⟨its,n,r,e,z⟩
theorem Inv.lstUpd{pins:List (Addr×Obj)}{σ:St}{H:Hp}{s:Shared}{p:Addr}{xs ys:List V}{its its':List Value}{n n':Nat}{f:Obj->Obj}(I:Inv X pins σ H s)(h:H p=some (.lst xs))
  (ho:s.heap.get? p=some { cls:=.type "list",data:=.seq its.toArray n})(hf:f { cls:=.type "list",data:=.seq its.toArray n}={ cls:=.type "list",data:=.seq its'.toArray n'})(r:Vals ys its')(hz:ys.length<=sizeLine)(t:Nat):
  Inv X pins σ (upd H p (.lst ys)) { s with heap:=s.heap.update p f,toks:=t}:=by
 have e:(s.heap.update p f).get? p=some { cls:=.type "list",data:=.seq its'.toArray n'}:=by
  rw[Y3 f ho (by rw[hf]<;>rfl),hf]
 refine I.write (x:=p) (e:=p) (by rw[h];trivial) (.inl rfl) (λb u hb q=>(Xi _ _ (Ne.symm hb)).trans q) ⟨_,e⟩ ?_;exact⟨hz,its',n',r,e⟩
def rSetL:V->V->V->Hp->(Hp->Prop)->Prop:=λo i v H Q=>∃p xs k j,o=.ref p/\i=.int k/\H p=some (.lst xs)/\ixN xs.length k=some j/\Q (upd H p (.lst (xs.set j v)))
theorem d3c:PSet X rSetL:=by
 intro pins s σ H o i v ov iv u Q I ro ri rv h;obtain⟨p,xs,k,j,rfl,rfl,hp,hj,q⟩:=h;cases ro;obtain⟨t,rfl⟩:=ri;obtain⟨its,n,r,ho,hz⟩:=I.lst hp;obtain⟨h1,h2,h3,h4⟩:=c5q hj;have hl:=r.length;have hn:=b1p;have I':Inv X pins σ (upd H p (.lst (xs.set j v))) { s with heap:=s.heap.update p (Obj.mapSeq (·.setIfInBounds j u))}:=
  I.lstUpd hp ho (c7h its n j u) (r.set rv j) (by rw[Yi];exact hz) s.toks
 by_cases h0:0<=k
 ·have hk:k.toNat=j:=by
   rw[Sk h0 h4]at h1;exact Zi h1
  exact W.ki_setAt ho h0 qo (by rw[Ze,<-hl];exact h4) (by rw[hk];exact⟨_,I',q⟩)
 ·have hk:(k+(its.toArray.size:Int)).toNat=j:=by
   rw[T4 qo h3]at h1;rw[Ze,<-hl];exact Zi h1
  exact W.ki_setBack ho qo (by rw[Ze,<-hl];exact h3) qo (by rw[hk];exact⟨_,I',q⟩)
theorem c2n(lo hi:Option Int)(n:Nat):(sliceBounds lo hi none n).1=((HT.sIx n 0 lo:Nat):Int)/\(sliceBounds lo hi none n).2.1=((HT.sIx n n hi:Nat):Int)/\(sliceBounds lo hi none n).2.2=1:=by
 refine⟨?_,?_,rfl⟩
 ·cases lo with
  |none=>simp[sliceBounds,HT.sIx]
  |some i=>
   simp only[sliceBounds,HT.sIx,Option.getD_none,show(1:Int)>0 by decide,if_true]
   by_cases h:i<0
   ·simp only[h,if_true]<;>omega
   ·simp only[h,X4]<;>omega
 ·cases hi with
  |none=>simp[sliceBounds,HT.sIx]
  |some i=>
   simp only[sliceBounds,HT.sIx,Option.getD_none,show(1:Int)>0 by decide,if_true]
   by_cases h:i<0
   ·simp only[h,if_true]<;>omega
   ·simp only[h,X4]<;>omega
theorem c1l(its:List Value)(lo hi:Option Int):slicePick its.toArray lo hi none=((its.drop (HT.sIx its.length 0 lo)).take (HT.sIx its.length its.length hi-HT.sIx its.length 0 lo)).toArray:=by
 obtain⟨h1,h2,h3⟩:=c2n lo hi its.toArray.size;unfold slicePick;rw[h1,h2,h3];simp only[sliceRange_one,pick_run,Ze]<;>rfl
def rSlL(K:W.Frag):V->Option Int->Option Int->Hp->VK->Prop:=λx lo hi H Q=>∃a xs,x=.ref a/\SqL K H a xs/\∀p,H p=none->Q (.ref p) (upd H p (.lst (cutV xs lo hi)))
theorem sl_list:SlR X (rSlL X.K):=by
 intro pins s σ H x v vl vu lo hi sl Q I rx hs pl pu h;obtain⟨a,xs,rfl,hx,q⟩:=h;cases rx;obtain⟨its,r,ht,hz⟩:=I.list hx;have hlen:=r.length;refine⟨"list",_,slot_list_getitem.lookup,ht.isList.typeIs,?_⟩;refine Tp ht.isList hs pl pu .none qz ?_ (by rw[Ze]<;>omega);rw[c1l,<-hlen];refine⟨.ref s.heap.objs.size,_,I.laid (t':=s.toks) (o:=.lst (cutV xs lo hi)) (λb ob q=>Zd _ q) (Zg _) ?_,rfl,q _ (I.hok.fresh (Zg _))⟩;exact⟨Xd (b5p xs lo hi) hz,_,0,(r.drop (HT.sIx xs.length 0 lo)).take (HT.sIx xs.length xs.length hi-HT.sIx xs.length 0 lo),Zl _ rfl⟩
def a9g:V->Bool
 | .non=>true
 | .bl _=>true
 | .int _=>true
 | .str _=>true
 |_=>false
noncomputable def eqV:V->V->Bool
 | .non,.non=>true
 | .bl a,.bl b=>a==b
 | .bl a,.int b=>(if a then 1 else 0)==b
 | .int a,.bl b=>a==(if b then 1 else 0)
 | .int a,.int b=>a==b
 | .str a,.str b=>a==b
 |_,_=>false
theorem eqAt_V{A:Around}{s:Shared}{y x:V}{u v:Value}(ry:RelV y u)(rx:RelV x v)(fy:a9g y=true)(fx:a9g x=true):SeqAt.EqAt A s u v (eqV y x):=by
 cases y with
 |non=>
  cases ry;cases x with
  |non=>cases rx;exact Wj _
  |bl b=>cases rx;exact SeqAt.EqAt.none_bool b
  |int b=>obtain⟨t,rfl⟩:=rx;exact SeqAt.EqAt.none_int b t
  |str b=>obtain⟨t,rfl⟩:=rx;exact SeqAt.EqAt.none_str b t
  |_=>exact absurd (show false=true from fx) Zj
 |bl a=>
  cases ry;cases x with
  |non=>cases rx;exact SeqAt.EqAt.bool_none a
  |bl b=>cases rx;exact SeqAt.EqAt.bool_bool a b
  |int b=>obtain⟨t,rfl⟩:=rx;exact SeqAt.EqAt.bool_int a b t
  |str b=>obtain⟨t,rfl⟩:=rx;exact SeqAt.EqAt.bool_str a b t
  |_=>exact absurd (show false=true from fx) Zj
 |int a=>
  obtain⟨t',rfl⟩:=ry;cases x with
  |non=>cases rx;exact SeqAt.EqAt.int_none a t'
  |bl b=>cases rx;exact SeqAt.EqAt.int_bool a t' b
  |int b=>obtain⟨t,rfl⟩:=rx;exact Xz a t' b t
  |str b=>obtain⟨t,rfl⟩:=rx;exact Uu a t' b t
  |_=>exact absurd (show false=true from fx) Zj
 |str a=>
  obtain⟨t',rfl⟩:=ry;cases x with
  |non=>cases rx;exact SeqAt.EqAt.str_none a t'
  |bl b=>cases rx;exact SeqAt.EqAt.str_bool a t' b
  |int b=>obtain⟨t,rfl⟩:=rx;exact Ut a t' b t
  |str b=>obtain⟨t,rfl⟩:=rx;exact Vs a t' b t
  |_=>exact absurd (show false=true from fx) Zj
 |_=>exact absurd (show false=true from fy) Zj
noncomputable def eqU(x:V)(u:Value):Bool:=match u with
 | .none=>eqV .non x
 | .bool b=>eqV (.bl b) x
 | .int i _=>eqV (.int i) x
 | .str z _=>eqV (.str z) x
 |_=>false
theorem c9j{x y:V}{u:Value}(r:RelV y u)(f:a9g y=true):eqU x u=eqV y x:=by
 cases y with
 |non=>cases r;rfl
 |bl b=>cases r;rfl
 |int i=>obtain⟨t,rfl⟩:=r;rfl
 |str z=>obtain⟨t,rfl⟩:=r;rfl
 |_=>exact absurd (show false=true from f) Zj
theorem b1q{x:V}:∀{xs:List V}{us:List Value},Vals xs us->xs.all a9g=true->us.any (eqU x)=xs.any λy=>eqV y x
 |_,_,.nil,_=>rfl
 |y::xs,u::us,.cons r t,f=>by
  rw[List.all_cons,Wu]at f;rw[Wy,Wy,c9j r f.1,b1q t f.2]
theorem b0b{A:Around}{s:Shared}{x:V}{v:Value}(rx:RelV x v)(fx:a9g x=true):∀{xs:List V}{us:List Value},Vals xs us->xs.all a9g=true->∀u∈us,SeqAt.EqAt A s u v (eqU x u)
 |_,_,.nil,_=>λu hu=>by cases hu
 |y::xs,u::us,.cons r t,f=>λu' hu=>by
  rw[List.all_cons,Wu]at f;rcases Zo.mp hu with rfl|hu
  ·rw[c9j r f.1];exact eqAt_V r rx f.1 fx
  ·exact b0b rx fx t f.2 u' hu
def inV(x:V)(xs:List V):Bool:=xs.any λy=>eqV y x
def rIn(K:W.Frag)(neg:Bool):R2:=λx y H Q=>∃p xs,y=.ref p/\(SqL K H p xs\/SqT K H p xs)/\a9g x=true/\xs.all a9g=true/\Q (.bl (if neg then !inV x xs else inV x xs)) H
theorem c9k:OpR X (compareOp .In) (rIn X.K false):=by
 intro pins s σ H x y v u Q I rx ry h;obtain⟨p,xs,rfl,hq,fx,fs,q⟩:=h;cases ry;rcases hq with hq|hq
 ·obtain⟨its,r,pl,hz⟩:=I.list hq;refine SeqAt.in_listAt (eqU x) pl.isList (λw hw=>b0b rx fx r fs w (by simpa using hw)) ⟨.bl _,H,I,rfl,?_⟩;rw[show its.toArray.any (eqU x)=its.any (eqU x) by simp,b1q r fs];exact q
 ·obtain⟨its,r,pl,hz⟩:=I.tuple hq;refine SeqAt.in_tupleAt (eqU x) pl (λw hw=>b0b rx fx r fs w (by simpa using hw)) ⟨.bl _,H,I,rfl,?_⟩;rw[show its.toArray.any (eqU x)=its.any (eqU x) by simp,b1q r fs];exact q
theorem c2o:OpR X (compareOp .NotIn) (rIn X.K true):=by
 intro pins s σ H x y v u Q I rx ry h;obtain⟨p,xs,rfl,hq,fx,fs,q⟩:=h;cases ry;rcases hq with hq|hq
 ·obtain⟨its,r,pl,hz⟩:=I.list hq;refine SeqAt.notIn_listAt (eqU x) pl.isList (λw hw=>b0b rx fx r fs w (by simpa using hw)) ⟨.bl _,H,I,rfl,?_⟩;rw[show its.toArray.any (eqU x)=its.any (eqU x) by simp,b1q r fs];exact q
 ·obtain⟨its,r,pl,hz⟩:=I.tuple hq;refine SeqAt.notIn_tupleAt (eqU x) pl (λw hw=>b0b rx fx r fs w (by simpa using hw)) ⟨.bl _,H,I,rfl,?_⟩;rw[show its.toArray.any (eqU x)=its.any (eqU x) by simp,b1q r fs];exact q
theorem c2p:a2w X (.type "list") (λxs H Q=>∃p ys,xs=[.ref p]/\(SqL X.K H p ys\/SqT X.K H p ys)/\∀l,H l=none->Q (.ref l) (upd H l (.lst ys))):=by
 intro pins s σ H xs us Q I r h;obtain⟨p,ys,rfl,hq,q⟩:=h;obtain⟨u,rfl,rx⟩:=vals1 r;cases rx;have fin:∀(its:List Value),Vals ys its->ys.length<=sizeLine->∀(h':Heap)(c':Nat),(∀b o',s.heap.get? b=some o'->h'.get? b=some o')->
   h'.get? s.heap.objs.size=some { cls:=.type "list",dict:=none,data:=.seq its.toArray c',slots:=#[]}->EP X pins σ Q (.ref s.heap.objs.size) { s with heap:=h'}:=λits r' hz h' c' kp e=>
  ⟨.ref s.heap.objs.size,_,I.laid (t':=s.toks) kp (Zg _) (show a1s X.prog X.w _ h' _ (.lst ys)from⟨hz,its,c',r',e⟩),rfl,q _ (I.hok.fresh (Zg _))⟩
 rcases hq with hq|hq
 ·obtain⟨its,r',pl,hz⟩:=I.list hq;have hlen:=r'.length;obtain⟨o,ho,hc,n,hd⟩:=pl.isList;exact call_list_seq p (.inl rfl) ho hc hd (λh' c' kp e=>fin its r' hz h' c' kp e) (by simp only[Ze]<;>omega)
 ·obtain⟨its,r',pl,hz⟩:=I.tuple hq;have hlen:=r'.length;obtain⟨o,ho,hc,n,hd⟩:=pl;exact call_list_seq p (.inr rfl) ho hc hd (λh' c' kp e=>fin its r' hz h' c' kp e) (by simp only[Ze]<;>omega)
theorem c1m:a2w X (.type "tuple") (λxs H Q=>∃p ys,xs=[.ref p]/\((SqL X.K H p ys/\∀l,H l=none->Q (.ref l) (upd H l (.tup ys)))\/(SqT X.K H p ys/\Q (.ref p) H))):=by
 intro pins s σ H xs us Q I r h;obtain⟨p,ys,rfl,h⟩:=h;obtain⟨u,rfl,rx⟩:=vals1 r;cases rx;rcases h with⟨hq,q⟩|⟨hq,q⟩
 ·obtain⟨its,r',pl,hz⟩:=I.list hq;have hlen:=r'.length;refine call_tuple_list pl.isList (λh' kp=>?_) (by simp only[Ze]<;>omega);have I1:Inv X pins σ H { s with heap:=h'}:=I.kept (t':=s.toks) kp;have I2:Inv X pins σ (upd H h'.objs.size (.tup ys)) { s with heap:=h'.push { cls:=.type "tuple",data:=.seq its.toArray}}:=
   I1.laid (t':=s.toks) (λb o e=>Zd _ e) (Zg _) (show a1s X.prog X.w _ _ _ (.tup ys)from⟨hz,its,r',IsTup.new _ _⟩)
  exact⟨.ref h'.objs.size,_,I2,rfl,q _ (I1.hok.fresh (Zg _))⟩
 ·obtain⟨its,r',pl,hz⟩:=I.tuple hq;exact call_tuple_same pl ⟨.ref p,H,I,rfl,q⟩
def tyV(K:W.Frag)(T:String)(x:V)(H:Hp):Prop:=match x with
 | .str _=>T="str"
 | .int _=>T="int"
 | .ref p=>(T="list"/\∃xs,SqL K H p xs)\/(T="tuple"/\∃o,K.lookup p=some o/\o.cls=.type "tuple"/\o.dict=none)\/
   (T="dict"/\((∃kvs,H p=some (.dK kvs))\/∃kvs,H p=some (.dT kvs)))\/(T="set"/\∃S n,H p=some (.set S n))
 |_=>False
theorem c9l{pins:List (Addr×Obj)}{σ:St}{H:Hp}{s:Shared}{T:String}{x:V}{v:Value}(I:Inv X pins σ H s)(r:RelV x v)(ty:tyV X.K T x H):
  s.TypeIs v T/\∀a,v=.ref a->∃ob,s.heap.get? a=some ob/\ob.dict=none:=by
 cases x with
 |str z=>
  obtain⟨t,rfl⟩:=r
  cases(show T="str" from ty)
  exact⟨typeIs_str s z t,λ_ e=>nomatch e⟩
 |int i=>
  obtain⟨t,rfl⟩:=r
  cases(show T="int" from ty)
  exact⟨Ra s i t,λ_ e=>nomatch e⟩
 |ref p=>
  cases r;rcases ty with⟨rfl,xs,hq⟩|⟨rfl,o,hk,hc,hd⟩|⟨rfl,hk⟩|⟨rfl,S,n,hk⟩
  ·obtain⟨its,_,pl,_⟩:=I.list hq;refine⟨pl.isList.typeIs,λa e=>?_⟩;cases e;obtain⟨o,n,e,c,hd,_⟩:=pl;exact⟨o,e,hd⟩
  ·refine⟨⟨o,I.kIn p o hk,hc⟩,λa e=>?_⟩;cases e;exact⟨o,I.kIn _ o hk,hd⟩
  ·have z:∃o,s.heap.get? p=some o/\o.ExactDict:=by
    rcases hk with⟨kvs,hk⟩|⟨kvs,hk⟩
    ·obtain⟨_,_,_,_,o,_,_,e,ex,_⟩:=I.hok p _ hk;exact⟨o,e,ex⟩
    ·obtain⟨_,_,_,_,o,_,_,e,ex,_⟩:=I.hok p _ hk;exact⟨o,e,ex⟩
   obtain⟨o,e,ex⟩:=z;refine⟨⟨o,e,ex.1⟩,λa e2=>?_⟩;cases e2;exact⟨o,e,ex.2.1⟩
  ·obtain⟨o,_,_,_,e,ex,_⟩:=I.hok p _ hk;refine⟨⟨o,e,ex.1⟩,λa e2=>?_⟩;cases e2;exact⟨o,e,ex.2.1⟩
 |_=>exact False.elim ty
def tBM0(K:W.Frag)(T:String)(r:V->List V->Hp->VK->Prop)(to:TE):TE:=λσ H Q=>to σ H λx H1=>tyV K T x H1/\r x [] H1 Q
def tBM(K:W.Frag)(T:String)(r:V->List V->Hp->VK->Prop)(to:TE)(t:TA):TE:=λσ H Q=>to σ H λx H1=>tyV K T x H1/\t σ H1 λxs H2=>r x xs H2 Q
variable{o e:Expr}{es:List Expr}{to:TE}{t:TA}{name:Str}{apos cpos:Pos}{T id:String}{r:V->List V->Hp->VK->Prop}
theorem pe_bm0(pa:PlainAttrs T)(slot:Slot T name id)(hty:typeOf (.builtin id)=pure (.type "method_descriptor"))(hm:MtR X id r)(ho:PE X o to)
  (hbase:attributeBase o name X.env (eval o X.env)=eval o X.env:=by rfl)(hline:(apos.endLine==cpos.line)=true:=by rfl):PE X (.Call (.Attribute o name apos) [] [] cpos) (tBM0 X.K T r to):=by
 intro pins s σ H Q I h;refine wpAny_Call_method0_late hbase hline (thn (ho pins s σ H _ I h) λv s1 z9=>?_);obtain⟨x,H1,I1,r1,ty,q1⟩:=z9;obtain⟨h1,h2⟩:=c9l I1 r1 ty;exact⟨T,id,pa,slot,hty,h1,h2,Va rfl (PySem.evalArgs_none (hm pins s1 σ H1 x [] v [] Q I1 r1 .nil q1))⟩
theorem pe_bm(pa:PlainAttrs T)(slot:Slot T name id)(hty:typeOf (.builtin id)=pure (.type "method_descriptor"))(hm:MtR X id r)(ho:PE X o to)(ha:PA X (e::es) t)
  (hbase:attributeBase o name X.env (eval o X.env)=eval o X.env:=by rfl)
  (hfew:((backTo cpos (starEach (e::es) X.env)).all (λx=>!x.1)&&(backToKw cpos (keywordEach [] X.env)).all (λx=>x.1.isSome)
   &&decide ((e::es).length+([]:List Keyword).length+(if([]:List Keyword).isEmpty then 0 else 1)<30))=true:=by rfl)
  (hline:(apos.endLine==cpos.line)=true:=by rfl)(hs:starEach (e::es) X.env=(false,eval e X.env)::starEach es X.env:=by rfl)(hplain:(backTo cpos (starEach es X.env)).any (·.1)=false:=by rfl):
  PE X (.Call (.Attribute o name apos) (e::es) [] cpos) (tBM X.K T r to t):=by
 intro pins s σ H Q I h;refine wpAny_Call_method_late hbase hfew hline rfl (thn (ho pins s σ H _ I h) λv s1 z9=>?_);obtain⟨x,H1,I1,r1,ty,q1⟩:=z9;obtain⟨h1,h2⟩:=c9l I1 r1 ty;refine⟨T,id,pa,slot,hty,h1,h2,?_⟩;have hA:=ha cpos pins s1 σ H1 _ I1 q1;rw[hs]at hA ⊢;refine Va (by show(false|| (backTo cpos (starEach es X.env)).any (·.1))=false;rw[hplain]<;>rfl) (Up ?_);exact thn hA λus s2 ⟨vs,H2,I2,r2,q2⟩=>hm pins s2 σ H2 x vs v us Q I2 r1 r2 q2
end
def MtM(X:Cx)(id:String)(r:V->List V->Hp->VK->Prop):Prop:=
 ∀(pins:List (Addr×Obj))(s:Shared)(σ:St)(H:Hp)(x:V)(xs:List V)(v:Value)(us:List Value)(Q:VK),Inv X pins σ H s->RelV x v->Vals xs us->r x xs H Q->
  wpAny (model X.prog X.w) X.A (call (.builtin id) (v::us)) (EP X pins σ Q) X.xe s
theorem Vals.one{x:V}{us:List Value}(r:Vals [x] us):∃u,us=[u]/\RelV x u:=vals1 r
theorem Vals.zero:∀{us:List Value},Vals [] us->us=[]
 |_,.nil=>rfl
theorem Vals.dropLast{xs:List V}{us:List Value}(h:Vals xs us):Vals xs.dropLast us.dropLast:=by
 induction h with
 |nil=>exact .nil
 |cons r t ih=>
  cases t with
  |nil=>exact .nil
  |cons q t'=>exact .cons r ih
theorem Vals.reverse{xs:List V}{us:List Value}(h:Vals xs us):Vals xs.reverse us.reverse:=by
 induction h with
 |nil=>exact .nil
 |cons r t ih=>rw[X6,X6];exact Vals.append ih (.cons r .nil)
theorem Vals.rep{xs:List V}{us:List Value}(h:Vals xs us):∀k:Nat,Vals (List.replicate k xs).flatten (List.replicate k us).flatten
 |0=>.nil
 |k+1=>by
  rw[Ww,Ww,V1,V1];exact Vals.append h (Vals.rep h k)
theorem c7i{α:Type}(l:List α):l.eraseIdx (l.length-1)=l.dropLast:=by
 induction l with
 |nil=>rfl
 |cons a r ih=>
  cases r with
  |nil=>rfl
  |cons b r=>
   have e:(a::b::r).length-1=((b::r).length-1)+1:=by
    have h1:(a::b::r).length=r.length+2:=rfl;have h2:(b::r).length=r.length+1:=rfl;omega
   rw[e,List.eraseIdx_cons_succ,ih]
   all_goals rfl
theorem foldl_rep(its:List Value):∀(k:Nat)(acc:List Value),
  List.foldl (λx1 x2=>x1++x2) acc.toArray (List.replicate k its.toArray)=(acc++(List.replicate k its).flatten).toArray
 |0,acc=>by simp
 |k+1,acc=>by
  have e:acc.toArray++its.toArray=(acc++its).toArray:=by simp
  have e2:(acc++its)++(List.replicate k its).flatten=acc++(List.replicate (k+1) its).flatten:=by
   rw[Ww,V1,Zt]
  rw[<-e2,<-foldl_rep its k (acc++its),<-e,Ww,List.foldl_cons]
section
variable{X:Cx}{pins:List (Addr×Obj)}{σ:St}{H:Hp}{s:Shared}{l b:Addr}{xs ys zs:List V}
theorem Inv.lset{its its':List Value}{n:Nat}{f:Array Value->Array Value}{t':Nat}(I:Inv X pins σ H s)(hH:H l=some (.lst xs))
  (e:s.heap.get? l=some { cls:=.type "list",data:=.seq its.toArray n})(hf:f its.toArray=its'.toArray)(hv:Vals ys its')(hz:ys.length<=sizeLine):
  Inv X pins σ (upd H l (.lst ys)) { s with heap:=s.heap.update l (Obj.mapSeq f),toks:=t'}:=by
 have q:=PySem.IsL.update e f;rw[hf]at q;refine I.write (x:=l) (e:=l) (by rw[hH];exact trivial) (.inl rfl) (λb' u hb hu=>(Xi s.heap (Obj.mapSeq f) (Ne.symm hb)).trans hu) ⟨_,q⟩ ?_;exact⟨hz,its',_,hv,q⟩
theorem Inv.lnew{its:List Value}{t':Nat}(I:Inv X pins σ H s)(hv:Vals ys its)(hz:ys.length<=sizeLine):
  Inv X pins σ (upd H s.heap.objs.size (.lst ys)) { s with heap:=s.heap.push { cls:=.type "list",data:=.seq its.toArray},toks:=t'}:=
 I.laid (λ_ _ q=>Zd _ q) (Zg _) ⟨hz,its,0,hv,Zl _ rfl⟩
theorem Inv.fresh(I:Inv X pins σ H s):H s.heap.objs.size=none:=I.hok.fresh (Zg _)
theorem Inv.lstM(I:Inv X pins σ H s)(hH:H l=some (.lst xs)):xs.length<=sizeLine/\∃(its:List Value)(n:Nat),Vals xs its/\xs.length=its.length/\s.heap.get? l=some { cls:=.type "list",data:=.seq its.toArray n}:=by
 obtain⟨z,its,n,r,e⟩:=I.hok l _ hH;exact⟨z,its,n,r,r.length,e⟩
theorem b5w{n:Nat}(h:n<=sizeLine):Builtin.List.listTooLong n=false:=by
 unfold Builtin.List.listTooLong;exact Z4 qo
end
section
variable{X:Cx}
def rAppend:V->List V->Hp->VK->Prop:=λx vs H Q=>∃l xs y,x=.ref l/\vs=[y]/\H l=some (.lst xs)/\xs.length<sizeLine/\Q .non (upd H l (.lst (xs++[y])))
theorem c0m:MtM X "list.append" rAppend:=by
 intro pins s σ H x vs v us Q I rx rv h;obtain⟨l,xs,y,rfl,rfl,hH,hz,q⟩:=h;cases rx;obtain⟨u,rfl,ru⟩:=rv.one;obtain⟨z,its,n,r,hl,e⟩:=I.lstM hH;refine Vr Xp ⟨_,e,rfl⟩ F.entry_list_append (F.args_list_append_2 _ _) (PySem.list_append l its.toArray n u (by rw[Ze];omega)) ⟨e,?_⟩;refine⟨.non,_,I.lset (its':=its++[u]) hH e qz (r.append (.cons ru .nil)) ?_,rfl,q⟩;rw[Zc,Z9];omega
def rExtend:V->List V->Hp->VK->Prop:=λx vs H Q=>∃l b xs zs,x=.ref l/\vs=[.ref b]/\H l=some (.lst xs)/\H b=some (.lst zs)/\xs.length+zs.length<=sizeLine/\Q .non (upd H l (.lst (xs++zs)))
theorem c9m:MtM X "list.extend" rExtend:=by
 intro pins s σ H x vs v us Q I rx rv h;obtain⟨l,b,xs,zs,rfl,rfl,hH,hB,hz,q⟩:=h;cases rx;obtain⟨u,rfl,ru⟩:=rv.one;cases ru;obtain⟨z,its,n,r,hl,e⟩:=I.lstM hH;obtain⟨z2,its2,n2,r2,hl2,e2⟩:=I.lstM hB;have hsz:its.toArray.size+its2.toArray.size<=sizeLine:=by rw[Ze,Ze];omega
 have hlong:¬(!its.toArray.isEmpty&&Builtin.List.listTooLong (its.toArray.size+its2.toArray.size))=true:=by
  rw[b5w hsz,Vb];exact Zj
 refine Vr Vu ⟨_,e,rfl⟩ S8 (Sx _ _)
  (AutoSeq1.list_extend_list_list_0 l its.toArray n b its2.toArray n2 hlong (by rw[Ze];omega) qo) ⟨e,e2,?_⟩
 refine⟨.non,_,I.lset (its':=its++its2) hH e qz (r.append r2) ?_,rfl,q⟩;rw[Zc];omega
def rPop:V->List V->Hp->VK->Prop:=λx vs H Q=>∃l xs y,x=.ref l/\vs=[]/\H l=some (.lst xs)/\xs[xs.length-1]? =some y/\Q y (upd H l (.lst xs.dropLast))
theorem mt_pop:MtM X "list.pop" rPop:=by
 intro pins s σ H x vs v us Q I rx rv h;obtain⟨l,xs,y,rfl,rfl,hH,hy,q⟩:=h;cases rx;have hus:=rv.zero;subst hus;obtain⟨z,its,n,r,hl,e⟩:=I.lstM hH;obtain⟨u,hu,ru⟩:=r.get hy;have hy':its.toArray[its.toArray.size-1]? =some u:=by
  show its.toArray[its.length-1]? =some u
  rw[<-Xa,<-hl];exact hu
 refine Vr Td ⟨_,e,rfl⟩ F.entry_list_pop (F.args_list_pop_1 _) (MeetsSeq.list_pop_last l its.toArray n u hy' (by rw[Ze];omega)) ⟨e,?_⟩;refine⟨y,_,I.lset (its':=its.dropLast) hH e ?_ r.dropLast ?_,ru,q⟩
 ·show its.toArray.eraseIdxIfInBounds (its.toArray.size-1)=its.dropLast.toArray
  rw[Ze,List.eraseIdxIfInBounds_toArray,c7i]
 ·rw[List.length_dropLast];omega
def d3d:V->List V->Hp->VK->Prop:=λx vs H Q=>∃l xs,x=.ref l/\vs=[]/\H l=some (.lst xs)/\Q .non (upd H l (.lst xs.reverse))
theorem c7j:MtM X "list.reverse" d3d:=by
 intro pins s σ H x vs v us Q I rx rv h;obtain⟨l,xs,rfl,rfl,hH,q⟩:=h;cases rx;have hus:=rv.zero;subst hus;obtain⟨z,its,n,r,hl,e⟩:=I.lstM hH;refine Vr S5 ⟨_,e,rfl⟩ F.entry_list_reverse (F.args_list_reverse_1 _) (AutoSeq1.list_reverse_list_0 l its.toArray n (by rw[Ze];omega)) ⟨e,?_⟩;refine⟨.non,_,I.lset (its':=its.reverse) hH e qz r.reverse ?_,rfl,q⟩;rw[Y2];omega
def rCat:R2:=λx y H Q=>∃l b xs zs,x=.ref l/\y=.ref b/\H l=some (.lst xs)/\H b=some (.lst zs)/\xs.length+zs.length<=sizeLine/\∀p,H p=none->Q (.ref p) (upd H p (.lst (xs++zs)))
theorem op_cat:OpR X (binaryOp .Add) rCat:=by
 intro pins s σ H x y v u Q I rx ry h;obtain⟨l,b,xs,zs,rfl,rfl,hH,hB,hz,q⟩:=h;cases rx;cases ry;obtain⟨z,its,n,r,hl,e⟩:=I.lstM hH;obtain⟨z2,its2,n2,r2,hl2,e2⟩:=I.lstM hB;refine PySem.P.add_list e e2 ?_ (by rw[Ze,Ze];omega);have ea:its.toArray++its2.toArray=(its++its2).toArray:=by simp
 rw[ea];exact⟨.ref _,_,I.lnew (t':=s.toks) (r.append r2) (by rw[Zc];omega),rfl,q _ I.fresh⟩
def rRep:R2:=λx y H Q=>∃l k xs,x=.ref l/\y=.int k/\H l=some (.lst xs)/\-(2^63)<=k/\k<2^63/\xs.length*k.toNat<=sizeLine/\
 ∀p,H p=none->Q (.ref p) (upd H p (.lst (List.replicate k.toNat xs).flatten))
theorem len_rep{α:Type}(xs:List α)(k:Nat):(List.replicate k xs).flatten.length=k*xs.length:=by
 induction k with
 |zero=>simp
 |succ k ih=>rw[Ww,V1,Zc,ih,Nat.succ_mul,Nat.add_comm]
theorem op_rep:OpR X (binaryOp .Mult) rRep:=by
 intro pins s σ H x y v u Q I rx ry h;obtain⟨l,k,xs,rfl,rfl,hH,h1,h2,hz,q⟩:=h;cases rx;obtain⟨t,rfl⟩:=ry;obtain⟨z,its,n,r,hl,e⟩:=I.lstM hH;have hlen:its.toArray.size*k.toNat<=sizeLine:=by rw[Ze,<-hl];exact hz
 have hcap:¬its.toArray.size*k.toNat>(2^63-1)/8:=by
  have:(sizeLine:Nat)<=(2^63-1)/8:=by decide
  omega
 have hfit:¬(!Builtin.List.listFitsIndex k)=true:=by
  rw[fitsIndex_both h1 h2];exact Zj
 have hlong:¬Builtin.List.listTooLong (its.toArray.size*k.toNat)=true:=by
  rw[b5w hlen];exact Zj
 have hnew:List.foldl (λx1 x2=>x1++x2) #[] (List.replicate (if its.toArray.isEmpty=true then 0 else k.toNat) its.toArray)=(List.replicate k.toNat its).flatten.toArray:=by
  have f0:∀m:Nat,List.foldl (λx1 x2=>x1++x2) #[] (List.replicate m its.toArray)=(List.replicate m its).flatten.toArray:=λm=>by
   have:=foldl_rep its m [];rw[Yx]at this;exact this
  rw[f0];cases its with
  |nil=>simp
  |cons a r'=>rw[if_neg qz]
 refine wpAny_binaryOp_repeat_ref (T:="list") (U:="int") qd ⟨_,e,rfl⟩ (λs'=>Ra s' k t) noFill_list_mul F.fills_int_mul F.slot_int_rmul repeat_list F.slot_int_index.lookup
  (Vr F.slot_int_rmul (Ra s k t) F.entry_int_rmul (F.args_int_rmul_2 _ _) (int___rmul___int_list k t l its.toArray n)
   ⟨e,rfl,⟨_,e,rfl⟩,Vr F.slot_list_mul ⟨_,e,rfl⟩ F.entry_list_mul (F.args_list_mul_2 _ _) (AutoListH.list___mul___list_int_3 l its.toArray n k t hfit hcap hlong) ⟨e,?_⟩⟩)
 rw[hnew];exact⟨.ref _,_,I.lnew (t':=s.toks) (r.rep k.toNat) (by rw[len_rep,Nat.mul_comm];exact hz),rfl,q _ I.fresh⟩
end
section
variable{κ:Type}[DecidableEq κ]
def valV(kvs:List (κ×V))(k:κ):Option V:=(kvs.find? λkv=>decide (kv.1=k)).map (·.2)
def putK(kvs:List (κ×V))(k:κ)(v:V):List (κ×V):=
 if(kvs.any λkv=>decide (kv.1=k))=true then kvs.map (λkv=>if kv.1=k then(kv.1,v)else kv)else kvs++[(k,v)]
theorem a2d{p:κ×V}{r:List (κ×V)}{k:κ}(e:p.1=k):valV (p::r) k=some p.2:=by simp[valV,W0,e]
theorem a1o{p:κ×V}{r:List (κ×V)}{k:κ}(e:¬p.1=k):valV (p::r) k=valV r k:=by simp[valV,W0,e]
theorem a5q(k:κ):∀kvs:List (κ×V),(kvs.any λkv=>decide (kv.1=k))=(valV kvs k).isSome
 | []=>rfl
 |p::r=>by
  rw[Wy]
  by_cases e:p.1=k
  ·simp only[a2d e,Yg e,Bool.true_or,Uv]
  ·rw[a1o e,Z4 e,T0];exact a5q k r
theorem c2q(k j:κ)(y:V):∀kvs:List (κ×V),valV (kvs.map λkv=>if kv.1=k then(kv.1,y)else kv) j=(valV kvs j).map λx=>if j=k then y else x
 | []=>rfl
 |p::r=>by
  have ih:=c2q k j y r;rw[Zp]
  by_cases h:p.1=k
  ·rw[if_pos h]
   by_cases e:p.1=j
   ·rw[a2d (p:=(p.1,y)) e,a2d e,Wz,if_pos (e.symm.trans h)]
   ·rw[a1o (p:=(p.1,y)) e,a1o e,ih]
  ·rw[if_neg h]
   by_cases e:p.1=j
   ·rw[a2d (p:=p) e,a2d e,Wz,if_neg (λz=>h (e.trans z))]
   ·rw[a1o (p:=p) e,a1o e,ih]
theorem b3s(k j:κ)(y:V):∀kvs:List (κ×V),valV kvs k=none->valV (kvs++[(k,y)]) j=if j=k then some y else valV kvs j
 | [],_=>by
  by_cases e:k=j
  ·rw[if_pos e.symm];exact a2d (p:=(k,y)) e
  ·rw[if_neg (λz=>e z.symm)];exact a1o (p:=(k,y)) e
 |p::r,hn=>by
  rw[Yh];have hk:¬p.1=k:=λz=>by rw[a2d z]at hn;cases hn
  rw[a1o hk]at hn;have ih:=b3s k j y r hn
  by_cases e:p.1=j
  ·rw[a2d e,a2d e,if_neg (λz=>hk (e.trans z))]
  ·rw[a1o e,a1o e,ih]
theorem a7w(kvs:List (κ×V))(k j:κ)(y:V):valV (putK kvs k y) j=if j=k then some y else valV kvs j:=by
 unfold putK
 by_cases a:(kvs.any λkv=>decide (kv.1=k))=true
 ·rw[if_pos a,c2q];rw[a5q]at a
  by_cases e:j=k
  ·obtain⟨x,hx⟩:=Tu.mp a;rw[if_pos e,e,hx,Wz,if_pos rfl]
  ·rw[if_neg e];cases valV kvs j with
   |none=>rfl
   |some x=>rw[Wz,if_neg e]
 ·rw[if_neg a];refine b3s k j y kvs ?_;rw[a5q]at a;cases q:valV kvs k with
  |none=>rfl
  |some x=>rw[q]at a;exact(a rfl).elim
theorem a4b(kvs:List (κ×V))(k:κ)(v:V):(putK kvs k v).length<=kvs.length+1:=by
 unfold putK
 split
 ·rw[length_map];omega
 ·rw[Zc,length_cons,length_nil];omega
theorem b2x{kvs:List (κ×V)}{k:κ}(v:V)(h:valV kvs k=none):putK kvs k v=kvs++[(k,v)]:=by
 unfold putK;rw[a5q,h];exact if_neg qd
theorem RelO.isSome_eq{o:Option V}{u:Option Value}(r:RelO o u):o.isSome=u.isSome:=by
 cases o with
 |none=>cases u with
  |none=>rfl
  |some _=>exact(show False from r).elim
 |some _=>cases u with
  |none=>exact(show False from r).elim
  |some _=>rfl
theorem RelO.getD{o:Option V}{u:Option Value}{d:V}{d':Value}(r:RelO o u)(rd:RelV d d'):RelV (o.getD d) (u.getD d'):=by
 cases o with
 |none=>cases u with
  |none=>exact rd
  |some _=>exact(show False from r).elim
 |some _=>cases u with
  |none=>exact(show False from r).elim
  |some _=>exact r
theorem KV.val{kvs:List (κ×V)}{vs:List (κ×Value)}(r:KV kvs vs)(k:κ):RelO (valV kvs k) (valueAt vs k):=by
 unfold KV at r
 induction r with
 |nil=>exact True.intro
 | @cons p q ps qs h t ih=>
  obtain⟨h1,h2⟩:=h
  by_cases e:p.1=k
  ·have e':q.1=k:=h1.symm.trans e;have b:valueAt (q::qs) k=some q.2:=by simp[valueAt,W0,e']
   rw[a2d e,b];exact h2
  ·have e':¬q.1=k:=λz=>e (h1.trans z)
   have b:valueAt (q::qs) k=valueAt qs k:=by simp[valueAt,W0,e']
   rw[a1o e,b];exact ih
theorem KV.any{kvs:List (κ×V)}{vs:List (κ×Value)}(r:KV kvs vs)(k:κ):(kvs.any λkv=>decide (kv.1=k))=vs.any λkv=>decide (kv.1=k):=by
 unfold KV at r
 induction r with
 |nil=>rfl
 |cons h t ih=>rw[Wy,Wy,ih,h.1]
theorem KV.repl{kvs:List (κ×V)}{vs:List (κ×Value)}(r:KV kvs vs)(k:κ){y:V}{u:Value}(ry:RelV y u):
  KV (kvs.map λkv=>if kv.1=k then(kv.1,y)else kv) (vs.map λkv=>if kv.1=k then(kv.1,u)else kv):=by
 unfold KV at r ⊢
 induction r with
 |nil=>exact .nil
 | @cons p q ps qs h t ih=>
  rw[Zp,Zp];refine .cons ?_ ih;obtain⟨h1,h2⟩:=h
  by_cases e:p.1=k
  ·rw[if_pos e,if_pos (h1.symm.trans e)];exact⟨h1,ry⟩
  ·rw[if_neg e,if_neg (λz=>e (h1.trans z))];exact⟨h1,h2⟩
theorem KV.put{kvs:List (κ×V)}{vs:List (κ×Value)}(r:KV kvs vs)(k:κ){y:V}{u:Value}(ry:RelV y u):KV (putK kvs k y) (stored vs k u):=by
 unfold putK stored;rw[r.any k]
 by_cases e:(vs.any λkv=>decide (kv.1=k))=true
 ·rw[if_pos e,if_pos e];exact r.repl k ry
 ·rw[if_neg e,if_neg e];exact Vi r ⟨rfl,ry⟩
theorem KV.length{kvs:List (κ×V)}{vs:List (κ×Value)}(r:KV kvs vs):kvs.length=vs.length:=Yo r
end
theorem a9h{P:Program}{w:World}{k:Key}{u:Value}(r:RelV (kV k) u):(a1e P w).is k u=true:=by
 cases k with
 |inl i=>obtain⟨t,e⟩:=(show ∃t,u=Value.int i t from r);subst e;exact b1d P w i t
 |inr x=>obtain⟨t,e⟩:=(show ∃t,u=Value.str x t from r);subst e;exact b1e P w x t
theorem c0n{P:Program}{w:World}:∀{ks:List Key}{us:List Value},Vals (ks.map kV) us->ItemsAre (a1e P w) ks us
 | [],_,r=>by rw[V7]at r;cases r;exact .nil
 |k::ks,_,r=>by
  rw[Zp]at r;cases r with
  |cons h t=>exact .cons (a9h h) (c0n t)
abbrev KT(H:Hp):List (List Key×V)->List (List Key×Addr×Value)->Prop:=Paired λp q=>p.1=q.1/\H q.2.1=some (.tup (p.1.map kV))/\RelV p.2 q.2.2
theorem KT.val{H:Hp}{kvs:List (List Key×V)}{xs:List (List Key×Addr×Value)}(r:KT H kvs xs)(k:List Key):RelO (valV kvs k) ((atKey xs k).map (·.2)):=by
 induction r with
 |nil=>exact True.intro
 | @cons p q ps qs h t ih=>
  obtain⟨h1,_,h2⟩:=h
  by_cases e:p.1=k
  ·have e':q.1=k:=h1.symm.trans e;have b:atKey (q::qs) k=some q.2:=by simp[atKey,W0,e']
   rw[a2d e,b];exact h2
  ·have e':¬q.1=k:=λz=>e (h1.trans z)
   have b:atKey (q::qs) k=atKey qs k:=by simp[atKey,W0,e']
   rw[a1o e,b];exact ih
theorem KT.repl{H:Hp}{kvs:List (List Key×V)}{xs:List (List Key×Addr×Value)}(r:KT H kvs xs)(k:List Key){y:V}{u:Value}(ry:RelV y u):
  KT H (kvs.map λkv=>if kv.1=k then(kv.1,y)else kv) (xs.map (putAt k u)):=by
 induction r with
 |nil=>exact .nil
 | @cons p q ps qs h t ih=>
  rw[Zp,Zp];refine .cons ?_ ih;obtain⟨h1,h2,h3⟩:=h;unfold putAt
  by_cases e:p.1=k
  ·rw[if_pos e,if_pos (h1.symm.trans e)];exact⟨h1,h2,ry⟩
  ·rw[if_neg e,if_neg (λz=>e (h1.trans z))];exact⟨h1,h2,h3⟩
theorem KT.put{H:Hp}{kvs:List (List Key×V)}{xs:List (List Key×Addr×Value)}(r:KT H kvs xs)(k:List Key){b:Addr}{y:V}{u:Value}(hb:H b=some (.tup (k.map kV)))(ry:RelV y u):
  KT H (putK kvs k y) (storedH xs k b u):=by
 have e:(kvs.any λkv=>decide (kv.1=k))=(atKey xs k).isSome:=by
  rw[a5q,(r.val k).isSome_eq,U1]
 unfold putK storedH;rw[e]
 by_cases q:(atKey xs k).isSome=true
 ·rw[if_pos q,if_pos q];exact r.repl k ry
 ·rw[if_neg q,if_neg q];exact Vi r ⟨rfl,hb,ry⟩
theorem KT.keeps{H H':Hp}{kvs:List (List Key×V)}{xs:List (List Key×Addr×Value)}(r:KT H kvs xs)(ht:∀b ys,H b=some (.tup ys)->H' b=some (.tup ys)):KT H' kvs xs:=
 Paired.mapP r λ_ _ z=>⟨z.1,ht _ _ z.2.1,z.2.2⟩
section
variable{P:Program}{w:World}{H:Hp}{h:Heap}{a:Addr}
theorem rd_of{u:HO}(ok:HOk P w H h)(e:Rd H a u):a1s P w H h a u:=e.ok ok
theorem a8j{kvs:List (Key×V)}(ok:HOk P w H h)(e:Rd H a (.dK kvs)):kvs.length<=sizeLine/\(a==sysModules)=false/\∃vs,KV kvs vs/\h.DictOf (a1e P w) a vs:=
 show a1s P w H h a (.dK kvs)from rd_of ok e
theorem b7o{kvs:List (Key×V)}(ok:HOk P w H h)(e:H a=some (.dK kvs)):kvs.length<=sizeLine/\(a==sysModules)=false/\∃vs,KV kvs vs/\h.DictOf (a1e P w) a vs:=a8j ok (.inl e)
theorem a8p{ks:List Key}(ok:HOk P w H h)(e:H a=some (.tup (ks.map kV))):(tupleKind (a1e P w)).is h ks a:=by
 obtain⟨_,its,r,o,h1,h2,n,h3⟩:=(show a1s P w H h a (.tup (ks.map kV))from ok a _ e);exact⟨o,its.toArray,n,h1,h2,h3,by simpa using c0n r⟩
theorem a9i{kvs:List (List Key×V)}(ok:HOk P w H h)(e:Rd H a (.dT kvs)):kvs.length<=sizeLine/\(a==sysModules)=false/\
  ∃xs,KT H kvs xs/\h.DictOfH (tupleKind (a1e P w)) a xs:=by
 obtain⟨z,y,xs,r,o,es,ep,h1,h2,h3,h4,h5⟩:=(show a1s P w H h a (.dT kvs)from rd_of ok e);refine⟨z,y,xs,r,o,es,ep,h1,h2,h3,h4,λx hx=>?_,h5⟩;have all:∀{l:List (List Key×V)}{m:List (List Key×Addr×Value)},KT H l m->∀x∈m,(tupleKind (a1e P w)).is h x.1 x.2.1:=by
  intro l m q
  induction q with
  |nil=>intro x hx;exact nomatch hx
  | @cons p q ps qs hq t ih=>
   intro x hx;rcases Zo.mp hx with e|hx
   ·subst e;exact a8p ok (by rw[<-hq.1];exact hq.2.1)
   ·exact ih x hx
 exact all r x hx
theorem b4u{kvs:List (List Key×V)}(ok:HOk P w H h)(e:H a=some (.dT kvs)):kvs.length<=sizeLine/\(a==sysModules)=false/\
  ∃xs,KT H kvs xs/\h.DictOfH (tupleKind (a1e P w)) a xs:=a9i ok (.inl e)
end
def DGet(H:Hp)(a:Addr)(y:V)(r:Option V):Prop:=
 (∃kvs k,Rd H a (.dK kvs)/\y=kV k/\r=valV kvs k)\/∃kvs k b,Rd H a (.dT kvs)/\y=.ref b/\H b=some (.tup (k.map kV))/\r=valV kvs k
def DPut(H:Hp)(a:Addr)(y v:V)(H':Hp):Prop:=
 (∃kvs k,H a=some (.dK kvs)/\y=kV k/\kvs.length<sizeLine/\H'=upd H a (.dK (putK kvs k v)))\/
 ∃kvs k b,H a=some (.dT kvs)/\y=.ref b/\H b=some (.tup (k.map kV))/\kvs.length<sizeLine/\H'=upd H a (.dT (putK kvs k v))
theorem DGet.k{H:Hp}{a:Addr}{kvs:List (Key×V)}{k:Key}(e:H a=some (.dK kvs)):DGet H a (kV k) (valV kvs k):=.inl ⟨kvs,k,.inl e,rfl,rfl⟩
theorem DGet.t{H:Hp}{a b:Addr}{kvs:List (List Key×V)}{k:List Key}(e:H a=some (.dT kvs))(eb:H b=some (.tup (k.map kV))):DGet H a (.ref b) (valV kvs k):=.inr ⟨kvs,k,b,.inl e,rfl,eb,rfl⟩
theorem DPut.k{H:Hp}{a:Addr}{kvs:List (Key×V)}{k:Key}{v:V}(e:H a=some (.dK kvs))(hl:kvs.length<sizeLine):DPut H a (kV k) v (upd H a (.dK (putK kvs k v))):=.inl ⟨kvs,k,e,rfl,hl,rfl⟩
theorem DPut.t{H:Hp}{a b:Addr}{kvs:List (List Key×V)}{k:List Key}{v:V}(e:H a=some (.dT kvs))(eb:H b=some (.tup (k.map kV)))(hl:kvs.length<sizeLine):
  DPut H a (.ref b) v (upd H a (.dT (putK kvs k v))):=.inr ⟨kvs,k,b,e,rfl,eb,hl,rfl⟩
section
variable{X:Cx}{pins:List (Addr×Obj)}{σ:St}{H:Hp}{s:Shared}{a:Addr}{y v:V}{u r:Value}{o:Option V}{A:Around}{E:Value->Shared->Prop}
theorem Inv.big(I:Inv X pins σ H s):sysModules<s.heap.objs.size:=by
 have h:mainGlobals<s.heap.objs.size:=(I.mod.glob.keeps I.bk).lt;exact Nat.lt_trans qd h
theorem c9n{Q:Value->Shared->Prop}(hu:A.units+1<cLine)(I:Inv X pins σ H s)(g:DGet H a y (some v))(ry:RelV y u)(h:∀w' s',Inv X pins σ H s'->RelV v w'->Q w' s'):
  wpAny (model X.prog X.w) A (getItem (.ref a) u) Q E s:=by
 rcases g with⟨kvs,k,e,ey,l⟩|⟨kvs,k,b,e,ey,eb,l⟩
 ·subst ey;obtain⟨z,hd,vs,rel,dd⟩:=a8j I.hok e;obtain⟨w',hw,rw'⟩:=RelO.some_of (v:=v) (o:=valueAt vs k) (by rw[l];exact rel.val k);exact wpAny_getItem_of (a9h ry) dd.mapOf hw (h w' _ (I.tok _) rw')
 ·subst ey
  cases(show u=Value.ref b from ry)
  obtain⟨z,hd,xs,rel,dd⟩:=a9i I.hok e;obtain⟨w',hw,rw'⟩:=RelO.some_of (v:=v) (o:=(atKey xs k).map (·.2)) (by rw[l];exact rel.val k);obtain⟨p,hp,hp2⟩:=Ym.mp hw;refine wpAny_getItem_heap (Xl hu) (a8p I.hok eb) dd hp ?_;rw[hp2];exact h w' _ (I.tok _) rw'
theorem d_in{Q:Value->Shared->Prop}(hu:A.units+1<cLine)(I:Inv X pins σ H s)(g:DGet H a y o)(ry:RelV y u)(h:∀s',Inv X pins σ H s'->Q (.bool o.isSome) s'):
  wpAny (model X.prog X.w) A (compareOp .In u (.ref a)) Q E s:=by
 rcases g with⟨kvs,k,e,ey,l⟩|⟨kvs,k,b,e,ey,eb,l⟩
 ·subst ey;obtain⟨z,hd,vs,rel,dd⟩:=a8j I.hok e;refine wpAny_in_of (a9h ry) hd dd.mapOf ?_;rw[<-(rel.val k).isSome_eq,<-l];exact h _ (I.tok _)
 ·subst ey
  cases(show u=Value.ref b from ry)
  obtain⟨z,hd,xs,rel,dd⟩:=a9i I.hok e;refine wpAny_in_heap (Xl hu) (a8p I.hok eb) hd dd ?_;have q:=(rel.val k).isSome_eq;rw[U1]at q;rw[<-q,<-l];exact h _ (I.tok _)
theorem d_notIn{Q:Value->Shared->Prop}(hu:A.units+1<cLine)(I:Inv X pins σ H s)(g:DGet H a y o)(ry:RelV y u)(h:∀s',Inv X pins σ H s'->Q (.bool (!o.isSome)) s'):
  wpAny (model X.prog X.w) A (compareOp .NotIn u (.ref a)) Q E s:=by
 rcases g with⟨kvs,k,e,ey,l⟩|⟨kvs,k,b,e,ey,eb,l⟩
 ·subst ey;obtain⟨z,hd,vs,rel,dd⟩:=a8j I.hok e;refine wpAny_notIn_of (a9h ry) hd dd.mapOf ?_;rw[<-(rel.val k).isSome_eq,<-l];exact h _ (I.tok _)
 ·subst ey
  cases(show u=Value.ref b from ry)
  obtain⟨z,hd,xs,rel,dd⟩:=a9i I.hok e;refine wpAny_notIn_heap (Xl hu) (a8p I.hok eb) hd dd ?_;have q:=(rel.val k).isSome_eq;rw[U1]at q;rw[<-q,<-l];exact h _ (I.tok _)
theorem b1r{h':Heap}{t':Nat}{ob:HO}(I:Inv X pins σ H s)(mu:Mut (H a))(hs:Heap.SameBut a s.heap h')(he:∃q,h'.get? a=some q)(new:a1s X.prog X.w (upd H a ob) h' a ob):
  Inv X pins σ (upd H a ob) { s with heap:=h',toks:=t'}:=
 I.write (x:=a) (e:=a) mu (.inl rfl) (λb q hb z=>(hs.2 b hb).trans z) he new
theorem c2r{P:Program}{w:World}{H':Hp}{h':Heap}{kvs:List (Key×V)}{vs:List (Key×Value)}(z:kvs.length<=sizeLine)(hd:(a==sysModules)=false)(rel:KV kvs vs)(dd:h'.DictOf (a1e P w) a vs):
  a1s P w H' h' a (.dK kvs):=⟨z,hd,vs,rel,dd⟩
theorem c9o{H':Hp}{Q:Unit->Shared->Prop}(hu:A.units+1<cLine)(I:Inv X pins σ H s)(g:DPut H a y v H')(ry:RelV y u)(rv:RelV v r)(h:∀s',Inv X pins σ H' s'->Q () s'):
  wpAny (model X.prog X.w) A (setItem (.ref a) u r) Q E s:=by
 rcases g with⟨kvs,k,e,ey,l,eH⟩|⟨kvs,k,b,e,ey,eb,l,eH⟩
 ·subst ey eH;obtain⟨z,hd,vs,rel,dd⟩:=b7o I.hok e;have hz:vs.length<=sizeLine:=by rw[<-rel.length];exact z
  have hl:(putK kvs k v).length<=sizeLine:=by have:=a4b kvs k v;omega
  refine wpAny_setItem_pairs (hsz:=hz) (a9h ry) dd λh' dd' hs=>h _ ?_
  have he:∃q,h'.get? a=some q:=let⟨q,_,_,hq,_⟩:=dd';⟨q,hq⟩
  exact b1r I (by rw[e];exact True.intro) hs he (c2r hl hd (rel.put k rv) dd')
 ·subst ey eH
  cases(show u=Value.ref b from ry)
  obtain⟨z,hd,xs,rel,dd⟩:=b4u I.hok e;have hz:xs.length<=sizeLine:=by rw[<-Yo rel];exact z
  have hl:(putK kvs k v).length<=sizeLine:=by have:=a4b kvs k v;omega
  refine wpAny_setItem_heap (hsz:=hz) (Xl hu) (a8p I.hok eb) dd λh' dd' hs=>h _ ?_
  obtain⟨q,es,ep,hq,h2,h3,h4,_,h5⟩:=dd';refine b1r I (by rw[e];exact True.intro) hs ⟨q,hq⟩ ⟨hl,hd,_,(rel.put k eb rv).keeps λc ys ec=>?_,q,es,ep,hq,h2,h3,h4,h5⟩;rw[a0l (a1w ec e (λz=>nomatch z))];exact ec
end
section
variable{X:Cx}{pins:List (Addr×Obj)}{σ:St}{H:Hp}{s:Shared}{a:Addr}{kvs:List (Key×V)}{k:Key}{u:Value}{A:Around}{E:Value->Shared->Prop}
theorem d_len{Q:Value->Shared->Prop}(I:Inv X pins σ H s)(e:Rd H a (.dK kvs))(h:∀t s',Inv X pins σ H s'->Q (.int kvs.length t) s'):wpAny (model X.prog X.w) A (call (.builtin "len") [.ref a]) Q E s:=by
 obtain⟨z,hd,vs,rel,dd⟩:=a8j I.hok e;refine call_len_dict hd dd (by rw[<-rel.length];rw[Yb]at z;omega) ?_;rw[<-rel.length];exact h _ _ (I.tok _)
end
def NoSl(i:Expr):Prop:=∀ov iv,subscripted i false ov iv=operate [ov,iv] (getItem ov iv)
theorem c5r{prog:Program}{w:World}{A:Around}{E:Value->Shared->Prop}{s:Shared}{env:Env}{value slice:Expr}{pos:Pos}{T id:String}{Q:Value->Shared->Prop}
  (hl:typeLookup (.type T) "__getitem__"=pure (some (.builtin id)))(hs:NoSl slice)
  (h:wpAny (model prog w) A (eval value env) (λo s₁=>wpAny (model prog w) A (eval slice env) (λi s₂=>s₂.TypeIs o T/\wpAny (model prog w) A (getItem o i) Q E s₂) E s₁) E s):
  wpAny (model prog w) A (eval (.Subscript value slice pos) env) Q E s:=by
 refine Rf (W2 h (λo s₁ h₁=>W2 h₁ (λi s₂ h₂=>?_) λ_ _ x=>x) λ_ _ x=>x);obtain⟨hT,h₂⟩:=h₂;unfold subscriptTail;refine Zb ?_;rw[getitemInPython_of_ne hT.not_modules];refine Zb (X2 hT hl ?_);have fin:wpAny (model prog w) A (subscripted slice false o i) (λr s₃=>wpAny (model prog w) A (letTemporaryGo value o r>>=λ_=>pure r) Q E s₃) E s₂:=by
  rw[hs o i];exact wpAny_operating (W2 h₂ (λr s₃ h₃=>Zb (wpAny_letTemporaryGo (Zf h₃))) λ_ _ x=>x)
 first
  |exact Zf (Zb fin)
  |exact Zb (Zf (Zb fin))
  |exact Zb fin
theorem c4z{X:Cx}{pins:List (Addr×Obj)}{σ:St}{H:Hp}{s:Shared}{a:Addr}{y:V}{o:Option V}(I:Inv X pins σ H s)(g:DGet H a y o):s.TypeIs (.ref a) "dict":=by
 rcases g with⟨kvs,k,e,_,_⟩|⟨kvs,k,b,e,_,_,_⟩
 ·obtain⟨_,_,vs,_,dd⟩:=a8j I.hok e;exact dd.typeIs
 ·obtain⟨_,_,xs,_,dd⟩:=a9i I.hok e;exact dd.typeIs
def tDGet(td ty:TE):TE:=λσ H Q=>td σ H λx H1=>ty σ H1 λy H2=>∃a v,x=.ref a/\DGet H2 a y (some v)/\Q v H2
def sDPut(td ty tv:TE):TS:=λD σ H=>tv σ H λv H1=>td σ H1 λx H2=>ty σ H2 λy H3=>∃a H4,x=.ref a/\DPut H3 a y v H4/\D.nx σ H4
section
variable{X:Cx}{o i e value:Expr}{pos pos' tpos:Pos}{td ty tv:TE}
theorem a2p(hu:X.A.units+1<cLine)(ho:PE X o td)(hi:PE X i ty)(hs:NoSl i):PE X (.Subscript o i pos) (tDGet td ty):=by
 intro pins s σ H Q I h;refine c5r S6.lookup hs (thn (ho pins s σ H _ I h) λu s1 ⟨x,H1,I1,rx,q1⟩=>thn (hi pins s1 σ H1 _ I1 q1) λiv s2 z9=>?_);obtain⟨y,H2,I2,ry,a,v,ex,g,q2⟩:=z9;subst ex;obtain rfl:u=Value.ref a:=rx;exact⟨c4z I2 g,c9n hu I2 g ry λw' s3 I3 rw'=>⟨v,H2,I3,rw',q2⟩⟩
theorem a3e(hu:X.A.units+1<cLine)(ho:PE X o td)(hi:PE X i ty)(hv:PE X value tv)(hs:swapsWith value (some (.Subscript o i pos')) pos.line X.env=pure false):
  PS X (.Assign [.Subscript o i pos'] value pos) (sDPut td ty tv):=by
 intro pins s σ H D I h;refine wpAny_Assign_Subscript (thn (hv pins s σ H _ I h) λr s1 ⟨v,H1,I1,rv,q1⟩=>thn (ho pins s1 σ H1 _ I1 q1) λu s2 ⟨x,H2,I2,rx,q2⟩=>thn (hi pins s2 σ H2 _ I2 q2) λiv s3 ⟨y,H3,I3,ry,a,H4,ex,g,q3⟩=>?_) hs;subst ex;obtain rfl:u=Value.ref a:=rx;exact c9o hu I3 g ry rv λs4 I4=>⟨σ,H4,I4,q3⟩
end
theorem c2s{P:Program}{w:World}{H:Hp}(h:Heap)(hb:sysModules<h.objs.size):a1s P w H (h.push { cls:=.type "dict",data:=.dict #[]}) h.objs.size (.dK []):=
 ⟨Yk _,Xw.mpr (Ne.symm (Z6 hb)),[],.nil,Heap.DictOf.new h⟩
theorem d3e{P:Program}{w:World}{H:Hp}(h:Heap)(hb:sysModules<h.objs.size):a1s P w H (h.push { cls:=.type "dict",data:=.dict #[]}) h.objs.size (.dT []):=
 ⟨Yk _,Xw.mpr (Ne.symm (Z6 hb)),[],.nil,_,#[],0,Zl _ rfl,⟨rfl,rfl,rfl⟩,rfl,rfl,Ul⟩
def tDNewK:TE:=λ_ H Q=>∀p,H p=none->Q (.ref p) (upd H p (.dK []))
def tDNewT:TE:=λ_ H Q=>∀p,H p=none->Q (.ref p) (upd H p (.dT []))
section
variable{X:Cx}{pos:Pos}
theorem a7x:PE X (.Dict [] [] pos) tDNewK:=λpins s σ H Q I h=>
 wpAny_Dict_empty ⟨.ref s.heap.objs.size,_,I.laid (a:=s.heap.objs.size) (o:=.dK []) (t':=s.toks) (λ_ _ q=>Zd _ q) (Zg _) (c2s s.heap I.big),rfl,h _ (I.hok.fresh (Zg _))⟩
theorem a7y:PE X (.Dict [] [] pos) tDNewT:=λpins s σ H Q I h=>
 wpAny_Dict_empty ⟨.ref s.heap.objs.size,_,I.laid (a:=s.heap.objs.size) (o:=.dT []) (t':=s.toks) (λ_ _ q=>Zd _ q) (Zg _) (d3e s.heap I.big),rfl,h _ (I.hok.fresh (Zg _))⟩
end
def b0c:List (TE×TE)->St->Hp->(List (V×V)->Hp->Prop)->Prop
 | [],_,H,Q=>Q [] H
 | (tk,tv)::r,σ,H,Q=>tk σ H λx H1=>tv σ H1 λy H2=>b0c r σ H2 λps H3=>Q ((x,y)::ps) H3
abbrev VV:List (V×V)->List (Value×Value)->Prop:=Paired λp q=>RelV p.1 q.1/\RelV p.2 q.2
def PPs(X:Cx)(pos:Pos)(keys:List (Option Expr))(values:List Expr)(trs:List (TE×TE)):Prop:=
 ∀(pins:List (Addr×Obj))(s:Shared)(σ:St)(H:Hp)(Q:List (V×V)->Hp->Prop),Inv X pins σ H s->b0c trs σ H Q->
  wpAny (model X.prog X.w) X.A (evalPairs (pairTrees keys values X.env pos)) (λvs s'=>∃ps H',Inv X pins σ H' s'/\VV ps vs/\Q ps H') X.xe s
theorem pps_nil{X:Cx}{pos:Pos}:PPs X pos [] [] []:=λpins s σ H Q I h=>pairTrees_nil_walk ⟨[],H,I,.nil,h⟩
theorem d3f{X:Cx}{pos:Pos}{k v:Expr}{ks:List (Option Expr)}{vs:List Expr}{tk tv:TE}{trs:List (TE×TE)}(hk:PE X k tk)(hv:PE X v tv)(hr:PPs X pos ks vs trs):
  PPs X pos (some k::ks) (v::vs) ((tk,tv)::trs):=λpins s σ H Q I h=>
 pairTrees_cons_walk (thn (hk pins s σ H _ I h) λu s1 ⟨x,H1,I1,rx,q1⟩=>thn (hv pins s1 σ H1 _ I1 q1) λw2 s2 ⟨y,H2,I2,ry,q2⟩=>
  thn (hr pins s2 σ H2 _ I2 q2) λws s3 ⟨ps,H3,I3,rel,q3⟩=>⟨(x,y)::ps,H3,I3,.cons ⟨rx,ry⟩ rel,q3⟩)
def a0z(kvs more:List (Key×V)):List (Key×V):=more.foldl (λacc kv=>putK acc kv.1 kv.2) kvs
theorem KV.merge:∀{more:List (Key×V)}{rs:List (Key×Value)}{kvs:List (Key×V)}{vs:List (Key×Value)},KV more rs->KV kvs vs->KV (a0z kvs more) (merged vs rs):=by
 intro more rs kvs vs r;unfold KV at r
 induction r generalizing kvs vs with
 |nil=>intro q;exact q
 | @cons p q ps qs h t ih=>
  intro r0;have e:KV (putK kvs p.1 p.2) (stored vs q.1 q.2):=by
   have:=r0.put p.1 h.2;rw[<-h.1];exact this
  exact ih e
theorem a8w:∀(more kvs:List (Key×V)),(a0z kvs more).length<=kvs.length+more.length
 | [],kvs=>by show kvs.length<=kvs.length+0;omega
 |p::r,kvs=>by
  have h1:=a8w r (putK kvs p.1 p.2);have h2:=a4b kvs p.1 p.2
  show(a0z (putK kvs p.1 p.2) r).length<=_
  rw[length_cons];omega
theorem b7p{P:Program}{w:World}:∀{kvs:List (Key×V)}{ws:List (Value×Value)},VV (kvs.map λkv=>(kV kv.1,kv.2)) ws->∃rs,Carries (a1e P w) ws rs/\KV kvs rs
 | [],_,r=>by rw[V7]at r;cases r;exact⟨[],True.intro,.nil⟩
 |p::kvs,_,r=>by
  rw[Zp]at r;cases r with
  | @cons a b as bs h t=>
   obtain⟨rs,c,q⟩:=b7p (P:=P) (w:=w) t;obtain⟨b1,b2⟩:=b;exact⟨(p.1,b2)::rs,⟨a9h h.1,rfl,c⟩,.cons ⟨rfl,h.2⟩ q⟩
def tDisp(trs:List (TE×TE)):TE:=λσ H Q=>∀p,H p=none->b0c trs σ (upd H p (.dK [])) λps H2=>H2 p=some (.dK [])/\∃kvs:List (Key×V),ps=kvs.map (λkv=>(kV kv.1,kv.2))/\kvs.length<=15/\Q (.ref p) (upd H2 p (.dK (a0z [] kvs)))
theorem pe_disp{X:Cx}{pos:Pos}{keys:List (Option Expr)}{values:List Expr}{trs:List (TE×TE)}(h:PPs X pos keys values trs)(hall:keys.all (·.isSome)=true)(hl:keys.length=values.length)(h0:keys≠[])
  (h15:keys.length<=15):PE X (.Dict keys values pos) (tDisp trs):=by
 intro pins s σ H Q I q;have hn:=I.hok.fresh (Zg s.heap.objs.size);have I1:=I.laid (a:=s.heap.objs.size) (o:=.dK []) (h':=s.heap.push { cls:=.type "dict",data:=.dict #[]}) (t':=s.toks) (λ_ _ q=>Zd _ q) (Zg _) (c2s s.heap I.big);refine wpAny_Dict_walk (knd:=a1e X.prog X.w) hall hl h0 h15 (thn (h pins _ σ _ _ I1 (q _ hn)) λws s2 z9=>?_);obtain⟨ps,H2,I2,rel,e,kvs,ep,lk,q2⟩:=z9;subst ep;obtain⟨rs,c,rk⟩:=b7p (P:=X.prog) (w:=X.w) rel;obtain⟨z,hd,vs0,r0,dd⟩:=b7o I2.hok e;cases r0;refine⟨rs,c,dd,λh' dd' hs=>⟨.ref s.heap.objs.size,_,?_,rfl,q2⟩⟩;have hz:(a0z [] kvs).length<=sizeLine:=by
  have h1:=a8w kvs [];rw[length_nil]at h1;rw[Yb];omega
 have he:∃q,h'.get? s.heap.objs.size=some q:=let⟨q,_,_,hq,_⟩:=dd';⟨q,hq⟩
 exact b1r I2 (by rw[e];exact True.intro) hs he (c2r hz hd (rk.merge .nil) dd')
structure M1(X:Cx)(o:Expr)(m:Str)(apos:Pos)(e:Expr)(cpos:Pos):Prop where
 base:attributeBase o m X.env (eval o X.env)=eval o X.env
 few:((backTo cpos (starEach [e] X.env)).all (λx=>!x.1)&&(backToKw cpos (keywordEach [] X.env)).all (λx=>x.1.isSome)
  &&decide (([e]:List Expr).length+([]:List Keyword).length+(if([]:List Keyword).isEmpty then 0 else 1)<30))=true
 line:(apos.endLine==cpos.line)=true
 trees:backTo cpos (starEach [e] X.env)=[(false,eval e X.env)]
structure M2(X:Cx)(o:Expr)(m:Str)(apos:Pos)(e f:Expr)(cpos:Pos):Prop where
 base:attributeBase o m X.env (eval o X.env)=eval o X.env
 few:((backTo cpos (starEach [e,f] X.env)).all (λx=>!x.1)&&(backToKw cpos (keywordEach [] X.env)).all (λx=>x.1.isSome)
  &&decide (([e,f]:List Expr).length+([]:List Keyword).length+(if([]:List Keyword).isEmpty then 0 else 1)<30))=true
 line:(apos.endLine==cpos.line)=true
 trees:backTo cpos (starEach [e,f] X.env)=[(false,eval e X.env),(false,eval f X.env)]
def IsD(H:Hp)(a:Addr):Prop:=(∃kvs,Rd H a (.dK kvs))\/∃kvs,Rd H a (.dT kvs)
theorem c9p{X:Cx}{pins:List (Addr×Obj)}{σ:St}{H:Hp}{s:Shared}{a:Addr}(I:Inv X pins σ H s)(d:IsD H a):
  s.TypeIs (.ref a) "dict"/\(∀b,Value.ref a=.ref b->∃ob,s.heap.get? b=some ob/\ob.dict=none)/\(a==sysModules)=false:=by
 rcases d with⟨kvs,e⟩|⟨kvs,e⟩
 ·obtain⟨_,hd,vs,_,dd⟩:=a8j I.hok e;refine⟨dd.typeIs,λb q=>?_,hd⟩;cases q;obtain⟨ob,_,_,h1,h2,_⟩:=dd;exact⟨ob,h1,h2.2.1⟩
 ·obtain⟨_,hd,xs,_,dd⟩:=a9i I.hok e;refine⟨dd.typeIs,λb q=>?_,hd⟩;cases q;obtain⟨ob,_,_,h1,h2,_⟩:=dd;exact⟨ob,h1,h2.2.1⟩
section
variable{X:Cx}{pins:List (Addr×Obj)}{σ:St}{H:Hp}{s:Shared}{a:Addr}{y d:V}{u r:Value}{o:Option V}{A:Around}{E:Value->Shared->Prop}
theorem d_get1{Q:Value->Shared->Prop}(hu:A.units+1<cLine)(I:Inv X pins σ H s)(g:DGet H a y o)(ry:RelV y u)(h:∀w' s',Inv X pins σ H s'->RelV (o.getD .non) w'->Q w' s'):
  wpAny (model X.prog X.w) A (call (.builtin "dict.get") [.ref a,u]) Q E s:=by
 rcases g with⟨kvs,k,e,ey,l⟩|⟨kvs,k,b,e,ey,eb,l⟩
 ·subst ey;obtain⟨z,hd,vs,rel,dd⟩:=a8j I.hok e;refine W6 W1 dd.typeIs V3 (F.args_dict_get_2 _ _) (meets_dict_get (a1e X.prog X.w) a (a9h ry) hd) ⟨_,dd.mapOf,h _ _ (I.tok _) ?_⟩;rw[l];exact(rel.val k).getD rfl
 ·subst ey
  cases(show u=Value.ref b from ry)
  obtain⟨z,hd,xs,rel,dd⟩:=a9i I.hok e;refine W6 W1 dd.typeIs V3 (F.args_dict_get_2 _ _) (meetsH_dict_get (tupleKind (a1e X.prog X.w)) a b hd) ⟨Xl hu,k,xs,a8p I.hok eb,dd,h _ _ (I.tok _) ?_⟩;rw[l];exact(rel.val k).getD rfl
theorem d_get2{Q:Value->Shared->Prop}(hu:A.units+1<cLine)(I:Inv X pins σ H s)(g:DGet H a y o)(ry:RelV y u)(rd:RelV d r)(h:∀w' s',Inv X pins σ H s'->RelV (o.getD d) w'->Q w' s'):
  wpAny (model X.prog X.w) A (call (.builtin "dict.get") [.ref a,u,r]) Q E s:=by
 rcases g with⟨kvs,k,e,ey,l⟩|⟨kvs,k,b,e,ey,eb,l⟩
 ·subst ey;obtain⟨z,hd,vs,rel,dd⟩:=a8j I.hok e;refine W6 W1 dd.typeIs V3 (F.args_dict_get_3 _ _ _) (meets_dict_get_default (a1e X.prog X.w) a (a9h ry) hd r) ⟨_,dd.mapOf,h _ _ (I.tok _) ?_⟩;rw[l];exact(rel.val k).getD rd
 ·subst ey
  cases(show u=Value.ref b from ry)
  obtain⟨z,hd,xs,rel,dd⟩:=a9i I.hok e;refine W6 W1 dd.typeIs V3 (F.args_dict_get_3 _ _ _) (meetsH_dict_get_default (tupleKind (a1e X.prog X.w)) a b hd r) ⟨Xl hu,k,xs,a8p I.hok eb,dd,h _ _ (I.tok _) ?_⟩;rw[l];exact(rel.val k).getD rd
end
def c9q(td ty:TE):TE:=λσ H Q=>td σ H λx H1=>∃a,x=.ref a/\IsD H1 a/\ty σ H1 λy H2=>∃o,DGet H2 a y o/\Q (o.getD .non) H2
def c9r(td ty tx:TE):TE:=λσ H Q=>td σ H λx H1=>∃a,x=.ref a/\IsD H1 a/\ty σ H1 λy H2=>tx σ H2 λz H3=>∃o,DGet H3 a y o/\Q (o.getD z) H3
section
variable{X:Cx}{o e f:Expr}{apos cpos:Pos}{td ty tx:TE}
theorem d3g(hu:X.A.units+1<cLine)(ho:PE X o td)(he:PE X e ty)(m:M1 X o "get" apos e cpos):PE X (.Call (.Attribute o "get" apos) [e] [] cpos) (c9q td ty):=by
 intro pins s σ H Q I h;refine wpAny_Call_method m.base m.few m.line Wl W1 F.type_dict_get (thn (ho pins s σ H _ I h) λu s1 z9=>?_);obtain⟨x,H1,I1,rx,a,ex,d,q1⟩:=z9;subst ex;obtain rfl:u=Value.ref a:=rx;obtain⟨t1,t2,_⟩:=c9p I1 d;refine⟨t1,t2,?_⟩;rw[m.trees];refine Va rfl (Up (W3 (thn (he pins s1 σ H1 _ I1 q1) λiv s2 ⟨y,H2,I2,ry,ov,g,q2⟩=>W9 ?_)));exact d_get1 hu I2 g ry λw' s3 I3 rw'=>⟨_,H2,I3,rw',q2⟩
theorem c2t(hu:X.A.units+1<cLine)(ho:PE X o td)(he:PE X e ty)(hf:PE X f tx)(m:M2 X o "get" apos e f cpos):PE X (.Call (.Attribute o "get" apos) [e,f] [] cpos) (c9r td ty tx):=by
 intro pins s σ H Q I h;refine wpAny_Call_method m.base m.few m.line Wl W1 F.type_dict_get (thn (ho pins s σ H _ I h) λu s1 z9=>?_);obtain⟨x,H1,I1,rx,a,ex,d,q1⟩:=z9;subst ex;obtain rfl:u=Value.ref a:=rx;obtain⟨t1,t2,_⟩:=c9p I1 d;refine⟨t1,t2,?_⟩;rw[m.trees]
 refine Va rfl (Up (W3 (thn (he pins s1 σ H1 _ I1 q1) λiv s2 ⟨y,H2,I2,ry,q2⟩=>
  W3 (thn (hf pins s2 σ H2 _ I2 q2) λfv s3 ⟨z,H3,I3,rz,ov,g,q3⟩=>W9 ?_))))
 exact d_get2 hu I3 g ry rz λw' s4 I4 rw'=>⟨_,H3,I4,rw',q3⟩
end
end L2
namespace Att
open PySem PySem.W PySem.Calls PyProof.Rows
theorem b7q{P:Params}{h:Heap}:∀(ns:List Int)(vs:List Value),WellAll P h vs (ns.map WData.int)->IntsAre vs ns:=by
 intro ns
 induction ns with
 |nil=>
  intro vs w;rw[V7]at w;cases w;exact .nil
 |cons n ns ih=>
  intro vs w;rw[Zp]at w;cases w with
  |cons a b=>
   cases a;exact .cons _ _ (ih _ b)
theorem c9s{l:OpenLaw}{n:Nat}(hn:l.most=some n){P:Params}{h:Heap}{args:List WData}{vals:List Value}
  (hpre:l.row.toRowW.claim.pre args=true)(hwl:WellAll P h vals args):
  ∃a vs ns,vals=[Value.ref a]/\args=[WData.list (ns.map WData.int)]/\h.get? a=some { cls:=.type "list",data:=.seq vs.toArray}/\IntsAre vs ns/\ns.length<=n:=by
 have hsh:WShape.hasAll [] args [.list .int]=true:=(pre_splitW hpre).1;have hc:l.pre.holds [] { args:=args}=true:=(pre_splitW hpre).2;obtain⟨d,r,rfl,h1,h2⟩:=hasAllW_cons hsh;obtain rfl:=hasAllW_nil h2;obtain⟨xs,rfl,h3⟩:=hasW_list h1;obtain⟨ns,rfl⟩:=items_int h3;have hlen:ns.length<=n:=by
  unfold OpenLaw.pre at hc;have h4:(WTm.not (.lt (.lit (.int (n:Int))) (.len (.arg 0)))).holds [] { args:=[.list (ns.map .int)]}=true:=by
   have h4:=(holds_andW hc).1;rw[hn]at h4;exact h4
  have h5:=condW_of h4 (w_not (w_lt w_lit (w_len_list (w_arg rfl))));rw[length_map]at h5;refine Nat.le_of_not_lt λq=>?_
  have q':(n:Int)<((ns.length:Nat):Int):=by omega
  first
   | (rw[Yg q']at h5;exact absurd h5 qd)
   | (simp at h5;omega)
 cases hwl with
 |cons w1 w2=>
  cases w2;cases w1 with
  |list ho hall=>exact⟨_,_,ns,rfl,rfl,ho,b7q ns _ hall,hlen⟩
theorem c9t(l:OpenLaw)(args:List WData):l.row.toRowW.claim.post args (.bool true) args=true:=
 postW_of (r:=l.row.toRowW) (X:=(true==true))
  (show WShape.has [] (.bool true) .bool=true by first|rfl|decide|simp[WShape.has,WShape.arms,WShape.armsAll])
  (show(WTm.eq .res (.lit (.bool true))).value [] { args:=args,res:=some (.bool true),after:=args}=some (.bool (true==true))from w_eq_bool (w_res rfl) w_lit) rfl
theorem attach_call{l:OpenLaw}{n:Nat}{q:Program}{loose:List Str}{XP:(Str->Option Value)->Heap->Prop}{YP:World->Heap->Prop}{d:DefRec}
  (hn:l.most=some n)(hdf:d.params.defaults=[])
  (call:∀(w:World)(s₀ s₁:Shared)(mg mb:Str->Option Value)(fa:Addr)(o:Obj)(pm cd doc:Value)(a:Addr)(vs:List Value)(ns:List Int),
   Ground q loose [] XP w s₀ mg mb s₁.heap->YP w s₁.heap->
   s₁.heap.get? fa=some o->o.data=.func (docDef d.name d.params d.body d.scope pm cd doc)->s₁.heap.CodeRec cd d.name->mg d.name=some (.ref fa)->
   s₁.heap.get? a=some { cls:=.type "list",data:=.seq vs.toArray}->IntsAre vs ns->ns.length<=n->s₁.gens= #[]->
   codeAny (model l.prog w) callerA (.call (.ref fa) ⟨[.ref a],[]⟩) (λr s'=>r=.ok (.ret (.bool true))/\OldK s₁.heap s'.heap/\s'.os=s₁.os/\AllBare s'.gens) s₁):
  WalkO q loose XP YP l.row.toRowW d [] (λf vs=>PySem.call f vs):=by
 intro w s₀ s₁ mg mb G Y fa o pm cd doc dV kV ho hd hcd hD hmg hg args vals as hpre hlay hrd hwl hlo;obtain rfl:dV=.none:=Dflts.none hD hdf;obtain rfl:kV=.none:=Dflts.noKw hD;obtain⟨a,vs,ns,rfl,rfl,hobj,hints,hlen⟩:=c9s hn hpre hwl;refine enter_call (U0 (call w s₀ s₁ mg mb fa o pm cd doc a vs ns G Y ho (fd_plain hd) hcd hmg hobj hints hlen hg) λr s' hq=>?_);obtain⟨rfl,h2,h3,h4⟩:=hq;exact⟨.inl ⟨.bool true,.bool true,[],rfl,λ_=>rfl,.bool true,c9t l _,λ_=>⟨List.Pairwise.nil,λ_ hm=>(nomatch hm)⟩⟩,h2,h3,h4⟩
end Att
namespace L2
open PySem PySem.Spec PyProof.Rows
theorem c0o:∀{vs:List Value}{ns:List Int},IntsAre vs ns->Vals (ns.map V.int) vs
 |_,_,.nil=>.nil
 |_,_,.cons n t h=>.cons ⟨t,rfl⟩ (c0o h)
def Only(H:Hp):Prop:=∀b,H b=none\/∃o xs,H b=some (.frz o (.lst xs))
theorem d3h{P:Program}{w:World}{K:W.Frag}{mg mb:Str->Option Value}{CX:CXT}{k:Nat}{fa a:Addr}{fd:FuncData}{x:Str}{sp:Sp}{s₁:Shared}{vs:List Value}{ns:List Int}
  (KX:K.In s₁.heap)(hns:s₁.heap.Ns mainGlobals mg)(hb:s₁.heap.Ns builtinsNs mb)(hbb:∀x:Str,x≠"__name__"->mb x=bootBuiltins x)(hlim:s₁.heap.NoLimit)(hg:s₁.gens= #[])
  (ha:s₁.heap.get? a=some { cls:=.type "list",data:=.seq vs.toArray})(hi:IntsAre vs ns)(hl:ns.length<=sizeLine)(hr:Room k callerA)
  (F:∀base:Heap,K.In base->base.Ns mainGlobals mg->FnOk P w K mg base CX k fa fd [x] sp)(hbind:∀(s:Shared)(u:Value),BindsTo s fd ⟨[u],[]⟩ [(x,u)])
  (hsp:∀H:Hp,Only H->SqL K H a (ns.map V.int)->sp [.ref a] H (λv _=>v=.bl true) λ_ _ _=>False)
  (hCX:∀H e s',CX [] H s₁ (λ_ _ _=>False) e s'->False):
  codeAny (model P w) callerA (.call (.ref fa) ⟨[.ref a],[]⟩) (λr s'=>r=.ok (.ret (.bool true))/\OldK s₁.heap s'.heap/\s'.os=s₁.os/\AllBare s'.gens) s₁:=by
 have rv:=c0o hi;have lenV:=hi.length;have core:∀H:Hp,Only H->SqL K H a (ns.map V.int)->HOk P w H s₁.heap->(∀b,H b≠none->b=a)->(H a≠none->K.lookup a=none)->
   codeAny (model P w) callerA (.call (.ref fa) ⟨[.ref a],[]⟩) (λr s'=>r=.ok (.ret (.bool true))/\OldK s₁.heap s'.heap/\s'.os=s₁.os/\AllBare s'.gens) s₁:=by
  intro H hO hS hok hA hK;have base_of:∀{b:Addr}{o:Obj},s₁.heap.get? b=some o->H b=none->(hidT s₁.heap H).get? b=some o:=λe n=>d2u e n
  have noA:∀{b:Addr}{o:Obj}{es:Array DictEntry}{ep:Nat},s₁.heap.get? b=some o->o.data=.dict es ep->H b=none:=λ{b o es ep} e d=>by
   cases q:H b with
   |none=>rfl
   |some u=>
    have e':b=a:=hA b (by rw[q];simp);subst e';rw[ha]at e;cases e;have d':Data.seq vs.toArray _=Data.dict es ep:=d;cases d'
  have nsK:∀{b:Addr}{m:Str->Option Value},s₁.heap.Ns b m->(hidT s₁.heap H).Ns b m:=λ{b m} ⟨o,es,ep,e,d,r⟩=>⟨o,es,ep,base_of e (noA e d),d,r⟩
  have hKb:K.In (hidT s₁.heap H):=λb o e=>base_of (KX b o e) (by
   cases q:H b with
   |none=>rfl
   |some u=>
    have e':b=a:=hA b (by rw[q];simp);subst e'
    rw[hK (by rw[q];simp)]at e;cases e)
  have hM:Mod K mg (hidT s₁.heap H):=⟨hKb,nsK hns,⟨mb,nsK hb,hbb⟩,let⟨mc,h1,h2⟩:=hlim;⟨mc,nsK h1,h2⟩⟩;have e0:Env0 P w K mg (hidT s₁.heap H) callerA [] s₁ H:=⟨rfl,hM,λb o e=>of_hidT e,Nat.le_of_eq (c8y _ _),trivial,λb hb=>absurd (show b∈([]:List Addr)from hb) qz,hok,.of_eq hg⟩;refine U0 ((F _ hKb (nsK hns)).run callerA [] s₁ H ⟨[.ref a],[]⟩ [.ref a] [.ref a] _ _ hr e0 (hbind s₁ (.ref a)) (.cons rfl .nil) (hsp H hO hS)) λr s' h=>?_
  cases r with
  |error e=>exact(hCX H e s' h).elim
  |ok fl=>
   cases fl with
   |next=>exact False.elim h
   |brk=>exact False.elim h
   |cont=>exact False.elim h
   |ret u=>
    obtain⟨v,H',os,bare,un,hok',r',q⟩:=h;have q':v=.bl true:=q;subst q';obtain rfl:u=Value.bool true:=r';refine⟨rfl,OldK.of_keep λb o e=>?_,os,bare⟩;cases q:H b with
    |none=>exact un.keep b o e q (by intro z;exact absurd (show b∈([]:List Addr)from z) qz) qz
    |some u=>
     rcases hO b with z|⟨ob,xs,z⟩
     ·rw[q]at z;cases z
     ·have z2:=un.frzs b ob _ z;obtain⟨e1,_⟩:=hok b _ z;obtain⟨e2,_⟩:=hok' b _ z2;rw[e]at e1;cases e1;exact e2
 cases hk:K.lookup a with
 |some o=>
  have e:=KX a o hk;rw[ha]at e;cases e;refine core (λ_=>none) (λ_=>.inl rfl) (.inr ⟨_,vs.toArray,_,hk,rfl,rfl,rfl,by rw[Ze,lenV];exact hl,by simpa using rv⟩) (λb u z=>by have z':(none:Option HO)=some u:=z;cases z') (λb z=>absurd rfl z) λz=>absurd rfl z
 |none=>
  refine core (λb=>if b=a then some (.frz { cls:=.type "list",data:=.seq vs.toArray} (.lst (ns.map V.int)))else none) (λb=>?_) (.inl (.inr ⟨{ cls:=.type "list",data:=.seq vs.toArray},if_pos rfl⟩)) (λb u z=>?_) (λb z=>?_) λ_=>hk
  ·by_cases hb:b=a
   ·exact .inr ⟨_,_,if_pos hb⟩
   ·exact .inl (if_neg hb)
  ·by_cases hb:b=a
   ·have z':=(if_pos hb).symm.trans z;cases z';subst hb;exact⟨ha,by rw[length_map];exact hl,vs,_,rv,ha⟩
   ·have z':=(if_neg hb).symm.trans z;cases z'
  ·by_cases hb:b=a
   ·exact hb
   ·exact absurd (if_neg hb) z
abbrev KOf{K:W.Frag}{h:Heap}(_:K.In h):W.Frag:=K
theorem walk_of{l:W.OpenLaw}{n k:Nat}{q:Program}{loose:List Str}{XP:(Str->Option Value)->Heap->Prop}{YP:World->Heap->Prop}{d:DefRec}{K:Params->W.Frag}{CX:World->CXT}{sp:World->Sp}{x:Str}
  (hn:l.most=some n)(hn2:n<=sizeLine)(hdf:d.params.defaults=[])(hr:Room k callerA)
  (hY:∀(w:World)(h:Heap),YP w h->(K w.params).In h)
  (F:∀(w:World)(mg:Str->Option Value)(fa:Addr)(h:Heap),(K w.params).In h->h.Ns mainGlobals mg->mg d.name=some (.ref fa)->
   ∃fd:FuncData,(∀(s:Shared)(u:Value),BindsTo s fd ⟨[u],[]⟩ [(x,u)])/\
    ∀base:Heap,(K w.params).In base->base.Ns mainGlobals mg->FnOk l.prog w (K w.params) mg base (CX w) k fa fd [x] (sp w))
  (hsp:∀(w:World)(H:Hp)(a:Addr)(ns:List Int),ns.length<=n->Only H->SqL (K w.params) H a (ns.map V.int)->sp w [.ref a] H (λv _=>v=.bl true) λ_ _ _=>False)
  (hCX:∀(w:World)(H:Hp)(s:Shared)(e:Value)(s':Shared),CX w [] H s (λ_ _ _=>False) e s'->False):
  W.WalkO q loose XP YP l.row.toRowW d [] (λf vs=>PySem.call f vs):=by
 refine Att.attach_call hn hdf λw s₀ s₁ mg mb fa o pm cd doc a vs ns G Y ho hd hcd hmg hobj hints hlen hg=>?_
 have KX:=hY w _ Y;obtain⟨fd,hb,hF⟩:=F w mg fa _ KX G.T.g hmg;exact d3h KX G.T.g G.T.b G.T.builtins G.T.nolimit hg hobj hints (Xd hlen hn2) hr hF hb (λH hO hS=>hsp w H a ns hlen hO hS) λH e s'=>hCX w H s₁ e s'
noncomputable def inClass(s:Stmt)(j:Nat):Stmt:=match s with
 | .ClassDef _ _ _ body _ _ _ _ _ _ _=>body.getD j (.Pass ⟨0,0,0,0⟩)
 |_=>.Pass ⟨0,0,0,0⟩
def b4v(s:Stmt):Arguments:=match s with
 | .FunctionDef _ a _ _ _ _ _ _ _ _=>a
 |_=>{ posonlyargs:=[],args:=[],vararg:=none,kwonlyargs:=[],kw_defaults:=[],kwarg:=none,defaults:=[]}
def b1s(s:Stmt):List Stmt:=match s with
 | .FunctionDef _ _ b _ _ _ _ _ _ _=>b
 |_=>[]
def a0o(s:Stmt):Scope:=match s with
 | .FunctionDef _ _ _ _ _ _ sc _ _ _=>sc
 |_=>{ kind:=.function,names:=[],isGenerator:=false,isCoroutine:=false}
abbrev CX0:CXT:=λ_ _ _ _ _ _=>False
abbrev E0:XK:=λ_ _ _=>False
theorem a0n{X:Cx}:b0a CX0 X E0:=λ_ _ _ _ _ _ _ h=>h.elim
structure Fun(K:W.Frag)(x qual:Str)(st:Stmt)(f:Addr)(fd:FuncData):Prop where
 ex:∃(oc:Value)(od:Option Addr)(kV doc pm:Value)(an:Option Addr)(cdv ct:Value)(osl:Array (Option Value)),
  fd=W.fnOf x qual (b4v st) (b1s st) (a0o st) .none kV doc pm an cdv ct/\K.lookup f=some ⟨oc,od,.func fd,osl⟩/\W.codeIn K cdv qual=true
 kp:W.keepIn K (.ref f)=true
section
variable{P:Program}{w:World}{K:W.Frag}{mg:Str->Option Value}{base:Heap}
theorem Fun.ok{x qual:Str}{st:Stmt}{f:Addr}{fd:FuncData}{N ps:List Str}{k:Nat}{sp:Sp}(F:Fun K x qual st f fd)(S:a0w N ps (a0o st))(len:∀vs H Q E,sp vs H Q E->vs.length=ps.length)
  (hbody:∀(cdv:Value)(A:Around)(outer:List Env)(s:Shared)(H:Hp)(vs:List V)(Q:VK)(E:XK),Room k (A.deeper (envOfC qual (a0o st) s.heap.objs.size f cdv))->sp vs H Q E->
   ∃t,PSs (cxOf CX0 P w K mg base N qual (a0o st) f cdv A outer s H E).nox (b1s st) t/\t { nx:=λ_ H'=>Q .non H',rt:=Q} (start N vs) H):FnOk P w K mg base CX0 (k+1) f fd ps sp:=by
 obtain⟨oc,od,kV,doc,pm,an,cdv,ct,osl,rfl,lk,hcd⟩:=F.ex;refine fn_of lk hcd S len λA outer s H vs Q E hr hsp=>?_
 obtain⟨t,h,q⟩:=hbody cdv A outer s H vs Q E hr hsp;exact⟨t,h.nox,q⟩
theorem fun_mk{x qual:Str}{st:Stmt}{f:Addr}{oc:Value}{od an:Option Addr}{osl:Array (Option Value)}{kV doc pm cdv ct:Value}(l:K.lookup f=some ⟨oc,od,.func (W.fnOf x qual (b4v st) (b1s st) (a0o st) .none kV doc pm an cdv ct),osl⟩)
  (c:W.codeIn K cdv qual=true)(k:W.keepIn K (.ref f)=true):Fun K x qual st f (W.fnOf x qual (b4v st) (b1s st) (a0o st) .none kV doc pm an cdv ct):=⟨⟨oc,od,kV,doc,pm,an,cdv,ct,osl,rfl,l,c⟩,k⟩
end
theorem a1h{A:Around}{k:Nat}(hr:Room k A):A.units+1<cLine:=Nat.lt_of_le_of_lt (Nat.add_le_add_left (by decide:1<=64) _) hr.units
theorem iteF{A B:Prop}(h:B):if false=true then A else B:=by
 rw[if_neg Zj];exact h
theorem iteT{A B:Prop}(h:A):if true=true then A else B:=by
 rw[if_pos rfl];exact h
def Same(H H':Hp):Prop:=∀b o,H b=some o->H' b=some o
theorem Same.refl(H:Hp):Same H H:=λ_ _ h=>h
theorem Same.trans{H H1 H2:Hp}(a:Same H H1)(b:Same H1 H2):Same H H2:=λc o h=>b c o (a c o h)
theorem Same.free{H H':Hp}(e:Same H H'){l:Addr}(h:H' l=Option.none):H l=Option.none:=by
 cases q:H l with
 |none=>rfl
 |some o=>
  rw[e l o q]at h;cases h
theorem Same.seq{K:W.Frag}{H H':Hp}{a:Addr}{xs:List V}(e:Same H H')(h:SqL K H a xs):SqL K H' a xs:=by
 rcases h with(h|⟨o,h⟩)|h
 ·exact .inl (.inl (e _ _ h))
 ·exact .inl (.inr ⟨o,e _ _ h⟩)
 ·exact .inr h
section
variable{X:Cx}
theorem a5r:a2w X (.builtin "len") (λxs H Q=>∃a kvs,xs=[V.ref a]/\H a=some (.dK kvs)/\Q (.int kvs.length) H):=by
 intro pins s σ H xs us Q I r h;obtain⟨a,kvs,rfl,ha,q⟩:=h;obtain⟨u,rfl,ru⟩:=vals1 r;cases ru;exact d_len I (.inl ha) λt s' I'=>⟨.int kvs.length,H,I',⟨t,rfl⟩,q⟩
end
section
variable{κ:Type}[DecidableEq κ]
theorem b9m{kvs:List (κ×V)}{k:κ}{v:V}(h:valV kvs k=some v):k∈kvs.map (·.1):=by
 have q:(kvs.any λkv=>decide (kv.1=k))=true:=by
  rw[a5q,h]
  all_goals rfl
 obtain⟨p,hp,e⟩:=Vg.mp q;exact Z3.mpr ⟨p,hp,Z8 e⟩
end
end L2
set_option maxHeartbeats 4000000
namespace My
open PySem PySem.W PySem.Calls PyProof.Rows
theorem b7r{tb:String->Option Builtin}{p:Program}{w:World}{n₀:Nat}{ann:Option Value}:∀{n:Nat}{s s':Shared}{t:Thread}{f:Flow}{c:Code}{q:Pos},segRun tb p w n₀ ann 0 n s t=some (f,s',c,q)->topRun tb p w n₀ ann n s t=some s'
 |0,_,_,_,_,_,_,h=>by cases h
 |n+1,s,s',t,f,c,q,h=>by
  unfold segRun at h;unfold topRun;cases he:endAt 0 t with
  |some x=>
   rw[he]at h;cases h;have:through t=true:=by
    unfold endAt at he;unfold through;obtain⟨cur,code,pos,st⟩:=t;cases st with
    |nil=>split at he<;>simp_all
    |cons a b=>simp at he
   rw[this]
  |none=>
   have:through t=false:=by
    unfold endAt at he;unfold through;obtain⟨cur,code,pos,st⟩:=t;cases st with
    |nil=>
     dsimp only at he ⊢
     split at he
     ·cases he
     ·rename_i h1;simp only[List.isEmpty_nil,V2]
      split
      ·exact(h1 _ rfl rfl).elim
      ·rfl
    |cons a b=>rfl
   rw[he]at h;rw[this];cases hk:stepOk n₀ ann t with
   |false=>rw[hk]at h;cases h
   |true=>
    rw[hk]at h;cases hs:step (denote tb) p w s t with
    |halt o x=>rw[hs]at h;cases h
    |go s₂ t₂=>rw[hs]at h;exact b7r h
noncomputable def bootT(P:Params):BT:=.node (boot_o_0 P) (.node (boot_o_1 P) (.node (boot_o_3 P) (.node (boot_o_7 P) .nil .nil) .nil) (.node (boot_o_5 P) (.node (boot_o_9 P) .nil .nil) .nil)) (.node (boot_o_2 P) (.node (boot_o_4 P) (.node (boot_o_8 P) .nil .nil) .nil) (.node (boot_o_6 P) (.node (boot_o_10 P) .nil .nil) .nil))
theorem boot_abs(P:Params):absHeap (bootT P) 11 {}=boot_heap P:=by kernel_rfl
noncomputable def bootS(w:World)(os:OsState):SharedT:=⟨bootT w.params,11,{},#[],boot_drawn,boot_toks,os⟩
noncomputable def looks{α:Type}(p q:Program)(loose:List Str)(Xt:Shared->Bool)(Yf:Shared->α)(g0:Bool)(h₀:Heap)(s:Shared):=
 ((staticsOk (importedModules p.main.body) h₀ s.heap&&namesBound p s.heap&&gensDone s&&laidKept h₀ s.heap),openSeen q loose (importedModules p.main.body) Xt g0 s,Yf s)
theorem left_of{p q:Program}{loose:List Str}{Xt:Shared->Bool}{α:Type}{Yf:Shared->α}{Ya:World->α}{N M:Nat}{g0:Bool}
  (e:opening p=plainProg p.main.scope.names)(hN:Nat.ble 600 N=true)(f:∀s,fenceModules? p s=some s)
  (size:∀w:World,((boot_heap w.params).isNs mainGlobals,(boot_heap w.params).nsMap mainGlobals "__annotations__")=(true,some (.ref 6)))
  (le:Nat.ble M N=true)
  (run:∀w:World,(λos=>(segRunT treeTable p w 11 (some (.ref 6)) 0 M (bootS w os) (topStub p)).map λr=>looks p q loose Xt Yf g0 (boot_heap w.params) r.2.1.abs)=λ_=>some (true,openGood q loose,Ya w)):
  LeftO p q loose Xt Yf Ya N g0:=λw=>by
 obtain⟨⟨h,gs,d,k,os⟩,e1,e2⟩:=Ym.mp (boot_open e hN f w);obtain⟨rfl,rfl,rfl,rfl⟩:h=boot_heap w.params/\gs= #[]/\d=boot_drawn/\k=boot_toks:=by simpa using e2
 obtain⟨z1,z3⟩:_/\_:=by simpa only[Prod.mk.injEq]using size w
 obtain⟨⟨fl,s,c,ps⟩,r1,r2⟩:=Ym.mp (congrFun (run w) os);obtain⟨l1,l2,l3⟩:_/\_/\_:=by simpa only[looks,Prod.mk.injEq]using r2
 have r:=topRun_mono (N-M) _ _ _ _ (b7r (segRun_of r1));rw[show M+(N-M)=N by have:=Nat.le_of_ble_eq_true le;omega]at r;have t:topFrom treeTable p w N ⟨boot_heap w.params,#[],boot_drawn,boot_toks,os⟩=some s.abs:=by
  unfold topFrom
  dsimp only
  rw[z1]
  show(topRun treeTable p w 11 _ N ⟨boot_heap w.params,#[],boot_drawn,boot_toks,os⟩ (topStub p)).bind _=_
  rw[z3];have r':topRun treeTable p w 11 (some (.ref 6)) N ⟨boot_heap w.params,#[],boot_drawn,boot_toks,os⟩ (topStub p)=some s.abs:=by
   rw[<-boot_abs];exact r
  rw[r']
  show(match staticsOk (importedModules p.main.body) (boot_heap w.params) s.abs.heap&&namesBound p s.abs.heap&&gensDone s.abs&&laidKept (boot_heap w.params) s.abs.heap with|true=>some s.abs|false=>none)=some s.abs
  rw[l1]
 unfold openEnds;rw[e1]
 show((topFrom treeTable p w N ⟨boot_heap w.params,#[],boot_drawn,boot_toks,os⟩).map _)=_
 rw[t];exact Xg some (by dsimp only;rw[l2,l3])
theorem c9u(w:World):((boot_heap w.params).isNs mainGlobals,(boot_heap w.params).nsMap mainGlobals "__annotations__")=(true,some (.ref 6)):=by kernel_rfl
end My
lay_quick PySem.W.topStub PySem.W.openGood PySem.W.SharedT.abs PySem.W.xlAt PySem.W.recOk PySem.W.view My.looks
namespace L2
open PySem PySem.Spec PyProof.Rows
noncomputable def clOf(env:Env):List (Str×NameKind)->List (Str×Addr)->List (Str×Addr)
 | [],acc=>acc
 | (n,k)::r,acc=>if k=.free then clOf env r ((n,(env.cells.lookup n).getD 0)::acc)else clOf env r acc
theorem b5x{env:Env}(f:(Str×NameKind)->List (Str×Addr)->Sem (ForInStep (List (Str×Addr))))
  (h1:∀n r c,env.cells.lookup n=some c->f (n,.free) r=pure (.yield ((n,c)::r)))(h2:∀n k r,k≠.free->f (n,k) r=pure (.yield r)):
  ∀(l:List (Str×NameKind))(acc:List (Str×Addr)),(∀y∈l,y.2=.free->∃c,env.cells.lookup y.1=some c)->forIn l acc f=pure (clOf env l acc)
 | [],acc,_=>by rw[List.forIn_nil];rfl
 | (n,k)::r,acc,h=>by
  have hr:∀y∈r,y.2=.free->∃c,env.cells.lookup y.1=some c:=λy hy=>h y (Zw _ hy)
  rw[List.forIn_cons]
  by_cases hk:k=.free
  ·subst hk;obtain⟨c,hc⟩:=h _ Z0 rfl;have hc:env.cells.lookup n=some c:=hc;rw[h1 n acc c hc];have ih:=b5x f h1 h2 r ((n,c)::acc) hr
   show(forIn r ((n,c)::acc) f)=_
   rw[ih];unfold clOf;rw[if_pos rfl,hc];rw[<-clOf.eq_def];rfl
  ·rw[h2 n k acc hk];have ih:=b5x f h1 h2 r acc hr
   show(forIn r acc f)=_
   rw[ih]
   conv=>rhs;unfold clOf
   rw[if_neg hk]
theorem b7s{scope:Scope}{env:Env}(h:∀y∈scope.names,y.2=.free->∃c,env.cells.lookup y.1=some c):closureFor scope env=pure (clOf env scope.names []):=by
 unfold closureFor;have e:=b5x (env:=env) (λx r=>if x.2==NameKind.free then do let c <-cellOf env x.1;pure (ForInStep.yield ((x.1,c)::r))else pure (ForInStep.yield r))
  (λn r c hc=>by
   have e:cellOf env n=pure c:=by unfold cellOf;rw[hc]
   show(if(NameKind.free==NameKind.free)=true then _ else _)=_
   rw[if_pos qd,e]
   rfl)
  (λn k r hk=>by
   show(if(k==NameKind.free)=true then _ else _)=_
   rw[if_neg (by intro z;exact hk (eq_of_beq z))]) scope.names [] h
 exact(Xg (λm=>m>>=λcs=>(pure cs:Sem (List (Str×Addr)))) e)
theorem b5y{env:Env}:∀(l:List (Str×NameKind))(acc:List (Str×Addr))(y:Str)(c:Addr),(∀y∈l,y.2=.free->∃c,env.cells.lookup y.1=some c)->(∀y c,acc.lookup y=some c->env.cells.lookup y=some c)->
  (clOf env l acc).lookup y=some c->env.cells.lookup y=some c
 | [],acc,y,c,_,ha,e=>ha y c e
 | (n,k)::r,acc,y,c,h,ha,e=>by
  have hr:∀y∈r,y.2=.free->∃c,env.cells.lookup y.1=some c:=λy hy=>h y (Zw _ hy)
  unfold clOf at e
  by_cases hk:k=.free
  ·rw[if_pos hk]at e;refine b5y r _ y c hr (λz d q=>?_) e;rw[Ws]at q;cases hz:z==n with
   |true=>
    rw[hz]at q;have q':(env.cells.lookup n).getD 0=d:=Zi q;obtain⟨c',hc'⟩:=h _ Z0 hk;have hc':env.cells.lookup n=some c':=hc';rw[hc']at q';have q':c'=d:=q';rw[eq_of_beq hz,hc',q']
   |false=>
    rw[hz]at q;exact ha z d q
  ·rw[if_neg hk]at e;exact b5y r acc y c hr ha e
theorem b5z{env:Env}:∀(l:List (Str×NameKind))(acc:List (Str×Addr))(y:Str),(∃c,acc.lookup y=some c)->∃c,(clOf env l acc).lookup y=some c
 | [],_,_,h=>h
 | (n,k)::r,acc,y,h=>by
  unfold clOf
  by_cases hk:k=.free
  ·rw[if_pos hk];refine b5z r _ y ?_;rw[Ws];cases hz:y==n with
   |true=>exact⟨_,rfl⟩
   |false=>exact h
  ·rw[if_neg hk];exact b5z r acc y h
theorem b2y{env:Env}:∀(l:List (Str×NameKind))(acc:List (Str×Addr))(y:Str),(y,NameKind.free)∈l->∃c,(clOf env l acc).lookup y=some c
 | [],_,_,h=>by simp at h
 | (n,k)::r,acc,y,h=>by
  unfold clOf
  by_cases hk:k=.free
  ·rw[if_pos hk];rcases Zo.mp h with e|e
   ·refine b5z r _ y ?_;have e1:y=n:=Xg Prod.fst e;rw[Ws,e1]
    simp
   ·exact b2y r _ y e
  ·rw[if_neg hk];rcases Zo.mp h with e|e
   ·exact absurd (Xg Prod.snd e).symm hk
   ·exact b2y r acc y e
theorem a7z(scope:Scope)(env:Env)(y:Str):(relabel scope env).names.lookup y=(scope.names.lookup y).map λk=>if(k==NameKind.free&&env.scope.kind==.function&&env.kindOf y==some .cell)=true then .cell else k:=by
 show(scope.names.map _).lookup y=_
 induction scope.names with
 |nil=>rfl
 |cons p r ih=>
  obtain⟨n,k⟩:=p;rw[Zp,Ws (a:=y) (k:=n) (b:=k)];cases hz:y==n with
  |true=>
   have e:y=n:=eq_of_beq hz;subst e
   show List.lookup y ((if(k==NameKind.free&&env.scope.kind==.function&&env.kindOf y==some .cell)=true then(y,NameKind.cell)else(y,k))::_)=some (if _ then _ else _)
   by_cases hc:(k==NameKind.free&&env.scope.kind==.function&&env.kindOf y==some .cell)=true
   ·rw[if_pos hc,if_pos hc];simp
   ·rw[if_neg hc,if_neg hc];simp
  |false=>
   show List.lookup y ((if(k==NameKind.free&&env.scope.kind==.function&&env.kindOf n==some .cell)=true then(n,NameKind.cell)else(n,k))::_)=_
   by_cases hc:(k==NameKind.free&&env.scope.kind==.function&&env.kindOf n==some .cell)=true
   ·rw[if_pos hc,Ws,hz];exact ih
   ·rw[if_neg hc,Ws,hz];exact ih
def a3k(X:Cx)(scope:Scope)(x:Str)(N':List Str)(C:Addr)(s:Shared)(H:Hp)(fp:List Addr)(pn:List (Addr×Obj)):Cx where
 prog:=X.prog
 w:=X.w
 K:=X.K
 mg:=X.mg
 base:=X.base
 A:=X.A
 N:=x::N'
 s₀:=s
 H₀:=H
 env:=compEnvC scope (clOf X.env scope.names []) C X.env
 outer:=X.stack
 stack:=X.stack
 ex:=fp
 fn:=λ_=>false
 calm:=X.calm
 pn:=pn
 xe:=λ_ _=>False
section
variable{X:Cx}{pins:List (Addr×Obj)}{σ:St}{H:Hp}{s:Shared}
structure b3t(X:Cx)(scope:Scope)(x:Str)(N':List Str):Prop where
 loc:scope.names.lookup x=some .local
 nocell:∀y∈scope.names,y.2≠.cell
 kind:scope.kind=.function
 names:∀y∈scope.names,y.2=.local->scope.names.lookup y.1=some .local
 free:∀y∈scope.names,y.2=.free->X.env.kindOf y.1=some .cell\/X.env.kindOf y.1=some .free
 nin:x∉N'
 nd:N'.Nodup
 len:N'.length=X.N.length
 sub:∀(i:Nat)(y:Str),N'[i]? =some y->X.N[i]? =some y\/scope.names.lookup y=none
 only:∀y∈scope.names,y.2=.local->y.1=x\/y.1∉N'
theorem Inv.compIn{scope:Scope}{x:Str}{N':List Str}{fp:List Addr}{h1:Heap}{tk:Nat}{m:Str->Option Value}(S:b3t X scope x N')(I:Inv X pins σ H s)(hf:∀b∈fp,FpOk X pins H b)(hfl:∀b∈fp,b<s.heap.objs.size)
  (hn:h1.Ns s.heap.objs.size m)(hsb:∀b o,s.heap.get? b=some o->h1.get? b=some o):
  Inv (a3k X scope x N' s.heap.objs.size s H fp (X.pn++pins)) [] (none::σ) H { s with heap:=h1,toks:=tk}:=by
 have hcells:∀y∈scope.names,y.2=.free->∃c,X.env.cells.lookup y.1=some c:=λy hy hk=>I.ok.has y.1 (S.free y hy hk)
 have sub:∀y c,(clOf X.env scope.names []).lookup y=some c->X.env.cells.lookup y=some c:=λy c e=>b5y _ _ y c hcells (λz d q=>by simp at q) e
 have lk:∀(y:Str)(k:NameKind),(relabel scope X.env).names.lookup y=some k->k=.cell\/k=.free->scope.names.lookup y=some .free:=λy k e hk=>by
  rw[a7z]at e;cases q:scope.names.lookup y with
  |none=>rw[q]at e;cases e
  |some k0=>
   rw[q]at e;have e':(if(k0==NameKind.free&&X.env.scope.kind==.function&&X.env.kindOf y==some .cell)=true then NameKind.cell else k0)=k:=Zi e
   by_cases hc:(k0==NameKind.free&&X.env.scope.kind==.function&&X.env.kindOf y==some .cell)=true
   ·simp only[Wu]at hc;rw[eq_of_beq hc.1.1]
   ·rw[if_neg hc]at e';subst e';rcases hk with hk|hk
    ·exact absurd hk (S.nocell _ (Y1 q))
    ·rw[hk]
 have lt:∀{b:Addr}{o:Obj},s.heap.get? b=some o->b≠s.heap.objs.size:=λe=>Z6 (Zu e)
 refine⟨⟨I.ok.mod,by show(relabel scope X.env).kind=_;exact S.kind,I.ok.glob,I.ok.blt,Zg _,λy z c e1 e2=>I.ok.inj y z c (sub y c e1) (sub z c e2),λy hy=>?_,λy c hz=>(by cases hz),I.ok.hd,I.ok.frames,.inl rfl,
  λb hb=>⟨Z6 (hfl b hb),λy c e=>(hf b hb).2.2.2.2.1 y c (sub y c e)⟩,I.bs,Xd I.ok.bsz I.sz,λb o e hb=>?_,λb hb hz=>?_,I.stack,I.stkFree⟩,
  rfl,I.bare,Un.kept hsb,⟨m,hn,λi y v h1 h2 h3=>?_⟩,λy c e=>?_,I.hok.fresh (Zg _),λy c e=>I.freeC y c (sub y c e),λp hp=>?_,I.hok.kept hsb,?_⟩
 ·have hy:(relabel scope X.env).names.lookup y=some .cell\/(relabel scope X.env).names.lookup y=some .free:=hy;have q:scope.names.lookup y=some .free:=hy.elim (λz=>lk y _ z (.inl rfl)) λz=>lk y _ z (.inr rfl)
  exact b2y _ _ y (Y1 q)
 ·obtain⟨_,_,_,f3,_,_⟩:=hf b hb;rcases f3 with f3|f3
  ·exact I.ok.noex b o e f3
  ·exact absurd (Yd (Zu e) (Xd I.ok.bsz f3)) (Yt _)
 ·have hz:b∈frs X.stack:=hz;obtain⟨_,f1,f2,_⟩:=hf b hb;rcases Zo.mp (I.stkSub b hz)with z|z
  ·exact f1 z
  ·exact f2 z
 ·cases i with
  |zero=>simp at h2
  |succ i=>
   have h1:N'[i]? =some y:=by simpa[a3k]using h1
   have h2:σ[i]? =some (some v):=by simpa using h2
   have hne:N'[i]? ≠some x:=λz=>S.nin (Y0 z)
   have h3:Vis (relabel scope X.env) y:=h3;obtain⟨m',hn',hl'⟩:=I.loc;have q:scope.names.lookup y=some .free:=by
    rcases h3 with z|z|z
    ·exfalso
     rw[a7z]at z;cases q:scope.names.lookup y with
     |none=>rw[q]at z;cases z
     |some k0=>
      rw[q]at z;have e':(if(k0==NameKind.free&&X.env.scope.kind==.function&&X.env.kindOf y==some .cell)=true then NameKind.cell else k0)=.local:=Zi z
      by_cases hc:(k0==NameKind.free&&X.env.scope.kind==.function&&X.env.kindOf y==some .cell)=true
      ·rw[if_pos hc]at e';cases e'
      ·rw[if_neg hc]at e';subst e';rcases S.only _ (Y1 q) rfl with w|w
       ·exact hne (by rw[h1];exact Xg some w)
       ·exact w (Y0 h1)
    ·exact lk y _ z (.inl rfl)
    ·exact lk y _ z (.inr rfl)
   obtain⟨c,hc⟩:=b2y (env:=X.env) scope.names [] y (Y1 q);have hk:X.env.kindOf y=some .cell\/X.env.kindOf y=some .free:=S.free _ (Y1 q) rfl;have h1':X.N[i]? =some y:=(S.sub i y h1).resolve_right λz=>by rw[q]at z;cases z
   obtain⟨u,r,l⟩:=hl' i y v h1' h2 (.inr hk);refine⟨u,r,?_⟩;have kd:(compEnvC scope (clOf X.env scope.names []) s.heap.objs.size X.env).kindOf y=some .cell\/(compEnvC scope (clOf X.env scope.names []) s.heap.objs.size X.env).kindOf y=some .free:=by
    rcases h3 with z|z|z
    ·exfalso
     rw[a7z,q]at z;have e':(if(NameKind.free==NameKind.free&&X.env.scope.kind==.function&&X.env.kindOf y==some .cell)=true then NameKind.cell else NameKind.free)=.local:=Zi z
     by_cases hc:(NameKind.free==NameKind.free&&X.env.scope.kind==.function&&X.env.kindOf y==some .cell)=true
     ·rw[if_pos hc]at e';cases e'
     ·rw[if_neg hc]at e';cases e'
    ·exact .inl z
    ·exact .inr z
   rcases l with⟨a,_⟩|⟨_,c',hc',ic⟩
   ·rcases hk with k|k<;>(rw[k]at a;cases a)
   ·have e:X.env.cells.lookup y=some c:=sub y c hc;rw[e]at hc';cases hc';obtain⟨o,ho,hd⟩:=ic;exact .inr ⟨kd,c,hc,⟨o,hsb _ _ ho,hd⟩⟩
 ·obtain⟨v,o,ho,hd⟩:=I.cell y c (sub y c e);exact⟨v,o,hsb _ _ ho,hd⟩
 ·have hp:p∈X.pn++pins:=by
   have hp:p∈(X.pn++pins)++[]:=hp;rwa[Z7]at hp
  obtain⟨e,n,ne,nf,d⟩:=I.pin p hp;refine⟨hsb _ _ e,n,lt e,λhz=>?_,d⟩;have hz:p.1∈frs X.stack:=hz;rcases Zo.mp (I.stkSub _ hz)with z|z
  ·exact ne z
  ·exact nf z
 ·show(none::σ).length=(x::N').length
  rw[length_cons,length_cons,I.len,S.len]
def PTs(X:Cx)(ifs:List Expr)(t:TT):Prop:=
 ∀(pins:List (Addr×Obj))(s:Shared)(σ:St)(H:Hp)(Q:Bool->Hp->Prop)(E:Value->Shared->Prop),Inv X pins σ H s->t σ H Q->
  wpAny (model X.prog X.w) X.A (forIn ifs true λc r=>if r=true then do let ok <-isTrue c X.env (eval c X.env);pure (ForInStep.yield ok)else pure (ForInStep.yield r)) (TP X pins σ Q) E s
def tYes:TT:=λ_ H Q=>Q true H
theorem a3o:PTs X [] tYes:=λ_ _ _ H _ _ I h=>wpAny_tests_nil ⟨H,I,h⟩
theorem c9v{prog:Program}{w:World}{A:Around}{R:Result->Shared->Prop}{s:Shared}{elt target iter:Expr}{ifs:List Expr}{scope:Scope}{pos:Pos}{it acc:Value}{env:Env}(J:Nat->Shared->Prop)
  (turn:∀n s,J n s->wpAny (model prog w) A (pyNext it) (λr s1=>match r with
   |none=>R (.ok .next) s1
   |some v=>wpAny (model prog w) A (letOwnedTupleGo target it v) (λ_ s2=>wpAny (model prog w) A (assign target env v) (λ_ s3=>
     wpAny (model prog w) A (forIn ifs true λc r=>if r=true then do let ok <-isTrue c env (eval c env);pure (ForInStep.yield ok)else pure (ForInStep.yield r)) (λok s4=>
      if ok=true then wpAny (model prog w) A (eval elt env) (λy s5=>wpAny (model prog w) A (call (.builtin "list.append") [acc,y]) (λ_ s6=>∃m,m<n/\J m s6) (λ_ _=>False) s5) (λ_ _=>False) s4
      else ∃m,m<n/\J m s4) (λ_ _=>False) s3) (λ_ _=>False) s2) (λ_ _=>False) s1) (λ_ _=>False) s)
  (n:Nat)(h:J n s):codeAny (model prog w) A (.compLoop (.ListComp elt [⟨target,iter,ifs,0⟩] scope pos) 0 it acc env) R s:=by
 have no:∀{α:Type}{t:Sem α}{Q:α->Shared->Prop}{E:Value->Shared->Prop}{s:Shared},wpAny (model prog w) A t Q (λ_ _=>False) s->wpAny (model prog w) A t Q E s:=
  λq=>W2 q (λ_ _ z=>z) λ_ _ z=>z.elim
 refine codeAny_loop rfl J (λn s hJ=>?_) n h;refine wpAny_noted (m:=compTurn (.ListComp elt [⟨target,iter,ifs,0⟩] scope pos) 0 it acc env) ?_;rw[compTurn_list];refine Zb (Tn (Zb (no (thn (turn n s hJ) λr s1 q1=>?_))));cases r with
 |none=>exact Zf q1
 |some v=>
  refine no ?_;refine Zb (thn q1 λ_ s2 q2=>Zb (thn q2 λ_ s3 q3=>Zb (thn q3 λok s4 q4=>?_)));cases ok with
  |false=>exact Zf ⟨rfl,q4⟩
  |true=>exact Zb (Zb (thn q4 λy s5 q5=>Zb (thn q5 λ_ s6 q6=>Zf (Zf ⟨rfl,q6⟩))))
def c1w(J:It)(tt:TT)(te:TE)(σ:St)(Q:VK)(D:Addr)(H1:Hp):Prop:=∃W:Nat->Nat->List V->Hp->Prop,(∃m,W 0 m [] (upd H1 D (.lst [])))/\
 ∀i m ys H',W i m ys H'->(J.stop i H'/\Q (.ref D) H')\/(J.go i H'/\∀v H2,J.yld i H' v H2->tt (some v::σ) H2 λb H3=>
  if b=true then te (some v::σ) H3 λy H4=>H4 D=some (.lst ys)/\ys.length<sizeLine/\∃m',m'<m/\W (i+1) m' (ys++[y]) (upd H4 D (.lst (ys++[y])))
  else ∃m',m'<m/\W (i+1) m' ys H3)
def tComp(wi:TI)(tt:TT)(te:TE):TE:=λσ H Q=>wi σ H λJ H1=>∀D,H1 D=none->c1w J tt te σ Q D H1
theorem c0p{elt iter:Expr}{x:Str}{N':List Str}{px:Pos}{ifs:List Expr}{scope:Scope}{pos:Pos}{tt:TT}{te:TE}(hc:X.calm=true)(S:b3t X scope x N')
  (ht:∀C s H fp pn,PTs (a3k X scope x N' C s H fp pn) ifs tt)(he:∀C s H fp pn,PE (a3k X scope x N' C s H fp pn) elt te){Q:VK}{itv:Value}{s2:Shared}{RR:Value->Addr->Result->Shared->Prop}
  (h2:PIE X pins σ (.Name x px) (λJ H1=>∀D,H1 D=none->c1w J tt te σ Q D H1) itv s2)
  (hend:∀(D C:Addr)(H6:Hp)(s7:Shared)(m7:Str->Option Value),Inv X pins σ H6 s7->s7.heap.Ns C m7->FpOk X pins H6 C->Q (.ref D) H6->RR (.ref D) C (.ok .next) s7):
  wpAny (model X.prog X.w) X.A (newList []) (λacc s3=>wpAny (model X.prog X.w) X.A (newFunctionEnv scope X.env.globals (clOf X.env scope.names []) [] X.env.qual none .none (some X.env)) (λcenv s4=>
   codeAny (model X.prog X.w) X.A (.compStart (.ListComp elt [⟨.Name x px,iter,ifs,0⟩] scope pos) 0 itv acc { cenv with scope:=relabel scope X.env}) (RR acc cenv.locals) s4) X.xe s3) X.xe s2:=by
 obtain⟨it,fp,tn,J,H2,e,I2,T,st2,f2,hW⟩:=h2;subst e;have hlt:∀b∈fp,b<s2.heap.objs.size:=λb hb=>by
  obtain⟨o,ho,_⟩:=T.obj _ _ st2 b hb;exact Zu ho
 obtain⟨W,⟨m0,w0⟩,hturn⟩:=hW s2.heap.objs.size (I2.hok.fresh (Zg _));refine Ys ?_ (by show 0<=sizeLine;exact Yk _);have I3:Inv X pins σ (upd H2 s2.heap.objs.size (.lst [])) { s2 with heap:=s2.heap.push { cls:=.type "list",data:=.seq ([]:List Value).toArray}}:=I2.lnew (t':=s2.toks) .nil (Yk _);have f3:∀b∈fp,FpOk X pins (upd H2 s2.heap.objs.size (.lst [])) b:=λb hb=>by
  obtain⟨g0,g⟩:=f2 b hb;exact⟨by rw[a0l (Z6 (hlt b hb))];exact g0,g⟩
 have st3:tn 0 (s2.heap.push { cls:=.type "list",data:=.seq ([]:List Value).toArray}):=T.keep _ _ _ st2 λb _ o e=>Zd _ e
 have hlt3:∀b∈fp,b<(s2.heap.push { cls:=.type "list",data:=.seq ([]:List Value).toArray}).objs.size:=λb hb=>by rw[Xh];exact Xr (hlt b hb)
 generalize hs3:({ s2 with heap:=s2.heap.push { cls:=.type "list",data:=.seq ([]:List Value).toArray}}:Shared)=s3 at I3;have eh:s3.heap=s2.heap.push { cls:=.type "list",data:=.seq ([]:List Value).toArray}:=by rw[<-hs3]
 rw[<-eh]at st3 hlt3
 show wpAny _ _ (newFunctionEnv scope X.env.globals (clOf X.env scope.names []) [] X.env.qual none .none (some X.env)) _ _ _
 refine wpAny_newFunctionEnv S.nocell (by intro y hy;simp at hy) (λh4 hns4 hsb4=>?_) S.kind;have hk4:∀b o,s3.heap.get? b=some o->h4.get? b=some o:=λb o e=>(hsb4.2 b (Z6 (Zu e))).trans (Zd _ e)
 have I4:=Inv.compIn (tk:=s3.toks+([]:List (Str×Value)).length) S I3 f3 hlt3 hns4 hk4;have st4:tn 0 h4:=T.keep _ _ _ st3 λb _ o e=>hk4 b o e
 have fx:∀{H':Hp},(∀b∈fp,H' b=none)->∀b∈fp,FpOk (a3k X scope x N' s3.heap.objs.size s3 (upd H2 s2.heap.objs.size (.lst [])) fp (X.pn++pins)) [] H' b:=λ{H'} hn b hb=>by
  obtain⟨_,g1,g2,g3,g4,g5⟩:=f3 b hb;refine⟨hn b hb,Z6 (hlt3 b hb),I4.ok.exfs b hb,.inl hb,λy c e=>(I4.ok.exf b hb).2 y c e,λp hp=>g5 p ?_⟩;have hp:p∈(X.pn++pins)++[]:=hp;rwa[Z7]at hp
 have loop:∀s5:Shared,(∃(i n:Nat)(o:Option V)(ys:List V)(H5:Hp),Inv (a3k X scope x N' s3.heap.objs.size s3 (upd H2 s2.heap.objs.size (.lst [])) fp (X.pn++pins)) [] (o::σ) H5 s5/\tn i s5.heap/\(∀b∈fp,H5 b=none)/\W i n ys H5)->
   codeAny (model X.prog X.w) X.A (.compLoop (.ListComp elt [⟨.Name x px,iter,ifs,0⟩] scope pos) 0 (.ref it) (.ref s2.heap.objs.size) (compEnvC scope (clOf X.env scope.names []) s3.heap.objs.size X.env))
    (RR (.ref s2.heap.objs.size) s3.heap.objs.size) s5:=by
  rintro s5 ⟨i5,n5,o5,ys5,H5,I5,st5,fr5,w5⟩
  refine c9v (λn s'=>∃(i:Nat)(o:Option V)(ys:List V)(H5:Hp),Inv (a3k X scope x N' s3.heap.objs.size s3 (upd H2 s2.heap.objs.size (.lst [])) fp (X.pn++pins)) [] (o::σ) H5 s'/\tn i s'.heap/\(∀b∈fp,H5 b=none)/\W i n ys H5) ?_ n5 ⟨i5,o5,ys5,H5,I5,st5,fr5,w5⟩
  rintro n s6 ⟨i,o,ys,H6,I6,st6,fr6,w6⟩
  rcases hturn i n ys H6 w6 with⟨stop,qn⟩|⟨go,step⟩
  ·refine thn (T.done (a3k X scope x N' s3.heap.objs.size s3 (upd H2 s2.heap.objs.size (.lst [])) fp (X.pn++pins)) rfl rfl rfl hc i [] s6 _ H6 _ I6 (fx fr6) st6 stop) λr s7 ⟨hr,I7⟩=>?_
   subst hr;obtain⟨m7,hn7,_⟩:=id I7.loc;have I8:Inv X pins σ H6 s7:=I3.call' I7.os I7.base I7.hok I7.bare λb hb=>by
    obtain⟨_,g1,g2,g3,g4,g5⟩:=f3 b hb;exact⟨g3,g1,g4,g5⟩
   have f8:FpOk X pins H6 s3.heap.objs.size:=I3.fpOk (Zg _) I7.free;exact hend _ _ H6 s7 m7 I8 hn7 f8 qn
  ·refine thn (T.item (a3k X scope x N' s3.heap.objs.size s3 (upd H2 s2.heap.objs.size (.lst [])) fp (X.pn++pins)) rfl rfl rfl hc i [] s6 _ H6 _ I6 (fx fr6) st6 go) λr s7 ⟨u,hr,h7⟩=>?_
   subst hr;refine thn h7 λ_ s8 z9=>?_
   obtain⟨v,H8,I8,r8,y8,st8,fr8⟩:=z9;have I8':=I8.pinned (fx fr8) (T.obj _ _ st8);refine Uy (b5u I8' (i:=0) (Xs.mpr ⟨S.nin,S.nd⟩) rfl (.inl (Sm S.loc)) r8 (λs9 I9=>?_) (.inr (Sm S.loc)));have I9:Inv (a3k X scope x N' s3.heap.objs.size s3 (upd H2 s2.heap.objs.size (.lst [])) fp (X.pn++pins)) ([]++b1o fp s8.heap) (some v::σ) H8 s9:=I9;refine thn (ht _ _ _ _ _ _ s9 (some v::σ) H8 _ _ I9 (step v H8 y8)) λb s10 z9=>?_
   obtain⟨H10,I10,q10⟩:=z9;have back:∀{s':Shared}{H':Hp}{ys':List V}{m':Nat},Inv (a3k X scope x N' s3.heap.objs.size s3 (upd H2 s2.heap.objs.size (.lst [])) fp (X.pn++pins)) ([]++b1o fp s8.heap) (some v::σ) H' s'->W (i+1) m' ys' H'->
     ∃(i:Nat)(o:Option V)(ys:List V)(H5:Hp),Inv (a3k X scope x N' s3.heap.objs.size s3 (upd H2 s2.heap.objs.size (.lst [])) fp (X.pn++pins)) [] (o::σ) H5 s'/\tn i s'.heap/\(∀b∈fp,H5 b=none)/\W i m' ys H5:=λ{s' H' ys' m'} I' w'=>by
    refine⟨i+1,some v,ys',H',I'.unpinned,T.keep _ _ _ st8 λb hb o e=>(I'.pin (b,o) (Yv _ (Yv _ (a9f hb e)))).1,λb hb=>?_,w'⟩;obtain⟨o,e,d⟩:=T.obj _ _ st8 b hb;exact(I'.pin (b,o) (Yv _ (Yv _ (a9f hb e)))).2.1
   cases b with
   |false=>
    rw[if_neg Zj]at q10 ⊢;obtain⟨m',hm,w'⟩:=q10;exact⟨m',hm,back I10 w'⟩
   |true=>
    rw[if_pos rfl]at q10 ⊢;refine thn (he _ _ _ _ _ _ s10 (some v::σ) H10 _ I10 q10) λy s11 z9=>?_
    obtain⟨yv,H11,I11,r11,hD,hz,m',hm,w'⟩:=z9;have ap:=c0m (X:=a3k X scope x N' s3.heap.objs.size s3 (upd H2 s2.heap.objs.size (.lst [])) fp (X.pn++pins)) _ s11 (some v::σ) H11 (.ref s2.heap.objs.size) [yv] (.ref s2.heap.objs.size) [y] (λ_ H'=>W (i+1) m' (ys++[yv]) H') I11 rfl (.cons r11 .nil) ⟨_,ys,yv,rfl,rfl,hD,hz,w'⟩;exact thn ap λ_ s12 ⟨_,H12,I12,_,w12⟩=>⟨m',hm,back I12 w12⟩
 have l4:=loop { s3 with heap:=h4,toks:=s3.toks+([]:List (Str×Value)).length} ⟨0,m0,none,[],_,I4,st4,λb hb=>(f3 b hb).1,w0⟩;exact codeAny_compStart_list l4 (T.self _ _ _ _ _ st4 l4)
theorem a5h{elt iter:Expr}{x:Str}{N':List Str}{px:Pos}{ifs:List Expr}{scope:Scope}{pos:Pos}{wi:TI}{tt:TT}{te:TE}(hc:X.calm=true)(hi:PI X (.Name x px) iter wi)(S:b3t X scope x N')
  (ht:∀C s H fp pn,PTs (a3k X scope x N' C s H fp pn) ifs tt)(he:∀C s H fp pn,PE (a3k X scope x N' C s H fp pn) elt te)(hs:∀x,foldedSetIterable iter X.env x=pure x:=by intro _;rfl):
  PE X (.ListComp elt [⟨.Name x px,iter,ifs,0⟩] scope pos) (tComp wi tt te):=by
 intro pins s σ H Q I h;have hcells:∀y∈scope.names,y.2=.free->∃c,X.env.cells.lookup y.1=some c:=λy hy hk=>I.ok.has y.1 (S.free y hy hk)
 rw[eval_ListComp];refine Tq (use:=none) rfl hs (b7s hcells) S.kind S.names (thn (hi pins s σ H _ I h) λxv s1 h1=>thn h1 λitv s2 h2=>?_);refine c0p (RR:=λacc C=>compPost (model X.prog X.w) X.A X.xe none (EP X pins σ Q) acc C) hc S ht he h2 λD C H6 s7 m7 I8 hn7 f8 qn=>?_
 refine⟨m7,hn7,λh' hs'=>?_⟩;obtain⟨g0,g1,g2,g3,g4,g5⟩:=f8;exact⟨.ref D,H6,I8.turned (t':=s7.toks) (λb o hb e=>(hs'.2 b hb).trans e) g0 g1 g3 g4 g5,rfl,qn⟩
theorem b4w{elt iter:Expr}{x y:Str}{N':List Str}{i:Nat}{px py:Pos}{ifs:List Expr}{scope:Scope}{pos spos:Pos}{wi:TI}{tt:TT}{te:TE}(hN:X.N.Nodup)(hiy:X.N[i]? =some y)(hy:Loc X.env.scope y)(hc:X.calm=true)(hi:PI X (.Name x px) iter wi)(S:b3t X scope x N')
  (ht:∀C s H fp pn,PTs (a3k X scope x N' C s H fp pn) ifs tt)(he:∀C s H fp pn,PE (a3k X scope x N' C s H fp pn) elt te)
  (hsw:swapsWith (.ListComp elt [⟨.Name x px,iter,ifs,0⟩] scope pos) (some (.Name y py)) spos.line X.env=pure true:=by rfl)(hs:∀x,foldedSetIterable iter X.env x=pure x:=by intro _;rfl)
  (hf:X.fn y=true\/X.env.scope.names.lookup y=some .local:=by first|exact .inl rfl|exact .inr rfl|assumption):
  PS X (.Assign [.Name y py] (.ListComp elt [⟨.Name x px,iter,ifs,0⟩] scope pos) spos) (tAsg (tComp wi tt te) (b7f i)):=by
 intro pins s σ H D I h;have hcells:∀y∈scope.names,y.2=.free->∃c,X.env.cells.lookup y.1=some c:=λy hy hk=>I.ok.has y.1 (S.free y hy hk)
 rw[exec_Assign_Name_used _ _ _ _ hsw];refine Zb (Tn (Zb ?_))
 show wpAny _ X.A (do let _ <-comprehension (.ListComp elt [⟨.Name x px,iter,ifs,0⟩] scope pos) scope X.env _ (newList []) false (eval iter X.env) (some (assign (.Name y py) X.env))) _ _ s
 refine Zb (thn (Tq (use:=some (assign (.Name y py) X.env)) (Q:=λ_ s'=>SP X pins D .next s') rfl hs (b7s hcells) S.kind S.names
  (thn (hi pins s σ H _ I h) λxv s1 h1=>thn h1 λitv s2 h2=>?_)) λ_ s' hq=>Zf (Zf hq))
 refine c0p (RR:=λacc C=>compPost (model X.prog X.w) X.A X.xe (some (assign (.Name y py) X.env)) (λ_ s'=>SP X pins D .next s') acc C) hc S ht he h2 λL C H6 s7 m7 I8 hn7 f8 qn=>?_
 obtain⟨g0,g1,g2,g3,g4,g5⟩:=f8
 show wpAny _ X.A (assign (.Name y py) X.env (.ref L)) _ _ _
 refine Uy (c0g I8 hN hiy hy (v:=.ref L) (u:=.ref L) rfl (λs8 I9 hch=>?_) hf);obtain⟨a,hsb,ha⟩:=hch;have hCa:C≠a:=by
  rcases ha with z|z
  ·rw[z];exact g1
  ·exactλw=>g4 _ _ z w.symm
 refine⟨m7,hn7.sameBut hsb hCa,λh' hs'=>?_⟩;exact⟨_,H6,I9.turned (t':=s8.toks) (λb o hb e=>(hs'.2 b hb).trans e) g0 g1 g3 g4 g5,qn⟩
end
def c9w(sc scope:Scope)(N N':List Str)(x:Str):Bool:=
 decide (scope.names.lookup x=some .local)&&scope.names.all (λy=>decide (y.2≠.cell))&&decide (scope.kind=.function)&&scope.names.all (λy=>decide (y.2=.local->scope.names.lookup y.1=some .local))&&
 scope.names.all (λy=>decide (y.2=.free->sc.names.lookup y.1=some .cell\/sc.names.lookup y.1=some .free))&&decide (x∉N')&&decide N'.Nodup&&decide (N'.length=N.length)&&
 (List.range N'.length).all (λi=>match N'[i]? with|some y=>decide (N[i]? =some y\/scope.names.lookup y=none)|none=>true)&&scope.names.all (λy=>decide (y.2=.local->y.1=x\/y.1∉N'))
theorem a3p{X:Cx}{scope:Scope}{x:Str}(sc:Scope)(N N':List Str)(hsc:X.env.scope=sc)(hN:X.N=N)(h:c9w sc scope N N' x=true):b3t X scope x N':=by
 subst hsc hN;unfold c9w at h;simp only[Wu,Xy,Uz]at h;obtain⟨⟨⟨⟨⟨⟨⟨⟨⟨h1,h2⟩,h3⟩,h4⟩,h5⟩,h6⟩,h7⟩,h7'⟩,h8'⟩,h8⟩:=h;refine⟨h1,h2,h3,h4,h5,h6,h7,h7',λi y e=>?_,h8⟩;have hi:i<N'.length:=(Zh.mp e).1;have z:=h8' i (X0.mpr hi);rw[e]at z;exact Z8 z
def Its(x:Str):It:=⟨λi _=>i<x.cps.size,λi H v H'=>H'=H/\∃c,x.cps[i]? =some c/\v=.str ⟨#[c]⟩,λi _=>x.cps.size=i⟩
theorem c2u{P:Program}{w:World}{K:W.Frag}{tg:Expr}{it:Addr}{x:Str}{t:Tok}{ty:String}
  (hty:["enumerate","zip","dict_itemiterator","dict_reverseitemiterator","odict_iterator","itertools.zip_longest","itertools.pairwise"].contains ty=false)
  (hW:∀A':Around,A'.handled=none->Walks P w A' it [it] [it] x.cps.size (SignAt x) (λi h=>h.IsStrIter it ty x t i))
  (hself:∀(A:Around)(i:Nat)(s:Shared)(Q:Value->Shared->Prop)(E:Value->Shared->Prop),s.heap.IsStrIter it ty x t i->Q (.ref it) s->wpAny (model P w) A (pyIter (.ref it)) Q E s):
  Turn P w K tg (Its x) [it] it (λi h=>h.IsStrIter it ty x t i) where
 mem:=by simp
 obj:=λi h st b hb=>by
  have e:b=it:=by simpa using hb
  subst e;obtain⟨o,e,c,d⟩:=st;exact⟨o,e,λv z=>by rw[d]at z;cases z⟩
 keep:=λi h h' st k=>by
  obtain⟨o,e,r⟩:=st;exact⟨o,k it qz o e,r⟩
 item:=by
  intro X hP hw hK hc i pins s σ H E I hf st hg;subst hP hw hK;obtain⟨f0,f1,f2,f3,f4,f5⟩:=hf it qz;refine(hW X.A (I.ok.hd hc)).item i s _ _ hg st λv h' tk hv st' kk=>?_
  obtain⟨c,u,hx,rfl⟩:=hv;have I1:Inv X pins σ H { s with heap:=h',toks:=tk}:=I.turned (λb o hb e=>kk b o (by simpa using hb) e) f0 f1 f3 f4 f5;obtain⟨o,e,c',d⟩:=id st';exact⟨_,rfl,b2w (s:={ s with heap:=h',toks:=tk}) e c' d hty ⟨.str ⟨#[c]⟩,H,I1,⟨u,rfl⟩,⟨rfl,c,hx,rfl⟩,st',λb hb=>(hf b hb).1⟩⟩
 done:=by
  intro X hP hw hK hc i pins s σ H E I hf st hg;subst hP hw hK;obtain⟨f0,f1,f2,f3,f4,f5⟩:=hf it qz;have hg:x.cps.size=i:=hg;subst hg;exact(hW X.A (I.ok.hd hc)).done s _ _ st λh' tk kk=>⟨rfl,I.turned (λb o hb e=>kk b o (by simpa using hb) e) f0 f1 f3 f4 f5⟩
 self:=hself
section
variable{X:Cx}{tg:Expr}
def iStr(tl:TE):TI:=λσ H R=>tl σ H λv H1=>∃x,v=.str x/\R (Its x) H1
theorem pi_str{l:Expr}{tl:TE}(hl:PE X l tl):PI X tg l (iStr tl):=by
 intro pins s σ H R I h;refine thn (hl pins s σ H _ I h) λv s1 z9=>?_
 obtain⟨z,H1,I1,r1,q1⟩:=z9;obtain⟨x,e,q⟩:=q1;subst e;obtain⟨t,rfl⟩:=r1;have fp:∀b∈[s1.heap.objs.size],FpOk X pins H1 b:=λb hb=>by
  have e:b=s1.heap.objs.size:=by simpa using hb
  subst e;exact I1.fpOk (Zg _) (I1.hok.fresh (Zg _))
 cases ha:x.cps.all (· <128)
 ·refine wpAny_pyIter_wide ha ?_;exact⟨s1.heap.objs.size,[s1.heap.objs.size],_,_,H1,rfl,I1.kept (t':=s1.toks) λb o e=>Zd _ e,c2u (ty:="str_iterator") (t:=t) qd (λA' hA=>Walks.strWide hA _ x t) (λ_ _ _ _ _ st hq=>wpAny_pyIter_striter_wide st hq),⟨_,Zl _ rfl,rfl,rfl⟩,fp,q⟩
 ·refine wpAny_pyIter_ascii ha ?_;exact⟨s1.heap.objs.size,[s1.heap.objs.size],_,_,H1,rfl,I1.kept (t':=s1.toks) λb o e=>Zd _ e,c2u (ty:="str_ascii_iterator") (t:=t) qd (λA' hA=>Walks.strAscii hA _ x t) (λ_ _ _ _ _ st hq=>wpAny_pyIter_striter_ascii st hq),⟨_,Zl _ rfl,rfl,rfl⟩,fp,q⟩
end
structure Row(J:It)(n:Nat)(vs:Nat->V)(Ok:Hp->Prop):Prop where
 go:∀i H,i<n->Ok H->J.go i H
 yld:∀i H v H',i<n->Ok H->J.yld i H v H'->H'=H/\v=vs i
 stop:∀H,Ok H->J.stop n H
theorem a1q(lo:Int)(n:Nat):Row (Itr lo n) n (λi=>.int (lo+i)) (λ_=>True):=⟨λi H h _=>h,λi H v H' _ _ h=>h,λH _=>Zg n⟩
theorem row_str(x:Str):Row (Its x) x.cps.size (λi=>.str ⟨#[x.cps.getD i 0]⟩) (λ_=>True):=⟨λi H h _=>h,λi H v H' hi _ h=>by
 obtain⟨e,c,hc,rfl⟩:=h;refine⟨e,?_⟩;have:x.cps.getD i 0=c:=by rw[Wm,hc];rfl
 rw[this],λH _=>rfl⟩
theorem a4x{K:W.Frag}{a:Addr}{xs:List V}:Row (Itl K a) xs.length (λi=>xs.getD i .non) (λH=>SqL K H a xs):=⟨λi H h q=>⟨xs,xs[i],q,by simp[h]⟩,λi H v H' hi q h=>by
 obtain⟨e,y⟩:=h;refine⟨e,?_⟩;have:=y xs q
 rw[Zk,this];rfl,λH q=>⟨xs,q,Zg _⟩⟩
theorem b4x{K:W.Frag}{a:Addr}{xs:List V}:Row (Itt K a) xs.length (λi=>xs.getD i .non) (λH=>SqT K H a xs):=⟨λi H h q=>⟨xs,xs[i],q,by simp[h]⟩,λi H v H' hi q h=>by
 obtain⟨e,y⟩:=h;refine⟨e,?_⟩;have:=y xs q
 rw[Zk,this];rfl,λH q=>⟨xs,q,Zg _⟩⟩
def ForW(J:It)(g:TG)(tb:TS)(D:Ends)(σ:St)(H:Hp):Prop:=∃W:Nat->Nat->St->Hp->Prop,(∃m,W 0 m σ H)/\∀i m σ H,W i m σ H->
   (J.stop i H/\D.nx σ H)\/(J.go i H/\∃N:St->Hp->Prop,(∀σ' H',N σ' H'->∃m',m'<m/\W (i+1) m' σ' H')/\∀x H',J.yld i H x H'->g x σ H' λσ2 H2=>tb { D with nx:=N,ct:=N,bk:=D.nx} σ2 H2)
theorem a1t{J:It}{n:Nat}{vs:Nat->V}{Ok:Hp->Prop}(R:Row J n vs Ok){g:TG}{tb:TS}{D:Ends}{σ:St}{H:Hp}(Pv:Nat->St->Hp->Prop)(h0:Pv 0 σ H)(hok:∀i σ H,Pv i σ H->Ok H)
  (hs:∀i σ H,i<n->Pv i σ H->g (vs i) σ H λσ2 H2=>tb { D with nx:=Pv (i+1),ct:=Pv (i+1),bk:=D.nx} σ2 H2)(hd:∀σ H,Pv n σ H->D.nx σ H):
  ForW J g tb D σ H:=by
 refine⟨λi m σ H=>m=n-i/\i<=n/\Pv i σ H,⟨n,qz,Yk _,h0⟩,?_⟩
 rintro i m σ H ⟨rfl,hi,p⟩
 by_cases hlt:i<n
 ·refine .inr ⟨R.go i H hlt (hok i σ H p),Pv (i+1),λσ' H' p'=>⟨n-(i+1),qo,rfl,hlt,p'⟩,λx H' y=>?_⟩;obtain⟨e1,e2⟩:=R.yld i H x H' hlt (hok i σ H p) y;subst e1 e2;exact hs i σ _ hlt p
 ·have e:i=n:=by omega
  subst e;exact .inl ⟨R.stop H (hok i σ H p),hd σ H p⟩
theorem a2z{J:It}{n:Nat}{vs:Nat->V}{Ok:Hp->Prop}(R:Row J n vs Ok){te:TE}{Q:VK}{σ:St}{H1:Hp}{D:Addr}(Pv:Nat->List V->Hp->Prop)(hn:n<=sizeLine)(h0:Pv 0 [] (upd H1 D (.lst [])))(hok:∀i ys H,Pv i ys H->Ok H)
  (hs:∀i ys H (Q':VK),i<n->ys.length=i->Pv i ys H->(∀y H4,H4 D=some (.lst ys)->Pv (i+1) (ys++[y]) (upd H4 D (.lst (ys++[y])))->Q' y H4)->te (some (vs i)::σ) H Q')
  (hd:∀ys H,ys.length=n->Pv n ys H->Q (.ref D) H):
  c1w J tYes te σ Q D H1:=by
 refine⟨λi m ys H=>m=n-i/\i<=n/\ys.length=i/\Pv i ys H,⟨n,qz,Yk _,rfl,h0⟩,?_⟩
 rintro i m ys H ⟨rfl,hi,hl,p⟩
 by_cases hlt:i<n
 ·refine .inr ⟨R.go i H hlt (hok i ys H p),λv H2 y=>?_⟩;obtain⟨e1,e2⟩:=R.yld i H v H2 hlt (hok i ys H p) y;subst e1 e2;exact hs i ys _ _ hlt hl p λv H4 q1 q2=>⟨q1,qo,n-(i+1),qo,rfl,hlt,by simp[hl],q2⟩
 ·have e:i=n:=by omega
  subst e;exact .inl ⟨R.stop H (hok _ ys H p),hd ys H hl p⟩
def mVar(i:Nat):TE:=λσ H Q=>match σ[i]? with|some (some v)=>Q v H|_=>False
def mB(Q:Bool->Hp->Prop):VK:=λz H'=>match z with| .bl k=>Q k H'|_=>False
theorem c1x(Q:Bool->Hp->Prop):mB Q=λz H'=>∃k,z=.bl k/\Q k H':=by
 funext z H'
 cases z<;>simp[mB]
section
variable{X:Cx}{a b c e:Expr}{ta tb tc te:TE}{pos:Pos}
theorem mv(i:Nat){x:Str}{pos:Pos}(hN:X.N[i]? =some x:=by rfl)(hv:Vis X.env.scope x:=by first|exact Or.inl rfl|exact Or.inr (Or.inl rfl)|exact Or.inr (Or.inr rfl))(hd:(x==("__debug__":Str))=false:=by decide)
  (hcd:(x==("__classdict__":Str))=false:=by decide):PE X (.Name x pos) (mVar i):=by
 intro pins s σ H Q I h;refine pe_var hN hv hd hcd pins s σ H Q I ?_;unfold mVar at h;split at h
 ·rename_i v q;exact⟨v,q,h⟩
 ·exact h.elim
def m2(C:Int->Int->Prop)(g:Int->Int->V):R2:=λx y H Q=>match x,y with
 | .int i,.int j=>C i j/\Q (g i j) H
 |_,_=>False
def m20(g:Int->Int->V):R2:=λx y H Q=>match x,y with
 | .int i,.int j=>Q (g i j) H
 |_,_=>False
theorem b7t{C:Int->Int->Prop}{g:Int->Int->V}{x y:V}{H:Hp}{Q:VK}(h:m2 C g x y H Q):rI C g x y H Q:=by
 cases x<;>cases y<;>first|exact(show False from h).elim|exact⟨_,_,rfl,rfl,h⟩
theorem b1t{g:Int->Int->V}{x y:V}{H:Hp}{Q:VK}(h:m20 g x y H Q):rI0 g x y H Q:=by
 cases x<;>cases y<;>first|exact(show False from h).elim|exact⟨_,_,rfl,rfl,h⟩
theorem OpR.imp{f:Value->Value->Sem Value}{r r':R2}(h:OpR X f r)(k:∀x y H Q,r' x y H Q->r x y H Q):OpR X f r':=λpins s σ H x y v u Q I rx ry q=>h pins s σ H x y v u Q I rx ry (k x y H Q q)
def mAdd(K:W.Frag):R2:=λx y H Q=>match x,y with
 | .int i,.int j=>Q (.int (i+j)) H
 | .str i,.str j=>i.length+j.length<=sizeLine/\Q (.str (i++j)) H
 | .ref p,.ref q=>(∃xs ys,H p=some (.lst xs)/\H q=some (.lst ys)/\xs.length+ys.length<=sizeLine/\∀d,H d=none->Q (.ref d) (upd H d (.lst (xs++ys))))\/
   ∃xs ys,SqT K H p xs/\SqT K H q ys/\xs≠[]/\xs.length+ys.length<=sizeLine/\(ys=[]->Q (.ref p) H)/\(ys≠[]->∀d,H d=none->Q (.ref d) (upd H d (.tup (xs++ys))))
 |_,_=>False
theorem mo_add:OpR X (binaryOp .Add) (mAdd X.K):=by
 refine(op_add.or (c7c.or (op_cat.or op_catT))).imp λx y H Q h=>?_
 cases x<;>cases y<;>first
  |exact(show False from h).elim
  |exact .inl ⟨_,_,rfl,rfl,h⟩
  |exact .inr (.inl ⟨_,_,rfl,rfl,h⟩)
  | (rcases h with⟨xs,ys,h1,h2,h3,h4⟩|⟨xs,ys,h1,h2,h3,h4,h5⟩
     ·exact .inr (.inr (.inl ⟨_,_,xs,ys,rfl,rfl,h1,h2,h3,h4⟩))
     ·exact .inr (.inr (.inr ⟨_,_,xs,ys,rfl,rfl,h1,h2,h3,h4,h5⟩)))
theorem a3d:OpR X (binaryOp .Sub) (m20 λi j=>.int (i-j)):=op_sub.imp λ_ _ _ _ h=>b1t h
def mMul:R2:=λx y H Q=>match x,y with
 | .int i,.int j=>IntMulOk i j/\Q (.int (i*j)) H
 | .ref l,.int k=>∃xs,H l=some (.lst xs)/\-(2^63)<=k/\k<2^63/\xs.length*k.toNat<=sizeLine/\∀p,H p=none->Q (.ref p) (upd H p (.lst (List.replicate k.toNat xs).flatten))
 |_,_=>False
theorem op_mulW:OpR X (binaryOp .Mult) (rI (λi j=>IntMulOk i j) λi j=>.int (i*j)):=opI λ_ _ _ _ _ _ _ hc q=>mul_int q hc
theorem a8q:OpR X (binaryOp .Mult) mMul:=by
 refine(op_mulW.or op_rep).imp λx y H Q h=>?_
 cases x<;>cases y<;>first
  |exact(show False from h).elim
  |exact .inl ⟨_,_,rfl,rfl,h⟩
  | (obtain⟨xs,h1,h2,h3,h4,h5⟩:=h;exact .inr ⟨_,_,xs,rfl,rfl,h1,h2,h3,h4,h5⟩)
theorem c5s:OpR X (binaryOp .FloorDiv) (m2 CDiv λi j=>.int (i/j)):=op_fdiv.imp λ_ _ _ _ h=>b7t h
theorem b0d:OpR X (binaryOp .Mod) (m2 (λ_ j=>0<j) λi j=>.int (i%j)):=op_mod.imp λ_ _ _ _ h=>b7t h
theorem c2v:OpR X (binaryOp .Pow) (m2 CPow λi j=>.int (i^j.toNat)):=op_pow.imp λ_ _ _ _ h=>b7t h
theorem b4y:OpR X (compareOp .Lt) (m20 λi j=>.bl (decide (i<j))):=op_lt.imp λ_ _ _ _ h=>b1t h
theorem mo_le:OpR X (compareOp .LtE) (m20 λi j=>.bl (decide (i<=j))):=op_le.imp λ_ _ _ _ h=>b1t h
theorem mo_gt:OpR X (compareOp .Gt) (m20 λi j=>.bl (decide (j<i))):=op_gt.imp λ_ _ _ _ h=>b1t h
theorem mo_ge:OpR X (compareOp .GtE) (m20 λi j=>.bl (decide (j<=i))):=op_ge.imp λ_ _ _ _ h=>b1t h
def mEq(n:Bool):R2:=λx y H Q=>match x,y with
 | .int i,.int j=>Q (.bl (n^^decide (i=j))) H
 | .str i,.str j=>Q (.bl (n^^decide (i=j))) H
 | .bl i,.bl j=>Q (.bl (n^^decide (i=j))) H
 | .non,.non=>Q (.bl (n^^true)) H
 | .non,.int _=>Q (.bl n) H
 | .non,.str _=>Q (.bl n) H
 | .non,.bl _=>Q (.bl n) H
 | .int _,.non=>Q (.bl n) H
 | .str _,.non=>Q (.bl n) H
 | .bl _,.non=>Q (.bl n) H
 | .int _,.str _=>Q (.bl n) H
 | .str _,.int _=>Q (.bl n) H
 | .bl _,.str _=>Q (.bl n) H
 | .str _,.bl _=>Q (.bl n) H
 |_,_=>False
theorem a1g:OpR X (compareOp .Eq) (mEq false):=by
 refine op_eq.imp λx y H Q h=>?_
 cases x<;>cases y<;>first
  |exact(show False from h).elim
  |exact⟨rfl,by simpa using(show Q _ H from h)⟩
theorem a9j:OpR X (compareOp .NotEq) (mEq true):=by
 refine op_ne.imp λx y H Q h=>?_
 cases x<;>cases y<;>first
  |exact(show False from h).elim
  |exact⟨rfl,by simpa using(show Q _ H from h)⟩
def c1y(t:TE):TT:=λσ H Q=>t σ H (mB Q)
theorem c2w(t:TE):c1y t=tTest t:=by
 funext σ H Q
 show t σ H (mB Q)=t σ H _
 rw[c1x]
theorem a0s{op:CmpOp}{r:R2}(ho:OpR X (compareOp op) r)(ha:PE X a ta)(hb:PE X b tb)(hm:behindInMarks op b=false):PT X (.Compare a [op] [b] pos) (c1y (tOp r ta tb)):=by
 rw[c2w];exact pt_cmpR ho ha hb hm
def b7u(r r':R2)(ta tb tc:TE):TE:=λσ H Q=>ta σ H λx H1=>tb σ H1 λy H2=>r x y H2 (mB λk H3=>if k=true then tc σ H3 λw' H4=>r' y w' H4 Q else Q (.bl false) H3)
theorem c9x(r r':R2)(ta tb tc:TE):b7u r r' ta tb tc=c2k r r' ta tb tc:=by
 funext σ H Q
 unfold b7u c2k;simp only[c1x]
theorem d3i{op op':CmpOp}{r r':R2}(ho:OpR X (compareOp op) r)(ho':OpR X (compareOp op') r')(ha:PE X a ta)(hb:PE X b tb)(hc:PE X c tc)
  (hm:lastMarks [op,op'] [b,c]=false:=by with_unfolding_all rfl):PT X (.Compare a [op,op'] [b,c] pos) (c1y (b7u r r' ta tb tc)):=by
 rw[c2w,c9x];exact d2v ho ho' ha hb hc hm
def mTru(K:W.Frag)(Q:Bool->Hp->Prop):VK:=λx H=>match x with
 | .non=>Q false H
 | .bl b=>Q b H
 | .int i=>Q (decide (i≠0)) H
 | .str y=>y.length<=sizeLine/\Q (decide (y.length≠0)) H
 | .ref p=>(∃xs,SqL K H p xs/\Q (!xs.isEmpty) H)\/(∃xs,SqT K H p xs/\Q (!xs.isEmpty) H)\/∃kvs,H p=some (.dK kvs)/\Q (!kvs.isEmpty) H
 |_=>False
theorem c5t{K:W.Frag}{Q:Bool->Hp->Prop}{x:V}{H:Hp}(h:mTru K Q x H):∃k,TruV K x H k/\Q k H:=by
 cases x with
 |non=>exact⟨_,rfl,h⟩
 |bl b=>exact⟨_,rfl,h⟩
 |int i=>
  have h:Q (decide (i≠0)) H:=h;refine⟨i !=0,rfl,?_⟩;have e:(i !=0)=decide (i≠0):=by
   rw[Xv];simp
  rw[e];exact h
 |str y=>
  obtain⟨h1,h⟩:y.length<=sizeLine/\Q (decide (y.length≠0)) H:=h;refine⟨((y.length:Int) !=0),⟨h1,rfl⟩,?_⟩;have e:((y.length:Int) !=0)=decide (y.length≠0):=by
   rw[Xv];simp
  rw[e];exact h
 |ref p=>
  rcases h with⟨xs,h1,h2⟩|⟨xs,h1,h2⟩|⟨xs,h1,h2⟩
  ·exact⟨_,.inl ⟨xs,h1,rfl⟩,h2⟩
  ·exact⟨_,.inr (.inl ⟨xs,h1,rfl⟩),h2⟩
  ·exact⟨_,.inr (.inr ⟨xs,h1,rfl⟩),h2⟩
 |_=>exact(show False from h).elim
def mTrue(K:W.Frag)(ta:TE):TT:=λσ H Q=>ta σ H (mTru K Q)
theorem mt_tru(ha:PE X a ta)(he:∀whole,isTrue a X.env whole=(do let v <-whole;standAt a.pos;holding [v] (truthy v)):=by intro _;rfl):PT X a (mTrue X.K ta):=by
 intro pins s σ H Q I h;exact isTrue_plain (thn (ha pins s σ H _ I h) λv s1 ⟨x,H1,I1,r1,q1⟩=>c9c pins s1 σ H1 x v Q I1 r1 (c5t q1)) (he _)
def c1z(ta tb:TE):TE:=λσ H Q=>ta σ H (mB λc H1=>if c=true then tb σ H1 Q else Q (.bl false) H1)
def mOrV(ta tb:TE):TE:=λσ H Q=>ta σ H (mB λc H1=>if c=true then Q (.bl true) H1 else tb σ H1 Q)
variable{rest:List Expr}
theorem a7n(ha:PE X a ta)(hb:PE X (.BoolOp .And (b::rest) pos) tb):PE X (.BoolOp .And (a::b::rest) pos) (c1z ta tb):=by
 have e:c1z ta tb=tAndV ta tb:=by funext σ H Q;unfold c1z tAndV;rw[c1x]
 rw[e];exact pe_and ha hb
theorem me_or(ha:PE X a ta)(hb:PE X (.BoolOp .Or (b::rest) pos) tb):PE X (.BoolOp .Or (a::b::rest) pos) (mOrV ta tb):=by
 have e:mOrV ta tb=tOrV ta tb:=by funext σ H Q;unfold mOrV tOrV;rw[c1x]
 rw[e];exact pe_or ha hb
def mIx(K:W.Frag):R2:=λx y H Q=>match x,y with
 | .ref p,.int i=>(∃xs v,SqL K H p xs/\atI xs i=some v/\Q v H)\/∃xs v,SqT K H p xs/\atI xs i=some v/\Q v H
 | .str z,.int i=>z.length<=sizeLine/\∃c,atI z.cps.toList i=some c/\Q (.str ⟨#[c]⟩) H
 |_,_=>False
theorem mi_seq:IxR X (mIx X.K):=by
 intro value slice pins s σ H x y v u Q I rx ry h hs;refine ix_seq value slice pins s σ H x y v u Q I rx ry ?_ hs;cases x<;>cases y<;>first
  |exact(show False from h).elim
  | (rcases h with⟨xs,v,h1,h2,h3⟩|⟨xs,v,h1,h2,h3⟩
     ·exact .inl ⟨_,xs,_,v,rfl,rfl,h1,h2,h3⟩
     ·exact .inr (.inl ⟨_,xs,_,v,rfl,rfl,h1,h2,h3⟩))
  | (obtain⟨h1,c,h2,h3⟩:=h;exact .inr (.inr ⟨_,_,c,rfl,rfl,h1,h2,h3⟩))
def inS(i j:Str):Bool:=!(Builtin.Str.occurrences j i 0 j.length 1).isEmpty
def mInS(n:Bool):R2:=λx y H Q=>match x,y with
 | .str i,.str j=>Q (.bl (n^^inS i j)) H
 |_,_=>False
theorem b7v:OpR X (compareOp .In) (mInS false):=c9b.imp λx y H Q h=>by
 cases x<;>cases y<;>first|exact(show False from h).elim|exact⟨_,_,rfl,rfl,by simpa[mInS,inS]using h⟩
def mI(R:Option Int->Hp->Prop):VK:=λx H1=>match x with| .int i=>R (some i) H1|_=>False
def c2a(t:TE):TO:=λσ H Q=>t σ H (mI Q)
theorem a5i(h:PE X e te):PO X (some e) (c2a te):=by
 have q:c2a te=tPart te:=by
  funext σ H Q
  unfold c2a tPart
  congr 1
  funext x H1
  cases x<;>simp[mI]
 rw[q];exact po_some h
def mLen(K:W.Frag):List V->Hp->VK->Prop:=λvs H Q=>match vs with
 | [.str y]=>y.length<=sizeLine/\Q (.int y.length) H
 | [.ref p]=>(∃xs,SqL K H p xs/\Q (.int xs.length) H)\/∃xs,SqT K H p xs/\Q (.int xs.length) H
 |_=>False
theorem mc_len:a2w X (.builtin "len") (mLen X.K):=by
 intro pins s σ H xs us Q I r h;refine d2w pins s σ H xs us Q I r ?_;rcases xs with _|⟨x,_|⟨y,ys⟩⟩
 ·exact(show False from h).elim
 ·cases x with
  |str y=>
   have h:y.length<=sizeLine/\Q (.int y.length) H:=h;exact⟨_,_,rfl,⟨h.1,rfl⟩,h.2⟩
  |ref p=>
   have h:(∃xs,SqL X.K H p xs/\Q (.int xs.length) H)\/∃xs,SqT X.K H p xs/\Q (.int xs.length) H:=h;rcases h with⟨ys,h1,h2⟩|⟨ys,h1,h2⟩
   ·exact⟨_,_,rfl,.inl ⟨ys,h1,rfl⟩,h2⟩
   ·exact⟨_,_,rfl,.inr ⟨ys,h1,rfl⟩,h2⟩
  |_=>exact(show False from h).elim
 ·cases x<;>exact(show False from h).elim
theorem b0e(K:W.Frag)(t:Value):W.kitOne K t t=some true:=by
 unfold W.kitOne;rw[if_pos qz]
theorem c5u:∀{bs:List Bool}{us:List Value},Vals (bs.map V.bl) us->us=bs.map Value.bool
 | [],_,.nil=>rfl
 |b::bs,_,.cons r t=>by
  have r:_=Value.bool b:=r;rw[Zp,r,c5u t]
theorem all_range(bs:List Bool):((List.range bs.length).all λi=>bs.getD i true)=bs.all id:=by
 rw[Xv,Xy,Xy]
 constructor
 ·intro h x hx;obtain⟨i,hi,e⟩:=S3 hx;have:=h i (X0.mpr hi);rw[Zk,Za hi]at this
  simpa[e]using this
 ·intro h i hi;have hi:=X0.mp hi;rw[Zk,Za hi];exact h _ (Zx hi)
def mAll(K:W.Frag)(f:List Bool->Bool):List V->Hp->VK->Prop:=λvs H Q=>match vs with
 | [.ref p]=>∃bs:List Bool,SqL K H p (bs.map V.bl)/\Q (.bl (f bs)) H
 |_=>False
theorem c9y{pins:List (Addr×Obj)}{s:Shared}{σ:St}{H:Hp}{p:Addr}{bs:List Bool}{Q:VK}(hc:X.calm=true)(I:Inv X pins σ H s)(hs:SqL X.K H p (bs.map V.bl))(f:(Nat->Bool)->Nat->Bool)(q:Q (.bl (f (λi=>bs.getD i true) bs.length)) H){E:Value->Shared->Prop}:
  wpAny (model X.prog X.w) X.A.in1 (pyIter (.ref p)) (λit s2=>∃J fp wr n P St tr,it=.ref J/\Walks X.prog X.w X.A.in1 J fp wr n P St/\St 0 s2.heap/\TruthOf X.prog X.w X.A.in1 P tr/\
   ∀h' tk,(∀b o,b∉wr->s2.heap.get? b=some o->h'.get? b=some o)->EP X pins σ Q (.bool (f tr n)) { s2 with heap:=h',toks:=tk}) E s:=by
 obtain⟨its,r,pl,hz⟩:=I.list hs;have e:=c5u r;subst e;have hl:p<s.heap.objs.size:=by
  obtain⟨o,n,h1,_⟩:=pl;exact Zu h1
 refine W5 pl.isList ?_
 refine⟨s.heap.objs.size,[s.heap.objs.size,p],[s.heap.objs.size],(bs.map Value.bool).toArray.size,_,_,λi=>bs.getD i true,rfl,Re (A:=X.A.in1) (show X.A.in1.handled=none from I.ok.hd hc) s.heap.objs.size p (Z6 hl) (bs.map Value.bool).toArray,
  ⟨⟨_,Zl _ rfl,rfl,rfl⟩,pl.isList.at λo e=>Zd _ e⟩,λi v s' Q' E' hv hq=>?_,λh' tk hk=>?_⟩
 ·have hv:(bs.map Value.bool).toArray[i]? =some v:=hv
  rw[Vd,Zs]at hv;cases e:bs[i]? with
  |none=>rw[e]at hv;cases hv
  |some b=>
   rw[e]at hv;have hv:Value.bool b=v:=Zi hv;subst hv;have hq:Q' (bs.getD i true) s':=hq;rw[Zk,e]at hq;exact Xq hq
 ·refine⟨.bl _,H,I.kept (λb o e=>hk b o ?_ (Zd _ e)),rfl,by simpa using q⟩;intro z;have z:b=s.heap.objs.size:=by simpa using z
  exact absurd (Zu e) (by rw[z];exact Yt _)
theorem mc_all(hc:X.calm=true):a2w X (.builtin "all") (mAll X.K λbs=>bs.all id):=by
 intro pins s σ H xs us Q I r h;unfold mAll at h;split at h
 ·obtain⟨u,rfl,r1⟩:=vals1 r;cases r1;obtain⟨bs,hs,q⟩:=h;exact call_all_walk (c9y hc I hs (λtr n=>(List.range n).all tr) (by rw[all_range];exact q))
 ·exact h.elim
end
section
variable{X:Cx}{a b c e:Expr}{ta tb tc te:TE}{pos:Pos}
def mNotV(K:W.Frag)(ta:TE):TE:=λσ H Q=>ta σ H (mTru K λb H'=>Q (.bl (!b)) H')
theorem me_not(ha:PE X a ta):PE X (.UnaryOp .Not a pos) (mNotV X.K ta):=by
 intro pins s σ H Q I h;refine UnaryOp_ (thn (ha pins s σ H _ I h) λv s1 z9=>?_);obtain⟨x,H1,I1,r1,q1⟩:=z9;exact not_of (thn (c9c pins s1 σ H1 x v _ I1 r1 (c5t q1)) λb s2 ⟨H2,I2,q2⟩=>⟨.bl (!b),H2,I2,rfl,q2⟩)
def b9n:V->List V->Hp->VK->Prop:=λx vs H Q=>match x,vs with
 | .ref l,[y]=>∃xs,H l=some (.lst xs)/\xs.length<sizeLine/\Q .non (upd H l (.lst (xs++[y])))
 |_,_=>False
theorem a5s:MtR X "list.append" b9n:=by
 intro pins s σ H x xs v us Q I rx rs h;refine c0m pins s σ H x xs v us Q I rx rs ?_;unfold b9n at h;split at h
 ·obtain⟨ys,h1,h2,h3⟩:=h;exact⟨_,ys,_,rfl,rfl,h1,h2,h3⟩
 ·exact h.elim
def mPop:V->List V->Hp->VK->Prop:=λx vs H Q=>match x,vs with
 | .ref l,[]=>∃xs y,H l=some (.lst (xs++[y]))/\Q y (upd H l (.lst xs))
 |_,_=>False
theorem c9z:MtR X "list.pop" mPop:=by
 intro pins s σ H x xs v us Q I rx rs h;refine mt_pop pins s σ H x xs v us Q I rx rs ?_;unfold mPop at h;split at h
 ·obtain⟨ys,y,h1,h2⟩:=h;exact⟨_,_,y,rfl,rfl,h1,qz,by rw[Sv];exact h2⟩
 ·exact h.elim
def mRev:V->List V->Hp->VK->Prop:=λx vs H Q=>match x,vs with
 | .ref l,[]=>∃xs,H l=some (.lst xs)/\Q .non (upd H l (.lst xs.reverse))
 |_,_=>False
theorem c7k:MtR X "list.reverse" mRev:=by
 intro pins s σ H x xs v us Q I rx rs h;refine c7j pins s σ H x xs v us Q I rx rs ?_;unfold mRev at h;split at h
 ·obtain⟨ys,h1,h2⟩:=h;exact⟨_,_,rfl,rfl,h1,h2⟩
 ·exact h.elim
def mUn(g:Int->Int):V->Hp->VK->Prop:=λx H Q=>match x with| .int i=>Q (.int (g i)) H|_=>False
theorem b3u:UnR X (unaryOp .USub) (mUn λi=>-i):=by
 intro pins s σ H x v Q I rx h;refine un_neg pins s σ H x v Q I rx ?_;cases x<;>first|exact(show False from h).elim|exact⟨_,rfl,h⟩
end
section
variable{X:Cx}
theorem a6e{x:Str}{z:Str}{tk:Tok}{pos:Pos}(hg:Gl X x)(hm:X.mg x=some (.str z tk))(hd:(x==("__debug__":Str))=false:=by decide):PE X (.Name x pos) (tC (.str z)):=b9k hg hm ⟨tk,rfl⟩ hd
theorem pe_gint{x:Str}{z:Int}{tk:Tok}{pos:Pos}(hg:Gl X x)(hm:X.mg x=some (.int z tk))(hd:(x==("__debug__":Str))=false:=by decide):PE X (.Name x pos) (tC (.int z)):=b9k hg hm ⟨tk,rfl⟩ hd
end
section
variable{X:Cx}{a b c e o:Expr}{es:List Expr}{ta tb tc te to:TE}{t:TA}{pos:Pos}{tg l:Expr}{tl:TE}
theorem a5t{x:Str}{n:String}{pos:Pos}(hg:Gl X x)(hm:X.mg x=none)(hv:bootBuiltins x=some (.type n))(hn:x≠"__name__":=by decide)(hd:(x==("__debug__":Str))=false:=by decide):PE X (.Name x pos) (tC (.ty n)):=pe_bltn hg hm hv rfl hn hd
theorem a1d(K:W.Frag)(h:X.K=K):OpR X (binaryOp .Add) (mAdd K):=h▸mo_add
theorem a2q(K:W.Frag)(h:X.K=K)(ha:PE X a ta)(he:∀whole,isTrue a X.env whole=(do let v <-whole;standAt a.pos;holding [v] (truthy v)):=by intro _;rfl):PT X a (mTrue K ta):=h▸mt_tru ha he
theorem ke_not(K:W.Frag)(h:X.K=K)(ha:PE X a ta):PE X (.UnaryOp .Not a pos) (mNotV K ta):=h▸me_not ha
theorem a0h(K:W.Frag)(h:X.K=K):IxR X (mIx K):=h▸mi_seq
theorem a1k(K:W.Frag)(h:X.K=K):a2w X (.builtin "len") (mLen K):=h▸mc_len
theorem kc_all(K:W.Frag)(h:X.K=K)(hc:X.calm=true):a2w X (.builtin "all") (mAll K λbs=>bs.all id):=h▸mc_all hc
theorem a6z(K:W.Frag)(h:X.K=K)(hl:PE X l tl):PI X tg l (iList K tl):=h▸pi_list hl
theorem b9o(K:W.Frag)(h:X.K=K)(hl:PE X l tl):PI X tg l (iTup K tl):=h▸pi_tup hl
theorem b7w(K:W.Frag)(h:X.K=K){name:Str}{apos cpos:Pos}{T id:String}{r:V->List V->Hp->VK->Prop}(pa:PlainAttrs T)(slot:Slot T name id)(hty:typeOf (.builtin id)=pure (.type "method_descriptor"))(hm:MtR X id r)(ho:PE X o to)
  (hbase:attributeBase o name X.env (eval o X.env)=eval o X.env:=by rfl)(hline:(apos.endLine==cpos.line)=true:=by rfl):PE X (.Call (.Attribute o name apos) [] [] cpos) (tBM0 K T r to):=h▸pe_bm0 pa slot hty hm ho hbase hline
theorem a6f(K:W.Frag)(h:X.K=K){name:Str}{apos cpos:Pos}{T id:String}{r:V->List V->Hp->VK->Prop}(pa:PlainAttrs T)(slot:Slot T name id)(hty:typeOf (.builtin id)=pure (.type "method_descriptor"))(hm:MtR X id r)(ho:PE X o to)(ha:PA X (e::es) t)
  (hbase:attributeBase o name X.env (eval o X.env)=eval o X.env:=by rfl)
  (hfew:((backTo cpos (starEach (e::es) X.env)).all (λx=>!x.1)&&(backToKw cpos (keywordEach [] X.env)).all (λx=>x.1.isSome)
   &&decide ((e::es).length+([]:List Keyword).length+(if([]:List Keyword).isEmpty then 0 else 1)<30))=true:=by rfl)
  (hline:(apos.endLine==cpos.line)=true:=by rfl)(hs:starEach (e::es) X.env=(false,eval e X.env)::starEach es X.env:=by rfl)(hplain:(backTo cpos (starEach es X.env)).any (·.1)=false:=by rfl):
  PE X (.Call (.Attribute o name apos) (e::es) [] cpos) (tBM K T r to t):=h▸pe_bm pa slot hty hm ho ha hbase hfew hline hs hplain
end
theorem b9p(c:Nat)(j:Str):inS ⟨#[c]⟩ j=decide (c∈j.cps.toList):=PySem.StrLaws.found_one j c
theorem a5u{α:Type}{xs:List α}{i:Int}(h0:0<=i)(h1:i<(xs.length:Int)):∃v,atI xs i=some v/\xs[i.toNat]? =some v:=by
 have hk:i.toNat<xs.length:=by omega
 have ek:i=((i.toNat:Nat):Int):=by omega
 have q:xs[i.toNat]? =some xs[i.toNat]:=Za hk
 refine⟨xs[i.toNat],?_,q⟩;have:=a3n q;rw[<-ek]at this;exact this
theorem a0f{H:Hp}{p:Addr}(h:H p=none)(o:HO):Same H (upd H p o):=λb u q=>by rw[a0l (a1m q h)];exact q
theorem a1c{H H':Hp}{p:Addr}{o:HO}(e:Same H H')(h:H p=none):Same H (upd H' p o):=λb u q=>by rw[a0l (a1m q h)];exact e b u q
theorem Same.tup{K:W.Frag}{H H':Hp}{a:Addr}{xs:List V}(e:Same H H')(h:SqT K H a xs):SqT K H' a xs:=by
 rcases h with(h|⟨o,h⟩)|h
 ·exact .inl (.inl (e _ _ h))
 ·exact .inl (.inr ⟨o,e _ _ h⟩)
 ·exact .inr h
theorem cdiv_i{i j:Int}(h1:0<j)(h2:j<1073741824):CDiv i j:=⟨h1,h2⟩
theorem a6v{i j:Int}(h:-(2^64)<j/\j<2^64):IntMulOk i j:=CMul.ok (.inr h)
theorem a9k{i j:Int}(h:-(2^64)<i/\i<2^64):IntMulOk i j:=CMul.ok (.inl h)
section
variable{K:W.Frag}{σ:St}{H:Hp}{Q:VK}{D:Ends}{ta tb tc te:TE}{t u:TS}{A B:TT}{P:Bool->Hp->Prop}{v x y:V}{i j:Int}{n:Nat}{b:Bool}{p q:Str}
theorem c2x(h:σ[n]? =some (some v))(k:Q v H):mVar n σ H Q:=by unfold mVar;rw[h];exact k
theorem tC_i(k:Q v H):tC v σ H Q:=k
theorem tOp_i{r:R2}(k:ta σ H λx H1=>tb σ H1 λy H2=>r x y H2 Q):tOp r ta tb σ H Q:=k
theorem tUn_i{r:V->Hp->VK->Prop}(k:ta σ H λx H1=>r x H1 Q):tUn r ta σ H Q:=k
theorem mUn_i{g:Int->Int}(k:Q (.int (g i)) H):mUn g (.int i) H Q:=k
theorem m20_i{g:Int->Int->V}(k:Q (g i j) H):m20 g (.int i) (.int j) H Q:=k
theorem m2_i{C:Int->Int->Prop}{g:Int->Int->V}(c:C i j)(k:Q (g i j) H):m2 C g (.int i) (.int j) H Q:=⟨c,k⟩
theorem mAdd_i(k:Q (.int (i+j)) H):mAdd K (.int i) (.int j) H Q:=k
theorem b3v(c:p.length+q.length<=sizeLine)(k:Q (.str (p++q)) H):mAdd K (.str p) (.str q) H Q:=⟨c,k⟩
theorem a7o(c:IntMulOk i j)(k:Q (.int (i*j)) H):mMul (.int i) (.int j) H Q:=⟨c,k⟩
theorem mEq_i(k:Q (.bl (b^^decide (i=j))) H):mEq b (.int i) (.int j) H Q:=k
theorem mEq_s(k:Q (.bl (b^^decide (p=q))) H):mEq b (.str p) (.str q) H Q:=k
theorem mEq_b{c d:Bool}(k:Q (.bl (b^^decide (c=d))) H):mEq b (.bl c) (.bl d) H Q:=k
theorem mInS_i(k:Q (.bl (b^^inS p q)) H):mInS b (.str p) (.str q) H Q:=k
theorem mB_i(k:P b H):mB P (.bl b) H:=k
theorem mTest_i(k:ta σ H (mB P)):c1y ta σ H P:=k
theorem mTrue_i(k:ta σ H (mTru K P)):mTrue K ta σ H P:=k
theorem mTru_b(k:P b H):mTru K P (.bl b) H:=k
theorem d3j{r r':R2}(k:ta σ H λx H1=>tb σ H1 λy H2=>r x y H2 (mB λk H3=>if k=true then tc σ H3 λw' H4=>r' y w' H4 Q else Q (.bl false) H3)):b7u r r' ta tb tc σ H Q:=k
theorem mAndV_i(k:ta σ H (mB λc H1=>if c=true then tb σ H1 Q else Q (.bl false) H1)):c1z ta tb σ H Q:=k
theorem mOrV_i(k:ta σ H (mB λc H1=>if c=true then Q (.bl true) H1 else tb σ H1 Q)):mOrV ta tb σ H Q:=k
theorem mNotV_i(k:ta σ H (mTru K λb H'=>Q (.bl (!b)) H')):mNotV K ta σ H Q:=k
theorem tIf_i(k:A σ H λc H1=>if c=true then ta σ H1 Q else tb σ H1 Q):tIf A ta tb σ H Q:=k
theorem tAnd_i(k:A σ H λc H1=>if c=true then B σ H1 P else P false H1):tAnd A B σ H P:=k
theorem tOr_i(k:A σ H λc H1=>if c=true then P true H1 else B σ H1 P):tOr A B σ H P:=k
theorem tNot_i(k:A σ H λc H1=>P (!c) H1):tNot A σ H P:=k
theorem d0a(k:t { D with nx:=u D} σ H):tSeq t u D σ H:=k
theorem c5v(k:D.nx σ H):tNext D σ H:=k
theorem tRet_i(k:te σ H D.rt):tRet te D σ H:=k
theorem tDrop_i(k:te σ H λ_ H1=>D.nx σ H1):tDrop te D σ H:=k
theorem c5w{N:St->Hp->Prop}(k:N (σ.set n (some v)) H):b7f n v σ H N:=k
theorem tCB_i{r:List V->Hp->VK->Prop}{a:TA}(k:a σ H λvs H1=>r vs H1 Q):tCB r a σ H Q:=k
theorem tCons_i{a:TA}{R:List V->Hp->Prop}(k:ta σ H λx H1=>a σ H1 λxs H2=>R (x::xs) H2):b7m ta a σ H R:=k
theorem tNil_i{R:List V->Hp->Prop}(k:R [] H):tNil σ H R:=k
theorem tBM_i{T:String}{r:V->List V->Hp->VK->Prop}{a:TA}(k:ta σ H λx H1=>tyV K T x H1/\a σ H1 λxs H2=>r x xs H2 Q):tBM K T r ta a σ H Q:=k
theorem tBM0_i{T:String}{r:V->List V->Hp->VK->Prop}(k:ta σ H λx H1=>tyV K T x H1/\r x [] H1 Q):tBM0 K T r ta σ H Q:=k
theorem tTup_i{a:TA}(k:a σ H λxs H1=>xs.length<=sizeLine/\∀p,H1 p=none->Q (.ref p) (upd H1 p (.tup xs))):tTup a σ H Q:=k
theorem tLst_i{a:TA}(k:a σ H λxs H1=>xs.length<=sizeLine/\∀p,H1 p=none->Q (.ref p) (upd H1 p (.lst xs))):tLst a σ H Q:=k
theorem tSl_i{r:V->Option Int->Option Int->Hp->VK->Prop}{tl th:TO}(k:te σ H λx H1=>tl σ H1 λl H2=>th σ H2 λu H3=>r x l u H3 Q):tSl r te tl th σ H Q:=k
theorem d0b{R:Option Int->Hp->Prop}(k:R none H):c5p σ H R:=k
theorem mPart_i{R:Option Int->Hp->Prop}(k:te σ H (mI R)):c2a te σ H R:=k
theorem mI_i{R:Option Int->Hp->Prop}(k:R (some i) H):mI R (.int i) H:=k
theorem mLen_s(c:p.length<=sizeLine)(k:Q (.int p.length) H):mLen K [.str p] H Q:=⟨c,k⟩
theorem a4k{a:Addr}{xs:List V}(c:SqL K H a xs)(k:Q (.int xs.length) H):mLen K [.ref a] H Q:=.inl ⟨xs,c,k⟩
theorem a2t{a:Addr}{xs:List V}(c:SqT K H a xs)(k:Q (.int xs.length) H):mLen K [.ref a] H Q:=.inr ⟨xs,c,k⟩
theorem a1r{a:Addr}{xs:List V}(c:SqL K H a xs)(e:atI xs i=some v)(k:Q v H):mIx K (.ref a) (.int i) H Q:=.inl ⟨xs,v,c,e,k⟩
theorem a0i{a:Addr}{xs:List V}(c:SqT K H a xs)(e:atI xs i=some v)(k:Q v H):mIx K (.ref a) (.int i) H Q:=.inr ⟨xs,v,c,e,k⟩
theorem c2b{c:Nat}(z:p.length<=sizeLine)(e:atI p.cps.toList i=some c)(k:Q (.str ⟨#[c]⟩) H):mIx K (.str p) (.int i) H Q:=⟨z,c,e,k⟩
theorem a5v{a:Addr}{xs:List V}(e:H a=some (.lst xs))(c:xs.length<sizeLine)(k:Q .non (upd H a (.lst (xs++[v])))):b9n (.ref a) [v] H Q:=⟨xs,e,c,k⟩
theorem iteB{c d:Prop}(h1:b=true->c)(h2:b=false->d):if b=true then c else d:=by
 cases b with
 |true=>exact h1 rfl
 |false=>exact h2 rfl
theorem d3k{sp:Sp}{E:XK}{a:TA}(k:a σ H λvs H1=>sp vs H1 Q E):tCall sp [] E a σ H Q:=by
 unfold tCall;have e:(λ(vs:List V) (H1:Hp)=>sp (vs++[]) H1 Q E)=λvs H1=>sp vs H1 Q E:=by funext vs H1;rw[Z7]
 rw[e];exact k
theorem tFor_i{wi:TI}{g:TG}(k:wi σ H λJ H1=>ForW J g t D σ H1):tFor wi g t D σ H:=k
theorem iStr_i{R:It->Hp->Prop}(k:ta σ H λv H1=>∃x,v=.str x/\R (Its x) H1):iStr ta σ H R:=k
theorem iList_i{R:It->Hp->Prop}(k:ta σ H λx H1=>∃a,x=.ref a/\(∃xs,SqL K H1 a xs)/\R (Itl K a) H1):iList K ta σ H R:=k
theorem iTup_i{R:It->Hp->Prop}(k:ta σ H λx H1=>∃a,x=.ref a/\(∃xs,SqT K H1 a xs)/\R (Itt K a) H1):iTup K ta σ H R:=k
theorem iRng1_i{a:TA}{R:It->Hp->Prop}(k:a σ H λvs H1=>∃j:Int,vs=[.int j]/\-(2^62)<=j/\j<2^62/\R (Itr 0 j.toNat) H1):iRng1 a σ H R:=k
theorem tComp_i{wi:TI}{tt:TT}(k:wi σ H λJ H1=>∀D,H1 D=none->c1w J tt te σ Q D H1):tComp wi tt te σ H Q:=k
theorem b3w{z:Str}{i:Int}(h0:0<=i)(h1:i<(z.length:Int)):∃c,atI z.cps.toList i=some c:=by
 obtain⟨c,hc,_⟩:=a5u (xs:=z.cps.toList) h0 (by simp only[Yw];exact h1);exact⟨c,hc⟩
end
mutual
inductive Den(K:W.Frag)(H:Hp):V->PyData->Prop
 |non:Den K H .non .none
 |bl (b:Bool):Den K H (.bl b) (.bool b)
 |int (i:Int):Den K H (.int i) (.int i)
 |str (x:Str):Den K H (.str x) (.str x)
 |tup {a:Addr} {us:List V} {ds:List PyData}:SqT K H a us->DenL K H us ds->Den K H (.ref a) (.tuple ds)
inductive DenL(K:W.Frag)(H:Hp):List V->List PyData->Prop
 |nil:DenL K H [] []
 |cons {u:V} {us:List V} {d:PyData} {ds:List PyData}:Den K H u d->DenL K H us ds->DenL K H (u::us) (d::ds)
end
mutual
theorem Den.monoT{K:W.Frag}{H H':Hp}(e:∀a xs,SqT K H a xs->SqT K H' a xs):∀{v:V}{d:PyData},Den K H v d->Den K H' v d
 |_,_,.non=>.non
 |_,_,.bl b=>.bl b
 |_,_,.int i=>.int i
 |_,_,.str x=>.str x
 |_,_,.tup h l=>.tup (e _ _ h) (DenL.monoT e l)
theorem DenL.monoT{K:W.Frag}{H H':Hp}(e:∀a xs,SqT K H a xs->SqT K H' a xs):∀{v:List V}{d:List PyData},DenL K H v d->DenL K H' v d
 |_,_,.nil=>.nil
 |_,_,.cons h l=>.cons (Den.monoT e h) (DenL.monoT e l)
end
theorem Den.mono{K:W.Frag}{H H':Hp}(e:Same H H'){v:V}{d:PyData}(h:Den K H v d):Den K H' v d:=h.monoT λ_ _ q=>e.tup q
theorem DenL.mono{K:W.Frag}{H H':Hp}(e:Same H H'){v:List V}{d:List PyData}(h:DenL K H v d):DenL K H' v d:=h.monoT λ_ _ q=>e.tup q
theorem c5x{K:W.Frag}{H:Hp}{p:Addr}{ys:List V}{o:HO}(h:H p=some (.lst ys)):∀a xs,SqT K H a xs->SqT K (upd H p o) a xs:=λa xs q=>by
 rcases q with(q|⟨o',q⟩)|q
 ·exact .inl (.inl (by rw[a0l (a1w q h (λz=>by cases z))];exact q))
 ·exact .inl (.inr ⟨o',by rw[a0l (a1w q h (λz=>by cases z))];exact q⟩)
 ·exact .inr q
theorem Den.lst{K:W.Frag}{H:Hp}{p:Addr}{ys:List V}{o:HO}(h:H p=some (.lst ys)){v:V}{d:PyData}(q:Den K H v d):Den K (upd H p o) v d:=q.monoT (c5x h)
theorem DenL.lst{K:W.Frag}{H:Hp}{p:Addr}{ys:List V}{o:HO}(h:H p=some (.lst ys)){v:List V}{d:List PyData}(q:DenL K H v d):DenL K (upd H p o) v d:=q.monoT (c5x h)
section
variable{K:W.Frag}{H:Hp}
theorem DenL.length:∀{us:List V}{ds:List PyData},DenL K H us ds->us.length=ds.length
 |_,_,.nil=>rfl
 |_,_,.cons _ l=>by rw[length_cons,length_cons,DenL.length l]
theorem DenL.get:∀{us:List V}{ds:List PyData}{i:Nat}{u:V},DenL K H us ds->us[i]? =some u->∃d,ds[i]? =some d/\Den K H u d
 |_,_,_,_,.nil,e=>by simp at e
 |_,_,0,_,.cons h _,e=>by simp at e;subst e;exact⟨_,rfl,h⟩
 |_,_,i+1,u,.cons _ l,e=>by
  obtain⟨d,h1,h2⟩:=DenL.get (i:=i) (u:=u) l (by simpa using e);exact⟨d,by simpa using h1,h2⟩
theorem DenL.append:∀{us vs:List V}{ds es:List PyData},DenL K H us ds->DenL K H vs es->DenL K H (us++vs) (ds++es)
 |_,_,_,_,.nil,l=>l
 |_,_,_,_,.cons h t,l=>.cons h (DenL.append t l)
theorem DenL.take:∀{us:List V}{ds:List PyData}(n:Nat),DenL K H us ds->DenL K H (us.take n) (ds.take n)
 |_,_,0,_=>.nil
 |_,_,_+1,.nil=>.nil
 |_,_,n+1,.cons h t=>.cons h (DenL.take n t)
theorem DenL.drop:∀{us:List V}{ds:List PyData}(n:Nat),DenL K H us ds->DenL K H (us.drop n) (ds.drop n)
 |_,_,0,l=>l
 |_,_,_+1,.nil=>.nil
 |_,_,n+1,.cons _ t=>DenL.drop n t
end
section
variable{X:Cx}{pins:List (Addr×Obj)}{σ:St}{H:Hp}{s:Shared}
theorem b0f:∀{ds:List PyData}{i:Nat}{d:PyData},ds[i]? =some d->d.depth<=PyData.depthAll ds
 | [],_,_,e=>by simp at e
 |x::r,0,d,e=>by simp at e;subst e;unfold PyData.depthAll;omega
 |x::r,i+1,d,e=>by
  have:=b0f (ds:=r) (i:=i) (d:=d) (by simpa using e);unfold PyData.depthAll;omega
theorem eq_same(I:Inv X pins σ H s):∀(n:Nat)(A:Around)(d:PyData)(v v':V)(u u':Value),d.depth<=n->A.units+n<cLine->Den X.K H v d->Den X.K H v' d->RelV v u->RelV v' u'->SeqAt.EqAt A s u u' true:=by
 intro n
 induction n with
 |zero=>
  intro A d v v' u u' hd hu h h' r r';cases h with
  |non=>cases h';cases r;cases r';exact Wj _
  |bl b=>cases h';cases r;cases r';exact Wj _
  |int i=>
   cases h';obtain⟨t,rfl⟩:=r;obtain⟨t',rfl⟩:=r';have:=Xz (A:=A) (s:=s) i t i t'
   simpa using this
  |str x=>
   cases h';obtain⟨t,rfl⟩:=r;obtain⟨t',rfl⟩:=r';have:=Vs (A:=A) (s:=s) x t x t'
   simpa using this
  |tup _ _=>simp[PyData.depth]at hd
 |succ n ih=>
  intro A d v v' u u' hd hu h h' r r';cases h with
  |non=>cases h';cases r;cases r';exact Wj _
  |bl b=>cases h';cases r;cases r';exact Wj _
  |int i=>
   cases h';obtain⟨t,rfl⟩:=r;obtain⟨t',rfl⟩:=r';have:=Xz (A:=A) (s:=s) i t i t'
   simpa using this
  |str x=>
   cases h';obtain⟨t,rfl⟩:=r;obtain⟨t',rfl⟩:=r';have:=Vs (A:=A) (s:=s) x t x t'
   simpa using this
  | @tup a us ds hs hl=>
   cases h' with
   | @tup b us' _ hs' hl'=>
    cases r;cases r'
    by_cases e:a=b
    ·subst e;exact Wj _
    ·obtain⟨its,rv,p,_⟩:=I.tuple hs;obtain⟨its',rv',p',_⟩:=I.tuple hs';have l1:=rv.length;have l2:=rv'.length;have l3:=hl.length;have l4:=hl'.length;have hd':PyData.depthAll ds<=n:=by simp only[PyData.depth]at hd;omega
     have key:=SeqAt.RcAt.tuples (A:=A) (e:=λ_=>true) (show s.heap.IsTuple a its.toArray from p) (show s.heap.IsTuple b its'.toArray from p') qo (λj h1 h2=>by
      have h1:j<its.length:=by simpa using h1
      have h2:j<its'.length:=by simpa using h2
      have x1:us[j]? =some us[j]:=Za qo
      have x2:us'[j]? =some us'[j]:=Za qo
      obtain⟨d,e1,d1⟩:=hl.get x1;obtain⟨d',e2,d2⟩:=hl'.get x2;rw[e1]at e2;cases e2;obtain⟨w1,y1,z1⟩:=rv.get x1;obtain⟨w2,y2,z2⟩:=rv'.get x2;have q1:its.toArray[j]=w1:=by
       have:=Za h1;rw[y1]at this
       simpa using(Zi this).symm
      have q2:its'.toArray[j]=w2:=by
       have:=Za h2;rw[y2]at this
       simpa using(Zi this).symm
      rw[q1,q2]
      exact ih A.in1 d _ _ _ _ (Xd (b0f e1) hd') (by show A.units+1+n<cLine;omega) d1 d2 z1 z2)
     have e3:its.toArray.size=its'.toArray.size:=by simp only[Ze];omega
     rw[e3]at key;have e4:((List.range (min its'.toArray.size its'.toArray.size)).all (λ_=>true)&&its'.toArray.size==its'.toArray.size)=true:=by simp
     rw[e4]at key;exact SeqAt.EqAt.of_refs e key
end
section
variable{X:Cx}{a b c e:Expr}{ta tb tc te:TE}{pos:Pos}{tg l:Expr}{tl:TE}
def dEq(K:W.Frag)(n:Bool):R2:=λx y H Q=>∃(p q:Addr)(us us':List V)(ds:List PyData),x=.ref p/\y=.ref q/\((SqT K H p us/\SqT K H q us')\/(SqL K H p us/\SqL K H q us'))/\DenL K H us ds/\DenL K H us' ds/\PyData.depthAll ds<=149/\Q (.bl (!n)) H
theorem b2z{pins:List (Addr×Obj)}{σ:St}{H:Hp}{s:Shared}(I:Inv X pins σ H s){A:Around}{us us':List V}{ds:List PyData}{its its':List Value}(hl:DenL X.K H us ds)(hl':DenL X.K H us' ds)(rv:Vals us its)(rv':Vals us' its')(hd:PyData.depthAll ds<=149)(hu:A.units+150<cLine):
  ∀j (h1:j<its.toArray.size) (h2:j<its'.toArray.size),SeqAt.EqAt A.in1 s its.toArray[j] its'.toArray[j] true:=λj h1 h2=>by
 have l1:=rv.length;have l2:=rv'.length;have l3:=hl.length;have l4:=hl'.length;have h1:j<its.length:=by simpa using h1
 have h2:j<its'.length:=by simpa using h2
 have x1:us[j]? =some us[j]:=Za qo
 have x2:us'[j]? =some us'[j]:=Za qo
 obtain⟨d,e1,d1⟩:=hl.get x1;obtain⟨d',e2,d2⟩:=hl'.get x2;rw[e1]at e2;cases e2;obtain⟨w1,y1,z1⟩:=rv.get x1;obtain⟨w2,y2,z2⟩:=rv'.get x2;have q1:its.toArray[j]=w1:=by
  have:=Za h1;rw[y1]at this
  simpa using(Zi this).symm
 have q2:its'.toArray[j]=w2:=by
  have:=Za h2;rw[y2]at this
  simpa using(Zi this).symm
 rw[q1,q2];exact eq_same I 149 A.in1 d _ _ _ _ (Xd (b0f e1) hd) (by show A.units+1+149<cLine;omega) d1 d2 z1 z2
theorem c2y(K:W.Frag)(hK:X.K=K)(hu:X.A.units+150<cLine):OpR X (compareOp .Eq) (dEq K false):=by
 subst hK;intro pins s σ H x y v u Q I rx ry h;obtain⟨p,q,us,us',ds,rfl,rfl,h,hl,hl',hd,k⟩:=h;cases rx;cases ry;rcases h with⟨hs,hs'⟩|⟨hs,hs'⟩
 ·obtain⟨its,rv,p1,_⟩:=I.tuple hs;obtain⟨its',rv',p2,_⟩:=I.tuple hs';have e3:its.toArray.size=its'.toArray.size:=by simp only[Ze];rw[<-rv.length,<-rv'.length,hl.length,hl'.length]
  refine SeqAt.eq_tupleAt (e:=λ_=>true) (show s.heap.IsTuple p its.toArray from p1) (show s.heap.IsTuple q its'.toArray from p2) qo (b2z I hl hl' rv rv' hd hu) ?_;rw[e3];exact⟨.bl true,H,I,by simp[RelV],k⟩
 ·obtain⟨its,rv,p1,_⟩:=I.list hs;obtain⟨its',rv',p2,_⟩:=I.list hs';have e3:its.toArray.size=its'.toArray.size:=by simp only[Ze];rw[<-rv.length,<-rv'.length,hl.length,hl'.length]
  refine SeqAt.eq_listAt (e:=λ_=>true) p1.isList p2.isList e3 qo (b2z I hl hl' rv rv' hd hu) ?_;exact⟨.bl true,H,I,by simp[RelV],k⟩
theorem b7x(K:W.Frag)(hK:X.K=K)(hu:X.A.units+150<cLine):OpR X (compareOp .NotEq) (dEq K true):=by
 subst hK;intro pins s σ H x y v u Q I rx ry h;obtain⟨p,q,us,us',ds,rfl,rfl,h,hl,hl',hd,k⟩:=h;cases rx;cases ry;rcases h with⟨hs,hs'⟩|⟨hs,hs'⟩
 ·obtain⟨its,rv,p1,_⟩:=I.tuple hs;obtain⟨its',rv',p2,_⟩:=I.tuple hs';have e3:its.toArray.size=its'.toArray.size:=by simp only[Ze];rw[<-rv.length,<-rv'.length,hl.length,hl'.length]
  refine S1 (e:=λ_=>true) (show s.heap.IsTuple p its.toArray from p1) (show s.heap.IsTuple q its'.toArray from p2) qo (b2z I hl hl' rv rv' hd hu) X.prog X.w _ _ ?_;rw[e3];exact⟨.bl false,H,I,by simp[RelV],k⟩
 ·obtain⟨its,rv,p1,_⟩:=I.list hs;obtain⟨its',rv',p2,_⟩:=I.list hs';have e3:its.toArray.size=its'.toArray.size:=by simp only[Ze];rw[<-rv.length,<-rv'.length,hl.length,hl'.length]
  refine Us (e:=λ_=>true) p1.isList p2.isList e3 qo (b2z I hl hl' rv rv' hd hu) X.prog X.w _ _ ?_;exact⟨.bl false,H,I,by simp[RelV],k⟩
theorem a3q{k:Nat}{A:Around}(hr:Room k A):A.units+150<cLine:=by have:=hr.un;omega
def mSlL(K:W.Frag):V->Option Int->Option Int->Hp->VK->Prop:=λx lo hi H Q=>∃a xs,x=.ref a/\SqL K H a xs/\∀p,H p=none->Q (.ref p) (upd H p (.lst (cutV xs lo hi)))
theorem a8a(K:W.Frag)(h:X.K=K):SlR X (mSlL K):=h▸sl_list
def mTup(K:W.Frag):List V->Hp->VK->Prop:=λvs H Q=>∃p ys,vs=[.ref p]/\((SqL K H p ys/\∀l,H l=none->Q (.ref l) (upd H l (.tup ys)))\/(SqT K H p ys/\Q (.ref p) H))
theorem a8b(K:W.Frag)(h:X.K=K):a2w X (.type "tuple") (mTup K):=h▸c1m
def mLst(K:W.Frag):List V->Hp->VK->Prop:=λvs H Q=>∃p ys,vs=[.ref p]/\(SqL K H p ys\/SqT K H p ys)/\∀l,H l=none->Q (.ref l) (upd H l (.lst ys))
theorem b9q(K:W.Frag)(h:X.K=K):a2w X (.type "list") (mLst K):=h▸c2p
def mMin:List V->Hp->VK->Prop:=λvs H Q=>∃i j,vs=[.int i,.int j]/\Q (.int (if j<i then j else i)) H
theorem b3x(hc:X.calm=true):a2w X (.builtin "min") mMin:=c9d hc
end
open PySem.AutoSeq1 in
open PySem.MeetsSeq PySem.MeetsSeq2 PySem.MeetsSeq3 in
theorem c7l(l:Addr)(items:Array Value)(n:Nat)(b:Addr)(items2:Array Value)(n2:Nat)(dd:Option Addr)(sl:Array (Option Value))(hs0:¬(!items.isEmpty&&Builtin.List.listTooLong (items.size+items2.size))=true)(hs1:items.size<=sizeLine)(hs2:items.size+items2.size<=sizeLine+1):
  Meets (Builtin.«list.extend» ⟨[.ref l,.ref b],[]⟩) (λ_ R s=>s.heap.get? l=some { cls:=.type "list",dict:=none,data:=.seq items n,slots:=#[]}/\s.heap.get? b=some { cls:=.type "tuple",dict:=dd,data:=.seq items2 n2,slots:=sl}/\
   R (.ok (.ret Value.none)) { s with heap:=s.heap.update l (Obj.mapSeq λx=>x++items2),toks:=s.toks}):=
 .of_wp λprog w A R s h=>by
  obtain⟨hp,g,d,tk,os⟩:=s;obtain⟨hl,hb,h⟩:=h;have f1:=idx_int;have f2:=PySem.AutoSeq1.sub_tuple_tuple;have f3:=PySem.AutoSeq1.sub_list_list;have f4:=PySem.AutoSeq1.sub_tuple_list;have f5:=PySem.AutoSeq1.sub_list_tuple;have hz':(items++items2).size<=sizeLine+1:=by rw[Array.size_append];exact hs2
  wp_walk using(V9 hl rfl (hz:=hs1) (_hz':=hz')),wpAny_loadPart' hl,wpAny_loadPart' hb
  exact⟨_,rfl,h⟩
section
variable{X:Cx}
def mExt(K:W.Frag):V->List V->Hp->VK->Prop:=λx vs H Q=>∃l b xs zs,x=.ref l/\vs=[.ref b]/\H l=some (.lst xs)/\(H b=some (.lst zs)\/SqT K H b zs)/\xs.length+zs.length<=sizeLine/\Q .non (upd H l (.lst (xs++zs)))
theorem c0q(K:W.Frag)(hK:X.K=K):MtR X "list.extend" (mExt K):=by
 subst hK;intro pins s σ H x vs v us Q I rx rv h;obtain⟨l,b,xs,zs,e1,e2,hH,hB,hz,q⟩:=h;rcases hB with hB|hB
 ·exact c9m pins s σ H x vs v us Q I rx rv ⟨l,b,xs,zs,e1,e2,hH,hB,hz,q⟩
 ·subst e1 e2;cases rx;obtain⟨u,rfl,ru⟩:=rv.one;cases ru;obtain⟨z,its,n,r,hl,e⟩:=I.lstM hH;obtain⟨its2,r2,pl,z2⟩:=I.tuple hB;obtain⟨⟨cls,dd,data,sl⟩,ho,hc,n2,hd⟩:=pl;simp only at hc hd;subst hc hd;have hl2:=r2.length;have hsz:its.toArray.size+its2.toArray.size<=sizeLine:=by rw[Ze,Ze];omega
  have hlong:¬(!its.toArray.isEmpty&&Builtin.List.listTooLong (its.toArray.size+its2.toArray.size))=true:=by
   rw[b5w hsz,Vb];exact Zj
  refine Vr Vu ⟨_,e,rfl⟩ S8 (Sx _ _) (c7l l its.toArray n b its2.toArray n2 dd sl hlong (by rw[Ze];omega) qo) ⟨e,ho,?_⟩;refine⟨.non,_,I.lset (its':=its++its2) hH e qz (r.append r2) ?_,rfl,q⟩;rw[Zc];omega
end
section
variable{prog:Program}{w:World}{A:Around}{E:Value->Shared->Prop}{s:Shared}
theorem b5l{t sl:Addr}{items:Array Value}{vl vu:Value}{lo hi:Option Int}{Q:Value->Shared->Prop}(ht:IsTup s.heap t items)(hs:s.heap.IsSliceOf sl vl vu .none)(pl:IsPart vl lo)(pu:IsPart vu hi)
  (hw:HT.sIx items.size 0 lo=0/\HT.sIx items.size items.size hi=items.size)(h:Q (.ref t) s):wpAny (model prog w) A (getItem (.ref t) (.ref sl)) Q E s:=by
 obtain⟨os,hos,hcs,hds⟩:=id hs;have hTs:s.TypeIs (.ref sl) "slice":=⟨os,hos,hcs⟩;unfold getItem
 try with_reducible refine Y7 ?_
 first|refine Zb (Zf ?_)|skip
 refine Zb (wpAny_sequenceKey ht.typeIs qd ?_)
 refine Zb (wpAny_callSpecial?_slot (name:=ofString "__getitem__") ht.typeIs Y6
  (Yr Y6 ht.typeIs S0 ?_ (Rc _ _)))
 show wpAny _ _ (Builtin.Tuple.tupleItemsOf (.ref t)>>=_) _ _ s
 refine Zb (tupleItemsOf_ ht ?_);refine Zb (Ux hTs ?_);rw[if_pos qd];refine Zb (HT.sliceApplied_gen hs pl pu ?_)
 show wpAny _ _ (if(((HT.sIx items.size 0 lo:Nat):Int)==0&&(1:Int)==1&&(HT.sIx items.size items.size hi-HT.sIx items.size 0 lo)==items.size)=true then _ else _) _ _ s
 rw[if_pos (by rw[hw.1,hw.2];simp)];refine Zb ?_;unfold Builtin.Tuple.tupleIsExact;refine Zb (Ux ht.typeIs (Zf ?_));rw[if_pos qd];exact Zb (Vp (Zf ⟨_,rfl,Zf h⟩))
end
section
variable{X:Cx}
def c2z(xs:List V)(lo hi:Option Int):Prop:=HT.sIx xs.length 0 lo=0/\HT.sIx xs.length xs.length hi=xs.length
def mSlT(K:W.Frag):V->Option Int->Option Int->Hp->VK->Prop:=λx lo hi H Q=>∃a xs,x=.ref a/\SqT K H a xs/\(c2z xs lo hi->Q (.ref a) H)/\(¬c2z xs lo hi->∀p,H p=none->Q (.ref p) (upd H p (.tup (cutV xs lo hi))))
theorem ks_tup(K:W.Frag)(hK:X.K=K):SlR X (mSlT K):=by
 subst hK;intro pins s σ H x v vl vu lo hi sl Q I rx hs pl pu h;obtain⟨a,xs,rfl,hx,h1,h2⟩:=h
 by_cases hw:c2z xs lo hi
 ·cases rx;obtain⟨its,r,ht,hz⟩:=I.tuple hx;have hlen:its.toArray.size=xs.length:=by rw[Ze];exact r.length.symm
  exact⟨"tuple",_,Y6.lookup,ht.typeIs,b5l ht hs pl pu (by rw[hlen];exact hw) ⟨.ref a,H,I,rfl,h1 hw⟩⟩
 ·exact sl_tup pins s σ H _ v vl vu lo hi sl Q I rx hs pl pu ⟨a,xs,rfl,hx,hw,h2 hw⟩
end
section
variable{σ:St}{H:Hp}{D:Ends}{t:TS}{c:TT}
def d0c(c:TT)(t:TS)(D:Ends)(σ:St)(H:Hp):Prop:=c2i c t D σ H
theorem d3l(k:d0c c t D σ H):c2i c t D σ H:=k
theorem b0q(Pv:Nat->St->Hp->Prop)(n:Nat)(h0:Pv n σ H)
  (hs:∀n σ H (R:Bool->Hp->Prop),Pv n σ H->(∀H1,(∀(D':Ends),D'.rt=D.rt->D'.bk=D.nx->(∀σ' H' m,m<n->Pv m σ' H'->D'.nx σ' H')->(∀σ' H' m,m<n->Pv m σ' H'->D'.ct σ' H')->t D' σ H1)->R true H1)->(∀H1,D.nx σ H1->R false H1)->c σ H R):d0c c t D σ H:=by
 refine⟨Pv,⟨n,h0⟩,λm σ H p=>?_⟩;refine hs m σ H _ p (λH1 k=>?_) (λH1 k=>k);exact⟨λσ' H'=>∃m',m'<m/\Pv m' σ' H',λ_ _ h=>h,k _ rfl rfl (λ_ _ m' hm hp=>⟨m',hm,hp⟩) (λ_ _ m' hm hp=>⟨m',hm,hp⟩)⟩
end
theorem d0d{K:W.Frag}{T n:String}{b:Bool}(h:(if(Value.type T==Value.type n)=true then some true else if W.kitMeta n=true then(fastBuiltinMro T).map (·.contains (.type n))else none)=some b):W.kitOne K (.type T) (.type n)=some b:=h
section
variable{X:Cx}{a:Expr}{ta:TE}
def tyN(K:W.Frag)(H:Hp):V->String->Prop
 | .non,T=>T="NoneType"
 | .bl _,T=>T="bool"
 | .int _,T=>T="int"
 | .str _,T=>T="str"
 | .ref p,T=>(T="list"/\∃xs,SqL K H p xs)\/(T="tuple"/\∃xs,SqT K H p xs)\/(T="dict"/\∃kvs,H p=some (.dK kvs))
 |_,_=>False
def mIs(K:W.Frag):List V->Hp->VK->Prop:=λvs H Q=>∃x n T b,vs=[x,.ty n]/\tyN K H x T/\(∀K':W.Frag,W.kitOne K' (.type T) (.type n)=some b)/\Q (.bl b) H
theorem a8k(K:W.Frag)(hK:X.K=K):a2w X (.builtin "isinstance") (mIs K):=by
 subst hK;intro pins s σ H xs us Q I r h;obtain⟨x,n,T,b,rfl,ht,hk,q⟩:=h;obtain⟨u,w',rfl,r1,r2⟩:=c1v r;cases r2;have fin:∀tk,EP X pins σ Q (.bool b) { s with toks:=tk}:=λtk=>⟨.bl b,H,I.tok _,rfl,q⟩
 cases x with
 |non=>cases ht;exact a7f I r1 .non (hk _) fin
 |bl y=>cases ht;exact a7f I r1 (.bl y) (hk _) fin
 |int i=>cases ht;exact a7f I r1 (.int i) (hk _) fin
 |str z=>cases ht;exact a7f I r1 (.str z) (hk _) fin
 |ref p=>
  cases r1;rcases ht with⟨rfl,xs,hs⟩|⟨rfl,xs,hs⟩|⟨rfl,kvs,hs⟩
  ·obtain⟨its,_,⟨o,n',h1,h2,_⟩,_⟩:=I.list hs;exact Wb So I.kIn ⟨o,h1,h2⟩ (hk _) (λz=>nomatch z) fin
  ·obtain⟨its,_,⟨o,h1,h2,_⟩,_⟩:=I.tuple hs;exact Wb W.kitx_tuple I.kIn ⟨o,h1,h2⟩ (hk _) (λz=>nomatch z) fin
  ·exact a7f (x:=.ref p) I rfl (.dK hs) (hk _) fin
 |_=>exact(show False from ht).elim
end
section
variable{K:W.Frag}{H:Hp}{Q:VK}{i:Int}{p:Str}{b:Bool}{a:Addr}{xs:List V}
theorem is_str(k:Q (.bl true) H):mIs K [.str p,.ty "str"] H Q:=⟨_,_,_,true,rfl,rfl,λ_=>b0e _ _,k⟩
theorem is_int(k:Q (.bl true) H):mIs K [.int i,.ty "int"] H Q:=⟨_,_,_,true,rfl,rfl,λ_=>b0e _ _,k⟩
theorem c5a(k:Q (.bl false) H):mIs K [.int i,.ty "bool"] H Q:=⟨_,_,_,false,rfl,rfl,λ_=>d0d qk,k⟩
theorem b7y(c:SqT K H a xs)(k:Q (.bl true) H):mIs K [.ref a,.ty "tuple"] H Q:=⟨_,_,_,true,rfl,.inr (.inl ⟨rfl,xs,c⟩),λ_=>b0e _ _,k⟩
theorem d0e(c:SqL K H a xs)(k:Q (.bl true) H):mIs K [.ref a,.ty "list"] H Q:=⟨_,_,_,true,rfl,.inl ⟨rfl,xs,c⟩,λ_=>b0e _ _,k⟩
theorem a8c{α:Type}{xs:List α}{i:Int}{v:α}(h:atI xs i=some v):v∈xs:=by
 obtain⟨j,_,e,_⟩:=b4t h;exact Y0 e
theorem str_app(l m:List Nat):(⟨l.toArray⟩:Str)++⟨m.toArray⟩=⟨(l++m).toArray⟩:=by
 apply Str.ext'
 show l.toArray++m.toArray=(l++m).toArray
 simp
theorem str_len(l:List Nat):(⟨l.toArray⟩:Str).length=l.length:=by simp[Str.length]
theorem ints_at{ns:List Int}{i:Int}{v:V}(h:atI (ns.map V.int) i=some v):∃n,v=.int n:=by
 have:=a8c h;obtain⟨n,_,e⟩:=Z3.mp this;exact⟨n,e.symm⟩
theorem b1u(c:SqL K H a xs)(k:∀l,H l=none->Q (.ref l) (upd H l (.tup xs))):mTup K [.ref a] H Q:=⟨a,xs,rfl,.inl ⟨c,k⟩⟩
theorem mMin_i{j:Int}(k:Q (.int (if j<i then j else i)) H):mMin [.int i,.int j] H Q:=⟨i,j,rfl,k⟩
theorem d0f{zs:List V}{l:Addr}(e:H l=some (.lst xs))(c:H a=some (.lst zs))(z:xs.length+zs.length<=sizeLine)(k:Q .non (upd H l (.lst (xs++zs)))):mExt K (.ref l) [.ref a] H Q:=⟨l,a,xs,zs,rfl,rfl,e,.inl c,z,k⟩
theorem d0g{l:Addr}{v:V}(e:H l=some (.lst (xs++[v])))(k:Q v (upd H l (.lst xs))):mPop (.ref l) [] H Q:=⟨xs,v,e,k⟩
theorem c3a{q:Addr}{ys:List V}(e1:H a=some (.lst xs))(e2:H q=some (.lst ys))(z:xs.length+ys.length<=sizeLine)(k:∀d,H d=none->Q (.ref d) (upd H d (.lst (xs++ys)))):mAdd K (.ref a) (.ref q) H Q:=.inl ⟨xs,ys,e1,e2,z,k⟩
theorem iRng2_i{σ:St}{ta:TA}{R:It->Hp->Prop}(k:ta σ H λvs H1=>∃i j:Int,vs=[.int i,.int j]/\(-(2^62)<=i/\i<2^62/\-(2^62)<=j/\j<2^62)/\R (Itr i (j-i).toNat) H1):iRng2 ta σ H R:=k
end
section
variable{X:Cx}
theorem preSum_eq(ns:List Int):∀n,n<=ns.length->preSum (λi=>ns.getD i 0) n=(ns.take n).sum
 |0,_=>by simp[preSum]
 |n+1,h=>by
  have hn:n<ns.length:=by omega
  rw[preSum,preSum_eq ns n qo,X5,Ue,Za hn,Zk,Za hn]
  simp
def mSum(K:W.Frag):List V->Hp->VK->Prop:=λvs H Q=>∃(p:Addr)(ns:List Int),vs=[.ref p]/\SqL K H p (ns.map V.int)/\(∀n∈ns,0<=n)/\ns.sum<2^62/\Q (.int ns.sum) H
theorem c3b:∀{ns:List Int},(∀n∈ns,0<=n)->0<=ns.sum
 | [],_=>by simp
 |a::r,h=>by
  have h1:=h a Z0;have h2:=c3b (ns:=r) λn hn=>h n (Zw _ hn)
  rw[Tv];omega
theorem kc_sum(K:W.Frag)(hK:X.K=K)(hc:X.calm=true):a2w X (.builtin "sum") (mSum K):=by
 subst hK;intro pins s σ H xs us Q I r h;obtain⟨p,ns,rfl,hs,hn,hm,q⟩:=h;obtain⟨u,rfl,r1⟩:=vals1 r;cases r1;obtain⟨its,rv,pl,hz⟩:=I.list hs;have hi:IntsAre its ns:=intsAre_of rv;have hlen:its.length=ns.length:=hi.length;have hl:p<s.heap.objs.size:=by
  obtain⟨o,n,h1,_⟩:=pl;exact Zu h1
 have part:∀j,j<=ns.length->0<=(ns.take j).sum/\(ns.take j).sum<=ns.sum:=λj hj=>by
  have e:=Ug j ns;have h1:=c3b (ns:=ns.take j) λn hm=>hn n (Ss hm)
  have h2:=c3b (ns:=ns.drop j) λn hm=>hn n (List.mem_of_mem_drop hm)
  have h3:(ns.take j++ns.drop j).sum=ns.sum:=by rw[e]
  rw[Ue]at h3;omega
 refine call_sum_walk (W5 pl.isList ?_)
 refine⟨s.heap.objs.size,[s.heap.objs.size,p],[s.heap.objs.size],its.toArray.size,_,_,λi=>ns.getD i 0,rfl,Re (A:=X.A.in1) (show X.A.in1.handled=none from I.ok.hd hc) s.heap.objs.size p (Z6 hl) its.toArray,
  ⟨⟨_,Zl _ rfl,rfl,rfl⟩,pl.isList.at λo e=>Zd _ e⟩,λb hb=>?_,λi v hv=>?_,λj hj=>?_,λh' tk t' hk=>?_⟩
 ·rw[Xh];simp only[Zo,Yn,X9]at hb;rcases hb with rfl|rfl
  ·exact Xo _
  ·exact Xr hl
 ·have hv:its.toArray[i]? =some v:=hv
  rw[Vd]at hv;have hil:i<ns.length:=by
   have:=(Zh.mp hv).1;omega
  have x1:(ns.map V.int)[i]? =some (.int ns[i]):=by rw[Zs,Za hil];rfl
  obtain⟨w,e1,e2⟩:=rv.get x1;rw[e1]at hv;cases hv;obtain⟨t,rfl⟩:=e2;refine⟨t,?_⟩
  show Value.int ns[i] t=Value.int (ns.getD i 0) t
  rw[Zk,Za hil];rfl
 ·have hj:j<ns.length:=by simpa[hlen]using hj
  have h1:=part (j+1) qo;have h3:0<=ns.getD j 0/\ns.getD j 0<=ns.sum:=by
   have e:(ns.take (j+1)).sum=(ns.take j).sum+ns.getD j 0:=by
    rw[X5,Ue,Za hj,Zk,Za hj]
    simp
   have h0:=part j qo;have h4:0<=ns.getD j 0:=by
    rw[Zk,Za hj];exact hn _ (Zx hj)
   omega
  rw[preSum_eq ns (j+1) qo]
  show InLong (ns.getD j 0)/\_
  unfold InLong;omega
 ·have e:preSum (λi=>ns.getD i 0) its.toArray.size=ns.sum:=by
   rw[Ze,hlen,preSum_eq ns _ (Zg _),Xx]
  rw[e];refine⟨.int _,H,I.kept (λb o e=>hk b o ?_ (Zd _ e)),⟨_,rfl⟩,q⟩;intro z;have z:b=s.heap.objs.size:=by simpa using z
  exact absurd (Zu e) (by rw[z];exact Yt _)
end
abbrev a2u:Str:=ofString "abcdefghijklmnopqrstuvwxyz"
abbrev b3y:Str:=ofString "ABCDEFGHIJKLMNOPQRSTUVWXYZ"
abbrev figS:Str:=ofString "0123456789"
abbrev markS:Str:=ofString "+-*/:<=>&^?@#!;$"
abbrev a5n:Str:=ofString "abcdefghijklmnopqrstuvwxyzABCDEFGHIJKLMNOPQRSTUVWXYZ0123456789"
abbrev one(c:Nat):Str:=⟨#[c]⟩
abbrev a5w(K:W.Frag):Sp:=λvs H Q _=>match vs with| [.ref a,.int k]=>∃ns:List Int,SqL K H a (ns.map V.int)/\0<=k/\k<=1000/\∀v,Q (.int v) H|_=>False
abbrev a9l:Sp:=λvs H Q _=>match vs with| [.int n]=>Q (.bl true) H|_=>False
theorem ln{n:Nat}(h:n<=100000):n<=sizeLine:=by rw[Yb];omega
theorem ln1{n:Nat}(h:n<100000):n<sizeLine:=by rw[Yb];omega
theorem tl62:a5n.length=62:=by decide+kernel
theorem mk16:markS.length=16:=by decide+kernel
section
variable{X:Cx}{e:Expr}{te:TE}{pos:Pos}
def mIAdd:TIp:=λx y H Q=>match x,y with
 | .int i,.int j=>Q (.int (i+j)) H
 | .str i,.str j=>i.length+j.length<=sizeLine/\Q (.str (i++j)) H
 |_,_=>False
theorem mi_add:PIp X .Add mIAdd:=by
 intro pins s σ H x y v u Q I rx ry h;refine(OpR.or iop_add c4x) pins s σ H x y v u Q I rx ry ?_;cases x<;>cases y<;>first
  |exact(show False from h).elim
  |exact .inl ⟨_,_,rfl,rfl,h⟩
  |exact .inr ⟨_,_,rfl,rfl,h.1,h.2⟩
end
section
variable{σ:St}{H:Hp}{Q:VK}{D:Ends}{te:TE}{n:Nat}{v:V}{i j:Int}
theorem mIAdd_i(k:Q (.int (i+j)) H):mIAdd (.int i) (.int j) H Q:=k
end
inductive Trm where
 |num(n:Int)
 |any(x:Str)
 |app(sg:Str)(ks:List Trm)
abbrev numS:Str:=ofString "num"
abbrev anyS:Str:=ofString "any"
abbrev appS:Str:=ofString "app"
mutual
def Trm.data:Trm->PyData
 | .num n=>.tuple [.str numS,.int n]
 | .any x=>.tuple [.str anyS,.str x]
 | .app sg ks=>.tuple [.str appS,.str sg,.tuple (Trm.dataL ks)]
def Trm.dataL:List Trm->List PyData
 | []=>[]
 |t::r=>t.data::Trm.dataL r
end
mutual
def Trm.size:Trm->Nat
 | .num _=>1
 | .any _=>1
 | .app _ ks=>1+Trm.sizeL ks
def Trm.sizeL:List Trm->Nat
 | []=>0
 |t::r=>t.size+Trm.sizeL r
end
theorem Trm.size_pos:∀t:Trm,1<=t.size
 | .num _=>Zg 1
 | .any _=>Zg 1
 | .app _ ks=>by unfold Trm.size;omega
theorem Trm.dataL_map:∀ts:List Trm,Trm.dataL ts=ts.map Trm.data
 | []=>rfl
 |t::r=>by rw[Trm.dataL,Trm.dataL_map r,Zp]
theorem Trm.sizeL_map:∀ts:List Trm,Trm.sizeL ts=(ts.map Trm.size).sum
 | []=>rfl
 |t::r=>by rw[Trm.sizeL,Trm.sizeL_map r,Zp,Tv]
theorem Trm.sizeL_app(a b:List Trm):Trm.sizeL (a++b)=Trm.sizeL a+Trm.sizeL b:=by
 rw[Trm.sizeL_map,Trm.sizeL_map,Trm.sizeL_map,Zn,Ue]
theorem Trm.len_le(ts:List Trm):ts.length<=Trm.sizeL ts:=by
 induction ts with
 |nil=>simp
 |cons t r ih=>
  have:=t.size_pos;rw[Trm.sizeL,length_cons];omega
section
variable{K:W.Frag}{H:Hp}{v:V}
theorem a6g{n:Int}(h:Den K H v (Trm.num n).data):∃a,v=.ref a/\SqT K H a [.str numS,.int n]:=by
 unfold Trm.data at h;cases h with
 |tup hs hl=>
  cases hl with
  |cons h1 hl=>
   cases hl with
   |cons h2 hl=>
    cases hl;cases h1;cases h2;exact⟨_,rfl,hs⟩
theorem a6h{x:Str}(h:Den K H v (Trm.any x).data):∃a,v=.ref a/\SqT K H a [.str anyS,.str x]:=by
 unfold Trm.data at h;cases h with
 |tup hs hl=>
  cases hl with
  |cons h1 hl=>
   cases hl with
   |cons h2 hl=>
    cases hl;cases h1;cases h2;exact⟨_,rfl,hs⟩
theorem a3f{sg:Str}{ks:List Trm}(h:Den K H v (Trm.app sg ks).data):∃a b us,v=.ref a/\SqT K H a [.str appS,.str sg,.ref b]/\SqT K H b us/\DenL K H us (Trm.dataL ks):=by
 unfold Trm.data at h;cases h with
 |tup hs hl=>
  cases hl with
  |cons h1 hl=>
   cases hl with
   |cons h2 hl=>
    cases hl with
    |cons h3 hl=>
     cases hl;cases h1;cases h2;cases h3 with
     |tup hb hk=>exact⟨_,_,_,rfl,hs,hb,hk⟩
theorem num_den{a:Addr}{n:Int}(h:SqT K H a [.str numS,.int n]):Den K H (.ref a) (Trm.num n).data:=by
 unfold Trm.data;exact .tup h (.cons (.str _) (.cons (.int _) .nil))
theorem any_den{a:Addr}{x:Str}(h:SqT K H a [.str anyS,.str x]):Den K H (.ref a) (Trm.any x).data:=by
 unfold Trm.data;exact .tup h (.cons (.str _) (.cons (.str _) .nil))
theorem a9t{a b:Addr}{sg:Str}{ks:List Trm}{us:List V}(h:SqT K H a [.str appS,.str sg,.ref b])(hb:SqT K H b us)(hk:DenL K H us (Trm.dataL ks)):Den K H (.ref a) (Trm.app sg ks).data:=by
 unfold Trm.data;exact .tup h (.cons (.str _) (.cons (.str _) (.cons (.tup hb hk) .nil)))
theorem DenL.snoc{us:List V}{ds:List PyData}{d:PyData}(h:DenL K H us (ds++[d])):∃us' u,us=us'++[u]/\DenL K H us' ds/\Den K H u d:=by
 induction ds generalizing us with
 |nil=>
  cases h with
  |cons h1 h2=>
   cases h2;exact⟨[],_,rfl,.nil,h1⟩
 |cons x r ih=>
  cases h with
  |cons h1 h2=>
   obtain⟨us',u,rfl,a,b⟩:=ih h2;exact⟨_::us',u,rfl,.cons h1 a,b⟩
end
def Itv(K:W.Frag)(a:Addr)(n:Nat):It:=⟨λi H=>∃xs,SqL K H a xs/\xs.length=n/\i<n,λi H x H'=>H'=H/\∀xs,SqL K H a xs->xs[n-1-i]? =some x,λi _=>i=n⟩
theorem d3m{P:Program}{w:World}{K:W.Frag}{tg:Expr}(a it:Addr)(n:Nat):Turn P w K tg (Itv K a n) [it] it (λi h=>h.IsRevIter it a ((n:Int)-1-(i:Nat))) where
 mem:=by simp
 obj:=λi h st b hb=>by
  have e:b=it:=by simpa using hb
  subst e;obtain⟨o,e,c,d⟩:=st;exact⟨o,e,λv z=>by rw[d]at z;cases z⟩
 keep:=λi h h' st k=>st.at λo e=>k it qz o e
 item:=by
  intro X hP hw hK hc i pins s σ H E I hf st hg;subst hP hw hK;obtain⟨xs,hq,hn,hi⟩:=hg;obtain⟨its,rv,p,hz⟩:=I.list hq;have hj:n-1-i<xs.length:=by omega
  obtain⟨u,hu,ru⟩:=rv.get (Za hj);obtain⟨f0,f1,f2,f3,f4,f5⟩:=hf it qz;have e1:(n:Int)-1-(i:Nat)=((n-1-i:Nat):Int):=by omega
  rw[e1]at st;refine wpAny_pyNext_rev_item st p.isList (x:=u) (by simpa using hu) λh' st' sb=>?_
  have I1:Inv X pins σ H { s with heap:=h'}:=I.turned (t':=s.toks) (λb o hb e=>(sb.2 b hb).trans e) f0 f1 f3 f4 f5;obtain⟨o,e,c,d⟩:=id st';have e2:((n-1-i:Nat):Int)-1=(n:Int)-1-((i+1:Nat):Int):=by omega
  rw[e2]at st';exact⟨u,rfl,b2w (s:={ s with heap:=h'}) e c d qd ⟨xs[n-1-i],H,I1,ru,⟨rfl,λys hy=>by rw[I.list_inj hy hq];exact Za hj⟩,st',λb hb=>(hf b hb).1⟩⟩
 done:=by
  intro X hP hw hK hc i pins s σ H E I hf st hg;subst hP hw hK;obtain⟨f0,f1,f2,f3,f4,f5⟩:=hf it qz;have hg:i=n:=hg;subst hg;have e1:(i:Int)-1-(i:Nat)= -1:=by omega
  rw[e1]at st;exact wpAny_pyNext_rev_end (I.ok.hd hc) st λh' eb=>⟨rfl,I.turned (t':=s.toks) (λb o hb e=>eb b o hb e) f0 f1 f3 f4 f5⟩
 self:=λ_ _ _ _ _ st h=>Sh st h
section
variable{X:Cx}{tg:Expr}
def iRev(K:W.Frag)(ta:TA):TI:=λσ H R=>ta σ H λvs H1=>∃a xs,vs=[.ref a]/\SqL K H1 a xs/\R (Itv K a xs.length) H1
theorem kpi_rev(K:W.Frag)(hK:X.K=K){a:Expr}{ta:TA}{p pos:Pos}(hg:Gl X "reversed")(hm:X.mg "reversed"=none)(ha:PA X [a] ta)(hs:starEach [a] X.env=[(false,eval a X.env)]:=by rfl):PI X tg (.Call (.Name "reversed" p) [a] [] pos) (iRev K ta):=by
 subst hK;intro pins s σ H R I h;refine Call_ (a6u I hg hm boot_reversed (Yu (thn (ha pos pins s σ H _ I h) λus s1 ⟨vs,H1,I1,r1,q1⟩=>?_) hs rfl));obtain⟨l,xs,e,hq,q⟩:=q1;subst e;cases r1 with
 |cons r rr=>
  cases rr;cases r;obtain⟨its,rv,pl,hz⟩:=I1.list hq;have hlen:=rv.length;refine Rb pl.isList (Sh (l:=l) (i:=(its.toArray.size:Int)-1) ⟨_,Zl _ rfl,rfl,rfl⟩ ?_);refine⟨s1.heap.objs.size,[s1.heap.objs.size],_,_,H1,rfl,I1.kept (t':=s1.toks) λb o e=>Zd _ e,d3m l _ xs.length,?_,λb hb=>?_,q⟩
  ·have e1:(xs.length:Int)-1-((0:Nat):Int)=(its.toArray.size:Int)-1:=by simp only[Ze];omega
   show Heap.IsRevIter _ _ _ ((xs.length:Int)-1-((0:Nat):Int))
   rw[e1];exact⟨_,Zl _ rfl,rfl,rfl⟩
  ·have e:b=s1.heap.objs.size:=by simpa using hb
   subst e;exact I1.fpOk (Zg _) (I1.hok.fresh (Zg _))
end
theorem row_rev{K:W.Frag}{a:Addr}{xs:List V}:Row (Itv K a xs.length) xs.length (λi=>xs.getD (xs.length-1-i) .non) (λH=>SqL K H a xs):=⟨λi H h q=>⟨xs,q,rfl,h⟩,λi H v H' hi q h=>by
 obtain⟨e,y⟩:=h;refine⟨e,?_⟩;have:=y xs q
 rw[Zk,this];rfl,λH q=>rfl⟩
theorem iRev_i{K:W.Frag}{σ:St}{H:Hp}{ta:TA}{R:It->Hp->Prop}(k:ta σ H λvs H1=>∃a xs,vs=[.ref a]/\SqL K H1 a xs/\R (Itv K a xs.length) H1):iRev K ta σ H R:=k
def figsOf(n:Nat):List Nat:=(Nat.toDigits 10 n).map Char.toNat
section
variable{X:Cx}
theorem b0g(K:W.Frag)(h:X.K=K):OpR X (compareOp .In) (rIn K false):=h▸c9k
end
section
variable{X:Cx}
def mUpd:V->List V->Hp->VK->Prop:=λx vs H Q=>∃(a b:Addr)(kvs more:List (Key×V)),x=.ref a/\vs=[.ref b]/\a≠b/\H a=some (.dK kvs)/\H b=some (.dK more)/\kvs.length+more.length<=sizeLine/\Q .non (upd H a (.dK (a0z kvs more)))
theorem d0h:MtR X "dict.update" mUpd:=by
 intro pins s σ H x vs v us Q I rx rv h;obtain⟨a,b,kvs,more,rfl,rfl,hab,ha,hb,hz,q⟩:=h;cases rx;obtain⟨u,rfl,ru⟩:=rv.one;cases ru;obtain⟨z1,d1,vs1,r1,dd1⟩:=b7o I.hok ha;obtain⟨z2,d2,vs2,r2,dd2⟩:=b7o I.hok hb;have hl:=a8w more kvs;refine W6 Rm dd1.typeIs F.entry_dict_update (F.args_dict_update_2 _ _) (meets_dict_update (a1e X.prog X.w) a b hab d2) ⟨vs1,vs2,dd1,dd2,by rw[<-r1.length,<-r2.length];exact hz,λh' g1 g2 hs=>?_⟩;refine⟨.non,_,?_,rfl,q⟩;have he:∃q,h'.get? a=some q:=let⟨q,_,_,hq,_⟩:=g1;⟨q,hq⟩
 exact b1r I (by rw[ha];exact True.intro) hs he (c2r qo d1 (r2.merge r1) g1)
theorem d0i{a b:Addr}{kvs more:List (Key×V)}{H:Hp}{Q:VK}(hab:a≠b)(ha:H a=some (.dK kvs))(hb:H b=some (.dK more))(hz:kvs.length+more.length<=sizeLine)(k:Q .non (upd H a (.dK (a0z kvs more)))):mUpd (.ref a) [.ref b] H Q:=⟨a,b,kvs,more,rfl,rfl,hab,ha,hb,hz,k⟩
end
section
variable{X:Cx}
def rDIn(n:Bool):R2:=λx y H Q=>∃a o,y=.ref a/\DGet H a x o/\Q (.bl (n^^o.isSome)) H
theorem c3c(hu:X.A.units+1<cLine):OpR X (compareOp .In) (rDIn false):=by
 intro pins s σ H x y v u Q I rx ry h;obtain⟨a,o,rfl,g,q⟩:=h;cases ry;exact d_in hu I g rx λs3 I3=>⟨.bl _,H,I3,rfl,by simpa using q⟩
theorem b4z(hu:X.A.units+1<cLine):OpR X (compareOp .NotIn) (rDIn true):=by
 intro pins s σ H x y v u Q I rx ry h;obtain⟨a,o,rfl,g,q⟩:=h;cases ry;exact d_notIn hu I g rx λs3 I3=>⟨.bl _,H,I3,rfl,by simpa using q⟩
end
section
variable{σ:St}{H:Hp}{Q:VK}{D:Ends}{td ty tx tv:TE}
theorem tDGet_i(k:td σ H λx H1=>ty σ H1 λy H2=>∃a v,x=.ref a/\DGet H2 a y (some v)/\Q v H2):tDGet td ty σ H Q:=k
theorem d3n(k:td σ H λx H1=>∃a,x=.ref a/\IsD H1 a/\ty σ H1 λy H2=>tx σ H2 λz H3=>∃o,DGet H3 a y o/\Q (o.getD z) H3):c9r td ty tx σ H Q:=k
theorem sDPut_i(k:tv σ H λv H1=>td σ H1 λx H2=>ty σ H2 λy H3=>∃a H4,x=.ref a/\DPut H3 a y v H4/\D.nx σ H4):sDPut td ty tv D σ H:=k
theorem tDisp_i{trs:List (TE×TE)}(k:∀p,H p=none->b0c trs σ (upd H p (.dK [])) λps H2=>H2 p=some (.dK [])/\∃kvs:List (Key×V),ps=kvs.map (λkv=>(kV kv.1,kv.2))/\kvs.length<=15/\Q (.ref p) (upd H2 p (.dK (a0z [] kvs)))):tDisp trs σ H Q:=k
theorem d3o{tk tv:TE}{r:List (TE×TE)}{R:List (V×V)->Hp->Prop}(k:tk σ H λx H1=>tv σ H1 λy H2=>b0c r σ H2 λps H3=>R ((x,y)::ps) H3):b0c ((tk,tv)::r) σ H R:=k
theorem d3p{R:List (V×V)->Hp->Prop}(k:R [] H):b0c [] σ H R:=k
end
section
variable{X:Cx}
def d0j:V->List V->Hp->VK->Prop:=λx vs H Q=>∃p,x=.str p/\vs=[]/\Builtin.Str.tooLong (Txt.upper p).length=false/\Q (.str (Txt.upper p)) H
theorem d3q:MtR X "str.upper" d0j:=by
 intro pins s σ H x vs v us Q I rx rv h;obtain⟨p,rfl,rfl,hz,q⟩:=h;obtain⟨t,rfl⟩:=rx;cases rv;exact SC.upper hz ⟨.str _,H,I.tok _,⟨_,rfl⟩,q⟩
theorem d3r{p r:Str}{H:Hp}{Q:VK}(e:Txt.upper p=r)(hz:Builtin.Str.tooLong r.length=false)(k:Q (.str r) H):d0j (.str p) [] H Q:=⟨p,rfl,rfl,by rw[e];exact hz,by rw[e];exact k⟩
theorem b7z:OpR X (binaryOp .LShift) (m2 CPow λi j=>.int (i*2^j.toNat)):=op_shl.imp λ_ _ _ _ h=>b7t h
theorem c2c:OpR X (binaryOp .BitOr) (m20 λi j=>.int (Builtin.bitOr i j)):=op_or.imp λ_ _ _ _ h=>b1t h
def mIsN(n:Bool):R2:=λx y H Q=>y=.non/\Q (.bl (n^^decide (x=.non))) H
theorem b3z:OpR X (compareOp .Is) (mIsN false):=op_isN.imp λ_ _ _ _ h=>⟨h.1,by have:=h.2;rwa[Zz]at this⟩
theorem c5y:OpR X (compareOp .IsNot) (mIsN true):=op_notN.imp λ_ _ _ _ h=>⟨h.1,by have:=h.2;rwa[Bool.true_xor]at this⟩
theorem isN_non{n:Bool}{H:Hp}{Q:VK}(k:Q (.bl (!n)) H):mIsN n .non .non H Q:=⟨rfl,by rw[Yg rfl,Bool.xor_true];exact k⟩
theorem isN_ref{n:Bool}{a:Addr}{H:Hp}{Q:VK}(k:Q (.bl n) H):mIsN n (.ref a) .non H Q:=⟨rfl,by rw[Z4 (λz=>by cases z),Bool.xor_false];exact k⟩
def mInt:List V->Hp->VK->Prop:=λvs H Q=>match vs with
 | [.int i]=>Q (.int i) H
 | [.bl b]=>Q (.int (if b then 1 else 0)) H
 |_=>False
theorem c3d:a2w X (.type "int") mInt:=by
 intro pins s σ H xs us Q I r h;refine c9e pins s σ H xs us Q I r ?_;unfold mInt at h;split at h
 ·exact .inl ⟨_,rfl,h⟩
 ·exact .inr ⟨_,rfl,h⟩
 ·exact h.elim
theorem mInt_b{b:Bool}{H:Hp}{Q:VK}(k:Q (.int (if b then 1 else 0)) H):mInt [.bl b] H Q:=k
end
def But(p:Addr)(H H':Hp):Prop:=∀b o,b≠p->H b=some o->H' b=some o
theorem Same.but{p:Addr}{H H':Hp}(s:Same H H'):But p H H':=λb o _ h=>s b o h
theorem But.trans{p:Addr}{H H1 H2:Hp}(a:But p H H1)(b:But p H1 H2):But p H H2:=λc o n h=>b c o n (a c o n h)
theorem sIx_to(n:Nat)(m:Int)(h:0<=m):HT.sIx n n (some m)=min m.toNat n:=by
 unfold HT.sIx;have e:¬(m<0):=by omega
 simp only[e,X4]
theorem d3s(n k:Nat):HT.sIx n k none=k:=rfl
section
variable{X:Cx}{pins:List (Addr×Obj)}{σ:St}{H:Hp}{s:Shared}{h':Heap}
theorem Inv.turnedLaid{t':Nat}{ch:List Addr}{T:Addr}{o:HO}(I:Inv X pins σ H s)(hf:∀b∈ch,FpOk X pins H b)(k:∀b u,b∉ch->s.heap.get? b=some u->h'.get? b=some u)(hT:s.heap.objs.size<=T)
  (new:a1s X.prog X.w (upd H T o) h' T o):Inv X pins σ (upd H T o) { s with heap:=h',toks:=t'}:=by
 have hn:H T=none:=I.hok.fresh hT;have nin:∀b u,H b=some u->b∉ch:=λb u e hb=>by rw[(hf b hb).1]at e;cases e
 have neT:∀b u,s.heap.get? b=some u->b≠T:=λb u e=>Z6 (Yd (Zu e) hT)
 refine I.step (g':=s.gens) (d':=s.drawn) (ch:=ch) (λb hb=>⟨(hf b hb).2.2.2.1,(hf b hb).2.1,(hf b hb).2.2.2.2.1,(hf b hb).2.2.2.2.2⟩) (λb u _ _ hc e _=>k b u hc e) (λb u _ _ hc e _=>⟨u.slots,k b u hc e⟩)
  (λb u hc e n=>by rw[a0l (neT b u e)];exact n) (λb u hc e=>⟨u,k b u hc e⟩) (λb xs q=>by rw[a0l (a1m q hn)];exact q) (λb u xs q=>by rw[a0l (a1m q hn)];exact q) (λb ps q=>⟨#[],by rw[a0l (a1m q hn),q];simp⟩) (λm hm=>?_) (λb u e=>?_) I.bare
 ·obtain⟨q,es,ep,ho,r⟩:=hm;exact⟨q,es,ep,k _ q (λhb=>(hf _ hb).2.1 rfl) ho,r⟩
 ·by_cases hb:b=T
  ·subst hb;rw[a0b]at e;cases e;exact new
  ·rw[a0l hb]at e;refine(I.hok b u e).stay (λc v hc q=>k c v ?_ q) (λc q=>by rw[a0l (a1m q hn)];exact q) λc xs q=>by rw[a0l (a1m q hn)];exact q
   rcases hc with z|z
   ·rw[z];exact nin b u e
   ·exact nin c _ z
end
def Ite(K:W.Frag)(a:Addr)(n:Nat):It:=⟨λi H=>i<n/\∃xs,SqL K H a xs/\xs.length=n,λi H v H'=>∃T x,H T=none/\v=.ref T/\H'=upd H T (.tup [.int i,x])/\∀xs,SqL K H a xs->xs[i]? =some x,λi H=>i=n/\∃xs,SqL K H a xs/\xs.length=n⟩
theorem d0k{P:Program}{w:World}{K:W.Frag}{elts:List Expr}{k:Nat}{pos:Pos}(a e it:Addr)(n:Nat)(hei:e≠it)(hai:a≠it)(hae:a≠e):
  Turn P w K (.Tuple elts k pos) (Ite K a n) [e,it] e (λi h=>(∃old,IsEnum h e it (i:Nat) old)/\h.IsListIter it a i) where
 mem:=by simp
 obj:=λi h st b hb=>by
  obtain⟨⟨old,h1⟩,o,h2,h3,h4⟩:=st;simp only[Zo,Yn,X9]at hb;rcases hb with rfl|rfl
  ·exact⟨_,h1,λv z=>by have z':Data.fields _=Data.cell v:=z;cases z'⟩
  ·exact⟨o,h2,λv z=>by rw[h4]at z;cases z⟩
 keep:=λi h h' st hk=>⟨let⟨old,q⟩:=st.1;⟨old,hk e qz _ q⟩,st.2.at λo q=>hk it qz o q⟩
 item:=by
  intro X hP hw hK hc i pins s σ H E I hf st hg;subst hP hw hK;obtain⟨hi,xs,hq,hl⟩:=hg;obtain⟨its,rv,p,hz⟩:=I.list hq;have hlen:=rv.length;have D:=Draws.list (prog:=X.prog) (w:=X.w) (A:=X.A.in1) (show X.A.in1.handled=none from I.ok.hd hc) it a hai its.toArray;have W:=WalksT.enumerateD D e hei (by simp only[Zo,Yn,X9,not_or];exact⟨hei,Ne.symm hae⟩) qz;refine W.item i s _ _ (by rw[Ze];omega) ⟨st.1,st.2,p.isList⟩ λT vals h1 tk hPt hT htup hmid hk1=>?_
  obtain⟨t,x,hx,rfl⟩:=hPt;refine⟨.ref T,rfl,W.go elts k pos i T { s with heap:=h1,toks:=tk} _ _ hmid λh2 hst2 hk2=>?_⟩;have hx2:its[i]? =some x:=by simpa using hx
  have hix:i<xs.length:=by omega
  obtain⟨u,hu,ru⟩:=rv.get (Za hix);rw[hu]at hx2;cases hx2;have hk:∀b u,b∉[e,it]->s.heap.get? b=some u->h2.get? b=some u:=λb u hb q=>hk2 b u hb (hk1 b u hb q)
  have hTn:T∉[e,it]:=by
   obtain⟨_,_,z1,z2⟩:=hmid;simp only[Zo,Yn,X9,not_or];exact⟨z1,z2⟩
  have hTup:IsTup h2 T #[.int i t,x]:=by
   obtain⟨o,h3,h4⟩:=htup;exact⟨o,hk2 T o hTn h3,h4⟩
  refine⟨.ref T,upd H T (.tup [.int i,xs[i]]),I.turnedLaid (ch:=[e,it]) hf hk hT ⟨by simp[Yb],[.int i t,x],.cons ⟨t,rfl⟩ (.cons ru .nil),hTup⟩,rfl,?_,?_,λb hb=>?_⟩
  ·exact⟨T,xs[i],I.hok.fresh hT,rfl,rfl,λys hy=>by rw[I.list_inj hy hq];exact Za hix⟩
  ·exact⟨by simpa using hst2.1,hst2.2.1⟩
  ·have nb:b≠T:=λz=>hTn (by rw[<-z];exact hb)
   rw[a0l nb];exact(hf b hb).1
 done:=by
  intro X hP hw hK hc i pins s σ H E I hf st hg;subst hP hw hK;obtain⟨hi,xs,hq,hl⟩:=hg;subst hi;obtain⟨its,rv,p,hz⟩:=I.list hq;obtain⟨old,h1⟩:=st.1;obtain⟨f0,f1,f2,f3,f4,f5⟩:=hf it qz;have hlen:=rv.length;exact wpAny_pyNext_enum_end (I.ok.hd hc) h1 st.2 p.isList (by simp;omega) λh' eb=>⟨rfl,I.turned (t':=s.toks) (λb o hb q=>eb b o hb q) f0 f1 f3 f4 f5⟩
 self:=λ_ _ _ _ _ st h=>by
  obtain⟨⟨old,h1⟩,_⟩:=st;exact Vw h1 h
section
variable{X:Cx}
def iEnum(K:W.Frag)(ta:TA):TI:=λσ H R=>ta σ H λvs H1=>∃a xs,vs=[.ref a]/\SqL K H1 a xs/\R (Ite K a xs.length) H1
theorem c3e(K:W.Frag)(hK:X.K=K){elts:List Expr}{k:Nat}{tpos:Pos}{a:Expr}{ta:TA}{p pos:Pos}(hg:Gl X "enumerate")(hm:X.mg "enumerate"=none)(ha:PA X [a] ta)(hs:starEach [a] X.env=[(false,eval a X.env)]:=by rfl):PI X (.Tuple elts k tpos) (.Call (.Name "enumerate" p) [a] [] pos) (iEnum K ta):=by
 subst hK;intro pins s σ H R I h;refine Call_ (a6u I hg hm boot_enumerate (Yu (thn (ha pos pins s σ H _ I h) λus s1 ⟨vs,H1,I1,r1,q1⟩=>?_) hs rfl));obtain⟨l,xs,e,hq,q⟩:=q1;subst e;cases r1 with
 |cons r rr=>
  cases rr;cases r;obtain⟨its,rv,pl,hz⟩:=I1.list hq;have hlt:l<s1.heap.objs.size:=by obtain⟨o,ho,_⟩:=pl.isList;exact Zu ho
  refine call_enumerate_list pl.isList λh' he hit hsz hk=>Vw he ?_
  refine⟨_,[s1.heap.objs.size+1,s1.heap.objs.size],_,_,H1,rfl,I1.kept (t':=s1.toks) hk,d0k l (s1.heap.objs.size+1) s1.heap.objs.size xs.length (Nat.succ_ne_self _) (Z6 hlt) (Z6 (Xr hlt)),⟨⟨_,he⟩,hit⟩,λb hb=>?_,q⟩;simp only[Zo,Yn,X9]at hb;rcases hb with rfl|rfl
  ·exact I1.fpOk (Vj _) (I1.hok.fresh (Vj _))
  ·exact I1.fpOk (Zg _) (I1.hok.fresh (Zg _))
end
theorem iEnum_i{K:W.Frag}{σ:St}{H:Hp}{ta:TA}{R:It->Hp->Prop}(k:ta σ H λvs H1=>∃a xs,vs=[.ref a]/\SqL K H1 a xs/\R (Ite K a xs.length) H1):iEnum K ta σ H R:=k
open PySem PySem.Spec PyProof.Rows PySem.W
def RawD(h:Heap)(a:Addr)(es:Array DictEntry)(ep:Nat):Prop:=∃o,h.get? a=some o/\o.ExactDict/\o.data=.dict es ep
theorem RawD.on{h h':Heap}{a:Addr}{es:Array DictEntry}{ep:Nat}(x:RawD h a es ep)(k:∀o,h.get? a=some o->h'.get? a=some o):RawD h' a es ep:=let⟨o,p,r⟩:=x;⟨o,k o p,r⟩
theorem RawD.lt{h:Heap}{a:Addr}{es:Array DictEntry}{ep:Nat}(x:RawD h a es ep):a<h.objs.size:=let⟨_,p,_⟩:=x;Zu p
theorem RawD.ty{s:Shared}{a:Addr}{es:Array DictEntry}{ep:Nat}(x:RawD s.heap a es ep):s.TypeIs (.ref a) "dict":=let⟨o,p,c,_⟩:=x;⟨o,p,c.1⟩
section
variable{prog:Program}{w:World}{A:Around}{E:Value->Shared->Prop}{s:Shared}{d:Addr}{es:Array DictEntry}{ep:Nat}
theorem b6a{Q:Value->Shared->Prop}(hd:(d==sysModules)=false)(hm:RawD s.heap d es ep)
  (hQ:Q (.ref s.heap.objs.size) { s with heap:=s.heap.push { cls:=.type "dict_keyiterator",data:=.fields #[.ref d,.int 0 0,.int es.size 0,.int ep 0]}}):wpAny (model prog w) A (pyIter (.ref d)) Q E s:=by
 obtain⟨o,ho,hc,hdat⟩:=id hm;refine wpAny_pyIter_slot hm.ty F.slot_dict_iter (Yr F.slot_dict_iter hm.ty F.entry_dict_iter ?_ (F.args_dict_iter_1 _))
 (unfold Builtin.«dict.__iter__»;refine Zb ?_;unfold Builtin.Dict.dictSlotNone;refine Zb (Uf hm.ty ?_);show wpAny _ _ (pure (Value.ref d)) _ _ s;refine Zf ?_)
 (show wpAny _ _ (Builtin.Dict.showsAll d>>=_) _ _ s;unfold Builtin.Dict.showsAll;rw[if_neg (by rw[hd];exact Zj)];refine Zb (Zf (Zb (Xf ho hdat (Zb (Vl ho hdat ?_))))))
 refine Zb (Ys (Zf ⟨_,rfl,"dict_keyiterator",_,⟨_,Zl _ rfl,rfl⟩,Xu.lookup,by simpa[rawInt]using hQ⟩))
theorem b0h{it:Addr}{i:Nat}{Q:Option Value->Shared->Prop}(hit:s.heap.IsKeyIter it d i es.size ep)(hm:RawD s.heap d es ep)(hlt:i<es.size)
  (hQ:∀h',h'.IsKeyIter it d (i+1) es.size ep->Heap.SameBut it s.heap h'->Q (some es[i].key) { s with heap:=h'}):wpAny (model prog w) A (pyNext (.ref it)) Q E s:=by
 obtain⟨o,ho,hc,hd⟩:=id hit;obtain⟨od,hod,hcd,hdd⟩:=id hm
 (unfold pyNext;refine Zb (Vh (wpAny_callSpecial?_slot (name:=ofString "__next__") hit.typeIs Xu (Yr Xu hit.typeIs Ta ?_ (U7 _)))))
 (refine Zb (Zf (Zb (Zb ?_)));first|refine Zb (We hit.typeIs (Zf ?_))|refine Zb (Wx hit.typeIs (Zf ?_)))
 refine Zb (wpAny_fieldsOf ho hd ?_);simp only[show Builtin.Dict_items.ownsTuple "dict_keyiterator"=false by decide,Wh,X4]
 (show wpAny _ _ (if(Value.ref d==Value.none)=true then _ else _) _ _ s;rw[if_neg (show ¬((Value.ref d==Value.none)=true)from Zj)];refine Zb (Zf (Zb (Xf hod hdd ?_))))
 (rw[if_neg qz];refine Zb (Zf (Zb (Vl hod hdd ?_)));rw[if_neg qz];refine Zf ?_)
 simp only[show ¬((i:Int)<0)from by omega,X4,Y5,Yp hlt]
 (refine Zb ?_;first|refine Zb (We hit.typeIs (Zf ?_))|refine Zb (Wx hit.typeIs (Zf ?_)))
 (refine Zb (Sd hit.typeIs ?_);show wpAny _ _ (setField (.ref it) 1 (rawInt ((i:Int)+1))>>=_) _ _ s;refine Zb (Wn ho hd qz ?_))
 have new:(s.heap.update it (Obj.mapFields (·.setIfInBounds 1 (rawInt ((i:Int)+1))))).IsKeyIter it d (i+1) es.size ep:=⟨_,Y3 _ ho (Vc (Xn hd _)),(U2 ..).trans hc,by rw[Xn hd];simp[rawInt]⟩;refine Zb (Y7 ?_)
 (refine Zb (Sd (s:={ s with heap:=s.heap.update it (Obj.mapFields (·.setIfInBounds 1 (rawInt ((i:Int)+1))))}) new.typeIs ?_))
 (show wpAny _ _ (pure es[i].key) _ _ _;exact Zf (Zf ⟨_,rfl,Zf (hQ _ new (Xj ..))⟩))
theorem b1f{it:Addr}{Q:Option Value->Shared->Prop}(hh:A.handled=none)(hit:s.heap.IsKeyIter it d es.size es.size ep)(hm:RawD s.heap d es ep)
  (hQ:∀h',Heap.ExtBut it s.heap h'->Q none { s with heap:=h'}):wpAny (model prog w) A (pyNext (.ref it)) Q E s:=by
 obtain⟨o,ho,hc,hd⟩:=id hit;obtain⟨od,hod,hcd,hdd⟩:=id hm
 (unfold pyNext;refine Zb (Vh (wpAny_callSpecial?_slot (name:=ofString "__next__") hit.typeIs Xu (Yr Xu hit.typeIs Ta ?_ (U7 _)))))
 (refine Zb (Zf (Zb (Zb ?_)));first|refine Zb (We hit.typeIs (Zf ?_))|refine Zb (Wx hit.typeIs (Zf ?_)))
 refine Zb (wpAny_fieldsOf ho hd ?_);simp only[show Builtin.Dict_items.ownsTuple "dict_keyiterator"=false by decide,Wh,X4]
 (show wpAny _ _ (if(Value.ref d==Value.none)=true then _ else _) _ _ s;rw[if_neg (show ¬((Value.ref d==Value.none)=true)from Zj)];refine Zb (Zf (Zb (Xf hod hdd ?_))))
 (rw[if_neg qz];refine Zb (Zf (Zb (Vl hod hdd ?_)));rw[if_neg qz];refine Zf ?_)
 simp only[show ¬((es.size:Int)<0)from by omega,X4,Y5,Sc (Zg es.size)]
 (refine Zb ?_;first|refine Zb (We hit.typeIs (Zf ?_))|refine Zb (Wx hit.typeIs (Zf ?_)))
 (show wpAny _ _ (setField (.ref it) 0 .none>>=_) _ _ s;refine Zb (Wn ho hd qz ?_);show wpAny _ _ (newExc (.type "StopIteration") []>>=_) _ _ _;refine Zb ?_;simp only[newExc,newTuple])
 (refine Zb (Ys (Zb (m:=firstArgMember _ _) (Wf (a:=Value.none) (by first|rfl| (simp only[firstArgMember];rfl)) (Ys ?_ (by size_fits)))) (by size_fits)))
 (simp only[raiseNew];refine Zb (To ?_);rw[show A.in1.handled=none from hh];refine Zb (Zf (Sg ?_));refine Zb (Wq (T:="StopIteration") (b:=true) ⟨_,Zl _ rfl,rfl⟩ isSubtype_stop ?_))
 exact Zf (hQ _ (((Xj ..).extBut.push _).push _))
theorem c3f(hh:A.handled=none)(I d:Addr)(hne:d≠I)(es:Array DictEntry)(ep:Nat):Walks prog w A I [I,d] [I] es.size (λi v=>∃e,es[i]? =some e/\v=e.key) (λi h=>h.IsKeyIter I d i es.size ep/\RawD h d es ep) where
 sub:=λb hb=>by rw[Zr.mp hb];exact Z0
 frame:=λ_ _ _ st hk=>⟨st.1.at λo e=>hk I qz o e,st.2.on λo e=>hk d qz o e⟩
 item:=λi s Q E hi st hQ=>b0h st.1 st.2 hi λh' a b=>hQ _ h' s.toks ⟨es[i],Yp hi,rfl⟩ ⟨a,st.2.on λo e=>b.extBut d o hne e⟩ λc o hb e=>b.extBut c o (λz=>hb (by rw[z];simp)) e
 done:=λs Q E st hQ=>b1f hh st.1 st.2 λh' b=>hQ h' s.toks λc o hb e=>b c o (λz=>hb (by rw[z];simp)) e
 self:=λ_ _ _ _ st hQ=>Uj st.1 hQ
theorem raw_src(lo:(d==sysModules)=false):KdlSrc prog w "dict" d d es.size (λi v=>∃e,es[i]? =some e/\v=e.key) (λh=>RawD h d es ep) where
 type:=λ_ m=>m.ty
 there:=λ_ m=>⟨m.lt,m.lt⟩
 keep:=λ_ _ m hk=>m.on λo e=>hk d (.inl rfl) o e
 notList:=by decide
 notTuple:=by decide
 hint:=λ_ _ _ _ m hq=>kdl_hint_dict m.ty hq
 iter:=λ_ _ hh m=>⟨_,_,(λ_ _ hq=>b6a lo m hq),c3f hh _ d (Z6 m.lt) es ep,⟨_,Zl _ rfl,rfl,rfl⟩,m.on λo e=>Zd _ e⟩
end
section
variable{X:Cx}
theorem raw_of{P:Program}{w:World}{h:Heap}{a:Addr}{xs:List (List Key×Addr×Value)}(x:h.DictOfH (tupleKind (a1e P w)) a xs):∃es ep,RawD h a es ep/\es.toList=xs.map (entryOfKey (tupleKind (a1e P w))):=by
 obtain⟨o,es,ep,h1,h2,h3,h4,_⟩:=x;exact⟨es,ep,⟨o,h1,h2,h3⟩,h4⟩
theorem c7m{P:Nat->Value->Prop}{acc:Array Value}{n:Nat}{l:List Value}(h:ItemsOf P acc n)(hl:l.length=n)(hp:∀j v,P j v->l[j]? =some v):acc.toList=l:=by
 apply W7
 intro j
 by_cases hj:j<n
 ·have h1:j<acc.size:=by rw[h.1];exact hj
  rw[Xa,Yp h1];exact(hp j _ (h.2 j _ (Yp h1))).symm
 ·have h1:acc.toList.length<=j:=by rw[Yw,h.1];omega
  rw[Yj h1,Yj qo]
theorem b8a{α β:Type}{R:α->β->Prop}:∀{xs:List α}{ys:List β},Paired R xs ys->∀(i:Nat)(x:α),xs[i]? =some x->∃y,ys[i]? =some y/\R x y
 |_,_,.nil,i,x,h=>by simp at h
 |_,_,.cons r t,0,x,h=>by simp at h;subst h;exact⟨_,rfl,r⟩
 |_,_,.cons r t,i+1,x,h=>by simpa using b8a t i x (by simpa using h)
theorem b1g{α β:Type}{R:α->β->Prop}:∀{xs:List α}{ys:List β},Paired R xs ys->∀(i:Nat)(y:β),ys[i]? =some y->∃x,xs[i]? =some x/\R x y
 |_,_,.nil,i,x,h=>by simp at h
 |_,_,.cons r t,0,x,h=>by simp at h;subst h;exact⟨_,rfl,r⟩
 |_,_,.cons r t,i+1,x,h=>by simpa using b1g t i x (by simpa using h)
theorem d0l{P:Program}{w:World}{k:Key}{u:Value}(h:(a1e P w).is k u=true):RelV (kV k) u:=by
 cases u with
 |int i t=>
  cases k with
  |inl j=>
   have e:(Sum.inl i:Key)=Sum.inl j:=(a1e P w).inj _ _ _ (b1d P w i t) h;cases e;exact⟨t,rfl⟩
  |inr x=>exact nomatch (show(Sum.inl i:Key)=Sum.inr x from(a1e P w).inj _ _ _ (b1d P w i t) h)
 |str x t=>
  cases k with
  |inr j=>
   have e:(Sum.inr x:Key)=Sum.inr j:=(a1e P w).inj _ _ _ (b1e P w x t) h;cases e;exact⟨t,rfl⟩
  |inl i=>exact nomatch (show(Sum.inr x:Key)=Sum.inl i from(a1e P w).inj _ _ _ (b1e P w x t) h)
 |_=>cases k<;>exact absurd (show false=true from h) Zj
def mLstT:List V->Hp->VK->Prop:=λvs H Q=>∃a kvs,vs=[.ref a]/\H a=some (.dT kvs)/\∀(p:Addr)(bs:List Addr),H p=none->bs.length=kvs.length->(∀(i:Nat)(k:List Key)(v:V),kvs[i]? =some (k,v)->∃b,bs[i]? =some b/\H b=some (.tup (k.map kV)))->Q (.ref p) (upd H p (.lst (bs.map V.ref)))
theorem c0r:∀bs:List Addr,Vals (bs.map V.ref) (bs.map Value.ref)
 | []=>.nil
 |b::r=>.cons rfl (c0r r)
theorem b6b(hc:X.calm=true):a2w X (.type "list") mLstT:=by
 intro pins s σ H vs us Q I r h;obtain⟨a,kvs,rfl,ha,q⟩:=h;obtain⟨u,rfl,r1⟩:=vals1 r;cases r1;obtain⟨z,lo,xs,rel,dd⟩:=b4u I.hok ha;obtain⟨es,ep,raw,he⟩:=raw_of dd;have hlx:=Yo rel;have hsz:es.size=xs.length:=by rw[<-Yw,he,length_map]
 refine kdl_call (raw_src lo) (I.ok.hd hc) raw qo λh' tk acc c hk hS hacc=>?_
 have hl:acc.toList=(xs.map (·.2.1)).map Value.ref:=c7m hacc (by simp[hsz]) λj v hv=>by
  obtain⟨e,h1,rfl⟩:=hv;have h2:es.toList[j]? =some e:=by rw[Xa];exact h1
  rw[he,Zs]at h2;obtain⟨y,h3,h4⟩:=Ym.mp h2;rw[Zs,Zs,h3,<-h4];rfl
 have hf:=I.hok.fresh (Zg _);refine⟨.ref s.heap.objs.size,_,I.laid (a:=s.heap.objs.size) (o:=.lst ((xs.map (·.2.1)).map V.ref)) (t':=tk) hk (Zg _) ⟨by simp;omega,acc.toList,c,by rw[hl];exact c0r _,by simpa using hS⟩,rfl,q _ _ hf (by simp[hlx]) λi k v e=>?_⟩;obtain⟨y,h1,h2,h3,_⟩:=b8a rel i (k,v) e;exact⟨y.2.1,by rw[Zs,h1];rfl,h3⟩
def mLstK:List V->Hp->VK->Prop:=λvs H Q=>∃a kvs,vs=[.ref a]/\Rd H a (.dK kvs)/\∀p:Addr,H p=none->Q (.ref p) (upd H p (.lst (kvs.map λkv=>kV kv.1)))
theorem b5q:∀{xs:List V}{us:List Value},us.length=xs.length->(∀(j:Nat)(v:Value),us[j]? =some v->∃x,xs[j]? =some x/\RelV x v)->Vals xs us
 | [],[],_,_=>.nil
 |x::r,u::t,hl,h=>by
  obtain⟨y,h1,h2⟩:=h 0 u rfl
  simp at h1
  subst h1;exact .cons h2 (b5q (by simpa using hl) λj v e=>by simpa using h (j+1) v (by simpa using e))
 | [],_::_,hl,_=>by simp at hl
 |_::_,[],hl,_=>by simp at hl
theorem d3t(hc:X.calm=true):a2w X (.type "list") mLstK:=by
 intro pins s σ H vs us Q I r h;obtain⟨a,kvs,rfl,ha,q⟩:=h;obtain⟨u,rfl,r1⟩:=vals1 r;cases r1;obtain⟨z,lo,xs,rel,dd⟩:=a8j I.hok ha;obtain⟨ep,dd⟩:=dd.dictAt;have hlx:=rel.length;refine kdl_call (kdl_dict (knd:=a1e X.prog X.w) lo) (I.ok.hd hc) dd qo λh' tk acc c hk hS hacc=>?_
 refine⟨.ref s.heap.objs.size,_,I.laid (a:=s.heap.objs.size) (o:=.lst (kvs.map λkv=>kV kv.1)) (t':=tk) hk (Zg _) ⟨by simp;omega,acc.toList,c,?_,by simpa using hS⟩,rfl,q _ (I.hok.fresh (Zg _))⟩;refine b5q (by rw[Yw,hacc.1,length_map,hlx]) λj v e=>?_
 obtain⟨k,x,h1,h2⟩:=hacc.2 j v (by rw[<-Xa];exact e);obtain⟨kv,h3,h4,h5⟩:=b1g rel j (k,x) h1;refine⟨kV k,by rw[Zs,h3];exact Xg (λz=>some (kV z)) h4,?_⟩;exact d0l h2
end
open PySem.AutoSeq1 (wpAny_loadPart')
def EqIn(prog:Program)(w:World)(A:Around)(s:Shared)(y x:Value):Prop:=∀(E:Value->Shared->Prop)(Q:Bool->Shared->Prop),Q true s->wpAny (model prog w) A (eqBool y x) Q E s
section
variable{prog:Program}{w:World}{A:Around}{E:Value->Shared->Prop}{s:Shared}
theorem EqIn.at{y x:Value}(h:SeqAt.EqAt A s y x true):EqIn prog w A s y x:=λE Q q=>h prog w E Q q
theorem EqIn.refs{l b:Addr}(hne:l≠b)(h:∀(E:Value->Shared->Prop)(Q:Value->Shared->Prop),Q (.bool true) s->wpAny (model prog w) A (compareOp .Eq (.ref l) (.ref b)) Q E s):EqIn prog w A s (.ref l) (.ref b):=λE Q q=>by
 unfold eqBool;refine Y7 (Yq (λhab=>absurd (Value.ref.inj (eq_of_beq hab)) hne) λ_=>Zb (h E _ (Xq q)))
variable{K:Type}[DecidableEq K]{knd:HeapKind prog w K}
theorem hd_same{nm:String}{a b:Addr}{xa xb:List (K×Addr×Value)}{Q:Bool->Shared->Prop}(ha:(a==sysModules)=false)(hb:(b==sysModules)=false)(da:s.heap.DictOfH knd a xa)(db:s.heap.DictOfH knd b xb)(hl:xa.length=xb.length)(hu:knd.room A)
  (hit:∀(i:Nat)(k:K)(p:Addr×Value),xa[i]? =some (k,p)->∀(j:Nat)(q:Addr×Value),xb[j]? =some (k,q)->EqIn prog w A s p.2 q.2)(has:∀(i:Nat)(k:K)(p:Addr×Value),xa[i]? =some (k,p)->∃(j:Nat)(q:Addr×Value),xb[j]? =some (k,q))(h:Q true s):wpAny (model prog w) A (Builtin.Dict.samePairs nm a b) Q E s:=by
 obtain⟨oa,es,ep,hoa,_,hda,hea,hia,hna⟩:=da;obtain⟨ob,es',ep',hob,_,hdb,heb,hib,hnb⟩:=db;have s1:=Ub hea;have s2:=Ub heb;unfold Builtin.Dict.samePairs Builtin.Dict.showsAll;rw[if_neg (by rw[ha];exact Zj),if_neg (by rw[hb];exact Zj)];refine Zb (Zf (Zb (Zf (Zb (Xf hoa hda ?_)))))
 (dsimp only;refine Zb (Xf hob hdb ?_);rw[if_neg (by rw[s1,s2,hl];simp)];refine Zb (Vl hoa hda (Zb ?_)))
 (rw[Std.Legacy.Range.forIn_eq_forIn_range'];simp only[Std.Legacy.Range.size,U3,Nat.add_sub_cancel,Nat.div_one])
 refine wpAny_forIn_list _ (λrest q s'=>s'=s/\q=(none,())/\∃i,rest=List.range' i (es.size-i)/\i<=es.size) _ ?_ ?_ _ _ ⟨rfl,rfl,0,qz,Yk _⟩
 ·rintro x rest q s' ⟨rfl,rfl,i,hr,hi⟩
  have hlt:i<es.size:=Nat.lt_of_not_le λz=>by rw[Nat.sub_eq_zero_of_le z]at hr;simp at hr
  have hs:es.size-i=(es.size-(i+1))+1:=by omega
  rw[hs,List.range'_succ]at hr;obtain⟨rfl,hrest⟩:=Tx hr;have hxl:x<xa.length:=by omega
  obtain⟨⟨k,p⟩,hkp⟩:∃y,xa[x]? =some y:=⟨_,Za hxl⟩
  have hent:es[x]? =some (entryOfKey knd (k,p)):=by rw[entry_at hea x,hkp];rfl
  (refine Zb (Xf hoa hda ?_);rw[hent];show wpAny _ _ (holding [Value.ref p.1,p.2] _>>=_) _ _ _;refine Zb (Y7 (Zb ?_)))
  refine Sz hu (hia _ (Y0 hkp)) hob hdb heb hib hnb (λno=>?_) λj q hj=>?_
  ·obtain⟨j,q,hj⟩:=has x k p hkp;exact absurd hj (no j q)
  ·have hent':es'[j]? =some (entryOfKey knd (k,q)):=by rw[entry_at heb j,hj];rfl
   (refine Zb (Xf hob hdb ?_);rw[hent'];refine Y7 (hit x k p hkp j q hj _ _ ?_))
   (show wpAny _ _ (if(!true)=true then _ else _) _ _ _;rw[if_neg qd];refine Zb (Vl hoa hda ?_);rw[if_neg qz])
   exact Zf ⟨rfl,rfl,x+1,hrest,hlt⟩
 ·rintro q s' ⟨rfl,rfl,i,hr,hi⟩
  exact Zf h
theorem hd_eq{a b:Addr}{xa xb:List (K×Addr×Value)}{Q:Value->Shared->Prop}(ha:(a==sysModules)=false)(hb:(b==sysModules)=false)(da:s.heap.DictOfH knd a xa)(db:s.heap.DictOfH knd b xb)(hl:xa.length=xb.length)(hu:knd.room A.in1)(hr:A.units<cLine)
  (hit:∀(i:Nat)(k:K)(p:Addr×Value),xa[i]? =some (k,p)->∀(j:Nat)(q:Addr×Value),xb[j]? =some (k,q)->EqIn prog w A.in1 s p.2 q.2)(has:∀(i:Nat)(k:K)(p:Addr×Value),xa[i]? =some (k,p)->∃(j:Nat)(q:Addr×Value),xb[j]? =some (k,q))(h:Q (.bool true) s):wpAny (model prog w) A (compareOp .Eq (.ref a) (.ref b)) Q E s:=by
 refine Tf (op:=.Eq) da.typeIs db.typeIs F.slot_dict_eq (Yr F.slot_dict_eq da.typeIs F.entry_dict_eq ?_ (F.args_dict_eq_2 _ _)) hr
 (show wpAny _ _ (Builtin.Dict.dictSlotArgs "__eq__" ⟨[.ref a,.ref b],[]⟩>>=_) _ _ s;refine Zb ?_;unfold Builtin.Dict.dictSlotArgs;refine Zb (Uf da.typeIs ?_))
 (show wpAny _ _ (pure (Value.ref a,Value.ref b)) _ _ s;refine Zf (Zb (Wq (T:="dict") db.typeIs F.sub_dict_dict ?_));simp only[Tz,Wh,X4])
 refine Zb (Zf (Zb (Zf (Zb (hd_same ha hb da db hl hu hit has (Zf ⟨_,rfl,(λx=>nomatch x),h⟩))))))
end
section
variable{X:Cx}
theorem a7g(K:W.Frag)(hK:X.K=K){pos:Pos}{es:List Expr}{k:Nat}{t:TGs}{n:Nat}(hc:X.calm=true)(h:PGs X es t)
  (hn:(assignEach es X.env).length=n:=by rfl)(hst:(assignEach es X.env).findIdx? (·.1)=none:=by rfl):PG X (.Tuple es k pos) (gTup K n t):=hK▸pg_tup hc h hn hst
end
section
variable{K:W.Frag}{σ:St}{H:Hp}{Q:VK}{D:Ends}{a:Addr}{xs:List V}{n:Nat}
theorem a8r{t:TGs}{N:St->Hp->Prop}(hs:SqT K H a xs)(hl:xs.length=n)(k:t xs σ H N):gTup K n t (.ref a) σ H N:=⟨a,xs,rfl,hs,hl,k⟩
theorem gCons_i{t:TG}{u:TGs}{v:V}{r:List V}{N:St->Hp->Prop}(k:t v σ H λσ' H'=>u r σ' H' N):gCons t u (v::r) σ H N:=⟨v,r,rfl,k⟩
theorem gNil_i{N:St->Hp->Prop}(k:N σ H):gNil [] σ H N:=⟨rfl,k⟩
theorem for_en{g:TG}{tb:TS}(Pv:Nat->St->Hp->Prop)(h0:Pv 0 σ H)(hok:∀i σ H,Pv i σ H->SqL K H a xs)
  (hs:∀i σ H T,i<xs.length->Pv i σ H->H T=none->g (.ref T) σ (upd H T (.tup [.int i,xs.getD i .non])) λσ2 H2=>tb { D with nx:=Pv (i+1),ct:=Pv (i+1),bk:=D.nx} σ2 H2)(hd:∀σ H,Pv xs.length σ H->D.nx σ H):
  ForW (Ite K a xs.length) g tb D σ H:=by
 refine⟨λi m σ H=>m=xs.length-i/\i<=xs.length/\Pv i σ H,⟨xs.length,qz,Yk _,h0⟩,?_⟩
 rintro i m σ H ⟨rfl,hi,p⟩
 have hq:=hok i σ H p
 by_cases hlt:i<xs.length
 ·refine .inr ⟨⟨hlt,xs,hq,rfl⟩,Pv (i+1),λσ' H' p'=>⟨xs.length-(i+1),qo,rfl,hlt,p'⟩,λx H' y=>?_⟩;obtain⟨T,z,hT,rfl,rfl,hz⟩:=y;have e:xs.getD i .non=z:=by rw[Zk,hz xs hq];rfl
  have:=hs i σ H T hlt p hT;rw[e]at this;exact this
 ·have e:i=xs.length:=by omega
  subst e;exact .inl ⟨⟨rfl,xs,hq,rfl⟩,hd σ H p⟩
theorem d3u(ys:List V):cutV ys none (some (-1))=ys.dropLast:=by
 unfold cutV HT.sIx;simp only[U3,Um];rw[List.dropLast_eq_take]
 congr 1
 have:((-1:Int)<0):=by decide
 simp only[this,if_true];omega
end
section
variable{X:Cx}
theorem eqAt_kV{A:Around}{s:Shared}{a b:Key}{u v:Value}(ra:RelV (kV a) u)(rb:RelV (kV b) v):SeqAt.EqAt A s u v (decide (a=b)):=by
 cases a with
 |inl i=>
  obtain⟨t,rfl⟩:=ra;cases b with
  |inl j=>
   obtain⟨t',rfl⟩:=rb;rw[c8u];have:=Xz (A:=A) (s:=s) i t j t'
   simpa[PyData.eqv]using this
  |inr y=>
   obtain⟨t',rfl⟩:=rb;rw[c8w];exact Uu i t y t'
 |inr x=>
  obtain⟨t,rfl⟩:=ra;cases b with
  |inl j=>
   obtain⟨t',rfl⟩:=rb;rw[c8x];exact Ut x t j t'
  |inr y=>
   obtain⟨t',rfl⟩:=rb;rw[c8v];have:=Vs (A:=A) (s:=s) x t y t';have e:(x==y)=decide (x=y):=by
    by_cases h:x=y
    ·subst h;simp
    ·rw[Z4 h];exact Xw.mpr h
   rw[<-e]
   simpa[PyData.eqv]using this
theorem all_eq(k1 k2:List Key):((List.range (min k1.length k2.length)).all (λj=>decide (k1[j]? =k2[j]?))&&(k1.length==k2.length))=decide (k1=k2):=by
 by_cases h:k1=k2
 ·subst h
  simp
 ·rw[Z4 h];cases hl:(k1.length==k2.length)with
  |false=>rw[Vb]
  |true=>
   have hl:k1.length=k2.length:=eq_of_beq hl;rw[Bool.and_true];refine Bool.eq_false_iff.mpr λz=>h ?_
   apply W7
   intro j
   by_cases hj:j<k1.length
   ·exact Z8 (Xy.mp z j (X0.mpr qo))
   ·rw[Yj qo,Yj qo]
def mEqKs(K:W.Frag):R2:=λx y H Q=>∃(p q:Addr)(k1 k2:List Key),x=.ref p/\y=.ref q/\SqT K H p (k1.map kV)/\SqT K H q (k2.map kV)/\Q (.bl (decide (k1=k2))) H
theorem ko_eqKs(K:W.Frag)(hK:X.K=K)(hu:X.A.units+150<cLine):OpR X (compareOp .Eq) (mEqKs K):=by
 subst hK;intro pins s σ H x y v u Q I rx ry h;obtain⟨p,q,k1,k2,rfl,rfl,hp,hq,k⟩:=h;cases rx;cases ry;obtain⟨its,rv,p1,_⟩:=I.tuple hp;obtain⟨its',rv',p2,_⟩:=I.tuple hq;have l1:=rv.length;have l2:=rv'.length;rw[length_map]at l1 l2;refine SeqAt.eq_tupleAt (e:=λj=>decide (k1[j]? =k2[j]?)) (show s.heap.IsTuple p its.toArray from p1) (show s.heap.IsTuple q its'.toArray from p2) qo (λj h1 h2=>?_) ?_
 ·have g1:j<its.length:=by simpa using h1
  have g2:j<its'.length:=by simpa using h2
  have j1:j<k1.length:=by omega
  have j2:j<k2.length:=by omega
  obtain⟨w1,y1,z1⟩:=rv.get (show(k1.map kV)[j]? =some (kV k1[j]) by rw[Zs,Za j1];rfl);obtain⟨w2,y2,z2⟩:=rv'.get (show(k2.map kV)[j]? =some (kV k2[j]) by rw[Zs,Za j2];rfl);have q1:its.toArray[j]=w1:=by
   have:=Za g1;rw[y1]at this
   simpa using(Zi this).symm
  have q2:its'.toArray[j]=w2:=by
   have:=Za g2;rw[y2]at this
   simpa using(Zi this).symm
  rw[q1,q2];have:=eqAt_kV (A:=X.A.in1) (s:=s) z1 z2;rw[show decide (k1[j]? =k2[j]?)=decide (k1[j]=k2[j]) by rw[Za j1,Za j2];simp];exact this
 ·have e:((List.range (min its.toArray.size its'.toArray.size)).all (λj=>decide (k1[j]? =k2[j]?))&&(its.toArray.size==its'.toArray.size))=decide (k1=k2):=by
   rw[Ze,Ze,<-l1,<-l2];exact all_eq k1 k2
  rw[e];exact⟨.bl _,H,I,rfl,k⟩
end
structure QE(X:Cx)(e:Expr)(t:TE):Prop where
 pe:PE X e t
structure QP(X:Cx)(pos:Pos)(keys:List (Option Expr))(values:List Expr)(trs:List (TE×TE)):Prop where
 pp:PPs X pos keys values trs
structure QS(X:Cx)(st:Stmt)(t:TS):Prop where
 ps:PS X st t
structure QSs(X:Cx)(l:List Stmt)(t:TS):Prop where
 pss:PSs X l t
section
variable{X:Cx}{pos pos':Pos}{e k v:Expr}{te tk tv:TE}{st:Stmt}{rest:List Stmt}{t u:TS}
theorem b8b:QP X pos [] [] []:=⟨pps_nil⟩
theorem a2c{ks:List (Option Expr)}{vs:List Expr}{trs:List (TE×TE)}(hk:PE X k tk)(hv:PE X v tv)(hr:QP X pos ks vs trs):QP X pos (some k::ks) (v::vs) ((tk,tv)::trs):=⟨d3f hk hv hr.pp⟩
theorem b5a{keys:List (Option Expr)}{values:List Expr}{trs:List (TE×TE)}(h:QP X pos keys values trs)(hall:keys.all (·.isSome)=true)(hl:keys.length=values.length)(h0:keys≠[])(h15:keys.length<=15):QE X (.Dict keys values pos) (tDisp trs):=⟨pe_disp h.pp hall hl h0 h15⟩
theorem d0m{i:Nat}{x:Str}(hN:X.N.Nodup)(hi:X.N[i]? =some x)(hx:Loc X.env.scope x)(he:QE X e te)(hs:swapsWith e (some (.Name x pos')) pos.line X.env=pure false)(hf:X.fn x=true\/X.env.scope.names.lookup x=some .local):QS X (.Assign [.Name x pos'] e pos) (tAsg te (b7f i)):=⟨a0p hN hi hx he.pe hs hf⟩
theorem d0n(K:W.Frag)(hK:X.K=K){o:Expr}{to:TE}{apos cpos:Pos}(ho:PE X o to)(he:QE X e te)
  (hbase:attributeBase o "update" X.env (eval o X.env)=eval o X.env)
  (hfew:((backTo cpos (starEach [e] X.env)).all (λx=>!x.1)&&(backToKw cpos (keywordEach [] X.env)).all (λx=>x.1.isSome)&&decide (([e]:List Expr).length+([]:List Keyword).length+(if([]:List Keyword).isEmpty then 0 else 1)<30))=true)
  (hline:(apos.endLine==cpos.line)=true)(hs:starEach [e] X.env=(false,eval e X.env)::starEach [] X.env)(hplain:(backTo cpos (starEach [] X.env)).any (·.1)=false)(hsw:swapsWith (.Call (.Attribute o "update" apos) [e] [] cpos) none pos.line X.env=pure false):
  QS X (.Expr (.Call (.Attribute o "update" apos) [e] [] cpos) pos) (tDrop (tBM K "dict" mUpd to (b7m te tNil))):=
 ⟨a1f (a6f K hK Wl Rm F.type_dict_update d0h ho (b9l he.pe a0c hs) hbase hfew hline hs hplain) hsw⟩
theorem a2s(h1:QS X st t)(h2:QSs X rest u):QSs X (st::rest) (tSeq t u):=⟨a0e h1.ps h2.pss⟩
theorem a7h(h1:QS X st t):QSs X [st] t:=⟨a0g h1.ps⟩
end
section
variable{X:Cx}{tg:Expr}
def iSeq(K:W.Frag)(tl:TE):TI:=λσ H R=>tl σ H λx H1=>∃a,x=.ref a/\((∃xs,SqL K H1 a xs/\R (Itl K a) H1)\/∃xs,SqT K H1 a xs/\R (Itt K a) H1)
theorem c5z(K:W.Frag)(hK:X.K=K){l:Expr}{tl:TE}(hl:PE X l tl):PI X tg l (iSeq K tl):=by
 subst hK;intro pins s σ H R I h;refine thn (hl pins s σ H _ I h) λv s1 z9=>?_
 obtain⟨x,H1,I1,r1,q1⟩:=z9;obtain⟨a,e,q1⟩:=q1;subst e;cases r1;rcases q1 with⟨xs,hq,q⟩|⟨xs,hq,q⟩
 ·obtain⟨its,rv,p,hz⟩:=I1.list hq;refine W5 p.isList ?_;refine⟨s1.heap.objs.size,[s1.heap.objs.size],_,_,H1,rfl,I1.kept (t':=s1.toks) λb o e=>Zd _ e,c0h a _,⟨_,Zl _ rfl,rfl,rfl⟩,λb hb=>?_,q⟩;have e:b=s1.heap.objs.size:=by simpa using hb
  subst e;exact I1.fpOk (Zg _) (I1.hok.fresh (Zg _))
 ·obtain⟨its,rv,p,hz⟩:=I1.tuple hq;refine Wg (show s1.heap.IsTuple a its.toArray from p) ?_;refine⟨s1.heap.objs.size,[s1.heap.objs.size],_,_,H1,rfl,I1.kept (t':=s1.toks) λb o e=>Zd _ e,b7g a _,⟨_,Zl _ rfl,rfl,rfl⟩,λb hb=>?_,q⟩;have e:b=s1.heap.objs.size:=by simpa using hb
  subst e;exact I1.fpOk (Zg _) (I1.hok.fresh (Zg _))
theorem d0o{K:W.Frag}{σ:St}{H:Hp}{ta:TE}{R:It->Hp->Prop}(k:ta σ H λx H1=>∃a,x=.ref a/\((∃xs,SqL K H1 a xs/\R (Itl K a) H1)\/∃xs,SqT K H1 a xs/\R (Itt K a) H1)):iSeq K ta σ H R:=k
end
open PySem PySem.W
noncomputable abbrev newS:String:="ValueError.__new__"
structure XCls(K:Frag)(C:Addr)(bm:List Value):Prop where
 obj:∃nm q N bs sn sub ab col dd k0 k1 k2 k3 k5,K.lookup C=some (excClassObj nm q C N bs bm true sn sub ab col dd k0 k1 k2 k3 k5 newS)
 hasV:bm.contains (.type "ValueError")=true
 hasB:bm.contains (.type "BaseException")=true
 noA:bm.contains (.type "AttributeError")=false
 noN:bm.contains (.type "NameError")=false
section
variable{X:Cx}{pins:List (Addr×Obj)}{σ:St}{H:Hp}{s:Shared}{pos apos np:Pos}{a b o e value:Expr}{es:List Expr}{t:TA}{te ta tv:TE}{f x:Str}
structure XAttr(K:Frag)(C:Addr):Prop where
 ga:findIn K (.ref C) "__getattribute__"=some (some (.builtin "BaseException.__getattribute__"))
 gx:findIn K (.ref C) "__getattr__"=some none
 sa:findIn K (.ref C) "__setattr__"=some (some (.builtin "object.__setattr__"))
end
section
variable{X:Cx}{CX:CXT}{k:Nat}{f C:Addr}{fd:FuncData}{ps:List Str}{sp:Sp}{dvs:List V}{ds:List Value}{E:XK}{x m:Str}{p pos apos np:Pos}{e o:Expr}{es:List Expr}{ta te:TE}{t:TA}{bm:List Value}
structure XMk(K:Frag)(C:Addr)(bm:List Value)(f:Addr):Prop where
 cls:XCls K C bm
 init:findIn K (.ref C) "__init__"=some (some (.ref f))
 fn:typeIn K (.ref f)=some (.type "function")
 kp:keepIn K (.ref C)=true
structure XClsM(K:Frag)(C:Addr)(m:Str)(f:Addr):Prop where
 ga:specialIn K (.ref C) "__getattribute__"=some (some (.builtin "type.__getattribute__"))
 rd:readsIn K C (.type "type")=true
 at_:findCls K (.ref C) (.type "type") m=some (.val (.ref f))
 kp:keepIn K (.ref f)=true
end
end L2
namespace Att
open PySem PySem.W PySem.Calls PyProof.Rows
end Att
namespace L2
open PySem PySem.Spec PyProof.Rows
open PySem PySem.Spec PyProof.Rows PySem.W
section
variable{X:Cx}
def c2d(_ j:Int):Prop:=j≠0/\j.natAbs<2^1000
theorem d3v:OpR X (binaryOp .FloorDiv) (m2 c2d λi j=>.int (i.fdiv j)):=
 (opI λ_ j _ _ _ _ _ (hc:c2d _ j) q=>floordiv_int hc.1 q (.inl (PyProof.noPylong_of_log2 (by
  have h0:j.natAbs≠0:=λz=>hc.1 (Int.natAbs_eq_zero.mp z)
  exact Nat.lt_trans ((Nat.log2_lt h0).mpr hc.2) qd))):OpR X (binaryOp .FloorDiv) (rI c2d λi j=>.int (i.fdiv j))).imp λ_ _ _ _ h=>b7t h
theorem c6a(K:Frag)(h:X.K=K):OpR X (compareOp .NotIn) (rIn K true):=h▸c2o
end
theorem b6c(x:Str):∀xs:List Str,inV (.str x) (xs.map V.str)=decide (x∈xs)
 | []=>by simp[inV]
 |y::r=>by
  have ih:=b6c x r;unfold inV at ih ⊢;rw[Zp,Wy,ih]
  show((y==x)||decide (x∈r))=decide (x∈y::r)
  by_cases h:y=x
  ·subst h;simp
  ·have h2:x≠y:=λz=>h z.symm
   simp[h,h2]
theorem c3g(xs:List Str):(xs.map V.str).all a9g=true:=by
 rw[Xy];intro v hv;obtain⟨x,_,rfl⟩:=Z3.mp hv;rfl
theorem a5j{K:Frag}{H:Hp}{Q:VK}{p:Addr}{x:Str}(xs:List Str)(h:SqL K H p (xs.map V.str)\/SqT K H p (xs.map V.str))(k:Q (.bl (decide (x∈xs))) H):rIn K false (.str x) (.ref p) H Q:=⟨p,_,rfl,h,rfl,c3g xs,by rw[b6c];exact k⟩
theorem b6d{K:Frag}{H:Hp}{Q:VK}{p:Addr}{x:Str}(xs:List Str)(h:SqL K H p (xs.map V.str)\/SqT K H p (xs.map V.str))(k:Q (.bl (!decide (x∈xs))) H):rIn K true (.str x) (.ref p) H Q:=⟨p,_,rfl,h,rfl,c3g xs,by rw[b6c];exact k⟩
structure XIs(K:Frag)(C:Addr):Prop where
 ha:findIn K (.ref C) "__class__"=some (some (.builtin "object.__class__"))
 hn:specialIn K (.builtin "object.__class__") "__get__"=some (some (.builtin "getset_descriptor.__get__"))
 htk:takesIn K (.builtin "object.__class__")=some true
 hm:mroIn K C (.type "object")=some true
section
variable{X:Cx}{es rest:List Expr}{k:Nat}{pos:Pos}{env:Env}{te:TE}{t:TA}
def notStar:Expr->Bool
 | .Starred _ _=>false
 |_=>true
theorem c3h{e:Expr}(h:notStar e=true):starEach (e::rest) env=(false,eval e env)::starEach rest env:=by
 cases e<;>first|rfl|cases h
theorem a0a{e:Expr}(ha:PE X e te)(hr:PA X rest t)(h:notStar e=true:=by rfl):PA X (e::rest) (b7m te t):=b9l ha hr (c3h h)
theorem sw_tup{n:Option Expr}{l:Nat}:swapsWith (.Tuple es k pos) n l env=pure false:=rfl
theorem a8s{n:Option Expr}{l:Nat}:swapsWith (.List es pos) n l env=pure false:=rfl
theorem a3l{a b:Expr}{op:Operator}{n:Option Expr}{l:Nat}:swapsWith (.BinOp a op b pos) n l env=pure false:=rfl
theorem a4q{a b:Expr}{n:Option Expr}{l:Nat}:swapsWith (.Subscript a b pos) n l env=pure false:=rfl
theorem a1n{a:Expr}{kw:List Keyword}{n:Option Expr}{l:Nat}:swapsWith (.Call a es kw pos) n l env=pure false:=rfl
end
structure QA(X:Cx)(es:List Expr)(t:TA):Prop where
 pa:PA X es t
section
variable{X:Cx}{a b e:Expr}{es rest:List Expr}{k:Nat}{pos pos':Pos}{te ta tb:TE}{t:TA}{u v:TS}{st:Stmt}{x:Str}
theorem a7p(h:PE X e te):QE X e te:=⟨h⟩
theorem a8l(h:PS X st u):QS X st u:=⟨h⟩
theorem a8t:QA X [] tNil:=⟨a0c⟩
theorem a3w(ha:QE X e te)(hr:QA X rest t)(h:notStar e=true):QA X (e::rest) (b7m te t):=⟨b9l ha.pe hr.pa (c3h h)⟩
theorem a8u(h:QA X es t):QE X (.Tuple es k pos) (tTup t):=⟨a0x h.pa⟩
theorem c3i(he:QE X e te):QS X (.Return (some e) pos) (tRet te):=⟨a0q he.pe⟩
theorem b5b{c:Expr}{l m:List Stmt}{tc:TT}(hc:PT X c tc)(ha:QSs X l u)(hb:QSs X m v):QS X (.If c l m pos) (tIfS tc u v):=⟨a0y hc ha.pss hb.pss⟩
theorem a9u:QSs X [] tNext:=⟨a0v⟩
end
namespace FD
end FD
section
variable{prog:Program}{w:World}{A:Around}{R:Result->Shared->Prop}
def c3j{K:Type}[DecidableEq K](knd:PySem.KeyKind prog w K)(ts:List Addr)(kvs:List (K×Value))(h:Heap):Prop:=∀(i:Nat)(T:Addr),ts[i]? =some T->∃(kk:K)(key val:Value),kvs[i]? =some (kk,val)/\knd.is kk key=true/\IsTup h T #[key,val]
theorem c3j.keep{K:Type}[DecidableEq K]{knd:PySem.KeyKind prog w K}{ts:List Addr}{kvs:List (K×Value)}{h h':Heap}(x:c3j knd ts kvs h)(k:∀T∈ts,∀o,h.get? T=some o->h'.get? T=some o):c3j knd ts kvs h':=λi T e=>by
 obtain⟨kk,key,val,e1,e2,o,ho,r⟩:=x i T e;exact⟨kk,key,val,e1,e2,o,k T (Y0 e) o ho,r⟩
end
abbrev Rws:=List (Str×Trm)
section
variable{X:Cx}{pins:List (Addr×Obj)}{σ:St}{H:Hp}{s:Shared}
theorem d3w{ks:List Trm}{t:Trm}(h:t∈ks):t.size<=Trm.sizeL ks:=by
 obtain⟨a,b,rfl⟩:=List.append_of_mem h;rw[Trm.sizeL_app,Trm.sizeL];omega
end
section
variable{prog:Program}{w:World}{A:Around}{E:Value->Shared->Prop}{s:Shared}
theorem c7n{it l:Addr}{i:Nat}{items}{x:Value}{Q:Value->Shared->Prop}(hit:s.heap.IsTupleIter it l i)
  (hl:s.heap.IsTuple l items)(hx:items[i]? =some x)
  (hQ:∀h',h'.IsTupleIter it l (i+1)->Heap.SameBut it s.heap h'->Q x { s with heap:=h'}):
  wpAny (model prog w) A (Builtin.SmallTypes.nextOf (.ref it)) Q E s:=by
 obtain⟨o,ho,hc,hd⟩:=id hit;obtain⟨ol,hol,_,nl,hdl⟩:=hl;unfold Builtin.SmallTypes.nextOf
 refine Zb (wpAny_callSpecial?_slot (name:=ofString "__next__") hit.typeIs Wp
  (Yr Wp hit.typeIs Tg ?_ (Te _)))
 show wpAny _ _ (field (.ref it) 0>>=_) _ _ s
 refine Zb (Xk ho hd (x:=.ref l) rfl ?_)
 show wpAny _ _ (if(Value.ref l==Value.none)=true then _ else _) _ _ s
 rw[if_neg (show ¬((Value.ref l==Value.none)=true)from Zj)]
 show wpAny _ _ (field (.ref it) 1>>=_) _ _ s
 refine Zb (Xk ho hd (x:=.int i 0) rfl ?_)
 show wpAny _ _ (seqItems? (.ref l)>>=_) _ _ s
 refine Zb (Ti hol hdl ?_);simp only[Y5,hx];refine Zb (Wn ho hd qz (Zf ⟨x,rfl,Zf (hQ _ ?_ (Xj ..))⟩))
 exact⟨_,Y3 _ ho (Vc (Xn hd _)),(U2 ..).trans hc,by
  rw[Xn hd];simp[rawInt]⟩
theorem d0p{it l:Addr}{i:Nat}{items}{Q:Value->Shared->Prop}(hh:A.handled=none)
  (hit:s.heap.IsTupleIter it l i)(hl:s.heap.IsTuple l items)(hx:items[i]? =none)
  (hE:∀h' e,Heap.ExtBut it s.heap h'->(∃o,h'.get? e=some o/\o.cls=.type "StopIteration")->E (.ref e) { s with heap:=h'}):
  wpAny (model prog w) A (Builtin.SmallTypes.nextOf (.ref it)) Q E s:=by
 obtain⟨o,ho,hc,hd⟩:=id hit;obtain⟨ol,hol,_,nl,hdl⟩:=hl;unfold Builtin.SmallTypes.nextOf
 refine Zb (wpAny_callSpecial?_slot (name:=ofString "__next__") hit.typeIs Wp
  (Yr Wp hit.typeIs Tg ?_ (Te _)))
 show wpAny _ _ (field (.ref it) 0>>=_) _ _ s
 refine Zb (Xk ho hd (x:=.ref l) rfl ?_)
 show wpAny _ _ (if(Value.ref l==Value.none)=true then _ else _) _ _ s
 rw[if_neg (show ¬((Value.ref l==Value.none)=true)from Zj)]
 show wpAny _ _ (field (.ref it) 1>>=_) _ _ s
 refine Zb (Xk ho hd (x:=.int i 0) rfl ?_)
 show wpAny _ _ (seqItems? (.ref l)>>=_) _ _ s
 refine Zb (Ti hol hdl ?_);simp only[Y5,hx];refine Zb (Vp (Zb (Wn ho hd qz ?_)))
 show wpAny _ _ (newExc (.type "StopIteration") []>>=_) _ _ _
 refine Zb ?_;simp only[newExc,newTuple];refine Zb (Ys ?_ (by size_fits));refine Zb (m:=firstArgMember _ _) (Wf (a:=Value.none) (by first|rfl| (simp only[firstArgMember];rfl)) ?_);refine Ys ?_ (by size_fits);simp only[raiseNew];refine Zb (To ?_)
 first|rw[show A.in1.handled=none from hh]|rw[hh]
 refine Zb (Zf (Sg ?_));exact hE _ _ (((Xj ..).extBut.push _).push _) ⟨_,Zl _ rfl,rfl⟩
abbrev d0q(h:Heap)(z TI TO:Addr)(f0:Value)(f1:Bool):Prop:=
 h.get? z=some { cls:=.type "zip",dict:=none,data:=.fields #[f0,.bool f1,.bool false,.ref TI,.ref TO],slots:=#[]}
end
section
variable{prog:Program}{w:World}{A:Around}{E:Value->Shared->Prop}{s:Shared}
def ZS(h:Heap)(z TI TO i1 i2 t1 t2 S:Addr)(i:Nat):Prop:=
 ((IsZip h z TI TO .none/\∃a b,IsPair h TO a b)\/∃(T:Addr)(f1:Bool)(o:Obj),d0q h z TI TO (rawInt T) f1/\h.get? T=some o/\T≠z/\T≠TO/\T≠i1/\T≠i2/\T≠S)/\IsPair h TI (.ref i1) (.ref i2)/\h.IsTupleIter i1 t1 i/\h.IsTupleIter i2 t2 i
end
def Itd(a:Addr)(o:Obj)(kvs:List (Key×V)):It:=⟨λi H=>i<kvs.length/\H a=some (.frz o (.dK kvs)),λi H x H'=>H'=H/\∃k v,kvs[i]? =some (k,v)/\x=kV k,λi H=>i=kvs.length/\H a=some (.frz o (.dK kvs))⟩
theorem c6b{P:Program}{w:World}{H:Hp}{h:Heap}{a:Addr}{o:Obj}{kvs:List (Key×V)}{es:Array DictEntry}{ep:Nat}(hd:o.data=.dict es ep)(hok:a1s P w H h a (.frz o (.dK kvs))):
  RawD h a es ep/\es.size=kvs.length/\∀(i:Nat)(hi:i<es.size),∃k v,kvs[i]? =some (k,v)/\RelV (kV k) es[i].key:=by
 obtain⟨ho,z,lo,vs,rel,dd⟩:=hok;obtain⟨ep',o',es',ho',hx,hd',hk,hpr,hn⟩:=dd.dictAt;rw[ho]at ho';cases ho';rw[hd]at hd';cases hd';have hsz:es.size=vs.length:=by rw[<-hpr.length];simp
 have hlx:=rel.length;refine⟨⟨o,ho,hx,hd⟩,qo,λi hi=>?_⟩;obtain⟨p,hp⟩:∃p,vs[i]? =some p:=⟨vs[i]'(by omega),Za qo⟩
 obtain⟨h1,h2⟩:=hpr.get? (e:=es[i]) (by simp[hi]) hp;obtain⟨kv,h3,h4,h5⟩:=b1g rel i p hp;refine⟨kv.1,kv.2,h3,?_⟩;rw[h4];exact d0l h1
theorem d0r{P:Program}{w:World}{K:W.Frag}{tg:Expr}(a it:Addr)(o:Obj)(kvs:List (Key×V))(es:Array DictEntry)(ep:Nat)(hd:o.data=.dict es ep):Turn P w K tg (Itd a o kvs) [it] it (λi h=>h.IsKeyIter it a i es.size ep) where
 mem:=by simp
 obj:=λi h st b hb=>by
  have e:b=it:=by simpa using hb
  subst e;obtain⟨o,e,c,d⟩:=st;exact⟨o,e,λv z=>by rw[d]at z;cases z⟩
 keep:=λi h h' st k=>by
  obtain⟨o,e,c⟩:=st;exact⟨o,k it qz o e,c⟩
 item:=by
  intro X hP hw hK hc i pins s σ H E I hf st hg;subst hP hw hK;obtain⟨hi,hH⟩:=hg;obtain⟨raw,hsz,hget⟩:=c6b hd (I.hok a _ hH);obtain⟨f0,f1,f2,f3,f4,f5⟩:=hf it qz;obtain⟨k,v,h1,h2⟩:=hget i qo;refine b0h st raw qo λh' st' sb=>?_
  have I1:Inv X pins σ H { s with heap:=h'}:=I.turned (t':=s.toks) (λb o hb e=>(sb.2 b hb).trans e) f0 f1 f3 f4 f5;obtain⟨o2,e,c,d⟩:=id st';exact⟨_,rfl,b2w (s:={ s with heap:=h'}) e c d qd ⟨kV k,H,I1,h2,⟨rfl,k,v,h1,rfl⟩,st',λb hb=>(hf b hb).1⟩⟩
 done:=by
  intro X hP hw hK hc i pins s σ H E I hf st hg;subst hP hw hK;obtain⟨f0,f1,f2,f3,f4,f5⟩:=hf it qz;obtain⟨hi,hH⟩:=hg;obtain⟨raw,hsz,hget⟩:=c6b hd (I.hok a _ hH);rw[hi,<-hsz]at st;exact b1f (I.ok.hd hc) st raw λh' eb=>⟨rfl,I.turned (t':=s.toks) (λb o hb e=>eb b o hb e) f0 f1 f3 f4 f5⟩
 self:=λ_ _ _ _ _ st h=>Uj st h
theorem c3k{a:Addr}{o:Obj}{kvs:List (Key×V)}:Row (Itd a o kvs) kvs.length (λi=>((kvs[i]?).map λp=>kV p.1).getD .non) (λH=>H a=some (.frz o (.dK kvs))):=⟨λi H h q=>⟨h,q⟩,λi H v H' hi q h=>by
 obtain⟨e,k,x,h1,h2⟩:=h;refine⟨e,?_⟩;rw[h1,h2]
 rfl,λH q=>⟨rfl,q⟩⟩
section
variable{X:Cx}{tg:Expr}
def NFz(X:Cx)(a:Addr):Prop:=∀o u,X.H₀ a≠some (.frz o u)
def iDict(NF:Addr->Prop)(tl:TE):TI:=λσ H R=>tl σ H λx H1=>∃a kvs,x=.ref a/\H1 a=some (.dK kvs)/\∀o,NF a->R (Itd a o kvs) (upd H1 a (.frz o (.dK kvs)))
theorem c6c{l:Expr}{tl:TE}(hl:PE X l tl):PI X tg l (iDict (NFz X) tl):=by
 intro pins s σ H R I h;refine thn (hl pins s σ H _ I h) λu s1 z9=>?_
 obtain⟨x,H1,I1,r1,a,kvs,ex,ha,q⟩:=z9;subst ex;cases r1;obtain⟨z,lo,vs,rel,dd⟩:=b7o I1.hok ha;obtain⟨ep,o,es,ho,hx,hd,hk,hpr,hn⟩:=dd.dictAt;have nf:NFz X a:=λo' u' e=>by
  have:=I1.base.frzs a o' u' e;rw[ha]at this;cases this
 have I2:Inv X pins σ (upd H1 a (.frz o (.dK kvs))) s1:=I1.write (t':=s1.toks) (h':=s1.heap) (x:=a) (e:=a) (by rw[ha];exact True.intro) (.inl rfl) (λb q hb e=>e) ⟨o,ho⟩ ⟨ho,z,lo,vs,rel,dd⟩;refine b6a lo ⟨o,ho,hx,hd⟩ ?_;refine⟨s1.heap.objs.size,[s1.heap.objs.size],_,_,_,rfl,I2.kept (t':=s1.toks) λb q e=>Zd _ e,d0r a _ o kvs es ep hd,⟨_,Zl _ rfl,rfl,rfl⟩,λb hb=>?_,q o nf⟩;have e:b=s1.heap.objs.size:=by simpa using hb
 subst e;exact I2.fpOk (Zg _) (I2.hok.fresh (Zg _))
theorem Inv.thaw{pins:List (Addr×Obj)}{σ:St}{H:Hp}{s:Shared}{a:Addr}{o:Obj}{kvs:List (Key×V)}(I:Inv X pins σ H s)(nf:NFz X a)(hH:H a=some (.frz o (.dK kvs))):Inv X pins σ (upd H a (.dK kvs)) s:=by
 have ne0:∀b,H b=none->b≠a:=λb h z=>by rw[z,hH]at h;cases h
 have ne1:∀b u,H b=some u->(∀o' u',u≠.frz o' u')->b≠a:=λb u h n z=>by
  rw[z,hH]at h;exact n _ _ (Zi h).symm
 have hok:=I.hok;refine{ I with base:=⟨I.base.keep,I.base.slot,λb o' g h e=>?_,I.base.there,λb xs e=>?_,λb o' u e=>?_,λb ps e=>?_⟩,free:=?_,freeC:=λx c e=>?_,pin:=λp hp=>?_,hok:=λb u e=>?_}
 ·have:=I.base.free b o' g h e;rw[a0l (ne0 b this)];exact this
 ·have:=I.base.tups b xs e;rw[a0l (ne1 b _ this (λ_ _ z=>by cases z))];exact this
 ·have:=I.base.frzs b o' u e;have nb:b≠a:=λz=>by subst z;exact nf o' u e
  rw[a0l nb];exact this
 ·obtain⟨more,this⟩:=I.base.tbls b ps e;refine⟨more,?_⟩;rw[a0l (ne1 b _ this (λ_ _ z=>by cases z))];exact this
 ·rw[a0l (ne0 _ I.free)];exact I.free
 ·have:=I.freeC x c e;rw[a0l (ne0 _ this)];exact this
 ·obtain⟨h1,h2,h3⟩:=I.pin p hp;refine⟨h1,?_,h3⟩;rw[a0l (ne0 _ h2)];exact h2
 ·by_cases hb:b=a
  ·subst hb;rw[a0b]at e;cases e;exact(hok b _ hH).2
  ·rw[a0l hb]at e;refine(hok b u e).stay (λc v _ q=>q) (λc q=>?_) λc xs q=>?_
   ·rw[a0l (ne1 c _ q (λ_ _ z=>by cases z))];exact q
   ·rw[a0l (ne1 c _ q (λ_ _ z=>by cases z))];exact q
def tThaw(NF:Addr->Prop)(t:TS):TS:=λD σ H=>t { nx:=λσ' H'=>∃a o kvs,NF a/\H' a=some (.frz o (.dK kvs))/\D.nx σ' (upd H' a (.dK kvs)),rt:=D.rt,bk:=D.bk,ct:=D.ct} σ H
theorem c6d{st:Stmt}{t:TS}(h:PS X st t):PS X st (tThaw (NFz X) t):=by
 intro pins s σ H D I q;refine thn (h pins s σ H _ I q) λf s1 r=>?_
 cases f with
 |next=>
  obtain⟨σ',H',I',a,o,kvs,nf,hH,q'⟩:=r;exact⟨σ',_,I'.thaw nf hH,q'⟩
 |brk=>exact r
 |cont=>exact r
 |ret u=>exact r
end
section
variable{X:Cx}
def mSumA(K:W.Frag):List V->Hp->VK->Prop:=λvs H Q=>∃(p:Addr)(ns:List Int),vs=[.ref p]/\SqL K H p (ns.map V.int)/\Q (.int ns.sum) H
theorem kc_sumA(K:W.Frag)(hK:X.K=K)(hc:X.calm=true):a2w X (.builtin "sum") (mSumA K):=by
 subst hK;intro pins s σ H xs us Q I r h;obtain⟨p,ns,rfl,hs,q⟩:=h;obtain⟨u,rfl,r1⟩:=vals1 r;cases r1;obtain⟨its,rv,pl,hz⟩:=I.list hs;have hi:IntsAre its ns:=intsAre_of rv;have hlen:its.length=ns.length:=hi.length;have hl:p<s.heap.objs.size:=by
  obtain⟨o,n,h1,_⟩:=pl;exact Zu h1
 refine call_sum_walkG (W5 pl.isList ?_)
 refine⟨s.heap.objs.size,[s.heap.objs.size,p],[s.heap.objs.size],its.toArray.size,_,_,λi=>ns.getD i 0,rfl,Re (A:=X.A.in1) (show X.A.in1.handled=none from I.ok.hd hc) s.heap.objs.size p (Z6 hl) its.toArray,
  ⟨⟨_,Zl _ rfl,rfl,rfl⟩,pl.isList.at λo e=>Zd _ e⟩,λb hb=>?_,λi v hv=>?_,λh' tk t' hk=>?_⟩
 ·rw[Xh];simp only[Zo,Yn,X9]at hb;rcases hb with rfl|rfl
  ·exact Xo _
  ·exact Xr hl
 ·have hv:its.toArray[i]? =some v:=hv
  rw[Vd]at hv;have hil:i<ns.length:=by
   have:=(Zh.mp hv).1;omega
  have x1:(ns.map V.int)[i]? =some (.int ns[i]):=by rw[Zs,Za hil];rfl
  obtain⟨w,e1,e2⟩:=rv.get x1;rw[e1]at hv;cases hv;obtain⟨t,rfl⟩:=e2;refine⟨t,?_⟩
  show Value.int ns[i] t=Value.int (ns.getD i 0) t
  rw[Zk,Za hil];rfl
 ·have e:preSum (λi=>ns.getD i 0) its.toArray.size=ns.sum:=by
   rw[Ze,hlen,preSum_eq ns _ (Zg _),Xx]
  rw[e];refine⟨.int _,H,I.kept (λb o e=>hk b o ?_ (Zd _ e)),⟨_,rfl⟩,q⟩;intro z;have z:b=s.heap.objs.size:=by simpa using z
  exact absurd (Zu e) (by rw[z];exact Yt _)
end
theorem c7o:typeLookup (.type "list_reverseiterator") "__len__"=pure none:=by rw[X3,Y9];kernel_rfl
theorem d3x:typeLookup (.type "list_reverseiterator") "__length_hint__"=pure (some (.builtin "list_reverseiterator.__length_hint__")):=by rw[X3,Y9];kernel_rfl
theorem d0s:typeLookup (.type "reversed") "__len__"=pure none:=by rw[X3,Y9];kernel_rfl
theorem b6e:Manifest.owners.lookup (String.ofList ['d','e','s','r','e','v','e','r'].reverse)=some Manifest.sig_reversed:=by kernel_rfl
theorem a5x:Slot "reversed" "__next__" "reversed.__next__":=
 .of (owner:="reversed") (n:="__next__") (by rw[X3,Y9];kernel_rfl) qk qk qk
  (by first|exact .inl (by decide+kernel)|exact .inr qk) (by rw[Wa];kernel_rfl)
theorem b3n:entryFor table "reversed.__next__"=some Builtin.«reversed.__next__»:=entryFor_of_tree (by kernel_rfl)
theorem b1v(a:Value):argsOk "reversed.__next__" ⟨[a],[]⟩:=by
 unfold argsOk;rw[signature?_of (id:="reversed.__next__") (n:=['_','_','t','x','e','n','_','_']) (o:=['d','e','s','r','e','v','e','r']) (by kernel_rfl) b6e];kernel_rfl
theorem b4a:Slot "reversed" "__iter__" "reversed.__iter__":=
 .of (owner:="reversed") (n:="__iter__") (by rw[X3,Y9];kernel_rfl) qk qk qk
  (by first|exact .inl (by decide+kernel)|exact .inr qk) (by rw[Wa];kernel_rfl)
theorem b9r(a:Value):argsOk "reversed.__iter__" ⟨[a],[]⟩:=by
 unfold argsOk;rw[signature?_of (id:="reversed.__iter__") (n:=['_','_','r','e','t','i','_','_']) (o:=['d','e','s','r','e','v','e','r']) (by kernel_rfl) b6e];kernel_rfl
theorem c1n:entryFor table "reversed.__iter__"=some Builtin.«dict_keyiterator.__iter__»:=
 entryFor_alias (id':="dict_keyiterator.__iter__") (by kernel_rfl) (by first|rfl|decide+kernel| (unfold String.splitOn;simp+decide [String.splitOnAux])) qk (by kernel_rfl)
theorem b0i:Slot "reversed" "__length_hint__" "reversed.__length_hint__":=
 .of (owner:="reversed") (n:="__length_hint__") (by rw[X3,Y9];kernel_rfl) qk qk qk
  (by first|exact .inl (by decide+kernel)|exact .inr qk) (by rw[Wa];kernel_rfl)
theorem c1o:entryFor table "reversed.__length_hint__"=some Builtin.«reversed.__length_hint__»:=entryFor_of_tree (by kernel_rfl)
theorem b9s(a:Value):argsOk "reversed.__length_hint__" ⟨[a],[]⟩:=by
 unfold argsOk;rw[signature?_of (id:="reversed.__length_hint__") (n:="__length_hint__".toList.reverse) (o:=['d','e','s','r','e','v','e','r']) (by kernel_rfl) b6e];kernel_rfl
theorem c3l:Slot "reversed" "__init__" "object.__init__":=
 .of (owner:="object") (n:="__init__") (by rw[X3,Y9];kernel_rfl) qk qk qk
  (by first|exact .inl (by decide+kernel)|exact .inr qk) (by rw[Wa];kernel_rfl)
theorem d0t:TypeCalled "reversed" "reversed.__new__" "object.__init__":=
 ⟨qk,qk,⟨_,_,F.mro_reversed⟩,madeBy_type F.mro_reversed F.lookup_reversed_new qk,qk,by rw[Wa];kernel_rfl,c3l⟩
theorem c7p:typeLookup (.type "tuple") "__reversed__"=pure none:=by rw[X3,Y9];kernel_rfl
def IsRv(h:Heap)(a t:Addr)(i:Int):Prop:=∃o,h.get? a=some o/\o.cls=.type "reversed"/\o.data=.fields #[.ref t,rawInt i]
theorem IsRv.typeIs{s:Shared}{a t:Addr}{i:Int}(x:IsRv s.heap a t i):s.TypeIs (.ref a) "reversed":=let⟨o,ho,hc,_⟩:=x;⟨o,ho,hc⟩
theorem IsRv.at{h h':Heap}{a l:Addr}{i:Int}(x:IsRv h a l i)(e:∀o,h.get? a=some o->h'.get? a=some o):IsRv h' a l i:=let⟨o,ho,r⟩:=x;⟨o,e _ ho,r⟩
def b8c(t:Addr)(i:Int):Obj:={ cls:=.type "reversed",data:=.fields #[.ref t,rawInt i]}
theorem d0u(t:Addr)(items:Array Value)(hn:(items.size:Int)<2^63):
  Meets (Builtin.«reversed.__new__» ⟨[.type "reversed",.ref t],[]⟩) (λ_ R s=>IsTup s.heap t items/\∀tk,R (.ok (.ret (.ref s.heap.objs.size))) { s with heap:=s.heap.push (b8c t ((items.size:Int)-1)),toks:=tk}):=
 .of_wp λprog w A R s h=>by
  obtain⟨ht,h⟩:=h;unfold Builtin.«reversed.__new__»;refine Zb (Wf (newClass_reversed _) ?_)
  try dsimp only
  refine Zb (Wf (a:=()) (by first|rfl|kernel_rfl) ?_);refine Zb (Wf (a:=()) (by first|rfl|kernel_rfl) ?_)
  try dsimp only
  refine Zb (X2 ht.typeIs c7p ?_)
  try dsimp only
  refine Zb ?_
  show wpAny _ _ (isInstance (Value.ref t) (.type "dict")>>=_) _ _ _
  refine Zb (Wq (T:="tuple") (b:=false) ht.typeIs (by rw[Wa];kernel_rfl) ?_);refine Yq (λhab=>absurd hab qd) (λ_=>?_);refine Zb (X2 ht.typeIs Ur.lookup ?_);refine Yq (λ_=>?_) (λhab=>absurd qk hab);refine Zf ?_;refine Yq (λhab=>absurd hab qd) (λ_=>?_);refine Zb (len_tuple ht hn ?_);refine Zb (m:=asInt? _) (Zf ?_);refine Zb ?_
  show wpAny _ _ (newObj (.type "reversed") (.fields #[.ref t,rawInt ((items.size:Int)-1)])) _ _ _
  refine Ys (Zf ⟨_,rfl,?_⟩);exact h _
section
variable{prog:Program}{w:World}{A:Around}{E:Value->Shared->Prop}{s:Shared}
theorem b5m{t:Addr}{items:Array Value}{Q:Value->Shared->Prop}(ht:IsTup s.heap t items)(hn:(items.size:Int)<2^63)
  (h:∀tk,Q (.ref s.heap.objs.size) { s with heap:=s.heap.push (b8c t ((items.size:Int)-1)),toks:=tk}):wpAny (model prog w) A (call (.type "reversed") [.ref t]) Q E s:=by
 refine callType_new d0t qd (F.typeCall_reversed_1 _) (F.newCall_reversed_1 _) (λobj=>Sw obj _) F.entry_reversed_new (d0u t items hn) ⟨ht,λtk=>?_⟩;exact⟨⟨_,Zl _ rfl,rfl⟩,h tk⟩
theorem c3m{it t:Addr}{i:Nat}{items:Array Value}{x:Value}{Q:Option Value->Shared->Prop}(hit:IsRv s.heap it t (i:Int))(ht:IsTup s.heap t items)(hi:(i:Int)<2^63)(hx:items[i]? =some x)
  (hQ:∀h' tk,IsRv h' it t ((i:Int)-1)->Heap.SameBut it s.heap h'->Q (some x) { s with heap:=h',toks:=tk}):wpAny (model prog w) A (pyNext (.ref it)) Q E s:=by
 obtain⟨o,ho,hc,hd⟩:=id hit;unfold pyNext
 refine Zb (Vh (wpAny_callSpecial?_slot (name:=ofString "__next__") hit.typeIs a5x
  (Yr a5x hit.typeIs b3n ?_ (b1v _))))
 unfold Builtin.«reversed.__next__»;refine Zb (Wf (a:=(Value.ref it,[])) rfl ?_)
 try dsimp only
 refine Zb (Xk ho hd (x:=.ref t) rfl ?_);refine Zb (Xk ho hd (x:=rawInt (i:Int)) rfl ?_)
 show wpAny _ _ (if(i:Int)<0 then _ else _) _ _ s
 rw[if_neg qo];refine Zb (X2 ht.typeIs Ur.lookup ?_);refine Yq (λhab=>absurd hab qd) (λ_=>?_);refine Zb (Si ?_);have hlt:i<items.size:=by
  rcases T7 i items.size with z|z
  ·exact z
  ·rw[Sc z]at hx;cases hx
 have hj:seqIndex? (i:Int) items.size=some i:=by
  unfold seqIndex?
  simp
  omega
 refine Zb (Vh (getItem_tuple (s:={ s with toks:=s.toks+1}) (j:=i) ht qo hi hj hx ?_));refine Zb (Xk ho hd (x:=rawInt (i:Int)) rfl ?_)
 show wpAny _ _ (setField (.ref it) 1 (rawInt ((i:Int)-1))>>=λ_=>ret x) _ _ _
 refine Zb (Wn ho hd qz ?_);refine Zf ⟨x,rfl,Zf (hQ _ _ ?_ (Xj ..))⟩
 exact⟨_,Y3 _ ho (Vc (Xn hd _)),(U2 ..).trans hc,by
  rw[Xn hd];simp⟩
theorem c5b{it t:Addr}{Q:Option Value->Shared->Prop}(hh:A.handled=none)(hit:IsRv s.heap it t (-1))
  (hQ:∀h',Heap.ExtBut it s.heap h'->Q none { s with heap:=h'}):wpAny (model prog w) A (pyNext (.ref it)) Q E s:=by
 obtain⟨o,ho,hc,hd⟩:=id hit;unfold pyNext
 refine Zb (Vh (wpAny_callSpecial?_slot (name:=ofString "__next__") hit.typeIs a5x
  (Yr a5x hit.typeIs b3n ?_ (b1v _))))
 unfold Builtin.«reversed.__next__»;refine Zb (Wf (a:=(Value.ref it,[])) rfl ?_)
 try dsimp only
 refine Zb (Xk ho hd (x:=.ref t) rfl ?_);refine Zb (Xk ho hd (x:=rawInt (-1)) rfl ?_)
 show wpAny _ _ (if(-1:Int)<0 then _ else _) _ _ s
 rw[if_pos qd];refine Zb (Vp ?_);refine Zb ?_
 show wpAny _ _ (setField (.ref it) 1 (rawInt (-1))>>=λ_=>setField (.ref it) 0 .none) _ _ _
 refine Zb (Wn ho hd qz ?_);have ho1:=Y3 (Obj.mapFields (·.setIfInBounds 1 (rawInt (-1)))) ho (Vc (Xn hd _));have hd1:(Obj.mapFields (λx=>x.setIfInBounds 1 (rawInt (-1))) o).data=.fields #[.ref t,rawInt (-1)]:=by rw[Xn hd];simp
 refine Wn ho1 hd1 qz ?_;refine Zb ?_
 show wpAny _ _ (newExc (.type "StopIteration") []>>=_) _ _ _
 refine Zb ?_;simp only[newExc,newTuple];refine Zb (Ys ?_ (by size_fits));refine Zb (m:=firstArgMember _ _) (Wf (a:=Value.none) (by first|rfl| (simp only[firstArgMember];rfl)) ?_);refine Ys ?_ (by size_fits);simp only[raiseNew];refine Zb (To ?_)
 first|rw[show A.in1.handled=none from hh]|rw[hh]
 refine Zb (Zf (Sg ?_));refine Zb (Wq (T:="StopIteration") (b:=true) ⟨_,Zl _ rfl,rfl⟩ isSubtype_stop ?_);refine Zf (hQ _ (λb u hb e=>?_));exact Zd _ (Zd _ ((Xi _ _ (Ne.symm hb)).trans ((Xi _ _ (Ne.symm hb)).trans e)))
theorem iter_rv{it t:Addr}{i:Int}{Q:Value->Shared->Prop}(hit:IsRv s.heap it t i)(h:Q (.ref it) s):wpAny (model prog w) A (pyIter (.ref it)) Q E s:=by
 refine wpAny_pyIter_slot hit.typeIs b4a (Yr b4a hit.typeIs c1n ?_ (b9r _))
 show wpAny _ _ (ret (.ref it)) _ _ s
 exact Zf ⟨_,rfl,"reversed",_,hit.typeIs,a5x.lookup,h⟩
theorem d3y{r:Addr}{Q:Bool->Shared->Prop}(hT:s.TypeIs (.ref r) "list_reverseiterator")(h:Q false s):wpAny (model prog w) A (Builtin.List.listLengthHint (.ref r)) Q E s:=by
 unfold Builtin.List.listLengthHint;refine Zb (X2 hT c7o ?_)
 show wpAny _ _ (specialOf (Value.ref r) (ofString "__length_hint__")>>=_) _ _ _
 refine Zb (X2 hT d3x ?_);generalize hid:("list_reverseiterator.__length_hint__":String)=id0
 wp_delta
 rw[show splitId id0=some ("list_reverseiterator","__length_hint__")from by subst hid;decide+kernel];subst hid;refine Zb (Wq (T:="list_reverseiterator") (b:=true) hT (by rw[Wa];kernel_rfl) ?_);refine Yq (λhab=>absurd hab qd) (λ_=>?_);refine Yq (λ_=>?_) (λhab=>absurd qk hab);refine Yq (λhab=>absurd hab qk) (λ_=>?_);exact Zf h
theorem hint_rv{r t:Addr}{i:Int}{items:Array Value}{Q:Bool->Shared->Prop}(hit:IsRv s.heap r t i)(ht:IsTup s.heap t items)(hi:i=(items.size:Int)-1)(hn:items.size<=2^24)(h:∀b tk,Q b { s with toks:=tk}):wpAny (model prog w) A (Builtin.List.listLengthHint (.ref r)) Q E s:=by
 have hT:=hit.typeIs;obtain⟨o,ho,hc,hd⟩:=id hit;unfold Builtin.List.listLengthHint;refine Zb (X2 hT d0s ?_)
 show wpAny _ _ (specialOf (Value.ref r) (ofString "__length_hint__")>>=_) _ _ _
 refine Zb (X2 hT b0i.lookup ?_);generalize hid:("reversed.__length_hint__":String)=id0
 wp_delta
 rw[show splitId id0=some ("reversed","__length_hint__")from by subst hid;decide+kernel];subst hid;refine Zb (Wq (T:="reversed") (b:=true) hT (by rw[Wa];kernel_rfl) ?_);refine Yq (λhab=>absurd hab qd) (λ_=>?_);refine Yq (λhab=>absurd hab qk) (λ_=>?_);refine Zb (Vp ?_);refine Zb (Wf (b0i.bind _) ?_);refine Zb (Vh (Yr b0i hT c1o ?_ (b9s _)));unfold Builtin.«reversed.__length_hint__»;refine Zb (Wf (a:=Value.ref r) rfl ?_);refine Zb (Xk ho hd (x:=.ref t) rfl ?_);refine Yq (λhab=>absurd hab Zj) (λ_=>?_);refine Zb (len_tuple ht qo ?_);refine Zb (m:=asInt? _) (Zf ?_);refine Zb (Xk ho hd (x:=rawInt i) rfl ?_)
 show wpAny _ _ (if(items.size:Int)<i+1 then _ else _) _ _ _
 rw[if_neg qo];refine Zb (Si (Zf ⟨_,rfl,?_⟩));refine Zb (m:=asInt? _) (Zf ?_);have e1:Builtin.List.listFitsIndex (i+1)=true:=by simp[Builtin.List.listFitsIndex];omega
 have e2:Builtin.List.listTooLong (i+1).toNat=false:=by simp[Builtin.List.listTooLong,Yb];omega
 refine Yq (λhab=>absurd hab (by rw[e1];decide)) (λ_=>?_);refine Yq (λhab=>absurd hab qo) (λ_=>?_);refine Yq (λhab=>absurd hab (by rw[e2];decide)) (λ_=>?_);exact Zf (h _ _)
theorem d3z(hh:A.handled=none)(I t:Addr)(hne:t≠I)(items:Array Value)(hn:items.size<=2^24):
  Walks prog w A I [I,t] [I] items.size (λi v=>items[items.size-1-i]? =some v) (λi h=>i<=items.size/\IsRv h I t ((items.size:Int)-1-(i:Int))/\IsTup h t items) where
 sub:=λb hb=>by simp at hb;simp[hb]
 frame:=λ_ _ _ x hk=>⟨x.1,x.2.1.at λo e=>hk I qz o e,let⟨o,ho,r⟩:=x.2.2;⟨o,hk t qz o ho,r⟩⟩
 item:=λi s Q E hi x hQ=>by
  have e:(items.size:Int)-1-(i:Int)=((items.size-1-i:Nat):Int):=by omega
  have hit:=x.2.1;rw[e]at hit;have hx:items[items.size-1-i]? =some (items[items.size-1-i]'(by omega)):=Yp qo
  refine c3m hit x.2.2 qo hx λh' tk hit' hs'=>?_
  have e2:((items.size-1-i:Nat):Int)-1=(items.size:Int)-1-((i+1:Nat):Int):=by omega
  rw[e2]at hit';exact hQ _ h' tk hx ⟨hi,hit',let⟨o,ho,r⟩:=x.2.2;⟨o,(hs'.2 t hne).trans ho,r⟩⟩ λb o hb eo=>hs'.extBut b o (λh=>hb (by simp[h])) eo
 done:=λs Q E x hQ=>by
  have e:(items.size:Int)-1-(items.size:Int)= -1:=by omega
  have hit:=x.2.1;rw[e]at hit;exact c5b hh hit λh' he'=>hQ h' s.toks λb o hb eo=>he' b o (λh=>hb (by simp[h])) eo
 self:=λ_ _ _ _ x hQ=>iter_rv x.2.1 hQ
theorem b4b{Q:Value->Shared->Prop}{T:String}{I:Addr}{fp wr:List Addr}{n:Nat}{P:Nat->Value->Prop}{St:Nat->Heap->Prop}(W:Walks prog w A.in1.in1 I fp wr n P St)(hn:n<=sizeLine)
  (hT:∀(s':Shared),St 0 s'.heap->s'.TypeIs (.ref I) T)(h2:(Value.type T==Value.type "list")=false)(h3:(Value.type T==Value.type "tuple")=false)
  (hint:∀{A':Around}{E':Value->Shared->Prop}(s':Shared)(Q':Bool->Shared->Prop),St 0 s'.heap->(∀b tk,Q' b { s' with toks:=tk})->wpAny (model prog w) A' (Builtin.List.listLengthHint (.ref I)) Q' E' s')
  (hst:St 0 s.heap)(hfp:∀b∈fp,b<s.heap.objs.size)(hI:I∈fp)
  (hQ:∀h' tk acc' c',(∀b o,b∉wr->s.heap.get? b=some o->h'.get? b=some o)->
   h'.get? s.heap.objs.size=some { cls:=.type "list",dict:=none,data:=.seq acc' c',slots:=#[]}->ItemsOf P acc' n->Q (.ref s.heap.objs.size) { s with heap:=h',toks:=tk}):
  wpAny (model prog w) A (call (.type "list") [.ref I]) Q E s:=by
 have hSf:s.heap.objs.size∉fp:=λhm=>Yt _ (hfp _ hm)
 have hSI:s.heap.objs.size≠I:=λe=>hSf (e▸hI)
 refine callType_codes (Q₁:=λobj s₁=>obj=.ref s.heap.objs.size/\s₁={ s with heap:=s.heap.push { cls:=.type "list",data:=.seq #[]}}) F.called_list (F.typeCall_list_1 _) F.entry_list_init
  (code_list_new _ ⟨rfl,rfl⟩) λobj s₁ h₁=>?_
 obtain⟨rfl,rfl⟩:=h₁;have hS:(s.heap.push { cls:=.type "list",data:=.seq #[]}).get? s.heap.objs.size=some { cls:=.type "list",data:=.seq #[]}:=Zl _ rfl;refine⟨⟨_,hS,rfl⟩,F.args_list_init_2 _ _,?_⟩;generalize hSS:s.heap.objs.size=S at hS hSf hSI hQ ⊢
 show wpAny _ _ (do let old <-Builtin.List.listItems (.ref S);Builtin.List.listUpdate (.ref S) (λ_=>#[]);letGo old.toList.reverse;Builtin.List.listExtendWith (.ref S) (.ref I) .none) _ _ _
 refine Zb ?_;unfold Builtin.List.listItems;refine Zb (Ti hS rfl (Zf ?_))
 show wpAny _ _ (updateSeq S (λ_=>#[])>>=λ_=>letGo (#[]:Array Value).toList.reverse>>=λ_=>Builtin.List.listExtendWith (.ref S) (.ref I) .none) _ _ _
 refine Zb (V9 hS rfl ?_);have hS₁:=Y3 (Obj.mapSeq (λ_=>(#[]:Array Value))) hS rfl;have k1:∀b o,b≠S->s.heap.get? b=some o->((s.heap.push { cls:=.type "list",data:=.seq #[]}).update S (Obj.mapSeq (λ_=>(#[]:Array Value)))).get? b=some o:=
  λb o hb e=>(Xi _ _ (Ne.symm hb)).trans (Zd _ e)
 refine Zb (wpAny_letGo ?_);generalize ((s.heap.push { cls:=.type "list",data:=.seq #[]}).update S (Obj.mapSeq (λ_=>(#[]:Array Value))))=hp1 at hS₁ k1 ⊢;have neS:∀b∈fp,b≠S:=λb hb e=>hSf (e▸hb)
 have st1:St 0 hp1:=W.frame 0 _ _ hst λb hb o e=>k1 b o (neS b hb) e
 unfold Builtin.List.listExtendWith;refine Zb (Ux (hT { s with heap:=hp1} st1) ?_);have g1:Builtin.List.listSameRef (.ref S) (.ref I)=false:=by simp[Builtin.List.listSameRef,hSI]
 simp only[g1,h2,h3,Zy9,Wh,X4];refine Zb (W.self 0 { s with heap:=hp1} _ _ st1 ?_);refine Zb (Y7 (hint { s with heap:=hp1} _ st1 λb tk=>?_));have key:∀(h:Heap)(c₁:Nat),(∀b o,b≠S->s.heap.get? b=some o->h.get? b=some o)->h.get? S=some { cls:=.type "list",data:=.seq #[] c₁}->
   codeAny (model prog w) A.in1 (.builtin "list.extend.loop" ⟨[.ref S,.ref I,.none],[]⟩) (wants (λr s'=>r=.none/\Q (.ref S) s') E) { s with heap:=h,toks:=tk}:=by
  intro h c₁ hk hS₂;refine codeAny_extend_loopS W.toS hn S hSf .none n 0 _ #[] c₁ rfl (Yk _) (W.frame 0 _ _ hst λb hb o e=>hk b o (neS b hb) e) hS₂ (ItemsOf.nil _) λs' acc' c' hm hS' hacc=>?_
  rw[Moved.eq_with hm];refine⟨rfl,hQ s'.heap s'.toks acc' c' (λb o hb e=>hm.heap b o (λhmem=>?_) (hk b o (λz=>?_) e)) hS' hacc⟩
  ·rcases Zo.mp hmem with e'|hmem
   ·have:=Zu e;rw[e',hSS]at this;exact Yt _ this
   ·exact hb hmem
  ·have:=Zu e;rw[z,hSS]at this;exact Yt _ this
 refine Yq (λ_=>?_) (λ_=>Zf ⟨plainId_quiet S7 _,key _ _ k1 hS₁⟩);refine Zb (Vp ?_);refine Zb ?_
 show wpAny _ _ (updateSeq S (·.push .none)>>=λ_=>updateSeq S (·.pop)) _ _ _
 refine Zb (V9 hS₁ rfl ?_);have hS₂:=Y3 (Obj.mapSeq (·.push Value.none)) hS₁ rfl;refine V9 (hz:=by seq_fits) hS₂ rfl ?_;have hS₃:=Y3 (Obj.mapSeq (·.pop)) hS₂ rfl;exact Zf ⟨plainId_quiet S7 _,key _ _ (λb o hb e=>(Xi _ _ (Ne.symm hb)).trans ((Xi _ _ (Ne.symm hb)).trans (k1 b o hb e))) hS₃⟩
end
theorem d0v{its:List Value}{acc:Array Value}(h:ItemsOf (λi v=>its.toArray[its.toArray.size-1-i]? =some v) acc its.toArray.size):acc=its.reverse.toArray:=by
 obtain⟨h1,h2⟩:=h
 apply Array.ext'
 rw[List.toList_toArray]
 apply W7
 intro j;have hs:acc.toList.length=its.length:=by rw[Yw,h1,Ze]
 by_cases hj:j<its.length
 ·have hj':j<acc.size:=by rw[<-Yw];omega
  have e:=h2 j acc[j] (Yp hj');rw[Sf hj,Xa,Yp hj'];rw[Ze,Vd]at e;exact e.symm
 ·rw[Yj qo,Yj (by rw[Y2];omega)]
section
variable{X:Cx}
def c3n(K:W.Frag)(ta:TA):TE:=λσ H Q=>ta σ H λvs H1=>∃a xs,vs=[.ref a]/\(SqL K H1 a xs\/SqT K H1 a xs)/\xs.length<=100000/\∀p,H1 p=none->Q (.ref p) (upd H1 p (.lst xs.reverse))
theorem b3a(K:W.Frag)(hK:X.K=K)(hc:X.calm=true){a:Expr}{ta:TA}{p1 p2 pos1 pos2:Pos}(hg:Gl X "list")(hm:X.mg "list"=none)(hg2:Gl X "reversed")(hm2:X.mg "reversed"=none)(ha:PA X [a] ta)
  (hs:starEach [a] X.env=[(false,eval a X.env)]:=by rfl)
  (hs1:starEach [Expr.Call (.Name "reversed" p2) [a] [] pos2] X.env=[(false,eval (.Call (.Name "reversed" p2) [a] [] pos2) X.env)]:=by rfl):
  PE X (.Call (.Name "list" p1) [.Call (.Name "reversed" p2) [a] [] pos2] [] pos1) (c3n K ta):=by
 subst hK;intro pins s σ H Q I h;refine Call_ (a6u I hg hm W4 (Yu ?_ hs1 rfl));rw[hs1]
 show wpAny _ _ (spliced ((false,eval (.Call (.Name "reversed" p2) [a] [] pos2) X.env)::backTo pos1 (starEach [] X.env))) _ _ s
 refine W3 ?_;refine Call_ (a6u I hg2 hm2 boot_reversed (Yu (thn (ha pos2 pins s σ H _ I h) λus s1 ⟨vs,H1,I1,r1,q1⟩=>?_) hs rfl));obtain⟨l,xs,e,hq,hlen,q⟩:=q1;subst e;have fin:∀(its:List Value)(h':Heap)(tk:Nat)(acc':Array Value)(c':Nat),Vals xs its->(∀b o,s1.heap.get? b=some o->h'.get? b=some o)->h'.get? (s1.heap.objs.size+1)=some { cls:=.type "list",dict:=none,data:=.seq acc' c',slots:=#[]}->ItemsOf (λi v=>its.toArray[its.toArray.size-1-i]? =some v) acc' its.toArray.size->EP X pins σ Q (.ref (s1.heap.objs.size+1)) { s1 with heap:=h',toks:=tk}:=by
  intro its h' tk acc' c' rv hk hS hacc;have ea:=d0v hacc;subst ea;have fr:H1 (s1.heap.objs.size+1)=none:=I1.hok.fresh (Wr _ _);refine⟨.ref _,upd H1 (s1.heap.objs.size+1) (.lst xs.reverse),I1.laid (t':=tk) hk (Wr _ _) ⟨by rw[Y2,Yb];omega,its.reverse,c',rv.reverse,hS⟩,rfl,q _ fr⟩
 have keepA:∀(o0:Obj)(h':Heap),(∀b o,b∉[s1.heap.objs.size]->(s1.heap.push o0).get? b=some o->h'.get? b=some o)->∀b o,s1.heap.get? b=some o->h'.get? b=some o:=λo0 h' hk b o e=>hk b o (λz=>by
  rw[Zr.mp z]at e
  exact Yt _ (Zu e)) (Zd _ e)
 cases r1 with
 |cons r rr=>
  cases rr;cases r;rcases hq with hq|hq
  ·obtain⟨its,rv,pl,hz⟩:=I1.list hq;have hlen':=rv.length;have hL:s1.heap.IsList l its.toArray:=pl.isList;have hlt:l<s1.heap.objs.size:=by obtain⟨o,ho,_⟩:=hL;exact Zu ho
   refine Rb hL ?_;refine W9 ?_;have zz:(s1.heap.push (revObj l ((its.toArray.size:Int)-1))).objs.size=s1.heap.objs.size+1:=Xh ..;have st0:0<=its.toArray.size/\(s1.heap.push (revObj l ((its.toArray.size:Int)-1))).IsRevIter s1.heap.objs.size l ((its.toArray.size:Int)-1-((0:Nat):Int))/\(s1.heap.push (revObj l ((its.toArray.size:Int)-1))).IsList l its.toArray:=by
    refine⟨Yk _,?_,hL.at λo e=>Zd _ e⟩;have e1:(its.toArray.size:Int)-1-((0:Nat):Int)=(its.toArray.size:Int)-1:=by omega
    rw[e1];exact⟨_,Zl _ rfl,rfl,rfl⟩
   have W:=Walks.listRev (prog:=X.prog) (w:=X.w) (A:=X.A.in1.in1) (I1.ok.hd hc) s1.heap.objs.size l (Z6 hlt) its.toArray;refine b4b (T:="list_reverseiterator") W (by rw[Ze,<-hlen',Yb];omega) (λs' st=>st.2.1.typeIs) qd qd (λs' Q' st k=>d3y st.2.1.typeIs (k false s'.toks)) st0 (λb hb=>?_) qz (λh' tk acc' c' hk hS hacc=>?_)
   ·rw[zz];simp only[Zo,Yn,X9]at hb;rcases hb with rfl|rfl
    ·exact Xo _
    ·exact Xr hlt
   ·rw[zz]at hS ⊢;exact fin its h' tk acc' c' rv (keepA _ h' hk) hS hacc
  ·obtain⟨its,rv,pl,hz⟩:=I1.tuple hq;have hlen':=rv.length;have hlt:l<s1.heap.objs.size:=pl.lt;refine b5m pl (by rw[Ze,<-hlen'];omega) (λtk0=>?_);refine W9 ?_;have zz:(s1.heap.push (b8c l ((its.toArray.size:Int)-1))).objs.size=s1.heap.objs.size+1:=Xh ..;have st0:0<=its.toArray.size/\IsRv (s1.heap.push (b8c l ((its.toArray.size:Int)-1))) s1.heap.objs.size l ((its.toArray.size:Int)-1-((0:Nat):Int))/\IsTup (s1.heap.push (b8c l ((its.toArray.size:Int)-1))) l its.toArray:=by
    refine⟨Yk _,?_,pl.push _⟩;have e1:(its.toArray.size:Int)-1-((0:Nat):Int)=(its.toArray.size:Int)-1:=by omega
    rw[e1];exact⟨_,Zl _ rfl,rfl,rfl⟩
   have hsz:its.toArray.size<=2^24:=by rw[Ze,<-hlen'];omega
   have W:=d3z (prog:=X.prog) (w:=X.w) (A:=X.A.in1.in1) (I1.ok.hd hc) s1.heap.objs.size l (Z6 hlt) its.toArray hsz;refine b4b (T:="reversed") W (by rw[Ze,<-hlen',Yb];omega) (λs' st=>st.2.1.typeIs) qd qd (λs' Q' st k=>hint_rv st.2.1 st.2.2 qo hsz k) st0 (λb hb=>?_) qz (λh' tk acc' c' hk hS hacc=>?_)
   ·rw[zz];simp only[Zo,Yn,X9]at hb;rcases hb with rfl|rfl
    ·exact Xo _
    ·exact Xr hlt
   ·rw[zz]at hS ⊢;exact fin its h' tk acc' c' rv (keepA _ h' hk) hS hacc
theorem c7q{K:W.Frag}{σ:St}{H:Hp}{ta:TA}{Q:VK}(k:ta σ H λvs H1=>∃a xs,vs=[.ref a]/\(SqL K H1 a xs\/SqT K H1 a xs)/\xs.length<=100000/\∀p,H1 p=none->Q (.ref p) (upd H1 p (.lst xs.reverse))):c3n K ta σ H Q:=k
end
theorem c0s{prog:Program}{w:World}{A:Around}(hh:A.handled=none)(it l:Addr)(hne:l≠it)(items:Array Value):
  Draws prog w A it [it,l] items.size (λi v=>items[i]? =some v) (λi h=>h.IsTupleIter it l i/\h.IsTuple l items) where
 live:=λ_ _ st=>let⟨o,ho,_⟩:=st.1;⟨o,ho⟩
 frame:=λ_ _ _ st hk=>⟨st.1.at λo e=>hk it qz o e,let⟨o,ho,r⟩:=st.2;⟨o,hk l qz o ho,r⟩⟩
 item:=λi s Q E hi st hQ=>by
  refine c7n st.1 st.2 (x:=items[i]) (by simp[hi]) λh' hit' hs'=>?_
  exact hQ _ h' s.toks (by simp[hi]) ⟨hit',let⟨o,ho,r⟩:=st.2;⟨o,(hs'.2 l hne).trans ho,r⟩⟩ hs'
 done:=λs Q E st hE=>d0p hh st.1 st.2 qz hE
theorem c5c(l:Addr)(items:Array Value):
  Meets (Builtin.«enumerate.__new__» ⟨[.type "enumerate",.ref l],[]⟩) (λ_ R s=>s.heap.IsTuple l items/\
   R (.ok (.ret (.ref (s.heap.push { cls:=.type "tuple_iterator",data:=.fields #[.ref l,.int 0 0]}).objs.size)))
    { s with heap:=(s.heap.push { cls:=.type "tuple_iterator",data:=.fields #[.ref l,.int 0 0]}).push { cls:=.type "enumerate",data:=.fields #[.none,.bool false,.ref s.heap.objs.size,rawInt 0,.none,.none]}}):=
 .of_wp λprog w A R s h=>by
  obtain⟨hp,g,d,tk,os⟩:=s;obtain⟨hl,h⟩:=h;have hsub:=sub_enumerate;have hL:Heap.IsTuple (Shared.heap ⟨hp,g,d,tk,os⟩) l items:=hl
  wp_walk using Wg hL
  refine wpAny_stack_any λst=>Zf ?_
  split
  ·rename_i c _ _ _ _ _
   cases(c==Value.type "enumerate")
   ·wp_walk using Wg hL
    exact⟨_,rfl,h⟩
   ·wp_walk using Wg hL
    exact⟨_,rfl,h⟩
  ·wp_walk using Wg hL
   exact⟨_,rfl,h⟩
theorem c7r{prog:Program}{w:World}{A:Around}{E:Value->Shared->Prop}{s:Shared}{l:Addr}{items:Array Value}{Q:Value->Shared->Prop}(hL:s.heap.IsTuple l items)
  (h:∀h',IsEnum h' (s.heap.objs.size+1) s.heap.objs.size 0 .none->h'.IsTupleIter s.heap.objs.size l 0->h'.objs.size=s.heap.objs.size+2->
   (∀b o,s.heap.get? b=some o->h'.get? b=some o)->Q (.ref (s.heap.objs.size+1)) { s with heap:=h'}):
  wpAny (model prog w) A (call (.type "enumerate") [.ref l]) Q E s:=by
 refine callType_new F.called_enumerate qd (F.typeCall_enumerate_1 _) (F.newCall_enumerate_1 _) (λobj=>Sw obj _) F.entry_enumerate_new
  (c5c l items) ⟨hL,?_⟩
 have hz:(s.heap.push { cls:=.type "tuple_iterator",data:=.fields #[.ref l,.int 0 0]}).objs.size=s.heap.objs.size+1:=Xh ..
 show _/\_
 rw[hz]
 have he:IsEnum ((s.heap.push { cls:=.type "tuple_iterator",data:=.fields #[.ref l,.int 0 0]}).push
   { cls:=.type "enumerate",data:=.fields #[.none,.bool false,.ref s.heap.objs.size,rawInt 0,.none,.none]}) (s.heap.objs.size+1) s.heap.objs.size 0 .none:=by
  have:=Zl (s.heap.push { cls:=.type "tuple_iterator",data:=.fields #[.ref l,.int 0 0]})
   (o:={ cls:=.type "enumerate",data:=.fields #[.none,.bool false,.ref s.heap.objs.size,rawInt 0,.none,.none]}) rfl
  rw[hz]at this;exact this
 refine⟨⟨_,he,rfl⟩,h _ he ⟨_,Zd _ (Zl _ rfl),rfl,rfl⟩ (by rw[Xh,hz]) λb o x=>Zd _ (Zd _ x)⟩
def Iet(K:W.Frag)(a:Addr)(n:Nat):It:=⟨λi H=>i<n/\∃xs,SqT K H a xs/\xs.length=n,λi H v H'=>∃T x,H T=none/\v=.ref T/\H'=upd H T (.tup [.int i,x])/\∀xs,SqT K H a xs->xs[i]? =some x,λi H=>i=n/\∃xs,SqT K H a xs/\xs.length=n⟩
theorem c7s{P:Program}{w:World}{K:W.Frag}{elts:List Expr}{k:Nat}{pos:Pos}(a e it:Addr)(n:Nat)(hei:e≠it)(hai:a≠it)(hae:a≠e):
  Turn P w K (.Tuple elts k pos) (Iet K a n) [e,it] e (λi h=>(∃old,IsEnum h e it (i:Nat) old)/\h.IsTupleIter it a i) where
 mem:=by simp
 obj:=λi h st b hb=>by
  obtain⟨⟨old,h1⟩,o,h2,h3,h4⟩:=st;simp only[Zo,Yn,X9]at hb;rcases hb with rfl|rfl
  ·exact⟨_,h1,λv z=>by have z':Data.fields _=Data.cell v:=z;cases z'⟩
  ·exact⟨o,h2,λv z=>by rw[h4]at z;cases z⟩
 keep:=λi h h' st hk=>⟨let⟨old,q⟩:=st.1;⟨old,hk e qz _ q⟩,st.2.at λo q=>hk it qz o q⟩
 item:=by
  intro X hP hw hK hc i pins s σ H E I hf st hg;subst hP hw hK;obtain⟨hi,xs,hq,hl⟩:=hg;obtain⟨its,rv,p,hz⟩:=I.tuple hq;have hlen:=rv.length;have D:=c0s (prog:=X.prog) (w:=X.w) (A:=X.A.in1) (show X.A.in1.handled=none from I.ok.hd hc) it a hai its.toArray;have W:=WalksT.enumerateD D e hei (by simp only[Zo,Yn,X9,not_or];exact⟨hei,Ne.symm hae⟩) qz;refine W.item i s _ _ (by rw[Ze];omega) ⟨st.1,st.2,p⟩ λT vals h1 tk hPt hT htup hmid hk1=>?_
  obtain⟨t,x,hx,rfl⟩:=hPt;refine⟨.ref T,rfl,W.go elts k pos i T { s with heap:=h1,toks:=tk} _ _ hmid λh2 hst2 hk2=>?_⟩;have hx2:its[i]? =some x:=by simpa using hx
  have hix:i<xs.length:=by omega
  obtain⟨u,hu,ru⟩:=rv.get (Za hix);rw[hu]at hx2;cases hx2;have hk:∀b u,b∉[e,it]->s.heap.get? b=some u->h2.get? b=some u:=λb u hb q=>hk2 b u hb (hk1 b u hb q)
  have hTn:T∉[e,it]:=by
   obtain⟨_,_,z1,z2⟩:=hmid;simp only[Zo,Yn,X9,not_or];exact⟨z1,z2⟩
  have hTup:IsTup h2 T #[.int i t,x]:=by
   obtain⟨o,h3,h4⟩:=htup;exact⟨o,hk2 T o hTn h3,h4⟩
  refine⟨.ref T,upd H T (.tup [.int i,xs[i]]),I.turnedLaid (ch:=[e,it]) hf hk hT ⟨by simp[Yb],[.int i t,x],.cons ⟨t,rfl⟩ (.cons ru .nil),hTup⟩,rfl,?_,?_,λb hb=>?_⟩
  ·exact⟨T,xs[i],I.hok.fresh hT,rfl,rfl,λys hy=>by rw[I.tuple_inj hy hq];exact Za hix⟩
  ·exact⟨by simpa using hst2.1,hst2.2.1⟩
  ·have nb:b≠T:=λz=>hTn (by rw[<-z];exact hb)
   rw[a0l nb];exact(hf b hb).1
 done:=by
  intro X hP hw hK hc i pins s σ H E I hf st hg;subst hP hw hK;obtain⟨hi,xs,hq,hl⟩:=hg;subst hi;obtain⟨its,rv,p,hz⟩:=I.tuple hq;obtain⟨old,h1⟩:=st.1;obtain⟨f0,f1,f2,f3,f4,f5⟩:=hf it qz;have hlen:=rv.length;have D:=c0s (prog:=X.prog) (w:=X.w) (A:=X.A.in1) (show X.A.in1.handled=none from I.ok.hd hc) it a hai its.toArray;have hn:its.toArray.size=i:=by rw[Ze];omega
  have st2:=st.2;rw[<-hn]at st2;exact wpAny_pyNext_enum_endD D h1 ⟨st2,p⟩ λh' eb=>⟨rfl,I.turned (t':=s.toks) (λb o hb q=>eb b o hb q) f0 f1 f3 f4 f5⟩
 self:=λ_ _ _ _ _ st h=>by
  obtain⟨⟨old,h1⟩,_⟩:=st;exact Vw h1 h
section
variable{X:Cx}
def d0w(K:W.Frag)(ta:TA):TI:=λσ H R=>ta σ H λvs H1=>∃a xs,vs=[.ref a]/\SqT K H1 a xs/\R (Iet K a xs.length) H1
theorem b0r(K:W.Frag)(hK:X.K=K){elts:List Expr}{k:Nat}{tpos:Pos}{a:Expr}{ta:TA}{p pos:Pos}(hg:Gl X "enumerate")(hm:X.mg "enumerate"=none)(ha:PA X [a] ta)(hs:starEach [a] X.env=[(false,eval a X.env)]:=by rfl):PI X (.Tuple elts k tpos) (.Call (.Name "enumerate" p) [a] [] pos) (d0w K ta):=by
 subst hK;intro pins s σ H R I h;refine Call_ (a6u I hg hm boot_enumerate (Yu (thn (ha pos pins s σ H _ I h) λus s1 ⟨vs,H1,I1,r1,q1⟩=>?_) hs rfl));obtain⟨l,xs,e,hq,q⟩:=q1;subst e;cases r1 with
 |cons r rr=>
  cases rr;cases r;obtain⟨its,rv,pl,hz⟩:=I1.tuple hq;have hlt:l<s1.heap.objs.size:=pl.lt;refine c7r (show s1.heap.IsTuple l its.toArray from pl) λh' he hit hsz hk=>Vw he ?_
  refine⟨_,[s1.heap.objs.size+1,s1.heap.objs.size],_,_,H1,rfl,I1.kept (t':=s1.toks) hk,c7s l (s1.heap.objs.size+1) s1.heap.objs.size xs.length (Nat.succ_ne_self _) (Z6 hlt) (Z6 (Xr hlt)),⟨⟨_,he⟩,hit⟩,λb hb=>?_,q⟩;simp only[Zo,Yn,X9]at hb;rcases hb with rfl|rfl
  ·exact I1.fpOk (Vj _) (I1.hok.fresh (Vj _))
  ·exact I1.fpOk (Zg _) (I1.hok.fresh (Zg _))
end
theorem d4a{K:W.Frag}{σ:St}{H:Hp}{ta:TA}{R:It->Hp->Prop}(k:ta σ H λvs H1=>∃a xs,vs=[.ref a]/\SqT K H1 a xs/\R (Iet K a xs.length) H1):d0w K ta σ H R:=k
theorem b0s{K:W.Frag}{a:Addr}{xs:List V}{g:TG}{tb:TS}{D:Ends}{σ:St}{H:Hp}(Pv:Nat->St->Hp->Prop)(h0:Pv 0 σ H)(hok:∀i σ H,Pv i σ H->SqT K H a xs)
  (hs:∀i σ H T,i<xs.length->Pv i σ H->H T=none->g (.ref T) σ (upd H T (.tup [.int i,xs.getD i .non])) λσ2 H2=>tb { D with nx:=Pv (i+1),ct:=Pv (i+1),bk:=D.nx} σ2 H2)(hd:∀σ H,Pv xs.length σ H->D.nx σ H):
  ForW (Iet K a xs.length) g tb D σ H:=by
 refine⟨λi m σ H=>m=xs.length-i/\i<=xs.length/\Pv i σ H,⟨xs.length,qz,Yk _,h0⟩,?_⟩
 rintro i m σ H ⟨rfl,hi,p⟩
 have q1:=hok i σ H p
 by_cases hlt:i<xs.length
 ·refine .inr ⟨⟨hlt,xs,q1,rfl⟩,Pv (i+1),λσ' H' p'=>⟨xs.length-(i+1),qo,rfl,hlt,p'⟩,λx H' y=>?_⟩;obtain⟨T,u,hT,rfl,rfl,e1⟩:=y;have e1:=e1 xs q1;have f1:xs.getD i .non=u:=by rw[Zk,e1];rfl
  have:=hs i σ H T hlt p hT;rw[f1]at this;exact this
 ·have e:i=xs.length:=by omega
  subst e;exact .inl ⟨⟨rfl,xs,q1,rfl⟩,hd σ H p⟩
section
variable{K:W.Frag}{σ:St}{H:Hp}{Q:VK}{D:Ends}{ta tv:TE}{t:TA}{f m:Str}{C:Addr}{sp:Sp}{dvs:List V}{E:XK}
theorem tFld_i(k:ta σ H λx H1=>∃a C dx fs v,x=.ref a/\H1 a=some (.ins C dx fs)/\Cls K C/\a2y K C f/\fs.lookup f=some v/\Q v H1):tFld K ta f σ H Q:=k
theorem sFld_i(k:tv σ H λy H1=>ta σ H1 λx H2=>∃a C dx fs,x=.ref a/\H2 a=some (.ins C dx fs)/\Cls K C/\a2y K C f/\fs.length<1000/\D.nx σ (upd H2 a (.ins C dx (putF f y fs)))):sFld K ta tv f D σ H:=k
theorem tMeth_i(k:ta σ H λx H1=>∃a dx fs,x=.ref a/\H1 a=some (.ins C dx fs)/\fs.lookup m=none/\t σ H1 λvs H2=>sp (x::(vs++dvs)) H2 Q E):tMeth C m sp dvs E ta t σ H Q:=k
theorem tMake_i(k:t σ H λvs H1=>∀x dx,H1 x=none->H1 dx=none->dx≠x->sp (.ref x::(vs++dvs)) (upd (upd H1 dx (.own x)) x (.ins C dx [])) (λv H2=>v=.non/\Q (.ref x) H2) E):tMake C sp dvs E t σ H Q:=k
theorem d0x{rd:V->V->Hp->VK->Prop}(k:ta σ H λx H1=>∃a C dx fs v,x=.ref a/\H1 a=some (.ins C dx fs)/\Cls K C/\a2y K C f/\fs.lookup f=some v/\
 tv σ H1 λy H2=>rd v y H2 λz H3=>∃dx' fs',H3 a=some (.ins C dx' fs')/\fs'.length<1000/\D.nx σ (upd H3 a (.ins C dx' (putF f z fs')))):c5n K ta tv rd f D σ H:=k
end
end L2
set_option autoImplicit false
namespace L2
open PySem PySem.Spec PyProof.Rows
section
variable{t u:TS}{D:Ends}{σ:St}{H:Hp}{te:TE}{A:TT}{Q:VK}{N n:St->Hp->Prop}{r:VK}{b c:St->Hp->Prop}
theorem tSeq_v(k:∀N:St->Hp->Prop,N=u ⟨n,r,b,c⟩->t ⟨N,r,b,c⟩ σ H):tSeq t u ⟨n,r,b,c⟩ σ H:=k _ rfl
theorem tAsg_v{g:TG}(k:∀Q:VK,Q=(λx H1=>g x σ H1 D.nx)->te σ H Q):tAsg te g D σ H:=k _ rfl
theorem tIfS_v(k:∀Q:Bool->Hp->Prop,Q=(λb H1=>if b=true then t D σ H1 else u D σ H1)->A σ H Q):tIfS A t u D σ H:=k _ rfl
theorem a5y{α β:Type}{N M:α->β->Prop}{a:α}{b:β}(e:N=M)(k:M a b):N a b:=e▸k
theorem a3x(Post:St->Hp->Prop)(h1:∀σ' H',Post σ' H'->u ⟨n,r,b,c⟩ σ' H')(h2:∀{N:St->Hp->Prop},(∀σ' H',Post σ' H'->N σ' H')->t ⟨N,r,b,c⟩ σ H):tSeq t u ⟨n,r,b,c⟩ σ H:=h2 h1
theorem hideG{g:Prop}(k:∀G:Prop,(g->G)->G):g:=k g id
theorem zG{K:W.Frag}{P:V->Prop}{a C dx:Addr}{fs:List (Str×V)}{f:Str}{v:V}(o:H a=some (.ins C dx fs))(c:Cls K C)(n:a2y K C f)(l:fs.lookup f=some v)(k:P v):∃a' C dx fs v,V.ref a=.ref a'/\H a'=some (.ins C dx fs)/\Cls K C/\a2y K C f/\fs.lookup f=some v/\P v:=⟨_,_,_,_,_,rfl,o,c,n,l,k⟩
theorem sZ{K:W.Frag}{P:Addr->Addr->Addr->List (Str×V)->Prop}{a C dx:Addr}{fs:List (Str×V)}{f:Str}(o:H a=some (.ins C dx fs))(c:Cls K C)(n:a2y K C f)(l:fs.length<1000)(k:P a C dx fs):∃a' C dx fs,V.ref a=.ref a'/\H a'=some (.ins C dx fs)/\Cls K C/\a2y K C f/\fs.length<1000/\P a' C dx fs:=⟨_,_,_,_,rfl,o,c,n,l,k⟩
abbrev aR(vs:List V)(k:Addr->List V->Prop):Prop:=match vs with| .ref a::r=>k a r|_=>False
abbrev aI(vs:List V)(k:Int->List V->Prop):Prop:=match vs with| .int a::r=>k a r|_=>False
abbrev aS(vs:List V)(k:Str->List V->Prop):Prop:=match vs with| .str a::r=>k a r|_=>False
abbrev aV(vs:List V)(k:V->List V->Prop):Prop:=match vs with|a::r=>k a r|_=>False
abbrev aE(vs:List V)(k:Prop):Prop:=match vs with| []=>k|_=>False
theorem aR_i{P:List V->Prop}{k:Addr->List V->Prop}(h:∀a,∀r,k a r->P (.ref a::r)):∀vs,aR vs k->P vs:=λvs z=>by
 rcases vs with _|⟨v,r⟩
 ·exact z.elim
 ·cases v<;>first|exact h _ _ z|exact z.elim
theorem aI_i{P:List V->Prop}{k:Int->List V->Prop}(h:∀a,∀r,k a r->P (.int a::r)):∀vs,aI vs k->P vs:=λvs z=>by
 rcases vs with _|⟨v,r⟩
 ·exact z.elim
 ·cases v<;>first|exact h _ _ z|exact z.elim
theorem aS_i{P:List V->Prop}{k:Str->List V->Prop}(h:∀a,∀r,k a r->P (.str a::r)):∀vs,aS vs k->P vs:=λvs z=>by
 rcases vs with _|⟨v,r⟩
 ·exact z.elim
 ·cases v<;>first|exact h _ _ z|exact z.elim
theorem aV_i{P:List V->Prop}{k:V->List V->Prop}(h:∀a,∀r,k a r->P (a::r)):∀vs,aV vs k->P vs:=λvs z=>by
 rcases vs with _|⟨v,r⟩
 ·exact z.elim
 ·exact h _ _ z
theorem aE_i{P:List V->Prop}{k:Prop}(h:k->P []):∀vs,aE vs k->P vs:=λvs z=>by
 rcases vs with _|⟨v,r⟩
 ·exact h z
 ·exact z.elim
end
open PySem PySem.Spec PyProof.Rows PySem.W
section
variable{X:Cx}
def KD(P:Program)(w:World)(K:W.Frag)(a:Addr)(kvs:List (Key×V)):Prop:=∀h:Heap,K.In h->∃vs,KV kvs vs/\h.DictOf (a1e P w) a vs
def tGetK(kvs:List (Key×V))(ty:TE):TE:=λσ H Q=>ty σ H λy H1=>∃k v,y=kV k/\valV kvs k=some v/\Q v H1
theorem pe_getK{n:Str}{a:Addr}{kvs:List (Key×V)}{i:Expr}{ty:TE}{p pos:Pos}(D:KD X.prog X.w X.K a kvs)(hg:Gl X n)(hm:X.mg n=some (.ref a))(hi:PE X i ty)(hs:NoSl i)(hd:(n==("__debug__":Str))=false:=by decide):
  PE X (.Subscript (.Name n p) i pos) (tGetK kvs ty):=by
 intro pins s σ H Q I h;have g:PE X (.Name n p) (tC (.ref a)):=b9k hg hm rfl hd;refine c5r S6.lookup hs (thn (g pins s σ H (λx H1=>x=.ref a/\ty σ H1 λy H2=>∃k v,y=kV k/\valV kvs k=some v/\Q v H2) I ⟨rfl,h⟩) λu s1 ⟨x,H1,I1,rx,ex,q1⟩=>thn (hi pins s1 σ H1 _ I1 q1) λiv s2 z9=>?_);obtain⟨y,H2,I2,ry,k,v,ey,g,q2⟩:=z9;subst ex;obtain rfl:u=Value.ref a:=rx;subst ey;obtain⟨vs,rel,dd⟩:=D s2.heap (I2.mod.kin.keeps I2.bk);obtain⟨w',hw,rw'⟩:=RelO.some_of (v:=v) (o:=valueAt vs k) (by rw[<-g];exact rel.val k);exact⟨dd.typeIs,wpAny_getItem_of (a9h ry) dd.mapOf hw ⟨v,H2,I2.tok _,rw',q2⟩⟩
theorem tGetK_i{kvs:List (Key×V)}{σ:St}{H:Hp}{ty:TE}{Q:VK}(k:ty σ H λy H1=>∃k v,y=kV k/\valV kvs k=some v/\Q v H1):tGetK kvs ty σ H Q:=k
inductive DRow(pm:Params):List DictEntry->List (Key×V)->List (Key×Value)->Prop
 |nil:DRow pm [] [] []
 |cons {x:Str} {t:Tok} {v:V} {u:Value} {es:List DictEntry} {kvs:List (Key×V)} {vs:List (Key×Value)}:RelV v u->DRow pm es kvs vs->DRow pm (⟨keyHash pm x,.str x t,u⟩::es) ((Sum.inr x,v)::kvs) ((Sum.inr x,u)::vs)
theorem DRow.facts{P:Program}{w:World}{es:List DictEntry}{kvs:List (Key×V)}{vs:List (Key×Value)}(d:DRow w.params es kvs vs):KV kvs vs/\(∀e∈es,∃k,(a1e P w).is k e.key=true/\e.hash=(a1e P w).hash k)/\Pairs (a1e P w) es vs/\vs.map (·.1)=kvs.map (·.1):=by
 induction d with
 |nil=>exact⟨.nil,λe he=>by simp at he,.nil,rfl⟩
 | @cons x t v u es kvs vs r d ih=>
  obtain⟨h1,h2,h3,h4⟩:=ih;refine⟨.cons ⟨rfl,r⟩ h1,λe he=>?_,.cons (b3p x t) rfl h3,by rw[Zp,Zp,h4]⟩;rcases Zo.mp he with z|z
  ·subst z;exact⟨Sum.inr x,b3p x t,rfl⟩
  ·exact h2 e z
theorem kd_of{P:Program}{w:World}{K:W.Frag}{a:Addr}{es:List DictEntry}{n:Nat}{kvs:List (Key×V)}{vs:List (Key×Value)}(h:K.lookup a=some ⟨.type "dict",none,.dict es.toArray n,#[]⟩)(d:DRow w.params es kvs vs)(hn:(kvs.map (·.1)).Nodup):KD P w K a kvs:=λhp hi=>by
 obtain⟨h1,h2,h3,h4⟩:=d.facts (P:=P);exact⟨vs,h1,_,_,_,hi a _ h,⟨rfl,rfl,rfl⟩,rfl,λe he=>h2 e (by simpa using he),by simpa using h3,by rw[h4];exact hn⟩
end
open PySem PySem.Spec PyProof.Rows PySem.W PySem.NumText PySem.Calls
theorem su0{us:List Value}{P:List Value->Prop}(hl:us.length=0)(h:P []):P us:=by cases us with|nil=>exact h|cons a r=>cases hl
theorem su1{us:List Value}{P:List Value->Prop}(hl:us.length=1)(h:∀a,P [a]):P us:=by cases us with|nil=>cases hl|cons a r=>exact su0 (P:=λr=>P (a::r)) (V6 hl) (h a)
theorem su2{us:List Value}{P:List Value->Prop}(hl:us.length=2)(h:∀a b,P [a,b]):P us:=by cases us with|nil=>cases hl|cons a r=>exact su1 (P:=λr=>P (a::r)) (V6 hl) (h a)
theorem su3{us:List Value}{P:List Value->Prop}(hl:us.length=3)(h:∀a b c,P [a,b,c]):P us:=by cases us with|nil=>cases hl|cons a r=>exact su2 (P:=λr=>P (a::r)) (V6 hl) (h a)
theorem su4{us:List Value}{P:List Value->Prop}(hl:us.length=4)(h:∀a b c d,P [a,b,c,d]):P us:=by cases us with|nil=>cases hl|cons a r=>exact su3 (P:=λr=>P (a::r)) (V6 hl) (h a)
theorem su5{us:List Value}{P:List Value->Prop}(hl:us.length=5)(h:∀a b c d e,P [a,b,c,d,e]):P us:=by cases us with|nil=>cases hl|cons a r=>exact su4 (P:=λr=>P (a::r)) (V6 hl) (h a)
section
variable{K:Frag}{fd:FuncData}{a b c d e f:Str}
theorem bi1(h:∀x,bindArgs fd ⟨[x],[]⟩=pure [(a,x)]):Binds K fd [a] []:=.all λus hl=>su1 (P:=λus=>bindArgs fd ⟨us,[]⟩=pure (([a]:List Str).zip us)) hl h
theorem bi2(h:∀x y,bindArgs fd ⟨[x,y],[]⟩=pure [(a,x),(b,y)]):Binds K fd [a,b] []:=.all λus hl=>su2 (P:=λus=>bindArgs fd ⟨us,[]⟩=pure (([a,b]:List Str).zip us)) hl h
theorem bi3(h:∀x y z,bindArgs fd ⟨[x,y,z],[]⟩=pure [(a,x),(b,y),(c,z)]):Binds K fd [a,b,c] []:=.all λus hl=>su3 (P:=λus=>bindArgs fd ⟨us,[]⟩=pure (([a,b,c]:List Str).zip us)) hl h
theorem bi4(h:∀x y z u,bindArgs fd ⟨[x,y,z,u],[]⟩=pure [(a,x),(b,y),(c,z),(d,u)]):Binds K fd [a,b,c,d] []:=.all λus hl=>su4 (P:=λus=>bindArgs fd ⟨us,[]⟩=pure (([a,b,c,d]:List Str).zip us)) hl h
theorem bi5(h:∀x y z u v,bindArgs fd ⟨[x,y,z,u,v],[]⟩=pure [(a,x),(b,y),(c,z),(d,u),(e,v)]):Binds K fd [a,b,c,d,e] []:=.all λus hl=>su5 (P:=λus=>bindArgs fd ⟨us,[]⟩=pure (([a,b,c,d,e]:List Str).zip us)) hl h
end
section
variable{K:Frag}
theorem na_of{C:Addr}{x:Str}(h:findIn K (.ref C) x=some none):a2y K C x:=h
theorem is_fn{f:Addr}(h:typeIn K (.ref f)=some (.type "function")):isFn K (.ref f)=true:=V4.mpr h
end
theorem kt_at{H:Hp}{kvs:List (List Key×V)}{xs:List (List Key×Addr×Value)}(h:KT H kvs xs):kvs.length=xs.length:=by
 induction h with
 |nil=>rfl
 |cons _ _ ih=>rw[length_cons,length_cons,ih]
section
variable{prog:Program}{w:World}{K:Type}[DecidableEq K]{knd:HeapKind prog w K}{A:Around}{E:Value->Shared->Prop}{s:Shared}
theorem d0y{d a:Addr}{xs:List (K×Addr×Value)}{k:K}{v:Value}{Q:Value->Shared->Prop}(hu:knd.room A)(hkey:knd.is s.heap k a)(hm:s.heap.DictOfH knd d xs)(hsz:xs.length<=sizeLine)
  (h1:∀p,atKey xs k=some p->Q p.2 { s with toks:=s.toks+knd.draws k})
  (h2:atKey xs k=none->∀h',h'.DictOfH knd d (storedH xs k a v)->Heap.SameBut d s.heap h'->Q v { s with heap:=h',toks:=s.toks+knd.draws k}):
  wpAny (model prog w) A (dictSetDefault d (.ref a) v) Q E s:=by
 obtain⟨o,es,ep,ho,hc,hd,he,his,hn⟩:=hm;unfold dictSetDefault
 try with_reducible refine Y7 ?_
 refine Zb (knd.pyHash hu hkey ?_);refine Zb (Sz (s:={ s with toks:=s.toks+knd.draws k}) hu hkey ho hd he his hn ?_ ?_)
 ·intro hno;have hnot:k∉xs.map (·.1):=not_mem_keys_of_get hno
  refine Zb (Vp (Zb (wpAny_updateDictKeys (hz:=by have e:=Ub he;omega) (s:={ s with toks:=s.toks+knd.draws k}) ho hd (Zf (h2 (Vx hno) _ ⟨_,_,ep+1,Y3 _ ho (Obj.isFreed_of_dict (Sq hd _)),
   hc.mapDictKeys _,Sq hd _,?_,?_,?_⟩ (Xj ..))))))
  ·rw[Sj (Vx hno)]
   simp[he,entryOfKey]
  ·rw[Sj (Vx hno)];intro x hx;rcases Zm.mp hx with hx|hx
   ·exact knd.keeps (his x hx) ho hd (Xj ..)
   ·simp only[Zr]at hx;subst hx;exact knd.keeps hkey ho hd (Xj ..)
  ·rw[Sj (Vx hno)];rw[Zn,X7];refine⟨hn,qz,?_⟩;intro x hx y hy;simp only[Zp,V7,Zr]at hy;subst hy;exactλe=>hnot (e▸hx)
 ·intro j p hj;refine Zb (Xf (s:={ s with toks:=s.toks+knd.draws k}) ho hd ?_);rw[entry_at he j,hj];exact Zb (Vp (Zf (h1 p (atKey_of_get hn hj))))
theorem c5d(knd:HeapKind prog w K){k:K}{b:Addr}(d:Addr)(hd:(d==sysModules)=false)(dflt:Value):
  MeetsIn prog w (Builtin.«dict.setdefault» ⟨[.ref d,.ref b,dflt],[]⟩) (λA R s=>knd.room A.in1/\∃xs,knd.is s.heap k b/\s.heap.DictOfH knd d xs/\xs.length<=sizeLine/\
   (∀p,atKey xs k=some p->R (.ok (.ret p.2)) { s with toks:=s.toks+knd.draws k})/\
   (atKey xs k=none->∀h',h'.DictOfH knd d (storedH xs k b dflt)->Heap.SameBut d s.heap h'->R (.ok (.ret dflt)) { s with heap:=h',toks:=s.toks+knd.draws k})):=
 .of_wp λA R s ⟨hu,xs,hk,hm,hz,h1,h2⟩=>by
  unfold Builtin.«dict.setdefault»;refine Zb ?_;unfold Builtin.Dict.keyAndDefault;refine Zb (Uf hm.typeIs ?_)
  show wpAny _ _ (pure (d,Value.ref b,some dflt)) _ _ s
  refine Zf ?_
  show wpAny _ _ (if(d==sysModules)=true then _ else(dictSetDefault d (.ref b) dflt>>=_)) _ _ s
  rw[if_neg (by rw[hd];exact Zj)];exact Zb (d0y hu hk hm hz (λp hp=>Zf ⟨p.2,rfl,h1 p hp⟩) λhn h' hm' hs'=>Zf ⟨dflt,rfl,h2 hn h' hm' hs'⟩)
end
section
variable{X:Cx}
def c3o:V->List V->Hp->VK->Prop:=λx vs H Q=>∃(a b:Addr)(kvs:List (List Key×V))(k:List Key)(d:V),x=.ref a/\vs=[.ref b,d]/\H a=some (.dT kvs)/\H b=some (.tup (k.map kV))/\kvs.length<sizeLine/\(∀v,valV kvs k=some v->Q v H)/\(valV kvs k=none->Q d (upd H a (.dT (putK kvs k d))))
theorem b6f(hu:X.A.units+150<cLine):MtR X "dict.setdefault" c3o:=by
 intro pins s σ H x vs v us Q I rx rv h;obtain⟨a,b,kvs,k,d,rfl,rfl,ha,hb,hz,q1,q2⟩:=h;cases rx;obtain⟨u,u',rfl,r1,r2⟩:=c1v rv;cases r1;obtain⟨z1,d1,xs,rel,dd⟩:=b4u I.hok ha;have hl:=kt_at rel;refine W6 W8 dd.typeIs F.entry_dict_setdefault (F.args_dict_setdefault_3 _ _ _) (c5d (tupleKind (a1e X.prog X.w)) (k:=k) a d1 u')
  ⟨Xl qo,xs,a8p I.hok hb,dd,qo,λp hp=>?_,λhn h' dd' hs=>?_⟩
 ·have hr:=rel.val k;rw[hp]at hr;cases hv:valV kvs k with
  |none=>rw[hv]at hr;cases hr
  |some y=>
   rw[hv]at hr;obtain⟨y',e1,r3⟩:=RelO.some_of hr;cases e1;exact⟨y,H,I.tok _,r3,q1 y hv⟩
 ·have hr:=rel.val k;rw[hn]at hr;cases hv:valV kvs k with
  |some y=>rw[hv]at hr;obtain⟨_,e1,_⟩:=RelO.some_of hr;cases e1
  |none=>
   refine⟨d,_,?_,r2,q2 hv⟩;have hl:(putK kvs k d).length<=sizeLine:=by have:=a4b kvs k d;omega
   obtain⟨o,es,ep,hq,h2,h3,h4,_,h5⟩:=dd';refine b1r I (by rw[ha];exact True.intro) hs ⟨o,hq⟩ ⟨hl,d1,_,(KT.put rel k hb r2).keeps λc ys ec=>?_,o,es,ep,hq,h2,h3,h4,h5⟩;rw[a0l (a1w ec ha (λz=>nomatch z))];exact ec
theorem d4b{a b:Addr}{kvs:List (List Key×V)}{k:List Key}{d:V}{H:Hp}{Q:VK}(ha:H a=some (.dT kvs))(hb:H b=some (.tup (k.map kV)))(hz:kvs.length<sizeLine)(q1:∀v,valV kvs k=some v->Q v H)(q2:valV kvs k=none->Q d (upd H a (.dT (putK kvs k d)))):c3o (.ref a) [.ref b,d] H Q:=⟨a,b,kvs,k,d,rfl,rfl,ha,hb,hz,q1,q2⟩
end
mutual
inductive Dx(K:W.Frag)(H:Hp):V->PyData->Prop
 |non:Dx K H .non .none
 |bl (b:Bool):Dx K H (.bl b) (.bool b)
 |int (i:Int):Dx K H (.int i) (.int i)
 |str (x:Str):Dx K H (.str x) (.str x)
 |tup {a:Addr} {us:List V} {ds:List PyData}:SqT K H a us->DxL K H us ds->Dx K H (.ref a) (.tuple ds)
 |lst {a:Addr} {us:List V} {ds:List PyData}:SqL K H a us->DxL K H us ds->Dx K H (.ref a) (.list ds)
inductive DxL(K:W.Frag)(H:Hp):List V->List PyData->Prop
 |nil:DxL K H [] []
 |cons {u:V} {us:List V} {d:PyData} {ds:List PyData}:Dx K H u d->DxL K H us ds->DxL K H (u::us) (d::ds)
end
mutual
theorem Den.dx{K:W.Frag}{H:Hp}:∀{v:V}{d:PyData},Den K H v d->Dx K H v d
 |_,_,.non=>.non
 |_,_,.bl b=>.bl b
 |_,_,.int i=>.int i
 |_,_,.str x=>.str x
 |_,_,.tup h l=>.tup h (DenL.dx l)
theorem DenL.dx{K:W.Frag}{H:Hp}:∀{v:List V}{d:List PyData},DenL K H v d->DxL K H v d
 |_,_,.nil=>.nil
 |_,_,.cons h l=>.cons (Den.dx h) (DenL.dx l)
end
mutual
theorem Dx.monoT{K:W.Frag}{H H':Hp}(e:∀a xs,SqT K H a xs->SqT K H' a xs)(f:∀a xs,SqL K H a xs->SqL K H' a xs):∀{v:V}{d:PyData},Dx K H v d->Dx K H' v d
 |_,_,.non=>.non
 |_,_,.bl b=>.bl b
 |_,_,.int i=>.int i
 |_,_,.str x=>.str x
 |_,_,.tup h l=>.tup (e _ _ h) (DxL.monoT e f l)
 |_,_,.lst h l=>.lst (f _ _ h) (DxL.monoT e f l)
theorem DxL.monoT{K:W.Frag}{H H':Hp}(e:∀a xs,SqT K H a xs->SqT K H' a xs)(f:∀a xs,SqL K H a xs->SqL K H' a xs):∀{v:List V}{d:List PyData},DxL K H v d->DxL K H' v d
 |_,_,.nil=>.nil
 |_,_,.cons h l=>.cons (Dx.monoT e f h) (DxL.monoT e f l)
end
end L2
namespace L2.ZL
open PySem PySem.Spec PyProof.Rows PySem.W L2
section
variable{prog:Program}{w:World}{A:Around}{E:Value->Shared->Prop}{s:Shared}
def ZS(h:Heap)(z TI TO i1 i2 t1 t2 S:Addr)(i:Nat):Prop:=
 ((IsZip h z TI TO .none/\∃a b,IsPair h TO a b)\/∃(T:Addr)(f1:Bool)(o:Obj),d0q h z TI TO (rawInt T) f1/\h.get? T=some o/\T≠z/\T≠TO/\T≠i1/\T≠i2/\T≠S)/\IsPair h TI (.ref i1) (.ref i2)/\h.IsListIter i1 t1 i/\h.IsListIter i2 t2 i
end
end L2.ZL
namespace L2
open PySem PySem.Spec PyProof.Rows PySem.W
theorem d0z{K:W.Frag}{a:Addr}{xs:List V}{g:TG}{tb:TS}{D:Ends}{σ:St}{H:Hp}(Pv:Nat->St->Hp->Prop)(h0:Pv 0 σ H)(hok:∀i σ H,Pv i σ H->SqL K H a xs)
  (hs:∀i σ H T,i<xs.length->Pv i σ H->H T=none->g (.ref T) σ (upd H T (.tup [.int i,xs.getD i .non])) λσ2 H2=>tb { D with nx:=Pv (i+1),ct:=Pv (i+1),bk:=D.nx} σ2 H2)(hd:∀σ H,Pv xs.length σ H->D.nx σ H):
  ForW (Ite K a xs.length) g tb D σ H:=by
 refine⟨λi m σ H=>m=xs.length-i/\i<=xs.length/\Pv i σ H,⟨xs.length,qz,Yk _,h0⟩,?_⟩
 rintro i m σ H ⟨rfl,hi,p⟩
 have q1:=hok i σ H p
 by_cases hlt:i<xs.length
 ·refine .inr ⟨⟨hlt,xs,q1,rfl⟩,Pv (i+1),λσ' H' p'=>⟨xs.length-(i+1),qo,rfl,hlt,p'⟩,λx H' y=>?_⟩;obtain⟨T,u,hT,rfl,rfl,e1⟩:=y;have e1:=e1 xs q1;have f1:xs.getD i .non=u:=by rw[Zk,e1];rfl
  have:=hs i σ H T hlt p hT;rw[f1]at this;exact this
 ·have e:i=xs.length:=by omega
  subst e;exact .inl ⟨⟨rfl,xs,q1,rfl⟩,hd σ H p⟩
open PySem PySem.Spec PyProof.Rows
section
variable{X:Cx}
def dEm(K:W.Frag)(n:Bool):R2:=λx y H Q=>∃(p q:Addr)(us:List V),x=.ref p/\y=.ref q/\((SqT K H p us/\SqT K H q [])\/(n=true/\SqL K H p us/\SqL K H q []))/\Q (.bl (n^^us.isEmpty)) H
theorem ko_neEm(K:W.Frag)(hK:X.K=K)(hu:X.A.units+150<cLine):OpR X (compareOp .NotEq) (dEm K true):=by
 subst hK;intro pins s σ H x y v u Q I rx ry h;obtain⟨p,q,us,rfl,rfl,h,k⟩:=h;cases rx;cases ry;rcases h with⟨hs,hs'⟩|⟨_,hs,hs'⟩
 ·obtain⟨its,rv,p1,_⟩:=I.tuple hs;obtain⟨its',rv',p2,_⟩:=I.tuple hs';cases rv';refine S1 (e:=λ_=>true) (show s.heap.IsTuple p its.toArray from p1) (show s.heap.IsTuple q #[]from p2) qo (λj h1 h2=>absurd h2 (Uc j)) X.prog X.w _ _ ?_;refine⟨.bl (true^^us.isEmpty),H,I,?_,k⟩;cases rv<;>simp[RelV]
 ·obtain⟨its,rv,p1,_⟩:=I.list hs;obtain⟨its',rv',p2,_⟩:=I.list hs';cases rv';cases rv with
  |nil=>exact Us (e:=λ_=>true) p1.isList p2.isList rfl qo (λj h1 h2=>absurd h2 (Uc j)) X.prog X.w _ _ ⟨.bl false,H,I,by simp[RelV],k⟩
  |cons a b=>exact SeqAt.RcNeAt.lists_lengths p1.isList p2.isList qz qo X.prog X.w _ _ ⟨.bl true,H,I,by simp[RelV],k⟩
end
theorem em_l{K:W.Frag}{p q:Addr}{us:List V}{H:Hp}{Q:VK}(h:SqL K H p us)(h2:SqL K H q [])(k:Q (.bl (true^^us.isEmpty)) H):dEm K true (.ref p) (.ref q) H Q:=⟨p,q,us,rfl,rfl,.inr ⟨rfl,h,h2⟩,k⟩
def ItT(a:Addr)(o:Obj)(kvs:List (List Key×V))(ads:List Addr):It:=⟨λi H=>i<kvs.length/\H a=some (.frz o (.dT kvs)),λi H x H'=>H'=H/\∃b,ads[i]? =some b/\x=.ref b,λi H=>i=kvs.length/\H a=some (.frz o (.dT kvs))⟩
structure d1a(o:Obj)(es:Array DictEntry)(ep:Nat)(ads:List Addr):Prop where
 hx:o.ExactDict
 hd:o.data=.dict es ep
 ks:es.toList.map (·.key)=ads.map Value.ref
theorem c7t{P:Program}{w:World}{K:W.Frag}{tg:Expr}(a it:Addr)(o:Obj)(kvs:List (List Key×V))(es:Array DictEntry)(ep:Nat)(ads:List Addr)(ka:d1a o es ep ads)(hn:es.size=kvs.length):Turn P w K tg (ItT a o kvs ads) [it] it (λi h=>h.IsKeyIter it a i es.size ep) where
 mem:=by simp
 obj:=λi h st b hb=>by
  obtain rfl:b=it:=by simpa using hb
  obtain⟨o,e,c,d⟩:=st;exact⟨o,e,λv z=>by rw[d]at z;cases z⟩
 keep:=λi h h' st k=>by
  obtain⟨o,e,c⟩:=st;exact⟨o,k it qz o e,c⟩
 item:=by
  intro X hP hw hK hc i pins s σ H E I hf st hg;subst hP hw hK;obtain⟨hi,hH⟩:=hg;obtain⟨ho,_⟩:=(show a1s X.prog X.w H s.heap a (.frz o (.dT kvs))from I.hok a _ hH);obtain⟨f0,f1,f2,f3,f4,f5⟩:=hf it qz;refine b0h st ⟨o,ho,ka.hx,ka.hd⟩ qo λh' st' sb=>?_
  have I1:Inv X pins σ H { s with heap:=h'}:=I.turned (t':=s.toks) (λb o hb e=>(sb.2 b hb).trans e) f0 f1 f3 f4 f5;obtain⟨o2,e,c,d⟩:=id st';have ek:(es.toList.map (·.key))[i]? =some es[i].key:=by
   rw[Zs,Xa,Yp qo];rfl
  rw[ka.ks,Zs]at ek;obtain⟨b,eb,er⟩:=Ym.mp ek;exact⟨_,rfl,b2w (s:={ s with heap:=h'}) e c d qd ⟨.ref b,H,I1,er.symm,⟨rfl,b,eb,rfl⟩,st',λb hb=>(hf b hb).1⟩⟩
 done:=by
  intro X hP hw hK hc i pins s σ H E I hf st hg;subst hP hw hK;obtain⟨f0,f1,f2,f3,f4,f5⟩:=hf it qz;obtain⟨hi,hH⟩:=hg;obtain⟨ho,_⟩:=(show a1s X.prog X.w H s.heap a (.frz o (.dT kvs))from I.hok a _ hH);rw[hi,<-hn]at st;exact b1f (I.ok.hd hc) st ⟨o,ho,ka.hx,ka.hd⟩ λh' eb=>⟨rfl,I.turned (t':=s.toks) (λb o hb e=>eb b o hb e) f0 f1 f3 f4 f5⟩
 self:=λ_ _ _ _ _ st h=>Uj st h
theorem c0t{a:Addr}{o:Obj}{kvs:List (List Key×V)}{ads:List Addr}:Row (ItT a o kvs ads) kvs.length (λi=>((ads[i]?).map λp=>V.ref p).getD .non) (λH=>H a=some (.frz o (.dT kvs))):=⟨λi H h q=>⟨h,q⟩,λi H v H' hi q h=>by
 obtain⟨e,b,h1,h2⟩:=h;refine⟨e,?_⟩;rw[h1,h2]
 rfl,λH q=>⟨rfl,q⟩⟩
section
variable{X:Cx}{tg:Expr}
def iDictT(NF:Addr->Prop)(tl:TE):TI:=λσ H R=>tl σ H λx H1=>∃(a:Addr)(kvs:List (List Key×V)),x=.ref a/\H1 a=some (.dT kvs)/\∀(o:Obj)(ads:List Addr),NF a->ads.length=kvs.length->(∀(i:Nat)(q:List Key×V)(b:Addr),kvs[i]? =some q->ads[i]? =some b->H1 b=some (.tup (q.1.map kV)))->R (ItT a o kvs ads) (upd H1 a (.frz o (.dT kvs)))
theorem kt_get{H:Hp}{kvs:List (List Key×V)}{xs:List (List Key×Addr×Value)}(h:KT H kvs xs):∀{i:Nat}{q:List Key×V}{x:List Key×Addr×Value},kvs[i]? =some q->xs[i]? =some x->H x.2.1=some (.tup (q.1.map kV)):=by
 induction h with
 |nil=>intro i q x e;simp at e
 |cons a _ ih=>
  intro i q x e1 e2;cases i with
  |zero=>cases e1;cases e2;exact a.2.1
  |succ i=>exact ih (by simpa using e1) (by simpa using e2)
theorem c3p{l:Expr}{tl:TE}(hl:PE X l tl):PI X tg l (iDictT (NFz X) tl):=by
 intro pins s σ H R I h;refine thn (hl pins s σ H _ I h) λu s1 z9=>?_
 obtain⟨x,H1,I1,r1,a,kvs,ex,ha,q⟩:=z9;subst ex;cases r1;obtain⟨z,lo,xs,kt,o,es,ep,ho,hx,hd,he,hk,hnd⟩:=b4u I1.hok ha;have nf:NFz X a:=λo' u' e=>by
  have:=I1.base.frzs a o' u' e;rw[ha]at this;cases this
 have hl:=kt_at kt;have hn:es.size=kvs.length:=by rw[<-Yw,he,length_map,hl]
 have ka:d1a o es ep (xs.map (·.2.1)):=⟨hx,hd,by rw[he,Y4,Y4];rfl⟩;have I2:Inv X pins σ (upd H1 a (.frz o (.dT kvs))) s1:=I1.write (t':=s1.toks) (h':=s1.heap) (x:=a) (e:=a) (by rw[ha];exact True.intro) (.inl rfl) (λb q hb e=>e) ⟨o,ho⟩ ⟨ho,z,lo,xs,Paired.mapP kt (λp q r=>⟨r.1,by rw[a0l (a1w r.2.1 ha (λz=>by cases z))];exact r.2.1,r.2.2⟩),o,es,ep,ho,hx,hd,he,hnd⟩;refine b6a lo ⟨o,ho,hx,hd⟩ ?_;refine⟨s1.heap.objs.size,[s1.heap.objs.size],_,_,_,rfl,I2.kept (t':=s1.toks) λb q e=>Zd _ e,c7t a _ o kvs es ep _ ka hn,⟨_,Zl _ rfl,rfl,rfl⟩,λb hb=>?_,q o _ nf (by rw[length_map,hl]) (λi q b e1 e2=>?_)⟩
 ·obtain rfl:b=s1.heap.objs.size:=by simpa using hb
  exact I2.fpOk (Zg _) (I2.hok.fresh (Zg _))
 ·rw[Zs]at e2;obtain⟨x,ex,rfl⟩:=Ym.mp e2;exact kt_get kt e1 ex
theorem Inv.thawT{pins:List (Addr×Obj)}{σ:St}{H:Hp}{s:Shared}{a:Addr}{o:Obj}{kvs:List (List Key×V)}(I:Inv X pins σ H s)(nf:NFz X a)(hH:H a=some (.frz o (.dT kvs))):Inv X pins σ (upd H a (.dT kvs)) s:=by
 have ne0:∀b,H b=none->b≠a:=λb h z=>by rw[z,hH]at h;cases h
 have ne1:∀b u,H b=some u->(∀o' u',u≠.frz o' u')->b≠a:=λb u h n z=>by
  rw[z,hH]at h;exact n _ _ (Zi h).symm
 have hok:=I.hok;have keep:∀b u,H b=some u->(∀o' u',u≠.frz o' u')->(upd H a (.dT kvs)) b=some u:=λb u h n=>by rw[a0l (ne1 b u h n)];exact h
 have none_:∀b,H b=none->(upd H a (.dT kvs)) b=none:=λb h=>by rw[a0l (ne0 b h)];exact h
 have stay:∀(b:Addr)(u:HO),a1s X.prog X.w H s.heap b u->a1s X.prog X.w (upd H a (.dT kvs)) s.heap b u:=λb u x=>x.stay (λc v _ q=>q) (λc q=>keep c _ q (λ_ _ z=>by cases z)) λc xs q=>keep c _ q (λ_ _ z=>by cases z)
 refine{ I with base:=⟨I.base.keep,I.base.slot,λb o' g h e=>none_ b (I.base.free b o' g h e),I.base.there,λb xs e=>keep b _ (I.base.tups b xs e) (λ_ _ z=>by cases z),λb o' u e=>?_,λb ps e=>?_⟩,free:=none_ _ I.free,freeC:=λx c e=>none_ _ (I.freeC x c e),pin:=λp hp=>?_,hok:=λb u e=>?_}
 ·rw[a0l (λz=>by subst z;exact nf o' u e)];exact I.base.frzs b o' u e
 ·obtain⟨more,this⟩:=I.base.tbls b ps e;exact⟨more,keep b _ this (λ_ _ z=>by cases z)⟩
 ·obtain⟨h1,h2,h3⟩:=I.pin p hp;exact⟨h1,none_ _ h2,h3⟩
 ·by_cases hb:b=a
  ·subst hb;rw[a0b]at e;cases e;exact stay b _ (hok b _ hH).2
  ·rw[a0l hb]at e;exact stay b u (hok b u e)
def tThawT(NF:Addr->Prop)(t:TS):TS:=λD σ H=>t { nx:=λσ' H'=>∃a o kvs,NF a/\H' a=some (.frz o (.dT kvs))/\D.nx σ' (upd H' a (.dT kvs)),rt:=λv H'=>∃a o kvs,NF a/\H' a=some (.frz o (.dT kvs))/\D.rt v (upd H' a (.dT kvs)),bk:=D.bk,ct:=D.ct} σ H
theorem c3q{st:Stmt}{t:TS}(h:PS X st t):PS X st (tThawT (NFz X) t):=by
 intro pins s σ H D I q;refine thn (h pins s σ H _ I q) λf s1 r=>?_
 cases f with
 |next=>
  obtain⟨σ',H',I',a,o,kvs,nf,hH,q'⟩:=r;exact⟨σ',_,I'.thawT nf hH,q'⟩
 |brk=>exact r
 |cont=>exact r
 |ret u=>
  obtain⟨v,σ',H',I',rv,a,o,kvs,nf,hH,q'⟩:=r;exact⟨v,σ',_,I'.thawT nf hH,rv,q'⟩
end
def NwAt(h:Heap)(z:Str)(v:Value)(n:Int):Prop:=∃(q:Addr)(o:Obj)(k:Nat)(t1 t2:Tok),v=.ref q/\h.get? q=some o/\o.cls=.type "tuple"/\o.data=.seq #[.str z t1,.int n t2] k
theorem d1b{cmp:Nat->Nat->(Bool->Shared->Prop)->Shared->Prop}{p:Array Nat}{N:Nat}{s:Shared}(hc:∀n C,1<=n->n<N->C false s->cmp (p.getD n 0) (p.getD (n-1) 0) C s):
  ∀(f n:Nat){Q:Nat->Shared->Prop},1<=n->n+f<=N->Q (n+f) s->(kas_asc p f n).kasWp cmp Q s
 |0,n,Q,_,_,h=>h
 |f+1,n,Q,h1,h2,h=>by
  refine hc n _ h1 qo ?_
  show(if false=true then KasT.ret n else kas_asc p f (n+1)).kasWp cmp Q s
  rw[if_neg Zj];exact d1b hc f (n+1) qo qo (by rwa[show n+1+f=n+(f+1) by omega])
theorem b8d{n i:Nat}(h:i<n):(List.toArray (List.range n)).getD i 0=i:=by simp[Array.getD,h]
theorem d4c{cmp:Nat->Nat->(Bool->Shared->Prop)->Shared->Prop}{N:Nat}{s:Shared}{Q:Array Nat->Shared->Prop}(h2:2<=N)(hc:∀n C,1<=n->n<N->C false s->cmp n (n-1) C s)(h:Q (List.toArray (List.range N)) s):(kas_sort N).kasWp cmp Q s:=by
 unfold kas_sort;rw[KasT.kasWp_bind];unfold kas_count;rw[KasT.kasWp_bind];refine d1b (N:=N) (λn C h1 h3 hC=>?_) (N-1) 1 (Zg _) qo ?_
 ·rw[b8d h3,b8d qo];exact hc n C h1 h3 hC
 ·rw[show 1+(N-1)=N by omega];rw[if_pos (show(N==N)=true by simp)]
  show(if N<N then kas_bin (N-max N 1) (List.toArray (List.range N)) (max N 1)else KasT.ret (List.toArray (List.range N))).kasWp cmp Q s
  rw[if_neg (Yt _)];exact h
section
variable{prog:Program}{w:World}{A:Around}{E:Value->Shared->Prop}{s:Shared}
theorem nw_lt{z:Str}{x y:Value}{n m:Int}{C:Bool->Shared->Prop}(hx:NwAt s.heap z x n)(hy:NwAt s.heap z y m)(hl:m<n)(h:C false s):wpAny (model prog w) A (keyLt' (tuples' true) x y) C E s:=by
 obtain⟨q,o,k,t1,t2,rfl,ho,_,hd⟩:=hx;obtain⟨q',o',k',t1',t2',rfl,ho',_,hd'⟩:=hy;refine kat_lt ho hd ho' hd' ?_
 show KatLex prog w A true _ C [(.str z t1,.str z t1'),(.int n t2,.int m t2')] 0 s
 refine kat_cons (wpAny_eqBool_str ?_);rw[Yg rfl];refine kat_yes (kat_cons (wpAny_eqBool_int ?_));rw[show(n==m)=false by simp;omega];refine kat_no ?_
 show wpAny _ _ (oneLt' false _ _) _ _ _
 refine kat_one _ _ (wpAny_lt_int ?_);rw[Z4 qo];exact h
theorem c6e{h:Heap}{z:Str}:∀{vs:List Value}{ns:List Int},vs.length=ns.length->(∀i (hi:i<vs.length) (hj:i<ns.length),NwAt h z vs[i] ns[i])->∃fs,KatTups h vs fs/\fs.length=vs.length/\∀f∈fs,∃t,f=Value.str z t
 | [],[],_,_=>⟨[],.nil,rfl,λf h=>nomatch h⟩
 | [],_::_,e,_=>by simp at e
 |_::_,[],e,_=>by simp at e
 |v::vs,n::ns,e,r=>by
  obtain⟨fs,h1,h2,h3⟩:=c6e (vs:=vs) (ns:=ns) (by simpa using e) λi hi hj=>r (i+1) (by simp;omega) (by simp;omega)
  obtain⟨q,o,k,t1,t2,e1,ho,hc,hd⟩:=r 0 qz qz
  cases(show v=.ref q from e1)
  refine⟨.str z t1::fs,.cons ho hc hd rfl h1,by simp[h2],λf hf=>?_⟩;rcases Zo.mp hf with rfl|hf
  ·exact⟨_,rfl⟩
  ·exact h3 f hf
theorem d1c(vs:List Value):(List.range vs.length).map (λi=>vs.getD i Value.none)=vs:=by
 refine List.ext_getElem qz λi h1 h2=>?_
 simp[h2]
theorem nw_sort{z:Str}{a:Addr}{vs:List Value}{ns:List Int}{n:Nat}{P:PySem.Fin->Shared->Prop}(ho:s.heap.get? a=some (seqObj "list" vs.toArray n))(hl:vs.length=ns.length)(hn:∀i (hi:i<vs.length) (hj:i<ns.length),NwAt s.heap z vs[i] ns[i])(hs:ns.Pairwise (· < ·))(h64:vs.length<64)
  (h:P (.done (.ret .none)) { s with heap:=sortedHeap s.heap a vs vs.toArray}):wpAny (model prog w) A (Builtin.«list.sort» ⟨[.ref a],[]⟩) P E s:=by
 rw[list_sort_plain];have ha:a<s.heap.objs.size:=Zu ho;refine Zb (listItems_at ho rfl ?_);refine Zb (Tr ho rfl ?_);obtain⟨e1,ho1⟩:∃e1,(s.heap.update a (Obj.mapSeq λ_=>#[])).get? a=some (seqObj "list" #[] e1):=⟨_,get?_update_seq ho (λ_=>#[])⟩;refine Zb (Sl ho1 rfl ?_);refine Zb (wpAny_newTuple ?_);refine Zb (wpAny_newList ?_);refine Y7 ?_;have ho6:(((s.heap.update a (Obj.mapSeq λ_=>#[])).push (seqObj "tuple" vs.toArray 0)).push (seqObj "list" #[] 0)).get? a=some (seqObj "list" #[] e1):=by
  rw[Heap.get?_push_ne _ _ _ (by rw[size_push',U6];exact Z6 (Xr ha)),Heap.get?_push_ne _ _ _ (by rw[U6];exact Z6 ha)];exact ho1
 have keep:∀b o,b≠a->s.heap.get? b=some o->(((s.heap.update a (Obj.mapSeq λ_=>#[])).push (seqObj "tuple" vs.toArray 0)).push (seqObj "list" #[] 0)).get? b=some o:=λb o hb e=>
  Zd _ (Zd _ (by rw[S4 _ _ _ _ hb];exact e))
 show wpAny (model prog w) A _ P E { s with heap:=((s.heap.update a (Obj.mapSeq λ_=>#[])).push (seqObj "tuple" vs.toArray 0)).push (seqObj "list" #[] 0)}
 dsimp only
 have hsz:vs.toArray.size=vs.length:=by simp
 have hn':∀i (hi:i<vs.length) (hj:i<ns.length),NwAt (((s.heap.update a (Obj.mapSeq λ_=>#[])).push (seqObj "tuple" vs.toArray 0)).push (seqObj "list" #[] 0)) z vs[i] ns[i]:=λi hi hj=>by
  obtain⟨q,o,k,t1,t2,e1,e2,e3,e4⟩:=hn i hi hj;exact⟨q,o,k,t1,t2,e1,keep q o (λz=>by subst z;rw[ho]at e2;cases e2;injection e3 with e3;exact absurd e3 qd) e2,e3,e4⟩
 by_cases h2:vs.toArray.size<2
 ·rw[if_pos h2,if_pos h2];refine Zb (Zf ?_);rw[StateT.run_pure];refine Zb (Zf ?_)
  dsimp only
  refine Zb (Sl ho6 rfl ?_);refine Zb (Tr ho6 rfl ?_ (hsz2:=by rw[Array.size_map];show(pairsOf vs).size<=_;rw[pairsOf_size,Yb];omega));simp only[bne_self_eq_false,Wh,X4];refine Zf ?_;have e:(pairsOf vs).map (·.2)=vs.toArray:=by
   apply Array.toList_inj.mp
   simp only[pairsOf,Array.toList_map,Array.toList_zip];rw[List.map_snd_zip qz]
  rw[<-e]at h;exact h
 ·rw[if_neg h2,if_neg h2];obtain⟨fs,t1,t2,t3⟩:=c6e (z:=z) hl hn';refine Zb (kat_kind (T:=.type "str") t1 qo (λv hv=>?_) qd ?_)
  ·obtain⟨t,rfl⟩:=t3 v hv;exact .now
  show wpAny _ _ ((sortRuns').run (SortSt.mk' (tuples' true) (vs.toArray.zip vs.toArray) #[] 7 none)>>=_) P E _
  refine Zb (W2 (kat_run (ks:=vs) (G:=λp s'=>p=List.toArray (List.range vs.length)/\s'={ s with heap:=((s.heap.update a (Obj.mapSeq λ_=>#[])).push (seqObj "tuple" vs.toArray 0)).push (seqObj "list" #[] 0)}) (Q:=λst' s'=>arrOf st'=(List.toArray (List.range vs.length)).map (kas_item (vs.toArray.zip vs.toArray))/\failedOf st'=none/\s'={ s with heap:=((s.heap.update a (Obj.mapSeq λ_=>#[])).push (seqObj "tuple" vs.toArray 0)).push (seqObj "list" #[] 0)}) rfl qo h64 (λp st' s' a1 a2 a3 a4=>⟨by rw[a2,a4.1],a3,a4.2⟩) ?_) ?_ λ_ _ e=>e)
  ·refine d4c qo (λi C h1 h3 hC=>?_) ⟨rfl,rfl⟩;unfold kas_ask;have g1:vs.getD i Value.none=vs[i]:=by simp[h3]
   have g2:vs.getD (i-1) Value.none=vs[i-1]'(by omega):=by simp[show i-1<vs.length by omega]
   rw[g1,g2];exact nw_lt (hn' i h3 qo) (hn' (i-1) qo qo) (Wv.mp hs (i-1) i qo qo qo) hC
  ·rintro⟨⟨⟩,st'⟩ s' ⟨har,hf,rfl⟩
   dsimp only
   have e:=kat_snds (ks:=vs) (vs:=vs) rfl har;rw[show(List.toArray (List.range vs.length)).toList=List.range vs.length from rfl,d1c]at e;refine Zb (Sl ho6 rfl ?_);refine Zb (Tr ho6 rfl ?_ (hsz2:=by rw[e,Ze,Yb];omega));rw[hf];simp only[bne_self_eq_false,Wh,X4];rw[<-e]at h;exact Zf h
theorem d1d{z:Str}{l:Addr}{vs:List Value}{ns:List Int}{Q:Value->Shared->Prop}(hL:s.heap.IsList l vs.toArray)(hl:vs.length=ns.length)(hn:∀i (hi:i<vs.length) (hj:i<ns.length),NwAt s.heap z vs[i] ns[i])(hs:ns.Pairwise (· < ·))(h64:vs.length<64)
  (h:Q (.ref (s.heap.objs.size+1)) { s with heap:=sortedAll s.heap vs vs.toArray}):wpAny (model prog w) A (call (.builtin "sorted") [.ref l]) Q E s:=by
 refine Tm kind_sorted plain_sorted entry_sorted (args_sorted1 _) ?_;unfold Builtin.«sorted»;refine Zb (m:=checkCount "sorted" 1 1 _) (Zf ?_);refine Zb (collect_list hL ?_);refine Zb (wpAny_newList ?_);have hsz:((s.heap.push (seqObj "list" #[] 0)).update s.heap.objs.size (Obj.mapSeq (· ++vs.toArray))).objs.size=s.heap.objs.size+1:=by
  rw[U6,size_push']
 have hoL:(((s.heap.push (seqObj "list" #[] 0)).update s.heap.objs.size (Obj.mapSeq (· ++vs.toArray))).push (seqObj "list" vs.toArray 0)).get? (s.heap.objs.size+1)=some (seqObj "list" vs.toArray 0):=by
  rw[<-hsz];exact Zl _ rfl
 show wpAny _ _ _ _ _ { s with heap:=((s.heap.push (seqObj "list" #[] 0)).update s.heap.objs.size (Obj.mapSeq (· ++vs.toArray))).push (seqObj "list" vs.toArray 0)}
 rw[hsz];have keep:∀b o,s.heap.get? b=some o->(((s.heap.push (seqObj "list" #[] 0)).update s.heap.objs.size (Obj.mapSeq (· ++vs.toArray))).push (seqObj "list" vs.toArray 0)).get? b=some o:=λb o e=>
  Zd _ (by rw[S4 _ _ _ _ (Z6 (Zu e))];exact Zd _ e)
 refine Zb (Y7 (Yr slot_list_sort ⟨_,hoL,rfl⟩ entry_list_sort (nw_sort (z:=z) (ns:=ns) hoL hl (λi hi hj=>?_) hs h64 ⟨_,rfl,?_⟩) (args_list_sort _)))
 ·obtain⟨q,o,k,t1,t2,e1,e2,e3,e4⟩:=hn i hi hj;exact⟨q,o,k,t1,t2,e1,keep _ _ e2,e3,e4⟩
 ·exact Zf ⟨_,rfl,h⟩
end
section
variable{X:Cx}
def Nws(K:W.Frag)(H:Hp)(z:Str)(us:List V)(ns:List Int):Prop:=Paired (λv n=>∃q,v=V.ref q/\SqT K H q [.str z,.int n]) us ns
def mSortNw(K:W.Frag):List V->Hp->VK->Prop:=λvs H Q=>∃(p:Addr)(z:Str)(us:List V)(ns:List Int),vs=[.ref p]/\SqL K H p us/\Nws K H z us ns/\ns.Pairwise (· < ·)/\ns.length<64/\∀(q:Addr),H q=none->Q (.ref q) (upd H q (.lst us))
theorem d1e{K:W.Frag}(hK:X.K=K){pins:List (Addr×Obj)}{s:Shared}{σ:List (Option V)}{H:Hp}{z:Str}(I:Inv X pins σ H s):∀{us:List V}{ns:List Int}{its:List Value},Nws K H z us ns->Vals us its->its.length=ns.length/\∀i (hi:i<its.length) (hj:i<ns.length),NwAt s.heap z its[i] ns[i]
 | [],[],[],_,_=>⟨rfl,λi hi=>nomatch hi⟩
 |_::_,n::ns,x::its,.cons h1 h2,.cons r1 r2=>by
  subst hK;obtain⟨e1,e2⟩:=d1e rfl I h2 r2;refine⟨by simp[e1],λi hi hj=>?_⟩;cases i with
  |succ i=>exact e2 i (by simpa using hi) (by simpa using hj)
  |zero=>
   obtain⟨q,rfl,hq⟩:=h1;obtain⟨its',rv',pt,_⟩:=I.tuple hq;cases rv' with
   |cons x1 x2=>
    cases x2 with
    |cons x2 x3=>
     cases x3;cases r1;obtain⟨t1,rfl⟩:=x1;obtain⟨t2,rfl⟩:=x2;obtain⟨o,ho,hc,k,hd⟩:=(show s.heap.IsTuple q _ from pt);exact⟨q,o,k,t1,t2,rfl,ho,hc,hd⟩
theorem d1f(K:W.Frag)(hK:X.K=K):a2w X (.builtin "sorted") (mSortNw K):=by
 subst hK;intro pins s σ H xs us Q I r h;obtain⟨p,z,vs,ns,rfl,hs,hn,hp,h64,q⟩:=h;obtain⟨u,rfl,r1⟩:=vals1 r;cases r1;obtain⟨its,rv,pl,hz⟩:=I.list hs;obtain⟨e1,e2⟩:=d1e rfl I hn rv;refine d1d pl.isList e1 e2 hp qo ?_;obtain⟨e,he⟩:=sortedAll_at s.heap its its.toArray;have hl:vs.length<=sizeLine:=by rw[Yb];have:=rv.length;omega
 exact⟨.ref _,upd H (s.heap.objs.size+1) (.lst vs),I.laid (t':=s.toks) (λb o e=>sortedAll_old e) (Wr _ _) ⟨hl,its,e,rv,he⟩,rfl,q _ (I.hok.fresh (Wr _ _))⟩
end
open PySem.AutoSeq1 (wpAny_loadPart')
section
variable{prog:Program}{w:World}{A:Around}{E:Value->Shared->Prop}{s:Shared}
theorem d4d{l b:Addr}{items items2:Array Value}{Q:Value->Shared->Prop}(hl:s.heap.IsTuple l items)(hb:s.heap.IsTuple b items2)(hsz:items.size=items2.size)(hu:A.units<cLine)
  (he:∀j (h1:j<items.size) (h2:j<items2.size),EqIn prog w A.in1 s items[j] items2[j])(h:Q (.bool false) s):wpAny (model prog w) A (compareOp .NotEq (.ref l) (.ref b)) Q E s:=by
 obtain⟨⟨cls,dd,data,sl⟩,ho,hc,n,hd⟩:=id hl;obtain⟨⟨cls2,dd2,data2,sl2⟩,ho2,hc2,n2,hd2⟩:=id hb;simp only at hc hd hc2 hd2;subst hc hd hc2 hd2;refine Tf (op:=.NotEq) ⟨_,ho,rfl⟩ ⟨_,ho2,rfl⟩ F.slot_tuple_ne (Yr F.slot_tuple_ne ⟨_,ho,rfl⟩ F.entry_tuple_ne ?_ (F.args_tuple_ne_2 _ _)) hu;obtain⟨hp,g,d,tk,os⟩:=s;have f2:=AutoSeq1.sub_tuple_tuple;have hZ:(items.toList.zip items2.toList).length=items.size:=by simp[hsz]
 wp_walk using wpAny_loadPart' ho,wpAny_loadPart' ho2,wpAny_forIn_list _ (λrest b s'=>b.1=none/\s'=(⟨hp,g,d,tk,os⟩:Shared)/\∃i,rest=(items.toList.zip items2.toList).drop i) _
 case turn=>
  rintro⟨y,x⟩ rest b s' ⟨hb',rfl,i,hz⟩
  have hlt:i<(items.toList.zip items2.toList).length:=by
   rcases T7 i (items.toList.zip items2.toList).length with h'|h'
   ·exact h'
   ·rw[Sa h']at hz;exact nomatch hz
  have h1:i<items.size:=by omega
  rw[Vv hlt]at hz;obtain⟨hyx,hrest⟩:=Tx hz;obtain⟨hy,hx⟩:=Prod.mk.inj (hyx.trans (by rw[List.getElem_zip]));simp only[Array.getElem_toList]at hy hx;subst hy hx;refine Zb (he i h1 qo _ _ ?_)
  wp_walk
  exact⟨rfl,rfl,i+1,hrest⟩
 case fin=>
  rintro⟨b1,b2⟩ s' ⟨hb',rfl,i,hz⟩
  simp only at hb';subst hb'
  wp_walk
  exact⟨_,rfl,(λz=>nomatch z),by simpa[Builtin.Tuple.tupleCompareSizes,hsz]using h⟩
 case h=>exact⟨rfl,rfl,0,rfl⟩
end
section
variable{X:Cx}
def mNeSw(K:W.Frag):R2:=λx y H Q=>∃(p q a b:Addr)(m n:Int)(ka kb:List (List Key×V)),x=.ref p/\y=.ref q/\SqT K H p [.ref a,.int m,.int n]/\SqT K H q [.ref b,.int m,.int n]/\H a=some (.dT ka)/\H b=some (.dT kb)/\a≠b/\ka.length=kb.length/\
 (∀k v,valV ka k=some v->∃i,v=.int i/\valV kb k=some (.int i))/\Q (.bl false) H
theorem ko_neSw(K:W.Frag)(hK:X.K=K)(hu:X.A.units+150<cLine):OpR X (compareOp .NotEq) (mNeSw K):=by
 subst hK;intro pins s σ H x y v u Q I rx ry h;obtain⟨p,q,a,b,m,n,ka,kb,rfl,rfl,hp,hq,ha,hb,hab,hl,hv,k⟩:=h;cases rx;cases ry;obtain⟨its,rv,p1,_⟩:=I.tuple hp;obtain⟨its',rv',p2,_⟩:=I.tuple hq;obtain⟨_,la,xa,ra,da⟩:=b4u I.hok ha;obtain⟨_,lb,xb,rb,db⟩:=b4u I.hok hb;have hdict:EqIn X.prog X.w X.A.in1 s (.ref a) (.ref b):=EqIn.refs hab λE Q hq=>by
  have e1:=Yo ra;have e2:=Yo rb;have val:∀(kvs:List (List Key×V))(xs:List (List Key×Addr×Value)),KT H kvs xs->(xs.map (·.1)).Nodup->∀(i:Nat)(k:List Key)(z:Addr×Value),xs[i]? =some (k,z)->∃v,valV kvs k=some v/\RelV v z.2:=λkvs xs r nd i k z e=>by
   have h1:=r.val k;rw[atKey_of_get nd e]at h1;cases h2:valV kvs k with
   |none=>rw[h2]at h1;exact h1.elim
   |some v=>rw[h2]at h1;exact⟨v,rfl,h1⟩
  obtain⟨_,_,_,_,_,_,_,_,nda⟩:=id da;obtain⟨_,_,_,_,_,_,_,_,ndb⟩:=id db;refine hd_eq la lb da db qo (Xl (A:=X.A.in1) (by show X.A.units+1+1<cLine;omega)) (by show X.A.units+1<cLine;omega) (λi k z e j z' e'=>?_) (λi k z e=>?_) hq
  ·obtain⟨v1,g1,r1⟩:=val ka xa ra nda i k z e;obtain⟨v2,g2,r2⟩:=val kb xb rb ndb j k z' e';obtain⟨w',rfl,g3⟩:=hv k v1 g1;rw[g2]at g3;cases g3;obtain⟨t1,f1⟩:=r1;obtain⟨t2,f2⟩:=r2;rw[f1,f2];have:=Xz (A:=X.A.in1.in1) (s:=s) w' t1 w' t2;exact EqIn.at (by simpa[PyData.eqv]using this)
  ·obtain⟨v1,g1,r1⟩:=val ka xa ra nda i k z e;obtain⟨w',rfl,g3⟩:=hv k v1 g1;have h1:=rb.val k;rw[g3]at h1;cases h2:atKey xb k with
   |none=>rw[h2]at h1;exact h1.elim
   |some z'=>
    unfold atKey at h2;obtain⟨y,h3,h4⟩:=Ym.mp h2;obtain⟨j,hj⟩:=Wk.mp (Tl h3);have h5:=List.find?_some h3;have h6:y.1=k:=Z8 h5;exact⟨j,y.2,by rw[hj,<-h6]⟩
 cases rv with
 |cons r1 rv=>
  cases rv with
  |cons r2 rv=>
   cases rv with
   |cons r3 rv=>
    cases rv;cases rv' with
    |cons r1' rv'=>
     cases rv' with
     |cons r2' rv'=>
      cases rv' with
      |cons r3' rv'=>
       cases rv';cases r1;cases r1';obtain⟨t2,rfl⟩:=r2;obtain⟨t3,rfl⟩:=r3;obtain⟨t2',rfl⟩:=r2';obtain⟨t3',rfl⟩:=r3';refine d4d (show s.heap.IsTuple p _ from p1) (show s.heap.IsTuple q _ from p2) rfl qo (λj h1 h2=>?_) ⟨.bl false,H,I,rfl,k⟩;have i2:=Xz (A:=X.A.in1) (s:=s) m t2 m t2';have i3:=Xz (A:=X.A.in1) (s:=s) n t3 n t3';have hj:j=0\/j=1\/j=2:=by simp at h1;omega
       rcases hj with rfl|rfl|rfl
       ·exact hdict
       ·exact EqIn.at (by simpa[PyData.eqv]using i2)
       ·exact EqIn.at (by simpa[PyData.eqv]using i3)
end
theorem d1g{f:Nat->Option Value}{g:Nat->Value}:∀(l:List Nat),(∀k∈l,f k=some (g k))->l.filterMap f=l.map g
 | [],_=>rfl
 |a::l,h=>by rw[Vn,h a (.head _),Zp,d1g l λk hk=>h k (.tail _ hk)]
theorem d4e(its:List Value):slicePick its.toArray none none (some (-1))=its.reverse.toArray:=by
 unfold slicePick
 congr 1
 show(sliceRange ((its.toArray.size:Int)-1) (-1) (-1)).filterMap _=_
 have hn:its.toArray.size=its.length:=by simp
 rw[hn];have e:sliceRange ((its.length:Int)-1) (-1) (-1)=(List.range its.length).map λk=>its.length-1-k:=by
  unfold sliceRange
  dsimp only
  rw[if_neg qd];have hc:(if(its.length:Int)-1> -1 then((its.length:Int)-1- -1- -1-1)/(- -1)else 0).toNat=its.length:=by
   by_cases h:(its.length:Int)-1> -1
   ·rw[if_pos h,show(-(-1:Int))=1 from rfl,Int.ediv_one];omega
   ·rw[if_neg h];omega
  rw[hc];refine X8 λk hk=>?_
  have:=X0.mp hk;omega
 rw[e,Ri];refine W7 λi=>?_
 have:(List.range its.length).filterMap ((λx=>its.toArray[x]?)∘λk=>its.length-1-k)=(List.range its.length).map λk=>its.getD (its.length-1-k) .none:=by
  refine d1g _ λk hk=>?_
  have:=X0.mp hk;have h:its.length-1-k<its.length:=by omega
  simp[h]
 rw[this]
 by_cases hi:i<its.length
 ·have h:its.length-1-i<its.length:=by omega
  rw[Sf hi]
  simp[hi,h]
 ·rw[Yj (by simp;omega),Yj (by simp;omega)]
section
variable{X:Cx}
def tRevS(te ts:TE)(K:W.Frag):TE:=λσ H Q=>te σ H λv H1=>ts σ H1 λm H2=>∃a xs,m=.int (-1)/\v=.ref a/\SqL K H2 a xs/\∀p,H2 p=none->Q (.ref p) (upd H2 p (.lst xs.reverse))
theorem tRevS_i{K:W.Frag}{σ:St}{H:Hp}{te ts:TE}{Q:VK}(k:te σ H λv H1=>ts σ H1 λm H2=>∃a xs,m=.int (-1)/\v=.ref a/\SqL K H2 a xs/\∀p,H2 p=none->Q (.ref p) (upd H2 p (.lst xs.reverse))):tRevS te ts K σ H Q:=k
theorem pe_revS(K:W.Frag)(hK:X.K=K){e st:Expr}{te ts:TE}{p2 pos:Pos}(he:PE X e te)(hs:PE X st ts)(ht:∀o r,letTemporaryGo e o r=pure ()):PE X (.Subscript e (.Slice none none (some st) p2) pos) (tRevS te ts K):=by
 subst hK;intro pins s σ H Q I h;refine wpAny_Subscript_Slice_step (T:="list") list_getitem_lookup (thn (he pins s σ H _ I h) λv s1 z9=>?_) ht;obtain⟨x,H1,I1,r1,q1⟩:=z9;refine wpAny_Slice ?_;rw[Ts];refine Zf (Zf ?_);refine W2 (thn (hs pins s1 σ H1 _ I1 q1) λm s2 z8=>?_) (λ_ _ q=>q) λ_ _ q=>q
 obtain⟨y,H2,I2,r2,a,xs,rfl,rfl,hx,q⟩:=z8;cases r1;obtain⟨t2,rfl⟩:=r2;obtain⟨its,r,hl,hz⟩:=I2.list hx;have hlen:=r.length;have hl':({ s2 with heap:=s2.heap.push { cls:=.type "slice",data:=.fields #[.none,.none,.int (-1) t2]}}:Shared).heap.IsList a its.toArray:=hl.isList.push _;refine⟨hl'.typeIs,Tp (st:=some (-1)) hl' (Rk ..) .none .none (.int _ _) qd ?_ (by rw[Ze];omega)⟩;rw[d4e,Xh];refine⟨.ref (s2.heap.objs.size+1),_,I2.laid (t':=s2.toks) (o:=.lst xs.reverse) (λb ob q=>Zd _ (Zd _ q)) (Wr _ _) ?_,rfl,q _ (I2.hok.fresh (Wr _ _))⟩;refine⟨by rw[Y2];exact hz,its.reverse,0,r.reverse,?_⟩;have:=Zl (s2.heap.push { cls:=.type "slice",data:=.fields #[.none,.none,.int (-1) t2]}) (o:={ cls:=.type "list",data:=.seq its.reverse.toArray 0}) rfl;rw[Xh]at this;exact this
end
section
variable{X:Cx}
def mIsB:R2:=λx y H Q=>∃a b,x=.bl a/\y=.bl b/\Q (.bl (a==b)) H
theorem mo_isB:OpR X (compareOp .Is) mIsB:=by
 intro pins s σ H x y v u Q I rx ry h;obtain⟨a,b,rfl,rfl,q⟩:=h;cases rx;cases ry;refine PyProof.Rows.is_bool ?_;exact a1j I q rfl
end
section
variable{prog:Program}{w:World}{K:Type}[DecidableEq K]{knd:HeapKind prog w K}{A:Around}{E:Value->Shared->Prop}{s:Shared}
theorem c7u(knd:HeapKind prog w K)(d:Addr)(hd:(d==sysModules)=false):
  MeetsIn prog w (Builtin.«dict.__len__» ⟨[.ref d],[]⟩) (λ_ R s=>∃kvs,s.heap.DictOfH knd d kvs/\R (.ok (.ret (.int kvs.length s.toks))) { s with toks:=s.toks+1}):=
 .of_wp λA R s ⟨kvs,hm,h⟩=>by
  obtain⟨o,es,ep,ho,hc,hdat,he,hp,hn⟩:=hm
  show wpAny _ _ (dictSize d>>=_) _ _ s
  unfold dictSize;refine Zb (Zb (Xf ho hdat (Zf ?_)))
  show wpAny _ _ (Builtin.Dict.pendingCount d>>=_) _ _ s
  refine Zb (wpAny_pendingCount_other hd ?_);refine wpAny_ret_mkInt ?_;have:es.size=kvs.length:=Ub he;rw[Nat.add_zero,this];exact h
theorem d1h{d:Addr}{kvs:List (K×Addr×Value)}{Q:Value->Shared->Prop}(hd:(d==sysModules)=false)(hm:s.heap.DictOfH knd d kvs)(hfit:(kvs.length:Int)<2^63)
  (h:Q (.int kvs.length (s.toks+1)) { s with toks:=s.toks+1+1}):wpAny (model prog w) A (Builtin.«len» ⟨[.ref d],[]⟩) (λfin s'=>∃r,fin=.done (.ret r)/\Q r s') E s:=by
 unfold Builtin.«len»;refine Zb (m:=oneArg "len" _) (Zf ?_)
 refine Zb (m:=callSpecial? (.ref d) (ofString "__len__")) (wpAny_callSpecial?_slot (name:=ofString "__len__") hm.typeIs F.slot_dict_len
  (W6 F.slot_dict_len hm.typeIs F.entry_dict_len (F.args_dict_len_1 _) (c7u knd d hd) ⟨kvs,hm,?_⟩))
 show wpAny _ _ _ _ _ { s with toks:=s.toks+1}
 refine Zb (Y7 (Zf ?_));refine Zb (wpAny_letGo ?_)
 show wpAny _ _ (if((kvs.length:Nat):Int)<0 then _ else _) _ _ _
 rw[if_neg qo]
 show wpAny _ _ (if((kvs.length:Nat):Int)>=2^63 then _ else _) _ _ _
 rw[if_neg qo];exact Zb (Si (Zf ⟨_,rfl,h⟩))
end
section
variable{X:Cx}
def mLenD:List V->Hp->VK->Prop:=λvs H Q=>∃(a:Addr)(kvs:List (List Key×V)),vs=[.ref a]/\Rd H a (.dT kvs)/\Q (.int (kvs.length:Int)) H
theorem c6f:a2w X (.builtin "len") mLenD:=by
 intro pins s σ H vs us Q I r h;obtain⟨a,kvs,rfl,ha,k⟩:=h;obtain⟨u,rfl,r1⟩:=vals1 r;cases r1;obtain⟨z,hd,xs,rel,dd⟩:=a9i I.hok ha;have hl:=kt_at rel;have hz:sizeLine<=2^60:=by rw[Yb];decide
 have hf:(xs.length:Int)<2^63:=by
  rw[<-hl];have:(kvs.length:Int)<=2^60:=by exact_mod_cast Xd z hz
  omega
 exact Tm kind_len plain_len entry_len (args_len1 _) (d1h hd dd hf ⟨.int kvs.length,H,I.tok _,⟨_,by rw[hl]⟩,k⟩)
def mIsDT:List V->Hp->VK->Prop:=λvs H Q=>∃(a:Addr)(kvs:List (List Key×V)),vs=[.ref a,.ty "dict"]/\H a=some (.dT kvs)/\Q (.bl true) H
theorem kc_isDT:a2w X (.builtin "isinstance") mIsDT:=by
 intro pins s σ H vs us Q I r h;obtain⟨a,kvs,rfl,ha,k⟩:=h;obtain⟨u,w',rfl,r1,r2⟩:=c1v r;cases r2;exact a7f (x:=.ref a) I r1 (.dT ha) (b0e _ _) λtk=>⟨.bl true,H,I.tok _,rfl,k⟩
end
section
variable{X:Cx}
def mNeSame(K:Frag):R2:=λx y H Q=>∃(a b:Addr)(qs:List Addr),x=.ref a/\y=.ref b/\SqL K H a (qs.map V.ref)/\SqL K H b (qs.map V.ref)/\Q (.bl false) H
theorem b3b:∀{qs:List Addr}{its:List Value},Vals (qs.map V.ref) its->its=qs.map Value.ref
 | [],_,.nil=>rfl
 |q::r,_,.cons h t=>by
  cases h;rw[b3b t];rfl
theorem d1i(K:Frag)(hK:X.K=K)(hu:X.A.units+150<cLine):OpR X (compareOp .NotEq) (mNeSame K):=by
 subst hK;intro pins s σ H x y v u Q I rx ry h;obtain⟨a,b,qs,rfl,rfl,ha,hb,k⟩:=h;cases rx;cases ry;obtain⟨its,rv,p1,_⟩:=I.list ha;obtain⟨its',rv',p2,_⟩:=I.list hb;have e1:=b3b rv;have e2:=b3b rv';subst e1;subst e2;refine Us (e:=λ_=>true) p1.isList p2.isList rfl qo (λj h1 h2=>?_) X.prog X.w _ _ ?_
 ·exact Wj _
 ·rw[show(List.range (qs.map Value.ref).toArray.size).all (λ_=>true)=true by simp];exact⟨.bl false,H,I,rfl,k⟩
end
end L2
namespace My
open PySem PySem.Spec PyProof.Rows L2
mutual
def ord:Trm->List Str->List Str
 | .any x,a=>if x∈a then a else a++[x]
 | .num _,a=>a
 | .app _ ks,a=>ordL ks a
def ordL:List Trm->List Str->List Str
 | [],a=>a
 |k::ks,a=>ordL ks (ord k a)
end
mutual
def vars:Trm->List Str
 | .any x=>[x]
 | .num _=>[]
 | .app _ ks=>a1b ks
def a1b:List Trm->List Str
 | []=>[]
 |k::ks=>vars k++a1b ks
end
theorem b0j:∀(a b:List Trm)(acc:List Str),ordL (a++b) acc=ordL b (ordL a acc)
 | [],b,acc=>by rw[Yx,ordL]
 |k::a,b,acc=>by rw[Yh,ordL,ordL,b0j a b]
theorem c3r(t:Trm)(acc:List Str):ordL [t] acc=ord t acc:=by rw[ordL,ordL]
mutual
theorem c6g:∀(t:Trm)(a:List Str)(x:Str),x∈ord t a↔x∈a\/x∈vars t
 | .any y,a,x=>by
  rw[ord,vars]
  split
  ·rename_i h
   constructor
   ·exact .inl
   ·rintro(z|z)
    ·exact z
    ·rw[Zr.mp z];exact h
  ·rw[Zm]
 | .num _,a,x=>by rw[ord,vars];simp
 | .app _ ks,a,x=>by rw[ord,vars];exact b0k ks a x
theorem b0k:∀(ts:List Trm)(a:List Str)(x:Str),x∈ordL ts a↔x∈a\/x∈a1b ts
 | [],a,x=>by rw[ordL,a1b];simp
 |k::ks,a,x=>by rw[ordL,a1b,b0k ks,c6g k,Zm,or_assoc]
end
mutual
theorem c6h:∀(t:Trm)(a:List Str),a.Nodup->(ord t a).Nodup
 | .any y,a,h=>by
  rw[ord]
  split
  ·exact h
  ·rename_i hy;exact X7.mpr ⟨h,qz,λu hu v hv e=>hy (by rw[<-Zr.mp hv,<-e];exact hu)⟩
 | .num _,a,h=>by rw[ord];exact h
 | .app _ ks,a,h=>by rw[ord];exact a8d ks a h
theorem a8d:∀(ts:List Trm)(a:List Str),a.Nodup->(ordL ts a).Nodup
 | [],a,h=>by rw[ordL];exact h
 |k::ks,a,h=>by rw[ordL];exact a8d ks _ (c6h k a h)
end
mutual
theorem b5c:∀(t:Trm)(a:List Str),(ord t a).length<=a.length+t.size
 | .any y,a=>by
  rw[ord]
  split
  ·omega
  ·rw[Zc];simp[Trm.size]
 | .num _,a=>by rw[ord];omega
 | .app _ ks,a=>by rw[ord];have:=a8e ks a;simp only[Trm.size];omega
theorem a8e:∀(ts:List Trm)(a:List Str),(ordL ts a).length<=a.length+Trm.sizeL ts
 | [],a=>by rw[ordL];omega
 |k::ks,a=>by
  rw[ordL];have h1:=b5c k a;have h2:=a8e ks (ord k a);simp only[Trm.sizeL];omega
end
abbrev As:=List (Str×Str)
def sub(as:As)(x:Str):Str:=((as.find? λr=>decide (r.1=x)).map (·.2)).getD x
theorem mem_idx{u:List Str}{x:Str}(h:x∈u):∃j:Nat,u[j]? =some x:=Wk.mp h
def tn(n:Nat):Str:=⟨(figsOf n).toArray⟩
theorem d4f{u:List Str}(hn:u.Nodup){i:Nat}(hi:i<u.length):u[i]∉u.take i:=λh=>by
 obtain⟨j,hj⟩:=mem_idx h;have hl:=(Zh.mp hj).1;rw[Z5]at hl;rw[Tw qo]at hj;have hj':=Zh.mp hj;have hp:=Wv.mp (List.nodup_iff_pairwise_ne.mp hn) j i hj'.1 hi qo;exact hp hj'.2
theorem d1j{u:List Str}{i:Nat}(hi:i<u.length):(u.map V.str).getD i .non=.str u[i]:=by rw[Zk,Zs,Za hi];rfl
theorem nodL(ts:List Trm):(ordL ts []).Nodup:=a8d ts [] qz
theorem c3s{ts:List Trm}{x:Str}(h:x∈a1b ts):x∈ordL ts []:=(b0k ts [] x).mpr (.inr h)
theorem b9t{ts:List Trm}{t:Trm}(h:t∈ts):∀x∈vars t,x∈a1b ts:=λx hx=>by
 induction ts with
 |nil=>simp at h
 |cons a r ih=>
  rw[a1b,Zm];rcases Zo.mp h with z|z
  ·subst z;exact .inl hx
  ·exact .inr (ih z)
inductive Rw where
 |slot(c s:Nat)
 |same(c s:Nat)
 |num(c:Nat)(n:Int)
 |app(c:Nat)(g:Str)(m f:Nat)
def b5d:Str:=ofString "slot"
def b5e:Str:=ofString "same"
def Rw.data:Rw->PyData
 | .slot c s=>.tuple [.str b5d,.int c,.int s]
 | .same c s=>.tuple [.str b5e,.int c,.int s]
 | .num c n=>.tuple [.str numS,.int c,.int n]
 | .app c g m f=>.tuple [.str appS,.int c,.str g,.int m,.int f]
def Rw.cell:Rw->Nat
 | .slot c _=>c
 | .same c _=>c
 | .num c _=>c
 | .app c _ _ _=>c
mutual
def ta(sl:Str->Nat):Trm->Nat->Nat->List Str->List Rw
 | .num n,c,_,_=>[.num c n]
 | .any x,c,_,met=>[if x∈met then .same c (sl x)else .slot c (sl x)]
 | .app s ks,c,C,met=>.app c s ks.length C::taL sl ks C (C+ks.length) met
def taL(sl:Str->Nat):List Trm->Nat->Nat->List Str->List Rw
 | [],_,_,_=>[]
 |k::ks,c,C,met=>ta sl k c C met++taL sl ks (c+1) (C+(k.size-1)) (ord k met)
end
abbrev Th:=List (Option Rw)
def Ok1(th:Th)(m:List Nat)(r:Rw):Prop:=th[r.cell]? =some none/\match r with
 | .num _ _=>True
 | .slot _ s=>s∉m
 | .same _ s=>s∈m
 | .app _ _ k f=>f=th.length/\k<=4/\f+k<=200
def th1(th:Th)(r:Rw):Th:=match r with
 | .app c _ k _=>th.set c (some r)++List.replicate k none
 | .slot c _=>th.set c (some r)
 | .same c _=>th.set c (some r)
 | .num c _=>th.set c (some r)
def m1(m:List Nat)(r:Rw):List Nat:=match r with
 | .slot _ s=>m++[s]
 |_=>m
def Oks:List Rw->Th->List Nat->Prop
 | [],_,_=>True
 |r::rs,th,m=>Ok1 th m r/\Oks rs (th1 th r) (m1 m r)
def thA(rs:List Rw)(th:Th):Th:=rs.foldl th1 th
def mA(rs:List Rw)(m:List Nat):List Nat:=rs.foldl m1 m
theorem c6i:∀{a b:List Rw}{th:Th}{m:List Nat},Oks a th m->Oks b (thA a th) (mA a m)->Oks (a++b) th m
 | [],_,_,_,_,h=>h
 |r::a,b,th,m,h,h'=>⟨h.1,c6i (a:=a) h.2 h'⟩
theorem a9v(a b:List Rw)(th:Th):thA (a++b) th=thA b (thA a th):=V0
theorem d1k(a b:List Rw)(m:List Nat):mA (a++b) m=mA b (mA a m):=V0
def Kept(th th':Th):Prop:=∀(j:Nat)(r:Rw),th[j]? =some (some r)->th'[j]? =some (some r)
theorem Kept.trans{a b c:Th}(h:Kept a b)(g:Kept b c):Kept a c:=λj r e=>g j r (h j r e)
theorem b3c{th:Th}{c:Nat}{r:Rw}(h:th[c]? =some none):Kept th (th.set c (some r)):=λj r' e=>by
 rw[Xe (λz=>by rw[z,e]at h;cases h)];exact e
theorem d4g{th:Th}{m:List Nat}{r:Rw}(h:Ok1 th m r):Kept th (th1 th r):=by
 have h1:=h.1;cases r with
 |slot c s=>exact b3c h1
 |same c s=>exact b3c h1
 |num c n=>exact b3c h1
 |app c g k f=>
  intro j r' e;have hj:=(Zh.mp e).1
  show(th.set c (some (.app c g k f))++List.replicate k none)[j]? =_
  rw[Yl (by rw[Yi];exact hj)];exact b3c h1 j r' e
theorem b6g:∀{rs:List Rw}{th:Th}{m:List Nat},Oks rs th m->Kept th (thA rs th)
 | [],_,_,_=>λ_ _ e=>e
 |r::rs,th,m,h=>(d4g h.1).trans (b6g (rs:=rs) h.2)
mutual
def Bt(sl:Str->Nat)(th:Th):Trm->Nat->Prop
 | .num n,c=>th[c]? =some (some (.num c n))
 | .any x,c=>th[c]? =some (some (.slot c (sl x)))\/th[c]? =some (some (.same c (sl x)))
 | .app s ks,c=>∃f,th[c]? =some (some (.app c s ks.length f))/\BtL sl th ks f
def BtL(sl:Str->Nat)(th:Th):List Trm->Nat->Prop
 | [],_=>True
 |k::ks,c=>Bt sl th k c/\BtL sl th ks (c+1)
end
mutual
theorem Bt.mono{sl:Str->Nat}{th th':Th}(h:Kept th th'):∀{t:Trm}{c:Nat},Bt sl th t c->Bt sl th' t c
 | .num n,c,b=>by rw[Bt]at b ⊢;exact h _ _ b
 | .any x,c,b=>by
  rw[Bt]at b ⊢;rcases b with b|b
  ·exact .inl (h _ _ b)
  ·exact .inr (h _ _ b)
 | .app s ks,c,b=>by
  rw[Bt]at b ⊢;obtain⟨f,b1,b2⟩:=b;exact⟨f,h _ _ b1,BtL.mono h b2⟩
theorem BtL.mono{sl:Str->Nat}{th th':Th}(h:Kept th th'):∀{ks:List Trm}{c:Nat},BtL sl th ks c->BtL sl th' ks c
 | [],c,b=>by rw[BtL];trivial
 |k::ks,c,b=>by
  rw[BtL]at b ⊢;exact⟨Bt.mono h b.1,BtL.mono h b.2⟩
end
theorem Bt.some{sl:Str->Nat}{th:Th}:∀{t:Trm}{c:Nat},Bt sl th t c->∃r,th[c]? =some (some r)
 | .num n,c,b=>by rw[Bt]at b;exact⟨_,b⟩
 | .any x,c,b=>by
  rw[Bt]at b;rcases b with b|b
  ·exact⟨_,b⟩
  ·exact⟨_,b⟩
 | .app s ks,c,b=>by
  rw[Bt]at b;obtain⟨f,b1,_⟩:=b;exact⟨_,b1⟩
mutual
def ar4:Trm->Prop
 | .num _=>True
 | .any _=>True
 | .app _ ks=>ks.length<=4/\ar4L ks
def ar4L:List Trm->Prop
 | []=>True
 |k::ks=>ar4 k/\ar4L ks
end
def InjN(sl:Str->Nat)(S:List Str):Prop:=∀x∈S,∀y∈S,sl x=sl y->x=y
theorem d1l{sl:Str->Nat}{S met:List Str}(hi:InjN sl S)(hm:∀x∈met,x∈S){x:Str}(hx:x∈S):sl x∈met.map sl↔x∈met:=by
 constructor
 ·intro h;obtain⟨y,hy,e⟩:=Z3.mp h;rw[<-hi y (hm y hy) x hx e];exact hy
 ·exactλh=>Z3.mpr ⟨x,h,rfl⟩
structure Rd(sl:Str->Nat)(rs:List Rw)(th:Th)(met met':List Str)(n:Nat):Prop where
 ok:Oks rs th (met.map sl)
 mt:mA rs (met.map sl)=met'.map sl
 len:(thA rs th).length=n
 new:∀j,th.length<=j->j<n->∃r,(thA rs th)[j]? =some (some r)
mutual
theorem rd_t(sl:Str->Nat)(S:List Str)(hi:InjN sl S):∀(t:Trm)(c:Nat)(met:List Str)(th:Th),th[c]? =some none->ar4 t->th.length+(t.size-1)<=200->(∀x∈met,x∈S)->(∀x∈vars t,x∈S)->
  Rd sl (ta sl t c th.length met) th met (ord t met) (th.length+(t.size-1))/\(∀j,j<th.length->j≠c->(thA (ta sl t c th.length met) th)[j]? =th[j]?)/\Bt sl (thA (ta sl t c th.length met) th) t c
 | .num n,c,met,th,h,ha,hz,hm,hv=>by
  have hc:=(Zh.mp h).1;rw[ta,ord,Bt];refine⟨⟨⟨⟨h,trivial⟩,trivial⟩,rfl,?_,λj h1 h2=>?_⟩,λj _ hj=>?_,?_⟩
  ·show(th.set c _).length=_
   rw[Yi];simp[Trm.size]
  ·simp only[Trm.size]at h2;omega
  ·show(th.set c _)[j]? =_
   rw[Xe (Ne.symm hj)]
  ·show(th.set c _)[c]? =_
   rw[Y8 hc]
 | .any x,c,met,th,h,ha,hz,hm,hv=>by
  have hc:=(Zh.mp h).1;have hx:x∈S:=hv x (by simp[vars]);rw[ta,ord,Bt]
  by_cases hxm:x∈met
  ·rw[if_pos hxm,if_pos hxm];refine⟨⟨⟨⟨h,(d1l hi hm hx).mpr hxm⟩,trivial⟩,rfl,?_,λj h1 h2=>?_⟩,λj _ hj=>?_,.inr ?_⟩
   ·show(th.set c _).length=_
    rw[Yi];simp[Trm.size]
   ·simp only[Trm.size]at h2;omega
   ·show(th.set c _)[j]? =_
    rw[Xe (Ne.symm hj)]
   ·show(th.set c _)[c]? =_
    rw[Y8 hc]
  ·rw[if_neg hxm,if_neg hxm];refine⟨⟨⟨⟨h,λz=>hxm ((d1l hi hm hx).mp z)⟩,trivial⟩,?_,?_,λj h1 h2=>?_⟩,λj _ hj=>?_,.inl ?_⟩
   ·show met.map sl++[sl x]=_
    rw[Zn];rfl
   ·show(th.set c _).length=_
    rw[Yi];simp[Trm.size]
   ·simp only[Trm.size]at h2;omega
   ·show(th.set c _)[j]? =_
    rw[Xe (Ne.symm hj)]
   ·show(th.set c _)[c]? =_
    rw[Y8 hc]
 | .app s ks,c,met,th,h,ha,hz,hm,hv=>by
  have hc:=(Zh.mp h).1;rw[ar4]at ha;simp only[Trm.size]at hz;have zl:=Trm.len_le ks;have e1:(th1 th (.app c s ks.length th.length)).length=th.length+ks.length:=by
   show(th.set c _++List.replicate _ _).length=_
   rw[Zc,Yi,Yc]
  have hnone:∀j,j<ks.length->(th1 th (.app c s ks.length th.length))[th.length+j]? =some none:=λj hj=>by
   show(th.set c _++List.replicate _ _)[_]? =_
   rw[Yy (by rw[Yi];omega),Yi,Wc,if_pos qo]
  have ih:=rd_L sl S hi ks th.length met (th1 th (.app c s ks.length th.length)) (by rw[e1];omega) hnone ha.2 (by rw[e1];omega) hm (by simpa only[vars]using hv);rw[e1]at ih;obtain⟨r,k,b⟩:=ih;have hok:Ok1 th (met.map sl) (.app c s ks.length th.length):=⟨h,rfl,ha.1,qo⟩;have keep:=b6g r.ok;have hself:(th1 th (.app c s ks.length th.length))[c]? =some (some (.app c s ks.length th.length)):=by
   show(th.set c _++List.replicate _ _)[_]? =_
   rw[Yl (by rw[Yi];exact hc),Y8 hc]
  rw[ta,ord,Bt];refine⟨⟨⟨hok,r.ok⟩,r.mt,?_,λj h1 h2=>?_⟩,λj hj hjc=>?_,_,keep _ _ hself,b⟩
  ·show(thA _ (th1 th _)).length=_
   rw[r.len];simp only[Trm.size];omega
  ·simp only[Trm.size]at h2
   show ∃r',(thA _ (th1 th _))[j]? =_
   by_cases hjk:j<th.length+ks.length
   ·obtain⟨j',rfl⟩:∃j',j=th.length+j':=⟨j-th.length,qo⟩;exact b6h b j' qo
   ·exact r.new j (by rw[e1];omega) qo
  ·show(thA _ (th1 th _))[j]? =_
   rw[k j qo (.inl hj)]
   show(th.set c _++List.replicate _ _)[_]? =_
   rw[Yl (by rw[Yi];exact hj),Xe (Ne.symm hjc)]
theorem rd_L(sl:Str->Nat)(S:List Str)(hi:InjN sl S):∀(ks:List Trm)(c:Nat)(met:List Str)(th:Th),c+ks.length<=th.length->(∀j,j<ks.length->th[c+j]? =some none)->ar4L ks->th.length+(Trm.sizeL ks-ks.length)<=200->(∀x∈met,x∈S)->(∀x∈a1b ks,x∈S)->
  Rd sl (taL sl ks c th.length met) th met (ordL ks met) (th.length+(Trm.sizeL ks-ks.length))/\(∀j,j<th.length->(j<c\/c+ks.length<=j)->(thA (taL sl ks c th.length met) th)[j]? =th[j]?)/\BtL sl (thA (taL sl ks c th.length met) th) ks c
 | [],c,met,th,h0,h,ha,hz,hm,hv=>by
  rw[taL,ordL,BtL];refine⟨⟨trivial,rfl,by simp[thA,Trm.sizeL],λj h1 h2=>?_⟩,λj _ _=>rfl,trivial⟩;simp only[Trm.sizeL,length_nil]at h2;omega
 |k::ks,c,met,th,h0,h,ha,hz,hm,hv=>by
  rw[ar4L]at ha;simp only[Trm.sizeL,length_cons]at hz h0;have kp:=k.size_pos;have zl:=Trm.len_le ks;have hv1:∀x∈vars k,x∈S:=λx hx=>hv x (by rw[a1b];exact Zm.mpr (.inl hx))
  have hv2:∀x∈a1b ks,x∈S:=λx hx=>hv x (by rw[a1b];exact Zm.mpr (.inr hx))
  obtain⟨r1,k1,b1⟩:=rd_t sl S hi k c met th (by have:=h 0 qz;simpa using this) ha.1 qo hm hv1
  have ih:=rd_L sl S hi ks (c+1) (ord k met) (thA (ta sl k c th.length met) th) (by rw[r1.len];omega) (λj hj=>by
   rw[k1 _ qo qo];have:=h (j+1) (by simp;omega);rw[show c+1+j=c+(j+1) by omega];exact this) ha.2 (by rw[r1.len];omega) (λx hx=>by
   rcases(c6g k met x).mp hx with z|z
   ·exact hm x z
   ·exact hv1 x z) hv2
  rw[r1.len]at ih;obtain⟨r2,k2,b2⟩:=ih;rw[taL,ordL,BtL];have keep:=b6g (show Oks (taL sl ks (c+1) (th.length+(k.size-1)) (ord k met)) (thA (ta sl k c th.length met) th) _ from r2.ok);refine⟨⟨c6i r1.ok (by rw[r1.mt];exact r2.ok),?_,?_,λj h1 h2=>?_⟩,λj hj hc=>?_,?_,?_⟩
  ·rw[d1k,r1.mt,r2.mt]
  ·rw[a9v,r2.len];simp only[Trm.sizeL,length_cons];omega
  ·rw[a9v];simp only[Trm.sizeL,length_cons]at h2
   by_cases hjk:j<th.length+(k.size-1)
   ·obtain⟨r,e⟩:=r1.new j h1 hjk;exact⟨r,keep _ _ e⟩
   ·exact r2.new j (by rw[r1.len];omega) qo
  ·simp only[length_cons]at hc;rw[a9v,k2 j qo qo,k1 j hj qo]
  ·rw[a9v];exact b1.mono keep
  ·rw[a9v];exact b2
theorem b6h{sl:Str->Nat}{th:Th}:∀{ks:List Trm}{c:Nat},BtL sl th ks c->∀j,j<ks.length->∃r,th[c+j]? =some (some r)
 | [],c,b,j,hj=>by simp at hj
 |k::ks,c,b,j,hj=>by
  rw[BtL]at b;cases j with
  |zero=>exact b.1.some
  |succ j=>
   obtain⟨r,e⟩:=b6h b.2 j (by simpa using hj);exact⟨r,by rw[show c+(j+1)=c+1+j by omega];exact e⟩
end
mutual
def byD(sl:Str->Nat):Trm->PyData
 | .num n=>.tuple [.str numS,.int n]
 | .any x=>.tuple [.str anyS,.int (sl x)]
 | .app s ks=>.tuple [.str appS,.str s,.tuple (byL sl ks)]
def byL(sl:Str->Nat):List Trm->List PyData
 | []=>[]
 |k::ks=>byD sl k::byL sl ks
end
theorem a6i(sl:Str->Nat):∀ks:List Trm,byL sl ks=ks.map (byD sl)
 | []=>by rw[byL];rfl
 |k::ks=>by rw[byL,a6i sl ks];rfl
local macro_rules | `(tactic| walk_at "r") => `(tactic| first | decide | exact Zg _ | exact Nat.le_add_left_of_le qd | omega)
local macro_rules | `(tactic| walk_at "or1") => `(tactic| first | exact Or.inl rfl | exact Or.inr rfl)
local macro_rules | `(tactic| walk_at "q") => `(tactic| first | refine tAsg_v (fun _ _ => ?_) | apply c5w | apply tRet_i | refine tIfS_v (fun _ _ => ?_) | apply c5v | apply tDrop_i | apply mTest_i | apply mTrue_i | apply mTru_b | apply mB_i | apply tOp_i | apply tUn_i | apply mUn_i | apply m20_i | apply mAdd_i | apply mEq_i | apply mEq_s | apply mEq_b | apply mInS_i | (refine' c2x ?hv ?_; (case hv => with_unfolding_all rfl)) | apply tC_i | apply d3j | apply mAndV_i | apply mOrV_i | apply mNotV_i | apply tIf_i | apply tAnd_i | apply tOr_i | apply tNot_i | apply tCB_i | apply d3k | apply tCons_i | apply tNil_i | apply tBM_i | apply tBM0_i | apply tTup_i | apply tLst_i | apply tSl_i | apply d0b | apply mPart_i | apply mI_i | apply is_str | apply is_int | apply c5a | apply mMin_i | apply isN_non | apply isN_ref | apply mInt_b | apply tDGet_i | apply d3n | apply sDPut_i | apply tDisp_i | apply d3o | apply d3p | apply iRng2_i | apply iRev_i | apply iEnum_i | apply d0o | apply gCons_i | apply gNil_i | apply d3l | (refine' mAug_i ?hw ?_; (case hw => with_unfolding_all rfl)) | apply mIAdd_i | apply tFor_i | apply c7q | apply tMeth_i | apply tFld_i | apply sFld_i | apply d0x | apply tMake_i | apply d4a | apply d0o | apply iStr_i | apply iList_i | apply iTup_i | apply iRng1_i | apply tComp_i | refine a5y (by assumption) ?_ | (refine m2_i ?hc ?_; (case hc => first | (show (0 : Int) < _; decide) | exact cdiv_i qd qd)))
local macro_rules | `(tactic| walk_at "s") => `(tactic| repeat (with_reducible first | refine tSeq_v (fun _ _ => ?_) | walk_at "q"))
local macro_rules | `(tactic| walk_at "A") => `(tactic| (walk_at "s"; walk_at "iF"; walk_at "s"))
local macro_rules | `(tactic| walk_at "B") => `(tactic| (walk_at "s"; walk_at "iT"; walk_at "s"))
local macro_rules | `(tactic| walk_at "C") => `(tactic| (walk_at "iF"; walk_at "s"))
local macro_rules | `(tactic| walk_at "D") => `(tactic| (walk_at "iT"; walk_at "s"))
local macro_rules | `(tactic| walk_at "m") => `(tactic| repeat (with_reducible walk_at "q"))
noncomputable def top(i:Nat):Stmt:=PySem.Challenge.pw_goaltrail_k45_whole_code_is_the_program.main.body.getD i (.Pass ⟨0,0,0,0⟩)
abbrev a8f:Stmt:=inClass (top 21) 0
abbrev a7q:Stmt:=inClass (top 21) 1
abbrev a4y:Stmt:=inClass (top 21) 2
abbrev a4z:Stmt:=inClass (top 21) 3
abbrev a5a:Stmt:=inClass (top 21) 4
abbrev a4r:Stmt:=inClass (top 21) 5
abbrev a7r:Stmt:=inClass (top 21) 6
abbrev a5b:Stmt:=inClass (top 21) 7
abbrev b3d:Stmt:=top 5
abbrev a8m:Stmt:=top 6
abbrev b4c:Stmt:=top 7
abbrev a8x:Stmt:=top 9
abbrev b3e:Stmt:=top 13
abbrev b4d:Stmt:=top 14
abbrev b6i:Stmt:=top 16
abbrev b1h:Stmt:=top 17
abbrev b1i:Stmt:=top 18
abbrev b1j:Stmt:=top 22
abbrev b4e:Stmt:=top 23
abbrev b4f:Stmt:=top 25
abbrev b4g:Stmt:=top 26
abbrev b1k:Stmt:=top 27
abbrev a8y:Stmt:=top 28
abbrev b9u:Stmt:=top 29
abbrev b4h:Stmt:=top 30
abbrev a4s:Stmt:=top 31
abbrev a7s:Stmt:=top 32
abbrev a8z:Stmt:=top 33
abbrev a9a:Stmt:=top 34
abbrev a9b:Stmt:=top 35
abbrev a6j:Stmt:=top 36
abbrev a9c:Stmt:=top 37
abbrev a8g:Stmt:=top 38
abbrev a9d:Stmt:=top 39
abbrev a6y:Stmt:=top 40
abbrev b0t:Stmt:=top 41
abbrev a7t:Stmt:=top 42
abbrev b0l:Stmt:=top 43
abbrev b3f:Stmt:=top 44
abbrev b0u:Stmt:=top 45
abbrev b0v:Stmt:=top 46
abbrev a9e:Stmt:=top 47
abbrev a6k:Stmt:=top 48
abbrev b3g:Stmt:=top 49
abbrev b9v:Stmt:=top 50
abbrev b3h:Stmt:=top 51
abbrev b0w:Stmt:=top 52
abbrev b0x:Stmt:=top 53
abbrev s_law:Stmt:=top 54
theorem b0y:a0w ["self","terms","name"] ["self","terms"] (a0o a8f):=qn
theorem b6j:a0w ["self","row"] ["self","row"] (a0o a7q):=qn
theorem a7i:a0w ["self","many","first"] ["self","many"] (a0o a4y):=qn
theorem a4t:a0w ["self","head","cell","kid"] ["self","head"] (a0o a4z):=qn
theorem a3r:a0w ["self","cell","term","first","place","kid"] ["self","cell","term"] (a0o a5a):=qn
theorem a6w:a0w ["self","name"] ["self"] (a0o a4r):=qn
theorem a5c:a0w ["self","cell","term","first","place","kid"] ["self","cell","term"] (a0o a7r):=qn
theorem a3s:a0w ["self","goal","call","asked","cell","kid"] ["self","goal","call"] (a0o a5b):=qn
theorem c5e:a0w ["sign"] ["sign"] (a0o b3d):=qn
theorem c3t:a0w ["text","firsts"] ["text","firsts"] (a0o a8m):=qn
theorem c7v:a0w ["text"] ["text"] (a0o b4c):=qn
theorem a6l:a0w ["terms","found","todo","part"] ["terms"] (a0o a8x):=qn
theorem c5f:a0w ["term"] ["term"] (a0o b3e):=qn
theorem c7w:a0w ["goal"] ["goal"] (a0o b4d):=qn
theorem d1m:a0w ["term"] ["term"] (a0o b6i):=qn
theorem c3u:a0w ["head"] ["head"] (a0o b1h):=qn
theorem a2i:a0w ["heads","keys","others","whole","place","head","bit","key","known"] ["heads"] (a0o b1i):=qn
theorem b0m:a0w ["number","rule","writing","goal"] ["number","rule"] (a0o b1j):=qn
theorem a4l:a0w ["rules","codes","heads","place","rule","key","found"] ["rules"] (a0o b4e):=qn
theorem c7x:a0w ["_law_found"] ["_law_found"] (a0o b4f):=qn
theorem b8e:a0w ["_law_left","_law_many","_law_found"] ["_law_left","_law_many"] (a0o b4g):=qn
theorem c3v:a0w ["_law_script","_law_k"] ["_law_script","_law_k"] (a0o b1k):=qn
theorem a4e:a0w ["_law_left","_law_first","_law_small","_law_some","_law_word","_law_k"] ["_law_left","_law_first"] (a0o a8y):=qn
theorem a7a:a0w ["_law_script","_law_k","_law_cell","_law_number","_law_big_here","_law_j"] ["_law_script","_law_k"] (a0o b9u):=qn
theorem c7y:a0w ["_law_script","_law_k"] ["_law_script","_law_k"] (a0o b4h):=qn
theorem a5o:a0w ["_law_script","_law_kinds","_law_left","_law_words"] ["_law_script","_law_kinds"] (a0o a4s):=qn
theorem b6k:a0w ["_law_left"] ["_law_left"] (a0o a7s):=qn
theorem a6m:a0w ["_law_left","_law_mark","_law_k"] ["_law_left"] (a0o a8z):=qn
theorem b1w:a0w ["_law_left","_law_many","_law_words","_law_way"] ["_law_left","_law_many","_law_words"] (a0o a9a):=qn
theorem a4u:a0w ["_law_left","_law_many","_law_room","_law_names","_law_kids","_law_k","_law_kid"] ["_law_left","_law_many","_law_room","_law_names"] (a0o a9b):=qn
theorem b8f:a0w ["_law_term"] ["_law_term"] (a0o a6j):=qn
theorem a6n:a0w ["_law_left","_law_room","_law_names","_law_way","_law_many"] ["_law_left","_law_room","_law_names"] (a0o a9c):=qn
theorem a4m:a0w ["_law_left","_law_room","_law_names","_law_at","_law_many"] ["_law_left","_law_room","_law_names"] (a0o a8g):=qn
theorem b1x:a0w ["_law_left","_law_room","_law_names","_law_deeds","_law_way"] ["_law_left","_law_room","_law_names","_law_deeds"] (a0o a9d):=qn
theorem a6o:a0w ["_law_cell","_law_most","_law_room","_law_names","_law_deeds","_law_left","_law_head_here","_law_goals"] ["_law_cell","_law_most","_law_room","_law_names","_law_deeds"] (a0o a6y):=qn
theorem a9m:a0w ["_law_terms","_law_slots_here","_law_due","_law_term"] ["_law_terms"] (a0o b0t):=qn
theorem c1p:a0w ["_law_term","_law_slots_here"] ["_law_term","_law_slots_here"] (a0o a7t):=qn
theorem a5e:a0w ["_law_rows","_law_sizes","_law_row","_law_k","_law_sign"] ["_law_rows"] (a0o b0l):=qn
theorem a4w:a0w ["_law_rows","_law_many","_law_there","_law_cell","_law_at","_law_row"] ["_law_rows","_law_many"] (a0o b3f):=qn
theorem b8g:a0w ["_law_there","_law_cell","_law_row"] ["_law_there","_law_cell"] (a0o b0u):=qn
theorem c7z:a0w ["_law_cells","_law_first","_law_many"] ["_law_cells","_law_first","_law_many"] (a0o b0v):=qn
theorem a3g:a0w ["_law_rows","_law_at","_law_deeds","_law_cells","_law_row","_law_goal"] ["_law_rows","_law_at"] (a0o a9e):=qn
theorem a2a:a0w ["_law_found","_law_number","_law_head_here","_law_goals","_law_slots_here","_law_rows","_law_seen","_law_at","_law_many","_law_goal","_law_due"] ["_law_found","_law_number","_law_head_here","_law_goals"] (a0o a6k):=qn
theorem d1n:a0w ["_law_slots_here","_law_many"] ["_law_slots_here","_law_many"] (a0o b3g):=qn
theorem c3w:a0w ["_law_head_here","_law_kid"] ["_law_head_here"] (a0o b9v):=qn
theorem a4c:a0w ["_law_heads","_law_keys","_law_head_here","_law_others","_law_k","_law_key_here","_law_known"] ["_law_heads"] (a0o b3h):=qn
theorem a3y:a0w ["_law_found","_law_rules_here","_law_words","_law_k","_law_head_here","_law_word","_law_places","_law_codes","_law_switch_here"] ["_law_found","_law_rules_here"] (a0o b0w):=qn
theorem a2e:a0w ["_law_script","_law_kinds","_law_last","_law_facts","_law_room","_law_left","_law_many","_law_names","_law_deeds","_law_rules_here","_law_k"] ["_law_script"] (a0o b0x):=qn
theorem b4i:a0w ["_law_script","_law_rules_here","_law_stored","_law_found","_law_word"] ["_law_script"] (a0o s_law):=qn
set_option genInjectivity false in
structure Ad where
 k_a0:Addr
 a_f0:Addr
 d_f0:FuncData
 a_a2:Addr
 d_a2:FuncData
 a_a4:Addr
 d_a4:FuncData
 a_e7:Addr
 d_e7:FuncData
 a_c0:Addr
 d_c0:FuncData
 a_e8:Addr
 d_e8:FuncData
 a_b9:Addr
 d_b9:FuncData
 a_c6:Addr
 d_c6:FuncData
 a_c8:Addr
 d_c8:FuncData
 a_e0:Addr
 d_e0:FuncData
 a_e5:Addr
 d_e5:FuncData
 a_c7:Addr
 d_c7:FuncData
 a_b3:Addr
 d_b3:FuncData
 a_d6:Addr
 d_d6:FuncData
 a_d7:Addr
 d_d7:FuncData
 a_d9:Addr
 d_d9:FuncData
 a_d1:Addr
 d_d1:FuncData
 a_e1:Addr
 d_e1:FuncData
 a_b5:Addr
 d_b5:FuncData
 a_a9:Addr
 d_a9:FuncData
 a_a1:Addr
 d_a1:FuncData
 a_a5:Addr
 d_a5:FuncData
 a_c2:Addr
 d_c2:FuncData
 a_b6:Addr
 d_b6:FuncData
 a_b1:Addr
 d_b1:FuncData
 a_d8:Addr
 d_d8:FuncData
 a_c4:Addr
 d_c4:FuncData
 a_e3:Addr
 d_e3:FuncData
 a_c5:Addr
 d_c5:FuncData
 a_a6:Addr
 d_a6:FuncData
 a_a7:Addr
 d_a7:FuncData
 a_c1:Addr
 d_c1:FuncData
 a_b0:Addr
 d_b0:FuncData
 a_e4:Addr
 d_e4:FuncData
 a_e2:Addr
 d_e2:FuncData
 a_c3:Addr
 d_c3:FuncData
 a_a8:Addr
 d_a8:FuncData
 a_d5:Addr
 d_d5:FuncData
 a_d4:Addr
 d_d4:FuncData
 a_b2:Addr
 d_b2:FuncData
 a_b4:Addr
 d_b4:FuncData
 a_d3:Addr
 d_d3:FuncData
 a_c9:Addr
 d_c9:FuncData
 a_d2:Addr
 d_d2:FuncData
 a_b8:Addr
 d_b8:FuncData
 a_e6:Addr
 d_e6:FuncData
 a_b7:Addr
 d_b7:FuncData
 a_d0:Addr
 d_d0:FuncData
 a_law:Addr
 d_law:FuncData
 t_f6:Tok
 t_f8:Tok
 c_f4:Addr
 t_f9:Tok
 t_g2:Tok
 t_g3:Tok
 t_g4:Tok
structure Txt(K:W.Frag)(mg:Str->Option Value)(t:Ad):Prop where
 m_a0:mg "Writing"=some (.ref t.k_a0)
 cl_a0:Cls K t.k_a0
 no_a0_slots:a2y K t.k_a0 "slots"
 no_a0_met:a2y K t.k_a0 "met"
 no_a0_cells:a2y K t.k_a0 "cells"
 no_a0_rows:a2y K t.k_a0 "rows"
 mk_a0:Mk K t.k_a0 t.a_f0
 me_a2:Meth K t.k_a0 "write" t.a_a2
 me_a4:Meth K t.k_a0 "give_cells" t.a_a4
 me_e7:Meth K t.k_a0 "write_head" t.a_e7
 me_c0:Meth K t.k_a0 "take_apart" t.a_c0
 me_e8:Meth K t.k_a0 "write_frame" t.a_e8
 me_b9:Meth K t.k_a0 "bring" t.a_b9
 me_c6:Meth K t.k_a0 "write_goal" t.a_c6
 F_f0:Fun K "__init__" "Writing.__init__" a8f t.a_f0 t.d_f0
 b_f0:Binds K t.d_f0 ["self","terms"] []
 F_a2:Fun K "write" "Writing.write" a7q t.a_a2 t.d_a2
 b_a2:Binds K t.d_a2 ["self","row"] []
 F_a4:Fun K "give_cells" "Writing.give_cells" a4y t.a_a4 t.d_a4
 b_a4:Binds K t.d_a4 ["self","many"] []
 F_e7:Fun K "write_head" "Writing.write_head" a4z t.a_e7 t.d_e7
 b_e7:Binds K t.d_e7 ["self","head"] []
 F_c0:Fun K "take_apart" "Writing.take_apart" a5a t.a_c0 t.d_c0
 b_c0:Binds K t.d_c0 ["self","cell","term"] []
 F_e8:Fun K "write_frame" "Writing.write_frame" a4r t.a_e8 t.d_e8
 b_e8:Binds K t.d_e8 ["self"] []
 F_b9:Fun K "bring" "Writing.bring" a7r t.a_b9 t.d_b9
 b_b9:Binds K t.d_b9 ["self","cell","term"] []
 F_c6:Fun K "write_goal" "Writing.write_goal" a5b t.a_c6 t.d_c6
 b_c6:Binds K t.d_c6 ["self","goal","call"] []
 F_c8:Fun K "is_inner" "is_inner" b3d t.a_c8 t.d_c8
 b_c8:Binds K t.d_c8 ["sign"] []
 m_c8:mg "is_inner"=some (.ref t.a_c8)
 F_e0:Fun K "is_called" "is_called" a8m t.a_e0 t.d_e0
 b_e0:Binds K t.d_e0 ["text","firsts"] []
 m_e0:mg "is_called"=some (.ref t.a_e0)
 F_e5:Fun K "is_word" "is_word" b4c t.a_e5 t.d_e5
 b_e5:Binds K t.d_e5 ["text"] []
 m_e5:mg "is_word"=some (.ref t.a_e5)
 F_c7:Fun K "unknowns_of" "unknowns_of" a8x t.a_c7 t.d_c7
 b_c7:Binds K t.d_c7 ["terms"] []
 m_c7:mg "unknowns_of"=some (.ref t.a_c7)
 F_b3:Fun K "is_named" "is_named" b3e t.a_b3 t.d_b3
 b_b3:Binds K t.d_b3 ["term"] []
 m_b3:mg "is_named"=some (.ref t.a_b3)
 F_d6:Fun K "word_of" "word_of" b4d t.a_d6 t.d_d6
 b_d6:Binds K t.d_d6 ["goal"] []
 m_d6:mg "word_of"=some (.ref t.a_d6)
 F_d7:Fun K "key_of" "key_of" b6i t.a_d7 t.d_d7
 b_d7:Binds K t.d_d7 ["term"] []
 m_d7:mg "key_of"=some (.ref t.a_d7)
 F_d9:Fun K "first_key" "first_key" b1h t.a_d9 t.d_d9
 b_d9:Binds K t.d_d9 ["head"] []
 m_d9:mg "first_key"=some (.ref t.a_d9)
 F_d1:Fun K "switch_of" "switch_of" b1i t.a_d1 t.d_d1
 b_d1:Binds K t.d_d1 ["heads"] []
 m_d1:mg "switch_of"=some (.ref t.a_d1)
 F_e1:Fun K "rule_code" "rule_code" b1j t.a_e1 t.d_e1
 b_e1:Binds K t.d_e1 ["number","rule"] []
 m_e1:mg "rule_code"=some (.ref t.a_e1)
 F_b5:Fun K "code_of" "code_of" b4e t.a_b5 t.d_b5
 b_b5:Binds K t.d_b5 ["rules"] []
 m_b5:mg "code_of"=some (.ref t.a_b5)
 F_a9:Fun K "_law_whole" "_law_whole" b4f t.a_a9 t.d_a9
 b_a9:Binds K t.d_a9 ["_law_found"] []
 m_a9:mg "_law_whole"=some (.ref t.a_a9)
 F_a1:Fun K "_law_digit" "_law_digit" b4g t.a_a1 t.d_a1
 b_a1:Binds K t.d_a1 ["_law_left","_law_many"] []
 m_a1:mg "_law_digit"=some (.ref t.a_a1)
 F_a5:Fun K "_law_cell_at" "_law_cell_at" b1k t.a_a5 t.d_a5
 b_a5:Binds K t.d_a5 ["_law_script","_law_k"] []
 m_a5:mg "_law_cell_at"=some (.ref t.a_a5)
 F_c2:Fun K "_law_free_word" "_law_free_word" a8y t.a_c2 t.d_c2
 b_c2:Binds K t.d_c2 ["_law_left","_law_first"] []
 m_c2:mg "_law_free_word"=some (.ref t.a_c2)
 F_b6:Fun K "_law_big" "_law_big" b9u t.a_b6 t.d_b6
 b_b6:Binds K t.d_b6 ["_law_script","_law_k"] []
 m_b6:mg "_law_big"=some (.ref t.a_b6)
 F_b1:Fun K "_law_drawn" "_law_drawn" b4h t.a_b1 t.d_b1
 b_b1:Binds K t.d_b1 ["_law_script","_law_k"] []
 m_b1:mg "_law_drawn"=some (.ref t.a_b1)
 F_d8:Fun K "_law_free_words" "_law_free_words" a4s t.a_d8 t.d_d8
 b_d8:Binds K t.d_d8 ["_law_script","_law_kinds"] []
 m_d8:mg "_law_free_words"=some (.ref t.a_d8)
 F_c4:Fun K "_law_free_number" "_law_free_number" a7s t.a_c4 t.d_c4
 b_c4:Binds K t.d_c4 ["_law_left"] []
 m_c4:mg "_law_free_number"=some (.ref t.a_c4)
 F_e3:Fun K "_law_free_mark" "_law_free_mark" a8z t.a_e3 t.d_e3
 b_e3:Binds K t.d_e3 ["_law_left"] []
 m_e3:mg "_law_free_mark"=some (.ref t.a_e3)
 F_c5:Fun K "_law_free_sign" "_law_free_sign" a9a t.a_c5 t.d_c5
 b_c5:Binds K t.d_c5 ["_law_left","_law_many","_law_words"] []
 m_c5:mg "_law_free_sign"=some (.ref t.a_c5)
 F_a6:Fun K "_law_free_kids" "_law_free_kids" a9b t.a_a6 t.d_a6
 b_a6:Binds K t.d_a6 ["_law_left","_law_many","_law_room","_law_names"] []
 m_a6:mg "_law_free_kids"=some (.ref t.a_a6)
 F_a7:Fun K "_law_free_parts" "_law_free_parts" a6j t.a_a7 t.d_a7
 b_a7:Binds K t.d_a7 ["_law_term"] []
 m_a7:mg "_law_free_parts"=some (.ref t.a_a7)
 F_c1:Fun K "_law_free_term" "_law_free_term" a9c t.a_c1 t.d_c1
 b_c1:Binds K t.d_c1 ["_law_left","_law_room","_law_names"] []
 m_c1:mg "_law_free_term"=some (.ref t.a_c1)
 F_b0:Fun K "_law_free_named" "_law_free_named" a8g t.a_b0 t.d_b0
 b_b0:Binds K t.d_b0 ["_law_left","_law_room","_law_names"] []
 m_b0:mg "_law_free_named"=some (.ref t.a_b0)
 F_e4:Fun K "_law_free_goal" "_law_free_goal" a9d t.a_e4 t.d_e4
 b_e4:Binds K t.d_e4 ["_law_left","_law_room","_law_names","_law_deeds"] []
 m_e4:mg "_law_free_goal"=some (.ref t.a_e4)
 F_e2:Fun K "_law_free_rule" "_law_free_rule" a6y t.a_e2 t.d_e2
 b_e2:Binds K t.d_e2 ["_law_cell","_law_most","_law_room","_law_names","_law_deeds"] []
 m_e2:mg "_law_free_rule"=some (.ref t.a_e2)
 F_c3:Fun K "_law_slots" "_law_slots" b0t t.a_c3 t.d_c3
 b_c3:Binds K t.d_c3 ["_law_terms"] []
 m_c3:mg "_law_slots"=some (.ref t.a_c3)
 F_a8:Fun K "_law_by_slots" "_law_by_slots" a7t t.a_a8 t.d_a8
 b_a8:Binds K t.d_a8 ["_law_term","_law_slots_here"] []
 m_a8:mg "_law_by_slots"=some (.ref t.a_a8)
 F_d5:Fun K "_law_rows_are" "_law_rows_are" b0l t.a_d5 t.d_d5
 b_d5:Binds K t.d_d5 ["_law_rows"] []
 m_d5:mg "_law_rows_are"=some (.ref t.a_d5)
 F_d4:Fun K "_law_head" "_law_head" b3f t.a_d4 t.d_d4
 b_d4:Binds K t.d_d4 ["_law_rows","_law_many"] []
 m_d4:mg "_law_head"=some (.ref t.a_d4)
 F_b2:Fun K "_law_built" "_law_built" b0u t.a_b2 t.d_b2
 b_b2:Binds K t.d_b2 ["_law_there","_law_cell"] []
 m_b2:mg "_law_built"=some (.ref t.a_b2)
 F_b4:Fun K "_law_taken" "_law_taken" b0v t.a_b4 t.d_b4
 b_b4:Binds K t.d_b4 ["_law_cells","_law_first","_law_many"] []
 m_b4:mg "_law_taken"=some (.ref t.a_b4)
 F_d3:Fun K "_law_goal_read" "_law_goal_read" a9e t.a_d3 t.d_d3
 b_d3:Binds K t.d_d3 ["_law_rows","_law_at"] []
 m_d3:mg "_law_goal_read"=some (.ref t.a_d3)
 F_c9:Fun K "_law_rule_right" "_law_rule_right" a6k t.a_c9 t.d_c9
 b_c9:Binds K t.d_c9 ["_law_found","_law_number","_law_head_here","_law_goals"] []
 m_c9:mg "_law_rule_right"=some (.ref t.a_c9)
 F_d2:Fun K "_law_news" "_law_news" b3g t.a_d2 t.d_d2
 b_d2:Binds K t.d_d2 ["_law_slots_here","_law_many"] []
 m_d2:mg "_law_news"=some (.ref t.a_d2)
 F_b8:Fun K "_law_key" "_law_key" b9v t.a_b8 t.d_b8
 b_b8:Binds K t.d_b8 ["_law_head_here"] []
 m_b8:mg "_law_key"=some (.ref t.a_b8)
 F_e6:Fun K "_law_switch" "_law_switch" b3h t.a_e6 t.d_e6
 b_e6:Binds K t.d_e6 ["_law_heads"] []
 m_e6:mg "_law_switch"=some (.ref t.a_e6)
 F_b7:Fun K "_law_right" "_law_right" b0w t.a_b7 t.d_b7
 b_b7:Binds K t.d_b7 ["_law_found","_law_rules_here"] []
 m_b7:mg "_law_right"=some (.ref t.a_b7)
 F_d0:Fun K "_law_rules" "_law_rules" b0x t.a_d0 t.d_d0
 b_d0:Binds K t.d_d0 ["_law_script"] []
 m_d0:mg "_law_rules"=some (.ref t.a_d0)
 F_law:Fun K "law" "law" s_law t.a_law t.d_law
 b_law:Binds K t.d_law ["_law_script"] []
 m_law:mg "law"=some (.ref t.a_law)
 n_g7:mg "all"=none
 n_g9:mg "bool"=none
 n_h0:mg "dict"=none
 n_f5:mg "enumerate"=none
 n_g0:mg "int"=none
 n_f2:mg "isinstance"=none
 n_a3:mg "len"=none
 n_f1:mg "list"=none
 n_f7:mg "min"=none
 n_e9:mg "range"=none
 n_g1:mg "reversed"=none
 n_g8:mg "sorted"=none
 n_g6:mg "str"=none
 n_g5:mg "sum"=none
 n_f3:mg "tuple"=none
 m_f6:mg "NOT"=some (.str "not" t.t_f6)
 m_f8:mg "KEEP"=some (.str "keep" t.t_f8)
 m_f4:mg "MARK_ROWS"=some (.ref t.c_f4)
 e_f4:(t.c_f4==sysModules)=false
 m_f9:mg "SMALL"=some (.str "abcdefghijklmnopqrstuvwxyz" t.t_f9)
 m_g2:mg "GREAT"=some (.str "ABCDEFGHIJKLMNOPQRSTUVWXYZ" t.t_g2)
 m_g3:mg "FIGURES"=some (.str "0123456789" t.t_g3)
 m_g4:mg "MOST_LETTERS"=some (.int 12 t.t_g4)
local macro_rules | `(tactic| exists $e:ident) => `(tactic| refine iteB (fun $e => ?_) (fun $e => ?_))
local macro_rules | `(tactic| exists $f:ident $a*) => `(tactic| (refine $f $a* ?_; walk_at "s"))
local macro_rules | `(tactic| exists $f:ident $a*, $D, $H:ident, $Q:ident, $E:ident, $hr:ident, $h:ident) => `(tactic| (refine $f $a* (fun vs H Q E h => by revert vs; walk_at "in"; exact fun _ => rfl) (fun cdv A outer s $H vs $Q $E $hr h => ?_); revert vs; walk_at "in"; intro $h:ident; refine ⟨_, $D, ?_⟩; try dsimp only [zxN, zxK]))
theorem c1q:([Sum.inr (ofString "="),Sum.inr (ofString ":="),Sum.inr (ofString "<"),Sum.inr (ofString "<=")]:List Key).Nodup:=by decide+kernel
noncomputable def b0n(t:Ad):List (Key×V):=[(Sum.inr (ofString "="),.str "equal"),(Sum.inr (ofString ":="),.str "reckon"),(Sum.inr (ofString "<"),.str "less"),(Sum.inr (ofString "<="),.str "atmost")]
abbrev a2u:Str:=ofString "abcdefghijklmnopqrstuvwxyz"
abbrev b3y:Str:=ofString "ABCDEFGHIJKLMNOPQRSTUVWXYZ"
abbrev figS:Str:=ofString "0123456789"
abbrev one(c:Nat):Str:=⟨#[c]⟩
noncomputable def inner(c:Str):Bool:=inS c a2u|| (inS c b3y||inS c figS)
noncomputable def fst(z:Str):Str:=one (z.cps.getD 0 0)
noncomputable def called(z firsts:Str):Bool:=(decide ((1:Int)<=z.length)&&decide ((z.length:Int)<=12))&&(inS (fst z) firsts&&z.cps.toList.all λc=>inner (one c))
abbrev b5r:Sp:=λvs H Q _=>aS vs λc vs=>aE vs (Q (.bl (inner c)) H)
abbrev b4j:Sp:=λvs H Q _=>aS vs λz vs=>aS vs λf vs=>aE vs (z.length<=1000/\∀H',Same H H'->Q (.bl (called z f)) H')
abbrev b8h:Sp:=λvs H Q _=>aS vs λz vs=>aE vs (z.length<=1000/\∀H',Same H H'->Q (.bl (called z a2u)) H')
theorem len_fst{z:Str}(h:0<z.length):atI z.cps.toList 0=some (z.cps.getD 0 0):=by
 obtain⟨v,h1,h2⟩:=a5u (xs:=z.cps.toList) (i:=0) qo (by simp only[Yw];unfold Str.length at h;omega);rw[h1];have h2:z.cps.toList[0]? =some v:=h2
 rw[Xa]at h2;rw[Wm,h2];rfl
theorem all_get(z:Str)(f:Nat->Bool):((List.range z.cps.size).map λk=>f (z.cps.getD k 0)).all id=z.cps.toList.all f:=by
 rw[Xv,Xy,Xy]
 constructor
 ·intro h c hc;obtain⟨i,hi,e⟩:=S3 hc;have hi':i<z.cps.size:=by simpa using hi
  have:=h (f (z.cps.getD i 0)) (Z3.mpr ⟨i,X0.mpr hi',rfl⟩);rw[Wm,<-Xa,Za hi]at this
  simpa[e]using this
 ·intro h b hb;obtain⟨i,hi,rfl⟩:=Z3.mp hb;have hi:=X0.mp hi;rw[Wm,Yp hi];exact h _ qz
theorem b5s{α:Type}(l:List α):l=[]\/∃a b,l=a++[b]:=by
 rcases Uh l with h|⟨a,b,h⟩
 ·exact .inl h
 ·exact .inr ⟨a,b,by rw[h,Ui]⟩
theorem d1o{x:Str}(h:decide (x=appS)=false){A B:Prop}(k:B):if(false^^decide (x=appS))=true then A else B:=by rw[Zz,h];exact iteF k
theorem yes_app{x:Str}(h:decide (x=appS)=true){A B:Prop}(k:A):if(false^^decide (x=appS))=true then A else B:=by rw[Zz,h];exact iteT k
theorem d1:decide (numS=appS)=false:=by decide+kernel
theorem d2:decide (anyS=appS)=false:=by decide+kernel
theorem d3:decide (appS=appS)=true:=by decide+kernel
theorem d4:decide (numS=numS)=true:=by decide+kernel
theorem d5:decide (anyS=numS)=false:=by decide+kernel
theorem d6:decide (appS=numS)=false:=by decide+kernel
abbrev a1u:Str:=ofString "keep"
abbrev notS:Str:=ofString "not"
noncomputable def named:Trm->Bool
 | .app sg _=>called sg a2u&& !decide (sg∈[a1u,notS])
 |_=>false
def sLen:Trm->Prop
 | .app sg _=>sg.length<=1000
 |_=>True
abbrev b1l(K:W.Frag):Sp:=λvs H Q _=>aV vs λv vs=>aE vs (∃t:Trm,Den K H v t.data/\sLen t/\∀H',Same H H'->Q (.bl (named t)) H')
theorem a2b{H H':Hp}{p:Addr}(s:Same H H')(h:H' p=none):H p=none:=by
 cases e:H p with
 |none=>rfl
 |some o=>rw[s _ _ e]at h;cases h
theorem a7j(a b:List Trm):Trm.dataL (a++b)=Trm.dataL a++Trm.dataL b:=by rw[Trm.dataL_map,Trm.dataL_map,Trm.dataL_map,Zn]
theorem a4h{K:W.Frag}{p:Addr}{H H':Hp}{kv:List (Key×V)}(e:But p H H')(hp:H p=some (.dK kv)):∀a xs,SqT K H a xs->SqT K H' a xs:=λa xs h=>by
 rcases h with(h|⟨o,h⟩)|h
 ·exact .inl (.inl (e _ _ (λz=>by rw[z,hp]at h;cases h) h))
 ·exact .inl (.inr ⟨o,e _ _ (λz=>by rw[z,hp]at h;cases h) h⟩)
 ·exact .inr h
theorem q1:decide (numS=anyS)=false:=by decide+kernel
theorem q2:decide (appS=anyS)=false:=by decide+kernel
theorem q3:decide (anyS=anyS)=true:=by decide+kernel
abbrev b1y(K:W.Frag):Sp:=λvs H Q _=>aR vs λa vs=>aE vs (∃(us:List V)(ts:List Trm),SqL K H a us/\DenL K H us (Trm.dataL ts)/\Trm.sizeL ts<=1000/\∀(p:Addr)(H':Hp),Same H H'->H p=none->H' p=some (.lst ((ordL ts []).map V.str))->Q (.ref p) H')
theorem nil_or_snoc'{α:Type}(l:List α):l=[]\/∃r x,l=r++[x]:=by
 rcases Uh l with h|⟨r,x,h⟩
 ·exact .inl h
 ·exact .inr ⟨r,x,by rw[h,Ui]⟩
theorem DenL.rev{K:W.Frag}{H:Hp}:∀{us:List V}{ds:List PyData},DenL K H us ds->DenL K H us.reverse ds.reverse
 |_,_,.nil=>.nil
 |_,_,.cons a r=>by
  rw[X6,X6];exact(DenL.rev r).append (.cons a .nil)
theorem b0z(ts:List Trm):(Trm.dataL ts).reverse=Trm.dataL ts.reverse:=by rw[Trm.dataL_map,Trm.dataL_map,List.map_reverse]
theorem a8v:∀ts:List Trm,Trm.sizeL ts.reverse=Trm.sizeL ts
 | []=>rfl
 |k::ks=>by
  rw[X6,Trm.sizeL_app,a8v ks];simp only[Trm.sizeL];omega
noncomputable def encB(acc:List Str):List (Key×V):=acc.map λx=>(Sum.inr x,V.bl true)
theorem b6l(acc:List Str):(encB acc).length=acc.length:=by simp[encB]
theorem d4h(acc:List Str)(x:Str):((encB acc).any λkv=>decide (kv.1=Sum.inr x))=decide (x∈acc):=by
 by_cases h:x∈acc
 ·rw[Yg h,Vg];exact⟨(Sum.inr x,V.bl true),Z3.mpr ⟨x,h,rfl⟩,qz⟩
 ·rw[Z4 h,List.any_eq_false];intro kv hk e;obtain⟨y,hy,rfl⟩:=Z3.mp hk;exact h (by rw[<-Vy (Z8 e)];exact hy)
theorem b6m(acc:List Str)(x:Str):putK (encB acc) (Sum.inr x) (.bl true)=encB (ord (.any x) acc):=by
 rw[ord];unfold putK;rw[d4h]
 by_cases h:x∈acc
 ·rw[if_pos (Yg h),if_pos h];unfold encB;rw[Y4];refine X8 λy hy=>?_
  show(if(Sum.inr y:Key)=Sum.inr x then((Sum.inr y:Key),V.bl true)else(Sum.inr y,V.bl true))=(Sum.inr y,V.bl true)
  split<;>rfl
 ·rw[if_neg (by rw[Z4 h];decide),if_neg h];unfold encB;rw[Zn];rfl
theorem d1p(acc:List Str):((encB acc).map λkv=>kV kv.1)=acc.map V.str:=by
 unfold encB;rw[Y4];rfl
theorem a7b{ls:List Trm}{i:Nat}{l:Trm}(h:ls[i]? =some l):l.size<=Trm.sizeL ls:=d3w (Y0 h)
theorem a9w{K:W.Frag}{H:Hp}{us:List V}{ts:List Trm}{i:Nat}(h:DenL K H us (Trm.dataL ts))(hi:i<ts.length):∃hu:i<us.length,Den K H us[i] ts[i].data:=by
 have hl:=h.length;rw[Trm.dataL_map,length_map]at hl;have hu:i<us.length:=by omega
 refine⟨hu,?_⟩;obtain⟨d,e1,e2⟩:=h.get (Za hu);rw[Trm.dataL_map,Zs,Za hi]at e1;obtain rfl:ts[i].data=d:=Zi e1;exact e2
theorem getD_at{us:List V}{i:Nat}(h:i<us.length):us.getD i .non=us[i]:=by rw[Zk,Za h];rfl
theorem take_succ'{α:Type}{l:List α}{i:Nat}(h:i<l.length):l.take (i+1)=l.take i++[l[i]]:=by rw[X5,Za h];rfl
theorem a2l{K:W.Frag}{H:Hp}{us:List V}{ts:List Trm}(h:DenL K H us (Trm.dataL ts)):us.length=ts.length:=by
 have hl:=h.length;rwa[Trm.dataL_map,length_map]at hl
theorem a4f{p:Addr}{H0 H H':Hp}(s:Same H0 H)(b:But p H H')(n:H0 p=none):Same H0 H':=λa o e=>b a o (λz=>by rw[z,n]at e;cases e) (s a o e)
theorem a1z{p:Addr}{H:Hp}{o:HO}:But p H (upd H p o):=λb u hb e=>by rw[a0l hb];exact e
theorem a9n(ts:List Trm)(i:Nat):Trm.sizeL (ts.take i)<=Trm.sizeL ts:=by
 have h:=Trm.sizeL_app (ts.take i) (ts.drop i);rw[Ug]at h;omega
noncomputable def encJ:Nat->List Str->List (Key×V)
 |_,[]=>[]
 |i,x::u=>(Sum.inr x,.int i)::encJ (i+1) u
noncomputable def ix:List Str->Str->Nat
 | [],_=>0
 |y::u,x=>if y=x then 0 else ix u x+1
theorem a3a:∀(i:Nat)(u:List Str),(encJ i u).length=u.length
 |_,[]=>rfl
 |i,x::u=>by rw[encJ,length_cons,a3a (i+1) u,length_cons]
theorem c0u:∀(i:Nat)(u:List Str),((encJ i u).map λkv=>kV kv.1)=u.map V.str
 |_,[]=>rfl
 |i,x::u=>by rw[encJ,Zp,c0u (i+1) u];rfl
theorem valJ:∀{u:List Str}{x:Str}(i:Nat),x∈u->valV (encJ i u) (Sum.inr x)=some (.int ((i+ix u x:Nat):Int))
 |y::u,x,i,h=>by
  by_cases e:y=x
  ·rw[encJ,a2d (by rw[e]),ix,if_pos e];rfl
  ·rw[encJ,a1o (λz=>e (Vy z)),ix,if_neg e,valJ (i+1) (by rcases Zo.mp h with z|z;exact absurd z.symm e;exact z)];rw[show i+1+ix u x=i+(ix u x+1) by omega]
 | [],_,_,h=>by simp at h
theorem b9w:∀{u:List Str}{x:Str}(i:Nat),x∉u->valV (encJ i u) (Sum.inr x)=none
 | [],x,i,h=>rfl
 |y::u,x,i,h=>by
  rw[encJ,a1o (λz=>h (by rw[Vy z];exact Z0 ..)),b9w (i+1) (λz=>h (Zw _ z))]
theorem c0v:∀(i:Nat)(u:List Str)(x:Str),encJ i (u++[x])=encJ i u++[(Sum.inr x,.int ((i+u.length:Nat):Int))]
 |i,[],x=>rfl
 |i,y::u,x=>by
  rw[Yh,encJ,encJ,c0v (i+1) u x,Yh,length_cons,show i+1+u.length=i+(u.length+1) by omega]
theorem c3x{u:List Str}{x:Str}(h:x∉u):putK (encJ 0 u) (Sum.inr x) (.int (u.length:Int))=encJ 0 (u++[x]):=by
 rw[b2x _ (b9w 0 h),c0v,Ye]
theorem c3y:∀{u:List Str}{x:Str}(i:Nat),u.Nodup->x∈u->(encJ i u).map (λkv=>if kv.1=Sum.inr x then(kv.1,V.int ((i+ix u x:Nat):Int))else kv)=encJ i u
 |y::u,x,i,hn,h=>by
  have hn':=Xs.mp hn;rw[encJ,Zp]
  by_cases e:y=x
  ·subst e;have hix:ix (y::u) y=0:=by rw[ix,if_pos rfl]
   rw[hix]
   show(if(Sum.inr y:Key)=Sum.inr y then _ else _)::_=_
   rw[if_pos rfl]
   congr 1
   have:∀kv∈encJ (i+1) u,(if kv.1=Sum.inr y then(kv.1,V.int ((i+0:Nat):Int))else kv)=kv:=λkv hkv=>by
    rw[if_neg];intro z;have hk:=List.mem_map_of_mem (f:=λkv:Key×V=>kV kv.1) hkv;rw[c0u]at hk;obtain⟨w,hw,e2⟩:=Z3.mp hk;rw[z]at e2;have e3:w=y:=by injection e2
    rw[e3]at hw;exact hn'.1 hw
   rw[X8 this,List.map_id']
  ·have hx:x∈u:=by rcases Zo.mp h with z|z;exact absurd z.symm e;exact z
   have hix:ix (y::u) x=ix u x+1:=by rw[ix,if_neg e]
   rw[hix]
   show(if(Sum.inr y:Key)=Sum.inr x then _ else _)::_=_
   rw[if_neg (λz=>e (Vy z))];have:=c3y (u:=u) (x:=x) (i+1) hn'.2 hx;rw[show i+1+ix u x=i+(ix u x+1) by omega]at this;rw[this]
 | [],_,_,_,h=>by simp at h
theorem d1q{u:List Str}{x:Str}(hn:u.Nodup)(h:x∈u):putK (encJ 0 u) (Sum.inr x) (.int (ix u x:Int))=encJ 0 u:=by
 unfold putK;rw[a5q,valJ 0 h,Uv,if_pos rfl];have:=c3y 0 hn h;rw[Ye]at this;exact this
theorem b8i:∀{u:List Str}{x:Str},x∈u->u[ix u x]? =some x
 |y::u,x,h=>by
  by_cases e:y=x
  ·rw[ix,if_pos e,e];rfl
  ·rw[ix,if_neg e];exact b8i (u:=u) (by rcases Zo.mp h with z|z;exact absurd z.symm e;exact z)
 | [],_,h=>by simp at h
theorem ix_inj(u:List Str):InjN (ix u) u:=λx hx y hy e=>by
 have h1:=b8i hx;rw[e,b8i hy]at h1;exact(Zi h1).symm
theorem ix_lt{u:List Str}{x:Str}(h:x∈u):ix u x<u.length:=(Zh.mp (b8i h)).1
abbrev a1i:Str:=ofString "slots"
abbrev metN:Str:=ofString "met"
abbrev a5f:Str:=ofString "cells"
abbrev rowsN:Str:=ofString "rows"
noncomputable def fsW(ps pm:Addr)(c:Int)(pr:Addr):List (Str×V):=[(a1i,.ref ps),(metN,.ref pm),(a5f,.int c),(rowsN,.ref pr)]
theorem a5z(ps pm:Addr)(c:Int)(pr:Addr):(fsW ps pm c pr).lookup (ofString "slots")=some (.ref ps):=by
 simp only[fsW,List.lookup,show(ofString "slots"==a1i)=true from qk]
theorem b8j(ps pm:Addr)(c:Int)(pr:Addr):(fsW ps pm c pr).lookup (ofString "met")=some (.ref pm):=by
 simp only[fsW,List.lookup,show(ofString "met"==a1i)=false from qk,show(ofString "met"==metN)=true from qk]
theorem c3z(ps pm:Addr)(c:Int)(pr:Addr):(fsW ps pm c pr).lookup (ofString "cells")=some (.int c):=by
 simp only[fsW,List.lookup,show(ofString "cells"==a1i)=false from qk,show(ofString "cells"==metN)=false from qk,show(ofString "cells"==a5f)=true from qk]
theorem b5f(ps pm:Addr)(c:Int)(pr:Addr):(fsW ps pm c pr).lookup (ofString "rows")=some (.ref pr):=by
 simp only[fsW,List.lookup,show(ofString "rows"==a1i)=false from qk,show(ofString "rows"==metN)=false from qk,show(ofString "rows"==a5f)=false from qk,show(ofString "rows"==rowsN)=true from qk]
theorem a2r{ps pm:Addr}{c:Int}{pr:Addr}{m:Str}(h1:(m==a1i)=false:=by decide+kernel)(h2:(m==metN)=false:=by decide+kernel)(h3:(m==a5f)=false:=by decide+kernel)(h4:(m==rowsN)=false:=by decide+kernel):(fsW ps pm c pr).lookup m=none:=by
 simp only[fsW,List.lookup,h1,h2,h3,h4]
theorem c0w(ps pm:Addr)(c d:Int)(pr:Addr):putF (ofString "cells") (.int d) (fsW ps pm c pr)=fsW ps pm d pr:=by
 simp only[fsW,putF,show ¬a1i=ofString "cells" from qk,show ¬metN=ofString "cells" from qk,show a5f=ofString "cells" from rfl,X4,if_true]
structure WS(K:W.Frag)(C:Addr)(H:Hp)(x dx ps pm pr:Addr)(u met:List Str)(c:Nat)(rs:List V):Prop where
 o:H x=some (.ins C dx (fsW ps pm c pr))
 s:H ps=some (.dK (encJ 0 u))
 m:H pm=some (.dK (encB met))
 r:H pr=some (.lst rs)
 ne:ps≠pm
def WFr(x pm pr:Addr)(H H':Hp):Prop:=∀b o,b≠x->b≠pm->b≠pr->H b=some o->H' b=some o
theorem WFr.refl(x pm pr:Addr)(H:Hp):WFr x pm pr H H:=λ_ _ _ _ _ e=>e
theorem WFr.trans{x pm pr:Addr}{H H1 H2:Hp}(a:WFr x pm pr H H1)(b:WFr x pm pr H1 H2):WFr x pm pr H H2:=λc o h1 h2 h3 e=>b c o h1 h2 h3 (a c o h1 h2 h3 e)
theorem WFr.of{x pm pr:Addr}{H H':Hp}(s:Same H H'):WFr x pm pr H H':=λb o _ _ _ e=>s b o e
section
variable{K:W.Frag}{C:Addr}{H H':Hp}{x dx ps pm pr:Addr}{u met:List Str}{c:Nat}{rs:List V}
theorem WS.ne1(w:WS K C H x dx ps pm pr u met c rs):pm≠x/\pr≠x/\ps≠x/\pm≠pr/\ps≠pr:=by
 refine⟨λz=>?_,λz=>?_,λz=>?_,λz=>?_,λz=>?_⟩
 ·have:=w.m;rw[z,w.o]at this;cases this
 ·have:=w.r;rw[z,w.o]at this;cases this
 ·have:=w.s;rw[z,w.o]at this;cases this
 ·have:=w.m;rw[z,w.r]at this;cases this
 ·have:=w.s;rw[z,w.r]at this;cases this
theorem WS.same(w:WS K C H x dx ps pm pr u met c rs)(s:Same H H'):WS K C H' x dx ps pm pr u met c rs:=⟨s _ _ w.o,s _ _ w.s,s _ _ w.m,s _ _ w.r,w.ne⟩
theorem WS.tup(w:WS K C H x dx ps pm pr u met c rs)(f:WFr x pm pr H H'):∀a xs,SqT K H a xs->SqT K H' a xs:=λa xs h=>by
 have n1:∀{o:HO},H a=some o->(∀C dx fs,o≠.ins C dx fs)->(∀kv,o≠.dK kv)->(∀ys,o≠.lst ys)->H' a=some o:=λ{o} e h1 h2 h3=>
  f a o (λz=>by rw[z,w.o]at e;exact h1 _ _ _ (Zi e).symm) (λz=>by rw[z,w.m]at e;exact h2 _ (Zi e).symm) (λz=>by rw[z,w.r]at e;exact h3 _ (Zi e).symm) e
 rcases h with(h|⟨o,h⟩)|h
 ·exact .inl (.inl (n1 h (λ_ _ _ z=>by cases z) (λ_ z=>by cases z) (λ_ z=>by cases z)))
 ·exact .inl (.inr ⟨o,n1 h (λ_ _ _ z=>by cases z) (λ_ z=>by cases z) (λ_ z=>by cases z)⟩)
 ·exact .inr h
theorem WS.row(w:WS K C H x dx ps pm pr u met c rs)(v:V):WS K C (upd H pr (.lst (rs++[v]))) x dx ps pm pr u met c (rs++[v])/\WFr x pm pr H (upd H pr (.lst (rs++[v]))):=by
 obtain⟨h1,h2,h3,h4,h5⟩:=w.ne1;exact⟨⟨by rw[a0l (Ne.symm h2)];exact w.o,by rw[a0l h5];exact w.s,by rw[a0l h4];exact w.m,a0b,w.ne⟩,λb o _ _ hb e=>by rw[a0l hb];exact e⟩
theorem WS.cel(w:WS K C H x dx ps pm pr u met c rs)(d:Nat):WS K C (upd H x (.ins C dx (fsW ps pm d pr))) x dx ps pm pr u met d rs/\WFr x pm pr H (upd H x (.ins C dx (fsW ps pm d pr))):=by
 obtain⟨h1,h2,h3,h4,h5⟩:=w.ne1;exact⟨⟨a0b,by rw[a0l h3];exact w.s,by rw[a0l h1];exact w.m,by rw[a0l h2];exact w.r,w.ne⟩,λb o hb _ _ e=>by rw[a0l hb];exact e⟩
theorem WS.met'(w:WS K C H x dx ps pm pr u met c rs)(me:List Str):WS K C (upd H pm (.dK (encB me))) x dx ps pm pr u me c rs/\WFr x pm pr H (upd H pm (.dK (encB me))):=by
 obtain⟨h1,h2,h3,h4,h5⟩:=w.ne1;exact⟨⟨by rw[a0l (Ne.symm h1)];exact w.o,by rw[a0l w.ne];exact w.s,a0b,by rw[a0l (Ne.symm h4)];exact w.r,w.ne⟩,λb o _ hb _ e=>by rw[a0l hb];exact e⟩
end
abbrev b1a(K:W.Frag)(C:Addr):Sp:=λvs H Q _=>aR vs λx vs=>aR vs λa vs=>aE vs (∃(dx:Addr)(us:List V)(ts:List Trm),H x=some (.ins C dx [])/\SqL K H a us/\DenL K H us (Trm.dataL ts)/\Trm.sizeL ts<=500/\∀(ps pm pr:Addr)(H':Hp),WS K C H' x dx ps pm pr (ordL ts []) [] 0 []->(∀b o,b≠x->H b=some o->H' b=some o)->H ps=none->H pm=none->H pr=none->Q .non H')
abbrev a2j(K:W.Frag)(C:Addr):Sp:=λvs H Q _=>aR vs λx vs=>aV vs λv vs=>aE vs (∃(dx ps pm pr:Addr)(c:Int)(rs:List V),H x=some (.ins C dx (fsW ps pm c pr))/\H pr=some (.lst rs)/\rs.length<=1000/\Q .non (upd H pr (.lst (rs++[v]))))
abbrev a2g(K:W.Frag)(C:Addr):Sp:=λvs H Q _=>aR vs λx vs=>aI vs λm vs=>aE vs (∃(dx ps pm pr:Addr)(u met:List Str)(c:Nat)(rs:List V),WS K C H x dx ps pm pr u met c rs/\Q (.int c) (upd H x (.ins C dx (fsW ps pm ((c:Int)+m) pr))))
abbrev a2v(K:W.Frag)(C:Addr)(n:Nat):Sp:=λvs H Q _=>aR vs λx vs=>aI vs λi vs=>aV vs λv vs=>aE vs (∃(dx ps pm pr:Addr)(u met:List Str)(c:Nat)(rs:List V)(t:Trm)(cell:Nat),WS K C H x dx ps pm pr u met c rs/\i=(cell:Int)/\Den K H v t.data/\(∀y∈vars t,y∈u)/\t.size<=n/\n<=60/\rs.length+t.size<=500/\met.length+t.size<=500/\∀(H':Hp)(ns:List V),WFr x pm pr H H'->WS K C H' x dx ps pm pr u (ord t met) (c+(t.size-1)) (rs++ns)->DenL K H' ns ((ta (ix u) t cell c met).map Rw.data)->Q .non H')
theorem b1z{K:W.Frag}{C:Addr}{H:Hp}{x:Addr}{i:Int}{v:V}{R:Addr->Addr->Addr->Addr->List Str->List Str->Nat->List V->Trm->Nat->Prop}(h:∃(dx ps pm pr:Addr)(u met:List Str)(c:Nat)(rs:List V)(t:Trm)(cell:Nat),WS K C H x dx ps pm pr u met c rs/\i=(cell:Int)/\Den K H v t.data/\(∀y∈vars t,y∈u)/\t.size<=0/\R dx ps pm pr u met c rs t cell):False:=by
 obtain⟨_,_,_,_,_,_,_,_,t,_,_,_,_,_,z,_⟩:=h;have:=Trm.size_pos t;omega
abbrev a7k(K:W.Frag)(C:Addr):Sp:=λvs H Q _=>aR vs λx vs=>aV vs λv vs=>aE vs (∃(dx ps pm pr:Addr)(u:List Str)(w:Str)(ks:List Trm),WS K C H x dx ps pm pr u [] 0 []/\Den K H v (Trm.app w ks).data/\(∀y∈a1b ks,y∈u)/\Trm.sizeL ks<=59/\∀(H':Hp)(ns:List V),WFr x pm pr H H'->WS K C H' x dx ps pm pr u (ordL ks []) (Trm.sizeL ks) ns->DenL K H' ns ((taL (ix u) ks 0 ks.length []).map Rw.data)->Q .non H')
noncomputable def frameD:PyData:=.tuple [.str "frame"]
noncomputable def backD:PyData:=.tuple [.str "back"]
def b2a(w:Str):Prop:=called w a2u=true/\w≠a1u/\w≠notS/\w.length<=30
inductive Br where
 |put(c:Nat)(x:Str)
 |pnum(c:Nat)(n:Int)
 |bld(c:Nat)(g:Str)(ks:List Trm)(f:Nat)
noncomputable def putS:Str:=ofString "put"
noncomputable def a9o:Str:=ofString "putnum"
noncomputable def bldS:Str:=ofString "build"
noncomputable def Br.data(sl:Str->Nat):Br->PyData
 | .put c x=>.tuple [.str putS,.int c,.int (sl x)]
 | .pnum c n=>.tuple [.str a9o,.int c,.int n]
 | .bld c g ks f=>.tuple [.str bldS,.int c,.str g,.int ks.length,.int f]
noncomputable def Br.cell:Br->Nat
 | .put c _=>c
 | .pnum c _=>c
 | .bld c _ _ _=>c
noncomputable def Br.trm:Br->Trm
 | .put _ x=>.any x
 | .pnum _ n=>.num n
 | .bld _ g ks _=>.app g ks
mutual
def br:Trm->Nat->Nat->List Br
 | .num n,c,_=>[.pnum c n]
 | .any x,c,_=>[.put c x]
 | .app s ks,c,C=>brL ks C (C+ks.length)++[.bld c s ks C]
def brL:List Trm->Nat->Nat->List Br
 | [],_,_=>[]
 |k::ks,c,C=>br k c C++brL ks (c+1) (C+(k.size-1))
end
mutual
theorem c4a:∀(t:Trm)(c C:Nat),(br t c C).length=t.size
 | .num n,c,C=>by rw[br];rfl
 | .any x,c,C=>by rw[br];rfl
 | .app s ks,c,C=>by rw[br,Zc,b2b ks];simp only[Trm.size,length_cons,length_nil];omega
theorem b2b:∀(ks:List Trm)(c C:Nat),(brL ks c C).length=Trm.sizeL ks
 | [],c,C=>by rw[brL];rfl
 |k::ks,c,C=>by rw[brL,Zc,c4a k,b2b ks,Trm.sizeL]
end
theorem b6n:∀(a:List Trm)(k:Trm)(c C:Nat),brL (a++[k]) c C=brL a c C++br k (c+a.length) (C+(Trm.sizeL a-a.length))
 | [],k,c,C=>by
  rw[Yx,brL,brL,brL,Z7,Yx]
  simp[Trm.sizeL]
 |b::a,k,c,C=>by
  have bp:=b.size_pos;have zl:=Trm.len_le a;rw[Yh,brL,brL,b6n a k (c+1) _,Zt]
  congr 2
  congr 1
  ·simp only[length_cons];omega
  ·simp only[Trm.sizeL,length_cons];omega
abbrev Ce:=Nat->Option Trm
noncomputable def ce1(f:Ce)(r:Br):Ce:=λj=>if j=r.cell then some r.trm else f j
def Ok1B(f:Ce)(r:Br):Prop:=r.cell<=199/\match r with
 | .bld _ _ ks a=>ks.length<=4/\∀(j:Nat)(h:j<ks.length),f (a+j)=some ks[j]
 |_=>True
def OksB:List Br->Ce->Prop
 | [],_=>True
 |r::rs,f=>Ok1B f r/\OksB rs (ce1 f r)
noncomputable def ceA(rs:List Br)(f:Ce):Ce:=rs.foldl ce1 f
theorem b6o:∀{a b:List Br}{f:Ce},OksB a f->OksB b (ceA a f)->OksB (a++b) f
 | [],_,_,_,h=>h
 |r::a,b,f,h,h'=>⟨h.1,b6o (a:=a) h.2 h'⟩
theorem b2c(a b:List Br)(f:Ce):ceA (a++b) f=ceA b (ceA a f):=V0
theorem c6j:∀{rs:List Br}{f:Ce}{i:Nat},OksB rs f->(hi:i<rs.length)->Ok1B (ceA (rs.take i) f) rs[i]
 |r::rs,f,0,h,_=>h.1
 |r::rs,f,i+1,h,hi=>c6j (rs:=rs) (f:=ce1 f r) h.2 (by simpa using hi)
theorem d4i{rs:List Br}{i:Nat}(h:i<rs.length)(f:Ce):ceA (rs.take (i+1)) f=ce1 (ceA (rs.take i) f) rs[i]:=by
 rw[Vt,Za h,b2c];rfl
mutual
theorem rdB_t:∀(t:Trm)(c C:Nat)(f:Ce),c<C->C+(t.size-1)<=200->ar4 t->
  OksB (br t c C) f/\ceA (br t c C) f c=some t/\∀j,j<C->j≠c->ceA (br t c C) f j=f j
 | .num n,c,C,f,h,hz,ha=>by
  rw[br];refine⟨⟨⟨by show c<=199;omega,trivial⟩,trivial⟩,?_,λj _ hj=>?_⟩
  ·show(if c=c then _ else _)=_
   rw[if_pos rfl];rfl
  ·show(if j=c then _ else _)=_
   rw[if_neg hj]
 | .any x,c,C,f,h,hz,ha=>by
  rw[br];refine⟨⟨⟨by show c<=199;omega,trivial⟩,trivial⟩,?_,λj _ hj=>?_⟩
  ·show(if c=c then _ else _)=_
   rw[if_pos rfl];rfl
  ·show(if j=c then _ else _)=_
   rw[if_neg hj]
 | .app s ks,c,C,f,h,hz,ha=>by
  rw[ar4]at ha;simp only[Trm.size]at hz;have zl:=Trm.len_le ks;obtain⟨o,g,k⟩:=rdB_L ks C (C+ks.length) f (Zg _) qo ha.2;rw[br];refine⟨b6o o ⟨⟨by show c<=199;omega,ha.1,g⟩,trivial⟩,?_,λj hj hjc=>?_⟩
  ·rw[b2c]
   show(if c=c then _ else _)=_
   rw[if_pos rfl];rfl
  ·rw[b2c]
   show(if j=c then _ else _)=_
   rw[if_neg hjc];exact k j qo (.inl hj)
theorem rdB_L:∀(ks:List Trm)(c C:Nat)(f:Ce),c+ks.length<=C->C+(Trm.sizeL ks-ks.length)<=200->ar4L ks->
  OksB (brL ks c C) f/\(∀(j:Nat)(h:j<ks.length),ceA (brL ks c C) f (c+j)=some ks[j])/\∀j,j<C->(j<c\/c+ks.length<=j)->ceA (brL ks c C) f j=f j
 | [],c,C,f,h,hz,ha=>by
  rw[brL];exact⟨trivial,λj h=>by simp at h,λj _ _=>rfl⟩
 |k::ks,c,C,f,h,hz,ha=>by
  rw[ar4L]at ha;simp only[Trm.sizeL,length_cons]at hz h;have kp:=k.size_pos;have zl:=Trm.len_le ks;obtain⟨o1,g1,k1⟩:=rdB_t k c C f qo qo ha.1;obtain⟨o2,g2,k2⟩:=rdB_L ks (c+1) (C+(k.size-1)) (ceA (br k c C) f) qo qo ha.2;rw[brL];refine⟨b6o o1 o2,λj hj=>?_,λj hj hc=>?_⟩
  ·rw[b2c];cases j with
   |zero=>
    rw[k2 _ qo qo];exact g1
   |succ j=>
    rw[show c+(j+1)=c+1+j by omega];exact g2 j (by simpa using hj)
  ·simp only[length_cons]at hc;rw[b2c,k2 j qo qo,k1 j hj qo]
end
mutual
theorem ord_pre:∀(t:Trm)(a:List Str),∃b,ord t a=a++b
 | .num n,a=>⟨[],by rw[ord,Z7]⟩
 | .any x,a=>by
  rw[ord]
  by_cases h:x∈a
  ·exact⟨[],by rw[if_pos h,Z7]⟩
  ·exact⟨[x],by rw[if_neg h]⟩
 | .app s ks,a=>by rw[ord];exact b6p ks a
theorem b6p:∀(ts:List Trm)(a:List Str),∃b,ordL ts a=a++b
 | [],a=>⟨[],by rw[ordL,Z7]⟩
 |t::ts,a=>by
  obtain⟨b,e⟩:=ord_pre t a;obtain⟨d,e2⟩:=b6p ts (ord t a);exact⟨b++d,by rw[ordL,e2,e,Zt]⟩
end
theorem ix_pre:∀(a b:List Str)(j:Nat),(a++b).Nodup->(h:j<b.length)->ix (a++b) b[j]=a.length+j
 |a,b,j,hn,h=>by
  have hm:b[j]∈a++b:=Zm.mpr (.inr (Zx h));have e1:=b8i hm;have e2:(a++b)[a.length+j]? =some b[j]:=by
   rw[Yy qo,show a.length+j-a.length=j by omega,Za h]
  have l1:=ix_lt hm;have l2:a.length+j<(a++b).length:=by rw[Zc];omega
  rw[Za l1]at e1;rw[Za l2]at e2;have e3:=(Zi e1).trans (Zi e2).symm;have pw:=Wv.mp hn;rcases Nat.lt_trichotomy (ix (a++b) b[j]) (a.length+j)with z|z|z
  ·exact absurd e3 (pw _ _ l1 l2 z)
  ·exact z
  ·exact absurd e3.symm (pw _ _ l2 l1 z)
noncomputable def newS:Str:=ofString "new"
noncomputable def newD(s:Nat):PyData:=.tuple [.str newS,.int s]
noncomputable def a9p(u met:List Str):List PyData:=(u.filter λx=>decide (x∉met)).map λx=>newD (ix u x)
theorem d4j(a b:List Str)(hn:(a++b).Nodup):a9p (a++b) a=(List.range b.length).map λj=>newD (a.length+j):=by
 unfold a9p;have e:((a++b).filter λx=>decide (x∉a))=b:=by
  rw[Uw,List.filter_eq_nil_iff.mpr (λx hx=>by simp[hx]),Yx];exact List.filter_eq_self.mpr λx hx=>by
   simp only[Uz];intro z;exact(X7.mp hn).2.2 x z x hx rfl
 rw[e]
 apply W7
 intro j;rw[Zs,Zs]
 by_cases h:j<b.length
 ·rw[Za h,List.getElem?_range h,Wz,Wz,ix_pre a b j hn h]
 ·rw[Yj qo,Yj (by rw[Vz];omega)];rfl
inductive Mk where
 |eq|asg|lt|le
noncomputable def Mk.sign:Mk->Str
 | .eq=>ofString "="
 | .asg=>ofString ":="
 | .lt=>ofString "<"
 | .le=>ofString "<="
noncomputable def Mk.tag:Mk->Str
 | .eq=>ofString "equal"
 | .asg=>ofString "reckon"
 | .lt=>ofString "less"
 | .le=>ofString "atmost"
noncomputable def b8k:List (Key×V):=[(Sum.inr (ofString "="),.str "equal"),(Sum.inr (ofString ":="),.str "reckon"),(Sum.inr (ofString "<"),.str "less"),(Sum.inr (ofString "<="),.str "atmost")]
theorem d4k(m:Mk):valV b8k (Sum.inr m.sign)=some (.str m.tag):=by
 cases m
 ·exact a2d rfl
 ·rw[b8k,a1o qk];exact a2d rfl
 ·rw[b8k,a1o qk,a1o qk];exact a2d rfl
 ·rw[b8k,a1o qk,a1o qk,a1o qk];exact a2d rfl
inductive Go where
 |keep
 |mark(m:Mk)(a b:Trm)
 |neg(w:Str)(ks:List Trm)
 |nm(w:Str)(ks:List Trm)
noncomputable def Go.trm:Go->Trm
 | .keep=>.app a1u []
 | .mark m a b=>.app m.sign [a,b]
 | .neg w ks=>.app notS [.app w ks]
 | .nm w ks=>.app w ks
noncomputable def Go.kids:Go->List Trm
 | .keep=>[]
 | .mark _ a b=>[a,b]
 | .neg _ ks=>ks
 | .nm _ ks=>ks
noncomputable def Go.row(call:Str):Go->PyData
 | .keep=>.tuple [.str a1u]
 | .mark m _ _=>.tuple [.str m.tag]
 | .neg w ks=>.tuple [.str notS,.str w,.int ks.length]
 | .nm w ks=>.tuple [.str call,.str w,.int ks.length]
def Go.ok:Go->Prop
 | .keep=>True
 | .mark _ _ _=>True
 | .neg w _=>b2a w
 | .nm w _=>b2a w
noncomputable def Go.named:Go->Bool
 | .nm _ _=>true
 |_=>false
noncomputable def a3t:Str:=ofString "call"
noncomputable def a2m:Str:=ofString "jump"
noncomputable def gR(sl:Str->Nat)(call:Str)(g:Go):List PyData:=(brL g.kids 0 g.kids.length).map (Br.data sl)++[g.row call]
noncomputable def gsR(sl:Str->Nat)(f:Nat->Str):Nat->List Go->List PyData
 |_,[]=>[]
 |i,g::gs=>gR sl (f i) g++gsR sl f (i+1) gs
theorem b6q(sl:Str->Nat)(f:Nat->Str):∀(i:Nat)(a:List Go)(g:Go),gsR sl f i (a++[g])=gsR sl f i a++gR sl (f (i+a.length)) g
 |i,[],g=>by
  rw[Yx,gsR,gsR,gsR,Z7,Yx];rfl
 |i,b::a,g=>by
  rw[Yh,gsR,gsR,b6q sl f (i+1) a g,Zt,length_cons,show i+1+a.length=i+(a.length+1) by omega]
theorem c0x(sl:Str->Nat)(f h:Nat->Str):∀(i:Nat)(a:List Go),(∀j,i<=j->j<i+a.length->f j=h j)->gsR sl f i a=gsR sl h i a
 |i,[],_=>by rw[gsR,gsR]
 |i,b::a,e=>by
  rw[gsR,gsR,e i (Zg _) qz,c0x sl f h (i+1) a (λj h1 h2=>e j qo (by simp only[length_cons];omega))]
theorem d1r(sl:Str->Nat)(c:Str)(g:Go):(gR sl c g).length=Trm.sizeL g.kids+1:=by
 rw[gR,Zc,length_map,b2b];rfl
theorem Go.kids_size(g:Go):Trm.sizeL g.kids<=g.trm.size:=by
 cases g<;>simp only[Go.kids,Go.trm,Trm.size,Trm.sizeL]<;>omega
theorem Go.kids_vars(g:Go):a1b g.kids=vars g.trm:=by
 cases g<;>simp[Go.kids,Go.trm,vars,a1b]
noncomputable def a1v(r:Bool)(n i:Nat):Str:=if r=true/\i+1=n then a2m else a3t
abbrev a6x(K:W.Frag)(C:Addr):Sp:=λvs H Q _=>aR vs λx vs=>aE vs (∃(dx ps pm pr:Addr)(u met:List Str)(c:Nat)(rs:List V),WS K C H x dx ps pm pr u met c rs/\rs.length<=300/\u.length<=300/\u.Nodup/\∀(H':Hp)(ns:List V),WFr x pm pr H H'->WS K C H' x dx ps pm pr u met c (rs++ns)->DenL K H' ns (frameD::a9p u met)->Q .non H')
abbrev a4i(K:W.Frag)(C:Addr)(n:Nat):Sp:=λvs H Q _=>aR vs λx vs=>aI vs λi vs=>aV vs λv vs=>aE vs (∃(dx ps pm pr:Addr)(u met:List Str)(c:Nat)(rs:List V)(t:Trm)(cell:Nat),WS K C H x dx ps pm pr u met c rs/\i=(cell:Int)/\Den K H v t.data/\(∀y∈vars t,y∈u)/\t.size<=n/\n<=60/\rs.length+t.size<=900/\∀(H':Hp)(ns:List V),WFr x pm pr H H'->WS K C H' x dx ps pm pr u met (c+(t.size-1)) (rs++ns)->DenL K H' ns ((br t cell c).map (Br.data (ix u)))->Q .non H')
theorem b6r{K:W.Frag}{C:Addr}{H:Hp}{x:Addr}{i:Int}{v:V}{R:Addr->Addr->Addr->Addr->List Str->List Str->Nat->List V->Trm->Nat->Prop}(h:∃(dx ps pm pr:Addr)(u met:List Str)(c:Nat)(rs:List V)(t:Trm)(cell:Nat),WS K C H x dx ps pm pr u met c rs/\i=(cell:Int)/\Den K H v t.data/\(∀y∈vars t,y∈u)/\t.size<=0/\R dx ps pm pr u met c rs t cell):False:=by
 obtain⟨_,_,_,_,_,_,_,_,t,_,_,_,_,_,z,_⟩:=h;have:=Trm.size_pos t;omega
abbrev a7l(K:W.Frag)(C:Addr):Sp:=λvs H Q _=>aR vs λx vs=>aV vs λv vs=>aS vs λcall vs=>aE vs (∃(dx ps pm pr:Addr)(u met:List Str)(c:Nat)(rs:List V)(g:Go),WS K C H x dx ps pm pr u met c rs/\Den K H v g.trm.data/\g.ok/\(∀y∈a1b g.kids,y∈u)/\Trm.sizeL g.kids<=59/\rs.length<=700/\∀(H':Hp)(c':Nat)(ns:List V),WFr x pm pr H H'->WS K C H' x dx ps pm pr u met c' (rs++ns)->DenL K H' ns (gR (ix u) call g)->Q .non H')
noncomputable def a4d(gs:List Go):Bool:=match gs.getLast? with|some g=>g.named|none=>false
noncomputable def a6p(u:List Str)(ks:List Trm)(gs:List Go):List PyData:=(taL (ix u) ks 0 ks.length []).map Rw.data++(if gs=[]then[backD]else frameD::a9p u (ordL ks [])++gsR (ix u) (a1v true gs.length) 0 gs++(if a4d gs=true then[]else[backD]))
noncomputable def trms(gs:List Go):List Trm:=gs.map Go.trm
abbrev b4k(K:W.Frag):Sp:=λvs H Q _=>aI vs λn vs=>aR vs λp vs=>aE vs (∃(vh:V)(g:Addr)(w:Str)(ks:List Trm)(us:List V)(gs:List Go),SqT K H p [vh,.ref g]/\Den K H vh (Trm.app w ks).data/\SqT K H g us/\DenL K H us (Trm.dataL (trms gs))/\gs.length<=6/\(∀t∈gs,t.ok/\t.trm.size<=30)/\Trm.sizeL ks<=59/\∀(q pr:Addr)(ns:List V)(H':Hp),Same H H'->H pr=none->H' q=some (.tup [.int n,.int ((ordL (.app w ks::trms gs) []).length:Int),.ref pr])->H' pr=some (.lst ns)->DenL K H' ns (a6p (ordL (.app w ks::trms gs) []) ks gs)->Q (.ref q) H')
theorem c4b{α:Type}{C:List α->Prop}(nil:C [])(snoc:∀l x,C l->C (l++[x]))(l:List α):C l:=by
 have h:∀n (l:List α),l.length=n->C l:=by
  intro n
  induction n with
  |zero=>intro l hl;rw[T1.mp hl];exact nil
  |succ n ih=>
   intro l hl;rcases Uh l with h|⟨a,b,h⟩
   ·rw[h]at hl;simp at hl
   ·rw[h,Ui]at hl ⊢;exact snoc a b (ih a (by rw[Zc,Z9]at hl;omega))
 exact h _ l rfl
theorem b2d{kvs:List (List Key×V)}(nd:(kvs.map (·.1)).Nodup){p:List Key×V}(h:p∈kvs):valV kvs p.1=some p.2:=by
 induction kvs with
 |nil=>simp at h
 |cons q r ih=>
  rw[Zp,Xs]at nd;rcases Zo.mp h with e|e
  ·subst e;exact a2d rfl
  ·have:¬q.1=p.1:=λz=>nd.1 (by rw[z];exact Z3.mpr ⟨p,e,rfl⟩)
   rw[a1o this];exact ih nd.2 e
abbrev OK:=Option (List Key)
noncomputable def bt(p:OK->Bool):List OK->Int
 | []=>0
 |x::r=>(if p x then 1 else 0)+2*bt p r
theorem a5k(p:OK->Bool)(x:OK):∀l:List OK,bt p (l++[x])=bt p l+if p x then 2^l.length else 0
 | []=>by simp[bt]
 |y::r=>by
  rw[Yh,bt,a5k p x r,bt,length_cons,Sb]
  split<;>split<;>omega
theorem c2e(p:OK->Bool):∀l:List OK,0<=bt p l
 | []=>by simp[bt]
 |y::r=>by
  have:=c2e p r;rw[bt]
  split<;>omega
theorem c2f(p:OK->Bool):∀l:List OK,bt p l<2^l.length
 | []=>by simp[bt]
 |y::r=>by
  have:=c2f p r;rw[bt,length_cons,Sb]
  split<;>omega
theorem c4c{p q:OK->Bool}:∀{l:List OK},(∀x∈l,p x=q x)->bt p l=bt q l
 | [],_=>rfl
 |y::r,h=>by rw[bt,bt,h y Z0,c4c λx hx=>h x (Zw _ hx)]
noncomputable def isN(o:OK):Bool:=decide (o=none)
noncomputable def pk(k:List Key)(o:OK):Bool:=decide (o=none)||decide (o=some k)
open Classical in
noncomputable def dkS(acc:List (List Key))(o:OK):List (List Key):=match o with|none=>acc|some k=>if k∈acc then acc else acc++[k]
noncomputable def dk(l:List OK):List (List Key):=l.foldl dkS []
theorem b2e{acc:List (List Key)}{k:List Key}(h:k∈acc):dkS acc (some k)=acc:=if_pos h
theorem b2f{acc:List (List Key)}{k:List Key}(h:k∉acc):dkS acc (some k)=acc++[k]:=if_neg h
theorem a6q(l:List OK)(o:OK):dk (l++[o])=dkS (dk l) o:=by unfold dk;rw[V0];rfl
theorem b4l(l:List OK)(k:List Key):k∈dk l↔some k∈l:=by
 induction l using c4b with
 |nil=>simp[dk]
 |snoc l o ih=>
  rw[a6q,Zm,Zr];cases o with
  |none=>simp[dkS,ih]
  |some j=>
   by_cases h:j∈dk l
   ·rw[b2e h,ih]
    constructor
    ·exact .inl
    ·rintro(h1|h1)
     ·exact h1
     ·cases h1;exact ih.mp h
   ·rw[b2f h,Zm,Zr,ih]
    simp
theorem dk_nd(l:List OK):(dk l).Nodup:=by
 induction l using c4b with
 |nil=>simp[dk]
 |snoc l o ih=>
  rw[a6q];cases o with
  |none=>exact ih
  |some j=>
   by_cases h:j∈dk l
   ·rw[b2e h];exact ih
   ·rw[b2f h,X7];exact⟨ih,qz,λa ha b hb=>by rw[Zr.mp hb];exactλz=>h (z▸ha)⟩
theorem b8l(l:List OK):(dk l).length<=l.length:=by
 induction l using c4b with
 |nil=>simp[dk]
 |snoc l o ih=>
  rw[a6q,Zc,Z9];cases o with
  |none=>show(dk l).length<=_;omega
  |some j=>
   by_cases h:j∈dk l
   ·rw[b2e h];omega
   ·rw[b2f h,Zc,Z9];omega
abbrev KVs:=List (List Key×V)
theorem b0o{kvs:KVs}{k:List Key}(v:V)(h:k∈kvs.map (·.1)):(putK kvs k v).map (·.1)=kvs.map (·.1):=by
 unfold putK;obtain⟨p,h1,h2⟩:=Z3.mp h;rw[if_pos (Vg.mpr ⟨p,h1,Yg h2⟩),Y4]
 apply X8
 intro a _
 show(if a.1=k then(a.1,v)else a).1=a.1
 split<;>rfl
theorem c6k{kvs:KVs}{k:List Key}(v:V)(h:k∉kvs.map (·.1)):(putK kvs k v).map (·.1)=kvs.map (·.1)++[k]:=by
 unfold putK;rw[if_neg (λz=>?_),Zn]
 ·rfl
 ·obtain⟨p,h1,h2⟩:=Vg.mp z;exact h (Z3.mpr ⟨p,h1,Z8 h2⟩)
theorem c6l{kvs:KVs}{k:List Key}(h:k∉kvs.map (·.1)):valV kvs k=none:=by
 cases e:valV kvs k with
 |none=>rfl
 |some v=>exact absurd (b9m e) h
def DOk(kvs:KVs)(ks:List OK):Prop:=kvs.map (·.1)=dk ks/\∀k∈dk ks,valV kvs k=some (.int (bt (pk k) ks))
theorem DOk.len{kvs:KVs}{ks:List OK}(h:DOk kvs ks):kvs.length=(dk ks).length:=by rw[<-h.1,length_map]
theorem DOk.same{ka kb:KVs}{ks:List OK}(ha:DOk ka ks)(hb:DOk kb ks)(k:List Key)(v:V)(e:valV ka k=some v):∃i,v=.int i/\valV kb k=some (.int i):=by
 have hk:k∈dk ks:=by rw[<-ha.1];exact b9m e
 have:=ha.2 k hk;rw[e]at this;cases this;exact⟨_,rfl,hb.2 k hk⟩
noncomputable def keyK:Trm->OK
 | .num n=>some [.inr numS,.inl n]
 | .any _=>none
 | .app sg ks=>some [.inr appS,.inr sg,.inl (ks.length:Int)]
noncomputable def hk:Trm->OK
 | .app _ (k::_)=>keyK k
 |_=>none
def KIs(H:Hp)(v:V)(o:OK):Prop:=match o with|none=>v=.non|some k=>∃b,v=.ref b/\H b=some (.tup (k.map kV))
def d1s(h:Trm):Prop:=(∃sg ks,h=.app sg ks)/\h.size<=60
theorem b8m{a:Int}{i:Nat}(h0:0<=a)(h1:a<2^i):Builtin.bitOr a (1*2^i)=a+2^i:=by
 obtain⟨n,rfl⟩:∃n:Nat,a=(n:Int):=⟨a.toNat,qo⟩;rw[Uo];have e:(2:Int)^i=((2^i:Nat):Int):=by simp
 have hlt:n<2^i:=by
  rw[e]at h1;exact Int.ofNat_lt.mp h1
 rw[e,PyProof.Rows.bitOr_and];have hz:Builtin.bitAnd (n:Int) ((2^i:Nat):Int)=0:=by
  unfold Builtin.bitAnd;rw[Yg (Rj _),Yg (Rj _)]
  show(((n&&&2^i:Nat)):Int)=0
  have hz:n&&&2^i=0:=by
   apply Nat.eq_of_testBit_eq
   intro j;rw[Nat.testBit_and,Nat.testBit_two_pow,Nat.zero_testBit]
   by_cases hj:i=j
   ·subst hj;rw[Nat.testBit_lt_two_pow hlt];rfl
   ·rw[Z4 hj,Vb]
  rw[hz];rfl
 rw[hz];omega
theorem mul_bit(i:Nat):(1:Int)*2^((i:Int)).toNat=1*2^i:=by rw[Y5]
theorem d7:decide (numS=anyS)=false:=by decide+kernel
theorem d8:decide (appS=anyS)=false:=by decide+kernel
theorem d9:decide (anyS=anyS)=true:=by decide+kernel
abbrev c0y(K:W.Frag):Sp:=λvs H Q _=>aV vs λv vs=>aE vs (∃t:Trm,Den K H v t.data/\∀v' H',Same H H'->KIs H' v' (keyK t)->Q v' H')
abbrev b4m(K:W.Frag):Sp:=λvs H Q _=>aV vs λv vs=>aE vs (∃t:Trm,Den K H v t.data/\d1s t/\∀v' H',Same H H'->KIs H' v' (hk t)->Q v' H')
abbrev b4n(K:W.Frag):Sp:=λvs H Q _=>aR vs λp vs=>aE vs (∃us hs,SqL K H p us/\DenL K H us (Trm.dataL hs)/\(∀h∈hs,d1s h)/\hs.length<=50/\∀(r d:Addr)(kvs:KVs)(H':Hp),Same H H'->H d=none->H' d=some (.dT kvs)->SqT K H' r [.ref d,.int (bt isN (hs.map hk)),.int (2^hs.length-1)]->DOk kvs (hs.map hk)->Q (.ref r) H')
noncomputable def cO(n q:Str)(a b c:Tok)(l m f:Int)(r:Addr)(x:Int)(s:Addr)(v w:Value)(u:Addr)(y:Int)(d:Tok):Obj:=.mk (.type "code") none (.fields (List.toArray ((.str n a)::(.str q b)::(.str "/claim/cut.py" c)::(.int l 0)::(.int m 0)::(.int 0 0)::(.int 0 0)::(.int f 0)::(.ref r)::(.bool true)::(.int x 0)::(.ref s)::.none::v::w::(.ref u)::(.int y 0)::(.int l 0)::(.str "/claim/cut.py" d)::[]))) #[]
noncomputable def fO(n q:Str)(s:Stmt)(m:Value)(c:Addr):Obj:=.mk (.type "function") none (.func (W.fnOf n q (b4v s) (b1s s) (a0o s) .none .none .none m none (.ref c) .none)) #[]
noncomputable def kb2(P:Params):Obj:=.mk .none none (.dict #[] 0) #[]
noncomputable def kb3(P:Params):Obj:=.mk (.type "dict") none (.dict (List.toArray ((.mk (keyHash P "__name__") (.str "__name__" 165) (.str "law_goaltrail_k45_whole_code_is_the_program" 422))::(.mk (keyHash P "__doc__") (.str "__doc__" 166) .none)::(.mk (keyHash P "__package__") (.str "__package__" 167) .none)::(.mk (keyHash P "__loader__") (.str "__loader__" 168) (.builtin "__main__.__loader__#opaque"))::(.mk (keyHash P "__spec__") (.str "__spec__" 169) .none)::(.mk (keyHash P "__annotations__") (.str "__annotations__" 170) (.ref 6))::(.mk (keyHash P "__builtins__") (.str "__builtins__" 171) (.ref 4))::(.mk (keyHash P "__file__") (.str "__file__" 173) (.str "/claim/cut.py" 172))::(.mk (keyHash P "__cached__") (.str "__cached__" 174) .none)::(.mk (keyHash P "SMALL") (.str "SMALL" 190) (.str "abcdefghijklmnopqrstuvwxyz" 189))::(.mk (keyHash P "GREAT") (.str "GREAT" 192) (.str "ABCDEFGHIJKLMNOPQRSTUVWXYZ" 191))::(.mk (keyHash P "FIGURES") (.str "FIGURES" 194) (.str "0123456789" 193))::(.mk (keyHash P "MOST_LETTERS") (.str "MOST_LETTERS" 196) (.int 12 195))::(.mk (keyHash P "is_inner") (.str "is_inner" 203) (.ref 21))::(.mk (keyHash P "is_called") (.str "is_called" 209) (.ref 26))::(.mk (keyHash P "is_word") (.str "is_word" 216) (.ref 33))::(.mk (keyHash P "unknowns_of") (.str "unknowns_of" 228) (.ref 40))::(.mk (keyHash P "KEEP") (.str "KEEP" 232) (.str "keep" 231))::(.mk (keyHash P "NOT") (.str "NOT" 234) (.str "not" 233))::(.mk (keyHash P "is_named") (.str "is_named" 241) (.ref 47))::(.mk (keyHash P "word_of") (.str "word_of" 248) (.ref 54))::(.mk (keyHash P "key_of") (.str "key_of" 257) (.ref 61))::(.mk (keyHash P "first_key") (.str "first_key" 264) (.ref 68))::(.mk (keyHash P "switch_of") (.str "switch_of" 279) (.ref 75))::(.mk (keyHash P "MARK_ROWS") (.str "MARK_ROWS" 294) (.ref 76))::(.mk (keyHash P "Writing") (.str "Writing" 398) (.ref 142))::(.mk (keyHash P "rule_code") (.str "rule_code" 408) (.ref 153))::(.mk (keyHash P "code_of") (.str "code_of" 421) (.ref 160))::(.mk (keyHash P "_law_whole") (.str "_law_whole" 430) (.ref 167))::(.mk (keyHash P "_law_digit") (.str "_law_digit" 439) (.ref 174))::(.mk (keyHash P "_law_cell_at") (.str "_law_cell_at" 447) (.ref 181))::(.mk (keyHash P "_law_free_word") (.str "_law_free_word" 459) (.ref 188))::(.mk (keyHash P "_law_big") (.str "_law_big" 471) (.ref 195))::(.mk (keyHash P "_law_drawn") (.str "_law_drawn" 479) (.ref 202))::(.mk (keyHash P "_law_free_words") (.str "_law_free_words" 485) (.ref 207))::(.mk (keyHash P "_law_free_number") (.str "_law_free_number" 492) (.ref 214))::(.mk (keyHash P "_law_free_mark") (.str "_law_free_mark" 501) (.ref 221))::(.mk (keyHash P "_law_free_sign") (.str "_law_free_sign" 511) (.ref 228))::(.mk (keyHash P "_law_free_kids") (.str "_law_free_kids" 524) (.ref 235))::(.mk (keyHash P "_law_free_parts") (.str "_law_free_parts" 530) (.ref 240))::(.mk (keyHash P "_law_free_term") (.str "_law_free_term" 541) (.ref 247))::(.mk (keyHash P "_law_free_named") (.str "_law_free_named" 552) (.ref 254))::(.mk (keyHash P "_law_free_goal") (.str "_law_free_goal" 563) (.ref 261))::(.mk (keyHash P "_law_free_rule") (.str "_law_free_rule" 569) (.ref 266))::(.mk (keyHash P "_law_slots") (.str "_law_slots" 575) (.ref 271))::(.mk (keyHash P "_law_by_slots") (.str "_law_by_slots" 581) (.ref 276))::(.mk (keyHash P "_law_rows_are") (.str "_law_rows_are" 592) (.ref 283))::(.mk (keyHash P "_law_head") (.str "_law_head" 598) (.ref 288))::(.mk (keyHash P "_law_built") (.str "_law_built" 604) (.ref 293))::(.mk (keyHash P "_law_taken") (.str "_law_taken" 610) (.ref 298))::(.mk (keyHash P "_law_goal_read") (.str "_law_goal_read" 622) (.ref 305))::(.mk (keyHash P "_law_rule_right") (.str "_law_rule_right" 628) (.ref 310))::(.mk (keyHash P "_law_news") (.str "_law_news" 634) (.ref 315))::(.mk (keyHash P "_law_key") (.str "_law_key" 642) (.ref 322))::(.mk (keyHash P "_law_switch") (.str "_law_switch" 655) (.ref 329))::(.mk (keyHash P "_law_right") (.str "_law_right" 661) (.ref 334))::(.mk (keyHash P "_law_rules") (.str "_law_rules" 667) (.ref 339))::(.mk (keyHash P "law") (.str "law" 678) (.ref 346))::[])) 58) #[]
noncomputable def kb76(P:Params):Obj:=.mk (.type "dict") none (.dict #[(.mk (keyHash P "=") (.str "=" 282) (.str "equal" 283)),(.mk (keyHash P ":=") (.str ":=" 284) (.str "reckon" 285)),(.mk (keyHash P "<") (.str "<" 286) (.str "less" 287)),(.mk (keyHash P "<=") (.str "<=" 288) (.str "atmost" 289))] 4) #[]
noncomputable def kb141(P:Params):Obj:=.mk (.type "dict") none (.dict (List.toArray ((.mk (keyHash P "__module__") (.str "__module__" 302) (.str "goaltrail.maker" 280))::(.mk (keyHash P "__firstlineno__") (.str "__firstlineno__" 306) (.int 58 305))::(.mk (keyHash P "__init__") (.str "__init__" 315) (.ref 90))::(.mk (keyHash P "write") (.str "write" 323) (.ref 97))::(.mk (keyHash P "give_cells") (.str "give_cells" 332) (.ref 104))::(.mk (keyHash P "write_head") (.str "write_head" 342) (.ref 111))::(.mk (keyHash P "take_apart") (.str "take_apart" 354) (.ref 118))::(.mk (keyHash P "write_frame") (.str "write_frame" 362) (.ref 125))::(.mk (keyHash P "bring") (.str "bring" 374) (.ref 132))::(.mk (keyHash P "write_goal") (.str "write_goal" 386) (.ref 139))::(.mk (keyHash P "__static_attributes__") (.str "__static_attributes__" 391) (.ref 140))::(.mk (keyHash P "__dict__") (.str "__dict__" 393) (.ref 143))::(.mk (keyHash P "__weakref__") (.str "__weakref__" 395) (.ref 144))::(.mk (keyHash P "__doc__") (.str "__doc__" 396) .none)::[])) 4) #[]
noncomputable def kb142(P:Params):Obj:=.mk (.type "type") none (.cls (.mk "Writing" [(.type "object")] [(.ref 142),(.type "object")] 141 "Writing" Bool.true [] [] Bool.false none Bool.false)) (List.toArray (none::none::(some (.str "Writing" 295))::(some (.str "Writing" 303))::(some (.builtin "object.__new__"))::(some (.bool true))::[]))
noncomputable def KK:Params->W.Frag:=λP=>(nat_lit 2,kb2 P)::(nat_lit 3,kb3 P)::(nat_lit 20,cO "is_inner" "is_inner" 197 198 199 6 1 3 15 181 16 (.ref 17) (.ref 18) 19 201 202)::(nat_lit 21,fO "is_inner" "is_inner" b3d (.str "goaltrail.terms" 187) 20)::(nat_lit 25,cO "is_called" "is_called" 204 205 206 8 2 3 22 181 23 .none .none 24 207 208)::(nat_lit 26,fO "is_called" "is_called" a8m (.str "goaltrail.terms" 187) 25)::(nat_lit 32,cO "is_word" "is_word" 210 211 212 12 1 3 27 181 28 (.ref 29) (.ref 30) 31 214 215)::(nat_lit 33,fO "is_word" "is_word" b4c (.str "goaltrail.terms" 187) 32)::(nat_lit 39,cO "unknowns_of" "unknowns_of" 219 220 221 15 1 3 34 181 35 (.ref 36) (.ref 37) 38 226 227)::(nat_lit 40,fO "unknowns_of" "unknowns_of" a8x (.str "goaltrail.names" 217) 39)::(nat_lit 46,cO "is_named" "is_named" 235 236 237 28 1 3 41 181 42 (.ref 43) (.ref 44) 45 239 240)::(nat_lit 47,fO "is_named" "is_named" b3e (.str "goaltrail.rules" 229) 46)::(nat_lit 53,cO "word_of" "word_of" 242 243 244 30 1 3 48 181 49 (.ref 50) (.ref 51) 52 246 247)::(nat_lit 54,fO "word_of" "word_of" b4d (.str "goaltrail.rules" 229) 53)::(nat_lit 60,cO "key_of" "key_of" 251 252 253 33 1 3 55 181 56 (.ref 57) (.ref 58) 59 255 256)::(nat_lit 61,fO "key_of" "key_of" b6i (.str "goaltrail.switches" 249) 60)::(nat_lit 67,cO "first_key" "first_key" 258 259 260 39 1 3 62 181 63 (.ref 64) (.ref 65) 66 262 263)::(nat_lit 68,fO "first_key" "first_key" b1h (.str "goaltrail.switches" 249) 67)::(nat_lit 74,cO "switch_of" "switch_of" 265 266 267 41 1 3 69 181 70 (.ref 71) (.ref 72) 73 277 278)::(nat_lit 75,fO "switch_of" "switch_of" b1i (.str "goaltrail.switches" 249) 74)::(nat_lit 76,kb76 P)::(nat_lit 89,cO "__init__" "Writing.__init__" 307 308 309 60 2 3 84 181 85 (.ref 86) (.ref 87) 88 313 314)::(nat_lit 90,fO "__init__" "Writing.__init__" a8f (.str "goaltrail.maker" 280) 89)::(nat_lit 96,cO "write" "Writing.write" 316 317 318 68 2 3 91 181 92 (.ref 93) (.ref 94) 95 321 322)::(nat_lit 97,fO "write" "Writing.write" a7q (.str "goaltrail.maker" 280) 96)::(nat_lit 103,cO "give_cells" "Writing.give_cells" 324 325 326 71 2 3 98 181 99 (.ref 100) (.ref 101) 102 330 331)::(nat_lit 104,fO "give_cells" "Writing.give_cells" a4y (.str "goaltrail.maker" 280) 103)::(nat_lit 110,cO "write_head" "Writing.write_head" 333 334 335 76 2 3 105 181 106 (.ref 107) (.ref 108) 109 340 341)::(nat_lit 111,fO "write_head" "Writing.write_head" a4z (.str "goaltrail.maker" 280) 110)::(nat_lit 117,cO "take_apart" "Writing.take_apart" 343 344 345 81 3 3 112 181 113 (.ref 114) (.ref 115) 116 352 353)::(nat_lit 118,fO "take_apart" "Writing.take_apart" a5a (.str "goaltrail.maker" 280) 117)::(nat_lit 124,cO "write_frame" "Writing.write_frame" 355 356 357 93 1 3 119 181 120 (.ref 121) (.ref 122) 123 360 361)::(nat_lit 125,fO "write_frame" "Writing.write_frame" a4r (.str "goaltrail.maker" 280) 124)::(nat_lit 131,cO "bring" "Writing.bring" 363 364 365 99 3 3 126 181 127 (.ref 128) (.ref 129) 130 372 373)::(nat_lit 132,fO "bring" "Writing.bring" a7r (.str "goaltrail.maker" 280) 131)::(nat_lit 138,cO "write_goal" "Writing.write_goal" 375 376 377 110 3 3 133 181 134 (.ref 135) (.ref 136) 137 384 385)::(nat_lit 139,fO "write_goal" "Writing.write_goal" a5b (.str "goaltrail.maker" 280) 138)::(nat_lit 141,kb141 P)::(nat_lit 142,kb142 P)::(nat_lit 152,cO "rule_code" "rule_code" 399 400 401 123 2 3 147 181 148 (.ref 149) (.ref 150) 151 406 407)::(nat_lit 153,fO "rule_code" "rule_code" b1j (.str "goaltrail.maker" 280) 152)::(nat_lit 159,cO "code_of" "code_of" 409 410 411 134 1 3 154 181 155 (.ref 156) (.ref 157) 158 419 420)::(nat_lit 160,fO "code_of" "code_of" b4e (.str "goaltrail.maker" 280) 159)::(nat_lit 166,cO "_law_whole" "_law_whole" 424 425 426 146 1 3 161 181 162 (.ref 163) (.ref 164) 165 428 429)::(nat_lit 167,fO "_law_whole" "_law_whole" b4f (.str "law_goaltrail_k45_whole_code_is_the_program" 422) 166)::(nat_lit 173,cO "_law_digit" "_law_digit" 431 432 433 148 2 3 168 181 169 (.ref 170) (.ref 171) 172 437 438)::(nat_lit 174,fO "_law_digit" "_law_digit" b4g (.str "law_goaltrail_k45_whole_code_is_the_program" 422) 173)::(nat_lit 180,cO "_law_cell_at" "_law_cell_at" 440 441 442 152 2 3 175 181 176 (.ref 177) (.ref 178) 179 445 446)::(nat_lit 181,fO "_law_cell_at" "_law_cell_at" b1k (.str "law_goaltrail_k45_whole_code_is_the_program" 422) 180)::(nat_lit 187,cO "_law_free_word" "_law_free_word" 448 449 450 156 2 3 182 181 183 (.ref 184) (.ref 185) 186 457 458)::(nat_lit 188,fO "_law_free_word" "_law_free_word" a8y (.str "law_goaltrail_k45_whole_code_is_the_program" 422) 187)::(nat_lit 194,cO "_law_big" "_law_big" 460 461 462 165 2 3 189 181 190 (.ref 191) (.ref 192) 193 469 470)::(nat_lit 195,fO "_law_big" "_law_big" b9u (.str "law_goaltrail_k45_whole_code_is_the_program" 422) 194)::(nat_lit 201,cO "_law_drawn" "_law_drawn" 472 473 474 173 2 3 196 181 197 (.ref 198) (.ref 199) 200 477 478)::(nat_lit 202,fO "_law_drawn" "_law_drawn" b4h (.str "law_goaltrail_k45_whole_code_is_the_program" 422) 201)::(nat_lit 206,cO "_law_free_words" "_law_free_words" 480 481 482 177 2 3 203 181 204 .none .none 205 483 484)::(nat_lit 207,fO "_law_free_words" "_law_free_words" a4s (.str "law_goaltrail_k45_whole_code_is_the_program" 422) 206)::(nat_lit 213,cO "_law_free_number" "_law_free_number" 486 487 488 182 1 3 208 181 209 (.ref 210) (.ref 211) 212 490 491)::(nat_lit 214,fO "_law_free_number" "_law_free_number" a7s (.str "law_goaltrail_k45_whole_code_is_the_program" 422) 213)::(nat_lit 220,cO "_law_free_mark" "_law_free_mark" 493 494 495 186 1 3 215 181 216 (.ref 217) (.ref 218) 219 499 500)::(nat_lit 221,fO "_law_free_mark" "_law_free_mark" a8z (.str "law_goaltrail_k45_whole_code_is_the_program" 422) 220)::(nat_lit 227,cO "_law_free_sign" "_law_free_sign" 502 503 504 195 3 3 222 181 223 (.ref 224) (.ref 225) 226 509 510)::(nat_lit 228,fO "_law_free_sign" "_law_free_sign" a9a (.str "law_goaltrail_k45_whole_code_is_the_program" 422) 227)::(nat_lit 234,cO "_law_free_kids" "_law_free_kids" 512 513 514 202 4 3 229 181 230 (.ref 231) (.ref 232) 233 522 523)::(nat_lit 235,fO "_law_free_kids" "_law_free_kids" a9b (.str "law_goaltrail_k45_whole_code_is_the_program" 422) 234)::(nat_lit 239,cO "_law_free_parts" "_law_free_parts" 525 526 527 209 1 3 236 181 237 .none .none 238 528 529)::(nat_lit 240,fO "_law_free_parts" "_law_free_parts" a6j (.str "law_goaltrail_k45_whole_code_is_the_program" 422) 239)::(nat_lit 246,cO "_law_free_term" "_law_free_term" 531 532 533 213 3 3 241 181 242 (.ref 243) (.ref 244) 245 539 540)::(nat_lit 247,fO "_law_free_term" "_law_free_term" a9c (.str "law_goaltrail_k45_whole_code_is_the_program" 422) 246)::(nat_lit 253,cO "_law_free_named" "_law_free_named" 542 543 544 223 3 3 248 181 249 (.ref 250) (.ref 251) 252 550 551)::(nat_lit 254,fO "_law_free_named" "_law_free_named" a8g (.str "law_goaltrail_k45_whole_code_is_the_program" 422) 253)::(nat_lit 260,cO "_law_free_goal" "_law_free_goal" 553 554 555 230 4 3 255 181 256 (.ref 257) (.ref 258) 259 561 562)::(nat_lit 261,fO "_law_free_goal" "_law_free_goal" a9d (.str "law_goaltrail_k45_whole_code_is_the_program" 422) 260)::(nat_lit 265,cO "_law_free_rule" "_law_free_rule" 564 565 566 239 5 3 262 181 263 .none .none 264 567 568)::(nat_lit 266,fO "_law_free_rule" "_law_free_rule" a6y (.str "law_goaltrail_k45_whole_code_is_the_program" 422) 265)::(nat_lit 270,cO "_law_slots" "_law_slots" 570 571 572 244 1 3 267 181 268 .none .none 269 573 574)::(nat_lit 271,fO "_law_slots" "_law_slots" b0t (.str "law_goaltrail_k45_whole_code_is_the_program" 422) 270)::(nat_lit 275,cO "_law_by_slots" "_law_by_slots" 576 577 578 254 2 3 272 181 273 .none .none 274 579 580)::(nat_lit 276,fO "_law_by_slots" "_law_by_slots" a7t (.str "law_goaltrail_k45_whole_code_is_the_program" 422) 275)::(nat_lit 282,cO "_law_rows_are" "_law_rows_are" 582 583 584 260 1 3 277 181 278 (.ref 279) (.ref 280) 281 590 591)::(nat_lit 283,fO "_law_rows_are" "_law_rows_are" b0l (.str "law_goaltrail_k45_whole_code_is_the_program" 422) 282)::(nat_lit 287,cO "_law_head" "_law_head" 593 594 595 274 2 3 284 181 285 .none .none 286 596 597)::(nat_lit 288,fO "_law_head" "_law_head" b3f (.str "law_goaltrail_k45_whole_code_is_the_program" 422) 287)::(nat_lit 292,cO "_law_built" "_law_built" 599 600 601 294 2 3 289 181 290 .none .none 291 602 603)::(nat_lit 293,fO "_law_built" "_law_built" b0u (.str "law_goaltrail_k45_whole_code_is_the_program" 422) 292)::(nat_lit 297,cO "_law_taken" "_law_taken" 605 606 607 301 3 3 294 181 295 .none .none 296 608 609)::(nat_lit 298,fO "_law_taken" "_law_taken" b0v (.str "law_goaltrail_k45_whole_code_is_the_program" 422) 297)::(nat_lit 304,cO "_law_goal_read" "_law_goal_read" 611 612 613 303 2 3 299 181 300 (.ref 301) (.ref 302) 303 620 621)::(nat_lit 305,fO "_law_goal_read" "_law_goal_read" a9e (.str "law_goaltrail_k45_whole_code_is_the_program" 422) 304)::(nat_lit 309,cO "_law_rule_right" "_law_rule_right" 623 624 625 328 4 3 306 181 307 .none .none 308 626 627)::(nat_lit 310,fO "_law_rule_right" "_law_rule_right" a6k (.str "law_goaltrail_k45_whole_code_is_the_program" 422) 309)::(nat_lit 314,cO "_law_news" "_law_news" 629 630 631 352 2 3 311 181 312 .none .none 313 632 633)::(nat_lit 315,fO "_law_news" "_law_news" b3g (.str "law_goaltrail_k45_whole_code_is_the_program" 422) 314)::(nat_lit 321,cO "_law_key" "_law_key" 635 636 637 354 1 3 316 181 317 (.ref 318) (.ref 319) 320 640 641)::(nat_lit 322,fO "_law_key" "_law_key" b9v (.str "law_goaltrail_k45_whole_code_is_the_program" 422) 321)::(nat_lit 328,cO "_law_switch" "_law_switch" 643 644 645 361 1 3 323 181 324 (.ref 325) (.ref 326) 327 653 654)::(nat_lit 329,fO "_law_switch" "_law_switch" b3h (.str "law_goaltrail_k45_whole_code_is_the_program" 422) 328)::(nat_lit 333,cO "_law_right" "_law_right" 656 657 658 374 2 3 330 181 331 .none .none 332 659 660)::(nat_lit 334,fO "_law_right" "_law_right" b0w (.str "law_goaltrail_k45_whole_code_is_the_program" 422) 333)::(nat_lit 338,cO "_law_rules" "_law_rules" 662 663 664 394 1 3 335 181 336 .none .none 337 665 666)::(nat_lit 339,fO "_law_rules" "_law_rules" b0x (.str "law_goaltrail_k45_whole_code_is_the_program" 422) 338)::(nat_lit 345,cO "law" "law" 668 669 670 412 1 3 340 181 341 (.ref 342) (.ref 343) 344 676 677)::(nat_lit 346,fO "law" "law" s_law (.str "law_goaltrail_k45_whole_code_is_the_program" 422) 345)::[]
noncomputable def prog:Program:=PySem.Challenge.pw_goaltrail_k45_whole_code_is_the_program
noncomputable def Q:Program:=W.view prog [1,2,3,4,5,6,7,9,11,12,13,14,16,17,18,20,21,22,23,25,26,27,28,29,30,31,32,33,34,35,36,37,38,39,40,41,42,43,44,45,46,47,48,49,50,51,52,53,54]
noncomputable def loose:List Str:=["MARK_ROWS"]
noncomputable def Xt(s:Shared):Bool:=W.xlAt Q [] s&&W.recOk [] s
noncomputable def ads:List Addr:=[2,3,20,21,25,26,32,33,39,40,46,47,53,54,60,61,67,68,74,75,76,89,90,96,97,103,104,110,111,117,118,124,125,131,132,138,139,141,142,152,153,159,160,166,167,173,174,180,181,187,188,194,195,201,202,206,207,213,214,220,221,227,228,234,235,239,240,246,247,253,254,260,261,265,266,270,271,275,276,282,283,287,288,292,293,297,298,304,305,309,310,314,315,321,322,328,329,333,334,338,339,345,346]
noncomputable def RP(w:World):Prop:=(λos=>(W.segRunT treeTable prog w 11 (some (.ref 6)) 0 1903 (bootS w os) (W.topStub prog)).map λr=>looks prog Q loose Xt (λs=>ads.map s.heap.get?) true (W.boot_heap w.params) r.2.1.abs)=λ_=>some (true,W.openGood Q loose,(KK w.params).map λp=>some p.2)
theorem runF(w:World):RP (w.withFollow "special-get-raises" false):=by
 unfold RP
 delta Xt Q loose
 rw[U9,U8,W.Fast.te2530740449226627131,W.Fast.te3486900944545009338,W.Fast.te10845986317416049621,W.Fast.te5655336392911312201,W.Fast.te4757257242682413121,W.Fast.te6483871617321286689,W.Fast.te15055690906229335287]
 kernel_rfl
theorem runT(w:World):RP (w.withFollow "special-get-raises" true):=by
 unfold RP
 delta Xt Q loose
 rw[U9,U8,W.Fast.te2530740449226627131,W.Fast.te3486900944545009338,W.Fast.te10845986317416049621,W.Fast.te5655336392911312201,W.Fast.te4757257242682413121,W.Fast.te6483871617321286689,W.Fast.te15055690906229335287]
 kernel_rfl
theorem run1:∀w:World,RP w:=W.byRow2 "special-get-raises" runF runT
theorem left1:W.LeftO prog Q loose Xt (λs=>ads.map s.heap.get?) (λw=>(KK w.params).map λp=>some p.2) 1903:=left_of (by kernel_rfl) qd (λ_=>by kernel_rfl) c9u qd run1
theorem said1:PySem.Challenge.rw_goaltrail_k45_whole_code_is_the_program.wellSaid=true:=by
 w_on
 rw[W.Fast.te9446332074065402090]
 kernel_rfl
theorem b6s(sl:Str->Nat):∀(a:List Trm)(k:Trm)(c C:Nat)(met:List Str),taL sl (a++[k]) c C met=taL sl a c C met++ta sl k (c+a.length) (C+(Trm.sizeL a-a.length)) (ordL a met)
 | [],k,c,C,met=>by
  rw[Yx,taL,taL,taL,Z7,Yx,ordL]
  simp[Trm.sizeL]
 |b::a,k,c,C,met=>by
  have bp:=b.size_pos;have zl:=Trm.len_le a;rw[Yh,taL,taL,b6s sl a k (c+1) _ _,Zt,ordL]
  congr 2
  congr 1
  ·simp only[length_cons];omega
  ·simp only[Trm.sizeL,length_cons];omega
theorem valB(met:List Str)(x:Str):valV (encB met) (Sum.inr x)=if x∈met then some (.bl true)else none:=by
 induction met with
 |nil=>rfl
 |cons y r ih=>
  by_cases e:y=x
  ·rw[show encB (y::r)=(Sum.inr y,V.bl true)::encB r from rfl,a2d (by rw[e]),if_pos (by rw[e];exact Z0 ..)]
  ·rw[show encB (y::r)=(Sum.inr y,V.bl true)::encB r from rfl,a1o (λz=>e (Vy z)),ih]
   by_cases h:x∈r
   ·rw[if_pos h,if_pos (Zw _ h)]
   ·rw[if_neg h,if_neg (λz=>by rcases Zo.mp z with q|q;exact e q.symm;exact h q)]
theorem b2g{ks:List Trm}{i:Nat}(h:i<ks.length):∀x∈vars ks[i],x∈a1b ks:=b9t (Zx h)
theorem a3v{ks:List Trm}{i:Nat}(h:i<ks.length):Trm.sizeL (ks.take (i+1))=Trm.sizeL (ks.take i)+ks[i].size:=by
 rw[take_succ' h,Trm.sizeL_app]
 simp[Trm.sizeL]
theorem a6a{ks:List Trm}{i:Nat}(h:i<=ks.length):(ks.take i).length=i:=by rw[Z5];omega
section
variable{K:W.Frag}{H:Hp}{p:Addr}
theorem d4l{c:Nat}{n:Int}(h:SqT K H p [.str numS,.int c,.int n]):Den K H (.ref p) (Rw.num c n).data:=.tup h (.cons (.str _) (.cons (.int _) (.cons (.int _) .nil)))
theorem d1t{c s:Nat}(h:SqT K H p [.str b5d,.int c,.int s]):Den K H (.ref p) (Rw.slot c s).data:=.tup h (.cons (.str _) (.cons (.int _) (.cons (.int _) .nil)))
theorem d1u{c s:Nat}(h:SqT K H p [.str b5e,.int c,.int s]):Den K H (.ref p) (Rw.same c s).data:=.tup h (.cons (.str _) (.cons (.int _) (.cons (.int _) .nil)))
theorem d4m{c m f:Nat}{g:Str}(h:SqT K H p [.str appS,.int c,.str g,.int m,.int f]):Den K H (.ref p) (Rw.app c g m f).data:=.tup h (.cons (.str _) (.cons (.int _) (.cons (.str _) (.cons (.int _) (.cons (.int _) .nil)))))
theorem den_1{s:Str}(h:SqT K H p [.str s]):Den K H (.ref p) (.tuple [.str s]):=.tup h (.cons (.str _) .nil)
end
theorem c0z{K:W.Frag}{H:Hp}(sl:Str->Nat)(ks:List Trm)(c C:Nat)(met:List Str):DenL K H [] ((taL sl (ks.take 0) c C met).map Rw.data):=by rw[Xb,taL];exact .nil
mutual
theorem c4d(sl:Str->Nat):∀(t:Trm)(c C:Nat)(met:List Str),(ta sl t c C met).length=t.size
 | .num n,c,C,met=>by rw[ta];rfl
 | .any x,c,C,met=>by rw[ta];rfl
 | .app s ks,c,C,met=>by rw[ta,length_cons,a9x sl ks];simp only[Trm.size];omega
theorem a9x(sl:Str->Nat):∀(ks:List Trm)(c C:Nat)(met:List Str),(taL sl ks c C met).length=Trm.sizeL ks
 | [],c,C,met=>by rw[taL];rfl
 |k::ks,c,C,met=>by rw[taL,Zc,c4d sl k,a9x sl ks,Trm.sizeL]
end
section
variable{K:W.Frag}{H:Hp}{p:Addr}{sl:Str->Nat}
theorem den_pn{c:Nat}{n:Int}(h:SqT K H p [.str a9o,.int c,.int n]):Den K H (.ref p) ((Br.pnum c n).data sl):=.tup h (.cons (.str _) (.cons (.int _) (.cons (.int _) .nil)))
theorem den_pt{c:Nat}{x:Str}(h:SqT K H p [.str putS,.int c,.int (sl x)]):Den K H (.ref p) ((Br.put c x).data sl):=.tup h (.cons (.str _) (.cons (.int _) (.cons (.int _) .nil)))
theorem den_bd{c f m:Nat}{g:Str}{ks:List Trm}(e:m=ks.length)(h:SqT K H p [.str bldS,.int c,.str g,.int m,.int f]):Den K H (.ref p) ((Br.bld c g ks f).data sl):=by
 subst e;exact .tup h (.cons (.str _) (.cons (.int _) (.cons (.str _) (.cons (.int _) (.cons (.int _) .nil)))))
end
theorem b8n{K:W.Frag}{H:Hp}(sl:Str->Nat)(ks:List Trm)(c C:Nat):DenL K H [] ((brL (ks.take 0) c C).map (Br.data sl)):=by rw[Xb,brL];exact .nil
local macro_rules | `(tactic| walk_at "iF") => `(tactic| ((try with_reducible refine a5y (by assumption) ?_); refine iteF ?_))
local macro_rules | `(tactic| walk_at "iT") => `(tactic| ((try with_reducible refine a5y (by assumption) ?_); refine iteT ?_))
local macro_rules | `(tactic| walk_at "in") => `(tactic| repeat (with_reducible first | refine aR_i (fun _ => ?_) | refine aI_i (fun _ => ?_) | refine aS_i (fun _ => ?_) | refine aB_i (fun _ => ?_) | refine aV_i (fun _ => ?_) | refine aE_i ?_))
section
variable{P:Program}{w:World}{K:W.Frag}{mg:Str->Option Value}{base:Heap}{t:Ad}
theorem d1v(T:Txt K mg t)  :FnOk P w K mg base CX0 1 t.a_d7 t.d_d7 ["term"] (c0y K):=by
 exists T.F_d7.ok d1m,(a0e (a0y (a0s a1g (a0j (a0h K rfl) (mv 0) a0d (λ_ _=>rfl)) a0k (a0t _)) (a0g (a0q (a0x (a0a a0k (a0a (a0j (a0h K rfl) (mv 0) a0d (λ_ _=>rfl)) a0c))))) a0v) (a0e (a0y (a0s a1g (a0j (a0h K rfl) (mv 0) a0d (λ_ _=>rfl)) a0k (a0t _)) (a0g (a0q (a0x (a0a a0k (a0a (a0j (a0h K rfl) (mv 0) a0d (λ_ _=>rfl)) (a0a (a0r (a1k K rfl) rfl T.n_a3 Zq (a0a (a0j (a0h K rfl) (mv 0) a0d (λ_ _=>rfl)) a0c)) a0c)))))) a0v) (a0g (a0q a3i)))),H,Q,E,hr,h
 rename_i v;obtain⟨t0,hd,q⟩:=h;cases t0 with
 |num m=>
  obtain⟨a,rfl,hs⟩:=a6g hd;walk_at "s"
  exists a0i hs (v:=.str numS) rfl
  rw[Zz,d4];walk_at "D"
  exists a0i hs (v:=.int m) rfl
  refine⟨ln (by show 2<=100000;decide),λp hp=>?_⟩;exact q _ _ (a0f hp _) ⟨p,rfl,a0b⟩
 |any m=>
  obtain⟨a,rfl,hs⟩:=a6h hd;walk_at "s"
  exists a0i hs (v:=.str anyS) rfl
  rw[Zz,d5];walk_at "C"
  exists a0i hs (v:=.str anyS) rfl
  rw[Zz,d2];walk_at "C";exact q _ _ (Same.refl H) rfl
 |app sg ks=>
  obtain⟨a,b,us,rfl,hs,hb,hk⟩:=a3f hd;walk_at "s"
  exists a0i hs (v:=.str appS) rfl
  rw[Zz,d6];walk_at "C"
  exists a0i hs (v:=.str appS) rfl
  rw[Zz,d3];walk_at "D"
  exists a0i hs (v:=.str sg) rfl
  exists a0i hs (v:=.ref b) rfl
  exists a2t hb
  have hl:=hk.length;rw[Trm.dataL_map,length_map]at hl;refine⟨ln (by show 3<=100000;decide),λp hp=>?_⟩;rw[hl];exact q _ _ (a0f hp _) ⟨p,rfl,a0b⟩
theorem c4e(T:Txt K mg t)(G_d7:FnOk P w K mg base CX0 1 t.a_d7 t.d_d7 ["term"] (c0y K)):FnOk P w K mg base CX0 2 t.a_d9 t.d_d9 ["head"] (b4m K):=by
 exists T.F_d9.ok c3u,(a0g (a0q (b5v (a2q K rfl (a0j (a0h K rfl) (mv 0) a0d (λ_ _=>rfl))) (a0m G_d7 (hr.mono (by walk_at "r")) rfl T.m_d7 T.F_d7.kp T.b_d7 .nil a0n (a0a (a0j (a0h K rfl) (a0j (a0h K rfl) (mv 0) a0d (λ_ _=>rfl)) a0d (λ_ _=>rfl)) a0c)) a3i))),H,Q,E,hr,h
 rename_i v;obtain⟨t0,hd,hh,q⟩:=h;obtain⟨⟨sg,ks,rfl⟩,_⟩:=hh;obtain⟨a,b,us,rfl,hs,hb,hk0⟩:=a3f hd;walk_at "s"
 exists a0i hs (v:=.ref b) rfl
 refine .inr (.inl ⟨us,hb,?_⟩);cases ks with
 |nil=>
  cases hk0;walk_at "C";exact q _ _ (Same.refl H) rfl
 |cons k r=>
  cases hk0 with
  |cons h1 h2=>
   walk_at "D"
   exists a0i hs (v:=.ref b) rfl
   refine a0i hb (a3n (j:=0) rfl) ?_;exact⟨k,h1,λv' H' s1 hk=>q v' H' s1 hk⟩
theorem c4f(T:Txt K mg t)(G_d9:FnOk P w K mg base CX0 2 t.a_d9 t.d_d9 ["head"] (b4m K)):FnOk P w K mg base CX0 3 t.a_d1 t.d_d1 ["heads"] (b4n K):=by
 exists T.F_d1.ok a2i,(a0e (a0p (i:=1) a2i.nd rfl (by walk_at "or1") a7y) (a0e (a0p (i:=2) a2i.nd rfl (by walk_at "or1") a0d) (a0e (a0p (i:=3) a2i.nd rfl (by walk_at "or1") a0d) (a0e (a1p Zv rfl (c3e K rfl rfl T.n_f5 (a0a (mv 0) a0c)) (a7g K rfl rfl (a2n (a1a (i:=4) a2i.nd rfl (by walk_at "or1")) (a2n (a1a (i:=5) a2i.nd rfl (by walk_at "or1")) a7e))) (a0e (a0p (i:=6) (hs:=a3l) a2i.nd rfl (by walk_at "or1") (a0u b7z a0d (mv 4))) (a0e (a0p (i:=3) (hs:=a3l) a2i.nd rfl (by walk_at "or1") (a0u c2c (mv 3) (mv 6))) (a0e (a0p (i:=7) (hs:=a1n) a2i.nd rfl (by walk_at "or1") (a0m G_d9 (hr.mono (by walk_at "r")) rfl T.m_d9 T.F_d9.kp T.b_d9 .nil a0n (a0a (mv 5) a0c))) (a0g (a0y (a0s b3z (mv 7) a3i (a0t _)) (a0e (a0p (i:=2) (hs:=a3l) a2i.nd rfl (by walk_at "or1") (a0u c2c (mv 2) (mv 6))) (a0g (a1p Zv rfl (a6z K rfl (a2f (b6b rfl) rfl T.n_f1 W4 (a0a (mv 1) a0c))) (a1a (i:=8) a2i.nd rfl (by walk_at "or1")) (a0g (a3e (a1h hr) (mv 1) (mv 8) (a0u c2c (a2p (a1h hr) (mv 1) (mv 8) (λ_ _=>rfl)) (mv 6)) rfl))))) (a0g (a3e (a1h hr) (mv 1) (mv 7) (a0u c2c (c2t (a1h hr) (mv 1) (mv 7) (mv 2) ⟨rfl,rfl,rfl,rfl⟩) (mv 6)) rfl)))))))) (a0g (a0q (a0x (a0a (mv 1) (a0a (mv 2) (a0a (mv 3) a0c)))))))))),H,Q,E,hr,h
 rename_i p;obtain⟨us,hs,hS,hd,hh,hn,q⟩:=h;have hul:us.length=hs.length:=by rw[hd.length,Trm.dataL_map,length_map]
 walk_at "s";intro d hd0;walk_at "s";refine⟨p,us,rfl,(a0f hd0 _).seq hS,?_⟩;generalize hks:hs.map hk=ks at q;have hkl:ks.length=hs.length:=by rw[<-hks,length_map]
 refine for_en (xs:=us) (λi σ' H'=>∃(o4 o5 o6 o7 o8:Option V)(kvs:KVs),σ'=[some (.ref p),some (.ref d),some (.int (bt isN (ks.take i))),some (.int (2^i-1)),o4,o5,o6,o7,o8]/\Same H H'/\H' d=some (.dT kvs)/\DOk kvs (ks.take i)) ⟨none,none,none,none,none,[],rfl,a0f hd0 _,a0b,rfl,λk hk=>by simp[dk]at hk⟩ (λi σ' H' hP=>by obtain⟨_,_,_,_,_,_,_,s1,_⟩:=hP;exact s1.seq hS) (λi σ' H' T hi hP hT=>?_) (λσ' H' hP=>?_)
 ·obtain⟨o4,o5,o6,o7,o8,kvs,rfl,s1,hdd,hok⟩:=hP;have hki:i<ks.length:=by omega
  have hti:(ks.take i).length=i:=by rw[Z5];omega
  have hti1:ks.take (i+1)=ks.take i++[ks[i]]:=by rw[X5,Za hki];rfl
  generalize hksi:ks.take i=ksi at hok hti hti1;have hkvl:kvs.length<=50:=by
   have h1:=hok.len;have h2:=b8l ksi;omega
  exists a8r (SqT.of a0b) rfl
  exists m2_i (C:=CPow) ⟨qo,qo,qd⟩
  (repeat (rename_i zz;subst zz))
  rw[mul_bit];have hw:Builtin.bitOr (2^i-1) (1*2^i)=2^(i+1)-1:=by
   have hp:(0:Int)<2^i:=Int.pow_pos qd;rw[b8m qo qo,Sb];omega
  rw[hw];have s2:Same H' (upd H' T (.tup [.int i,us.getD i .non])):=a0f hT _;have hx:us[i]? =some us[i]:=Za hi
  have hg:us.getD i .non=us[i]:=by rw[Zk,hx];rfl
  obtain⟨dd,e1,e2⟩:=hd.get hx;have hhi:i<hs.length:=by omega
  rw[Trm.dataL_map,Zs,Za hhi]at e1;have e1:hs[i].data=dd:=Zi e1;subst e1;have hkk:hk hs[i]=ks[i]:=by
   have:ks[i]? =some (hk hs[i]):=by rw[<-hks,Zs,Za hhi];rfl
   rw[Za hki]at this;exact(Zi this).symm
  generalize hH1:upd H' T (.tup [.int i,us.getD i .non])=H1 at s2;rw[hg];refine⟨hs[i],(e2.mono s1).mono s2,hh _ (Zx hhi),λv' H2 s3 hkv=>?_⟩;rw[hkk]at hkv;have s4:Same H H2:=s1.trans (s2.trans s3);have hd2:H2 d=some (.dT kvs):=(s2.trans s3) _ _ hdd;generalize hko:ks[i]=ko at hkv hti1;cases ko with
  |none=>
   cases hkv;walk_at "B";have hot:Builtin.bitOr (bt isN ksi) (1*2^i)=bt isN (ks.take (i+1)):=by
    have h1:=c2f isN ksi;rw[hti]at h1;rw[b8m (c2e _ _) h1,hti1,a5k,hti];rfl
   rw[hot];refine⟨d,kvs,rfl,hd2,λLp bs hLp hbl hbs=>?_⟩;refine⟨Lp,rfl,⟨_,SqL.of a0b⟩,?_⟩;have hLd:d≠Lp:=a1m hd2 hLp;have hLH:H Lp=none:=s4.free hLp;have hbt:∀(m:Nat)(k:List Key),(dk ksi)[m]? =some k->∃b,bs[m]? =some b/\H2 b=some (.tup (k.map kV)):=λm k e=>by
    rw[<-hok.1,Zs]at e;obtain⟨kv,h1,h2⟩:=Ym.mp e;subst h2;exact hbs m kv.1 kv.2 h1
   have hbl':bs.length=(dk ksi).length:=by rw[hbl];exact hok.len
   have nd:=dk_nd ksi;refine a1t (a4x (xs:=bs.map V.ref)) (λj σ' H3=>∃(o8:Option V)(kvs':KVs),σ'=[some (.ref p),some (.ref d),some (.int (bt isN (ks.take (i+1)))),some (.int (2^(i+1)-1)),some (.int i),some us[i],some (.int (1*2^i)),some .non,o8]/\Same H H3/\H3 Lp=some (.lst (bs.map V.ref))/\H3 d=some (.dT kvs')/\kvs'.map (·.1)=dk ksi/\(∀(m:Nat)(k:List Key),(dk ksi)[m]? =some k->valV kvs' k=some (.int (bt (pk k) ksi+if m<j then 2^i else 0)))/\(∀(m:Nat)(k:List Key),(dk ksi)[m]? =some k->∃b,bs[m]? =some b/\H3 b=some (.tup (k.map kV)))) ⟨_,kvs,rfl,s4.trans (a0f hLp _),a0b,by rw[a0l hLd];exact hd2,hok.1,λm k e=>?_,λm k e=>?_⟩ (λj σ' H3 hP=>by obtain⟨_,_,_,_,h1,_⟩:=hP;exact SqL.of h1) (λj σ' H3 hj hP=>?_) (λσ' H3 hP=>?_)
   ·rw[hok.2 k (Y0 e)]
    simp
   ·obtain⟨b,h1,h2⟩:=hbt m k e;exact⟨b,h1,(a0f hLp _) _ _ h2⟩
   ·obtain⟨o8,kvs',rfl,z1,z2,z3,z4,z5,z6⟩:=hP;have hj:j<(dk ksi).length:=by rw[length_map]at hj;omega
    have hkj:(dk ksi)[j]? =some (dk ksi)[j]:=Za hj
    obtain⟨b,hb1,hb2⟩:=z6 j _ hkj;have hv:=z5 j _ hkj;rw[if_neg (Yt j),Vo]at hv;have hbg:(bs.map V.ref).getD j .non=.ref b:=by rw[Zk,Zs,hb1];rfl
    rw[hbg];walk_at "s";refine⟨d,_,rfl,hv▸DGet.t z3 hb2,?_⟩;walk_at "s";have hbb:=c2f (pk (dk ksi)[j]) ksi;rw[hti]at hbb;rw[b8m (c2e _ _) hbb];have hkl':kvs'.length<=50:=by
     have h1:=Xg List.length z4;rw[length_map]at h1;have h2:=b8l ksi;omega
    refine⟨d,_,rfl,DPut.t z3 hb2 (ln1 qo),?_⟩;have hmem:(dk ksi)[j]∈kvs'.map (·.1):=by rw[z4];exact Zx hj
    refine⟨_,_,rfl,a1c z1 hd0,by rw[a0l (Ne.symm hLd)];exact z2,a0b,by rw[b0o _ hmem];exact z4,λm k e=>?_,λm k e=>?_⟩
    ·rw[a7w]
     by_cases hm:k=(dk ksi)[j]
     ·rw[if_pos hm];subst hm;obtain⟨hml,hme⟩:=Zh.mp e;have hmj:m=j:=(Vf nd).mp hme;rw[hmj,if_pos (Xo j)]
     ·rw[if_neg hm,z5 m k e];have hmj:m≠j:=λz=>hm (by subst z;rw[hkj]at e;exact(Zi e).symm)
      by_cases hlt:m<j
      ·rw[if_pos hlt,if_pos qo]
      ·rw[if_neg hlt,if_neg qo]
    ·obtain⟨b',h1,h2⟩:=z6 m k e;exact⟨b',h1,by rw[a0l (a1w h2 z3 (λz=>by cases z))];exact h2⟩
   ·obtain⟨o8,kvs',rfl,z1,z2,z3,z4,z5,z6⟩:=hP;refine⟨_,_,_,_,_,kvs',rfl,z1,z3,?_,?_⟩
    ·rw[hti1,a6q];exact z4
    ·intro k hk';rw[hti1,a6q]at hk';have hk':k∈dk ksi:=hk';obtain⟨m,hm⟩:=Wk.mp hk';have hml:m<(bs.map V.ref).length:=by
      rw[length_map,hbl'];exact(Zh.mp hm).1
     rw[z5 m k hm,if_pos hml,hti1,a5k,hti];rfl
  |some k=>
   obtain⟨b,rfl,hb⟩:=hkv;walk_at "A";refine⟨d,rfl,.inr ⟨kvs,.inl hd2⟩,?_⟩;walk_at "s";refine⟨_,DGet.t hd2 hb,?_⟩;have hval:((valV kvs k).getD (.int (bt isN ksi)))=.int (bt (pk k) ksi):=by
    by_cases hm:k∈dk ksi
    ·rw[hok.2 k hm];rfl
    ·rw[c6l (by rw[hok.1];exact hm)]
     show V.int (bt isN ksi)=_
     congr 1
     refine c4c λx hx=>?_
     unfold isN pk;have:x≠some k:=λz=>hm ((b4l ksi k).mpr (z▸hx))
     rw[Z4 this,Zy9]
   rw[hval];walk_at "s";have hbb:=c2f (pk k) ksi;rw[hti]at hbb;rw[b8m (c2e _ _) hbb];refine⟨d,_,rfl,DPut.t hd2 hb (ln1 qo),?_⟩;have hnew:bt (pk k) ksi+2^i=bt (pk k) (ks.take (i+1)):=by
    rw[hti1,a5k,hti];have:pk k (some k)=true:=by unfold pk;simp
    rw[this];rfl
   have hoth:bt isN (ks.take (i+1))=bt isN ksi:=by
    rw[hti1,a5k];have:isN (some k)=false:=by unfold isN;simp
    rw[this]
    simp
   refine⟨_,_,_,_,_,_,by rw[hoth];rfl,a1c s4 hd0,a0b,?_,?_⟩
   ·rw[hti1,a6q]
    by_cases hm:k∈dk ksi
    ·rw[b2e hm,b0o _ (by rw[hok.1];exact hm)];exact hok.1
    ·rw[b2f hm,c6k _ (by rw[hok.1];exact hm),hok.1]
   ·intro j hj;rw[a7w]
    by_cases hjk:j=k
    ·rw[if_pos hjk,hjk,hnew]
    ·rw[if_neg hjk];have hj':j∈dk ksi:=by
      rw[b4l,hti1,Zm,Zr]at hj;rcases hj with h1|h1
      ·exact(b4l ksi j).mpr h1
      ·exact absurd (Zi h1) hjk
     rw[hok.2 j hj',hti1,a5k];have:pk j (some k)=false:=by
      unfold pk
      simp
      exactλz=>hjk z.symm
     rw[this]
     simp
 ·obtain⟨o4,o5,o6,o7,o8,kvs,rfl,s1,hdd,hok⟩:=hP;walk_at "s";refine⟨ln (by show 3<=100000;decide),λr hr=>?_⟩;have e1:ks.take us.length=ks:=Zy qo;rw[e1]at hok ⊢;rw[hul];exact q r d kvs _ (s1.trans (a0f hr _)) hd0 ((a0f hr _) _ _ hdd) (SqT.of a0b) hok
end
def KT(K:W.Frag)(H H':Hp):Prop:=∀a xs,SqT K H a xs->SqT K H' a xs
theorem KT.trans{K:W.Frag}{H H1 H2:Hp}(a:KT K H H1)(b:KT K H1 H2):KT K H H2:=λc xs h=>b _ _ (a _ _ h)
theorem KT.same{K:W.Frag}{H H':Hp}(s:Same H H'):KT K H H':=λ_ _ h=>s.tup h
theorem KT.upd{K:W.Frag}{H:Hp}{p:Addr}{o o0:HO}(h:H p=some o0)(h1:∀xs,o0≠.tup xs)(h2:∀o' xs,o0≠.frz o' (.tup xs)):KT K H (upd H p o):=λa xs q=>by
 rcases q with(q|⟨o',q⟩)|q
 ·exact .inl (.inl (by rw[a0l (a1w q h (λz=>h1 _ z.symm))];exact q))
 ·exact .inl (.inr ⟨o',by rw[a0l (a1w q h (λz=>h2 _ _ z.symm))];exact q⟩)
 ·exact .inr q
mutual
inductive Dm(K:W.Frag)(H:Hp)(M:List Addr):V->PyData->Prop
 |non:Dm K H M .non .none
 |bl (b:Bool):Dm K H M (.bl b) (.bool b)
 |int (i:Int):Dm K H M (.int i) (.int i)
 |str (x:Str):Dm K H M (.str x) (.str x)
 |tup {a:Addr} {us:List V} {ds:List PyData}:SqT K H a us->DmL K H M us ds->Dm K H M (.ref a) (.tuple ds)
 |lst {a:Addr} {us:List V} {ds:List PyData}:H a=some (.lst us)->a∉M->DmL K H M us ds->Dm K H M (.ref a) (.list ds)
inductive DmL(K:W.Frag)(H:Hp)(M:List Addr):List V->List PyData->Prop
 |nil:DmL K H M [] []
 |cons {u:V} {us:List V} {d:PyData} {ds:List PyData}:Dm K H M u d->DmL K H M us ds->DmL K H M (u::us) (d::ds)
end
structure Pr(K:W.Frag)(M:List Addr)(H H':Hp):Prop where
 kp:∀a o,a∉M->H a=some o->H' a=some o
 kt:KT K H H'
theorem Pr.same{K:W.Frag}{M:List Addr}{H H1:Hp}(s:Same H H1):Pr K M H H1:=⟨λc o _ h=>s c o h,KT.same s⟩
theorem Pr.upd{K:W.Frag}{M:List Addr}{H:Hp}{m:Addr}{o o0:HO}(hm:m∈M)(h:H m=some o0)(h1:∀xs,o0≠.tup xs)(h2:∀o' xs,o0≠.frz o' (.tup xs)):Pr K M H (upd H m o):=⟨λc o n e=>by rw[a0l (λz=>n (by rw[z];exact hm))];exact e,KT.upd h h1 h2⟩
mutual
theorem Dm.pr{K:W.Frag}{M:List Addr}{H H':Hp}(p:Pr K M H H'):∀{v:V}{d:PyData},Dm K H M v d->Dm K H' M v d
 |_,_,.non=>.non
 |_,_,.bl b=>.bl b
 |_,_,.int i=>.int i
 |_,_,.str x=>.str x
 |_,_,.tup h l=>.tup (p.kt _ _ h) (DmL.pr p l)
 |_,_,.lst h n l=>.lst (p.kp _ _ n h) n (DmL.pr p l)
theorem DmL.pr{K:W.Frag}{M:List Addr}{H H':Hp}(p:Pr K M H H'):∀{v:List V}{d:List PyData},DmL K H M v d->DmL K H' M v d
 |_,_,.nil=>.nil
 |_,_,.cons h l=>.cons (Dm.pr p h) (DmL.pr p l)
end
mutual
theorem Dm.dx{K:W.Frag}{M:List Addr}{H:Hp}:∀{v:V}{d:PyData},Dm K H M v d->Dx K H v d
 |_,_,.non=>.non
 |_,_,.bl b=>.bl b
 |_,_,.int i=>.int i
 |_,_,.str x=>.str x
 |_,_,.tup h l=>.tup h (DmL.dx l)
 |_,_,.lst h _ l=>.lst (SqL.of h) (DmL.dx l)
theorem DmL.dx{K:W.Frag}{M:List Addr}{H:Hp}:∀{v:List V}{d:List PyData},DmL K H M v d->DxL K H v d
 |_,_,.nil=>.nil
 |_,_,.cons h l=>.cons (Dm.dx h) (DmL.dx l)
end
mutual
theorem Den.dm{K:W.Frag}{M:List Addr}{H:Hp}:∀{v:V}{d:PyData},Den K H v d->Dm K H M v d
 |_,_,.non=>.non
 |_,_,.bl b=>.bl b
 |_,_,.int i=>.int i
 |_,_,.str x=>.str x
 |_,_,.tup h l=>.tup h (DenL.dm l)
theorem DenL.dm{K:W.Frag}{M:List Addr}{H:Hp}:∀{v:List V}{d:List PyData},DenL K H v d->DmL K H M v d
 |_,_,.nil=>.nil
 |_,_,.cons h l=>.cons (Den.dm h) (DenL.dm l)
end
theorem DmL.append{K:W.Frag}{M:List Addr}{H:Hp}:∀{us vs:List V}{ds es:List PyData},DmL K H M us ds->DmL K H M vs es->DmL K H M (us++vs) (ds++es)
 |_,_,_,_,.nil,l=>l
 |_,_,_,_,.cons h t,l=>.cons h (DmL.append t l)
theorem DmL.length{K:W.Frag}{M:List Addr}{H:Hp}:∀{us:List V}{ds:List PyData},DmL K H M us ds->us.length=ds.length
 |_,_,.nil=>rfl
 |_,_,.cons _ l=>by rw[length_cons,length_cons,DmL.length l]
mutual
theorem c4g{K:W.Frag}{M:List Addr}{H:Hp}:∀(t:Trm){v:V},Dm K H M v t.data↔Den K H v t.data
 | .num n,v=>⟨λh=>by cases h with|tup a b=>exact .tup a (by cases b with|cons c d=>cases c;cases d with|cons e f=>cases e;cases f;exact .cons (.str _) (.cons (.int _) .nil)),λh=>by cases h with|tup a b=>exact .tup a (by cases b with|cons c d=>cases c;cases d with|cons e f=>cases e;cases f;exact .cons (.str _) (.cons (.int _) .nil))⟩
 | .any n,v=>⟨λh=>by cases h with|tup a b=>exact .tup a (by cases b with|cons c d=>cases c;cases d with|cons e f=>cases e;cases f;exact .cons (.str _) (.cons (.str _) .nil)),λh=>by cases h with|tup a b=>exact .tup a (by cases b with|cons c d=>cases c;cases d with|cons e f=>cases e;cases f;exact .cons (.str _) (.cons (.str _) .nil))⟩
 | .app s ks,v=>⟨λh=>by
   cases h with
   |tup a b=>
    refine .tup a ?_;cases b with
    |cons c d=>
     cases c;cases d with
     |cons e f=>
      cases e;cases f with
      |cons g i=>
       cases i;cases g with
       |tup p q=>exact .cons (.str _) (.cons (.str _) (.cons (.tup p ((b2h ks).mp q)) .nil)),λh=>by
   cases h with
   |tup a b=>
    refine .tup a ?_;cases b with
    |cons c d=>
     cases c;cases d with
     |cons e f=>
      cases e;cases f with
      |cons g i=>
       cases i;cases g with
       |tup p q=>exact .cons (.str _) (.cons (.str _) (.cons (.tup p ((b2h ks).mpr q)) .nil))⟩
theorem b2h{K:W.Frag}{M:List Addr}{H:Hp}:∀(ts:List Trm){us:List V},DmL K H M us (Trm.dataL ts)↔DenL K H us (Trm.dataL ts)
 | [],us=>⟨λh=>by cases h;exact .nil,λh=>by cases h;exact .nil⟩
 |t::r,us=>⟨λh=>by cases h with|cons a b=>exact .cons ((c4g t).mp a) ((b2h r).mp b),λh=>by cases h with|cons a b=>exact .cons ((c4g t).mpr a) ((b2h r).mpr b)⟩
end
abbrev nd(s:Str)(n:Nat):List Key:=[.inr s,.inl (n:Int)]
noncomputable def addT{α:Type}:List (List Key×List α)->List Key->α->List (List Key×List α)
 | [],k,x=>[(k,[x])]
 | (k',l)::r,k,x=>if k'=k then(k',l++[x])::r else(k',l)::addT r k x
mutual
theorem Dm.more{K:W.Frag}{M:List Addr}{H:Hp}{m:Addr}(n:H m=none):∀{v:V}{d:PyData},Dm K H M v d->Dm K H (m::M) v d
 |_,_,.non=>.non
 |_,_,.bl b=>.bl b
 |_,_,.int i=>.int i
 |_,_,.str x=>.str x
 |_,_,.tup h l=>.tup h (DmL.more n l)
 |_,_,.lst h e l=>.lst h (λz=>by
   rcases Zo.mp z with z|z
   ·rw[z,n]at h;cases h
   ·exact e z) (DmL.more n l)
theorem DmL.more{K:W.Frag}{M:List Addr}{H:Hp}{m:Addr}(n:H m=none):∀{v:List V}{d:List PyData},DmL K H M v d->DmL K H (m::M) v d
 |_,_,.nil=>.nil
 |_,_,.cons h l=>.cons (Dm.more n h) (DmL.more n l)
end
mutual
theorem Dm.weak{K:W.Frag}{M:List Addr}{H:Hp}:∀{v:V}{d:PyData},Dm K H M v d->Dm K H [] v d
 |_,_,.non=>.non
 |_,_,.bl b=>.bl b
 |_,_,.int i=>.int i
 |_,_,.str x=>.str x
 |_,_,.tup h l=>.tup h (DmL.weak l)
 |_,_,.lst h e l=>.lst h qz (DmL.weak l)
theorem DmL.weak{K:W.Frag}{M:List Addr}{H:Hp}:∀{v:List V}{d:List PyData},DmL K H M v d->DmL K H [] v d
 |_,_,.nil=>.nil
 |_,_,.cons h l=>.cons (Dm.weak h) (DmL.weak l)
end
structure TabM{α:Type}(fn:α->PyData)(K:W.Frag)(H0 H:Hp)(p:Addr)(M:List Addr)(kvs:List (List Key×V))(tab:List (List Key×List α)):Prop where
 sm:Same H0 H
 top:H p=some (.dT kvs)
 f:H0 p=none
 fm:∀m∈M,H0 m=none
 row:Paired (λ(a:List Key×V) (b:List Key×List α)=>a.1=b.1/\∃m us,a.2=.ref m/\m∈M/\H m=some (.lst us)/\DmL K H M us (b.2.map fn)) kvs tab
 nd:(kvs.map (·.2)).Nodup
 ex:∀m∈M,∃us,H m=some (.lst us)
theorem TabM.same{α:Type}{fn:α->PyData}{K:W.Frag}{H0 H H':Hp}{p:Addr}{M:List Addr}{kvs:List (List Key×V)}{tab:List (List Key×List α)}(h:TabM fn K H0 H p M kvs tab)(s:Same H H'):TabM fn K H0 H' p M kvs tab:=
 ⟨h.sm.trans s,s _ _ h.top,h.f,h.fm,Paired.mapP h.row λ_ _ ⟨e,m,us,e1,e2,e3,e4⟩=>⟨e,m,us,e1,e2,s _ _ e3,e4.pr (.same s)⟩,h.nd,λm hm=>let⟨us,e⟩:=h.ex m hm;⟨us,s _ _ e⟩⟩
theorem TabM.get{α:Type}{fn:α->PyData}{K:W.Frag}{H:Hp}{M:List Addr}{kvs:List (List Key×V)}{tab:List (List Key×List α)}(h:Paired (λ(a:List Key×V) (b:List Key×List α)=>a.1=b.1/\∃m us,a.2=.ref m/\m∈M/\H m=some (.lst us)/\DmL K H M us (b.2.map fn)) kvs tab)(k:List Key)(x:α):(valV kvs k=none/\addT tab k x=tab++[(k,[x])]/\putK kvs k=λv=>kvs++[(k,v)])\/∃k1 k2 m l1 l2 us l,kvs=k1++(k,.ref m)::k2/\valV kvs k=some (.ref m)/\m∈M/\H m=some (.lst us)/\DmL K H M us (l.map fn)/\tab=l1++(k,l)::l2/\addT tab k x=l1++(k,l++[x])::l2/\Paired (λ(a:List Key×V) (b:List Key×List α)=>a.1=b.1/\∃m us,a.2=.ref m/\m∈M/\H m=some (.lst us)/\DmL K H M us (b.2.map fn)) k1 l1/\Paired (λ(a:List Key×V) (b:List Key×List α)=>a.1=b.1/\∃m us,a.2=.ref m/\m∈M/\H m=some (.lst us)/\DmL K H M us (b.2.map fn)) k2 l2:=by
 induction h with
 |nil=>exact .inl ⟨rfl,rfl,rfl⟩
 | @cons a b kvs tab h t ih=>
  obtain⟨ka,va⟩:=a;obtain⟨kb,lb⟩:=b;obtain⟨e,m,us,e1,e2,e3,e4⟩:=h;have e:ka=kb:=e;have e1:va=.ref m:=e1;subst e;subst e1
  by_cases c:ka=k
  ·subst c;refine .inr ⟨[],kvs,m,[],tab,us,lb,rfl,?_,e2,e3,e4,rfl,?_,.nil,t⟩
   ·unfold valV;rw[List.find?_cons_of_pos (by exact Yg rfl)];rfl
   ·rw[addT,if_pos rfl];rfl
  ·have ev:valV ((ka,V.ref m)::kvs) k=valV kvs k:=by
    unfold valV;rw[List.find?_cons_of_neg (by simpa using c)]
   rcases ih with⟨g1,g2,g3⟩|⟨k1,k2,m',l1,l2,us',l,g1,g2,g3,g4,g5,g6,g7,g8,g9⟩
   ·refine .inl ⟨ev.trans g1,by rw[addT,if_neg c,g2];rfl,?_⟩
    funext v
    have g3:=congrFun g3 v;unfold putK at g3 ⊢;have hn:(kvs.any λkv=>decide (kv.1=k))=false:=by
     cases hh:(kvs.any λkv=>decide (kv.1=k))with
     |false=>rfl
     |true=>
      rw[Vg]at hh;obtain⟨kv,z1,z2⟩:=hh;unfold valV at g1;have:=List.find?_eq_none.mp (T6.mp g1) kv z1;exact absurd z2 this
    rw[Wy,hn,Z4 c];rfl
   ·refine .inr ⟨(ka,.ref m)::k1,k2,m',(ka,lb)::l1,l2,us',l,by rw[g1];rfl,ev.trans g2,g3,g4,g5,by rw[g6];rfl,by rw[addT,if_neg c,g7];rfl,.cons ⟨rfl,m,us,rfl,e2,e3,e4⟩ g8,g9⟩
mutual
theorem Dm.kl{K:W.Frag}{M:List Addr}{H H':Hp}(k:∀a us,a∉M->H a=some (.lst us)->H' a=some (.lst us))(kt:KT K H H'):∀{v:V}{d:PyData},Dm K H M v d->Dm K H' M v d
 |_,_,.non=>.non
 |_,_,.bl b=>.bl b
 |_,_,.int i=>.int i
 |_,_,.str x=>.str x
 |_,_,.tup h l=>.tup (kt _ _ h) (DmL.kl k kt l)
 |_,_,.lst h n l=>.lst (k _ _ n h) n (DmL.kl k kt l)
theorem DmL.kl{K:W.Frag}{M:List Addr}{H H':Hp}(k:∀a us,a∉M->H a=some (.lst us)->H' a=some (.lst us))(kt:KT K H H'):∀{v:List V}{d:List PyData},DmL K H M v d->DmL K H' M v d
 |_,_,.nil=>.nil
 |_,_,.cons h l=>.cons (Dm.kl k kt h) (DmL.kl k kt l)
end
abbrev TR{α:Type}(fn:α->PyData)(K:W.Frag)(H:Hp)(M:List Addr):List Key×V->List Key×List α->Prop:=λa b=>a.1=b.1/\∃m us,a.2=.ref m/\m∈M/\H m=some (.lst us)/\DmL K H M us (b.2.map fn)
theorem TR.apart{α:Type}{fn:α->PyData}{K:W.Frag}{H:Hp}{M:List Addr}{m:Addr}{o:HO}(p:Pr K M H (upd H m o)){k1:List (List Key×V)}{l1:List (List Key×List α)}(h:Paired (TR fn K H M) k1 l1)(n:V.ref m∉k1.map (·.2)):Paired (TR fn K (upd H m o) M) k1 l1:=by
 induction h with
 |nil=>exact .nil
 |cons z _ ih=>
  obtain⟨e,m',us,e1,e2,e3,e4⟩:=z;rw[Zp]at n;have hne:m'≠m:=λz=>n (by rw[e1,z];exact Z0 ..)
  exact .cons ⟨e,m',us,e1,e2,by rw[a0l hne];exact e3,e4.pr p⟩ (ih λz=>n (Zw _ z))
theorem b8o{α β:Type}{F:α->β->Prop}:∀{a1:List α}{b1:List β}{a2:List α}{b2:List β},Paired F a1 b1->Paired F a2 b2->Paired F (a1++a2) (b1++b2)
 |_,_,_,_,.nil,h=>h
 |_,_,_,_,.cons a t,h=>.cons a (b8o t h)
section
variable{α:Type}{fn:α->PyData}{K:W.Frag}{H0 H H1:Hp}{p:Addr}{M:List Addr}{kvs:List (List Key×V)}{tab:List (List Key×List α)}
theorem TabM.notM(h:TabM fn K H0 H p M kvs tab){a:Addr}(e:H a=none):a∉M:=λz=>by
 obtain⟨us,e2⟩:=h.ex a z;rw[e]at e2;cases e2
theorem TabM.app(h:TabM fn K H0 H p M kvs tab){k:List Key}{m:Addr}{v:V}{x:α}(hv:valV kvs k=some (.ref m))(d:Dm K H M v (fn x)):∃us,H m=some (.lst us)/\(∃b∈addT tab k x,b.2.length=us.length+1)/\TabM fn K H0 (upd H m (.lst (us++[v]))) p M kvs (addT tab k x)/\Pr K M H (upd H m (.lst (us++[v]))):=by
 rcases TabM.get h.row k x with⟨g1,_,_⟩|⟨k1,k2,m',l1,l2,us,l,g1,g2,g3,g4,g5,g6,g7,g8,g9⟩
 ·rw[hv]at g1;cases g1
 ·rw[hv]at g2;cases g2;have pr:Pr K M H (upd H m (.lst (us++[v]))):=.upd g3 g4 (λ_ z=>by cases z) (λ_ _ z=>by cases z);have nd:=h.nd;rw[g1,Zn,X7,Zp]at nd;have n1:V.ref m∉k1.map (·.2):=λz=>nd.2.2 _ z _ (Z0 ..) rfl
  have n2:V.ref m∉k2.map (·.2):=(Xs.mp nd.2.1).1;have hl:=g5.length;rw[length_map]at hl;refine⟨us,g4,⟨(k,l++[x]),by rw[g7];simp,by simp[hl]⟩,⟨a1c h.sm (h.fm m g3),?_,h.f,h.fm,?_,h.nd,λa ha=>?_⟩,pr⟩
  ·rw[a0l (a1w h.top g4 (λz=>by cases z))];exact h.top
  ·rw[g7,g1];refine b8o (TR.apart pr g8 n1) (.cons ⟨rfl,m,_,rfl,g3,a0b,?_⟩ (TR.apart pr g9 n2));rw[Zn];exact(g5.pr pr).append (.cons (d.pr pr) .nil)
  ·by_cases c:a=m
   ·rw[c];exact⟨_,a0b⟩
   ·obtain⟨us2,e2⟩:=h.ex a ha;exact⟨us2,by rw[a0l c];exact e2⟩
theorem TabM.at(x0:α)(h:TabM fn K H0 H p M kvs tab){k:List Key}{m:Addr}(hv:valV kvs k=some (.ref m)):∃us,H m=some (.lst us):=by
 rcases TabM.get h.row k x0 with⟨g1,_,_⟩|⟨k1,k2,m',l1,l2,us,l,g1,g2,g3,g4,_⟩
 ·rw[hv]at g1;cases g1
 ·rw[hv]at g2;cases g2;exact⟨us,g4⟩
theorem TabM.setd(x0:α)(h:TabM fn K H0 H1 p M kvs tab){k:List Key}{px pe:Addr}(hx:H1 px=some (.tup (k.map kV)))(he:H1 pe=none)(hz:kvs.length<=1000){Q:VK}
  (kq:∀H2 m M' kvs' tab',TabM fn K H0 H2 p M' kvs' tab'->valV kvs' k=some (.ref m)->(∀x,addT tab' k x=addT tab k x)->kvs'.length<=kvs.length+1->KT K H1 H2->But p H1 H2->(kvs'=kvs/\M'=M\/kvs'=kvs++[(k,.ref m)]/\M'=m::M/\H1 m=none)->Q (.ref m) H2):c3o (.ref p) [.ref px,.ref pe] (upd H1 pe (.lst [])) Q:=by
 have s1:=a0f he (.lst []);have h1:=h.same s1;refine d4b h1.top (s1 _ _ hx) (ln qo) (λv hv=>?_) λhv=>?_
 ·rcases TabM.get h.row k x0 with⟨g1,_,_⟩|⟨k1,k2,m',l1,l2,us,l,g1,g2,g3,g4,g5,g6,g7,g8,g9⟩
  ·rw[hv]at g1;cases g1
  ·rw[hv]at g2;cases g2;exact kq _ m' M kvs tab h1 hv (λ_=>rfl) (Vj _) (KT.same s1) (λb o _ e=>s1 b o e) (.inl ⟨rfl,rfl⟩)
 ·have hpe0:H0 pe=none:=by
   cases e:H0 pe with
   |none=>rfl
   |some o=>rw[h.sm _ _ e]at he;cases he
  have npe:pe≠p:=λz=>by rw[z,h.top]at he;cases he
  have hM:pe∉M:=h.notM he;rcases TabM.get h.row k x0 with⟨g1,_,g3⟩|⟨_,_,_,_,_,_,_,_,g2,_⟩
  rotate_left
  ·rw[hv]at g2;cases g2
  have g3:=congrFun g3 (.ref pe);rw[g3];have kt:KT K (upd H1 pe (.lst [])) (upd (upd H1 pe (.lst [])) p (.dT (kvs++[(k,.ref pe)]))):=.upd h1.top (λ_ z=>by cases z) (λ_ _ z=>by cases z);have kl:∀a us,(upd H1 pe (.lst [])) a=some (.lst us)->(upd (upd H1 pe (.lst [])) p (.dT (kvs++[(k,.ref pe)]))) a=some (.lst us):=λa us e=>by rw[a0l (a1w e h1.top (λz=>by cases z))];exact e
  have hnew:∀x,addT (tab++[(k,[])]) k x=addT tab k x:=λx=>by
   rcases TabM.get h.row k x with⟨_,g2,_⟩|⟨_,_,_,_,_,_,_,_,g2,_⟩
   ·rw[g2];have:∀(tb:List (List Key×List α)),addT tb k x=tb++[(k,[x])]->addT (tb++[(k,[])]) k x=tb++[(k,[x])]:=λtb=>by
     induction tb with
     |nil=>intro _;show addT [(k,[])] k x=_;rw[addT,if_pos rfl];rfl
     |cons y r ih=>
      intro e;obtain⟨ky,ly⟩:=y;rw[addT]at e;rw[Yh,addT]
      by_cases c:ky=k
      ·rw[if_pos c]at e
       exfalso
       have:=Xg List.length e
       simp at this
      ·rw[if_neg c]at e ⊢;rw[ih (Tx e).2];rfl
    exact this tab g2
   ·rw[hv]at g2;cases g2
  refine kq _ pe (pe::M) (kvs++[(k,.ref pe)]) (tab++[(k,[])]) ⟨a1c h1.sm h.f,a0b,h.f,λm hm=>?_,?_,?_,λm hm=>?_⟩ ?_ hnew qz ((KT.same s1).trans kt) (λb o n e=>by rw[a0l n];exact s1 b o e) (.inr ⟨rfl,rfl,he⟩)
  ·rcases Zo.mp hm with z|z
   ·rw[z];exact hpe0
   ·exact h.fm m z
  ·refine Vi (Paired.mapP h.row λ_ _ ⟨e,m,us,e1,e2,e3,e4⟩=>⟨e,m,us,e1,Zw _ e2,kl _ _ (s1 _ _ e3),((e4.more he).pr (.same s1)).kl (λa us _ e=>kl _ _ e) kt⟩) ⟨rfl,pe,[],rfl,Z0 ..,kl _ _ a0b,.nil⟩
  ·rw[Zn,X7];refine⟨h.nd,qz,λa ha b hb z=>?_⟩;have hb:b=.ref pe:=by simpa using hb
   obtain⟨kv,hkv,e1⟩:=Z3.mp ha;have:∀{k1:List (List Key×V)}{l1:List (List Key×List α)},Paired (TR fn K H1 M) k1 l1->∀y∈k1,∃m us,y.2=.ref m/\H1 m=some (.lst us):=λ{k1 l1} q=>by
    induction q with
    |nil=>intro y hy;simp at hy
    |cons a t ih=>
     intro y hy;obtain⟨_,m,us,c1,_,c3,_⟩:=a;rcases Zo.mp hy with z|z
     ·rw[z];exact⟨m,us,c1,c3⟩
     ·exact ih y z
   obtain⟨m,us,c1,c2⟩:=this h.row kv hkv;rw[<-e1,c1,hb]at z;cases z;rw[he]at c2;cases c2
  ·rcases Zo.mp hm with z|z
   ·rw[z];exact⟨_,kl _ _ a0b⟩
   ·obtain⟨us,e⟩:=h.ex m z;exact⟨us,kl _ _ (s1 _ _ e)⟩
  ·unfold valV at hv ⊢;rw[List.find?_append,T6.mp hv]
   simp
end
theorem b0p{α:Type}{k:List Key}{x:α}{n:Nat}:∀{tb:List (List Key×List α)},(∀b∈tb,b.2.length<=n)->∀b∈addT tb k x,b.2.length<=n+1
 | [],_,b,hb=>by
  rw[addT]at hb;rw[Zr.mp hb]
  show 1<=n+1
  omega
 | (k',l)::r,h,b,hb=>by
  rw[addT]at hb;have h1:l.length<=n:=h (k',l) (Z0 ..)
  by_cases c:k'=k
  ·rw[if_pos c]at hb;rcases Zo.mp hb with z|z
   ·rw[z];simp;exact h1
   ·have:=h b (Zw _ z);omega
  ·rw[if_neg c]at hb;rcases Zo.mp hb with z|z
   ·rw[z];show l.length<=n+1;omega
   ·exact b0p (λb hb=>h b (Zw _ hb)) b z
local macro_rules | `(tactic| walk_at "gn") => `(tactic| ((try with_reducible refine a5y (by assumption) ?_); (with_reducible refine c5w ?_); try with_reducible refine a5y (by assumption) ?_))
local macro_rules | `(tactic| walk_at "nx") => `(tactic| ((with_reducible refine c5v ?_); try with_reducible refine a5y (by assumption) ?_))
local macro_rules | `(tactic| ext) => `(tactic| walk_at "s")
local macro_rules | `(tactic| nofun) => `(tactic| walk_at "or1")
local macro_rules | `(tactic| ac_rfl) => `(tactic| walk_at "r")
local macro_rules | `(tactic| obtain $p:rcasesPatMed := $e:term) => `(tactic| (refine hideG fun G hG => ?_; rcases $e:term with $p:rcasesPatMed <;> refine hG ?_))
section
variable{P:Program}{w:World}{K:W.Frag}{mg:Str->Option Value}{base:Heap}{t:Ad}
theorem c5g(T:Txt K mg t)  :FnOk P w K mg base CX0 1 t.a_c8 t.d_c8 ["sign"] (b5r):=by
 exists T.F_c8.ok c5e,(a0g (a0q (me_or (a2k b7v (mv 0) (a6e rfl T.m_f9) (by with_unfolding_all rfl)) (me_or (a2k b7v (mv 0) (a6e rfl T.m_g2) (by with_unfolding_all rfl)) (a7m (a2k b7v (mv 0) (a6e rfl T.m_g3) (by with_unfolding_all rfl))))))),H,Q,E,hr,h
 rename_i c;ext;have h:Q (.bl (inner c)) H:=h;unfold inner at h
 exists e
 ·rw[Zz]at e;rw[e]at h;exact h
 ·rw[Zz]at e;rw[e,T0]at h;ext
  exists e
  ·rw[Zz]at e;rw[e]at h;exact h
  ·rw[Zz]at e;rw[e,T0]at h;ext;rw[Zz];exact h
theorem c4h(T:Txt K mg t)(G_c8:FnOk P w K mg base CX0 1 t.a_c8 t.d_c8 ["sign"] (b5r)):FnOk P w K mg base CX0 2 t.a_e0 t.d_e0 ["text","firsts"] (b4j):=by
 exists T.F_e0.ok c3t,(a0e (a0y (PW.pt (a2x (a3c (a2q K rfl (a0r (a8k K rfl) rfl T.n_f2 Xc (a0a (mv 0) (a0a (a5t rfl T.n_g6 boot_str) a0c))))) (a3j (a3c (d3i mo_le mo_le a0d (a0r (a1k K rfl) rfl T.n_a3 Zq (a0a (mv 0) a0c)) (pe_gint rfl T.m_g4)))))) (a0g (a0q a3m)) a0v) (a0g (a0q (a7n (a2k b7v (a0j (a0h K rfl) (mv 0) a0d (λ_ _=>rfl)) (mv 1) (by with_unfolding_all rfl)) (a7m (a0r (kc_all K rfl rfl) rfl T.n_g7 boot_all (a0a (a5h rfl (pi_str (mv 0)) (a3p (a0o a8m) ["text","firsts"] ["text","firsts"] rfl rfl qk) (λ_ _ _ _ _=>a3o) (λ_ _ _ _ _=>(a0m G_c8 hr.o rfl T.m_c8 T.F_c8.kp T.b_c8 .nil a0n (a0a (mv 0) a0c)))) a0c))))))),H,Q,E,hr,h
 rename_i z f;obtain⟨hz,q⟩:=h;walk_at "A"
 exists mLen_s (ln qo)
 unfold called at q;have lo:decide ((1:Int)<=z.length)=false\/decide ((1:Int)<=z.length)=true/\decide ((z.length:Int)<=12)=false->Q (.bl false) H:=λc=>by
  have q:=q H (Same.refl H);rcases c with c|⟨c1,c2⟩
  ·rw[c]at q;simpa using q
  ·rw[c1,c2]at q;simpa using q
 exists e
 rotate_left
 ·ext;exact lo (.inl e)
 ext
 exists e2
 ·ext;refine lo (.inr ⟨e,?_⟩);cases d:decide ((z.length:Int)<=12)with
  |false=>rfl
  |true=>rw[d]at e2;cases e2
 have e2:decide ((z.length:Int)<=12)=true:=by
  cases d:decide ((z.length:Int)<=12)with
  |true=>rfl
  |false=>rw[d]at e2;cases e2
 rw[e,e2]at q;simp only[Bool.and_self,V2]at q;have hp:0<z.length:=by have:=Z8 e;omega
 ext
 exists c2b (ln qo) (len_fst hp)
 rw[Zz]
 exists e3
 rotate_left
 ·have e3:inS (fst z) f=false:=e3;rw[e3]at q;exact q H (Same.refl H)
 have e3:inS (fst z) f=true:=e3;rw[e3]at q;simp only[V2]at q;ext;refine⟨z,rfl,λD hD=>?_⟩;refine a2z (row_str z) (λi ys H'=>Same H H'/\ys=((List.range i).map λk=>inner (one (z.cps.getD k 0))).map V.bl/\H' D=some (.lst ys)) (ln (by unfold Str.length at hz;omega)) ⟨a0f hD _,rfl,a0b⟩ (λ_ _ _ _=>trivial) (λi ys H' Q' hi hl hP k=>?_) (λys H' hl hP=>?_)
 ·obtain⟨h1,h2,h3⟩:=hP;ext;refine k _ _ h3 ⟨a1c h1 hD,?_,a0b⟩;rw[List.range_succ,Zn,Zn,h2];rfl
 ·obtain⟨h1,h2,h3⟩:=hP;ext;refine⟨_,SqL.of (h2▸h3),?_⟩;have:=q H' h1;rw[<-all_get z (λc=>inner (one c))]at this;exact this
theorem c8a(T:Txt K mg t)(G_e0:FnOk P w K mg base CX0 2 t.a_e0 t.d_e0 ["text","firsts"] (b4j)):FnOk P w K mg base CX0 3 t.a_e5 t.d_e5 ["text"] (b8h):=by
 exists T.F_e5.ok c7v,(a0g (a0q (a0m G_e0 hr.o rfl T.m_e0 T.F_e0.kp T.b_e0 .nil a0n (a0a (mv 0) (a0a (a6e rfl T.m_f9) a0c))))),H,Q,E,hr,h
 rename_i z;ext;exact h
theorem c5h(T:Txt K mg t)(G_e5:FnOk P w K mg base CX0 3 t.a_e5 t.d_e5 ["text"] (b8h)):FnOk P w K mg base CX0 4 t.a_b3 t.d_b3 ["term"] (b1l K):=by
 exists T.F_b3.ok c5f,(a0g (a0q (a7n (a2k a1g (a0j (a0h K rfl) (mv 0) a0d (λ_ _=>rfl)) a0k (a0t _)) (a7n (a0m G_e5 hr.o rfl T.m_e5 T.F_e5.kp T.b_e5 .nil a0n (a0a (a0j (a0h K rfl) (mv 0) a0d (λ_ _=>rfl)) a0c)) (a7m (a2k (c6a K rfl) (a0j (a0h K rfl) (mv 0) a0d (λ_ _=>rfl)) (a0x (a0a (a6e rfl T.m_f8) (a0a (a6e rfl T.m_f6) a0c))) (by with_unfolding_all rfl))))))),H,Q,E,hr,h
 rename_i v;obtain⟨t0,hd,hl,q⟩:=h;cases t0 with
 |num m=>
  obtain⟨a,rfl,hs⟩:=a6g hd;ext
  exists a0i hs (v:=.str numS) rfl
  refine d1o d1 ?_;exact q H (Same.refl H)
 |any m=>
  obtain⟨a,rfl,hs⟩:=a6h hd;ext
  exists a0i hs (v:=.str anyS) rfl
  refine d1o d2 ?_;exact q H (Same.refl H)
 |app sg ks=>
  obtain⟨a,b,us,rfl,hs,hb,hk⟩:=a3f hd;have q:∀H',Same H H'->Q (.bl (called sg a2u&& !decide (sg∈[a1u,notS]))) H':=q;ext
  exists a0i hs (v:=.str appS) rfl
  exists yes_app d3
  exists a0i hs (v:=.str sg) rfl
  refine⟨hl,λH1 s1=>?_⟩;ext
  exists e
  ·ext
   exists a0i (s1.tup hs) (v:=.str sg) rfl
   refine⟨ln (by show 2<=100000;decide),λp1 hp1=>?_⟩;refine b6d [a1u,notS] (.inr (SqT.of a0b)) ?_;rw[e,V2]at q;exact q _ (s1.trans (a0f hp1 _))
  ·rw[e,Bool.false_and]at q;exact q _ s1
theorem b9x(T:Txt K mg t)  :FnOk P w K mg base CX0 1 t.a_c7 t.d_c7 ["terms"] (b1y K):=by
 exists T.F_c7.ok a6l,(a0e (a0p (i:=1) a6l.nd rfl (by nofun) a7x) (a0e (a0p (i:=2) (hs:=a1n) a6l.nd rfl (by nofun) (b3a K rfl rfl rfl T.n_f1 rfl T.n_g1 (a0a (mv 0) a0c))) (a0e (b2v Zv (a2q K rfl (mv 2)) (a0e (a0p (i:=3) (hs:=a1n) a6l.nd rfl (by nofun) (b7w K rfl Yz Td F.type_list_pop c9z (mv 2))) (a0g (a0y (a0s a1g (a0j (a0h K rfl) (mv 3) a0d (λ_ _=>rfl)) a0k (a0t _)) (a0g (a3e (a1h hr) (mv 1) (a0j (a0h K rfl) (mv 3) a0d (λ_ _=>rfl)) a3m rfl)) (a0g (a0y (a0s a1g (a0j (a0h K rfl) (mv 3) a0d (λ_ _=>rfl)) a0k (a0t _)) (a0g (a1f (a6f K rfl Yz Vu Rl (c0q K rfl) (mv 2) (a0a (b3a K rfl rfl rfl T.n_f1 rfl T.n_g1 (a0a (a0j (a0h K rfl) (mv 3) a0d (λ_ _=>rfl)) a0c)) a0c)))) a0v)))))) (a0g (a0q (a2f (d3t rfl) rfl T.n_f1 W4 (a0a (mv 1) a0c))))))),H,Q,E,hr,h
 rename_i a;obtain⟨us,ts,hS,hd,hz,q⟩:=h;have hul:=a2l hd;have tl:=Trm.len_le ts;ext;intro pd hpd;have s1:=a0f hpd (.dK []);have k1:(upd H pd (.dK [])) pd=some (.dK []):=a0b;generalize upd H pd (.dK [])=H1 at s1 k1 ⊢;ext;refine⟨a,us,rfl,.inl (s1.seq hS),qo,λpt hpt=>?_⟩;have s2:=a0f hpt (.lst us.reverse);have k2:(upd H1 pt (.lst us.reverse)) pt=some (.lst us.reverse):=a0b;generalize upd H1 pt (.lst us.reverse)=H2 at s2 k2 ⊢;have hpt0:H pt=none:=a2b s1 hpt;have hne:pd≠pt:=λz=>by rw[z,hpt]at k1;cases k1
 have d2:DenL K H2 us.reverse (Trm.dataL ts.reverse):=by rw[<-b0z];exact My.DenL.rev (hd.mono (s1.trans s2))
 ext;refine b0q (λn σ' H'=>∃(ws:List V)(st:List Trm)(acc:List Str)(o1:Option V),σ'=[some (.ref a),some (.ref pd),some (.ref pt),o1]/\H' pt=some (.lst ws)/\DenL K H' ws (Trm.dataL st)/\H' pd=some (.dK (encB acc))/\acc.length+Trm.sizeL st<=1000/\ordL st.reverse acc=ordL ts []/\n=Trm.sizeL st/\Same H H') (Trm.sizeL ts.reverse) ⟨us.reverse,ts.reverse,[],none,rfl,k2,d2,s2 _ _ k1,by rw[a8v];simpa using hz,by rw[Vk],rfl,s1.trans s2⟩ (λn σ' H' R hP kT kF=>?_);obtain⟨ws,st,acc,o1,rfl,h1,h2,h3,h4,h5,h6,h7⟩:=hP;ext;refine .inl ⟨ws,SqL.of h1,?_⟩;rcases nil_or_snoc' st with rfl|⟨st',t1,rfl⟩
 ·have e:ws=[]:=by have:=a2l h2;simpa using this
  subst e
  exists kF H'
  refine⟨pd,_,rfl,.inl h3,λpr hpr=>?_⟩;rw[d1p];rw[List.reverse_nil,ordL]at h5;rw[h5];exact q pr _ (a1c h7 (a2b h7 hpr)) (a2b h7 hpr) a0b
 ·rw[a7j]at h2;obtain⟨ws',w,rfl,g1,g2⟩:=DenL.snoc h2;have hwl:=a2l g1;have hsl:=Trm.len_le st';have e:(!(ws'++[w]).isEmpty)=true:=by simp
  rw[e];have hsz:=Trm.sizeL_app st' [t1];have hs1:Trm.sizeL [t1]=t1.size:=by simp[Trm.sizeL]
  have tpos:=t1.size_pos;rw[Vm,T9,Se,ordL]at h5;refine kT H' (λD' e1 e2 hnx hct=>?_);ext;refine⟨.inl ⟨rfl,_,SqL.of h1⟩,?_⟩
  exists d0g h1
  have f1:DenL K (upd H' pt (.lst ws')) ws' (Trm.dataL st'):=g1.lst h1;have f2:Den K (upd H' pt (.lst ws')) w t1.data:=g2.lst h1;have f3:Same H (upd H' pt (.lst ws')):=a1c h7 hpt0;have f4:(upd H' pt (.lst ws')) pt=some (.lst ws'):=a0b;have f5:(upd H' pt (.lst ws')) pd=some (.dK (encB acc)):=by rw[a0l hne];exact h3
  generalize upd H' pt (.lst ws')=J at f1 f2 f3 f4 f5 ⊢;cases t1 with
  |any x=>
   obtain⟨b,rfl,hb⟩:=a6h f2
   exists a0i hb (v:=.str anyS) rfl
   rw[Zz,q3];walk_at "D"
   exists a0i hb (v:=.str x) rfl
   refine⟨pd,_,rfl,DPut.k (k:=Sum.inr x) f5 (by rw[b6l,Yb];omega),?_⟩;rw[b6m];have bb:But pd J (upd J pd (.dK (encB (ord (.any x) acc)))):=a1z;have ol:=b5c (.any x) acc;refine hnx _ _ (Trm.sizeL st') qo ⟨ws',st',ord (.any x) acc,_,rfl,bb _ _ hne.symm f4,f1.monoT (a4h bb f5),a0b,qo,h5,rfl,a4f f3 bb hpd⟩
  |num m=>
   obtain⟨b,rfl,hb⟩:=a6g f2
   exists a0i hb (v:=.str numS) rfl
   rw[Zz,q1];walk_at "C"
   exists a0i hb (v:=.str numS) rfl
   refine iteB (λe=>absurd e qk) (λe=>?_);ext;rw[ord]at h5;exact hnx _ _ (Trm.sizeL st') qo ⟨ws',st',acc,_,rfl,f4,f1,f5,qo,h5,rfl,f3⟩
  |app sg ks=>
   obtain⟨b,c,ku,rfl,hb,hc,hk⟩:=a3f f2;have hkl:=a2l hk;have kl:=Trm.len_le ks;simp only[Trm.size]at hs1 tpos
   exists a0i hb (v:=.str appS) rfl
   rw[Zz,q2];walk_at "C"
   exists a0i hb (v:=.str appS) rfl
   refine iteB (λe=>?_) (λe=>absurd e qk);ext;refine⟨.inl ⟨rfl,_,SqL.of f4⟩,?_⟩;ext
   exists a0i hb (v:=.ref c) rfl
   refine⟨c,ku,rfl,.inr hc,qo,λpr hpr=>?_⟩;have s5:=a0f hpr (.lst ku.reverse);have k5:(upd J pr (.lst ku.reverse)) pr=some (.lst ku.reverse):=a0b;generalize upd J pr (.lst ku.reverse)=J5 at s5 k5 ⊢;ext
   exists d0f (s5 _ _ f4) k5 (ln (by rw[Y2];omega))
   rw[ord]at h5;have sz:=Trm.sizeL_app st' ks.reverse;rw[a8v]at sz;have k6:=s5 _ _ f4;refine hnx _ _ (Trm.sizeL (st'++ks.reverse)) qo ⟨ws'++ku.reverse,st'++ks.reverse,acc,_,rfl,a0b,?_,?_,qo,?_,rfl,a1c (f3.trans s5) hpt0⟩
   ·rw[a7j,<-b0z];exact((f1.mono s5).append (My.DenL.rev (hk.mono s5))).lst k6
   ·rw[a0l hne];exact s5 _ _ f5
   ·rw[Vm,Vk,b0j];exact h5
end
section
variable{P:Program}{w:World}{K:W.Frag}{mg:Str->Option Value}{base:Heap}{t:Ad}
theorem b6t(T:Txt K mg t)  :FnOk P w K mg base CX0 1 t.a_a2 t.d_a2 ["self","row"] (a2j K t.k_a0):=by
 exists T.F_a2.ok b6j,(a0g (a1f (a6f K rfl Yz Xp X1 a5s (a4p (mv 0) rfl) (a0a (mv 1) a0c)))),H,Q,E,hr,h
 rename_i x v;obtain⟨dx,ps,pm,pr,c,rs,ho,hr',hl,q⟩:=h;ext;refine zG ho T.cl_a0 T.no_a0_rows (b5f _ _ _ _) ?_;refine⟨.inl ⟨rfl,_,SqL.of hr'⟩,?_⟩;ext;refine a5v hr' (ln1 qo) ?_;exact q
theorem b2i(T:Txt K mg t)  :FnOk P w K mg base CX0 1 t.a_a4 t.d_a4 ["self","many"] (a2g K t.k_a0):=by
 exists T.F_a4.ok a7i,(a0e (a0p (i:=2) a7i.nd rfl (by nofun) (a4p (mv 0) rfl)) (a0e (c9h (mv 0) (mv 1) mi_add) (a0g (a0q (mv 2))))),H,Q,E,hr,h
 rename_i x m;obtain⟨dx,ps,pm,pr,u,met,c,rs,w,q⟩:=h;ext
 exists zG w.o T.cl_a0 T.no_a0_cells (c3z _ _ _ _)
 refine⟨x,_,dx,_,_,rfl,w.o,T.cl_a0,T.no_a0_cells,c3z _ _ _ _,?_⟩;ext;refine⟨dx,_,w.o,by simp[fsW],?_⟩;rw[c0w];ext;exact q
theorem b8p(T:Txt K mg t)(G_c7:FnOk P w K mg base CX0 1 t.a_c7 t.d_c7 ["terms"] (b1y K)):FnOk P w K mg base CX0 2 t.a_f0 t.d_f0 ["self","terms"] (b1a K t.k_a0):=by
 exists T.F_f0.ok b0y,(a0e (b3r (mv 0) a7x rfl) (a0e (a1p Zv rfl (a6z K rfl (a0m G_c7 hr.o rfl T.m_c7 T.F_c7.kp T.b_c7 .nil a0n (a0a (mv 1) a0c))) (a1a (i:=2) b0y.nd rfl (by nofun)) (a0g (a3e (a1h hr) (a4p (mv 0) rfl) (mv 2) (a0r a5r rfl T.n_a3 Zq (a0a (a4p (mv 0) rfl) a0c)) rfl))) (a0e (b3r (mv 0) a7x rfl) (a0e (b3r (mv 0) a0d rfl) (a0g (b3r (mv 0) (a1x a0c) rfl)))))),H,Q,E,hr,h
 rename_i x a;obtain⟨dx,us,ts,hx,hS,hd,hz,q⟩:=h;ext;intro ps hps;have s1:=a0f hps (.dK []);have k1:(upd H ps (.dK [])) ps=some (.dK []):=a0b;generalize upd H ps (.dK [])=H1 at s1 k1 ⊢;ext;refine sZ (s1 _ _ hx) T.cl_a0 T.no_a0_slots qz ?_;have nps:ps≠x:=λz=>by rw[z,hx]at hps;cases hps
 have b2:But x H1 (upd H1 x (.ins t.k_a0 dx [(a1i,.ref ps)])):=a1z;have o2:(upd H1 x (.ins t.k_a0 dx [(a1i,.ref ps)])) x=some (.ins t.k_a0 dx [(a1i,.ref ps)]):=a0b;have k2:=b2 _ _ nps k1;have f2:∀b o,b≠x->H b=some o->(upd H1 x (.ins t.k_a0 dx [(a1i,.ref ps)])) b=some o:=λb o hb e=>b2 _ _ hb (s1 _ _ e)
 have S2:∀a xs,SqL K H a xs->SqL K (upd H1 x (.ins t.k_a0 dx [(a1i,.ref ps)])) a xs:=λa xs h=>by
  rcases h with(h|⟨o,h⟩)|h
  ·exact .inl (.inl (f2 _ _ (λz=>by rw[z,hx]at h;cases h) h))
  ·exact .inl (.inr ⟨o,f2 _ _ (λz=>by rw[z,hx]at h;cases h) h⟩)
  ·exact .inr h
 have T2:∀a xs,SqT K H a xs->SqT K (upd H1 x (.ins t.k_a0 dx [(a1i,.ref ps)])) a xs:=λa xs h=>by
  rcases h with(h|⟨o,h⟩)|h
  ·exact .inl (.inl (f2 _ _ (λz=>by rw[z,hx]at h;cases h) h))
  ·exact .inl (.inr ⟨o,f2 _ _ (λz=>by rw[z,hx]at h;cases h) h⟩)
  ·exact .inr h
 have e2:putF (ofString "slots") (.ref ps) []=[(a1i,V.ref ps)]:=rfl;rw[e2];have hS2:=S2 _ _ hS;have hd2:=hd.monoT T2;have nx2:∀b,(upd H1 x (.ins t.k_a0 dx [(a1i,.ref ps)])) b=none->H b=none:=λb e=>by
  cases hb:H b with
  |none=>rfl
  |some o=>
   by_cases z:b=x
   ·rw[z,o2]at e;cases e
   ·rw[f2 b o z hb]at e;cases e
 generalize upd H1 x (.ins t.k_a0 dx [(a1i,.ref ps)])=H2 at b2 o2 k2 f2 hS2 hd2 nx2 ⊢;clear S2 T2;ext;refine⟨us,ts,hS2,hd2,qo,λp H3 s3 hp kp=>?_⟩;have hu:=nodL ts;have hl:=a8e ts [];generalize ordL ts []=u at hu hl kp q;rw[length_nil,Ye]at hl;have n1:ps≠p:=λz=>by rw[z,hp]at k2;cases k2
 have n2:x≠p:=λz=>by rw[z,hp]at o2;cases o2
 refine⟨p,rfl,⟨_,SqL.of kp⟩,?_⟩;refine a1t (a4x (xs:=u.map V.str)) (λi σ' J=>∃(o1:Option V),σ'=[some (.ref x),some (.ref a),o1]/\J ps=some (.dK (encJ 0 (u.take i)))/\J p=some (.lst (u.map V.str))/\J x=some (.ins t.k_a0 dx [(a1i,.ref ps)])/\(∀b o,b≠ps->H3 b=some o->J b=some o)) ⟨none,rfl,by rw[Xb];exact s3 _ _ k2,kp,s3 _ _ o2,λb o _ e=>e⟩ (λi σ' J hP=>by obtain⟨_,_,_,h,_⟩:=hP;exact SqL.of h) (λi σ' J hi hP=>?_) (λσ' J hP=>?_)
 ·obtain⟨o1,rfl,g1,g2,g3,g4⟩:=hP;rw[length_map]at hi;rw[d1j hi];have lk:List.lookup (ofString "slots") [(a1i,V.ref ps)]=some (V.ref ps):=by simp only[List.lookup,show(ofString "slots"==a1i)=true from qk]
  ext
  exists zG g3 T.cl_a0 T.no_a0_slots lk
  refine⟨ps,_,rfl,g1,?_⟩;rw[a3a,Z5,Ud qo];ext
  exists zG g3 T.cl_a0 T.no_a0_slots lk
  refine⟨ps,_,rfl,DPut.k (k:=Sum.inr u[i]) g1 (by rw[a3a,Z5,Yb];omega),?_⟩;have hnew:=c3x (d4f hu hi);rw[Z5,Ud qo,<-take_succ' hi]at hnew;rw[hnew];have bb:=a1z (p:=ps) (H:=J) (o:=.dK (encJ 0 (u.take (i+1))));exact⟨_,rfl,a0b,bb _ _ n1.symm g2,bb _ _ nps.symm g3,λb o hb e=>bb _ _ hb (g4 _ _ hb e)⟩
 obtain⟨o1,rfl,g1,g2,g3,g4⟩:=hP;rw[length_map,Xx]at g1;have fJ:∀b o,b≠x->H b=some o->J b=some o:=λb o hb e=>g4 b o (λz=>by rw[z,hps]at e;cases e) (s3 _ _ (f2 _ _ hb e))
 have nJ:∀b,J b=none->H b=none:=λb e=>by
  cases hb:H b with
  |none=>rfl
  |some o=>
   by_cases z:b=x
   ·rw[z,g3]at e;cases e
   ·rw[fJ b o z hb]at e;cases e
 ext;intro pm hpm;have s4:=a0f hpm (.dK []);have k4:(upd J pm (.dK [])) pm=some (.dK []):=a0b;have n3:pm≠x:=λz=>by rw[z,g3]at hpm;cases hpm
 have n4:ps≠pm:=λz=>by rw[<-z,g1]at hpm;cases hpm
 have hpm0:=nJ _ hpm;generalize upd J pm (.dK [])=H4 at s4 k4 ⊢;ext;refine sZ (s4 _ _ g3) T.cl_a0 T.no_a0_met qz ?_;have e5:putF (ofString "met") (.ref pm) [(a1i,V.ref ps)]=[(a1i,.ref ps),(metN,.ref pm)]:=by
  simp only[putF,show ¬a1i=ofString "met" from qk,X4]
 rw[e5];have b5:=a1z (p:=x) (H:=H4) (o:=.ins t.k_a0 dx [(a1i,.ref ps),(metN,.ref pm)]);have o5:(upd H4 x (.ins t.k_a0 dx [(a1i,.ref ps),(metN,.ref pm)])) x=some (.ins t.k_a0 dx [(a1i,.ref ps),(metN,.ref pm)]):=a0b;generalize upd H4 x (.ins t.k_a0 dx [(a1i,.ref ps),(metN,.ref pm)])=H5 at b5 o5 ⊢;ext;refine sZ o5 T.cl_a0 T.no_a0_cells qz ?_;have e6:putF (ofString "cells") (.int 0) [(a1i,V.ref ps),(metN,.ref pm)]=[(a1i,.ref ps),(metN,.ref pm),(a5f,.int 0)]:=by
  simp only[putF,show ¬a1i=ofString "cells" from qk,show ¬metN=ofString "cells" from qk,X4]
 rw[e6];have b6:=a1z (p:=x) (H:=H5) (o:=.ins t.k_a0 dx [(a1i,.ref ps),(metN,.ref pm),(a5f,.int 0)]);have o6:(upd H5 x (.ins t.k_a0 dx [(a1i,.ref ps),(metN,.ref pm),(a5f,.int 0)])) x=some (.ins t.k_a0 dx [(a1i,.ref ps),(metN,.ref pm),(a5f,.int 0)]):=a0b;generalize upd H5 x (.ins t.k_a0 dx [(a1i,.ref ps),(metN,.ref pm),(a5f,.int 0)])=H6 at b6 o6 ⊢;ext;refine⟨Yk _,λpr hpr=>?_⟩;have s7:=a0f hpr (.lst []);have k7:(upd H6 pr (.lst [])) pr=some (.lst []):=a0b;have n5:pr≠x:=λz=>by rw[z,o6]at hpr;cases hpr
 have f6:∀b o,b≠x->J b=some o->H6 b=some o:=λb o hb e=>b6 _ _ hb (b5 _ _ hb (s4 _ _ e))
 have hpr0:H pr=none:=nJ _ (by
  cases hb:J pr with
  |none=>rfl
  |some o=>rw[f6 _ _ n5 hb]at hpr;cases hpr)
 generalize upd H6 pr (.lst [])=H7 at s7 k7 ⊢;ext;refine sZ (s7 _ _ o6) T.cl_a0 T.no_a0_rows qz ?_;have e8:putF (ofString "rows") (.ref pr) [(a1i,V.ref ps),(metN,.ref pm),(a5f,.int 0)]=fsW ps pm ((0:Nat):Int) pr:=by
  simp only[putF,fsW,show ¬a1i=ofString "rows" from qk,show ¬metN=ofString "rows" from qk,show ¬a5f=ofString "rows" from qk,X4];rfl
 rw[e8];have b8:=a1z (p:=x) (H:=H7) (o:=.ins t.k_a0 dx (fsW ps pm ((0:Nat):Int) pr));have kpm6:H6 pm=some (.dK []):=b6 _ _ n3 (b5 _ _ n3 k4);exact q ps pm pr _ ⟨a0b,b8 _ _ nps (s7 _ _ (f6 _ _ nps g1)),b8 _ _ n3 (s7 _ _ kpm6),b8 _ _ n5 k7,n4⟩ (λb o hb e=>b8 _ _ hb (s7 _ _ (f6 _ _ hb (fJ _ _ hb e)))) hps hpm0 hpr0
end
section
variable{P:Program}{w:World}{K:W.Frag}{mg:Str->Option Value}{base:Heap}{t:Ad}
theorem b2j(T:Txt K mg t)(G_a2:FnOk P w K mg base CX0 1 t.a_a2 t.d_a2 ["self","row"] (a2j K t.k_a0))(G_a4:FnOk P w K mg base CX0 1 t.a_a4 t.d_a4 ["self","many"] (a2g K t.k_a0))(n:Nat)(G_c0:FnOk P w K mg base CX0 (n+2) t.a_c0 t.d_c0 ["self","cell","term"] (a2v K t.k_a0 n)):FnOk P w K mg base CX0 (n+2+1) t.a_c0 t.d_c0 ["self","cell","term"] (a2v K t.k_a0 (n+1)):=by
 exists T.F_c0.ok (k:=n+2) a3r,(a0g (a0y (a0s a1g (a0j (a0h K rfl) (mv 2) a0d (λ_ _=>rfl)) a0k (a0t _)) (a0g (a1f (a1y (mv 0) T.cl_a0 T.me_a2 G_a2 hr.o T.b_a2 .nil a0n (a0a (a0x (a0a a0k (a0a (mv 1) (a0a (a0j (a0h K rfl) (mv 2) a0d (λ_ _=>rfl)) a0c)))) a0c)))) (a0g (a0y (a0s a1g (a0j (a0h K rfl) (mv 2) a0d (λ_ _=>rfl)) a0k (a0t _)) (a0e (a1f (a1y (mv 0) T.cl_a0 T.me_a2 G_a2 hr.o T.b_a2 .nil a0n (a0a (a0x (a0a (b5v (a0s (c3c (a1h hr)) (a0j (a0h K rfl) (mv 2) a0d (λ_ _=>rfl)) (a4p (mv 0) rfl) (by with_unfolding_all rfl)) a0k a0k) (a0a (mv 1) (a0a (a2p (a1h hr) (a4p (mv 0) rfl) (a0j (a0h K rfl) (mv 2) a0d (λ_ _=>rfl)) (λ_ _=>rfl)) a0c)))) a0c))) (a0g (a3e (a1h hr) (a4p (mv 0) rfl) (a0j (a0h K rfl) (mv 2) a0d (λ_ _=>rfl)) a3m rfl))) (a0e (a0p (i:=3) (hs:=a1n) a3r.nd rfl (by nofun) (a1y (mv 0) T.cl_a0 T.me_a4 G_a4 hr.o T.b_a4 .nil a0n (a0a (a0r (a1k K rfl) rfl T.n_a3 Zq (a0a (a0j (a0h K rfl) (mv 2) a0d (λ_ _=>rfl)) a0c)) a0c))) (a0e (a1f (a1y (mv 0) T.cl_a0 T.me_a2 G_a2 hr.o T.b_a2 .nil a0n (a0a (a0x (a0a a0k (a0a (mv 1) (a0a (a0j (a0h K rfl) (mv 2) a0d (λ_ _=>rfl)) (a0a (a0r (a1k K rfl) rfl T.n_a3 Zq (a0a (a0j (a0h K rfl) (mv 2) a0d (λ_ _=>rfl)) a0c)) (a0a (mv 3) a0c)))))) a0c))) (a0g (a1p Zv rfl (b0r K rfl rfl T.n_f5 (a0a (a0j (a0h K rfl) (mv 2) a0d (λ_ _=>rfl)) a0c)) (a7g K rfl rfl (a2n (a1a (i:=4) a3r.nd rfl (by nofun)) (a2n (a1a (i:=5) a3r.nd rfl (by nofun)) a7e))) (a0g (a1f (a1y (mv 0) T.cl_a0 T.me_c0 G_c0 hr.o T.b_c0 .nil a0n (a0a (a0u (a1d K rfl) (mv 3) (mv 4)) (a0a (mv 5) a0c))))))))))))),H,Q,E,hr,h
 rename_i x i v;obtain⟨dx,ps,pm,pr,u,met,c,rs,t0,cell,w,ei,hd,hv,hz,hn,hrs,hml,q⟩:=h;have tp:=t0.size_pos;subst ei;ext;cases t0 with
 |num m=>
  obtain⟨a,rfl,hs⟩:=a6g hd
  exists a0i hs (v:=.str numS) rfl
  refine iteB (λe=>?_) (λe=>absurd e qk);ext;refine⟨x,dx,_,rfl,w.o,a2r,?_⟩;ext
  exists a0i hs (v:=.int m) rfl
  refine⟨ln (by show 3<=100000;decide),λp1 hp1=>?_⟩;have sp1:=a0f hp1 (.tup [.str "num",.int cell,.int m]);have kp1:(upd H p1 (.tup [.str "num",.int cell,.int m])) p1=some (.tup [.str "num",.int cell,.int m]):=a0b;generalize upd H p1 (.tup [.str "num",.int cell,.int m])=Hp1 at sp1 kp1 ⊢;ext;have ap1:=w.same sp1;refine⟨dx,ps,pm,pr,_,_,ap1.o,ap1.r,by first|omega| (simp only[Zc,length_cons,length_nil]at*;omega),?_⟩;obtain⟨w2,fw2⟩:=ap1.row (.ref p1);have fw2:=(WFr.of (x:=x) (pm:=pm) (pr:=pr) sp1).trans fw2;have tp1:=(ap1.tup (show WFr x pm pr Hp1 _ from(ap1.row (.ref p1)).2)) _ _ (SqT.of kp1);generalize upd Hp1 pr (.lst (_++[.ref p1]))=H2 at w2 fw2 tp1 ⊢;exact q _ [.ref p1] fw2 (by rw[ord];exact w2) (by rw[ta];exact .cons (d4l tp1) .nil)
 |any y=>
  obtain⟨a,rfl,hs⟩:=a6h hd;have hy:y∈u:=hv y (by simp[vars])
  exists a0i hs (v:=.str anyS) rfl
  refine iteB (λe=>absurd e qk) (λe=>?_);ext
  exists a0i hs (v:=.str anyS) rfl
  refine iteB (λe=>?_) (λe=>absurd e qk);ext;refine⟨x,dx,_,rfl,w.o,a2r,?_⟩;ext
  exists a0i hs (v:=.str y) rfl
  refine zG w.o T.cl_a0 T.no_a0_met (b8j _ _ _ _) ?_;have dg:DGet H pm (.str y) (valV (encB met) (Sum.inr y)):=DGet.k (k:=Sum.inr y) w.m;have dj:DGet H ps (.str y) (valV (encJ 0 u) (Sum.inr y)):=DGet.k (k:=Sum.inr y) w.s;rw[valJ 0 hy,Ye]at dj;rw[valB]at dg;have mlen:=b5c (.any y) met;simp only[Trm.size]at mlen hml hrs
  by_cases hm:y∈met
  ·rw[if_pos hm]at dg;refine⟨pm,_,rfl,dg,?_⟩;ext;refine iteB (λe=>?_) (λe=>absurd e qz);ext
   exists zG w.o T.cl_a0 T.no_a0_slots (a5z _ _ _ _)
   exists a0i hs (v:=.str y) rfl
   refine⟨ps,_,rfl,dj,?_⟩;ext;refine⟨ln (by show 3<=100000;decide),λp1 hp1=>?_⟩;have sp1:=a0f hp1 (.tup [.str "same",.int cell,.int (ix u y)]);have kp1:(upd H p1 (.tup [.str "same",.int cell,.int (ix u y)])) p1=some (.tup [.str "same",.int cell,.int (ix u y)]):=a0b;generalize upd H p1 (.tup [.str "same",.int cell,.int (ix u y)])=Hp1 at sp1 kp1 ⊢;ext;have ap1:=w.same sp1;refine⟨dx,ps,pm,pr,_,_,ap1.o,ap1.r,by first|omega| (simp only[Zc,length_cons,length_nil]at*;omega),?_⟩;obtain⟨w2,fw2⟩:=ap1.row (.ref p1);have fw2:=(WFr.of (x:=x) (pm:=pm) (pr:=pr) sp1).trans fw2;have tp1:=(ap1.tup (show WFr x pm pr Hp1 _ from(ap1.row (.ref p1)).2)) _ _ (SqT.of kp1);generalize upd Hp1 pr (.lst (_++[.ref p1]))=H2 at w2 fw2 tp1 ⊢;ext
   exists zG w2.o T.cl_a0 T.no_a0_met (b8j _ _ _ _)
   exists a0i (w.tup fw2 _ _ hs) (v:=.str y) rfl
   refine⟨pm,_,rfl,DPut.k (k:=Sum.inr y) w2.m (by rw[b6l,Yb];omega),?_⟩;rw[b6m];obtain⟨w3,f3⟩:=w2.met' (ord (.any y) met);exact q _ [.ref p1] (fw2.trans f3) w3 (by rw[ta,if_pos hm];exact .cons (d1u (w2.tup f3 _ _ tp1)) .nil)
  ·rw[if_neg hm]at dg;refine⟨pm,_,rfl,dg,?_⟩;ext;refine iteB (λe=>absurd e qz) (λe=>?_);ext
   exists zG w.o T.cl_a0 T.no_a0_slots (a5z _ _ _ _)
   exists a0i hs (v:=.str y) rfl
   refine⟨ps,_,rfl,dj,?_⟩;ext;refine⟨ln (by show 3<=100000;decide),λp1 hp1=>?_⟩;have sp1:=a0f hp1 (.tup [.str "slot",.int cell,.int (ix u y)]);have kp1:(upd H p1 (.tup [.str "slot",.int cell,.int (ix u y)])) p1=some (.tup [.str "slot",.int cell,.int (ix u y)]):=a0b;generalize upd H p1 (.tup [.str "slot",.int cell,.int (ix u y)])=Hp1 at sp1 kp1 ⊢;ext;have ap1:=w.same sp1;refine⟨dx,ps,pm,pr,_,_,ap1.o,ap1.r,by first|omega| (simp only[Zc,length_cons,length_nil]at*;omega),?_⟩;obtain⟨w2,fw2⟩:=ap1.row (.ref p1);have fw2:=(WFr.of (x:=x) (pm:=pm) (pr:=pr) sp1).trans fw2;have tp1:=(ap1.tup (show WFr x pm pr Hp1 _ from(ap1.row (.ref p1)).2)) _ _ (SqT.of kp1);generalize upd Hp1 pr (.lst (_++[.ref p1]))=H2 at w2 fw2 tp1 ⊢;ext
   exists zG w2.o T.cl_a0 T.no_a0_met (b8j _ _ _ _)
   exists a0i (w.tup fw2 _ _ hs) (v:=.str y) rfl
   refine⟨pm,_,rfl,DPut.k (k:=Sum.inr y) w2.m (by rw[b6l,Yb];omega),?_⟩;rw[b6m];obtain⟨w3,f3⟩:=w2.met' (ord (.any y) met);exact q _ [.ref p1] (fw2.trans f3) w3 (by rw[ta,if_neg hm];exact .cons (d1t (w2.tup f3 _ _ tp1)) .nil)
 |app sg ks=>
  obtain⟨a,b,us,rfl,hs,hb,hk⟩:=a3f hd;have hkl:=a2l hk;have zl:=Trm.len_le ks;simp only[Trm.size]at hz hrs hml;have hvk:∀y∈a1b ks,y∈u:=by simpa only[vars]using hv
  exists a0i hs (v:=.str appS) rfl
  refine iteB (λe=>absurd e qk) (λe=>?_);ext
  exists a0i hs (v:=.str appS) rfl
  refine iteB (λe=>absurd e qk) (λe=>?_);ext;refine⟨x,dx,_,rfl,w.o,a2r,?_⟩;ext
  exists a0i hs (v:=.ref b) rfl
  exists a2t hb
  refine⟨dx,ps,pm,pr,_,_,_,_,w,?_⟩;rw[show(c:Int)+(us.length:Int)=((c+us.length:Nat):Int) by omega];obtain⟨w1,f1⟩:=w.cel (c+us.length);generalize upd H x (.ins t.k_a0 dx (fsW ps pm ((c+us.length:Nat):Int) pr))=H1 at w1 f1 ⊢;have hs1:=w.tup f1 _ _ hs;have hb1:=w.tup f1 _ _ hb;have hk1:=hk.monoT (w.tup f1);ext;refine⟨x,dx,_,rfl,w1.o,a2r,?_⟩;ext
  exists a0i hs1 (v:=.str sg) rfl
  exists a0i hs1 (v:=.ref b) rfl
  exists a2t hb1
  refine⟨ln (by show 5<=100000;decide),λp1 hp1=>?_⟩;have sp1:=a0f hp1 (.tup [.str "app",.int cell,.str sg,.int us.length,.int c]);have kp1:(upd H1 p1 (.tup [.str "app",.int cell,.str sg,.int us.length,.int c])) p1=some (.tup [.str "app",.int cell,.str sg,.int us.length,.int c]):=a0b;generalize upd H1 p1 (.tup [.str "app",.int cell,.str sg,.int us.length,.int c])=H1p1 at sp1 kp1 ⊢;ext;have ap1:=w1.same sp1;refine⟨dx,ps,pm,pr,_,_,ap1.o,ap1.r,by first|omega| (simp only[Zc,length_cons,length_nil]at*;omega),?_⟩;obtain⟨w2,fw2⟩:=ap1.row (.ref p1);have fw2:=(WFr.of (x:=x) (pm:=pm) (pr:=pr) sp1).trans fw2;have tp1:=(ap1.tup (show WFr x pm pr H1p1 _ from(ap1.row (.ref p1)).2)) _ _ (SqT.of kp1);generalize upd H1p1 pr (.lst (_++[.ref p1]))=H2 at w2 fw2 tp1 ⊢;have fA:=f1.trans fw2;have hs2:=w1.tup fw2 _ _ hs1;have hb2:=w1.tup fw2 _ _ hb1;have hk2:=hk1.monoT (w1.tup fw2);ext
  exists a0i hs2 (v:=.ref b) rfl
  refine⟨b,us,rfl,hb2,?_⟩;refine b0s (λi σ' J=>∃(o4 o5:Option V)(ns:List V),σ'=[some (.ref x),some (.int cell),some (.ref a),some (.int c),o4,o5]/\WFr x pm pr H2 J/\WS K t.k_a0 J x dx ps pm pr u (ordL (ks.take i) met) (c+us.length+(Trm.sizeL (ks.take i)-i)) ((rs++[.ref p1])++ns)/\DenL K J ns ((taL (ix u) (ks.take i) c (c+us.length) met).map Rw.data)/\ns.length<=Trm.sizeL (ks.take i)) ⟨none,none,[],rfl,WFr.refl _ _ _ _,by rw[Xb,ordL,Z7];exact w2,c0z _ _ _ _ _,Yk _⟩ (λi σ' J hP=>by obtain⟨_,_,_,_,h,_⟩:=hP;exact w2.tup h _ _ hb2) (λi σ' J T' hi hP hT=>?_) (λσ' J hP=>?_)
  ·obtain⟨o4,o5,ns,rfl,g1,g2,g3,g4⟩:=hP;have hki:i<ks.length:=by omega
   obtain⟨hui,dk⟩:=a9w hk2 hki;have z1:=a7b (Za hki);have z2:=a9n ks (i+1);rw[a3v hki]at z2;have z3:=ks[i].size_pos;have z4:=Trm.len_le (ks.take i);rw[a6a qo]at z4;have z5:=a8e (ks.take i) met;refine a8r (SqT.of a0b) rfl ?_;rw[getD_at hui];have sT:=a0f hT (.tup [.int i,us[i]]);generalize upd J T' (.tup [.int i,us[i]])=J1 at sT ⊢;have g2':=g2.same sT;have f1':=g1.trans (WFr.of (x:=x) (pm:=pm) (pr:=pr) sT);ext;refine⟨x,dx,_,rfl,g2'.o,a2r,?_⟩;ext;refine⟨dx,ps,pm,pr,u,_,_,_,ks[i],c+i,g2',qo,(dk.monoT (w2.tup f1')),λy hy=>hvk y (b2g hki y hy),qo,qo,by simp only[Zc,length_cons,length_nil];omega,qo,λJ2 ns2 f2 w3 d3=>?_⟩;have l3:=d3.length;rw[length_map]at l3;refine⟨_,_,ns++ns2,rfl,f1'.trans f2,?_,?_,?_⟩
   ·rw[take_succ' hki,b0j,c3r,<-Zt,<-take_succ' hki,a3v hki];rw[show c+us.length+(Trm.sizeL (ks.take i)+ks[i].size-(i+1))=c+us.length+(Trm.sizeL (ks.take i)-i)+(ks[i].size-1) by omega];exact w3
   ·rw[take_succ' hki,b6s,Zn,a6a qo];exact((g3.mono sT).monoT (g2'.tup f2)).append d3
   ·rw[Zc,a3v hki,l3];have:=c4d (ix u) ks[i] (c+i) (c+us.length+(Trm.sizeL (ks.take i)-i)) (ordL (ks.take i) met);omega
  obtain⟨o4,o5,ns,rfl,g1,g2,g3,g4⟩:=hP;rw[Zy qo]at g2 g3 g4;refine q J (.ref p1::ns) (fA.trans g1) ?_ ?_
  ·rw[ord];simp only[Trm.size];rw[show c+(1+Trm.sizeL ks-1)=c+us.length+(Trm.sizeL ks-us.length) by omega];rw[Zt]at g2;exact g2
  ·rw[ta,Zp,<-hkl];exact .cons (d4m (w2.tup g1 _ _ tp1)) g3
theorem b2k(T:Txt K mg t)(G_a2:FnOk P w K mg base CX0 1 t.a_a2 t.d_a2 ["self","row"] (a2j K t.k_a0))(G_a4:FnOk P w K mg base CX0 1 t.a_a4 t.d_a4 ["self","many"] (a2g K t.k_a0))(n:Nat):FnOk P w K mg base CX0 (n+2) t.a_c0 t.d_c0 ["self","cell","term"] (a2v K t.k_a0 n):=by
 induction n with
 |zero=>
  have no:∀vs H Q E,(a2v K t.k_a0 0) vs H Q E->False:=λvs H Q E h=>by
   revert vs
   walk_at "in";exactλh=>b1z h
  exact⟨λvs H Q E h=>(no vs H Q E h).elim,λA outer s H args us vs Q E _ _ _ _ h=>(no vs H Q E h).elim⟩
 |succ n ih=>
  have e:n+1+2=n+2+1:=by omega
  rw[e];exact b2j T G_a2 G_a4 n ih
end
section
variable{P:Program}{w:World}{K:W.Frag}{mg:Str->Option Value}{base:Heap}{t:Ad}
theorem b2l(T:Txt K mg t)(G_a4:FnOk P w K mg base CX0 1 t.a_a4 t.d_a4 ["self","many"] (a2g K t.k_a0))(G_c0:FnOk P w K mg base CX0 62 t.a_c0 t.d_c0 ["self","cell","term"] (a2v K t.k_a0 60)):FnOk P w K mg base CX0 63 t.a_e7 t.d_e7 ["self","head"] (a7k K t.k_a0):=by
 exists T.F_e7.ok a4t,(a0e (a1f (a1y (mv 0) T.cl_a0 T.me_a4 G_a4 hr.o T.b_a4 .nil a0n (a0a (a0r (a1k K rfl) rfl T.n_a3 Zq (a0a (a0j (a0h K rfl) (mv 1) a0d (λ_ _=>rfl)) a0c)) a0c))) (a0g (a1p Zv rfl (b0r K rfl rfl T.n_f5 (a0a (a0j (a0h K rfl) (mv 1) a0d (λ_ _=>rfl)) a0c)) (a7g K rfl rfl (a2n (a1a (i:=2) a4t.nd rfl (by nofun)) (a2n (a1a (i:=3) a4t.nd rfl (by nofun)) a7e))) (a0g (a1f (a1y (mv 0) T.cl_a0 T.me_c0 G_c0 hr.o T.b_c0 .nil a0n (a0a (mv 2) (a0a (mv 3) a0c)))))))),H,Q,E,hr,h
 rename_i x v;obtain⟨dx,ps,pm,pr,u,wd,ks,w,hd,hvk,hz,q⟩:=h;obtain⟨a,b,us,rfl,hs,hb,hk⟩:=a3f hd;have hkl:=a2l hk;have zl:=Trm.len_le ks;ext;refine⟨x,dx,_,rfl,w.o,a2r,?_⟩;ext
 exists a0i hs (v:=.ref b) rfl
 exists a2t hb
 refine⟨dx,ps,pm,pr,_,_,_,_,w,?_⟩;rw[show((0:Nat):Int)+(us.length:Int)=((us.length:Nat):Int) by omega];obtain⟨w1,f1⟩:=w.cel us.length;generalize upd H x (.ins t.k_a0 dx (fsW ps pm ((us.length:Nat):Int) pr))=H1 at w1 f1 ⊢;have hs1:=w.tup f1 _ _ hs;have hb1:=w.tup f1 _ _ hb;have hk1:=hk.monoT (w.tup f1);ext
 exists a0i hs1 (v:=.ref b) rfl
 refine⟨b,us,rfl,hb1,?_⟩;refine b0s (λi σ' J=>∃(o4 o5:Option V)(ns:List V),σ'=[some (.ref x),some (.ref a),o4,o5]/\WFr x pm pr H1 J/\WS K t.k_a0 J x dx ps pm pr u (ordL (ks.take i) []) (us.length+(Trm.sizeL (ks.take i)-i)) ns/\DenL K J ns ((taL (ix u) (ks.take i) 0 us.length []).map Rw.data)/\ns.length<=Trm.sizeL (ks.take i)) ⟨none,none,[],rfl,WFr.refl _ _ _ _,by rw[Xb,ordL];exact w1,c0z _ _ _ _ _,Yk _⟩ (λi σ' J hP=>by obtain⟨_,_,_,_,h,_⟩:=hP;exact w1.tup h _ _ hb1) (λi σ' J T' hi hP hT=>?_) (λσ' J hP=>?_)
 ·obtain⟨o4,o5,ns,rfl,g1,g2,g3,g4⟩:=hP;have hki:i<ks.length:=by omega
  obtain⟨hui,dk⟩:=a9w hk1 hki;have z1:=a7b (Za hki);have z2:=a9n ks (i+1);rw[a3v hki]at z2;have z3:=ks[i].size_pos;have z4:=Trm.len_le (ks.take i);rw[a6a qo]at z4;have z5:=a8e (ks.take i) [];rw[length_nil]at z5;refine a8r (SqT.of a0b) rfl ?_;rw[getD_at hui];have sT:=a0f hT (.tup [.int i,us[i]]);generalize upd J T' (.tup [.int i,us[i]])=J1 at sT ⊢;have g2':=g2.same sT;have f1':=g1.trans (WFr.of (x:=x) (pm:=pm) (pr:=pr) sT);ext;refine⟨x,dx,_,rfl,g2'.o,a2r,?_⟩;ext;refine⟨dx,ps,pm,pr,u,_,_,_,ks[i],i,g2',rfl,(dk.monoT (w1.tup f1')),λy hy=>hvk y (b2g hki y hy),qo,qo,qo,qo,λJ2 ns2 f2 w3 d3=>?_⟩;have l3:=d3.length;rw[length_map]at l3;refine⟨_,_,ns++ns2,rfl,f1'.trans f2,?_,?_,?_⟩
  ·rw[take_succ' hki,b0j,c3r,<-take_succ' hki,a3v hki];rw[show us.length+(Trm.sizeL (ks.take i)+ks[i].size-(i+1))=us.length+(Trm.sizeL (ks.take i)-i)+(ks[i].size-1) by omega];exact w3
  ·rw[take_succ' hki,b6s,Zn,a6a qo,Ye];exact((g3.mono sT).monoT (g2'.tup f2)).append d3
  ·rw[Zc,a3v hki,l3];have:=c4d (ix u) ks[i] i (us.length+(Trm.sizeL (ks.take i)-i)) (ordL (ks.take i) []);omega
 obtain⟨o4,o5,ns,rfl,g1,g2,g3,g4⟩:=hP;rw[Zy qo]at g2 g3 g4;rw[show us.length+(Trm.sizeL ks-us.length)=Trm.sizeL ks by omega]at g2;rw[hkl]at g3;exact q J ns (f1.trans g1) g2 g3
theorem b6u(T:Txt K mg t)(G_a2:FnOk P w K mg base CX0 1 t.a_a2 t.d_a2 ["self","row"] (a2j K t.k_a0))(G_a4:FnOk P w K mg base CX0 1 t.a_a4 t.d_a4 ["self","many"] (a2g K t.k_a0))(n:Nat)(G_b9:FnOk P w K mg base CX0 (n+2) t.a_b9 t.d_b9 ["self","cell","term"] (a4i K t.k_a0 n)):FnOk P w K mg base CX0 (n+2+1) t.a_b9 t.d_b9 ["self","cell","term"] (a4i K t.k_a0 (n+1)):=by
 exists T.F_b9.ok (k:=n+2) a5c,(a0g (a0y (a0s a1g (a0j (a0h K rfl) (mv 2) a0d (λ_ _=>rfl)) a0k (a0t _)) (a0g (a1f (a1y (mv 0) T.cl_a0 T.me_a2 G_a2 hr.o T.b_a2 .nil a0n (a0a (a0x (a0a a0k (a0a (mv 1) (a0a (a0j (a0h K rfl) (mv 2) a0d (λ_ _=>rfl)) a0c)))) a0c)))) (a0g (a0y (a0s a1g (a0j (a0h K rfl) (mv 2) a0d (λ_ _=>rfl)) a0k (a0t _)) (a0g (a1f (a1y (mv 0) T.cl_a0 T.me_a2 G_a2 hr.o T.b_a2 .nil a0n (a0a (a0x (a0a a0k (a0a (mv 1) (a0a (a2p (a1h hr) (a4p (mv 0) rfl) (a0j (a0h K rfl) (mv 2) a0d (λ_ _=>rfl)) (λ_ _=>rfl)) a0c)))) a0c)))) (a0e (a0p (i:=3) (hs:=a1n) a5c.nd rfl (by nofun) (a1y (mv 0) T.cl_a0 T.me_a4 G_a4 hr.o T.b_a4 .nil a0n (a0a (a0r (a1k K rfl) rfl T.n_a3 Zq (a0a (a0j (a0h K rfl) (mv 2) a0d (λ_ _=>rfl)) a0c)) a0c))) (a0e (a1p Zv rfl (b0r K rfl rfl T.n_f5 (a0a (a0j (a0h K rfl) (mv 2) a0d (λ_ _=>rfl)) a0c)) (a7g K rfl rfl (a2n (a1a (i:=4) a5c.nd rfl (by nofun)) (a2n (a1a (i:=5) a5c.nd rfl (by nofun)) a7e))) (a0g (a1f (a1y (mv 0) T.cl_a0 T.me_b9 G_b9 hr.o T.b_b9 .nil a0n (a0a (a0u (a1d K rfl) (mv 3) (mv 4)) (a0a (mv 5) a0c)))))) (a0g (a1f (a1y (mv 0) T.cl_a0 T.me_a2 G_a2 hr.o T.b_a2 .nil a0n (a0a (a0x (a0a a0k (a0a (mv 1) (a0a (a0j (a0h K rfl) (mv 2) a0d (λ_ _=>rfl)) (a0a (a0r (a1k K rfl) rfl T.n_a3 Zq (a0a (a0j (a0h K rfl) (mv 2) a0d (λ_ _=>rfl)) a0c)) (a0a (mv 3) a0c)))))) a0c)))))))))),H,Q,E,hr,h
 rename_i x i v;obtain⟨dx,ps,pm,pr,u,met,c,rs,t0,cell,w,ei,hd,hv,hz,hn,hrs,q⟩:=h;have tp:=t0.size_pos;subst ei;ext;cases t0 with
 |num m=>
  obtain⟨a,rfl,hs⟩:=a6g hd
  exists a0i hs (v:=.str numS) rfl
  refine iteB (λe=>?_) (λe=>absurd e qk);ext;refine⟨x,dx,_,rfl,w.o,a2r,?_⟩;ext
  exists a0i hs (v:=.int m) rfl
  refine⟨ln (by show 3<=100000;decide),λp1 hp1=>?_⟩;have sp1:=a0f hp1 (.tup [.str "putnum",.int cell,.int m]);have kp1:(upd H p1 (.tup [.str "putnum",.int cell,.int m])) p1=some (.tup [.str "putnum",.int cell,.int m]):=a0b;generalize upd H p1 (.tup [.str "putnum",.int cell,.int m])=Hp1 at sp1 kp1 ⊢;ext;have ap1:=w.same sp1;refine⟨dx,ps,pm,pr,_,_,ap1.o,ap1.r,by first|omega| (simp only[Zc,length_cons,length_nil]at*;omega),?_⟩;obtain⟨w2,fw2⟩:=ap1.row (.ref p1);have fw2:=(WFr.of (x:=x) (pm:=pm) (pr:=pr) sp1).trans fw2;have tp1:=(ap1.tup (show WFr x pm pr Hp1 _ from(ap1.row (.ref p1)).2)) _ _ (SqT.of kp1);generalize upd Hp1 pr (.lst (_++[.ref p1]))=H2 at w2 fw2 tp1 ⊢;exact q _ [.ref p1] fw2 w2 (by rw[br];exact .cons (den_pn tp1) .nil)
 |any y=>
  obtain⟨a,rfl,hs⟩:=a6h hd;have hy:y∈u:=hv y (by simp[vars])
  exists a0i hs (v:=.str anyS) rfl
  refine iteB (λe=>absurd e qk) (λe=>?_);ext
  exists a0i hs (v:=.str anyS) rfl
  refine iteB (λe=>?_) (λe=>absurd e qk);ext;refine⟨x,dx,_,rfl,w.o,a2r,?_⟩;ext;refine zG w.o T.cl_a0 T.no_a0_slots (a5z _ _ _ _) ?_;have dj:DGet H ps (.str y) (valV (encJ 0 u) (Sum.inr y)):=DGet.k (k:=Sum.inr y) w.s;rw[valJ 0 hy,Ye]at dj;ext
  exists a0i hs (v:=.str y) rfl
  refine⟨ps,_,rfl,dj,?_⟩;ext;refine⟨ln (by show 3<=100000;decide),λp1 hp1=>?_⟩;have sp1:=a0f hp1 (.tup [.str "put",.int cell,.int (ix u y)]);have kp1:(upd H p1 (.tup [.str "put",.int cell,.int (ix u y)])) p1=some (.tup [.str "put",.int cell,.int (ix u y)]):=a0b;generalize upd H p1 (.tup [.str "put",.int cell,.int (ix u y)])=Hp1 at sp1 kp1 ⊢;ext;have ap1:=w.same sp1;refine⟨dx,ps,pm,pr,_,_,ap1.o,ap1.r,by first|omega| (simp only[Zc,length_cons,length_nil]at*;omega),?_⟩;obtain⟨w2,fw2⟩:=ap1.row (.ref p1);have fw2:=(WFr.of (x:=x) (pm:=pm) (pr:=pr) sp1).trans fw2;have tp1:=(ap1.tup (show WFr x pm pr Hp1 _ from(ap1.row (.ref p1)).2)) _ _ (SqT.of kp1);generalize upd Hp1 pr (.lst (_++[.ref p1]))=H2 at w2 fw2 tp1 ⊢;exact q _ [.ref p1] fw2 w2 (by rw[br];exact .cons (den_pt tp1) .nil)
 |app sg ks=>
  obtain⟨a,b,us,rfl,hs,hb,hk⟩:=a3f hd;have hkl:=a2l hk;have zl:=Trm.len_le ks;simp only[Trm.size]at hz hrs q;have hvk:∀y∈a1b ks,y∈u:=by simpa only[vars]using hv
  exists a0i hs (v:=.str appS) rfl
  refine iteB (λe=>absurd e qk) (λe=>?_);ext
  exists a0i hs (v:=.str appS) rfl
  refine iteB (λe=>absurd e qk) (λe=>?_);ext;refine⟨x,dx,_,rfl,w.o,a2r,?_⟩;ext
  exists a0i hs (v:=.ref b) rfl
  exists a2t hb
  refine⟨dx,ps,pm,pr,_,_,_,_,w,?_⟩;rw[show(c:Int)+(us.length:Int)=((c+us.length:Nat):Int) by omega];obtain⟨w1,f1⟩:=w.cel (c+us.length);generalize upd H x (.ins t.k_a0 dx (fsW ps pm ((c+us.length:Nat):Int) pr))=H1 at w1 f1 ⊢;have hs1:=w.tup f1 _ _ hs;have hb1:=w.tup f1 _ _ hb;have hk1:=hk.monoT (w.tup f1);ext
  exists a0i hs1 (v:=.ref b) rfl
  refine⟨b,us,rfl,hb1,?_⟩;refine b0s (λj σ' J=>∃(o4 o5:Option V)(ns:List V),σ'=[some (.ref x),some (.int cell),some (.ref a),some (.int c),o4,o5]/\WFr x pm pr H1 J/\WS K t.k_a0 J x dx ps pm pr u met (c+us.length+(Trm.sizeL (ks.take j)-j)) (rs++ns)/\DenL K J ns ((brL (ks.take j) c (c+us.length)).map (Br.data (ix u)))/\ns.length=Trm.sizeL (ks.take j)) ⟨none,none,[],rfl,WFr.refl _ _ _ _,by rw[Z7];exact w1,b8n _ _ _ _,rfl⟩ (λj σ' J hP=>by obtain⟨_,_,_,_,h,_⟩:=hP;exact w1.tup h _ _ hb1) (λj σ' J T' hi hP hT=>?_) (λσ' J hP=>?_)
  ·obtain⟨o4,o5,ns,rfl,g1,g2,g3,g4⟩:=hP;have hki:j<ks.length:=by omega
   have z4:=Trm.len_le (ks.take j);rw[a6a qo]at z4;obtain⟨hui,dk⟩:=a9w hk1 hki;have z1:=a7b (Za hki);have z2:=a9n ks (j+1);rw[a3v hki]at z2;have z3:=ks[j].size_pos;refine a8r (SqT.of a0b) rfl ?_;rw[getD_at hui];have sT:=a0f hT (.tup [.int j,us[j]]);generalize upd J T' (.tup [.int j,us[j]])=J1 at sT ⊢;have g2':=g2.same sT;have f1':=g1.trans (WFr.of (x:=x) (pm:=pm) (pr:=pr) sT);ext;refine⟨x,dx,_,rfl,g2'.o,a2r,?_⟩;ext;refine⟨dx,ps,pm,pr,u,_,_,_,ks[j],c+j,g2',qo,(dk.monoT (w1.tup f1')),λy hy=>hvk y (b2g hki y hy),qo,qo,by rw[Zc];omega,λJ2 ns2 f2 w3 d3=>?_⟩;have l3:=d3.length;rw[length_map,c4a]at l3;refine⟨_,_,ns++ns2,rfl,f1'.trans f2,?_,?_,?_⟩
   ·rw[<-Zt,a3v hki];rw[show c+us.length+(Trm.sizeL (ks.take j)+ks[j].size-(j+1))=c+us.length+(Trm.sizeL (ks.take j)-j)+(ks[j].size-1) by omega];exact w3
   ·rw[take_succ' hki,b6n,Zn,a6a qo];exact((g3.mono sT).monoT (g2'.tup f2)).append d3
   ·rw[Zc,a3v hki,l3];omega
  obtain⟨o4,o5,ns,rfl,g1,g2,g3,g4⟩:=hP;rw[Zy qo]at g2 g3 g4;have hs2:=w1.tup g1 _ _ hs1;have hb2:=w1.tup g1 _ _ hb1;ext;refine⟨x,dx,_,rfl,g2.o,a2r,?_⟩;ext
  exists a0i hs2 (v:=.str sg) rfl
  exists a0i hs2 (v:=.ref b) rfl
  exists a2t hb2
  refine⟨ln (by show 5<=100000;decide),λp1 hp1=>?_⟩;have sp1:=a0f hp1 (.tup [.str "build",.int cell,.str sg,.int us.length,.int c]);have kp1:(upd J p1 (.tup [.str "build",.int cell,.str sg,.int us.length,.int c])) p1=some (.tup [.str "build",.int cell,.str sg,.int us.length,.int c]):=a0b;generalize upd J p1 (.tup [.str "build",.int cell,.str sg,.int us.length,.int c])=Jp1 at sp1 kp1 ⊢;ext;have ap1:=g2.same sp1;refine⟨dx,ps,pm,pr,_,_,ap1.o,ap1.r,by first|omega| (simp only[Zc,length_cons,length_nil]at*;omega),?_⟩;obtain⟨w2,fw2⟩:=ap1.row (.ref p1);have fw2:=(WFr.of (x:=x) (pm:=pm) (pr:=pr) sp1).trans fw2;have tp1:=(ap1.tup (show WFr x pm pr Jp1 _ from(ap1.row (.ref p1)).2)) _ _ (SqT.of kp1);generalize upd Jp1 pr (.lst (_++[.ref p1]))=H2 at w2 fw2 tp1 ⊢;refine q _ (ns++[.ref p1]) (f1.trans (g1.trans fw2)) ?_ ?_
  ·rw[<-Zt];rw[show c+(1+Trm.sizeL ks-1)=c+us.length+(Trm.sizeL ks-us.length) by omega];exact w2
  ·rw[br,Zn,<-hkl];exact((g3.monoT (g2.tup fw2)).append (.cons (den_bd hkl tp1) .nil))
theorem b6v(T:Txt K mg t)(G_a2:FnOk P w K mg base CX0 1 t.a_a2 t.d_a2 ["self","row"] (a2j K t.k_a0))(G_a4:FnOk P w K mg base CX0 1 t.a_a4 t.d_a4 ["self","many"] (a2g K t.k_a0))(n:Nat):FnOk P w K mg base CX0 (n+2) t.a_b9 t.d_b9 ["self","cell","term"] (a4i K t.k_a0 n):=by
 induction n with
 |zero=>
  have no:∀vs H Q E,(a4i K t.k_a0 0) vs H Q E->False:=λvs H Q E h=>by
   revert vs
   walk_at "in";exactλh=>b6r h
  exact⟨λvs H Q E h=>(no vs H Q E h).elim,λA outer s H args us vs Q E _ _ _ _ h=>(no vs H Q E h).elim⟩
 |succ n ih=>
  have e:n+1+2=n+2+1:=by omega
  rw[e];exact b6u T G_a2 G_a4 n ih
end
section
variable{P:Program}{w:World}{K:W.Frag}{mg:Str->Option Value}{base:Heap}{t:Ad}
theorem c6m:∀(u:List Str)(k i:Nat)(hi:i<u.length),(encJ k u)[i]? =some (Sum.inr u[i],V.int ((k+i:Nat):Int))
 |x::u,k,0,_=>rfl
 |x::u,k,i+1,hi=>by
  have:=c6m u (k+1) i (by simpa using hi);rw[show k+1+i=k+(i+1) by omega]at this;exact this
 | [],_,_,hi=>by simp at hi
theorem d4n{K:W.Frag}{H:Hp}{p:Addr}{o:Obj}{kv:List (Key×V)}(h:H p=some (.frz o (.dK kv))):∀a xs,SqT K H a xs->SqT K (upd H p (.dK kv)) a xs:=λa xs g=>by
 have n1:∀{o':HO},H a=some o'->(∀o kv,o'≠.frz o (.dK kv))->(upd H p (.dK kv)) a=some o':=λe h1=>by
  rw[a0l (λz=>by rw[z,h]at e;exact h1 _ _ (Zi e).symm)];exact e
 rcases g with(g|⟨o',g⟩)|g
 ·exact .inl (.inl (n1 g (λ_ _ z=>by cases z)))
 ·exact .inl (.inr ⟨o',n1 g (λ_ _ z=>by cases z)⟩)
 ·exact .inr g
theorem den_new{K:W.Frag}{H:Hp}{p:Addr}{s:Nat}(h:SqT K H p [.str newS,.int s]):Den K H (.ref p) (newD s):=.tup h (.cons (.str _) (.cons (.int _) .nil))
noncomputable def a9q(u met:List Str)(i:Nat):List PyData:=((u.take i).filter λx=>decide (x∉met)).map λx=>newD (ix u x)
theorem d1w{u met:List Str}:a9q u met u.length=a9p u met:=by rw[a9q,Xx];rfl
theorem d4o{u met:List Str}{i:Nat}(hi:i<u.length)(h:u[i]∈met):a9q u met (i+1)=a9q u met i:=by
 unfold a9q;rw[Vt,Za hi,Rg,Uw,List.filter_cons,if_neg (by simp[h]),List.filter_nil,Z7]
theorem d1x{u met:List Str}{i:Nat}(hi:i<u.length)(h:u[i]∉met):a9q u met (i+1)=a9q u met i++[newD (ix u u[i])]:=by
 unfold a9q;rw[Vt,Za hi,Rg,Uw,List.filter_cons,if_pos (by simp[h]),List.filter_nil,Zn];rfl
theorem b1m(T:Txt K mg t)(G_a2:FnOk P w K mg base CX0 1 t.a_a2 t.d_a2 ["self","row"] (a2j K t.k_a0)):FnOk P w K mg base CX0 2 t.a_e8 t.d_e8 ["self"] (a6x K t.k_a0):=by
 exists T.F_e8.ok a6w,(a0e (a1f (a1y (mv 0) T.cl_a0 T.me_a2 G_a2 hr.o T.b_a2 .nil a0n (a0a (a0x (a0a a0k a0c)) a0c))) (a0g (c6d (a1p Zv rfl (c6c (a4p (mv 0) rfl)) (a1a (i:=1) a6w.nd rfl (by nofun)) (a0g (a0y (a0s (b4z (a1h hr)) (mv 1) (a4p (mv 0) rfl) (by with_unfolding_all rfl)) (a0g (a1f (a1y (mv 0) T.cl_a0 T.me_a2 G_a2 hr.o T.b_a2 .nil a0n (a0a (a0x (a0a a0k (a0a (a2p (a1h hr) (a4p (mv 0) rfl) (mv 1) (λ_ _=>rfl)) a0c))) a0c)))) a0v)))))),H,Q,E,hr,h
 rename_i x;obtain⟨dx,ps,pm,pr,u,met,c,rs,w,hrs,hul,hnd,q⟩:=h;ext;refine⟨x,dx,_,rfl,w.o,a2r,?_⟩;ext;refine⟨ln (by show 1<=100000;decide),λp1 hp1=>?_⟩;have sp1:=a0f hp1 (.tup [.str "frame"]);have kp1:(upd H p1 (.tup [.str "frame"])) p1=some (.tup [.str "frame"]):=a0b;generalize upd H p1 (.tup [.str "frame"])=Hp1 at sp1 kp1 ⊢;ext;have ap1:=w.same sp1;refine⟨dx,ps,pm,pr,_,_,ap1.o,ap1.r,by first|omega| (simp only[Zc,length_cons,length_nil]at*;omega),?_⟩;obtain⟨w2,fw2⟩:=ap1.row (.ref p1);have fw2:=(WFr.of (x:=x) (pm:=pm) (pr:=pr) sp1).trans fw2;have tp1:=(ap1.tup (show WFr x pm pr Hp1 _ from(ap1.row (.ref p1)).2)) _ _ (SqT.of kp1);generalize upd Hp1 pr (.lst (_++[.ref p1]))=H2 at w2 fw2 tp1 ⊢;obtain⟨e1,e2,e3,e4,e5⟩:=w2.ne1;ext;refine zG w2.o T.cl_a0 T.no_a0_slots (a5z _ _ _ _) ?_;generalize NFz _=NF;refine⟨ps,_,rfl,w2.s,λo nf=>?_⟩;have b1:But ps H2 (upd H2 ps (.frz o (.dK (encJ 0 u)))):=a1z;have f1:(upd H2 ps (.frz o (.dK (encJ 0 u)))) ps=some (.frz o (.dK (encJ 0 u))):=a0b;generalize upd H2 ps (.frz o (.dK (encJ 0 u)))=F at b1 f1 ⊢;have xF:=b1 _ _ e3.symm w2.o;have mF:=b1 _ _ w2.ne.symm w2.m;have rF:=b1 _ _ e5.symm w2.r;refine a1t c3k (λi σ' J=>∃(o':Option V)(ns:List V),σ'=[some (.ref x),o']/\J pr=some (.lst ((rs++[.ref p1])++ns))/\ns.length<=i/\(∀b o',b≠pr->F b=some o'->J b=some o')/\DenL K J ns (a9q u met i)) ⟨none,[],rfl,by rw[Z7];exact rF,Zg _,λb o' _ e=>e,.nil⟩ (λi σ' J hP=>by obtain⟨_,_,_,_,_,h,_⟩:=hP;exact h _ _ e5 f1) (λi σ' J hi hP=>?_) (λσ' J hP=>?_)
 ·obtain⟨o',ns,rfl,g1,g2,g3,g4⟩:=hP;rw[a3a]at hi;rw[c6m u 0 i hi];have xJ:=g3 _ _ e2.symm xF;have mJ:=g3 _ _ e4 mF;have sJ:=g3 _ _ e5 f1;have dg:DGet J pm (.str u[i]) (valV (encB met) (Sum.inr u[i])):=DGet.k (k:=Sum.inr u[i]) mJ;have dj:DGet J ps (.str u[i]) (valV (encJ 0 u) (Sum.inr u[i])):=.inl ⟨_,Sum.inr u[i],.inr ⟨o,sJ⟩,rfl,rfl⟩;rw[valJ 0 (Zx hi),Ye]at dj;rw[valB]at dg;ext;refine zG xJ T.cl_a0 T.no_a0_met (b8j _ _ _ _) ?_;refine⟨pm,_,rfl,dg,?_⟩;ext
  exists e
  rotate_left
  ·have hm:u[i]∈met:=by
    by_cases z:u[i]∈met
    ·exact z
    ·rw[if_neg z]at e;simp at e
   ext;exact⟨_,ns,rfl,g1,qo,g3,by rw[d4o hi hm];exact g4⟩
  have hm:u[i]∉met:=λz=>by rw[if_pos z]at e;simp at e
  ext;refine⟨x,dx,_,rfl,xJ,a2r,?_⟩;ext
  exists zG xJ T.cl_a0 T.no_a0_slots (a5z _ _ _ _)
  refine⟨ps,_,rfl,dj,?_⟩;ext;refine⟨ln (by show 2<=100000;decide),λp2 hp2=>?_⟩;have s2:=a0f hp2 (.tup [.str newS,.int (ix u u[i]:Int)]);have k2:(upd J p2 (.tup [.str newS,.int (ix u u[i]:Int)])) p2=some (.tup [.str newS,.int (ix u u[i]:Int)]):=a0b;generalize hJ1:upd J p2 (.tup [.str newS,.int (ix u u[i]:Int)])=J1 at s2 k2;rw[show upd J p2 (.tup [.str "new",.int (ix u u[i]:Int)])=J1 from hJ1];ext;refine⟨dx,ps,pm,pr,_,_,s2 _ _ xJ,s2 _ _ g1,by simp only[Zc,length_cons,length_nil];omega,?_⟩;refine⟨_,ns++[.ref p2],rfl,by rw[<-Zt];exact a0b,by rw[Zc,Z9];omega,λb o2 hb e=>by rw[a0l hb];exact s2 _ _ (g3 _ _ hb e),?_⟩;rw[d1x hi hm];exact((g4.mono s2).append (.cons (den_new (SqT.of k2)) .nil)).lst (s2 _ _ g1)
 obtain⟨o',ns,rfl,g1,g2,g3,g4⟩:=hP;have jZ:=g3 _ _ e5 f1;refine⟨ps,o,_,nf,jZ,?_⟩;rw[a3a]at g2 g4;rw[d1w]at g4;have fZ:WFr x pm pr H2 (upd J ps (.dK (encJ 0 u))):=λb o2 h1 h2 h3 e=>by
  by_cases hb:b=ps
  ·rw[hb,w2.s]at e;rw[hb,<-e];exact a0b
  ·rw[a0l hb];exact g3 _ _ h3 (b1 _ _ hb e)
 have wZ:WS K t.k_a0 (upd J ps (.dK (encJ 0 u))) x dx ps pm pr u met c (rs++.ref p1::ns):=⟨by rw[a0l e3.symm];exact g3 _ _ e2.symm xF,a0b,by rw[a0l w2.ne.symm];exact g3 _ _ e4 mF,by rw[a0l e5.symm,g1,Zt];rfl,w2.ne⟩;exact q _ (.ref p1::ns) (fw2.trans fZ) wZ (.cons (den_1 (w2.tup fZ _ _ tp1)) (g4.monoT (d4n jZ)))
end
section
variable{P:Program}{w:World}{K:W.Frag}{mg:Str->Option Value}{base:Heap}{t:Ad}
noncomputable def Go.sgn:Go->Str
 | .keep=>a1u
 | .mark m _ _=>m.sign
 | .neg _ _=>notS
 | .nm w _=>w
noncomputable def Go.top:Go->List Trm
 | .keep=>[]
 | .mark _ a b=>[a,b]
 | .neg w ks=>[.app w ks]
 | .nm _ ks=>ks
theorem Go.trm_eq(g:Go):g.trm=.app g.sgn g.top:=by cases g<;>rfl
theorem Mk.sign_len(m:Mk):m.sign.length<=2:=by cases m<;>decide+kernel
theorem Mk.no_call(m:Mk):called m.sign a2u=false:=by cases m<;>decide+kernel
theorem Mk.no_keep(m:Mk):m.sign≠a1u/\m.sign≠notS:=by cases m<;>decide+kernel
theorem c4i(g:Go)(h:g.ok):named (.app g.sgn g.top)=g.named:=by
 cases g with
 |keep=>
  show(called a1u a2u&& !decide (a1u∈[a1u,notS]))=false
  rw[Yg qz,Tz,Vb]
 |mark m a b=>
  show(called m.sign a2u&& !decide (m.sign∈[a1u,notS]))=false
  rw[m.no_call];rfl
 |neg w ks=>
  show(called notS a2u&& !decide (notS∈[a1u,notS]))=false
  rw[Yg qz,Tz,Vb]
 |nm w ks=>
  obtain⟨h1,h2,h3,h4⟩:=h
  show(called w a2u&& !decide (w∈[a1u,notS]))=true
  rw[h1,Z4 (by simp[h2,h3])];rfl
theorem c6n(g:Go)(h:g.ok):g.sgn.length<=1000:=by
 cases g with
 |keep=>show a1u.length<=1000;decide+kernel
 |mark m a b=>have:=m.sign_len;show m.sign.length<=1000;omega
 |neg w ks=>show notS.length<=1000;decide+kernel
 |nm w ks=>have:=h.2.2.2;show w.length<=1000;omega
theorem c6o(g:Go)(h:g.ok):g.sgn=notS↔∃w ks,g=.neg w ks:=by
 cases g with
 |keep=>exact⟨λz=>absurd z qk,λ⟨_,_,z⟩=>by cases z⟩
 |mark m a b=>exact⟨λz=>absurd z m.no_keep.2,λ⟨_,_,z⟩=>by cases z⟩
 |neg w ks=>exact⟨λ_=>⟨_,_,rfl⟩,λ_=>rfl⟩
 |nm w ks=>exact⟨λz=>absurd z h.2.2.1,λ⟨_,_,z⟩=>by cases z⟩
theorem b2m(T:Txt K mg t)(D:KD P w K t.c_f4 (b0n t))(G_b3:FnOk P w K mg base CX0 4 t.a_b3 t.d_b3 ["term"] (b1l K))(G_b9:FnOk P w K mg base CX0 62 t.a_b9 t.d_b9 ["self","cell","term"] (a4i K t.k_a0 60))(G_a2:FnOk P w K mg base CX0 1 t.a_a2 t.d_a2 ["self","row"] (a2j K t.k_a0)):FnOk P w K mg base CX0 63 t.a_c6 t.d_c6 ["self","goal","call"] (a7l K t.k_a0):=by
 exists T.F_c6.ok a3s,(a0e (a0p (i:=3) a3s.nd rfl (by nofun) (b5v (a0s a1g (a0j (a0h K rfl) (mv 1) a0d (λ_ _=>rfl)) (a6e rfl T.m_f6) (a0t _)) (a0j (a0h K rfl) (a0j (a0h K rfl) (mv 1) a0d (λ_ _=>rfl)) a0d (λ_ _=>rfl)) (mv 1))) (a0e (b3r (mv 0) (a0r (a1k K rfl) rfl T.n_a3 Zq (a0a (a0j (a0h K rfl) (mv 3) a0d (λ_ _=>rfl)) a0c)) rfl) (a0e (a1p Zv rfl (b0r K rfl rfl T.n_f5 (a0a (a0j (a0h K rfl) (mv 3) a0d (λ_ _=>rfl)) a0c)) (a7g K rfl rfl (a2n (a1a (i:=4) a3s.nd rfl (by nofun)) (a2n (a1a (i:=5) a3s.nd rfl (by nofun)) a7e))) (a0g (a1f (a1y (mv 0) T.cl_a0 T.me_b9 G_b9 hr.o T.b_b9 .nil a0n (a0a (mv 4) (a0a (mv 5) a0c)))))) (a0g (a0y (a2q K rfl (a0m G_b3 hr.o rfl T.m_b3 T.F_b3.kp T.b_b3 .nil a0n (a0a (mv 1) a0c))) (a0g (a1f (a1y (mv 0) T.cl_a0 T.me_a2 G_a2 hr.o T.b_a2 .nil a0n (a0a (a0x (a0a (mv 2) (a0a (a0j (a0h K rfl) (mv 1) a0d (λ_ _=>rfl)) (a0a (a0r (a1k K rfl) rfl T.n_a3 Zq (a0a (a0j (a0h K rfl) (mv 1) a0d (λ_ _=>rfl)) a0c)) a0c)))) a0c)))) (a0g (a0y (a0s a1g (a0j (a0h K rfl) (mv 1) a0d (λ_ _=>rfl)) (a6e rfl T.m_f6) (a0t _)) (a0g (a1f (a1y (mv 0) T.cl_a0 T.me_a2 G_a2 hr.o T.b_a2 .nil a0n (a0a (a0x (a0a a0k (a0a (a0j (a0h K rfl) (mv 3) a0d (λ_ _=>rfl)) (a0a (a0r (a1k K rfl) rfl T.n_a3 Zq (a0a (a0j (a0h K rfl) (mv 3) a0d (λ_ _=>rfl)) a0c)) a0c)))) a0c)))) (a0g (a0y (a0s a1g (a0j (a0h K rfl) (mv 1) a0d (λ_ _=>rfl)) (a6e rfl T.m_f8) (a0t _)) (a0g (a1f (a1y (mv 0) T.cl_a0 T.me_a2 G_a2 hr.o T.b_a2 .nil a0n (a0a (a0x (a0a a0k a0c)) a0c)))) (a0g (a1f (a1y (mv 0) T.cl_a0 T.me_a2 G_a2 hr.o T.b_a2 .nil a0n (a0a (a0x (a0a (pe_getK D rfl T.m_f4 (a0j (a0h K rfl) (mv 1) a0d (λ_ _=>rfl)) (λ_ _=>rfl)) a0c)) a0c))))))))))))),H,Q,E,hr,h
 rename_i x v call;obtain⟨dx,ps,pm,pr,u,met,c,rs,go,w,hd,hok,hvk,hz,hrs,q⟩:=h;rw[Go.trm_eq]at hd;obtain⟨a,b,us0,rfl,hs,hb,hk0⟩:=a3f hd;have zl:=Trm.len_le go.kids
 (with_reducible refine a3x (λσ' H'=>∃(a2 b2:Addr)(s2:Str)(us:List V),σ'=[some (.ref x),some (.ref a),some (.str call),some (.ref a2),none,none]/\H'=H/\SqT K H a2 [.str appS,.str s2,.ref b2]/\SqT K H b2 us/\DenL K H us (Trm.dataL go.kids)/\(∀wd ks,go=.neg wd ks->s2=wd)) (λσ' H' hP=>?_) (λkk=>?_))
 rotate_left
 ·walk_at "m";refine a0i hs (v:=.str go.sgn) rfl ?_;walk_at "m"
  exists e
  ·have e':=Z8 (by simpa using e);obtain⟨wd,ks,rfl⟩:=(c6o go hok).mp e';cases hk0 with
   |cons h1 h2=>
   cases h2;obtain⟨a2,b2,us,rfl,k1,k2,k3⟩:=a3f h1;walk_at "m";refine a0i hs (v:=.ref b) rfl ?_;walk_at "m";refine a0i hb (v:=.ref a2) rfl ?_;walk_at "m";exact kk _ _ ⟨a2,b2,wd,us,rfl,rfl,k1,k2,k3,λ_ _ z=>by cases z;rfl⟩
  ·have e':=Xm (by simpa using e);have nn:∀wd ks,go≠.neg wd ks:=λwd ks z=>e' ((c6o go hok).mpr ⟨wd,ks,z⟩)
   walk_at "m";refine kk _ _ ⟨a,b,_,us0,rfl,rfl,hs,hb,?_,λwd ks z=>absurd z (nn wd ks)⟩;cases go with
   |neg wd ks=>exact absurd rfl (nn wd ks)
   |keep=>exact hk0
   |mark m y z=>exact hk0
   |nm y z=>exact hk0
 obtain⟨a2,b2,s2',us,rfl,rfl,hs2,hb2,hk,hneg⟩:=hP;have hkl:=a2l hk;ext
 exists a0i hs2 (v:=.ref b2) rfl
 exists a2t hb2
 refine sZ w.o T.cl_a0 T.no_a0_cells (by simp[fsW]) ?_;rw[c0w];obtain⟨w1,f1⟩:=w.cel us.length;generalize upd H' x (.ins t.k_a0 dx (fsW ps pm ((us.length:Nat):Int) pr))=H1 at w1 f1 ⊢;have hs1:=w.tup f1 _ _ hs2;have hb1:=w.tup f1 _ _ hb2;have hk1:=hk.monoT (w.tup f1);ext
 exists a0i hs1 (v:=.ref b2) rfl
 refine⟨b2,us,rfl,hb1,?_⟩;generalize hks:go.kids=ks at*;refine b0s (λj σ' J=>∃(o4 o5:Option V)(ns:List V),σ'=[some (.ref x),some (.ref a),some (.str call),some (.ref a2),o4,o5]/\WFr x pm pr H1 J/\WS K t.k_a0 J x dx ps pm pr u met (us.length+(Trm.sizeL (ks.take j)-j)) (rs++ns)/\DenL K J ns ((brL (ks.take j) 0 us.length).map (Br.data (ix u)))/\ns.length=Trm.sizeL (ks.take j)) ⟨none,none,[],rfl,WFr.refl _ _ _ _,by rw[Z7];exact w1,b8n _ _ _ _,rfl⟩ (λj σ' J hP=>by obtain⟨_,_,_,_,h,_⟩:=hP;exact w1.tup h _ _ hb1) (λj σ' J T' hi hP hT=>?_) (λσ' J hP=>?_)
 ·obtain⟨o4,o5,ns,rfl,g1,g2,g3,g4⟩:=hP;have hki:j<ks.length:=by omega
  have z4:=Trm.len_le (ks.take j);rw[a6a qo]at z4;obtain⟨hui,dk⟩:=a9w hk1 hki;have z1:=a7b (Za hki);have z2:=a9n ks (j+1);rw[a3v hki]at z2;have z3:=ks[j].size_pos;refine a8r (SqT.of a0b) rfl ?_;rw[getD_at hui];have sT:=a0f hT (.tup [.int j,us[j]]);generalize upd J T' (.tup [.int j,us[j]])=J1 at sT ⊢;have g2':=g2.same sT;have f1':=g1.trans (WFr.of (x:=x) (pm:=pm) (pr:=pr) sT);ext;refine⟨x,dx,_,rfl,g2'.o,a2r,?_⟩;ext;refine⟨dx,ps,pm,pr,u,_,_,_,ks[j],j,g2',rfl,(dk.monoT (w1.tup f1')),λy hy=>hvk y (b2g hki y hy),qo,qo,by rw[Zc];omega,λJ2 ns2 f2 w3 d3=>?_⟩;have l3:=d3.length;rw[length_map,c4a]at l3;refine⟨_,_,ns++ns2,rfl,f1'.trans f2,?_,?_,?_⟩
  ·rw[<-Zt,a3v hki];rw[show us.length+(Trm.sizeL (ks.take j)+ks[j].size-(j+1))=us.length+(Trm.sizeL (ks.take j)-j)+(ks[j].size-1) by omega];exact w3
  ·rw[take_succ' hki,b6n,Zn,a6a qo,Ye];exact((g3.mono sT).monoT (g2'.tup f2)).append d3
  ·rw[Zc,a3v hki,l3];omega
 obtain⟨o4,o5,ns,rfl,g1,g2,g3,g4⟩:=hP;rw[Zy qo]at g2 g3 g4;rw[hkl]at g3;subst hks;have fA:=f1.trans g1;have dA:Den K J (.ref a) (Trm.app go.sgn go.top).data:=hd.monoT (w.tup fA);ext;refine⟨.app go.sgn go.top,dA,c6n go hok,λJ2 s2=>?_⟩;rw[c4i go hok];have g2':=g2.same s2;have ht2:=s2.tup (w.tup fA _ _ hs);have hu2:=s2.tup (w.tup fA _ _ hb);have hv2:=s2.tup (w1.tup g1 _ _ hs1);have hw2:=s2.tup (w1.tup g1 _ _ hb1);have hlen:rs.length+ns.length<=900:=by omega
 cases go with
 |nm wd ks=>
  have ek:us0.length=ks.length:=a2l hk0;walk_at "B";refine⟨x,dx,_,rfl,g2'.o,a2r,?_⟩;ext
  exists a0i ht2 (v:=.str wd) rfl
  exists a0i ht2 (v:=.ref b) rfl
  refine a2t hu2 ?_;rw[ek];ext;refine⟨ln (by show 3<=100000;decide),λp1 hp1=>?_⟩;have sp1:=a0f hp1 (.tup [.str call,.str wd,.int ks.length]);have kp1:(upd J2 p1 (.tup [.str call,.str wd,.int ks.length])) p1=some (.tup [.str call,.str wd,.int ks.length]):=a0b;generalize upd J2 p1 (.tup [.str call,.str wd,.int ks.length])=J2p1 at sp1 kp1 ⊢;ext;have ap1:=g2'.same sp1;refine⟨dx,ps,pm,pr,_,_,ap1.o,ap1.r,by first|omega| (simp only[Zc,length_cons,length_nil]at*;omega),?_⟩;obtain⟨w2,fw2⟩:=ap1.row (.ref p1);have fw2:=(WFr.of (x:=x) (pm:=pm) (pr:=pr) sp1).trans fw2;have tp1:=(ap1.tup (show WFr x pm pr J2p1 _ from(ap1.row (.ref p1)).2)) _ _ (SqT.of kp1);generalize upd J2p1 pr (.lst (_++[.ref p1]))=H2 at w2 fw2 tp1 ⊢;refine q _ _ (ns++[.ref p1]) (fA.trans ((WFr.of s2).trans fw2)) (by rw[<-Zt];exact w2) ?_;rw[gR];exact((g3.mono s2).monoT (g2'.tup fw2)).append (.cons (.tup tp1 (.cons (.str _) (.cons (.str _) (.cons (.int _) .nil)))) .nil)
 |neg wd ks=>
  have ek:us.length=ks.length:=hkl;have es:s2'=wd:=hneg _ _ rfl;subst es;walk_at "A"
  exists a0i ht2 (v:=.str notS) rfl
  refine iteB (λe=>?_) (λe=>absurd e qk);ext;refine⟨x,dx,_,rfl,g2'.o,a2r,?_⟩;ext
  exists a0i hv2 (v:=.str s2') rfl
  exists a0i hv2 (v:=.ref b2) rfl
  refine a2t hw2 ?_;rw[ek];ext;refine⟨ln (by show 3<=100000;decide),λp1 hp1=>?_⟩;have sp1:=a0f hp1 (.tup [.str "not",.str s2',.int ks.length]);have kp1:(upd J2 p1 (.tup [.str "not",.str s2',.int ks.length])) p1=some (.tup [.str "not",.str s2',.int ks.length]):=a0b;generalize upd J2 p1 (.tup [.str "not",.str s2',.int ks.length])=J2p1 at sp1 kp1 ⊢;ext;have ap1:=g2'.same sp1;refine⟨dx,ps,pm,pr,_,_,ap1.o,ap1.r,by first|omega| (simp only[Zc,length_cons,length_nil]at*;omega),?_⟩;obtain⟨w2,fw2⟩:=ap1.row (.ref p1);have fw2:=(WFr.of (x:=x) (pm:=pm) (pr:=pr) sp1).trans fw2;have tp1:=(ap1.tup (show WFr x pm pr J2p1 _ from(ap1.row (.ref p1)).2)) _ _ (SqT.of kp1);generalize upd J2p1 pr (.lst (_++[.ref p1]))=H2 at w2 fw2 tp1 ⊢;refine q _ _ (ns++[.ref p1]) (fA.trans ((WFr.of s2).trans fw2)) (by rw[<-Zt];exact w2) ?_;rw[gR];exact((g3.mono s2).monoT (g2'.tup fw2)).append (.cons (.tup tp1 (.cons (.str _) (.cons (.str _) (.cons (.int _) .nil)))) .nil)
 |keep=>
  walk_at "A"
  exists a0i ht2 (v:=.str a1u) rfl
  refine iteB (λe=>absurd e qk) (λe=>?_);ext
  exists a0i ht2 (v:=.str a1u) rfl
  refine iteB (λe=>?_) (λe=>absurd e qk);ext;refine⟨x,dx,_,rfl,g2'.o,a2r,?_⟩;ext;refine⟨ln (by show 1<=100000;decide),λp1 hp1=>?_⟩;have sp1:=a0f hp1 (.tup [.str "keep"]);have kp1:(upd J2 p1 (.tup [.str "keep"])) p1=some (.tup [.str "keep"]):=a0b;generalize upd J2 p1 (.tup [.str "keep"])=J2p1 at sp1 kp1 ⊢;ext;have ap1:=g2'.same sp1;refine⟨dx,ps,pm,pr,_,_,ap1.o,ap1.r,by first|omega| (simp only[Zc,length_cons,length_nil]at*;omega),?_⟩;obtain⟨w2,fw2⟩:=ap1.row (.ref p1);have fw2:=(WFr.of (x:=x) (pm:=pm) (pr:=pr) sp1).trans fw2;have tp1:=(ap1.tup (show WFr x pm pr J2p1 _ from(ap1.row (.ref p1)).2)) _ _ (SqT.of kp1);generalize upd J2p1 pr (.lst (_++[.ref p1]))=H2 at w2 fw2 tp1 ⊢;refine q _ _ (ns++[.ref p1]) (fA.trans ((WFr.of s2).trans fw2)) (by rw[<-Zt];exact w2) ?_;rw[gR];exact((g3.mono s2).monoT (g2'.tup fw2)).append (.cons (.tup tp1 (.cons (.str _) .nil)) .nil)
 |mark m y1 y2=>
  walk_at "A"
  exists a0i ht2 (v:=.str m.sign) rfl
  refine iteB (λe=>absurd (Z8 (by simpa using e)) m.no_keep.2) (λe=>?_);ext
  exists a0i ht2 (v:=.str m.sign) rfl
  refine iteB (λe=>absurd (Z8 (by simpa using e)) m.no_keep.1) (λe=>?_);ext;refine⟨x,dx,_,rfl,g2'.o,a2r,?_⟩;ext;refine tGetK_i ?_;ext;refine a0i ht2 (v:=.str m.sign) rfl ?_;refine⟨Sum.inr m.sign,.str m.tag,rfl,d4k m,?_⟩;ext;refine⟨ln (by show 1<=100000;decide),λp1 hp1=>?_⟩;have sp1:=a0f hp1 (.tup [.str m.tag]);have kp1:(upd J2 p1 (.tup [.str m.tag])) p1=some (.tup [.str m.tag]):=a0b;generalize upd J2 p1 (.tup [.str m.tag])=J2p1 at sp1 kp1 ⊢;ext;have ap1:=g2'.same sp1;refine⟨dx,ps,pm,pr,_,_,ap1.o,ap1.r,by first|omega| (simp only[Zc,length_cons,length_nil]at*;omega),?_⟩;obtain⟨w2,fw2⟩:=ap1.row (.ref p1);have fw2:=(WFr.of (x:=x) (pm:=pm) (pr:=pr) sp1).trans fw2;have tp1:=(ap1.tup (show WFr x pm pr J2p1 _ from(ap1.row (.ref p1)).2)) _ _ (SqT.of kp1);generalize upd J2p1 pr (.lst (_++[.ref p1]))=H2 at w2 fw2 tp1 ⊢;refine q _ _ (ns++[.ref p1]) (fA.trans ((WFr.of s2).trans fw2)) (by rw[<-Zt];exact w2) ?_;rw[gR];exact((g3.mono s2).monoT (g2'.tup fw2)).append (.cons (.tup tp1 (.cons (.str _) .nil)) .nil)
end
section
variable{P:Program}{w:World}{K:W.Frag}{mg:Str->Option Value}{base:Heap}{t:Ad}
theorem c4j(us:List V)(v:V):atI (us++[v]) (-1)=some v:=by
 unfold atI ixN;rw[if_neg qo,if_pos (by rw[Zc,Z9];omega),Zc,Z9,show((-1:Int)+((us.length+1:Nat):Int)).toNat=us.length by omega]
 simp
theorem b6w{n:Nat}:∀ts:List Trm,(∀t∈ts,t.size<=n)->Trm.sizeL ts<=n*ts.length
 | [],_=>by simp[Trm.sizeL]
 |t::r,h=>by
  have h1:=h t (Z0 ..);have h2:=b6w r λu hu=>h u (Zw _ hu)
  simp only[Trm.sizeL,length_cons];rw[Nat.mul_add];omega
theorem d1y{K:W.Frag}{a:Addr}{us:List V}{H:Hp}(h:SqT K H a us){g:TG}{tb:TS}{D:Ends}{σ:L2.St}(k:ForW (Itt K a) g tb D σ H):(∃xs,SqL K H a xs/\ForW (Itl K a) g tb D σ H)\/∃xs,SqT K H a xs/\ForW (Itt K a) g tb D σ H:=.inr ⟨us,h,k⟩
theorem d1z{K:W.Frag}{a:Addr}{us:List V}{H:Hp}(h:SqL K H a us){g:TG}{tb:TS}{D:Ends}{σ:L2.St}(k:ForW (Itl K a) g tb D σ H):(∃xs,SqL K H a xs/\ForW (Itl K a) g tb D σ H)\/∃xs,SqT K H a xs/\ForW (Itt K a) g tb D σ H:=.inl ⟨us,h,k⟩
theorem a8h(gs:List Go):(trms gs).length=gs.length:=length_map ..
theorem trms_at{gs:List Go}{i:Nat}(h:i<gs.length)(h':i<(trms gs).length):(trms gs)[i]=gs[i].trm:=by simp[trms]
theorem b8q(sl:Str->Nat)(f:Nat->Str):∀(i:Nat)(gs:List Go),(∀g∈gs,g.ok/\g.trm.size<=30)->(gsR sl f i gs).length<=31*gs.length
 |i,[],_=>by rw[gsR];simp
 |i,g::gs,h=>by
  have h1:=(h g (Z0 ..)).2;have h2:=b8q sl f (i+1) gs λu hu=>h u (Zw _ hu)
  have h3:=g.kids_size;rw[gsR,Zc,d1r,length_cons];omega
theorem c8b{gs:List Go}{i:Nat}(h:i<gs.length):gs.take (i+1)=gs.take i++[gs[i]]:=by
 rw[Vt,Za h];rfl
theorem d2a(u met:List Str):(a9p u met).length<=u.length:=by
 unfold a9p;rw[length_map];exact List.length_filter_le _ _
theorem a6r(gs:List Go)(g:Go):a4d (gs++[g])=g.named:=by
 unfold a4d;rw[List.getLast?_append];rfl
theorem d4p(sl:Str->Nat)(gs:List Go)(g:Go):gsR sl (a1v true (gs++[g]).length) 0 (gs++[g])=gsR sl (λ_=>a3t) 0 gs++gR sl a2m g:=by
 rw[b6q,Ye]
 congr 1
 ·refine c0x sl _ _ 0 gs λj _ hj=>?_
  unfold a1v;rw[if_neg (by rintro⟨_,e⟩;rw[Zc,Z9]at e;omega)]
 ·unfold a1v;rw[if_pos ⟨rfl,by rw[Zc,Z9]⟩]
theorem d2b{K:W.Frag}{H:Hp}{us:List V}{gs:List Go}(h:DenL K H us (Trm.dataL (trms gs))){i:Nat}(hi:i<gs.length):∃hu:i<us.length,Den K H us[i] gs[i].trm.data:=by
 obtain⟨hu,d⟩:=a9w h (by rw[a8h];exact hi);rw[trms_at hi]at d;exact⟨hu,d⟩
theorem c4k(T:Txt K mg t)(G_f0:FnOk P w K mg base CX0 2 t.a_f0 t.d_f0 ["self","terms"] (b1a K t.k_a0))(G_e7:FnOk P w K mg base CX0 63 t.a_e7 t.d_e7 ["self","head"] (a7k K t.k_a0))(G_e8:FnOk P w K mg base CX0 2 t.a_e8 t.d_e8 ["self"] (a6x K t.k_a0))(G_c6:FnOk P w K mg base CX0 63 t.a_c6 t.d_c6 ["self","goal","call"] (a7l K t.k_a0))(G_a2:FnOk P w K mg base CX0 1 t.a_a2 t.d_a2 ["self","row"] (a2j K t.k_a0))(G_b3:FnOk P w K mg base CX0 4 t.a_b3 t.d_b3 ["term"] (b1l K)):FnOk P w K mg base CX0 64 t.a_e1 t.d_e1 ["number","rule"] (b4k K):=by
 exists T.F_e1.ok b0m,(a0e (a0p (i:=2) (hs:=a1n) b0m.nd rfl (by nofun) (pe_make T.mk_a0 G_f0 hr.o rfl T.m_a0 T.b_f0 .nil a0n (a0a (a0u (a1d K rfl) (a1x (a0a (a0j (a0h K rfl) (mv 1) a0d (λ_ _=>rfl)) a0c)) (a2f (b9q K rfl) rfl T.n_f1 W4 (a0a (a0j (a0h K rfl) (mv 1) a0d (λ_ _=>rfl)) a0c))) a0c))) (a0e (a1f (a1y (mv 2) T.cl_a0 T.me_e7 G_e7 hr.o T.b_e7 .nil a0n (a0a (a0j (a0h K rfl) (mv 1) a0d (λ_ _=>rfl)) a0c))) (a0e (a0y (a2q K rfl (a0j (a0h K rfl) (mv 1) a0d (λ_ _=>rfl))) (a0e (a1f (d2z (mv 2) T.cl_a0 T.me_e8 G_e8 hr.o T.b_e8 .nil a0n)) (a0e (a1p Zv rfl (c5z K rfl (a5p (ks_tup K rfl) (a0j (a0h K rfl) (mv 1) a0d (λ_ _=>rfl)) a9s (a5i (b7h b3u a0d)))) (a1a (i:=3) b0m.nd rfl (by nofun)) (a0g (a1f (a1y (mv 2) T.cl_a0 T.me_c6 G_c6 hr.o T.b_c6 .nil a0n (a0a (mv 3) (a0a a0k a0c)))))) (a0g (a1f (a1y (mv 2) T.cl_a0 T.me_c6 G_c6 hr.o T.b_c6 .nil a0n (a0a (a0j (a0h K rfl) (a0j (a0h K rfl) (mv 1) a0d (λ_ _=>rfl)) (b7h b3u a0d) (λ_ _=>rfl)) (a0a a0k a0c))))))) a0v) (a0e (a0y (PW.pt (a2x (a3c (a2q K rfl (a0j (a0h K rfl) (mv 1) a0d (λ_ _=>rfl)))) (a3j (a3c (a2q K rfl (a0m G_b3 hr.o rfl T.m_b3 T.F_b3.kp T.b_b3 .nil a0n (a0a (a0j (a0h K rfl) (a0j (a0h K rfl) (mv 1) a0d (λ_ _=>rfl)) (b7h b3u a0d) (λ_ _=>rfl)) a0c))))))) (a0g (a1f (a1y (mv 2) T.cl_a0 T.me_a2 G_a2 hr.o T.b_a2 .nil a0n (a0a (a0x (a0a a0k a0c)) a0c)))) a0v) (a0g (a0q (a0x (a0a (mv 0) (a0a (a0r a5r rfl T.n_a3 Zq (a0a (a4p (mv 2) rfl) a0c)) (a0a (a4p (mv 2) rfl) a0c)))))))))),H,Q,E,hr,h
 rename_i n p;obtain⟨vh,ga,wd,ks,us,gs,hp,hdh,hg,hgs,hgl,hgo,hz,q⟩:=h;have hul:=a2l hgs;rw[a8h]at hul;have zg:=b6w (n:=30) (trms gs) λt ht=>by
  obtain⟨g,hg,rfl⟩:=Z3.mp ht;exact(hgo g hg).2
 rw[a8h]at zg;ext
 exists a0i hp (v:=vh) rfl
 refine⟨ln (by show 1<=100000;decide),λp1 hp1=>?_⟩;have sp1:Same H (upd H p1 (.lst [vh])):=a0f hp1 _;have kp1:(upd H p1 (.lst [vh])) p1=some (.lst [vh]):=a0b;generalize upd H p1 (.lst [vh])=H1 at sp1 kp1 ⊢;ext
 exists a0i (sp1.tup hp) (v:=.ref ga) rfl
 refine⟨ga,us,rfl,.inr (sp1.tup hg),λp2 hp2=>?_⟩;have sp2:=a0f hp2 (.lst us);have kp2:(upd H1 p2 (.lst us)) p2=some (.lst us):=a0b;generalize upd H1 p2 (.lst us)=H2 at sp2 kp2 ⊢;ext;refine c3a (sp2 _ _ kp1) kp2 (ln (by show 1+us.length<=_;omega)) (λp3 hp3=>?_);have sp3:=a0f hp3 (.lst ([vh]++us));have kp3:(upd H2 p3 (.lst ([vh]++us))) p3=some (.lst (vh::us)):=a0b;generalize upd H2 p3 (.lst ([vh]++us))=H3 at sp3 kp3 ⊢;have s03:=sp1.trans (sp2.trans sp3);ext;intro x dx hx hdx hne;have s4:Same H3 (upd (upd H3 dx (.own x)) x (.ins t.k_a0 dx [])):=λb o e=>by
  rw[a0l (λz=>by rw[z,hx]at e;cases e),a0l (λz=>by rw[z,hdx]at e;cases e)];exact e
 have x4:(upd (upd H3 dx (.own x)) x (.ins t.k_a0 dx [])) x=some (.ins t.k_a0 dx []):=a0b;generalize upd (upd H3 dx (.own x)) x (.ins t.k_a0 dx [])=H4 at s4 x4 ⊢;have s04:=s03.trans s4;have hx0:H x=none:=a2b s03 hx;have dAll:DenL K H4 (vh::us) (Trm.dataL (.app wd ks::trms gs)):=.cons (hdh.mono s04) (hgs.mono s04);refine⟨dx,_,_,x4,SqL.of (s4 _ _ kp3),dAll,by simp only[Trm.sizeL,Trm.size];omega,λps pm pr H5 w f5 h1 h2 h3=>⟨rfl,?_⟩⟩;have hvh:∀y∈a1b ks,y∈ordL (.app wd ks::trms gs) []:=λy hy=>c3s (by rw[a1b,vars];exact Zm.mpr (.inl hy))
 have hvg:∀g∈gs,∀y∈a1b g.kids,y∈ordL (.app wd ks::trms gs) []:=λg hg y hy=>c3s (by rw[a1b];exact Zm.mpr (.inr (b9t (Z3.mpr ⟨g,hg,rfl⟩) y (by rw[<-g.kids_vars];exact hy))))
 have hln:=a8e (.app wd ks::trms gs) [];have hnd:=a8d (.app wd ks::trms gs) [] Ul;rw[length_nil]at hln;simp only[Trm.sizeL,Trm.size]at hln;have s05:Same H H5:=λb o e=>f5 b o (λz=>by rw[z,hx0]at e;cases e) (s04 _ _ e)
 have hps:H ps=none:=a2b s04 h1;have hpm:H pm=none:=a2b s04 h2;have hpr:H pr=none:=a2b s04 h3;generalize ordL (.app wd ks::trms gs) []=u at w hvh hvg hln hnd q;have FR:∀{J:Hp},WFr x pm pr H5 J->Same H J:=λf b o e=>f b o (λz=>by rw[z,hx0]at e;cases e) (λz=>by rw[z,hpm]at e;cases e) (λz=>by rw[z,hpr]at e;cases e) (s05 _ _ e)
 ext;refine⟨x,dx,_,rfl,w.o,a2r,?_⟩;ext
 exists a0i (s05.tup hp) (v:=vh) rfl
 refine⟨dx,ps,pm,pr,u,wd,ks,w,hdh.mono s05,hvh,hz,λH6 ns f6 w6 d6=>?_⟩;have l6:=d6.length;rw[length_map,a9x]at l6;have s06:=FR f6;ext
 exists a0i (s06.tup hp) (v:=.ref ga) rfl
 refine .inr (.inl ⟨us,s06.tup hg,?_⟩);rcases nil_or_snoc' gs with hg0|⟨gs',gl,hg0⟩
 ·subst hg0;have hu0:us=[]:=by simpa using hul
  subst hu0;walk_at "C"
  exists a0i (s06.tup hp) (v:=.ref ga) rfl
  refine .inr (.inl ⟨[],s06.tup hg,?_⟩);walk_at "B";refine⟨x,dx,_,rfl,w6.o,a2r,?_⟩;ext;refine⟨ln (by show 1<=100000;decide),λq1 hq1=>?_⟩;have sq1:=a0f hq1 (.tup [.str "back"]);have kq1:(upd H6 q1 (.tup [.str "back"])) q1=some (.tup [.str "back"]):=a0b;generalize upd H6 q1 (.tup [.str "back"])=H6q1 at sq1 kq1 ⊢;ext;have aq1:=w6.same sq1;refine⟨dx,ps,pm,pr,_,_,aq1.o,aq1.r,by first|omega| (simp only[Zc,length_cons,length_nil]at*;omega),?_⟩;obtain⟨w7,fw7⟩:=aq1.row (.ref q1);have fw7:=(WFr.of (x:=x) (pm:=pm) (pr:=pr) sq1).trans fw7;have tq1:=(aq1.tup (show WFr x pm pr H6q1 _ from(aq1.row (.ref q1)).2)) _ _ (SqT.of kq1);generalize upd H6q1 pr (.lst (_++[.ref q1]))=H7 at w7 fw7 tq1 ⊢;have s07:=FR (f6.trans fw7);ext;refine zG w7.o T.cl_a0 T.no_a0_slots (a5z _ _ _ _) ?_;refine⟨ps,_,rfl,w7.s,?_⟩;rw[a3a];ext
  exists zG w7.o T.cl_a0 T.no_a0_rows (b5f _ _ _ _)
  refine⟨ln (by show 3<=100000;decide),λp9 hp9=>?_⟩;have s9:=a0f hp9 (.tup [.int n,.int (u.length:Int),.ref pr]);refine q p9 pr (ns++[.ref q1]) _ (s07.trans s9) hpr a0b (s9 _ _ w7.r) ?_;rw[a6p,if_pos rfl];exact(((d6.monoT (w6.tup fw7)).append (.cons (den_1 tq1) .nil)).mono s9)
 ·have hgne:gs≠[]:=by rw[hg0];simp
  have hgs2:=hgs;rw[hg0,trms,Zn,a7j]at hgs2;obtain⟨us',ul,hus,du',dul⟩:=DenL.snoc hgs2;have du':DenL K H us' (Trm.dataL (trms gs')):=du';have dul:Den K H ul gl.trm.data:=dul;have hul':=a2l du';rw[a8h]at hul';have hgl':gs'.length<=5:=by rw[hg0,Zc,Z9]at hgl;omega
  have e1:(!us.isEmpty)=true:=by rw[hus];simp
  rw[e1];walk_at "D";refine⟨x,dx,_,rfl,w6.o,a2r,?_⟩;ext;refine⟨dx,ps,pm,pr,u,_,_,_,w6,qo,qo,hnd,λH7 nf f7 w7 d7=>?_⟩;have l7:=d7.length;have l7':=d2a u (ordL ks []);rw[length_cons]at l7;have f07:=f6.trans f7;have s07:=FR f07;ext
  exists a0i (s07.tup hp) (v:=.ref ga) rfl
  have hgo':∀g∈gs',g.ok/\g.trm.size<=30:=λg hg=>hgo g (by rw[hg0];exact Zm.mpr (.inl hg))
  refine⟨ga,us,rfl,s07.tup hg,λhcut=>?_,λ_ pc hpc=>?_⟩
  ·exfalso
   have h2:=hcut.2;rw[hus]at h2;simp only[Zc,Z9,HT.sIx]at h2;split at h2<;>omega
  rw[d3u,hus,Sv];have sc:=a0f hpc (.tup us');have kc:(upd H7 pc (.tup us')) pc=some (.tup us'):=a0b;generalize upd H7 pc (.tup us')=H8 at sc kc ⊢;have w8:=w7.same sc;have f08:=f07.trans (WFr.of (x:=x) (pm:=pm) (pr:=pr) sc);have s08:=FR f08;have d8:=((d6.monoT (w6.tup f7)).append d7).mono sc;have l8:(ns++nf).length<=60+300:=by rw[Zc];omega
  generalize hB:List.map Rw.data (taL (ix u) ks 0 ks.length [])++frameD::a9p u (ordL ks [])=B at d8;generalize ns++nf=na at w8 d8 l8;have lB:B.length<=360:=by have:=d8.length;omega
  refine⟨pc,rfl,d1y (SqT.of kc) ?_⟩;refine a1t (b4x (xs:=us')) (λi σ' J=>∃(o3:Option V)(cc:Nat)(mr:List V),σ'=[some (.int n),some (.ref p),some (.ref x),o3]/\WFr x pm pr H8 J/\WS K t.k_a0 J x dx ps pm pr u (ordL ks []) cc mr/\DenL K J mr (B++gsR (ix u) (λ_=>a3t) 0 (gs'.take i))) ⟨none,_,_,rfl,WFr.refl _ _ _ _,w8,by rw[Xb,gsR,Z7];exact d8⟩ (λi σ' J hP=>by obtain⟨_,_,_,_,h,_⟩:=hP;exact w8.tup h _ _ (SqT.of kc)) (λi σ' J hi hP=>?_) (λσ' J hP=>?_)
  ·obtain⟨o3,cc,mr,rfl,g1,g2,g3⟩:=hP;have hgi:i<gs'.length:=by omega
   obtain⟨hui,dk⟩:=d2b du' hgi;obtain⟨ow,zw⟩:=hgo' _ (Zx hgi);rw[getD_at hui];have dk:=dk.mono (FR (f08.trans g1));have hvi:=hvg gs'[i] (by rw[hg0];exact Zm.mpr (.inl (Zx hgi)));have zk:=gs'[i].kids_size;have l3:=g3.length;have l4:=b8q (ix u) (λ_=>a3t) 0 (gs'.take i) λg hg=>hgo' g (Ss hg)
   rw[Zc]at l3;rw[Z5]at l4;ext;refine⟨x,dx,_,rfl,g2.o,a2r,?_⟩;ext;refine⟨dx,ps,pm,pr,u,_,_,_,gs'[i],g2,dk,ow,hvi,qo,qo,λJ2 c2 ms f2 w3 d3=>?_⟩;refine⟨_,c2,mr++ms,rfl,g1.trans f2,w3,?_⟩;rw[c8b hgi,b6q,<-Zt];exact(g3.monoT (g2.tup f2)).append d3
  obtain⟨o3,cc,mr,rfl,g1,g2,g3⟩:=hP;rw[Zy qo]at g3;have f0J:=f08.trans g1;have s0J:=FR f0J;have hat:atI us (-1)=some ul:=by rw[hus];exact c4j us' ul
  obtain⟨ow,zw⟩:=hgo gl (by rw[hg0];simp);have hvi:=hvg gl (by rw[hg0];simp);have zk:=gl.kids_size;have l3:=g3.length;have l4:=b8q (ix u) (λ_=>a3t) 0 gs' hgo';rw[Zc]at l3;ext;refine⟨x,dx,_,rfl,g2.o,a2r,?_⟩;ext
  exists a0i (s0J.tup hp) (v:=.ref ga) rfl
  exists a0i (s0J.tup hg) hat
  refine⟨dx,ps,pm,pr,u,_,_,_,gl,g2,dul.mono s0J,ow,hvi,qo,qo,λJ2 c2 ms f2 w3 d3=>?_⟩;have f0K:=f0J.trans f2;have s0K:=FR f0K;have l5:=d3.length;rw[d1r]at l5;have dZ:DenL K J2 (mr++ms) (B++gsR (ix u) (a1v true gs.length) 0 gs):=by
   rw[hg0,d4p,<-Zt];exact(g3.monoT (g2.tup f2)).append d3
  have lZ:(mr++ms).length<=700:=by rw[Zc];omega
  generalize mr++ms=mz at w3 dZ lZ;ext
  exists a0i (s0K.tup hp) (v:=.ref ga) rfl
  refine .inr (.inl ⟨us,s0K.tup hg,?_⟩);rw[e1];walk_at "A"
  exists a0i (s0K.tup hp) (v:=.ref ga) rfl
  exists a0i (s0K.tup hg) hat
  have dul2:=dul.mono s0K;rw[Go.trm_eq]at dul2;refine⟨.app gl.sgn gl.top,dul2,c6n gl ow,λJ3 s3=>?_⟩;rw[c4i gl ow];have w4:=w3.same s3;have s03':=s0K.trans s3;have dZ3:=dZ.mono s3;ext;have hr:a6p u ks gs=B++gsR (ix u) (a1v true gs.length) 0 gs++(if gl.named=true then[]else[backD]):=by
   rw[a6p,if_neg hgne,<-hB,show a4d gs=gl.named by rw[hg0];exact a6r gs' gl];simp only[Yh,Zt]
  cases hnm:gl.named with
  |true=>
   rw[hnm,if_pos rfl,Z7]at hr;walk_at "C";refine zG w4.o T.cl_a0 T.no_a0_slots (a5z _ _ _ _) ?_;refine⟨ps,_,rfl,w4.s,?_⟩;rw[a3a];ext
   exists zG w4.o T.cl_a0 T.no_a0_rows (b5f _ _ _ _)
   refine⟨ln (by show 3<=100000;decide),λp9 hp9=>?_⟩;have s9:=a0f hp9 (.tup [.int n,.int (u.length:Int),.ref pr]);exact q p9 pr mz _ (s03'.trans s9) hpr a0b (s9 _ _ w4.r) (by rw[hr];exact dZ3.mono s9)
  |false=>
   rw[hnm,if_neg qz]at hr;walk_at "D";refine⟨x,dx,_,rfl,w4.o,a2r,?_⟩;ext;refine⟨ln (by show 1<=100000;decide),λq1 hq1=>?_⟩;have sq1:=a0f hq1 (.tup [.str "back"]);have kq1:(upd J3 q1 (.tup [.str "back"])) q1=some (.tup [.str "back"]):=a0b;generalize upd J3 q1 (.tup [.str "back"])=J3q1 at sq1 kq1 ⊢;ext;have aq1:=w4.same sq1;refine⟨dx,ps,pm,pr,_,_,aq1.o,aq1.r,by first|omega| (simp only[Zc,length_cons,length_nil]at*;omega),?_⟩;obtain⟨ww7,fww7⟩:=aq1.row (.ref q1);have fww7:=(WFr.of (x:=x) (pm:=pm) (pr:=pr) sq1).trans fww7;have tq1:=(aq1.tup (show WFr x pm pr J3q1 _ from(aq1.row (.ref q1)).2)) _ _ (SqT.of kq1);generalize upd J3q1 pr (.lst (_++[.ref q1]))=HH7 at ww7 fww7 tq1 ⊢;have s09:=FR (f0K.trans ((WFr.of s3).trans fww7));ext;refine zG ww7.o T.cl_a0 T.no_a0_slots (a5z _ _ _ _) ?_;refine⟨ps,_,rfl,ww7.s,?_⟩;rw[a3a];ext
   exists zG ww7.o T.cl_a0 T.no_a0_rows (b5f _ _ _ _)
   refine⟨ln (by show 3<=100000;decide),λp9 hp9=>?_⟩;have s9:=a0f hp9 (.tup [.int n,.int (u.length:Int),.ref pr]);refine q p9 pr (mz++[.ref q1]) _ (s09.trans s9) hpr a0b (s9 _ _ ww7.r) ?_;rw[hr];exact((dZ3.monoT (w4.tup fww7)).append (.cons (den_1 tq1) .nil)).mono s9
end
structure Ru where
 w:Str
 ks:List Trm
 gs:List Go
abbrev Ru.head(r:Ru):Trm:=.app r.w r.ks
noncomputable def Ru.data(r:Ru):PyData:=.tuple [r.head.data,.tuple (Trm.dataL (trms r.gs))]
structure Ru.Ok(r:Ru):Prop where
 l:r.gs.length<=6
 g:∀t∈r.gs,t.ok/\t.trm.size<=30
 z:Trm.sizeL r.ks<=59
abbrev It2:=Nat×Ru
abbrev Ru.ord(r:Ru):List Str:=ordL (.app r.w r.ks::trms r.gs) []
noncomputable def cdD(x:It2):PyData:=.tuple [.int (x.1:Int),.int (x.2.ord.length:Int),.list (a6p x.2.ord x.2.ks x.2.gs)]
noncomputable def hdD(x:It2):PyData:=x.2.head.data
abbrev keyR(r:Ru):List Key:=nd r.w r.ks.length
abbrev Tb:=List (List Key×List It2)
noncomputable def tabR:List Ru->Nat->Tb->Tb
 | [],_,tb=>tb
 |r::rs,n,tb=>tabR rs (n+1) (addT tb (keyR r) (n+1,r))
theorem b4o:∀(l:List Ru)(x:Ru)(n:Nat)(tb:Tb),tabR (l++[x]) n tb=addT (tabR l n tb) (keyR x) (n+l.length+1,x)
 | [],x,n,tb=>rfl
 |y::l,x,n,tb=>by
  rw[Yh,tabR,b4o l x,tabR,length_cons,show n+1+l.length+1=n+(l.length+1)+1 by omega]
structure SwAt(K:W.Frag)(H:Hp)(d:Addr)(v:V)(ks:List OK):Prop where
 ex:∃(sw dd:Addr)(kd:KVs),v=.ref sw/\SqT K H sw [.ref dd,.int (bt isN ks),.int (2^ks.length-1)]/\H dd=some (.dT kd)/\dd≠d/\DOk kd ks
noncomputable def hks(l:List It2):List OK:=l.map λx=>hk x.2.head
def FdR(K:W.Frag)(H0 H:Hp)(d:Addr):List Key×V->List Key×List It2->Prop:=λa b=>a.1=b.1/\∃(pa cl:Addr)(us:List V)(sw:V),a.2=.ref pa/\SqT K H pa [.ref cl,sw]/\H0 cl=none/\H cl=some (.lst us)/\DmL K H [] us (b.2.map cdD)/\SwAt K H d sw (hks b.2)
def FdOk(K:W.Frag)(H0 H:Hp)(d:Addr)(tab:Tb):Prop:=∃kvs,H d=some (.dT kvs)/\H0 d=none/\Paired (FdR K H0 H d) kvs tab/\(kvs.map (·.1)).Nodup
abbrev b8r(K:W.Frag):Sp:=λvs H Q _=>aV vs λv vs=>aE vs (∃(s:Str)(ks:List Trm),Den K H v (Trm.app s ks).data/\∀p H',Same H H'->H' p=some (.tup ((nd s ks.length).map kV))->Q (.ref p) H')
abbrev b8s(K:W.Frag):Sp:=λvs H Q _=>aR vs λa vs=>aE vs (∃us rs,SqL K H a us/\DenL K H us (rs.map Ru.data)/\(∀r∈rs,r.Ok)/\rs.length<=45/\∀d H',Same H H'->FdOk K H H' d (tabR rs 0 [])->Q (.ref d) H')
section
variable{α β:Type}{f1:α->PyData}{f2:β->PyData}{K:W.Frag}{H0 H H':Hp}{p1 p2 m:Addr}{M M':List Addr}{k:List Key}{k1 k1':List (List Key×V)}{k2:List (List Key×V)}{t1:List (List Key×List α)}{t2:List (List Key×List β)}
theorem TabM.side(T:TabM f2 K H0 H p2 M k2 t2)(S:TabM f1 K H0 H' p1 M' k1' t1)(n:p2≠p1)(h1:H p1=some (.dT k1))(b:But p1 H H')(kt:KT K H H')(hM:k1'=k1/\M'=M\/k1'=k1++[(k,.ref m)]/\M'=m::M/\H m=none):TabM f2 K H0 H' p2 M' k2 t2:=by
 have hl:∀a us,H a=some (.lst us)->H' a=some (.lst us):=λa us e=>b _ _ (a1w e h1 (λz=>by cases z)) e
 have sub:∀a∈M,a∈M':=λa ha=>by
  rcases hM with⟨_,e⟩|⟨_,e,_⟩<;>rw[e]
  ·exact ha
  ·exact Zw _ ha
 refine⟨S.sm,b _ _ n T.top,T.f,S.fm,Paired.mapP T.row λ_ _ ⟨e,m',us,e1,e2,e3,e4⟩=>⟨e,m',us,e1,sub _ e2,hl _ _ e3,?_⟩,T.nd,S.ex⟩;rcases hM with⟨_,e⟩|⟨_,e,hm⟩<;>subst e
 ·exact e4.kl (λa us _ q=>hl a us q) kt
 ·exact(e4.more hm).kl (λa us _ q=>hl a us q) kt
theorem TabM.side2{o:HO}{us:List V}(T:TabM f2 K H0 H p2 M k2 t2)(S:TabM f1 K H0 (upd H m o) p1 M k1 t1)(pr:Pr K M H (upd H m o))(hm:H m=some (.lst us))(n:V.ref m∉k2.map (·.2)):TabM f2 K H0 (upd H m o) p2 M k2 t2:=by
 have key:∀{a:List (List Key×V)}{c:List (List Key×List β)},Paired (λ(a:List Key×V) (b:List Key×List β)=>a.1=b.1/\∃m us,a.2=.ref m/\m∈M/\H m=some (.lst us)/\DmL K H M us (b.2.map f2)) a c->V.ref m∉a.map (·.2)->Paired (λ(a:List Key×V) (b:List Key×List β)=>a.1=b.1/\∃m' us,a.2=.ref m'/\m'∈M/\(upd H m o) m'=some (.lst us)/\DmL K (upd H m o) M us (b.2.map f2)) a c:=λ{a c} h=>by
  induction h with
  |nil=>exactλ_=>.nil
  |cons z _ ih=>
   intro hn;obtain⟨e,m',us,e1,e2,e3,e4⟩:=z;rw[Zp]at hn;have hne:m'≠m:=λz=>hn (by rw[e1,z];exact Z0 ..)
   exact .cons ⟨e,m',us,e1,e2,by rw[a0l hne];exact e3,e4.pr pr⟩ (ih λz=>hn (Zw _ z))
 exact⟨S.sm,by rw[a0l (a1w T.top hm (λz=>by cases z))];exact T.top,T.f,S.fm,key T.row n,T.nd,S.ex⟩
theorem TabM.val(T:TabM f2 K H0 H p2 M k2 t2){v:V}(h:v∈k2.map (·.2)):∃a us,v=.ref a/\a∈M/\H a=some (.lst us):=by
 have key:∀{a:List (List Key×V)}{c:List (List Key×List β)},Paired (λ(a:List Key×V) (b:List Key×List β)=>a.1=b.1/\∃m us,a.2=.ref m/\m∈M/\H m=some (.lst us)/\DmL K H M us (b.2.map f2)) a c->v∈a.map (·.2)->∃a us,v=.ref a/\a∈M/\H a=some (.lst us):=λ{a c} h=>by
  induction h with
  |nil=>intro z;simp at z
  |cons z _ ih=>
   intro hn;rw[Zp]at hn;rcases Zo.mp hn with q|q
   ·obtain⟨_,m',us,e1,e2,e3,_⟩:=z;exact⟨m',us,by rw[q,e1],e2,e3⟩
   ·exact ih q
 exact key T.row h
end
theorem c6p{kvs:List (List Key×V)}{k:List Key}{v:V}(h:valV kvs k=some v):v∈kvs.map (·.2):=by
 unfold valV at h;obtain⟨p,h1,h2⟩:=Ym.mp h;exact Z3.mpr ⟨p,Tl h1,h2⟩
theorem c6q{H:Hp}{a a' b:List (List Key×V)}{M M':List Addr}{m:Addr}{k:List Key}(dj:∀v∈a.map (·.2),v∉b.map (·.2))(c:a'=a/\M'=M\/a'=a++[(k,.ref m)]/\M'=m::M/\H m=none)(hb:∀v∈b.map (·.2),∃x us,v=V.ref x/\H x=some (.lst us)):∀v∈a'.map (·.2),v∉b.map (·.2):=by
 rcases c with⟨e,_⟩|⟨e,_,hm⟩<;>rw[e]
 ·exact dj
 ·intro v hv hv2;rw[Zn]at hv;rcases Zm.mp hv with z|z
  ·exact dj v z hv2
  ·obtain⟨x,us,e1,e2⟩:=hb v hv2;have z:v=.ref m:=Zr.mp z;rw[z]at e1;cases e1;rw[hm]at e2;cases e2
theorem a7c:∀{rs:List Ru}{k n:Nat}{tb:Tb},(∀b∈tb,b.2.length<=n)->∀b∈tabR rs k tb,b.2.length<=n+rs.length
 | [],k,n,tb,h,b,hb=>h b hb
 |x::r,k,n,tb,h,b,hb=>by
  rw[tabR]at hb;have:=a7c (b0p h) b hb;rw[length_cons];omega
theorem b8t{K:W.Frag}{H H':Hp}{d:Addr}{kf:List (List Key×V)}(b:But d H H')(h:H d=some (.dT kf)):KT K H H':=λa xs q=>by
 rcases q with(q|⟨o',q⟩)|q
 ·exact .inl (.inl (b _ _ (a1w q h (λz=>by cases z)) q))
 ·exact .inl (.inr ⟨o',b _ _ (a1w q h (λz=>by cases z)) q⟩)
 ·exact .inr q
theorem b5g{H H':Hp}{d a:Addr}{kf:List (List Key×V)}{us:List V}(b:But d H H')(h:H d=some (.dT kf))(e:H a=some (.lst us)):H' a=some (.lst us):=b _ _ (a1w e h (λz=>by cases z)) e
theorem b5h{K:W.Frag}{H H':Hp}{d:Addr}{kf:List (List Key×V)}{us:List V}{ds:List PyData}(b:But d H H')(h:H d=some (.dT kf))(e:DmL K H [] us ds):DmL K H' [] us ds:=e.kl (λ_ _ _ q=>b5g b h q) (b8t b h)
theorem FdR.but{K:W.Frag}{H0 H H':Hp}{d:Addr}{kf:List (List Key×V)}(b:But d H H')(h:H d=some (.dT kf)){x:List Key×V}{y:List Key×List It2}(f:FdR K H0 H d x y):FdR K H0 H' d x y:=by
 obtain⟨e,pa,cl,us,sw,e1,e2,e3,e4,e5,⟨s1,dd,kd,g1,g2,g3,g4,g5⟩⟩:=f;exact⟨e,pa,cl,us,sw,e1,b8t b h _ _ e2,e3,b5g b h e4,b5h b h e5,⟨s1,dd,kd,g1,b8t b h _ _ g2,b _ _ g4 g3,g4,g5⟩⟩
structure CW(K:W.Frag)(H0 H:Hp)(p1 p2:Addr)(o:Obj)(ads:List Addr)(v1 v2:List (List Key×V))(tab:Tb):Prop where
 sm:Same H0 H
 f1:H p1=some (.frz o (.dT v1))
 f2:H p2=some (.dT v2)
 r1:Paired (λ(a:List Key×V) (b:List Key×List It2)=>a.1=b.1/\∃m us,a.2=.ref m/\H0 m=none/\H m=some (.lst us)/\DmL K H [] us (b.2.map cdD)) v1 tab
 r2:Paired (λ(a:List Key×V) (b:List Key×List It2)=>a.1=b.1/\∃m us,a.2=.ref m/\H m=some (.lst us)/\DmL K H [] us (b.2.map hdD)) v2 tab
 ks:∀(i:Nat)(q:List Key×V)(b:Addr),v1[i]? =some q->ads[i]? =some b->H b=some (.tup (q.1.map kV))
theorem CW.but{K:W.Frag}{H0 H H':Hp}{p1 p2 d:Addr}{o:Obj}{ads:List Addr}{v1 v2 kf:List (List Key×V)}{tab:Tb}(c:CW K H0 H p1 p2 o ads v1 v2 tab)(b:But d H H')(h:H d=some (.dT kf))(h0:H0 d=none)(n:p2≠d):CW K H0 H' p1 p2 o ads v1 v2 tab:=
 ⟨λa u e=>b _ _ (λz=>by rw[z,h0]at e;cases e) (c.sm _ _ e),b _ _ (a1w c.f1 h (λz=>by cases z)) c.f1,b _ _ n c.f2,Paired.mapP c.r1 λ_ _ ⟨e,m,us,e1,e2,e3,e4⟩=>⟨e,m,us,e1,e2,b5g b h e3,b5h b h e4⟩,Paired.mapP c.r2 λ_ _ ⟨e,m,us,e1,e3,e4⟩=>⟨e,m,us,e1,b5g b h e3,b5h b h e4⟩,λi q a e1 e2=>b _ _ (a1w (c.ks i q a e1 e2) h (λz=>by cases z)) (c.ks i q a e1 e2)⟩
theorem a5l{α β γ:Type}{R:α×β->α×γ->Prop}(hR:∀a b,R a b->a.1=b.1):∀{xs:List (α×β)}{ys:List (α×γ)},Paired R xs ys->xs.map (·.1)=ys.map (·.1)
 |_,_,.nil=>rfl
 |_,_,.cons a t=>by rw[Zp,Zp,hR _ _ a,a5l hR t]
theorem a4n{α β:Type}{R:α->β->Prop}:∀{xs:List α}{ys:List β},Paired R xs ys->∀{i:Nat}(h:i<ys.length),∃h':i<xs.length,R xs[i] ys[i]
 |_,_,.cons a t,0,h=>⟨V5 _,a⟩
 |_,_,.cons a t,i+1,h=>by
  obtain⟨h',r⟩:=a4n t (i:=i) (by simpa using h);exact⟨Nat.succ_lt_succ h',r⟩
theorem c1a{α:Type}(k:List Key)(x:α):∀(tb:List (List Key×List α)),(addT tb k x).map (·.1)=tb.map (·.1)\/(k∉tb.map (·.1)/\(addT tb k x).map (·.1)=tb.map (·.1)++[k])
 | []=>.inr ⟨qz,rfl⟩
 | (k',l)::r=>by
  rw[addT]
  by_cases c:k'=k
  ·rw[if_pos c,Zp,Zp];exact .inl rfl
  ·rw[if_neg c,Zp,Zp];rcases c1a k x r with e|⟨n,e⟩
   ·rw[e];exact .inl rfl
   ·rw[e];exact .inr ⟨λz=>(Zo.mp z).elim (λe=>c e.symm) n,rfl⟩
theorem b9y:∀{rs:List Ru}{n:Nat}{tb:Tb},(tb.map (·.1)).Nodup->((tabR rs n tb).map (·.1)).Nodup
 | [],n,tb,h=>h
 |r::rs,n,tb,h=>by
  rw[tabR];refine b9y ?_;rcases c1a (keyR r) (n+1,r) tb with e|⟨c,e⟩<;>rw[e]
  ·exact h
  ·rw[X7];exact⟨h,qz,λa ha b hb z=>c (by rw[Zr.mp hb]at z;rw[<-z];exact ha)⟩
theorem c4l{α:Type}{k:List Key}{x:α}:∀{tb:List (List Key×List α)},∀b∈addT tb k x,∀y∈b.2,y=x\/∃b'∈tb,b'.1=b.1/\y∈b'.2
 | [],b,hb,y,hy=>by
  rw[addT,Zr]at hb;rw[hb]at hy;exact .inl (Zr.mp hy)
 | (k',l)::r,b,hb,y,hy=>by
  rw[addT]at hb
  by_cases c:k'=k
  ·rw[if_pos c]at hb;rcases Zo.mp hb with z|z
   ·rw[z]at hy;rcases Zm.mp hy with q|q
    ·exact .inr ⟨(k',l),Z0 ..,by rw[z],q⟩
    ·exact .inl (Zr.mp q)
   ·exact .inr ⟨b,Zw _ z,rfl,hy⟩
  ·rw[if_neg c]at hb;rcases Zo.mp hb with z|z
   ·exact .inr ⟨b,by rw[z];exact Z0 ..,rfl,hy⟩
   ·rcases c4l b z y hy with q|⟨b',q1,q2,q3⟩
    ·exact .inl q
    ·exact .inr ⟨b',Zw _ q1,q2,q3⟩
theorem b6x:∀{rs:List Ru}{n:Nat}{tb:Tb}{P:It2->Prop},(∀b∈tb,∀y∈b.2,P y)->(∀(i:Nat)(h:i<rs.length),P (n+i+1,rs[i]))->∀b∈tabR rs n tb,∀y∈b.2,P y
 | [],n,tb,P,h1,h2,b,hb,y,hy=>h1 b hb y hy
 |r::rs,n,tb,P,h1,h2,b,hb,y,hy=>by
  rw[tabR]at hb;refine b6x (λb' hb' y' hy'=>?_) (λi hi=>?_) b hb y hy
  ·rcases c4l b' hb' y' hy' with z|⟨b2,q1,_,q2⟩
   ·rw[z];exact h2 0 (V5 _)
   ·exact h1 b2 q1 y' q2
  ·have:=h2 (i+1) (by simpa using hi);rw[show n+1+i+1=n+(i+1)+1 by omega];exact this
theorem map_hd(l:List It2):l.map hdD=Trm.dataL (l.map λx=>x.2.head):=by
 rw[Trm.dataL_map,Y4];rfl
theorem cut_to(us:List V)(m:Int)(h:0<=m):cutV us none (some m)=us.take m.toNat:=by
 unfold cutV;rw[d3s,sIx_to _ _ h,Um,U3]
 by_cases hm:m.toNat<=us.length
 ·rw[Ud hm]
 ·rw[Nat.min_eq_right qo,Xx,Zy qo]
abbrev a3u(K:W.Frag)(n:Nat):Sp:=λvs H Q _=>aV vs λv vs=>aE vs (∃t:Trm,Den K H v t.data/\t.size<=n/\n<=1000/\∀H',Same H H'->Q (.int t.size) H')
theorem b8u{K:W.Frag}{H:Hp}{Q:VK}{v:V}(h:∃t:Trm,Den K H v t.data/\t.size<=0/\0<=1000/\∀H',Same H H'->Q (.int t.size) H'):False:=by
 obtain⟨t,_,h,_⟩:=h;have:=t.size_pos;omega
theorem b4p:∀ks:List Trm,(ks.map λt:Trm=>(t.size:Int)).sum=(Trm.sizeL ks:Int)
 | []=>rfl
 |t::r=>by rw[Zp,Tv,b4p r,Trm.sizeL];omega
theorem d4q(c:Nat):inS (one c) a5n=inner (one c):=by
 have e:∀j:Str,inS (one c) j=decide (c∈j.cps.toList):=λj=>b9p c j
 unfold inner;rw[e,e,e,e];have q:a5n.cps.toList=a2u.cps.toList++(b3y.cps.toList++figS.cps.toList):=by decide+kernel
 rw[q,Xv];simp only[Zm,Bool.or_eq_true,Uz]
theorem c6r{i:Int}{y:Nat}(h:atI a5n.cps.toList i=some y):inner (one y)=true:=by
 rw[<-d4q,b9p];exact Yg (a8c h)
theorem small26:∀k:Fin 26,((a5n.cps.toList[k.1]?).all λy=>decide (y∈a2u.cps.toList))=true:=by decide+kernel
theorem c8c{i:Int}{y:Nat}(h0:0<=i)(h1:i<26)(h:atI a5n.cps.toList i=some y):inS (one y) a2u=true:=by
 rw[b9p];obtain⟨k,rfl⟩:=Int.eq_ofNat_of_zero_le h0;have hk:k<26:=by omega
 have q:=small26 ⟨k,hk⟩;have l62:a5n.cps.toList.length=62:=by decide+kernel
 have e:a5n.cps.toList[k]? =some y:=by
  obtain⟨v,e1,e2⟩:=a5u (xs:=a5n.cps.toList) (i:=(k:Int)) qo qo;rw[h]at e1;cases e1;exact e2
 show decide (y∈a2u.cps.toList)=true
 have q:(a5n.cps.toList[k]?).all (λy=>decide (y∈a2u.cps.toList))=true:=q;rw[e]at q;exact q
theorem d2c{r:List Nat}(h1:1<=r.length)(h2:r.length<=12)(ha:∀c∈r,inner (one c)=true)(hf:∀c,r.head? =some c->inS (one c) a2u=true):called ⟨r.toArray⟩ a2u=true:=by
 cases r with
 |nil=>simp at h1
 |cons c r=>
  have e1:(⟨(c::r).toArray⟩:Str).length=(c::r).length:=str_len _;unfold called;rw[e1,Yg qo,Yg qo];have e2:fst (⟨(c::r).toArray⟩:Str)=one c:=by simp[fst,one]
  rw[e2,hf c rfl];simp only[V2,Xy];exactλx hx=>ha x (by simpa using hx)
theorem d4r{z:Str}(h:z∈[notS,a1u]):b2a (z++ofString "1"):=by
 simp only[Zo,Yn,X9]at h;rcases h with rfl|rfl
 ·exact⟨qk,qk,qk,qk⟩
 ·exact⟨qk,qk,qk,qk⟩
theorem b3i:∀{ts:List Trm},ar4L ts↔∀t∈ts,ar4 t
 | []=>by rw[ar4L];simp
 |k::ks=>by rw[ar4L,b3i];simp
theorem c1b:∀(a b:List Trm),a1b (a++b)=a1b a++a1b b
 | [],b=>by simp[a1b]
 |k::a,b=>by simp[a1b,c1b a b]
def Go.fit(g:Go)(xs:List Str):Prop:=g.ok/\g.trm.size<=30/\ar4L g.kids/\g.kids.length<=4/\∀x∈a1b g.kids,x∈xs
abbrev L1(H:Hp)(p:Addr):Prop:=∃n:Int,H p=some (.lst [.int n])
structure Lf(p:Addr)(H H':Hp):Prop where
 b:But p H H'
 f:∀b,H' b=none->H b=none
 l:L1 H' p
theorem Lf.trans{p:Addr}{H H1 H2:Hp}(a:Lf p H H1)(c:Lf p H1 H2):Lf p H H2:=⟨a.b.trans c.b,λx e=>a.f x (c.f x e),c.l⟩
theorem Lf.same{p:Addr}{H H1 H2:Hp}(a:Lf p H H1)(s:Same H1 H2):Lf p H H2:=⟨a.b.trans s.but,λx e=>a.f x (s.free e),let⟨n,e⟩:=a.l;⟨n,s _ _ e⟩⟩
theorem Lf.of{p:Addr}{H H1:Hp}(s:Same H H1)(l:L1 H p):Lf p H H1:=⟨s.but,λx e=>s.free e,let⟨n,e⟩:=l;⟨n,s _ _ e⟩⟩
theorem Lf.upd{p:Addr}{H:Hp}{n:Int}(l:L1 H p):Lf p H (upd H p (.lst [.int n])):=⟨a1z,λb e=>by
 by_cases z:b=p
 ·rw[z,a0b]at e;cases e
 ·rwa[a0l z]at e,n,a0b⟩
theorem Lf.ne{p a:Addr}{H:Hp}{us:List V}(l:L1 H p)(h:H a=some (.lst us))(n:us.length≠1):a≠p:=λz=>by
 obtain⟨m,e⟩:=l;rw[z,e]at h;cases h;exact n rfl
theorem Lf.keep{p a:Addr}{H H':Hp}{us:List V}(f:Lf p H H')(l:L1 H p)(h:H a=some (.lst us))(n:us.length≠1):H' a=some (.lst us):=f.b _ _ (Lf.ne l h n) h
theorem Lf.denL{K:W.Frag}{p:Addr}{H H':Hp}(f:Lf p H H')(l:L1 H p){v:List V}{d:List PyData}(h:DenL K H v d):DenL K H' v d:=h.monoT λa xs q=>by
 obtain⟨m,e⟩:=l;rcases q with(q|⟨o',q⟩)|q
 ·exact .inl (.inl (f.b _ _ (a1w q e (λz=>by cases z)) q))
 ·exact .inl (.inr ⟨o',f.b _ _ (a1w q e (λz=>by cases z)) q⟩)
 ·exact .inr q
structure Wd(H:Hp)(q wp np kp:Addr)(ws xs:List Str)(kz:List Int):Prop where
 l:H q=some (.lst [.ref wp,.ref np,.ref kp])
 w:H wp=some (.lst (ws.map V.str))
 x:H np=some (.lst (xs.map V.str))
 k:H kp=some (.lst (kz.map V.int))
 wl:ws.length=4
 xl:xs.length=4
 kl:kz=[]\/kz.length=4
 kb:∀z∈kz,0<=z/\z<=4
 wo:∀w∈ws,b2a w
theorem Wd.same{H H':Hp}{q wp np kp:Addr}{ws xs:List Str}{kz:List Int}(d:Wd H q wp np kp ws xs kz)(s:Same H H'):Wd H' q wp np kp ws xs kz:=⟨s _ _ d.l,s _ _ d.w,s _ _ d.x,s _ _ d.k,d.wl,d.xl,d.kl,d.kb,d.wo⟩
theorem Wd.lf{H H':Hp}{q wp np kp p:Addr}{ws xs:List Str}{kz:List Int}(d:Wd H q wp np kp ws xs kz)(l:L1 H p)(f:Lf p H H'):Wd H' q wp np kp ws xs kz:=
 ⟨f.keep l d.l qz,f.keep l d.w (by rw[length_map,d.wl];decide),f.keep l d.x (by rw[length_map,d.xl];decide),f.keep l d.k (by rw[length_map];rcases d.kl with z|z<;>rw[z]<;>simp),d.wl,d.xl,d.kl,d.kb,d.wo⟩
def NP(H:Hp)(v:V)(t:Trm):Prop:=∀m,t=.num m->∃c,v=.ref c/\H c=some (.tup [.str numS,.int m])
def NP1(H:Hp)(us:List V)(ts:List Trm):Prop:=∀u r t k,us=u::r->ts=t::k->NP H u t
theorem NP.to{H H':Hp}{v:V}{t:Trm}(h:NP H v t)(k:∀a xs,H a=some (.tup xs)->H' a=some (.tup xs)):NP H' v t:=λm e=>let⟨c,e1,e2⟩:=h m e;⟨c,e1,k _ _ e2⟩
theorem NP1.to{H H':Hp}{v:List V}{t:List Trm}(h:NP1 H v t)(k:∀a xs,H a=some (.tup xs)->H' a=some (.tup xs)):NP1 H' v t:=λu r t k2 e1 e2=>(h u r t k2 e1 e2).to k
theorem Lf.tup{p:Addr}{H H':Hp}(f:Lf p H H')(l:L1 H p):∀a xs,H a=some (.tup xs)->H' a=some (.tup xs):=λa xs q=>by
 obtain⟨m,e⟩:=l;exact f.b _ _ (a1w q e (λz=>by cases z)) q
theorem Lf.sq{K:W.Frag}{p:Addr}{H H':Hp}(f:Lf p H H')(l:L1 H p):KT K H H':=λa xs q=>by
 obtain⟨m,e⟩:=l;rcases q with(q|⟨o',q⟩)|q
 ·exact .inl (.inl (f.b _ _ (a1w q e (λz=>by cases z)) q))
 ·exact .inl (.inr ⟨o',f.b _ _ (a1w q e (λz=>by cases z)) q⟩)
 ·exact .inr q
def HdN(K:W.Frag)(H:Hp)(v:V)(w:Str)(ks:List Trm):Prop:=∃a b us,v=.ref a/\SqT K H a [.str appS,.str w,.ref b]/\SqT K H b us/\DenL K H us (Trm.dataL ks)/\NP1 H us ks
theorem HdN.den{K:W.Frag}{H:Hp}{v:V}{w:Str}{ks:List Trm}(h:HdN K H v w ks):Den K H v (Trm.app w ks).data:=by
 obtain⟨a,b,us,rfl,h1,h2,h3,_⟩:=h;exact a9t h1 h2 h3
theorem HdN.to{K:W.Frag}{H H':Hp}{v:V}{w:Str}{ks:List Trm}(h:HdN K H v w ks)(kt:KT K H H')(k:∀a xs,H a=some (.tup xs)->H' a=some (.tup xs)):HdN K H' v w ks:=by
 obtain⟨a,b,us,e,h1,h2,h3,h4⟩:=h;exact⟨a,b,us,e,kt _ _ h1,kt _ _ h2,h3.monoT kt,h4.to k⟩
theorem HdN.mono{K:W.Frag}{H H':Hp}{v:V}{w:Str}{ks:List Trm}(h:HdN K H v w ks)(s:Same H H'):HdN K H' v w ks:=h.to (KT.same s) λa xs e=>s _ _ e
def RuA(K:W.Frag)(H:Hp)(v:V)(r:Ru):Prop:=∃ta hv gp ug,v=.ref ta/\SqT K H ta [hv,.ref gp]/\HdN K H hv r.w r.ks/\SqT K H gp ug/\DenL K H ug (Trm.dataL (trms r.gs))
theorem RuA.to{K:W.Frag}{H H':Hp}{v:V}{r:Ru}(h:RuA K H v r)(kt:KT K H H')(k:∀a xs,H a=some (.tup xs)->H' a=some (.tup xs)):RuA K H' v r:=by
 obtain⟨ta,hv,gp,ug,e,h1,h2,h3,h4⟩:=h;exact⟨ta,hv,gp,ug,e,kt _ _ h1,h2.to kt k,kt _ _ h3,h4.monoT kt⟩
theorem RuA.mono{K:W.Frag}{H H':Hp}{v:V}{r:Ru}(h:RuA K H v r)(s:Same H H'):RuA K H' v r:=h.to (KT.same s) λa xs e=>s _ _ e
theorem RuA.den{K:W.Frag}{H:Hp}{v:V}{r:Ru}(h:RuA K H v r):Den K H v r.data:=by
 obtain⟨ta,hv,gp,ug,rfl,h1,h2,h3,h4⟩:=h;exact .tup h1 (.cons h2.den (.cons (.tup h3 h4) .nil))
theorem b5i{K:W.Frag}{H:Hp}:∀{us:List V}{rs:List Ru},Paired (RuA K H) us rs->DenL K H us (rs.map Ru.data)
 |_,_,.nil=>.nil
 |_,_,.cons a t=>.cons a.den (b5i t)
abbrev a9l:Sp:=λvs H Q _=>aI vs λn vs=>aE vs (Q (.bl true) H)
abbrev a3b(K:W.Frag):Sp:=λvs H Q _=>aR vs λp vs=>aI vs λm vs=>aE vs (L1 H p/\1<=m/\m<=10^31/\∀(d:Int)(H':Hp),0<=d->d<m->Lf p H H'->Q (.int d) H')
abbrev a5w(K:W.Frag):Sp:=λvs H Q _=>aR vs λa vs=>aI vs λk vs=>aE vs (∃ns:List Int,SqL K H a (ns.map V.int)/\0<=k/\k<=1000/\∀v,Q (.int v) H)
abbrev b6y(K:W.Frag):Sp:=λvs H Q _=>aR vs λa vs=>aI vs λk vs=>aE vs (∃ns:List Int,SqL K H a (ns.map V.int)/\0<=k/\k<=1000/\∀v H',Same H H'->Q (.int v) H')
abbrev b3j(K:W.Frag):Sp:=λvs H Q _=>aR vs λa vs=>aI vs λk vs=>aE vs (∃ns:List Int,SqL K H a (ns.map V.int)/\0<=k/\k<=1000/\∀v H',Same H H'->Q (.int v) H')
abbrev b2n(K:W.Frag):Sp:=λvs H Q _=>aR vs λp vs=>aI vs λf vs=>aE vs (L1 H p/\(f=0\/f=26)/\∀(z:Str)(H':Hp),Lf p H H'->(f=0->b2a z)->Q (.str z) H')
abbrev b1b(K:W.Frag):Sp:=λvs H Q _=>aR vs λa vs=>aR vs λkp vs=>aE vs (∃(ns kz:List Int),SqL K H a (ns.map V.int)/\H kp=some (.lst (kz.map V.int))/\(kz=[]\/kz.length=4)/\(∀z∈kz,0<=z/\z<=4)/\∀(q wp np:Addr)(ws xs:List Str)(H':Hp),Same H H'->Wd H' q wp np kp ws xs kz->Q (.ref q) H')
abbrev a7d(K:W.Frag):Sp:=λvs H Q _=>aR vs λp vs=>aE vs (L1 H p/\∀(x:Int)(H':Hp),Lf p H H'->Q (.int x) H')
abbrev b2o(K:W.Frag):Sp:=λvs H Q _=>aR vs λp vs=>aE vs (L1 H p/\∀(z:Str)(H':Hp),Lf p H H'->Q (.str z) H')
abbrev a8i(K:W.Frag):Sp:=λvs H Q _=>aR vs λp vs=>aI vs λm vs=>aR vs λwp vs=>aE vs (∃ws:List Str,L1 H p/\H wp=some (.lst (ws.map V.str))/\ws.length=4/\∀(z:Str)(H':Hp),Lf p H H'->Q (.str z) H')
abbrev a4g(K:W.Frag)(n:Nat):Sp:=λvs H Q _=>aR vs λp vs=>aI vs λroom vs=>aR vs λq vs=>aE vs (∃(wp np kp:Addr)(ws xs:List Str)(kz:List Int),Wd H q wp np kp ws xs kz/\L1 H p/\1<=room/\room<=(n:Int)/\n<=40/\∀(r:Addr)(H':Hp)(t:Trm),Lf p H H'->Den K H' (.ref r) t.data->(t.size:Int)<=room->ar4 t->(∀x∈vars t,x∈xs)->NP H' (.ref r) t->Q (.ref r) H')
abbrev a4v(K:W.Frag)(n:Nat):Sp:=λvs H Q _=>aR vs λp vs=>aI vs λmany vs=>aI vs λroom vs=>aR vs λq vs=>aE vs (∃(wp np kp:Addr)(ws xs:List Str)(kz:List Int),Wd H q wp np kp ws xs kz/\L1 H p/\0<=many/\many<=4/\many<=room/\room<=(n:Int)/\n<=40/\∀(r:Addr)(us:List V)(H':Hp)(ts:List Trm),Lf p H H'->H' r=some (.tup us)->DenL K H' us (Trm.dataL ts)->(ts.length:Int)=many->(Trm.sizeL ts:Int)<=room->ar4L ts->(∀x∈a1b ts,x∈xs)->NP1 H' us ts->Q (.ref r) H')
abbrev a7u(K:W.Frag):Sp:=λvs H Q _=>aR vs λp vs=>aI vs λroom vs=>aR vs λq vs=>aE vs (∃(wp np kp:Addr)(ws xs:List Str)(kz:List Int),Wd H q wp np kp ws xs kz/\L1 H p/\1<=room/\room<=25/\∀(r:Addr)(H':Hp)(w:Str)(ks:List Trm),Lf p H H'->HdN K H' (.ref r) w ks->w∈ws->(Trm.sizeL ks:Int)+1<=room->ks.length<=4->ar4L ks->(∀x∈a1b ks,x∈xs)->Q (.ref r) H')
abbrev b2p(K:W.Frag):Sp:=λvs H Q _=>aR vs λp vs=>aI vs λroom vs=>aR vs λq vs=>aR vs λdp vs=>aE vs (∃(wp np kp:Addr)(ws xs:List Str)(kz:List Int),Wd H q wp np kp ws xs kz/\L1 H p/\3<=room/\room<=25/\H dp=some (.lst ([Mk.eq,.asg,.lt,.le].map λm=>V.str m.sign))/\∀(r:Addr)(H':Hp)(g:Go),Lf p H H'->Den K H' (.ref r) g.trm.data->g.fit xs->Q (.ref r) H')
structure RuF(xs:List Str)(r:Ru):Prop where
 l:r.gs.length<=6
 g:∀t∈r.gs,t.fit xs
 z:Trm.sizeL r.ks<=30
 n:r.ks.length<=4
 a:ar4L r.ks
 v:∀x∈a1b r.ks,x∈xs
abbrev b2q(K:W.Frag):Sp:=λvs H Q _=>aI vs λc vs=>aI vs λm vs=>aI vs λroom vs=>aR vs λq vs=>aR vs λdp vs=>aE vs (∃(wp np kp:Addr)(ws xs:List Str)(kz:List Int),Wd H q wp np kp ws xs kz/\0<=m/\m<=6/\3<=room/\room<=25/\H dp=some (.lst ([Mk.eq,.asg,.lt,.le].map λm=>V.str m.sign))/\∀(p:Addr)(H':Hp)(r:Ru),Same H H'->RuA K H' (.ref p) r->RuF xs r->Q (.ref p) H')
abbrev b8v(K:W.Frag):Sp:=λvs H Q _=>aR vs λa vs=>aE vs (∃ns:List Int,SqL K H a (ns.map V.int)/\ns.length<=63/\∀(p:Addr)(us:List V)(rs:List Ru)(xs:List Str)(H':Hp),Same H H'->H p=none->H' p=some (.lst us)->Paired (RuA K H') us rs->(∀r∈rs,RuF xs r)->xs.length=4->rs.length<=43->Q (.ref p) H')
theorem but_own{p k:Addr}{H H':Hp}{o:HO}(e:But p H H')(h:H k=none):But p H (upd H' k o):=λb u n q=>by rw[a0l (λz=>by rw[z,h]at q;cases q)];exact e b u n q
theorem L1.ne{p D:Addr}{H:Hp}(l:L1 H p)(h:H D=none):p≠D:=λz=>by obtain⟨n,e⟩:=l;rw[z,h]at e;cases e
theorem Lf.own{p D:Addr}{H J:Hp}{o:HO}(f:Lf p H J)(h:H D=none)(n:p≠D):Lf p H (L2.upd J D o):=⟨but_own f.b h,λb e=>by
 by_cases z:b=D
 ·rw[z,a0b]at e;cases e
 ·rw[a0l z]at e;exact f.f b e,let⟨m,e⟩:=f.l;⟨m,by rw[a0l n];exact e⟩⟩
theorem c4m{ws:List Str}{j:Int}(h0:0<=j)(h1:j<(ws.length:Int)):∃z:Str,atI (ws.map V.str) j=some (.str z)/\z∈ws:=by
 obtain⟨v,hv,_⟩:=a5u (xs:=ws.map V.str) h0 (by rw[length_map];exact h1);obtain⟨z,hz,e⟩:=Z3.mp (a8c hv);exact⟨z,by rw[hv,e],hz⟩
theorem d4s{ws:List Int}{j:Int}(h0:0<=j)(h1:j<(ws.length:Int)):∃z:Int,atI (ws.map V.int) j=some (.int z)/\z∈ws:=by
 obtain⟨v,hv,_⟩:=a5u (xs:=ws.map V.int) h0 (by rw[length_map];exact h1);obtain⟨z,hz,e⟩:=Z3.mp (a8c hv);exact⟨z,by rw[hv,e],hz⟩
noncomputable def keyD:Key->PyData
 | .inl n=>.int n
 | .inr s=>.str s
noncomputable def rowD(ks:List Key):PyData:=.tuple (ks.map keyD)
theorem c4n{K:W.Frag}{H:Hp}:∀{us:List V}{ks:List Key},DenL K H us (ks.map keyD)->us=ks.map kV
 |_,[],h=>by cases h;rfl
 |_,k::ks,h=>by
  cases h with
  |cons a b=>
   rw[c4n b,Zp];cases k with
   |inl n=>cases a;rfl
   |inr s=>cases a;rfl
theorem d2d{K:W.Frag}{H:Hp}{v:V}{ks:List Key}(h:Den K H v (rowD ks)):∃a,v=.ref a/\SqT K H a (ks.map kV):=by
 cases h with
 |tup hs hl=>exact⟨_,rfl,c4n hl▸hs⟩
noncomputable def rwK:Rw->List Key
 | .slot c s=>[.inr b5d,.inl c,.inl s]
 | .same c s=>[.inr b5e,.inl c,.inl s]
 | .num c n=>[.inr numS,.inl c,.inl n]
 | .app c g m f=>[.inr appS,.inl c,.inr g,.inl m,.inl f]
theorem c6s(r:Rw):r.data=rowD (rwK r):=by cases r<;>rfl
noncomputable def brK(sl:Str->Nat):Br->List Key
 | .put c x=>[.inr putS,.inl c,.inl (sl x)]
 | .pnum c n=>[.inr a9o,.inl c,.inl n]
 | .bld c g ks f=>[.inr bldS,.inl c,.inr g,.inl ks.length,.inl f]
theorem br_data(sl:Str->Nat)(r:Br):r.data sl=rowD (brK sl r):=by cases r<;>rfl
noncomputable def goK(call:Str):Go->List Key
 | .keep=>[.inr a1u]
 | .mark m _ _=>[.inr m.tag]
 | .neg w ks=>[.inr notS,.inr w,.inl ks.length]
 | .nm w ks=>[.inr call,.inr w,.inl ks.length]
theorem go_data(call:Str)(g:Go):g.row call=rowD (goK call g):=by cases g<;>rfl
noncomputable def a6b:List Key:=[.inr (ofString "frame")]
noncomputable def a6s:List Key:=[.inr (ofString "back")]
noncomputable def newK(s:Nat):List Key:=[.inr newS,.inl s]
noncomputable def gK(sl:Str->Nat)(call:Str)(g:Go):List (List Key):=(brL g.kids 0 g.kids.length).map (brK sl)++[goK call g]
noncomputable def gsK(sl:Str->Nat)(f:Nat->Str):Nat->List Go->List (List Key)
 |_,[]=>[]
 |i,g::gs=>gK sl (f i) g++gsK sl f (i+1) gs
theorem gK_data(sl:Str->Nat)(call:Str)(g:Go):gR sl call g=(gK sl call g).map rowD:=by
 unfold gR gK;rw[Zn,Y4,go_data]
 congr 1
 exact X8 λr _=>br_data sl r
theorem b6z(sl:Str->Nat)(f:Nat->Str):∀(i:Nat)(gs:List Go),gsR sl f i gs=(gsK sl f i gs).map rowD
 |i,[]=>by rw[gsR,gsK];rfl
 |i,g::gs=>by rw[gsR,gsK,Zn,gK_data,b6z sl f (i+1) gs]
theorem d4t(sl:Str->Nat)(ks:List Trm)(c C:Nat)(met:List Str):(taL sl ks c C met).map Rw.data=((taL sl ks c C met).map rwK).map rowD:=by
 rw[Y4];exact X8 λr _=>c6s r
noncomputable def a2h(a n:Nat):List (List Key):=(List.range n).map λj=>newK (a+j)
noncomputable def a3z(gs:List Go):List (List Key):=if a4d gs=true then[]else[a6s]
noncomputable def a5d(sl:Str->Nat)(a n:Nat)(gs:List Go):List (List Key):=a6b::a2h a n++gsK sl (a1v true gs.length) 0 gs++a3z gs
noncomputable def szA:List (Key×V):=[(Sum.inr (ofString "slot"),.int 3),(Sum.inr (ofString "same"),.int 3),(Sum.inr (ofString "num"),.int 3),(Sum.inr (ofString "app"),.int 5),(Sum.inr (ofString "frame"),.int 1),(Sum.inr (ofString "new"),.int 2),(Sum.inr (ofString "put"),.int 3),(Sum.inr (ofString "putnum"),.int 3),(Sum.inr (ofString "build"),.int 5)]
noncomputable def szB:List (Key×V):=[(Sum.inr (ofString "call"),.int 3),(Sum.inr (ofString "jump"),.int 3),(Sum.inr (ofString "not"),.int 3),(Sum.inr (ofString "keep"),.int 1),(Sum.inr (ofString "equal"),.int 1),(Sum.inr (ofString "reckon"),.int 1),(Sum.inr (ofString "less"),.int 1),(Sum.inr (ofString "atmost"),.int 1)]
noncomputable def szC:List (Key×V):=[(Sum.inr (ofString "back"),.int 1)]
noncomputable def a1l:List (Key×V):=a0z (a0z (a0z [] szA) szB) szC
theorem sz_slot:valV a1l (Sum.inr (ofString "slot"))=some (.int 3):=by kernel_rfl
theorem sz_same:valV a1l (Sum.inr (ofString "same"))=some (.int 3):=by kernel_rfl
theorem sz_num:valV a1l (Sum.inr (ofString "num"))=some (.int 3):=by kernel_rfl
theorem sz_app:valV a1l (Sum.inr (ofString "app"))=some (.int 5):=by kernel_rfl
theorem d4u:valV a1l (Sum.inr (ofString "frame"))=some (.int 1):=by kernel_rfl
theorem sz_new:valV a1l (Sum.inr (ofString "new"))=some (.int 2):=by kernel_rfl
theorem sz_put:valV a1l (Sum.inr (ofString "put"))=some (.int 3):=by kernel_rfl
theorem d2e:valV a1l (Sum.inr (ofString "putnum"))=some (.int 3):=by kernel_rfl
theorem d4v:valV a1l (Sum.inr (ofString "build"))=some (.int 5):=by kernel_rfl
theorem sz_call:valV a1l (Sum.inr (ofString "call"))=some (.int 3):=by kernel_rfl
theorem sz_jump:valV a1l (Sum.inr (ofString "jump"))=some (.int 3):=by kernel_rfl
theorem sz_not:valV a1l (Sum.inr (ofString "not"))=some (.int 3):=by kernel_rfl
theorem sz_keep:valV a1l (Sum.inr (ofString "keep"))=some (.int 1):=by kernel_rfl
theorem d4w:valV a1l (Sum.inr (ofString "equal"))=some (.int 1):=by kernel_rfl
theorem d2f:valV a1l (Sum.inr (ofString "reckon"))=some (.int 1):=by kernel_rfl
theorem sz_less:valV a1l (Sum.inr (ofString "less"))=some (.int 1):=by kernel_rfl
theorem d2g:valV a1l (Sum.inr (ofString "atmost"))=some (.int 1):=by kernel_rfl
theorem c6t:valV a1l (Sum.inr (ofString "back"))=some (.int 1):=by kernel_rfl
noncomputable def a4a(tag:Str)(k:Nat):Bool:=(decide (tag∈[appS,bldS])&&decide (k=2))|| (decide (tag∈[a3t,a2m,notS])&&decide (k=1))
noncomputable def isS:Key->Bool
 | .inl _=>false
 | .inr _=>true
def a6t(ks:List Key):Prop:=∃(tag:Str)(els:List Key),ks=.inr tag::els/\els.length<=4/\valV a1l (.inr tag)=some (.int ks.length)/\∀(k:Nat)(h:k<els.length),a4a tag (k+1)=isS els[k]
theorem ok_1{tag:Str}(h:valV a1l (.inr tag)=some (.int 1)):a6t [.inr tag]:=⟨tag,[],rfl,qz,h,λk hk=>absurd hk qz⟩
theorem ok_2{tag:Str}{a:Key}(h:valV a1l (.inr tag)=some (.int 2))(h1:a4a tag 1=isS a):a6t [.inr tag,a]:=⟨tag,[a],rfl,qz,h,λk hk=>by
 match k,hk with
 |0,_=>exact h1⟩
theorem ok_3{tag:Str}{a b:Key}(h:valV a1l (.inr tag)=some (.int 3))(h1:a4a tag 1=isS a)(h2:a4a tag 2=isS b):a6t [.inr tag,a,b]:=⟨tag,[a,b],rfl,qz,h,λk hk=>by
 match k,hk with
 |0,_=>exact h1
 |1,_=>exact h2⟩
theorem ok_5{tag:Str}{a b c d:Key}(h:valV a1l (.inr tag)=some (.int 5))(h1:a4a tag 1=isS a)(h2:a4a tag 2=isS b)(h3:a4a tag 3=isS c)(h4:a4a tag 4=isS d):a6t [.inr tag,a,b,c,d]:=⟨tag,[a,b,c,d],rfl,qz,h,λk hk=>by
 match k,hk with
 |0,_=>exact h1
 |1,_=>exact h2
 |2,_=>exact h3
 |3,_=>exact h4⟩
theorem rw_ok(r:Rw):a6t (rwK r):=by
 cases r with
 |slot c s=>exact ok_3 sz_slot (by show _=false;decide+kernel) (by show _=false;decide+kernel)
 |same c s=>exact ok_3 sz_same (by show _=false;decide+kernel) (by show _=false;decide+kernel)
 |num c s=>exact ok_3 sz_num (by show _=false;decide+kernel) (by show _=false;decide+kernel)
 |app c g m f=>exact ok_5 sz_app (by show _=false;decide+kernel) (by show _=true;decide+kernel) (by show _=false;decide+kernel) (by show _=false;decide+kernel)
theorem br_ok(sl:Str->Nat)(r:Br):a6t (brK sl r):=by
 cases r with
 |put c s=>exact ok_3 sz_put (by show _=false;decide+kernel) (by show _=false;decide+kernel)
 |pnum c s=>exact ok_3 d2e (by show _=false;decide+kernel) (by show _=false;decide+kernel)
 |bld c g m f=>exact ok_5 d4v (by show _=false;decide+kernel) (by show _=true;decide+kernel) (by show _=false;decide+kernel) (by show _=false;decide+kernel)
theorem go_ok{call:Str}(hc:call=a3t\/call=a2m)(g:Go):a6t (goK call g):=by
 cases g with
 |keep=>exact ok_1 sz_keep
 |mark m a b=>cases m with
  |eq=>exact ok_1 d4w
  |asg=>exact ok_1 d2f
  |lt=>exact ok_1 sz_less
  |le=>exact ok_1 d2g
 |neg w ks=>exact ok_3 sz_not (by show _=true;decide+kernel) (by show _=false;decide+kernel)
 |nm w ks=>
  rcases hc with rfl|rfl
  ·exact ok_3 sz_call (by show _=true;decide+kernel) (by show _=false;decide+kernel)
  ·exact ok_3 sz_jump (by show _=true;decide+kernel) (by show _=false;decide+kernel)
theorem c6u(r:Bool)(n i:Nat):a1v r n i=a3t\/a1v r n i=a2m:=by
 unfold a1v;split
 ·exact .inr rfl
 ·exact .inl rfl
theorem gK_ok{sl:Str->Nat}{call:Str}(hc:call=a3t\/call=a2m)(g:Go):∀ks∈gK sl call g,a6t ks:=λks h=>by
 rcases Zm.mp h with z|z
 ·obtain⟨r,_,rfl⟩:=Z3.mp z;exact br_ok sl r
 ·rw[Zr.mp z];exact go_ok hc g
theorem d2h{sl:Str->Nat}{f:Nat->Str}(hf:∀i,f i=a3t\/f i=a2m):∀(i:Nat)(gs:List Go),∀ks∈gsK sl f i gs,a6t ks
 |i,[],ks,h=>by simp[gsK]at h
 |i,g::gs,ks,h=>by
  rw[gsK]at h;rcases Zm.mp h with z|z
  ·exact gK_ok (hf i) g ks z
  ·exact d2h hf (i+1) gs ks z
theorem news_ok(a n:Nat):∀ks∈a2h a n,a6t ks:=λks h=>by
 obtain⟨j,_,rfl⟩:=Z3.mp h;exact ok_2 sz_new (by show _=false;decide+kernel)
abbrev b3o(K:W.Frag):Sp:=λvs H Q _=>aR vs λp vs=>aE vs (∃(us:List V)(kss:List (List Key)),SqL K H p us/\DenL K H us (kss.map rowD)/\(∀ks∈kss,a6t ks)/\us.length<=2000/\∀H',Same H H'->Q (.bl true) H')
theorem d2i{K:W.Frag}{H:Hp}{us:List V}{kss:List (List Key)}(h:DenL K H us (kss.map rowD)){i:Nat}(hi:i<kss.length):∃(hu:i<us.length)(a:Addr),us[i]=.ref a/\SqT K H a (kss[i].map kV):=by
 have hl:=h.length;rw[length_map]at hl;obtain⟨d,e1,e2⟩:=h.get (i:=i) (u:=us[i]'(by omega)) (Za qo);rw[Zs,Za hi]at e1;obtain rfl:rowD kss[i]=d:=Zi e1;obtain⟨a,e,s⟩:=d2d e2;exact⟨qo,a,e,s⟩
noncomputable def b3k(u:List Str)(ks:List Trm)(a m:Nat)(gs:List Go):List (List Key):=(taL (ix u) ks 0 ks.length []).map rwK++(if gs=[]then[a6s]else a5d (ix u) a m gs)
theorem d4x(gs:List Go):∀ks∈a3z gs,ks=a6s:=λks h=>by
 unfold a3z at h;split at h
 ·simp at h
 ·exact Zr.mp h
theorem d4y(u:List Str)(hs:List Trm)(a m:Nat)(gs:List Go):∀ks∈b3k u hs a m gs,a6t ks:=λks h=>by
 unfold b3k at h;rcases Zm.mp h with z|z
 ·obtain⟨r,_,rfl⟩:=Z3.mp z;exact rw_ok r
 ·split at z
  ·rw[Zr.mp z];exact ok_1 c6t
  ·unfold a5d at z;rcases Zm.mp z with y|y
   ·rcases Zm.mp y with x|x
    ·rcases Zo.mp x with q|q
     ·rw[q];exact ok_1 d4u
     ·exact news_ok a m ks q
    ·exact d2h (c6u true gs.length) 0 gs ks x
   ·rw[d4x gs ks y];exact ok_1 c6t
noncomputable def encI:Nat->List V->List (Key×V)
 |_,[]=>[]
 |i,v::ws=>(Sum.inl (i:Int),v)::encI (i+1) ws
theorem a6c:∀(i:Nat)(ws:List V),(encI i ws).length=ws.length
 |_,[]=>rfl
 |i,v::ws=>by rw[encI,length_cons,a6c (i+1) ws,length_cons]
theorem valI:∀(ws:List V)(i j:Nat),valV (encI i ws) (Sum.inl ((i+j:Nat):Int))=ws[j]?
 | [],i,j=>rfl
 |v::ws,i,0=>by rw[encI,a2d qz];rfl
 |v::ws,i,j+1=>by
  rw[encI,a1o (λz=>by have:=Uk z;omega),show i+(j+1)=i+1+j by omega,valI ws (i+1) j];rfl
theorem a8n(ws:List V)(j:Nat):valV (encI 0 ws) (Sum.inl (j:Int))=ws[j]?:=by
 have:=valI ws 0 j;rwa[Ye]at this
theorem c4o:∀(ws:List V)(i j:Nat)(v:V),(encI i ws).map (λkv=>if kv.1=Sum.inl ((i+j:Nat):Int)then(kv.1,v)else kv)=encI i (ws.set j v)
 | [],i,j,v=>rfl
 |w::ws,i,0,v=>by
  rw[encI,Zp,List.set_cons_zero,encI]
  congr 1
  ·show(if(Sum.inl (i:Int):Key)=Sum.inl ((i+0:Nat):Int)then((Sum.inl (i:Int):Key),v)else(Sum.inl (i:Int),w))=(Sum.inl (i:Int),v)
   rw[if_pos qz]
  ·have:∀(ws:List V)(k:Nat),i<k->(encI k ws).map (λkv=>if kv.1=Sum.inl ((i+0:Nat):Int)then(kv.1,v)else kv)=encI k ws:=by
    intro ws
    induction ws with
    |nil=>intro k _;rfl
    |cons a r ih=>
     intro k hk;rw[encI,Zp,ih (k+1) qo]
     congr 1
     exact if_neg (λz=>by have:=Uk z;omega)
   exact this ws (i+1) qo
 |w::ws,i,j+1,v=>by
  rw[encI,Zp,List.set_cons_succ,encI,show i+(j+1)=i+1+j by omega,c4o ws (i+1) j v]
  congr 1
  exact if_neg (λz=>by have:=Uk z;omega)
theorem b3l{ws:List V}{j:Nat}{v:V}(h:j<ws.length):putK (encI 0 ws) (Sum.inl (j:Int)) v=encI 0 (ws.set j v):=by
 unfold putK;rw[a5q,a8n,Za h,Uv,if_pos rfl];have:=c4o ws 0 j v;rwa[Ye]at this
theorem c1c:∀(i:Nat)(ws:List V)(v:V),encI i (ws++[v])=encI i ws++[(Sum.inl ((i+ws.length:Nat):Int),v)]
 |i,[],v=>rfl
 |i,w::ws,v=>by rw[Yh,encI,encI,c1c (i+1) ws v,Yh,length_cons,show i+1+ws.length=i+(ws.length+1) by omega]
theorem c4p{ws:List V}{v:V}:putK (encI 0 ws) (Sum.inl (ws.length:Int)) v=encI 0 (ws++[v]):=by
 rw[b2x _ (by rw[a8n];exact Yj (Zg _)),c1c,Ye]
theorem c6v:∀(ws:List V)(k i:Nat)(hi:i<ws.length),(encI k ws)[i]? =some (Sum.inl ((k+i:Nat):Int),ws[i])
 |x::ws,k,0,_=>rfl
 |x::ws,k,i+1,hi=>by
  have:=c6v ws (k+1) i (by simpa using hi);rw[show k+1+i=k+(i+1) by omega]at this;exact this
 | [],_,_,hi=>by simp at hi
def cellOk(K:W.Frag)(H:Hp)(v:V):Option Rw->Prop
 |none=>v=.non
 |some r=>Den K H v r.data
structure TW(K:W.Frag)(H:Hp)(ws:List V)(th:Th):Prop where
 len:ws.length=th.length
 at_:∀(j:Nat)(o:Option Rw),th[j]? =some o->∃v,ws[j]? =some v/\cellOk K H v o
section
variable{K:W.Frag}{H H':Hp}{ws:List V}{th:Th}
theorem TW.monoT(h:TW K H ws th)(e:∀a xs,SqT K H a xs->SqT K H' a xs):TW K H' ws th:=⟨h.len,λj o q=>by
 obtain⟨v,h1,h2⟩:=h.at_ j o q;refine⟨v,h1,?_⟩;cases o with
 |none=>exact h2
 |some r=>exact Den.monoT e h2⟩
theorem TW.mono(h:TW K H ws th)(s:Same H H'):TW K H' ws th:=h.monoT λ_ _ q=>s.tup q
theorem TW.set(h:TW K H ws th){c:Nat}{v:V}{r:Rw}(hv:Den K H v r.data):TW K H (ws.set c v) (th.set c (some r)):=⟨by rw[Yi,Yi,h.len],λj o q=>by
 by_cases e:c=j
 ·subst e;have hc:c<th.length:=by
   have:=(Zh.mp q).1;rwa[Yi]at this
  rw[Y8 hc]at q;cases q;exact⟨v,Y8 (by rw[h.len];exact hc),hv⟩
 ·rw[Xe e]at q ⊢
  exact h.at_ j o q⟩
theorem TW.snoc(h:TW K H ws th):TW K H (ws++[.non]) (th++[none]):=⟨by rw[Zc,Zc,h.len];rfl,λj o q=>by
 by_cases e:j<th.length
 ·rw[Yl e]at q;rw[Yl (by rw[h.len];exact e)];exact h.at_ j o q
 ·have hj:j=th.length:=by
   have:=(Zh.mp q).1;rw[Zc,Z9]at this;omega
  subst hj;rw[Yy (Zg _),U4]at q;have q:o=none:=by simpa using q.symm
  subst q;refine⟨.non,?_,rfl⟩;rw[<-h.len,Yy (Zg _),U4]
  rfl⟩
end
theorem b7a{α:Type}(l:List α)(k:Nat)(a:α):l++List.replicate (k+1) a=(l++List.replicate k a)++[a]:=by rw[Zt,Sr]
theorem den3{K:W.Frag}{H:Hp}{v:V}{s:Str}{c n:Int}(h:Den K H v (.tuple [.str s,.int c,.int n])):∃a,v=.ref a/\SqT K H a [.str s,.int c,.int n]:=by
 cases h with
 |tup hs hl=>
  cases hl with
  |cons a r=>
   cases a;cases r with
   |cons a r=>
    cases a;cases r with
    |cons a r=>
     cases a;cases r;exact⟨_,rfl,hs⟩
theorem den5{K:W.Frag}{H:Hp}{v:V}{s g:Str}{c m f:Int}(h:Den K H v (.tuple [.str s,.int c,.str g,.int m,.int f])):∃a,v=.ref a/\SqT K H a [.str s,.int c,.str g,.int m,.int f]:=by
 cases h with
 |tup hs hl=>
  cases hl with
  |cons a r=>
   cases a;cases r with
   |cons a r=>
    cases a;cases r with
    |cons a r=>
     cases a;cases r with
     |cons a r=>
      cases a;cases r with
      |cons a r=>
       cases a;cases r;exact⟨_,rfl,hs⟩
abbrev b8w(K:W.Frag):Sp:=λvs H Q _=>aR vs λa vs=>aE vs (∃(us:List V)(ts:List Trm),SqL K H a us/\DenL K H us (Trm.dataL ts)/\Trm.sizeL ts<=500/\∀(p:Addr)(H':Hp),Same H H'->H' p=some (.dK (encJ 0 (ordL ts [])))->Q (.ref p) H')
abbrev a5g(K:W.Frag)(n:Nat):Sp:=λvs H Q _=>aV vs λv vs=>aR vs λd vs=>aE vs (∃(t:Trm)(u:List Str),Den K H v t.data/\H d=some (.dK (encJ 0 u))/\(∀x∈vars t,x∈u)/\t.size<=n/\n<=60/\∀(x:V)(H':Hp),Same H H'->Den K H' x (byD (ix u) t)->Q x H')
theorem c1r{K:W.Frag}{H:Hp}{v:V}{d:Addr}{R:Trm->List Str->Prop}(h:∃(t:Trm)(u:List Str),Den K H v t.data/\H d=some (.dK (encJ 0 u))/\(∀x∈vars t,x∈u)/\t.size<=0/\0<=60/\R t u):False:=by
 obtain⟨t,_,_,_,_,z,_⟩:=h;have:=Trm.size_pos t;omega
abbrev a7v(K:W.Frag)(n:Nat):Sp:=λvs H Q _=>aR vs λp vs=>aI vs λi vs=>aE vs (∃(t:Trm)(c:Nat)(ws:List V)(th:Th)(sl:Str->Nat),H p=some (.dK (encI 0 ws))/\TW K H ws th/\i=(c:Int)/\Bt sl th t c/\t.size<=n/\n<=60/\ar4 t/\∀(x:V)(H':Hp),Same H H'->Den K H' x (byD sl t)->Q x H')
theorem c8d{K:W.Frag}{H:Hp}{p:Addr}{i:Int}{R:Trm->Nat->(Str->Nat)->Prop}(h:∃(t:Trm)(c:Nat)(ws:List V)(th:Th)(sl:Str->Nat),H p=some (.dK (encI 0 ws))/\TW K H ws th/\i=(c:Int)/\Bt sl th t c/\t.size<=0/\0<=60/\R t c sl):False:=by
 obtain⟨t,_,_,_,_,_,_,_,_,z,_⟩:=h;have:=Trm.size_pos t;omega
def CeOk(K:W.Frag)(H:Hp)(sl:Str->Nat)(kvs:List (Key×V))(f:Ce):Prop:=∀(j:Nat)(t:Trm),f j=some t->∃v,valV kvs (Sum.inl (j:Int))=some v/\Den K H v (byD sl t)
theorem CeOk.monoT{K:W.Frag}{H H':Hp}{sl:Str->Nat}{kvs:List (Key×V)}{f:Ce}(c:CeOk K H sl kvs f)(e:∀a xs,SqT K H a xs->SqT K H' a xs):CeOk K H' sl kvs f:=λj t h=>by
 obtain⟨v,h1,h2⟩:=c j t h;exact⟨v,h1,h2.monoT e⟩
theorem CeOk.mono{K:W.Frag}{H H':Hp}{sl:Str->Nat}{kvs:List (Key×V)}{f:Ce}(c:CeOk K H sl kvs f)(s:Same H H'):CeOk K H' sl kvs f:=c.monoT λ_ _ h=>s.tup h
theorem CeOk.put{K:W.Frag}{H:Hp}{sl:Str->Nat}{kvs:List (Key×V)}{f:Ce}(c:CeOk K H sl kvs f){r:Br}{v:V}(d:Den K H v (byD sl r.trm)):CeOk K H sl (putK kvs (Sum.inl (r.cell:Int)) v) (ce1 f r):=λj t h=>by
 unfold ce1 at h;rw[a7w]
 by_cases e:j=r.cell
 ·rw[if_pos e]at h;rw[if_pos (by rw[e]),<-Zi h];exact⟨v,rfl,d⟩
 ·rw[if_neg e]at h;rw[if_neg (λz=>e (by have:=Uk z;omega))];exact c j t h
theorem get_mid{α:Type}{A B C:List α}{j:Nat}(h:j<B.length):(A++(B++C))[A.length+j]? =B[j]?:=by
 rw[Yy qo,show A.length+j-A.length=j by omega,Yl h]
theorem b4q(sl:Str->Nat)(f:Nat->Str):∀(k i:Nat)(gs:List Go),gsK sl f k gs=gsK sl f k (gs.take i)++gsK sl f (k+i) (gs.drop i)
 |k,0,gs=>by rw[Xb,gsK,Um,Yx,Nat.add_zero]
 |k,i+1,[]=>by simp[gsK]
 |k,i+1,g::gs=>by
  rw[List.take_succ_cons,List.drop_succ_cons,gsK,gsK,b4q sl f (k+1) i gs,Zt,show k+1+i=k+(i+1) by omega]
theorem c4q(sl:Str->Nat)(c:Str)(g:Go):(gK sl c g).length=Trm.sizeL g.kids+1:=by
 rw[gK,Zc,length_map,b2b];rfl
theorem go_tag{call:Str}(hc:call=a3t\/call=a2m)(g:Go):∃tag els,goK call g=.inr tag::els/\tag∉[putS,a9o,bldS]:=by
 cases g with
 |keep=>exact⟨_,_,rfl,qk⟩
 |mark m a b=>exact⟨_,_,rfl,by cases m<;>decide+kernel⟩
 |neg w k=>exact⟨_,_,rfl,qk⟩
 |nm w k=>
  refine⟨_,_,rfl,?_⟩;rcases hc with e|e
  ·rw[e];decide+kernel
  ·rw[e];decide+kernel
def bldLe(n:Nat):Br->Prop
 | .bld _ _ _ f=>f<=n
 |_=>True
mutual
theorem br_f:∀(t:Trm)(c C n:Nat),C+t.size<=n->∀r∈br t c C,bldLe n r
 | .num m,c,C,n,h,r,hr=>by rw[br]at hr;rw[Zr.mp hr];trivial
 | .any x,c,C,n,h,r,hr=>by rw[br]at hr;rw[Zr.mp hr];trivial
 | .app s ks,c,C,n,h,r,hr=>by
  rw[br]at hr;simp only[Trm.size]at h;have zl:=Trm.len_le ks;rcases Zm.mp hr with z|z
  ·exact brL_f ks C (C+ks.length) n qo r z
  ·rw[Zr.mp z];show C<=n;omega
theorem brL_f:∀(ks:List Trm)(c C n:Nat),C+(Trm.sizeL ks-ks.length)+1<=n->∀r∈brL ks c C,bldLe n r
 | [],c,C,n,h,r,hr=>by rw[brL]at hr;simp at hr
 |k::ks,c,C,n,h,r,hr=>by
  rw[brL]at hr;have zk:=k.size_pos;have zl:=Trm.len_le ks;simp only[Trm.sizeL,length_cons]at h;rcases Zm.mp hr with z|z
  ·exact br_f k c C n qo r z
  ·exact brL_f ks (c+1) (C+(k.size-1)) n qo r z
end
theorem b7b{K:W.Frag}{H:Hp}:∀ks:List Key,DenL K H (ks.map kV) (ks.map keyD)
 | []=>.nil
 | .inl n::ks=>.cons (.int n) (b7b ks)
 | .inr n::ks=>.cons (.str n) (b7b ks)
theorem b3m:∀ks:List Key,PyData.depthAll (ks.map keyD)<=1
 | []=>by simp[PyData.depthAll]
 | .inl n::ks=>by
  have:=b3m ks;simp only[Zp,keyD,PyData.depthAll,PyData.depth];omega
 | .inr n::ks=>by
  have:=b3m ks;simp only[Zp,keyD,PyData.depthAll,PyData.depth];omega
theorem b2r{K:W.Frag}{H:Hp}{a:Addr}{ks:List Key}(h:SqT K H a (ks.map kV)):Den K H (.ref a) (rowD ks):=.tup h (b7b ks)
theorem a3n{us:List V}{i:Nat}(h:i<us.length):atI us (i:Int)=some us[i]:=by
 obtain⟨v,e1,e2⟩:=a5u (xs:=us) (i:=(i:Int)) qo qo;rw[e1];have e3:us[i]? =some v:=e2
 rw[Za h]at e3;exact e3.symm
theorem a9y{K:W.Frag}{H:Hp}{us:List V}{kss:List (List Key)}(h:DenL K H us (kss.map rowD)){i:Nat}{ks:List Key}(e:kss[i]? =some ks):∃a,atI us (i:Int)=some (.ref a)/\i<us.length/\SqT K H a (ks.map kV):=by
 obtain⟨hi,e'⟩:=Zh.mp e;obtain⟨hu,a,h1,h2⟩:=d2i h hi;rw[e']at h2;exact⟨a,by rw[a3n hu,h1],hu,h2⟩
theorem c1d(sl:Str->Nat):∀t:Trm,(byD sl t).depth<=2*t.size:=by
 have key:∀n:Nat,(∀t:Trm,t.size<=n->(byD sl t).depth<=2*t.size)/\(∀ks:List Trm,Trm.sizeL ks<=n->PyData.depthAll (byL sl ks)<=2*Trm.sizeL ks):=by
  intro n
  induction n with
  |zero=>exact⟨λt h=>by have:=t.size_pos;omega,λks h=>by
    cases ks with
    |nil=>simp[byL,PyData.depthAll]
    |cons k ks=>have:=k.size_pos;simp only[Trm.sizeL]at h;omega⟩
  |succ n ih=>
   have A:∀t:Trm,t.size<=n+1->(byD sl t).depth<=2*t.size:=λt h=>by
    cases t with
    |num m=>rw[byD];simp[PyData.depth,PyData.depthAll,Trm.size]
    |any x=>rw[byD];simp[PyData.depth,PyData.depthAll,Trm.size]
    |app s ks=>
     simp only[Trm.size]at h ⊢;have:=ih.2 ks qo;rw[byD];simp only[PyData.depth,PyData.depthAll];omega
   refine⟨A,λks h=>?_⟩
   induction ks with
   |nil=>simp[byL,PyData.depthAll]
   |cons k ks ih2=>
    have kp:=k.size_pos;simp only[Trm.sizeL]at h ⊢;have h1:=A k qo;have h2:=ih2 qo;rw[byL];simp only[PyData.depthAll];omega
 exactλt=>(key t.size).1 t (Zg _)
theorem c8e(a m:Nat):(a2h a m).map rowD=(List.range m).map λj=>newD (a+j):=by
 unfold a2h;rw[Y4];rfl
theorem c1e(w:Str)(ks:List Trm)(ts:List Trm):∃b,ordL (.app w ks::ts) []=ordL ks []++b:=by
 rw[ordL,ord];exact b6p ts (ordL ks [])
theorem c1f(w:Str)(ks:List Trm)(gs:List Go)(b:List Str)(e:ordL (.app w ks::trms gs) []=ordL ks []++b):a6p (ordL (.app w ks::trms gs) []) ks gs=(b3k (ordL (.app w ks::trms gs) []) ks (ordL ks []).length b.length gs).map rowD:=by
 have hn:=a8d (.app w ks::trms gs) [] Ul;have hnews:a9p (ordL (.app w ks::trms gs) []) (ordL ks [])=(a2h (ordL ks []).length b.length).map rowD:=by
  rw[c8e];have hn2:=hn;rw[e]at hn2 ⊢;exact d4j _ _ hn2
 unfold a6p b3k;rw[Zn,d4t]
 congr 1
 by_cases hg:gs=[]
 ·rw[if_pos hg,if_pos hg];rfl
 ·rw[if_neg hg,if_neg hg,hnews];unfold a5d;rw[Zn,Zn,Zp,b6z]
  congr 1
  have ht:a3z gs=if a4d gs=true then[]else[a6s]:=rfl
  rw[ht];cases a4d gs<;>rfl
theorem gsK_le(sl:Str->Nat)(f:Nat->Str)(gs:List Go)(h:∀g∈gs,g.ok/\g.trm.size<=30):(gsK sl f 0 gs).length<=31*gs.length:=by
 have h1:=b8q sl f 0 gs h;rw[b6z,length_map]at h1;exact h1
theorem c8f{gs:List Go}{xs:List Str}(h:∀g∈gs,g.fit xs):∀x∈a1b (trms gs),x∈xs:=by
 induction gs with
 |nil=>intro x hx;simp[trms,a1b]at hx
 |cons g gs ih=>
  intro x hx;rw[trms,Zp,a1b]at hx;rcases Zm.mp hx with z|z
  ·exact(h g (Z0 ..)).2.2.2.2 x (by rw[g.kids_vars];exact z)
  ·exact ih (λg' hg'=>h g' (Zw _ hg')) x z
theorem ord4{ts:List Trm}{xs:List Str}(hx:xs.length=4)(h:∀x∈a1b ts,x∈xs):(ordL ts []).length<=4:=by
 have hn:=a8d ts [] Ul
 have:=List.Nodup.length_le_of_subset hn (λx hx=>h x (by
  rcases(b0k ts [] x).mp hx with z|z
  ·simp at z
  ·exact z))
 omega
theorem go_vars{gs:List Go}{u:List Str}(h:∀x∈a1b (trms gs),x∈u):∀g∈gs,∀x∈a1b g.kids,x∈u:=λg hg x hx=>h x (b9t (Z3.mpr ⟨g,hg,rfl⟩) x (by rw[<-g.kids_vars];exact hx))
noncomputable def a4j:List Str:=[b5d,b5e,numS,appS]
theorem rw_tag(r:Rw):∃tag els,rwK r=.inr tag::els/\tag∈a4j:=by
 cases r with
 |slot c s=>exact⟨_,_,rfl,by simp[a4j]⟩
 |same c s=>exact⟨_,_,rfl,by simp[a4j]⟩
 |num c s=>exact⟨_,_,rfl,by simp[a4j]⟩
 |app c g m f=>exact⟨_,_,rfl,by simp[a4j]⟩
abbrev c1g(K:W.Frag):Sp:=λvs H Q _=>aR vs λa vs=>aI vs λm vs=>aE vs (∃(us:List V)(rs:List Rw)(rest:List (List Key))(k:Nat)(ks:List Trm)(sl:Str->Nat),H a=some (.lst us)/\DenL K H us ((rs.map rwK++rest).map rowD)/\(∃tag els r2,rest=(.inr tag::els)::r2/\tag∉a4j)/\m=(k:Int)/\k<=4/\rs.length<=100/\Oks rs (List.replicate k none) []/\(∀j,j<(thA rs (List.replicate k none)).length->∃r,(thA rs (List.replicate k none))[j]? =some (some r))/\us.length<=2000/\ks.length=k/\ar4L ks/\BtL sl (thA rs (List.replicate k none)) ks 0/\Trm.sizeL ks<=59/\∀(q p:Addr)(ys:List V)(H':Hp),Same H H'->H' q=some (.tup [.ref p,.int (rs.length:Int)])->H' p=some (.tup ys)->DenL K H' ys (byL sl ks)->Q (.ref q) H')
abbrev b8x(K:W.Frag):Sp:=λvs H Q _=>aR vs λpc vs=>aI vs λa vs=>aI vs λm vs=>aE vs (∃(sl:Str->Nat)(kvs:List (Key×V))(f:Ce)(ks:List Trm)(n:Nat),H pc=some (.dK kvs)/\CeOk K H sl kvs f/\a=(n:Int)/\m=(ks.length:Int)/\ks.length<=4/\n<=1000/\(∀(j:Nat)(h:j<ks.length),f (n+j)=some ks[j])/\∀(r:Addr)(us:List V)(H':Hp),Same H H'->H' r=some (.tup us)->DenL K H' us (byL sl ks)->Q (.ref r) H')
abbrev b2s(K:W.Frag):Sp:=λvs H Q _=>aR vs λpr vs=>aI vs λa vs=>aE vs (∃(sl:Str->Nat)(us:List V)(kss:List (List Key))(g:Go)(call:Str)(n:Nat),H pr=some (.lst us)/\DenL K H us (kss.map rowD)/\a=(n:Int)/\(∀(i:Nat),i<(gK sl call g).length->kss[n+i]? =(gK sl call g)[i]?)/\(call=a3t\/call=a2m)/\g.ok/\g.trm.size<=30/\ar4L g.kids/\g.kids.length<=4/\us.length<=3000/\∀(q:Addr)(v:V)(H':Hp),Same H H'->H' q=some (.tup [v,.int ((n+(Trm.sizeL g.kids+1):Nat):Int)])->Den K H' v (byD sl g.trm)->Q (.ref q) H')
abbrev c4r(K:W.Frag):Sp:=λvs H Q _=>aV vs λv vs=>aE vs (∃(w:Str)(ks:List Trm),HdN K H v w ks/\∀v' H',Same H H'->KIs H' v' (hk (.app w ks))->Q v' H')
noncomputable def hkL(hs:List (Str×List Trm)):List OK:=hs.map λh=>hk (.app h.1 h.2)
abbrev b5t(K:W.Frag):Sp:=λvs H Q _=>aR vs λp vs=>aE vs (∃(us:List V)(hs:List (Str×List Trm)),SqL K H p us/\Paired (λv h=>HdN K H v h.1 h.2) us hs/\hs.length<=50/\∀(r d:Addr)(kvs:KVs)(H':Hp),Same H H'->H d=none->H' d=some (.dT kvs)->SqT K H' r [.ref d,.int (bt isN (hkL hs)),.int (2^hs.length-1)]->DOk kvs (hkL hs)->Q (.ref r) H')
section
variable{P:Program}{w:World}{K:W.Frag}{mg:Str->Option Value}{base:Heap}{t:Ad}
theorem c8g(T:Txt K mg t)  :FnOk P w K mg base CX0 1 t.a_d6 t.d_d6 ["goal"] (b8r K):=by
 exists T.F_d6.ok c7w,(a0g (a0q (a0x (a0a (a0j (a0h K rfl) (mv 0) a0d (λ_ _=>rfl)) (a0a (a0r (a1k K rfl) rfl T.n_a3 Zq (a0a (a0j (a0h K rfl) (mv 0) a0d (λ_ _=>rfl)) a0c)) a0c))))),H,Q,E,hr,h
 rename_i v;obtain⟨s,ks,hd,q⟩:=h;obtain⟨a,pa,us,rfl,hs,hb,hk⟩:=a3f hd;ext
 exists a0i hs (v:=.str s) rfl
 exists a0i hs (v:=.ref pa) rfl
 exists a2t hb
 refine⟨ln (by show 2<=100000;decide),λp hp=>?_⟩;have hl:=hk.length;rw[Trm.dataL_map,length_map]at hl;exact q p _ (a0f hp _) (by rw[a0b,hl];rfl)
theorem c8h(T:Txt K mg t)(G_d6:FnOk P w K mg base CX0 1 t.a_d6 t.d_d6 ["goal"] (b8r K))(G_e1:FnOk P w K mg base CX0 64 t.a_e1 t.d_e1 ["number","rule"] (b4k K))(G_d1:FnOk P w K mg base CX0 3 t.a_d1 t.d_d1 ["heads"] (b4n K)):FnOk P w K mg base CX0 65 t.a_b5 t.d_b5 ["rules"] (b8s K):=by
 exists T.F_b5.ok a4l,(a0e (a0p (i:=1) a4l.nd rfl (by nofun) a7y) (a0e (a0p (i:=2) a4l.nd rfl (by nofun) a7y) (a0e (a1p Zv rfl (c3e K rfl rfl T.n_f5 (a0a (mv 0) a0c)) (a7g K rfl rfl (a2n (a1a (i:=3) a4l.nd rfl (by nofun)) (a2n (a1a (i:=4) a4l.nd rfl (by nofun)) a7e))) (a0e (a0p (i:=5) (hs:=a1n) a4l.nd rfl (by nofun) (a0m G_d6 hr.o rfl T.m_d6 T.F_d6.kp T.b_d6 .nil a0n (a0a (a0j (a0h K rfl) (mv 4) a0d (λ_ _=>rfl)) a0c))) (a0e (a1f (a6f K rfl Yz Xp X1 a5s (a6f K rfl Wl W8 V8 (b6f (a3q hr)) (mv 1) (a0a (mv 5) (a0a (a1x a0c) a0c))) (a0a (a0m G_e1 hr.o rfl T.m_e1 T.F_e1.kp T.b_e1 .nil a0n (a0a (a0u (a1d K rfl) (mv 3) a0d) (a0a (mv 4) a0c))) a0c))) (a0g (a1f (a6f K rfl Yz Xp X1 a5s (a6f K rfl Wl W8 V8 (b6f (a3q hr)) (mv 2) (a0a (mv 5) (a0a (a1x a0c) a0c))) (a0a (a0j (a0h K rfl) (mv 4) a0d (λ_ _=>rfl)) a0c))))))) (a0e (a0p (i:=6) a4l.nd rfl (by nofun) a7y) (a0e (c3q (a1p Zv rfl (c3p (mv 1)) (a1a (i:=5) a4l.nd rfl (by nofun)) (a0g (a3e (a1h hr) (mv 6) (mv 5) (a0x (a0a (a2p (a1h hr) (mv 1) (mv 5) (λ_ _=>rfl)) (a0a (a0m G_d1 hr.o rfl T.m_d1 T.F_d1.kp T.b_d1 .nil a0n (a0a (a2p (a1h hr) (mv 2) (mv 5) (λ_ _=>rfl)) a0c)) a0c))) rfl)))) (a0g (a0q (mv 6)))))))),H,Q,E,hr,h
 rename_i a;obtain⟨us,rs,hS,hd,hok,hl,q⟩:=h;have hul:=hd.length;rw[length_map]at hul;ext;intro p1 hp1;have s1:Same H (upd H p1 (.dT [])):=a0f hp1 _;have k1:(upd H p1 (.dT [])) p1=some (.dT []):=a0b;generalize upd H p1 (.dT [])=H1 at s1 k1 ⊢;ext;intro p2 hp2;have s2:Same H1 (upd H1 p2 (.dT [])):=a0f hp2 _;have k2:(upd H1 p2 (.dT [])) p2=some (.dT []):=a0b;have n12:p2≠p1:=λz=>by rw[z,k1]at hp2;cases hp2
 have hp2:H p2=none:=a2b s1 hp2;generalize upd H1 p2 (.dT [])=H2 at s2 k2 ⊢;have s02:=s1.trans s2;ext;refine⟨a,us,rfl,s02.seq hS,?_⟩;refine d0z (λi σ' J=>∃(o3 o4 o5:Option V)(M:List Addr)(v1 v2:List (List Key×V)),σ'=[some (.ref a),some (.ref p1),some (.ref p2),o3,o4,o5,none]/\TabM cdD K H J p1 M v1 (tabR (rs.take i) 0 [])/\TabM hdD K H J p2 M v2 (tabR (rs.take i) 0 [])/\(∀v∈v1.map (·.2),v∉v2.map (·.2))/\v1.length<=i/\v2.length<=i) ⟨none,none,none,[],[],[],rfl,⟨s02,s2 _ _ k1,hp1,λm hm=>by simp at hm,.nil,qz,λm hm=>by simp at hm⟩,⟨s02,k2,hp2,λm hm=>by simp at hm,.nil,qz,λm hm=>by simp at hm⟩,λv hv=>by simp at hv,Zg _,Zg _⟩ (λi σ' J hP=>by obtain⟨_,_,_,_,_,_,_,tm,_⟩:=hP;exact tm.sm.seq hS) (λi σ' J T' hi hP hT=>?_) (λσ' J hP=>?_)
 ·obtain⟨o3,o4,o5,M,v1,v2,rfl,tm,tn,dj,l1,l2⟩:=hP;have hki:i<rs.length:=by omega
  have hx:us[i]? =some us[i]:=Za hi
  obtain⟨d,e1,e2⟩:=hd.get hx;rw[Zs,Za hki]at e1;have e1:rs[i].data=d:=Zi e1;subst e1;have hg:us.getD i .non=us[i]:=by rw[Zk,hx];rfl
  rw[hg];have rok:=hok _ (Zx hki);refine a8r (SqT.of a0b) rfl ?_;have sT:=a0f hT (.tup [.int i,us[i]]);have tm:=tm.same sT;have tn:=tn.same sT;generalize upd J T' (.tup [.int i,us[i]])=J1 at sT tm tn ⊢;have e2:=e2.mono tm.sm;generalize hx0:rs[i]=x0 at e2 rok;generalize us[i]=u0 at e2 ⊢;obtain⟨ta,hv,gp,ug,rfl,hts,hhd,hgp,hgd⟩:∃ta hv gp ug,u0=.ref ta/\SqT K J1 ta [hv,.ref gp]/\Den K J1 hv x0.head.data/\SqT K J1 gp ug/\DenL K J1 ug (Trm.dataL (trms x0.gs)):=by
   cases e2 with
   |tup c d=>
    cases d with
    |cons e f=>
     cases f with
     |cons g h=>
      cases h;cases g with
      |tup i j=>exact⟨_,_,_,_,rfl,c,e,i,j⟩
  ext
  exists a0i hts (v:=hv) rfl
  refine⟨x0.w,x0.ks,hhd,λp6 J6 s6 hp6=>?_⟩;have tm:=tm.same s6;have tn:=tn.same s6;ext;refine⟨.inr (.inr (.inl ⟨rfl,.inr ⟨_,tm.top⟩⟩)),?_⟩;ext;refine⟨Yk _,λp7 hp7=>?_⟩;ext;refine tm.setd (0,x0) hp6 hp7 qo λJ8 m8 M8 w1 tab8 tm8 hv8 ha8 hl8 kt8 b8 c8=>?_
  have tn8:=tn.side tm8 n12 tm.top b8 kt8 c8;have kt18:KT K J1 J8:=(KT.same s6).trans kt8;obtain⟨us8,e8⟩:=tm8.at (0,x0) hv8;ext;refine⟨.inl ⟨rfl,_,SqL.of e8⟩,?_⟩;ext;refine⟨hv,gp,x0.w,x0.ks,ug,x0.gs,kt18 _ _ hts,hhd.monoT kt18,kt18 _ _ hgp,hgd.monoT kt18,rok.l,rok.g,rok.z,λqa pr ns J9 s9 hpr kq kr dr=>?_⟩;have tm9:=tm8.same s9;have tn9:=tn8.same s9;have d9:Dm K J9 M8 (.ref qa) (cdD (i+1,x0)):=.tup (SqT.of kq) (.cons (.int _) (.cons (.int _) (.cons (.lst kr (tm8.notM hpr) (DenL.dm dr)) .nil)));obtain⟨usA,eA,⟨bA,hbA,hlA⟩,tmB,prB⟩:=tm9.app hv8 d9;ext;have hTl:∀b∈tabR (rs.take i) 0 [],b.2.length<=i:=λb hb=>by have:=a7c (n:=0) (λb hb=>by simp at hb) b hb;rw[Z5]at this;omega
  rw[ha8]at hbA tmB;have lA:=b0p hTl bA hbA;refine a5v eA (ln1 qo) ?_;have dj1:=c6q dj c8 (λv hv=>by obtain⟨x,us,e1,_,e3⟩:=tn.val hv;exact⟨x,us,e1,e3⟩);have tnB:=tn9.side2 tmB prB eA (dj1 _ (c6p hv8));have hp6:(upd J9 m8 (.lst (usA++[.ref qa]))) p6=some (.tup ((nd x0.w x0.ks.length).map kV)):=by
   have:=s9 _ _ (b8 _ _ (a1w hp6 tm.top (λz=>by cases z)) hp6);rw[a0l (a1w this eA (λz=>by cases z))];exact this
  have kt1B:KT K J1 (upd J9 m8 (.lst (usA++[.ref qa]))):=(kt18.trans (KT.same s9)).trans prB.kt;generalize upd J9 m8 (.lst (usA++[.ref qa]))=JB at tmB tnB hp6 kt1B ⊢;clear hTl lA prB d9 tn8 tm8 tn9 tm9 kt18;ext;refine⟨.inr (.inr (.inl ⟨rfl,.inr ⟨_,tnB.top⟩⟩)),?_⟩;ext;refine⟨Yk _,λp8 hp8=>?_⟩;ext;refine tnB.setd (0,x0) hp6 hp8 qo λJC mC MC w2 tabC tnC hvC haC hlC ktC bC cC=>?_
  have tmC:=tmB.side tnC (Ne.symm n12) tnB.top bC ktC cC;have kt1C:=kt1B.trans ktC;obtain⟨usC,eC⟩:=tnC.at (0,x0) hvC;ext;refine⟨.inl ⟨rfl,_,SqL.of eC⟩,?_⟩;ext;refine a0i (kt1C _ _ hts) (v:=hv) rfl ?_;have dC:Dm K JC MC hv (hdD (i+1,x0)):=(c4g _).mpr (hhd.monoT kt1C);obtain⟨usD,eD,⟨bD,hbD,hlD⟩,tnD,prD⟩:=tnC.app hvC dC;have hTl:∀b∈tabR (rs.take i) 0 [],b.2.length<=i:=λb hb=>by have:=a7c (n:=0) (λb hb=>by simp at hb) b hb;rw[Z5]at this;omega
  rw[haC]at hbD tnD;have lD:=b0p hTl bD hbD;ext;refine a5v eD (ln1 qo) ?_;have dj2:=c6q (λv h1 h2=>dj1 v h2 h1) cC (λv hv=>by obtain⟨x,us,e1,_,e3⟩:=tmB.val hv;exact⟨x,us,e1,e3⟩);have tmD:=tmC.side2 tnD prD eD (dj2 _ (c6p hvC));have et:tabR (rs.take (i+1)) 0 []=addT (tabR (rs.take i) 0 []) (keyR x0) (i+1,x0):=by
   rw[take_succ' hki,b4o,Z5,hx0,show 0+min i rs.length+1=i+1 by omega]
  rw[<-et]at tmD tnD;exact⟨_,_,_,MC,w1,w2,rfl,tmD,tnD,λv h1 h2=>dj2 v h2 h1,qo,qo⟩
 obtain⟨o3,o4,o5,M,v1,v2,rfl,tm,tn,dj,l1,l2⟩:=hP;rw[Zy qo]at tm tn;ext;intro p3 hp3;have f3:H p3=none:=a2b tm.sm hp3;have n23:p2≠p3:=a1m tn.top hp3;have n13:p1≠p3:=a1m tm.top hp3;have s3:Same J (upd J p3 (.dT [])):=a0f hp3 _;have k3:(upd J p3 (.dT [])) p3=some (.dT []):=a0b;have tm:=tm.same s3;have tn:=tn.same s3;generalize upd J p3 (.dT [])=J3 at s3 k3 tm tn ⊢;have hT1:((tabR rs 0 []).map (·.1)).Nodup:=b9y qz;have hT2:∀b∈tabR rs 0 [],b.2.length<=45:=λb hb=>by have:=a7c (n:=0) (λb hb=>by simp at hb) b hb;omega
 have hT3:∀b∈tabR rs 0 [],∀y∈b.2,y.2.Ok:=b6x (P:=λy=>y.2.Ok) (λb hb=>by simp at hb) (λi hi=>hok _ (Zx hi));generalize tabR rs 0 []=TAB at tm tn q hT1 hT2 hT3;ext;refine⟨p1,v1,rfl,tm.top,λo ads nf hal hads=>?_⟩;have ktF:KT K J3 (upd J3 p1 (.frz o (.dT v1))):=.upd tm.top (λ_ z=>by cases z) (λ_ _ z=>by cases z);have klF:∀a us,J3 a=some (.lst us)->(upd J3 p1 (.frz o (.dT v1))) a=some (.lst us):=λa us e=>by rw[a0l (a1w e tm.top (λz=>by cases z))];exact e
 refine a1t c0t (λm σ' Hm=>∃(o5:Option V)(kf:List (List Key×V)),σ'=[some (.ref a),some (.ref p1),some (.ref p2),o3,o4,o5,some (.ref p3)]/\CW K H Hm p1 p2 o ads v1 v2 TAB/\Hm p3=some (.dT kf)/\Paired (FdR K H Hm p3) kf (TAB.take m)) ⟨o5,[],rfl,⟨a1c tm.sm tm.f,a0b,by rw[a0l n12];exact tn.top,Paired.mapP tm.row λ_ _ ⟨e,m,us,e1,e2,e3,e4⟩=>⟨e,m,us,e1,tm.fm m e2,klF _ _ e3,e4.weak.kl (λa us _ q=>klF a us q) ktF⟩,Paired.mapP tn.row λ_ _ ⟨e,m,us,e1,e2,e3,e4⟩=>⟨e,m,us,e1,klF _ _ e3,e4.weak.kl (λa us _ q=>klF a us q) ktF⟩,λi q b e1 e2=>by rw[a0l (a1w (hads i q b e1 e2) tm.top (λz=>by cases z))];exact hads i q b e1 e2⟩,by rw[a0l (Ne.symm n13)];exact k3,.nil⟩ (λm σ' Hm hP=>by obtain⟨_,_,_,cw,_⟩:=hP;exact cw.f1) (λm σ' Hm hm hP=>?_) (λσ' Hm hP=>?_)
 ·obtain⟨o5,kf,rfl,cw,kf3,pf⟩:=hP;have hlT:v1.length=TAB.length:=Yo cw.r1;obtain⟨h1,e,m1,us1,g1,g2,g3,g4⟩:=a4n cw.r1 (i:=m) qo;obtain⟨h2,e',m2,us2,c1,c3,c4⟩:=a4n cw.r2 (i:=m) qo;obtain⟨b,hb⟩:∃b,ads[m]? =some b:=⟨_,Za qo⟩
  have hkb:=cw.ks m v1[m] b (Za h1) hb;have kn1:(v1.map (·.1)).Nodup:=by rw[a5l (λ_ _ z=>z.1) cw.r1];exact hT1
  have kn2:(v2.map (·.1)).Nodup:=by rw[a5l (λ_ _ z=>z.1) cw.r2];exact hT1
  have hv1:valV v1 v1[m].1=some v1[m].2:=b2d kn1 (Zx h1);have hv2:valV v2 v1[m].1=some v2[m].2:=by rw[e,<-e'];exact b2d kn2 (Zx h2)
  rw[g1]at hv1;rw[c1]at hv2;rw[hb];ext;refine⟨p1,_,rfl,.inr ⟨v1,v1[m].1,b,.inr ⟨o,cw.f1⟩,rfl,hkb,hv1.symm⟩,?_⟩;ext;refine⟨p2,_,rfl,.inr ⟨v2,v1[m].1,b,.inl cw.f2,rfl,hkb,hv2.symm⟩,?_⟩;have hTm:=Zx (l:=TAB) (n:=m) qo;ext;rw[map_hd,b2h]at c4;refine⟨us2,_,SqL.of c3,c4,λx hx=>?_,by rw[length_map];have:=hT2 _ hTm;omega,λr d kd H8 s8 hd0 hd8 hr8 dok=>?_⟩
  ·obtain⟨y,hy,rfl⟩:=Z3.mp hx;exact⟨⟨_,_,rfl⟩,by have:=(hT3 _ hTm y hy).z;show 1+Trm.sizeL y.2.ks<=60;omega⟩
  ext;refine⟨ln (by show 2<=100000;decide),λpT hpT=>?_⟩;have sT:=s8.trans (a0f hpT (.tup [.ref m1,.ref r]));have kT:(upd H8 pT (.tup [.ref m1,.ref r])) pT=some (.tup [.ref m1,.ref r]):=a0b;have hd8:=(a0f hpT (.tup [.ref m1,.ref r])) _ _ hd8;have hr8:=(a0f hpT (.tup [.ref m1,.ref r])).tup hr8;generalize upd H8 pT (.tup [.ref m1,.ref r])=H9 at sT kT hd8 hr8 ⊢;have b9:But p3 Hm H9:=λx u _ z=>sT x u z
  have cw9:=cw.but b9 kf3 f3 n23;have kf9:=sT _ _ kf3;ext;have lkf:=Yo pf;rw[Z5]at lkf;refine⟨p3,_,rfl,DPut.t kf9 (sT _ _ hkb) (ln1 (by have:=hT1;omega)),?_⟩
  have nkf:valV kf v1[m].1=none:=c6l (by
   rw[a5l (λ_ _ z=>z.1) pf,e];intro z;rw[List.map_take]at z;obtain⟨i,hi,e2⟩:=List.mem_iff_getElem.mp z;rw[List.getElem_take]at e2;have hi:i<m:=by rw[Z5]at hi;omega
   have pw:=Wv.mp hT1 i m (by rw[length_map];omega) (by rw[length_map];omega) hi;rw[e2,U5]at pw
   exact pw rfl)
  rw[b2x _ nkf];have b10:But p3 H9 (upd H9 p3 (.dT (kf++[(v1[m].1,.ref pT)]))):=a1z;have bA:But p3 Hm (upd H9 p3 (.dT (kf++[(v1[m].1,.ref pT)]))):=λx u n z=>b10 x u n (b9 x u n z)
  have np:∀{x:Addr}{u:HO},H9 x=some u->(∀k,u≠.dT k)->(upd H9 p3 (.dT (kf++[(v1[m].1,.ref pT)]))) x=some u:=λ{x u} z n=>b10 x u (λy=>by rw[y,kf9]at z;exact n _ (Zi z).symm) z
  have dp:d≠p3:=λz=>by rw[z,kf3]at hd0;cases hd0
  refine⟨_,_,rfl,cw9.but b10 kf9 f3 n23,a0b,?_⟩;rw[take_succ' qo];refine Vi (Paired.mapP pf λ_ _ z=>(z.but b9 kf3).but b10 kf9) ⟨e,pT,m1,us1,.ref r,rfl,SqT.of (np kT (λ_ z=>by cases z)),g2,np (sT _ _ g3) (λ_ z=>by cases z),b5h bA kf3 g4,⟨r,d,kd,rfl,?_,b10 _ _ dp hd8,dp,?_⟩⟩
  ·rw[Y4,length_map]at hr8;have:=b8t b10 kf9 _ _ hr8;unfold hks;rw[length_map];exact this
  ·rw[Y4]at dok;exact dok
 obtain⟨o5,kf,rfl,cw,kf3,pf⟩:=hP;have hlT:v1.length=TAB.length:=Yo cw.r1;rw[hlT,Xx]at pf;refine⟨p1,o,v1,nf,cw.f1,?_⟩;ext;have kt:KT K Hm (upd Hm p1 (.dT v1)):=.upd cw.f1 (λ_ z=>by cases z) (λ_ _ z=>by cases z);have nq:∀{x:Addr}{u:HO},Hm x=some u->(∀o k,u≠.frz o k)->(upd Hm p1 (.dT v1)) x=some u:=λ{x u} z n=>by rw[a0l (λy=>by rw[y,cw.f1]at z;exact n _ _ (Zi z).symm)];exact z
 refine q p3 _ (a1c cw.sm hp1) ⟨kf,nq kf3 (λ_ _ z=>by cases z),f3,Paired.mapP pf λ_ _ ⟨e,pa,cl,us,sw,e1,e2,e3,e4,e5,⟨s1,dd,kd,g1,g2,g3,g4,g5⟩⟩=>⟨e,pa,cl,us,sw,e1,kt _ _ e2,e3,nq e4 (λ_ _ z=>by cases z),e5.kl (λ_ _ _ z=>nq z (λ_ _ z=>by cases z)) kt,⟨s1,dd,kd,g1,kt _ _ g2,nq g3 (λ_ _ z=>by cases z),g4,g5⟩⟩,?_⟩;rw[a5l (λ_ _ z=>z.1) pf];exact hT1
end
section
variable{P:Program}{w:World}{K:W.Frag}{mg:Str->Option Value}{base:Heap}{t:Ad}
theorem c8i(T:Txt K mg t)  :FnOk P w K mg base CX0 1 t.a_a9 t.d_a9 ["_law_found"] (a9l):=by
 exists T.F_a9.ok c7x,(a0g (a0q (a7n (a0r (a8k K rfl) rfl T.n_f2 Xc (a0a (mv 0) (a0a (a5t rfl T.n_g0 Sn) a0c))) (a7m (ke_not K rfl (a0r (a8k K rfl) rfl T.n_f2 Xc (a0a (mv 0) (a0a (a5t rfl T.n_g9 boot_bool) a0c)))))))),H,Q,E,hr,h
 rename_i n;walk_at "B";exact h
theorem c8j(T:Txt K mg t)  :FnOk P w K mg base CX0 1 t.a_a1 t.d_a1 ["_law_left","_law_many"] (a3b K):=by
 exists T.F_a1.ok b8e,(a0e (a0p (i:=2) (hs:=a3l) b8e.nd rfl (by nofun) (a0u b0d (a0j (a0h K rfl) (mv 0) a0d (λ_ _=>rfl)) (mv 1))) (a0e (c2h (a0u d3v (a0j (a0h K rfl) (mv 0) a0d (λ_ _=>rfl)) (mv 1)) (pg_sub (mv 0) a0d d3c)) (a0g (a0q (mv 2))))),H,Q,E,hr,h
 rename_i p m;obtain⟨⟨n,hp⟩,hm0,hm1,q⟩:=h;ext
 exists a1r (SqL.of hp) (v:=.int n) rfl
 exists m2_i (C:=λ_ j=>0<j) qo
 exists a1r (SqL.of hp) (v:=.int n) rfl
 exists m2_i (C:=c2d) ⟨qo,qo⟩
 refine⟨p,_,0,0,rfl,rfl,hp,rfl,?_⟩;ext;exact q _ _ (Int.emod_nonneg n qo) (Int.emod_lt_of_pos n qo) (.upd ⟨n,hp⟩)
theorem c4s(T:Txt K mg t)  :FnOk P w K mg base CX0 1 t.a_a5 t.d_a5 ["_law_script","_law_k"] (a5w K):=by
 exists T.F_a5.ok c3v,(a0e (a0y (a0s b4y (mv 1) (a0r (a1k K rfl) rfl T.n_a3 Zq (a0a (mv 0) a0c)) (a0t _)) (a0g (a0q (a0j (a0h K rfl) (mv 0) (mv 1) (λ_ _=>rfl)))) a0v) (a0g (a0q a0d))),H,Q,E,hr,h
 rename_i a k;obtain⟨ns,hS,h0,h1,q⟩:=h;ext
 exists a4k hS
 exists e
 ·ext;have hk:k<((ns.map V.int).length:Int):=Z8 e;obtain⟨v,hv,hv2⟩:=a5u (xs:=ns.map V.int) h0 hk;obtain⟨x,rfl⟩:=ints_at hv;refine a1r hS hv ?_;exact q _
 ·ext;exact q _
theorem b9z(T:Txt K mg t)(G_a1:FnOk P w K mg base CX0 1 t.a_a1 t.d_a1 ["_law_left","_law_many"] (a3b K)):FnOk P w K mg base CX0 2 t.a_c2 t.d_c2 ["_law_left","_law_first"] (b2n K):=by
 exists T.F_c2.ok a4e,(a0e (a0p (i:=2) a4e.nd rfl (by nofun) a0k) (a0e (a0p (i:=3) (hs:=a3l) a4e.nd rfl (by nofun) (a0u (a1d K rfl) (a0u (a1d K rfl) (mv 2) (b7w K rfl F.plainAttrs_str F.slot_str_upper F.type_str_upper d3q (mv 2))) a0k)) (a0e (a0p (i:=4) (hs:=a4q) a4e.nd rfl (by nofun) (a0j (a0h K rfl) (mv 3) (a0u (a1d K rfl) (mv 1) (a0m G_a1 hr.o rfl T.m_a1 T.F_a1.kp T.b_a1 .nil a0n (a0a (mv 0) (a0a a0d a0c)))) (λ_ _=>rfl))) (a0e (a1p Zv rfl (a2o rfl T.n_e9 (a0a (a0m G_a1 hr.o rfl T.m_a1 T.F_a1.kp T.b_a1 .nil a0n (a0a (mv 0) (a0a a0d a0c))) a0c)) (a1a (i:=5) a4e.nd rfl (by nofun)) (a0g (a0p (i:=4) (hs:=a3l) a4e.nd rfl (by nofun) (a0u (a1d K rfl) (mv 4) (a0j (a0h K rfl) (mv 3) (a0m G_a1 hr.o rfl T.m_a1 T.F_a1.kp T.b_a1 .nil a0n (a0a (mv 0) (a0a a0d a0c))) (λ_ _=>rfl)))))) (a0e (a0y (a0s (b0g K rfl) (mv 4) (a0x (a0a a0k (a0a a0k a0c))) (by with_unfolding_all rfl)) (a0g (a0q (a0u (a1d K rfl) (mv 4) a0k))) a0v) (a0g (a0q (mv 4)))))))),H,Q,E,hr,h
 rename_i p f;obtain⟨hl,hf,q⟩:=h;ext;refine⟨rfl,?_⟩
 exists d3r (r:=b3y) qk qk
 exists b3v (ln qk)
 exists b3v (ln qk)
 have ht:a2u++b3y++figS=a5n:=by decide+kernel
 rw[ht];refine⟨hl,qd,qd,λd H1 d0 d1 f1=>?_⟩;ext;obtain⟨y0,hy0⟩:=b3w (z:=a5n) (i:=f+d) qo (by rw[tl62];omega)
 exists c2b (ln (by rw[tl62];decide)) hy0
 refine⟨f1.l,qd,qd,λe H2 e0 e1 f2=>?_⟩;ext;refine⟨e,rfl,qo,qo,?_⟩;have f12:=f1.trans f2;refine a1t (a1q 0 e.toNat) (λi σ' J=>∃(o5:Option V)(r:List Nat),σ'=[some (.ref p),some (.int f),some (.str a2u),some (.str a5n),some (.str ⟨(y0::r).toArray⟩),o5]/\r.length=i/\Lf p H J/\∀c∈r,inner (one c)=true) ⟨none,[],rfl,rfl,f12,λc hc=>by simp at hc⟩ (λ_ _ _ _=>trivial) (λi σ' J hi hP=>?_) (λσ' J hP=>?_)
 ·obtain⟨o5,r,rfl,hrl,fj,hr⟩:=hP;ext;refine⟨fj.l,qd,qd,λd2 H3 c0 c1 f3=>?_⟩;ext;obtain⟨y,hy⟩:=b3w (z:=a5n) (i:=d2) c0 (by rw[tl62];omega)
  exists c2b (ln (by rw[tl62];decide)) hy
  refine b3v (ln ?_) ?_
  ·rw[str_len,show(⟨#[y]⟩:Str).length=1 from rfl,length_cons];omega
  ext;refine⟨some (.int (0+(i:Int))),r++[y],?_,by rw[Zc,hrl];rfl,fj.trans f3,λc hc=>?_⟩
  ·have e:(⟨(y0::r).toArray⟩:Str)++⟨#[y]⟩=⟨(y0::(r++[y])).toArray⟩:=str_app (y0::r) [y];rw[e];rfl
  ·rcases Zm.mp hc with z|z
   ·exact hr c z
   ·rw[Zr.mp z];exact c6r hy
 obtain⟨o5,r,rfl,hrl,fj,hr⟩:=hP;ext;refine⟨ln (by show 2<=100000;decide),λp9 hp9=>?_⟩;have sp9:=a0f hp9 (.tup [.str notS,.str a1u])
 exists a5j [notS,a1u] (.inr (SqT.of a0b))
 have hlz:(⟨(y0::r).toArray⟩:Str).length<=12:=by rw[str_len,length_cons];omega
 exists e
 ·have hm:=Z8 e;ext
  exists b3v (ln (by show _+1<=_;omega))
  exact q _ _ (fj.same sp9) (λ_=>d4r hm)
 ·have hm:=Xm e;ext;refine q _ _ (fj.same sp9) λhf0=>⟨d2c qz (by rw[length_cons];omega) (λc hc=>?_) (λc hc=>?_),λz=>hm (by rw[z];simp),λz=>hm (by rw[z];simp),qo⟩
  ·rcases Zo.mp hc with z|z
   ·rw[z];exact c6r hy0
   ·exact hr c z
  ·have hc:y0=c:=by simpa using hc
   rw[<-hc];exact c8c (i:=f+d) qo qo hy0
theorem d4z(T:Txt K mg t)(G_a5:FnOk P w K mg base CX0 1 t.a_a5 t.d_a5 ["_law_script","_law_k"] (a5w K)):FnOk P w K mg base CX0 2 t.a_b6 t.d_b6 ["_law_script","_law_k"] (b6y K):=by
 exists T.F_b6.ok a7a,(a0e (a0p (i:=2) (hs:=a1n) a7a.nd rfl (by nofun) (a0m G_a5 hr.o rfl T.m_a5 T.F_a5.kp T.b_a5 .nil a0n (a0a (mv 0) (a0a (mv 1) a0c)))) (a0e (a0p (i:=3) (hs:=a3l) a7a.nd rfl (by nofun) (a0u b0d (a0u a8q (a0u (a1d K rfl) (a0u (a1d K rfl) (a0u b0d (mv 2) (a0u c2v a0d a0d)) (a0u a8q a0d (mv 1))) (a0r (kc_sumA K rfl rfl) rfl T.n_g5 boot_sum (a0a (a5p (a8a K rfl) (mv 0) a9s (a5i a0d)) a0c))) a0d) a0d)) (a0e (a0p (i:=4) a7a.nd rfl (by nofun) a0d) (a0e (a1p Zv rfl (a2o rfl T.n_e9 (a0a a0d a0c)) (a1a (i:=5) a7a.nd rfl (by nofun)) (a0e (a0p (i:=3) (hs:=a3l) a7a.nd rfl (by nofun) (a0u b0d (a0u (a1d K rfl) (a0u (a1d K rfl) (a0u a8q (mv 3) a0d) (a0u a8q a0d (mv 5))) (mv 1)) a0d)) (a0g (a0p (i:=4) (hs:=a3l) a7a.nd rfl (by nofun) (a0u (a1d K rfl) (a0u a8q (mv 4) a0d) (a0u b0d (a0u c5s (mv 3) a0d) a0d)))))) (a0g (a0q (mv 4))))))),H,Q,E,hr,h
 rename_i a k;obtain⟨ns,hS,h0,h1,q⟩:=h;ext;refine⟨ns,hS,h0,h1,λc=>?_⟩;ext;refine m2_i (C:=CPow) ⟨qd,qd,qd⟩ ?_
 exists m2_i (C:=λ_ j=>0<j) qk
 exists a7o (a9k qd)
 refine⟨a,_,rfl,hS,λpz hpz=>?_⟩;have s1:=a0f hpz (.lst (cutV (ns.map V.int) none (some 3)));ext;refine⟨pz,ns.take 3,rfl,?_,?_⟩
 ·rw[List.map_take,show List.take 3 (ns.map V.int)=_ from(cut_to (ns.map V.int) 3 qd).symm];exact SqL.of a0b
 ext
 exists a7o (a6v qd)
 generalize (c%10^(40:Int).toNat+7919*k+(ns.take 3).sum)*982451653%2305843009213693951=n0;generalize upd H pz (.lst (cutV (ns.map V.int) none (some 3)))=H1 at s1 ⊢;refine⟨9,rfl,qd,qd,?_⟩;refine a1t (a1q 0 (9:Int).toNat) (λi σ' J=>∃(o5:Option V)(n b:Int),σ'=[some (.ref a),some (.int k),some (.int c),some (.int n),some (.int b),o5]/\J=H1) ⟨none,_,_,rfl,rfl⟩ (λ_ _ _ _=>trivial) (λi σ' J hi hP=>?_) (λσ' J hP=>?_)
 ·obtain⟨o5,n,b,rfl,rfl⟩:=hP;ext
  exists a7o (a6v qd)
  exists a7o (a9k qd)
  exists a7o (a6v qd)
  exact⟨_,_,_,rfl,rfl⟩
 obtain⟨o5,n,b,rfl,rfl⟩:=hP;ext;exact q _ _ s1
theorem c8k(T:Txt K mg t)(G_b6:FnOk P w K mg base CX0 2 t.a_b6 t.d_b6 ["_law_script","_law_k"] (b6y K))(G_a5:FnOk P w K mg base CX0 1 t.a_a5 t.d_a5 ["_law_script","_law_k"] (a5w K)):FnOk P w K mg base CX0 3 t.a_b1 t.d_b1 ["_law_script","_law_k"] (b3j K):=by
 exists T.F_b1.ok c7y,(a0e (a0y (a0s a1g (a0u b0d (a0m G_a5 hr.o rfl T.m_a5 T.F_a5.kp T.b_a5 .nil a0n (a0a (mv 0) (a0a a0d a0c))) a0d) a0d (a0t _)) (a0g (a0q (a0m G_a5 hr.o rfl T.m_a5 T.F_a5.kp T.b_a5 .nil a0n (a0a (mv 0) (a0a (mv 1) a0c))))) a0v) (a0g (a0q (a0m G_b6 hr.o rfl T.m_b6 T.F_b6.kp T.b_b6 .nil a0n (a0a (mv 0) (a0a (mv 1) a0c)))))),H,Q,E,hr,h
 rename_i a k;obtain⟨ns,hS,h0,h1,q⟩:=h;ext;refine⟨ns,hS,qd,qd,λc=>?_⟩;ext
 exists e
 ·ext;exact⟨ns,hS,h0,h1,λv=>q v H (Same.refl _)⟩
 ext;exact⟨ns,hS,h0,h1,λv H' s=>q v H' s⟩
theorem b7c(T:Txt K mg t)(G_a1:FnOk P w K mg base CX0 1 t.a_a1 t.d_a1 ["_law_left","_law_many"] (a3b K)):FnOk P w K mg base CX0 2 t.a_c4 t.d_c4 ["_law_left"] (a7d K):=by
 exists T.F_c4.ok b6k,(a0e (a0y (a0s a1g (a0m G_a1 hr.o rfl T.m_a1 T.F_a1.kp T.b_a1 .nil a0n (a0a (mv 0) (a0a a0d a0c))) a0d (a0t _)) (a0g (a0q (a0u a3d (a0m G_a1 hr.o rfl T.m_a1 T.F_a1.kp T.b_a1 .nil a0n (a0a (mv 0) (a0a a0d a0c))) a0d))) a0v) (a0g (a0q (a0u a3d (a0m G_a1 hr.o rfl T.m_a1 T.F_a1.kp T.b_a1 .nil a0n (a0a (mv 0) (a0a (a0u a3d (a0u a8q a0d (a0u c2v a0d a0d)) a0d) a0c))) (a0u a3d (a0u c2v a0d a0d) a0d))))),H,Q,E,hr,h
 rename_i p;obtain⟨hl,q⟩:=h;ext;refine⟨hl,qd,qd,λd H1 d0 d1 f1=>?_⟩;ext
 exists e
 ·ext;refine⟨f1.l,qd,qd,λd H2 d0 d1 f2=>?_⟩;ext;exact q _ _ (f1.trans f2)
 ext;refine m2_i (C:=CPow) ⟨qd,qd,qd⟩ ?_
 exists a7o (a9k qd)
 refine⟨f1.l,qk,qk,λd H2 d0 d1 f2=>?_⟩;ext
 exists m2_i (C:=CPow) ⟨qd,qd,qd⟩
 exact q _ _ (f1.trans f2)
theorem c0a(T:Txt K mg t)(G_a1:FnOk P w K mg base CX0 1 t.a_a1 t.d_a1 ["_law_left","_law_many"] (a3b K)):FnOk P w K mg base CX0 2 t.a_e3 t.d_e3 ["_law_left"] (b2o K):=by
 exists T.F_e3.ok a6m,(a0e (a0y (a0s a1g (a0m G_a1 hr.o rfl T.m_a1 T.F_a1.kp T.b_a1 .nil a0n (a0a (mv 0) (a0a a0d a0c))) a0d (a0t _)) (a0g (a0q (a0j (a0h K rfl) (a1x (a0a a0k (a0a a0k (a0a a0k (a0a a0k (a0a a0k a0c)))))) (a0m G_a1 hr.o rfl T.m_a1 T.F_a1.kp T.b_a1 .nil a0n (a0a (mv 0) (a0a a0d a0c))) (λ_ _=>rfl)))) a0v) (a0e (a0p (i:=1) a6m.nd rfl (by nofun) a0k) (a0e (a1p Zv rfl (a2o rfl T.n_e9 (a0a (a0u (a1d K rfl) a0d (a0m G_a1 hr.o rfl T.m_a1 T.F_a1.kp T.b_a1 .nil a0n (a0a (mv 0) (a0a a0d a0c)))) a0c)) (a1a (i:=2) a6m.nd rfl (by nofun)) (a0g (a0p (i:=1) (hs:=a3l) a6m.nd rfl (by nofun) (a0u (a1d K rfl) (mv 1) (a0j (a0h K rfl) a0k (a0m G_a1 hr.o rfl T.m_a1 T.F_a1.kp T.b_a1 .nil a0n (a0a (mv 0) (a0a a0d a0c))) (λ_ _=>rfl)))))) (a0e (a0y (a0s a1g (mv 1) a0k (a0t _)) (a0g (a0q a0k)) a0v) (a0g (a0q (mv 1))))))),H,Q,E,hr,h
 rename_i p;obtain⟨hl,q⟩:=h;ext;refine⟨hl,qd,qd,λd H1 d0 d1 f1=>?_⟩;ext
 exists e
 ·ext;refine⟨ln (by show 5<=100000;decide),λp1 hp1=>?_⟩;have s1:Same H1 (upd H1 p1 (.lst (["+","-","*","/","/:"].map λz=>V.str (ofString z)))):=a0f hp1 _;have k1:(upd H1 p1 (.lst (["+","-","*","/","/:"].map λz=>V.str (ofString z)))) p1=some (.lst (["+","-","*","/","/:"].map λz=>V.str (ofString z))):=a0b;have fa:=f1.same s1;ext;refine⟨fa.l,qd,qd,λd H2 d0 d1 f2=>?_⟩;have k2:=f2.keep fa.l k1 qd;obtain⟨v,hv,_⟩:=a5u (xs:=["+","-","*","/","/:"].map λz=>V.str (ofString z)) d0 d1;obtain⟨z,_,rfl⟩:=Z3.mp (a8c hv)
  exists a1r (SqL.of k2) hv
  exact q _ _ (fa.trans f2)
 ext;refine⟨f1.l,qd,qd,λe H2 e0 e1 f2=>?_⟩;ext;refine⟨_,rfl,qo,qo,?_⟩;have f12:=f1.trans f2;refine a1t (a1q 0 (1+e).toNat) (λi σ' J=>∃(o2:Option V)(z:Str),σ'=[some (.ref p),some (.str z),o2]/\z.length=i/\Lf p H J) ⟨none,_,rfl,qk,f12⟩ (λ_ _ _ _=>trivial) (λi σ' J hi hP=>?_) (λσ' J hP=>?_)
 ·obtain⟨o2,z,rfl,hz,fj⟩:=hP;ext;refine⟨fj.l,qd,qd,λd2 H3 c0 c1 f3=>?_⟩;obtain⟨y,hy⟩:=b3w (z:=markS) (i:=d2) c0 (by rw[mk16];omega)
  exists c2b (ln (by rw[mk16];decide)) hy
  exists b3v (ln (by show _+1<=_;omega))
  exact⟨_,_,rfl,by rw[strLen_append,hz];rfl,fj.trans f3⟩
 obtain⟨o2,z,rfl,hz,fj⟩:=hP;ext
 exists e
 ·ext;exact q _ _ fj
 ·ext;exact q _ _ fj
theorem c0b(T:Txt K mg t)(G_a1:FnOk P w K mg base CX0 1 t.a_a1 t.d_a1 ["_law_left","_law_many"] (a3b K))(G_e3:FnOk P w K mg base CX0 2 t.a_e3 t.d_e3 ["_law_left"] (b2o K)):FnOk P w K mg base CX0 3 t.a_c5 t.d_c5 ["_law_left","_law_many","_law_words"] (a8i K):=by
 exists T.F_c5.ok b1w,(a0e (a0p (i:=3) (hs:=a1n) b1w.nd rfl (by nofun) (a0m G_a1 hr.o rfl T.m_a1 T.F_a1.kp T.b_a1 .nil a0n (a0a (mv 0) (a0a a0d a0c)))) (a0e (a0y (PW.pt (b1n (a0s a1g (mv 1) a0d (a0t _)) (a9r (a0s b4y (mv 3) a0d (a0t _))))) (a0g (a0q (a0j (a0h K rfl) (a1x (a0a (a0m G_e3 hr.o rfl T.m_e3 T.F_e3.kp T.b_e3 .nil a0n (a0a (mv 0) a0c)) (a0a a0k a0c))) (mv 3) (λ_ _=>rfl)))) a0v) (a0e (a0y (PW.pt (b1n (a0s a1g (mv 1) a0d (a0t _)) (a9r (a0s a1g (mv 3) a0d (a0t _))))) (a0g (a0q a0k)) a0v) (a0g (a0q (a0j (a0h K rfl) (a0u (a1d K rfl) (mv 2) (a1x (a0a a0k (a0a a0k a0c)))) (a0m G_a1 hr.o rfl T.m_a1 T.F_a1.kp T.b_a1 .nil a0n (a0a (mv 0) (a0a a0d a0c))) (λ_ _=>rfl))))))),H,Q,E,hr,h
 rename_i p m wp;obtain⟨ws,hl,hw,hwl,q⟩:=h;ext;refine⟨hl,qd,qd,λd H1 d0 d1 f1=>?_⟩;have hw1:=f1.keep hl hw (by rw[length_map,hwl];decide);walk_at "gn"
 (with_reducible refine a3x (λσ' J=>σ'=[some (.ref p),some (.int m),some (.ref wp),some (.int d)]/\J=H1) (λσ' J hP=>?_) (λk=>?_))
 rotate_left
 ·walk_at "m"
  exists e
  ·walk_at "m"
   exists e1
   ·have e1:d<2:=Z8 e1;ext;refine⟨f1.l,λz H2 f2=>?_⟩;ext;refine⟨ln (by show 2<=100000;decide),λp1 hp1=>?_⟩;have s1:=a0f hp1 (.lst [.str z,.str "[|]"]);ext;obtain⟨v,hv,_⟩:=a5u (xs:=[V.str z,.str "[|]"]) d0 e1;have hz:∃y:Str,v=.str y:=by
     have:=a8c hv;simp only[Zo,Yn,X9]at this;rcases this with h|h<;>exact⟨_,h⟩
    obtain⟨y,rfl⟩:=hz
    exists a1r (SqL.of a0b) hv
    exact q _ _ ((f1.trans f2).same s1)
   ·walk_at "m";exact k _ _ ⟨rfl,rfl⟩
  ·walk_at "iF";walk_at "m";exact k _ _ ⟨rfl,rfl⟩
 obtain⟨rfl,rfl⟩:=hP
 (with_reducible refine a3x (λσ' J2=>σ'=[some (.ref p),some (.int m),some (.ref wp),some (.int d)]/\J2=J) (λσ' J2 hP=>?_) (λk=>?_))
 rotate_left
 ·walk_at "m"
  exists e
  ·walk_at "m"
   exists e1
   ·walk_at "m";exact q _ _ f1
   ·walk_at "m";exact k _ _ ⟨rfl,rfl⟩
  ·walk_at "iF";walk_at "m";exact k _ _ ⟨rfl,rfl⟩
 obtain⟨rfl,rfl⟩:=hP;ext;refine⟨ln (by show 2<=100000;decide),λp1 hp1=>?_⟩;have s1:Same J2 (upd J2 p1 (.lst ([notS,a1u].map V.str))):=a0f hp1 _;have k1:(upd J2 p1 (.lst ([notS,a1u].map V.str))) p1=some (.lst ([notS,a1u].map V.str)):=a0b;refine c3a (s1 _ _ hw1) a0b (by rw[length_map,hwl];exact ln qd) λp2 hp2=>?_
 have s2:=s1.trans (a0f hp2 (.lst (ws.map V.str++[notS,a1u].map V.str)));have k2:(upd (upd J2 p1 (.lst ([notS,a1u].map V.str))) p2 (.lst (ws.map V.str++[notS,a1u].map V.str))) p2=some (.lst ((ws++[notS,a1u]).map V.str)):=by rw[Zn];exact a0b
 have fa:=f1.same s2;have hl6:(ws++[notS,a1u]).length=6:=by rw[Zc,hwl];rfl
 ext;refine⟨fa.l,qd,qd,λd2 H2 e0 e1 f2=>?_⟩;have k3:=f2.keep fa.l k2 (by rw[length_map,hl6];decide);obtain⟨v,hv,_⟩:=a5u (xs:=(ws++[notS,a1u]).map V.str) e0 (by rw[length_map,hl6];exact e1);obtain⟨z,_,rfl⟩:=Z3.mp (a8c hv)
 exists a1r (SqL.of k3) hv
 exact q _ _ (fa.trans f2)
end
section
variable{P:Program}{w:World}{K:W.Frag}{mg:Str->Option Value}{base:Heap}{t:Ad}
theorem b8y(T:Txt K mg t)(G_b1:FnOk P w K mg base CX0 3 t.a_b1 t.d_b1 ["_law_script","_law_k"] (b3j K))(G_c2:FnOk P w K mg base CX0 2 t.a_c2 t.d_c2 ["_law_left","_law_first"] (b2n K)):FnOk P w K mg base CX0 4 t.a_d8 t.d_d8 ["_law_script","_law_kinds"] (b1b K):=by
 exists T.F_d8.ok a5o,(a0e (a0p (i:=2) (hs:=a8s) a5o.nd rfl (by nofun) (a1x (a0a (a0m G_b1 hr.o rfl T.m_b1 T.F_b1.kp T.b_b1 .nil a0n (a0a (mv 0) (a0a a0d a0c))) a0c))) (a0e (b4w (i:=3) a5o.nd rfl (by nofun) rfl (a2o rfl T.n_e9 (a0a a0d a0c)) (a3p (a0o a4s) ["_law_script","_law_kinds","_law_left","_law_words"] ["_law_script","_law_kinds","_law_left","_law_words"] rfl rfl qk) (λ_ _ _ _ _=>a3o) (λ_ _ _ _ _=>(a0m G_c2 hr.o rfl T.m_c2 T.F_c2.kp T.b_c2 .nil a0n (a0a (mv 3) (a0a a0d a0c))))) (a0e (a0p (i:=2) (hs:=a8s) a5o.nd rfl (by nofun) (a1x (a0a (a0m G_b1 hr.o rfl T.m_b1 T.F_b1.kp T.b_b1 .nil a0n (a0a (mv 0) (a0a a0d a0c))) a0c))) (a0g (a0q (a1x (a0a (mv 3) (a0a (a5h rfl (a2o rfl T.n_e9 (a0a a0d a0c)) (a3p (a0o a4s) ["_law_script","_law_kinds","_law_left","_law_words"] ["_law_script","_law_kinds","_law_left","_law_words"] rfl rfl qk) (λ_ _ _ _ _=>a3o) (λ_ _ _ _ _=>(a0m G_c2 hr.o rfl T.m_c2 T.F_c2.kp T.b_c2 .nil a0n (a0a (mv 3) (a0a a0d a0c))))) (a0a (mv 1) a0c))))))))),H,Q,E,hr,h
 rename_i a kp;obtain⟨ns,kz,hS,hk,hk4,hkb,q⟩:=h;ext;refine⟨ns,hS,qd,qd,λv1 A1 s1=>?_⟩;ext;refine⟨ln (by show 1<=100000;decide),λp1 hp1=>?_⟩;have sp1:Same A1 (upd A1 p1 (.lst [.int v1])):=a0f hp1 _;have kp1:(upd A1 p1 (.lst [.int v1])) p1=some (.lst [.int v1]):=a0b;generalize upd A1 p1 (.lst [.int v1])=A2 at sp1 kp1 ⊢;ext;refine⟨4,rfl,qd,qd,λD1 hD1=>?_⟩;have nD1:=L1.ne ⟨v1,kp1⟩ hD1;refine a2z (a1q 0 (4:Int).toNat) (λi ys J=>Lf p1 A2 J/\(∃cs:List Str,ys=cs.map V.str/\cs.length=i/\∀w∈cs,b2a w)/\J D1=some (.lst ys)) (ln qd) ⟨Lf.own (.of (Same.refl _) ⟨v1,kp1⟩) hD1 nD1,⟨[],rfl,rfl,λw hw=>by simp at hw⟩,a0b⟩ (λ_ _ _ _=>trivial) (λi ys J Q' hi' hl' hP k=>?_) (λys J hl' hP=>?_)
 ·obtain⟨g1,⟨cs,g2,g4,g5⟩,g3⟩:=hP;ext;refine⟨g1.l,.inl rfl,λz H9 f9 hz=>?_⟩;exact k _ _ (f9.b _ _ (Ne.symm nD1) g3) ⟨(g1.trans f9).own hD1 nD1,⟨cs++[z],by rw[g2,Zn];rfl,by rw[Zc,g4];rfl,λw hw=>(Zm.mp hw).elim (g5 w) (λq=>by rw[Zr.mp q];exact hz rfl)⟩,a0b⟩
 obtain⟨g1,⟨cs,g2,g4,g5⟩,g3⟩:=hP;have sA:=s1.trans sp1;have hp1':H p1=none:=a2b s1 hp1;have sJ:=a4f sA g1.b hp1';have hD1':H D1=none:=a2b sA hD1;have kD1:J D1=some (.lst (cs.map V.str)):=g2▸g3;ext;refine⟨ns,sJ.seq hS,qd,qd,λv2 A3 s3=>?_⟩;ext;refine⟨ln (by show 1<=100000;decide),λp2 hp2=>?_⟩;have sp2:Same A3 (upd A3 p2 (.lst [.int v2])):=a0f hp2 _;have kp2:(upd A3 p2 (.lst [.int v2])) p2=some (.lst [.int v2]):=a0b;generalize upd A3 p2 (.lst [.int v2])=A4 at sp2 kp2 ⊢;ext;have sB:=sJ.trans (s3.trans sp2);have kD1:=(s3.trans sp2) _ _ kD1;clear g2 g3;have hcs:=g4;have hok:=g5;generalize hcs0:cs=cs0 at kD1 hcs hok;clear g4 g5 hcs0;refine⟨4,rfl,qd,qd,λD2 hD2=>?_⟩;have nD2:=L1.ne ⟨v2,kp2⟩ hD2;refine a2z (a1q 0 (4:Int).toNat) (λi ys Z=>Lf p2 A4 Z/\(∃cs:List Str,ys=cs.map V.str/\cs.length=i)/\Z D2=some (.lst ys)) (ln qd) ⟨Lf.own (.of (Same.refl _) ⟨v2,kp2⟩) hD2 nD2,⟨[],rfl,rfl⟩,a0b⟩ (λ_ _ _ _=>trivial) (λi ys Z Q' hi' hl' hP k=>?_) (λys Z hl' hP=>?_)
 ·obtain⟨g1,⟨cs,g2,g4⟩,g3⟩:=hP;ext;refine⟨g1.l,.inr rfl,λz H9 f9 hz=>?_⟩;exact k _ _ (f9.b _ _ (Ne.symm nD2) g3) ⟨(g1.trans f9).own hD2 nD2,⟨cs++[z],by rw[g2,Zn];rfl,by rw[Zc,g4];rfl⟩,a0b⟩
 obtain⟨g1,⟨cs,g2,g4⟩,g3⟩:=hP;have hp2':H p2=none:=a2b (sJ.trans s3) hp2;have sZ:=a4f sB g1.b hp2';have kD1:=g1.b _ _ (λz=>by rw[z]at kD1;rw[kp2]at kD1;have:=Xg List.length (HO.lst.inj (Zi kD1));rw[length_map,hcs]at this;cases this) kD1;have kD2:Z D2=some (.lst (cs.map V.str)):=g2▸g3;ext;refine⟨ln (by show 3<=100000;decide),λr hr=>?_⟩;have sr:=a0f hr (.lst [.ref D1,.ref D2,.ref kp]);exact q r D1 D2 cs0 cs _ (sZ.trans sr) ⟨a0b,sr _ _ kD1,sr _ _ kD2,(sZ.trans sr) _ _ hk,hcs,g4,hk4,hkb,hok⟩
theorem b8z(T:Txt K mg t)  (n:Nat)(G_a7:FnOk P w K mg base CX0 (n+1) t.a_a7 t.d_a7 ["_law_term"] (a3u K n)):FnOk P w K mg base CX0 (n+1+1) t.a_a7 t.d_a7 ["_law_term"] (a3u K (n+1)):=by
 exists T.F_a7.ok (k:=n+1) b8f,(a0e (a0y (a0s a1g (a0j (a0h K rfl) (mv 0) a0d (λ_ _=>rfl)) a0k (a0t _)) (a0g (a0q (a0u (a1d K rfl) a0d (a0r (kc_sum K rfl rfl) rfl T.n_g5 boot_sum (a0a (a5h rfl (b9o K rfl (a0j (a0h K rfl) (mv 0) a0d (λ_ _=>rfl))) (a3p (a0o a6j) ["_law_term"] ["_law_term"] rfl rfl qk) (λ_ _ _ _ _=>a3o) (λ_ _ _ _ _=>(a0m G_a7 hr.o rfl T.m_a7 T.F_a7.kp T.b_a7 .nil a0n (a0a (mv 0) a0c)))) a0c))))) a0v) (a0g (a0q a0d))),H,Q,E,hr,h
 rename_i v;obtain⟨t0,hd,hz,hn,q⟩:=h;cases t0 with
 |num m=>
  obtain⟨a,rfl,hs⟩:=a6g hd;ext
  exists a0i hs (v:=.str numS) rfl
  rw[Zz,d1];walk_at "C";exact q H (Same.refl H)
 |any m=>
  obtain⟨a,rfl,hs⟩:=a6h hd;ext
  exists a0i hs (v:=.str anyS) rfl
  rw[Zz,d2];walk_at "C";exact q H (Same.refl H)
 |app sg ks=>
  obtain⟨a,b,us,rfl,hs,hb,hk⟩:=a3f hd;ext
  exists a0i hs (v:=.str appS) rfl
  rw[Zz,d3];walk_at "D";refine a0i hs (v:=.ref b) rfl ?_;refine⟨b,rfl,⟨_,hb⟩,λD hD=>?_⟩;simp only[Trm.size]at hz;have hl:=hk.length;rw[Trm.dataL_map,length_map]at hl;have l4:=Trm.len_le ks;refine a2z (b4x (xs:=us)) (λi ys H'=>Same H H'/\ys=((ks.take i).map λt:Trm=>V.int t.size)/\H' D=some (.lst ys)) (ln qo) ⟨a0f hD _,rfl,a0b⟩ (λi ys H' hP=>hP.1.tup hb) (λi ys H' Q' hi' hl' hP k=>?_) (λys H' hl' hP=>?_)
  ·obtain⟨g1,g2,g3⟩:=hP;have hki:i<ks.length:=by omega
   have hx:us[i]? =some us[i]:=Za hi'
   have hg:us.getD i .non=us[i]:=by rw[Zk,hx];rfl
   obtain⟨d,e1,e2⟩:=hk.get hx;rw[Trm.dataL_map,Zs,Za hki]at e1;have e1:ks[i].data=d:=Zi e1;subst e1;ext;rw[hg];have hsz:ks[i].size<=Trm.sizeL ks:=by
    have e:=Trm.sizeL_app (ks.take i) (ks.drop i);rw[Ug,Vv hki,Trm.sizeL]at e;omega
   refine⟨ks[i],e2.mono g1,qo,qo,λH2 s2=>?_⟩;refine k _ _ (s2 _ _ g3) ⟨a1c (g1.trans s2) hD,?_,a0b⟩;rw[g2,X5,Za hki,Zn];rfl
  ·obtain⟨g1,g2,g3⟩:=hP;have e:ks.take us.length=ks:=Zy qo;rw[e]at g2;ext;refine⟨D,ks.map λt:Trm=>(t.size:Int),rfl,SqL.of (by rw[Y4];exact g2▸g3),λn hn=>?_,?_,?_⟩
   ·obtain⟨t,_,rfl⟩:=Z3.mp hn;omega
   ·rw[b4p];omega
   ·ext;rw[b4p];have e:(1:Int)+(Trm.sizeL ks:Int)=((Trm.app sg ks).size:Int):=by simp only[Trm.size];omega
    rw[e];exact q H' g1
theorem b9a(T:Txt K mg t)  (n:Nat):FnOk P w K mg base CX0 (n+1) t.a_a7 t.d_a7 ["_law_term"] (a3u K n):=by
 induction n with
 |zero=>
  have no:∀vs H Q E,(a3u K 0) vs H Q E->False:=λvs H Q E h=>by
   revert vs
   walk_at "in";exactλh=>b8u h
  exact⟨λvs H Q E h=>(no vs H Q E h).elim,λA outer s H args us vs Q E _ _ _ _ h=>(no vs H Q E h).elim⟩
 |succ n ih=>
  have e:n+1+1=n+1+1:=by omega
  rw[e];exact b8z T  n ih
theorem b2t(T:Txt K mg t)(G_a7:FnOk P w K mg base CX0 42 t.a_a7 t.d_a7 ["_law_term"] (a3u K 41))(n:Nat)(G_c1:FnOk P w K mg base CX0 (42+2*n) t.a_c1 t.d_c1 ["_law_left","_law_room","_law_names"] (a4g K n)):FnOk P w K mg base CX0 (42+2*n+1) t.a_a6 t.d_a6 ["_law_left","_law_many","_law_room","_law_names"] (a4v K n):=by
 exists T.F_a6.ok (k:=42+2*n) a4u,(a0e (a0p (i:=4) (hs:=a8s) a4u.nd rfl (by nofun) (a1x a0c)) (a0e (a1p Zv rfl (a2o rfl T.n_e9 (a0a (mv 1) a0c)) (a1a (i:=5) a4u.nd rfl (by nofun)) (a0e (a0p (i:=6) (hs:=a1n) a4u.nd rfl (by nofun) (a0m G_c1 hr.o rfl T.m_c1 T.F_c1.kp T.b_c1 .nil a0n (a0a (mv 0) (a0a (a0u a3d (mv 2) (a0u a3d (a0u a3d (mv 1) a0d) (mv 5))) (a0a (mv 3) a0c))))) (a0e (a0p (i:=2) (hs:=a3l) a4u.nd rfl (by nofun) (a0u a3d (mv 2) (a0m G_a7 hr.o rfl T.m_a7 T.F_a7.kp T.b_a7 .nil a0n (a0a (mv 6) a0c)))) (a0g (a1f (a6f K rfl Yz Xp X1 a5s (mv 4) (a0a (mv 6) a0c))))))) (a0g (a0q (a2f (a8b K rfl) rfl T.n_f3 Wo (a0a (mv 4) a0c)))))),H,Q,E,hr,h
 rename_i p m room wq;obtain⟨wp,np,kp,ws,xs,kz,wd,hl,hm0,hm4,hmr,hrn,hn,q⟩:=h;ext;refine⟨ln (by show 0<=100000;decide),λpk hpk=>?_⟩;ext;refine⟨m,rfl,qo,qo,?_⟩;have npk:=L1.ne hl hpk;refine a1t (a1q 0 m.toNat) (λi σ' H'=>∃(o7 o8:Option V)(us:List V)(ks:List Trm)(rm:Int),σ'=[some (.ref p),some (.int m),some (.int rm),some (.ref wq),some (.ref pk),o7,o8]/\H' pk=some (.lst us)/\DenL K H' us (Trm.dataL ks)/\ks.length=i/\rm+(Trm.sizeL ks:Int)=room/\m-(i:Int)<=rm/\Lf p H H'/\ar4L ks/\(∀x∈a1b ks,x∈xs)/\NP1 H' us ks) ⟨none,none,[],[],_,rfl,a0b,.nil,rfl,by simp only[Trm.sizeL];omega,by simpa using hmr,Lf.own (.of (Same.refl _) hl) hpk npk,by rw[ar4L];trivial,λx hx=>by simp[a1b]at hx,λu r t k e=>by cases e⟩ (λ_ _ _ _=>trivial) (λi σ' H' hi hP=>?_) (λσ' H' hP=>?_)
 ·obtain⟨o7,o8,us,ks,rm,rfl,j1,j2,j3,j4,j5,j6,ja,jv,jn⟩:=hP;ext;refine⟨wp,np,kp,ws,xs,kz,wd.lf hl j6,j6.l,qo,qo,qo,λr H2 t2 f2 hd2 hsz ha2 hv2 hn2=>?_⟩;ext;have tp:=t2.size_pos;refine⟨t2,hd2,qo,qd,λH3 s3=>?_⟩;ext;have hk3:H3 pk=some (.lst us):=s3 _ _ (f2.b _ _ (Ne.symm npk) j1);refine⟨.inl ⟨rfl,_,SqL.of hk3⟩,?_⟩;ext;have l1:=j2.length;rw[Trm.dataL_map,length_map]at l1;refine a5v hk3 (ln1 qo) ?_;refine⟨_,_,us++[.ref r],ks++[t2],rm-(t2.size:Int),rfl,a0b,?_,by rw[Zc,j3];rfl,?_,?_,((j6.trans f2).same s3).own hpk npk,?_,?_,?_⟩
  ·rw[Trm.dataL_map,Zn,<-Trm.dataL_map];exact(((f2.denL j6.l j2).mono s3).append (.cons (hd2.mono s3) .nil)).lst hk3
  ·rw[Trm.sizeL_app];simp only[Trm.sizeL];omega
  ·omega
  ·rw[b3i]at ja ⊢;intro t ht;rcases Zm.mp ht with z|z
   ·exact ja t z
   ·rw[Zr.mp z];exact ha2
  ·intro x hx;rw[c1b]at hx;rcases Zm.mp hx with z|z
   ·exact jv x z
   ·exact hv2 x (by simpa[a1b]using z)
  ·have kp:∀a xs,H2 a=some (.tup xs)->(upd H3 pk (.lst (us++[.ref r]))) a=some (.tup xs):=λa xs e=>by
    have:=s3 _ _ e;rw[a0l (a1w this hk3 (λz=>by cases z))];exact this
   cases us with
   |nil=>
    have hk0:ks=[]:=T1.mp l1.symm;subst hk0;intro u r' t' k' e1 e2;cases e1;cases e2;exact hn2.to kp
   |cons u0 us=>
    cases ks with
    |nil=>simp at l1
    |cons k0 ks=>
     intro u r' t' k' e1 e2;cases e1;cases e2;exact(jn _ _ _ _ rfl rfl).to λa xs e=>kp _ _ (f2.tup j6.l _ _ e)
 ·obtain⟨o7,o8,us,ks,rm,rfl,j1,j2,j3,j4,j5,j6,ja,jv,jn⟩:=hP;ext;refine b1u (SqL.of j1) λb hb=>?_
  have s4:=a0f hb (.tup us);exact q b us _ ks (j6.same s4) a0b (j2.mono s4) qo qo ja jv (jn.to λa xs e=>s4 _ _ e)
theorem c0c(T:Txt K mg t)(G_a1:FnOk P w K mg base CX0 1 t.a_a1 t.d_a1 ["_law_left","_law_many"] (a3b K))(G_c4:FnOk P w K mg base CX0 2 t.a_c4 t.d_c4 ["_law_left"] (a7d K))(G_c5:FnOk P w K mg base CX0 3 t.a_c5 t.d_c5 ["_law_left","_law_many","_law_words"] (a8i K))(n:Nat)(G_a6:FnOk P w K mg base CX0 (42+2*n+1) t.a_a6 t.d_a6 ["_law_left","_law_many","_law_room","_law_names"] (a4v K n)):FnOk P w K mg base CX0 (42+2*n+1+1) t.a_c1 t.d_c1 ["_law_left","_law_room","_law_names"] (a4g K (n+1)):=by
 exists T.F_c1.ok (k:=42+2*n+1) a6n,(a0e (a0p (i:=3) (hs:=a1n) a6n.nd rfl (by nofun) (a0m G_a1 hr.o rfl T.m_a1 T.F_a1.kp T.b_a1 .nil a0n (a0a (mv 0) (a0a a0d a0c)))) (a0e (a0y (a0s b4y (mv 3) a0d (a0t _)) (a0g (a0q (a0x (a0a a0k (a0a (a0j (a0h K rfl) (a0j (a0h K rfl) (mv 2) a0d (λ_ _=>rfl)) (a0m G_a1 hr.o rfl T.m_a1 T.F_a1.kp T.b_a1 .nil a0n (a0a (mv 0) (a0a a0d a0c))) (λ_ _=>rfl)) a0c))))) a0v) (a0e (a0y (a0s a1g (mv 3) a0d (a0t _)) (a0g (a0q (a0x (a0a a0k (a0a (a0m G_c4 hr.o rfl T.m_c4 T.F_c4.kp T.b_c4 .nil a0n (a0a (mv 0) a0c)) a0c))))) a0v) (a0e (a0p (i:=4) (hs:=a1n) a6n.nd rfl (by nofun) (a0m G_a1 hr.o rfl T.m_a1 T.F_a1.kp T.b_a1 .nil a0n (a0a (mv 0) (a0a a0d a0c)))) (a0e (a0y (a0s mo_ge (mv 4) (mv 1) (a0t _)) (a0g (a0p (i:=4) a6n.nd rfl (by nofun) a0d)) a0v) (a0g (a0q (a0x (a0a a0k (a0a (a0m G_c5 hr.o rfl T.m_c5 T.F_c5.kp T.b_c5 .nil a0n (a0a (mv 0) (a0a (mv 4) (a0a (a0j (a0h K rfl) (mv 2) a0d (λ_ _=>rfl)) a0c)))) (a0a (a0m G_a6 hr.o rfl T.m_a6 T.F_a6.kp T.b_a6 .nil a0n (a0a (mv 0) (a0a (mv 4) (a0a (a0u a3d (mv 1) a0d) (a0a (mv 2) a0c))))) a0c))))))))))),H,Q,E,hr,h
 rename_i p room wq;obtain⟨wp,np,kp,ws,xs,kz,wd,hl,h1,h2,hn,q⟩:=h;ext;refine⟨hl,qd,qd,λd H1 d0 d1 f1=>?_⟩;have w1:=wd.lf hl f1;ext
 exists e
 ·ext
  exists a1r (SqL.of w1.l) (v:=.ref np) rfl
  refine⟨f1.l,qd,qd,λd2 H2 b5 b6 f2=>?_⟩;have w2:=w1.lf f1.l f2;obtain⟨z,hz,hzx⟩:=c4m (ws:=xs) b5 (by rw[wd.xl];exact b6)
  exists a1r (SqL.of w2.x) hz
  refine⟨ln (by show 2<=100000;decide),λr hr=>?_⟩;have s3:=a0f hr (.tup [.str anyS,.str z]);exact q r _ (.any z) ((f1.trans f2).same s3) (any_den (SqT.of a0b)) (by simp only[Trm.size];omega) (by rw[ar4];trivial) (λx hx=>by rw[vars,Zr]at hx;rw[hx];exact hzx) (λm e=>by cases e)
 ext
 exists e1
 ·ext;refine⟨f1.l,λx H2 f2=>?_⟩;ext;refine⟨ln (by show 2<=100000;decide),λr hr=>?_⟩;have s3:=a0f hr (.tup [.str numS,.int x]);exact q r _ (.num x) ((f1.trans f2).same s3) (num_den (SqT.of a0b)) (by simp only[Trm.size];omega) (by rw[ar4];trivial) (λx hx=>by simp[vars]at hx) (λm e=>by cases e;exact⟨r,rfl,a0b⟩)
 ext;refine⟨f1.l,qd,qd,λm0 H2 m00 m01 f2=>?_⟩;have w2:=w1.lf f1.l f2;have f12:=f1.trans f2;walk_at "gn"
 (with_reducible refine a3x (λσ' J=>∃m:Int,σ'=[some (.ref p),some (.int room),some (.ref wq),some (.int d),some (.int m)]/\J=H2/\0<=m/\m<=4/\m<=room-1) (λσ' J hP=>?_) (λk=>?_))
 rotate_left
 ·walk_at "m"
  exists e
  ·walk_at "m";exact k _ _ ⟨0,rfl,rfl,qd,qd,qo⟩
  ·have e:¬room<=m0:=Xm e;walk_at "m";exact k _ _ ⟨m0,rfl,rfl,m00,qo,qo⟩
 obtain⟨m,rfl,rfl,mm0,mm4,mmr⟩:=hP;ext
 exists a1r (SqL.of w2.l) (v:=.ref wp) rfl
 refine⟨ws,f2.l,w2.w,w2.wl,λz H3 f3=>?_⟩;have w3:=w2.lf f2.l f3;ext;refine⟨wp,np,kp,ws,xs,kz,w3,f3.l,qo,qo,qo,qo,qo,λr us H4 ts f4 kr d4 l4 z4 a4 v4 n4=>?_⟩;ext;refine⟨ln (by show 3<=100000;decide),λr2 hr2'=>?_⟩;have s5:=a0f hr2' (.tup [.str appS,.str z,.ref r]);refine q r2 _ (.app z ts) (((f12.trans f3).trans f4).same s5) (a9t (SqT.of a0b) (SqT.of (s5 _ _ kr)) (d4.mono s5)) ?_ (by rw[ar4];exact⟨qo,a4⟩) (λx hx=>v4 x (by rw[vars]at hx;exact hx)) (λm e=>by cases e);simp only[Trm.size];omega
theorem ok_mut(T:Txt K mg t)(G_a7:FnOk P w K mg base CX0 42 t.a_a7 t.d_a7 ["_law_term"] (a3u K 41))(G_a1:FnOk P w K mg base CX0 1 t.a_a1 t.d_a1 ["_law_left","_law_many"] (a3b K))(G_c4:FnOk P w K mg base CX0 2 t.a_c4 t.d_c4 ["_law_left"] (a7d K))(G_c5:FnOk P w K mg base CX0 3 t.a_c5 t.d_c5 ["_law_left","_law_many","_law_words"] (a8i K))(n:Nat):FnOk P w K mg base CX0 (42+2*n) t.a_c1 t.d_c1 ["_law_left","_law_room","_law_names"] (a4g K n)/\FnOk P w K mg base CX0 (42+2*n+1) t.a_a6 t.d_a6 ["_law_left","_law_many","_law_room","_law_names"] (a4v K n):=by
 induction n with
 |zero=>
  have no:∀vs H Q E,(a4g K 0) vs H Q E->False:=λvs H Q E h=>by
   revert vs
   walk_at "in";intro h;obtain⟨_,_,_,_,_,_,_,_,h1,h2,_⟩:=h;have h2:_<=(0:Int):=h2;omega
  have h0:FnOk P w K mg base CX0 (42+2*0) t.a_c1 t.d_c1 ["_law_left","_law_room","_law_names"] (a4g K 0):=⟨λvs H Q E h=>(no vs H Q E h).elim,λA outer s H args us vs Q E _ _ _ _ h=>(no vs H Q E h).elim⟩;exact⟨h0,b2t T G_a7 0 h0⟩
 |succ n ih=>
  have h1:FnOk P w K mg base CX0 (42+2*(n+1)) t.a_c1 t.d_c1 ["_law_left","_law_room","_law_names"] (a4g K (n+1)):=c0c T G_a1 G_c4 G_c5 n ih.2;exact⟨h1,b2t T G_a7 (n+1) h1⟩
end
section
variable{P:Program}{w:World}{K:W.Frag}{mg:Str->Option Value}{base:Heap}{t:Ad}
theorem b9b(T:Txt K mg t)(G_a1:FnOk P w K mg base CX0 1 t.a_a1 t.d_a1 ["_law_left","_law_many"] (a3b K))(G_a6:FnOk P w K mg base CX0 93 t.a_a6 t.d_a6 ["_law_left","_law_many","_law_room","_law_names"] (a4v K 25)):FnOk P w K mg base CX0 94 t.a_b0 t.d_b0 ["_law_left","_law_room","_law_names"] (a7u K):=by
 exists T.F_b0.ok a4m,(a0e (a0p (i:=3) (hs:=a1n) a4m.nd rfl (by nofun) (a0m G_a1 hr.o rfl T.m_a1 T.F_a1.kp T.b_a1 .nil a0n (a0a (mv 0) (a0a a0d a0c)))) (a0e (a0p (i:=4) (hs:=a1n) a4m.nd rfl (by nofun) (a0m G_a1 hr.o rfl T.m_a1 T.F_a1.kp T.b_a1 .nil a0n (a0a (mv 0) (a0a a0d a0c)))) (a0e (a0y (a0s (ko_neEm K rfl (a3q hr)) (a0j (a0h K rfl) (mv 2) a0d (λ_ _=>rfl)) (a1x a0c) (a0t _)) (a0g (a0p (i:=4) (hs:=a4q) a4m.nd rfl (by nofun) (a0j (a0h K rfl) (a0j (a0h K rfl) (mv 2) a0d (λ_ _=>rfl)) (mv 3) (λ_ _=>rfl)))) a0v) (a0e (a0p (i:=4) (hs:=a1n) a4m.nd rfl (by nofun) (a0r (b3x rfl) rfl T.n_f7 Tj (a0a (mv 4) (a0a (a0u a3d (mv 1) a0d) a0c)))) (a0g (a0q (a0x (a0a a0k (a0a (a0j (a0h K rfl) (a0j (a0h K rfl) (mv 2) a0d (λ_ _=>rfl)) (mv 3) (λ_ _=>rfl)) (a0a (a0m G_a6 hr.o rfl T.m_a6 T.F_a6.kp T.b_a6 .nil a0n (a0a (mv 0) (a0a (mv 4) (a0a (a0u a3d (mv 1) a0d) (a0a (mv 2) a0c))))) a0c)))))))))),H,Q,E,hr,h
 rename_i p room wq;obtain⟨wp,np,kp,ws,xs,kz,wd,hl,h1,h2,q⟩:=h;ext;refine⟨hl,qd,qd,λat_ H1 a0 a1 f1=>?_⟩;have w1:=wd.lf hl f1;ext;refine⟨f1.l,qd,qd,λm0 H2 m00 m01 f2=>?_⟩;have w2:=w1.lf f1.l f2;have f12:=f1.trans f2;walk_at "gn"
 (with_reducible refine a3x (λσ' J=>∃m:Int,σ'=[some (.ref p),some (.int room),some (.ref wq),some (.int at_),some (.int m)]/\Same H2 J/\0<=m/\m<=4) (λσ' J hP=>?_) (λk=>?_))
 rotate_left
 ·ext
  exists a1r (SqL.of w2.l) (v:=.ref kp) rfl
  refine⟨Yk _,λpe hpe=>?_⟩;generalize e9:upd H2 pe _=J;have se:Same H2 J:=e9▸a0f hpe _;have ke:J pe=some (.lst []):=by rw[<-e9];exact a0b
  clear e9
  exists em_l (SqL.of (se _ _ w2.k)) (SqL.of ke)
  exists e
  ·walk_at "m";have hk4:kz.length=4:=by
    rcases wd.kl with z|z
    ·rw[z]at e;cases e
    ·exact z
   have w3:=w2.same se;ext
   exists a1r (SqL.of w3.l) (v:=.ref kp) rfl
   obtain⟨z,hz,hzm⟩:=d4s (ws:=kz) a0 (by rw[hk4];exact a1);refine a1r (SqL.of w3.k) hz ?_
   (with_reducible refine a5y (by assumption) ?_)
   exact k _ _ ⟨z,rfl,se,(wd.kb z hzm).1,(wd.kb z hzm).2⟩
  ·walk_at "m";exact k _ _ ⟨m0,rfl,se,m00,qo⟩
 obtain⟨m,rfl,sJ,mm0,mm4⟩:=hP;have w3:=w2.same sJ;have f3:=f12.same sJ;ext;obtain⟨m',hm,hm0,hm4,hmr⟩:∃m':Int,(if room-1<m then room-1 else m)=m'/\0<=m'/\m'<=4/\m'<=room-1:=⟨_,rfl,by split<;>omega⟩;rw[hm];ext
 exists a1r (SqL.of w3.l) (v:=.ref wp) rfl
 obtain⟨z,hz,hzw⟩:=c4m (ws:=ws) a0 (by rw[wd.wl];exact a1)
 exists a1r (SqL.of w3.w) hz
 refine⟨wp,np,kp,ws,xs,kz,w3,f3.l,qo,qo,qo,qo,qd,λr us H4 ts f4 kr d4 l4 z4 a4 v4 n4=>?_⟩;ext;refine⟨ln (by show 3<=100000;decide),λr2 hr2'=>?_⟩;have s5:=a0f hr2' (.tup [.str appS,.str z,.ref r]);exact q r2 _ z ts ((f3.trans f4).same s5) ⟨r2,r,us,rfl,SqT.of a0b,SqT.of (s5 _ _ kr),d4.mono s5,n4.to λa xs e=>s5 _ _ e⟩ hzw qo qo a4 v4
theorem c6w{d:Int}(h0:0<=d)(h1:d<4):∃m:Mk,atI ([Mk.eq,.asg,.lt,.le].map λm=>V.str m.sign) d=some (.str m.sign):=by
 rcases(by omega:d=0\/d=1\/d=2\/d=3)with rfl|rfl|rfl|rfl
 ·exact⟨.eq,rfl⟩
 ·exact⟨.asg,rfl⟩
 ·exact⟨.lt,rfl⟩
 ·exact⟨.le,rfl⟩
theorem c0d(T:Txt K mg t)(G_a1:FnOk P w K mg base CX0 1 t.a_a1 t.d_a1 ["_law_left","_law_many"] (a3b K))(G_b0:FnOk P w K mg base CX0 94 t.a_b0 t.d_b0 ["_law_left","_law_room","_law_names"] (a7u K))(G_a6:FnOk P w K mg base CX0 93 t.a_a6 t.d_a6 ["_law_left","_law_many","_law_room","_law_names"] (a4v K 25)):FnOk P w K mg base CX0 95 t.a_e4 t.d_e4 ["_law_left","_law_room","_law_names","_law_deeds"] (b2p K):=by
 exists T.F_e4.ok b1x,(a0e (a0p (i:=4) (hs:=a1n) b1x.nd rfl (by nofun) (a0m G_a1 hr.o rfl T.m_a1 T.F_a1.kp T.b_a1 .nil a0n (a0a (mv 0) (a0a a0d a0c)))) (a0e (a0y (a0s a1g (mv 4) a0d (a0t _)) (a0g (a0q (a0x (a0a a0k (a0a a0k (a0a (a0x a0c) a0c)))))) a0v) (a0e (a0y (PW.pt (b1n (a0s a1g (mv 4) a0d (a0t _)) (a9r (a0s a1g (a0m G_a1 hr.o rfl T.m_a1 T.F_a1.kp T.b_a1 .nil a0n (a0a (mv 0) (a0a a0d a0c))) a0d (a0t _))))) (a0g (a0q (a0x (a0a a0k (a0a a0k (a0a (a0x (a0a (a0m G_b0 hr.o rfl T.m_b0 T.F_b0.kp T.b_b0 .nil a0n (a0a (mv 0) (a0a (a0u a3d (mv 1) a0d) (a0a (mv 2) a0c)))) a0c)) a0c)))))) a0v) (a0e (a0y (PW.pt (a2x (a0s a1g (mv 4) a0d (a0t _)) (a3j (a0s a1g (mv 4) a0d (a0t _))))) (a0g (a0q (a0x (a0a a0k (a0a (a0j (a0h K rfl) (mv 3) (a0m G_a1 hr.o rfl T.m_a1 T.F_a1.kp T.b_a1 .nil a0n (a0a (mv 0) (a0a (a0r (a1k K rfl) rfl T.n_a3 Zq (a0a (mv 3) a0c)) a0c))) (λ_ _=>rfl)) (a0a (a0m G_a6 hr.o rfl T.m_a6 T.F_a6.kp T.b_a6 .nil a0n (a0a (mv 0) (a0a a0d (a0a (a0u a3d (mv 1) a0d) (a0a (mv 2) a0c))))) a0c)))))) a0v) (a0g (a0q (a0m G_b0 hr.o rfl T.m_b0 T.F_b0.kp T.b_b0 .nil a0n (a0a (mv 0) (a0a (mv 1) (a0a (mv 2) a0c)))))))))),H,Q,E,hr,h
 rename_i p room wq dp;obtain⟨wp,np,kp,ws,xs,kz,wd,hl,h1,h2,hdp,q⟩:=h;ext;refine⟨hl,qd,qd,λd H1 d0 d1 f1=>?_⟩;have w1:=wd.lf hl f1;ext
 exists e
 ·ext;refine⟨ln (by show 0<=100000;decide),λp3 hp3=>?_⟩;ext;refine⟨ln (by show 3<=100000;decide),λr hr=>?_⟩;have s3:=(a0f hp3 (.tup [])).trans (a0f hr (.tup [.str appS,.str a1u,.ref p3]));refine q r _ .keep (f1.same s3) (a9t (SqT.of a0b) ((a0f hr _).tup (SqT.of a0b)) .nil) ⟨trivial,by show 1+0<=30;decide,by show ar4L [];rw[ar4L];trivial,by show 0<=4;decide,λx hx=>by simp[Go.kids,a1b]at hx⟩
 walk_at "nx"
 (with_reducible refine a3x (λσ' J=>σ'=[some (.ref p),some (.int room),some (.ref wq),some (.ref dp),some (.int d)]/\Lf p H J) (λσ' J hP=>?_) (λk=>?_))
 rotate_left
 ·ext
  exists e
  ·ext;refine⟨f1.l,qd,qd,λd2 H2 _ _ f2=>?_⟩;ext
   exists e1
   ·ext;refine⟨wp,np,kp,ws,xs,kz,w1.lf f1.l f2,f2.l,qo,qo,λr H3 w ks f3 hd hw hz hn ha hv=>?_⟩;ext;refine⟨ln (by show 1<=100000;decide),λp3 hp3=>?_⟩;have s3:=a0f hp3 (.tup [.ref r]);have k3:(upd H3 p3 (.tup [.ref r])) p3=some (.tup [.ref r]):=a0b;generalize upd H3 p3 (.tup [.ref r])=H4 at s3 k3 ⊢;ext;refine⟨ln (by show 3<=100000;decide),λr2 hr2=>?_⟩;have s4:=s3.trans (a0f hr2 (.tup [.str appS,.str notS,.ref p3]));exact q r2 _ (.neg w ks) (((f1.trans f2).trans f3).same s4) (a9t (SqT.of a0b) (SqT.of ((a0f hr2 _) _ _ k3)) (.cons (hd.den.mono s4) .nil)) ⟨wd.wo w hw,by show 1+(1+Trm.sizeL ks+0)<=30;omega,ha,hn,hv⟩
   ·walk_at "m";exact k _ _ ⟨rfl,f1.trans f2⟩
  ·walk_at "iF";walk_at "m";exact k _ _ ⟨rfl,f1⟩
 obtain⟨rfl,fJ⟩:=hP;have wJ:=wd.lf hl fJ;have hdJ:=fJ.keep hl hdp qd
 (with_reducible refine a3x (λσ' J2=>σ'=[some (.ref p),some (.int room),some (.ref wq),some (.ref dp),some (.int d)]/\J2=J) (λσ' J2 hP=>?_) (λk=>?_))
 rotate_left
 ·ext
  exists e
  ·walk_at "iT";ext
   exists a4k (SqL.of hdJ)
   refine⟨fJ.l,qd,qd,λd2 H2 b0 b1 f2=>?_⟩;obtain⟨mk,hmk⟩:=c6w b0 b1
   exists a1r (SqL.of (f2.keep fJ.l hdJ qd)) hmk
   refine⟨wp,np,kp,ws,xs,kz,wJ.lf fJ.l f2,f2.l,qd,qd,qo,qo,qd,λr us H3 ts f3 kr d4 l4 z4 a4 v4 _=>?_⟩;ext;refine⟨ln (by show 3<=100000;decide),λr2 hr2=>?_⟩;have s5:=a0f hr2 (.tup [.str appS,.str mk.sign,.ref r]);obtain⟨a,b,rfl⟩:∃a b,ts=[a,b]:=by
    match ts,l4 with
    | [a,b],_=>exact⟨a,b,rfl⟩
   exact q r2 _ (.mark mk a b) (((fJ.trans f2).trans f3).same s5) (a9t (SqT.of a0b) (SqT.of (s5 _ _ kr)) (d4.mono s5)) ⟨trivial,by show 1+Trm.sizeL [a,b]<=30;omega,a4,by show 2<=4;decide,v4⟩
  ext
  exists e
  ·ext
   exists a4k (SqL.of hdJ)
   refine⟨fJ.l,qd,qd,λd2 H2 b0 b1 f2=>?_⟩;obtain⟨mk,hmk⟩:=c6w b0 b1
   exists a1r (SqL.of (f2.keep fJ.l hdJ qd)) hmk
   refine⟨wp,np,kp,ws,xs,kz,wJ.lf fJ.l f2,f2.l,qd,qd,qo,qo,qd,λr us H3 ts f3 kr d4 l4 z4 a4 v4 _=>?_⟩;ext;refine⟨ln (by show 3<=100000;decide),λr2 hr2=>?_⟩;have s5:=a0f hr2 (.tup [.str appS,.str mk.sign,.ref r]);obtain⟨a,b,rfl⟩:∃a b,ts=[a,b]:=by
    match ts,l4 with
    | [a,b],_=>exact⟨a,b,rfl⟩
   exact q r2 _ (.mark mk a b) (((fJ.trans f2).trans f3).same s5) (a9t (SqT.of a0b) (SqT.of (s5 _ _ kr)) (d4.mono s5)) ⟨trivial,by show 1+Trm.sizeL [a,b]<=30;omega,a4,by show 2<=4;decide,v4⟩
  ·walk_at "m";exact k _ _ ⟨rfl,rfl⟩
 obtain⟨rfl,rfl⟩:=hP;ext;refine⟨wp,np,kp,ws,xs,kz,wJ,fJ.l,qo,h2,λr H3 w ks f3 hd hw hz hn ha hv=>?_⟩;ext;exact q r _ (.nm w ks) (fJ.trans f3) hd.den ⟨wd.wo w hw,by show 1+Trm.sizeL ks<=30;omega,ha,hn,hv⟩
theorem c0e(T:Txt K mg t)(G_b0:FnOk P w K mg base CX0 94 t.a_b0 t.d_b0 ["_law_left","_law_room","_law_names"] (a7u K))(G_e4:FnOk P w K mg base CX0 95 t.a_e4 t.d_e4 ["_law_left","_law_room","_law_names","_law_deeds"] (b2p K))(G_a1:FnOk P w K mg base CX0 1 t.a_a1 t.d_a1 ["_law_left","_law_many"] (a3b K)):FnOk P w K mg base CX0 96 t.a_e2 t.d_e2 ["_law_cell","_law_most","_law_room","_law_names","_law_deeds"] (b2q K):=by
 exists T.F_e2.ok a6o,(a0e (a0p (i:=5) (hs:=a8s) a6o.nd rfl (by nofun) (a1x (a0a (mv 0) a0c))) (a0e (a0p (i:=6) (hs:=a1n) a6o.nd rfl (by nofun) (a0m G_b0 hr.o rfl T.m_b0 T.F_b0.kp T.b_b0 .nil a0n (a0a (mv 5) (a0a (mv 2) (a0a (mv 3) a0c))))) (a0e (b4w (i:=7) a6o.nd rfl (by nofun) rfl (a2o rfl T.n_e9 (a0a (a0m G_a1 hr.o rfl T.m_a1 T.F_a1.kp T.b_a1 .nil a0n (a0a (mv 5) (a0a (a0u (a1d K rfl) (mv 1) a0d) a0c))) a0c)) (a3p (a0o a6y) ["_law_cell","_law_most","_law_room","_law_names","_law_deeds","_law_left","_law_head_here","_law_goals"] ["_law_cell","_law_most","_law_room","_law_names","_law_deeds","_law_left","_law_head_here","_law_goals"] rfl rfl qk) (λ_ _ _ _ _=>a3o) (λ_ _ _ _ _=>(a0m G_e4 hr.o rfl T.m_e4 T.F_e4.kp T.b_e4 .nil a0n (a0a (mv 6) (a0a (mv 3) (a0a (mv 4) (a0a (mv 5) a0c))))))) (a0g (a0q (a0x (a0a (mv 6) (a0a (a2f (a8b K rfl) rfl T.n_f3 Wo (a0a (mv 7) a0c)) a0c)))))))),H,Q,E,hr,h
 rename_i c m room wq dp;obtain⟨wp,np,kp,ws,xs,kz,wd,hm0,hm6,h1,h2,hdp,q⟩:=h;ext;refine⟨ln (by show 1<=100000;decide),λp1 hp1=>?_⟩;have sp1:Same H (upd H p1 (.lst [.int c])):=a0f hp1 _;have kp1:(upd H p1 (.lst [.int c])) p1=some (.lst [.int c]):=a0b;generalize upd H p1 (.lst [.int c])=H1 at sp1 kp1 ⊢;ext;have w1:=wd.same sp1;refine⟨wp,np,kp,ws,xs,kz,w1,⟨c,kp1⟩,qo,h2,λrh H2 w ks f2 hd hw hz hn ha hv=>?_⟩;ext;have dpH:But p1 H2 H2:=λ_ _ _ e=>e
 have hh:=hd;refine⟨f2.l,qo,qo,λd2 H3 b0 b1 f3=>?_⟩;have w3:=(w1.lf ⟨c,kp1⟩ f2).lf f2.l f3;have fA:=f2.trans f3;have hdp3:=fA.keep ⟨c,kp1⟩ (sp1 _ _ hdp) qd;have hd3:=hd.to (f3.sq f2.l) (f3.tup f2.l);ext;refine⟨d2,rfl,qo,qo,λD hD=>?_⟩;have nD:=L1.ne f3.l hD;refine a2z (a1q 0 d2.toNat) (λi ys J=>Lf p1 H3 J/\(∃gs:List Go,DenL K J ys (Trm.dataL (trms gs))/\gs.length=i/\∀g∈gs,g.fit xs)/\J D=some (.lst ys)) (ln qo) ⟨Lf.own (.of (Same.refl _) f3.l) hD nD,⟨[],.nil,rfl,λg hg=>by simp at hg⟩,a0b⟩ (λ_ _ _ _=>trivial) (λi ys J Q' hi' hl' hP k=>?_) (λys J hl' hP=>?_)
 ·obtain⟨g1,⟨gs,g2,g4,g5⟩,g3⟩:=hP;ext;refine⟨wp,np,kp,ws,xs,kz,w3.lf f3.l g1,g1.l,h1,h2,g1.keep f3.l hdp3 qd,λr H9 g f9 hd9 hg=>?_⟩;refine k _ _ (f9.b _ _ (Ne.symm nD) g3) ⟨(g1.trans f9).own hD nD,⟨gs++[g],?_,by rw[Zc,g4];rfl,λg' hg'=>(Zm.mp hg').elim (g5 g') (λz=>by rw[Zr.mp z];exact hg)⟩,a0b⟩;have k9:=f9.b _ _ (Ne.symm nD) g3;rw[trms,Zn,Trm.dataL_map,Zn,<-Trm.dataL_map];exact((f9.denL g1.l g2).append (.cons hd9 .nil)).lst k9
 obtain⟨g1,⟨gs,g2,g4,g5⟩,g3⟩:=hP;ext;refine b1u (SqL.of g3) λb hb=>?_
 have s4:=a0f hb (.tup ys);have k4:(upd J b (.tup ys)) b=some (.tup ys):=a0b;generalize upd J b (.tup ys)=J2 at s4 k4 ⊢;ext;refine⟨ln (by show 2<=100000;decide),λr hr=>?_⟩;have s5:=s4.trans (a0f hr (.tup [.ref rh,.ref b]));have hp1':H p1=none:=hp1;refine q r _ ⟨w,ks,gs⟩ ((a4f sp1 (fA.trans g1).b hp1').trans s5) ⟨r,.ref rh,b,ys,rfl,SqT.of a0b,(hd3.to (g1.sq f3.l) (g1.tup f3.l)).mono s5,SqT.of ((a0f hr _) _ _ k4),g2.mono s5⟩ ⟨by show gs.length<=6;omega,g5,by show Trm.sizeL ks<=30;omega,hn,ha,hv⟩
end
section
variable{P:Program}{w:World}{K:W.Frag}{mg:Str->Option Value}{base:Heap}{t:Ad}
theorem c8l(T:Txt K mg t)(G_d8:FnOk P w K mg base CX0 4 t.a_d8 t.d_d8 ["_law_script","_law_kinds"] (b1b K))(G_a5:FnOk P w K mg base CX0 1 t.a_a5 t.d_a5 ["_law_script","_law_k"] (a5w K))(G_b6:FnOk P w K mg base CX0 2 t.a_b6 t.d_b6 ["_law_script","_law_k"] (b6y K))(G_a1:FnOk P w K mg base CX0 1 t.a_a1 t.d_a1 ["_law_left","_law_many"] (a3b K))(G_e2:FnOk P w K mg base CX0 96 t.a_e2 t.d_e2 ["_law_cell","_law_most","_law_room","_law_names","_law_deeds"] (b2q K))(G_b1:FnOk P w K mg base CX0 3 t.a_b1 t.d_b1 ["_law_script","_law_k"] (b3j K)):FnOk P w K mg base CX0 97 t.a_d0 t.d_d0 ["_law_script"] (b8v K):=by
 exists T.F_d0.ok a2e,(a0e (a0p (i:=1) (hs:=a8s) a2e.nd rfl (by nofun) (a1x a0c)) (a0e (a0p (i:=2) (hs:=a1n) a2e.nd rfl (by nofun) (a0r (b3x rfl) rfl T.n_f7 Tj (a0a a0d (a0a (a0r (a1k K rfl) rfl T.n_a3 Zq (a0a (mv 0) a0c)) a0c)))) (a0e (a0p (i:=3) a2e.nd rfl (by nofun) a0d) (a0e (a0p (i:=4) a2e.nd rfl (by nofun) a0d) (a0e (a0y (a0s a1g (a0u b0d (a0m G_a5 hr.o rfl T.m_a5 T.F_a5.kp T.b_a5 .nil a0n (a0a (mv 0) (a0a a0d a0c))) a0d) a0d (a0t _)) (a0e (a0p (i:=5) (hs:=a8s) a2e.nd rfl (by nofun) (a1x (a0a (a0m G_b6 hr.o rfl T.m_b6 T.F_b6.kp T.b_b6 .nil a0n (a0a (mv 0) (a0a a0d a0c))) a0c))) (a0e (b4w (i:=1) a2e.nd rfl (by nofun) rfl (a2o rfl T.n_e9 (a0a a0d a0c)) (a3p (a0o b0x) ["_law_script","_law_kinds","_law_last","_law_facts","_law_room","_law_left","_law_many","_law_names","_law_deeds","_law_rules_here","_law_k"] ["_law_script","_law_kinds","_law_last","_law_facts","_law_room","_law_left","_law_many","_law_names","_law_deeds","_law_rules_here","%_law_k"] rfl rfl qk) (λ_ _ _ _ _=>a3o) (λ_ _ _ _ _=>(a0m G_a1 hr.o rfl T.m_a1 T.F_a1.kp T.b_a1 .nil a0n (a0a (mv 6) (a0a a0d a0c))))) (a0e (a0p (i:=6) (hs:=a4q) a2e.nd rfl (by nofun) (a0j (a0h K rfl) (a1x (a0a (a0m G_a1 hr.o rfl T.m_a1 T.F_a1.kp T.b_a1 .nil a0n (a0a (mv 5) (a0a a0d a0c))) (a0a (a0m G_a1 hr.o rfl T.m_a1 T.F_a1.kp T.b_a1 .nil a0n (a0a (mv 5) (a0a a0d a0c))) a0c))) (a0u c5s (a0m G_a1 hr.o rfl T.m_a1 T.F_a1.kp T.b_a1 .nil a0n (a0a (mv 5) (a0a a0d a0c))) a0d) (λ_ _=>rfl))) (a0e (a0p (i:=2) (hs:=a3l) a2e.nd rfl (by nofun) (a0u (a1d K rfl) a0d (mv 6))) (a0e (a0p (i:=3) (hs:=a4q) a2e.nd rfl (by nofun) (a0j (a0h K rfl) (a1x (a0a a0d (a0a a0d a0c))) (a2f c3d rfl T.n_g0 Sn (a0a (a2k mo_gt (mv 6) a0d (a0t _)) a0c)) (λ_ _=>rfl))) (a0g (a0p (i:=4) a2e.nd rfl (by nofun) a0d))))))) a0v) (a0e (a0p (i:=7) (hs:=a1n) a2e.nd rfl (by nofun) (a0m G_d8 hr.o rfl T.m_d8 T.F_d8.kp T.b_d8 .nil a0n (a0a (mv 0) (a0a (mv 1) a0c)))) (a0e (a0p (i:=8) (hs:=a8s) a2e.nd rfl (by nofun) (a1x (a0a a0k (a0a a0k (a0a a0k (a0a a0k a0c)))))) (a0e (a0p (i:=9) (hs:=a8s) a2e.nd rfl (by nofun) (a1x a0c)) (a0e (a1p Zv rfl (a8o rfl T.n_e9 (a0a a0d (a0a (mv 2) a0c))) (a1a (i:=10) a2e.nd rfl (by nofun)) (a0g (a1f (a6f K rfl Yz Xp X1 a5s (mv 9) (a0a (a0m G_e2 hr.o rfl T.m_e2 T.F_e2.kp T.b_e2 .nil a0n (a0a (a0m G_b1 hr.o rfl T.m_b1 T.F_b1.kp T.b_b1 .nil a0n (a0a (mv 0) (a0a (mv 10) a0c))) (a0a (a0u a8q a0d (a2f c3d rfl T.n_g0 Sn (a0a (a2k b4y (mv 10) (mv 3) (a0t _)) a0c))) (a0a (mv 4) (a0a (mv 7) (a0a (mv 8) a0c)))))) a0c))))) (a0g (a0q (mv 9)))))))))))),H,Q,E,hr,h
 rename_i a;obtain⟨ns,hS,hn,q⟩:=h;ext;refine⟨ln (by show 0<=100000;decide),λpk hpk=>?_⟩;have sk:Same H (upd H pk (.lst [])):=a0f hpk _;have kk:(upd H pk (.lst [])) pk=some (.lst (([]:List Int).map V.int)):=a0b;generalize upd H pk (.lst [])=H1 at sk kk ⊢;ext;refine a4k (sk.seq hS) ?_;obtain⟨l0,hl0,hl1,hl2⟩:∃l0:Int,(if((ns.map V.int).length:Int)<43 then((ns.map V.int).length:Int)else 43)=l0/\0<=l0/\l0<=43:=⟨_,rfl,by split<;>omega⟩;walk_at "m";rw[hl0]
 (with_reducible refine d0a ?_)
 walk_at "m"
 (with_reducible refine d0a ?_)
 walk_at "m"
 (with_reducible refine a3x (λσ' J=>∃(kp:Addr)(kz:List Int)(l f room:Int)(o5 o6:Option V),σ'=[some (.ref a),some (.ref kp),some (.int l),some (.int f),some (.int room),o5,o6,none,none,none,none]/\Same H J/\J kp=some (.lst (kz.map V.int))/\(kz=[]\/kz.length=4)/\(∀z∈kz,0<=z/\z<=4)/\0<=l/\l<=43/\3<=room/\room<=24) (λσ' J hP=>?_) (λk=>?_))
 rotate_left
 ·ext;refine⟨ns,sk.seq hS,qd,qd,λc0=>?_⟩;ext
  exists e
  ·ext;refine⟨ns,sk.seq hS,qd,qd,λc1 A1 s1=>?_⟩;ext;refine⟨ln (by show 1<=100000;decide),λpl hpl=>?_⟩;have sl:=s1.trans (a0f hpl (.lst [.int c1]));have ll:L1 (upd A1 pl (.lst [.int c1])) pl:=⟨c1,a0b⟩;generalize upd A1 pl (.lst [.int c1])=A2 at sl ll ⊢;ext;refine⟨4,rfl,qd,qd,λD hD=>?_⟩;have nD:=L1.ne ll hD;refine a2z (a1q 0 (4:Int).toNat) (λi ys J=>Lf pl A2 J/\(∃kz:List Int,ys=kz.map V.int/\kz.length=i/\∀z∈kz,0<=z/\z<=4)/\J D=some (.lst ys)) (ln qd) ⟨Lf.own (.of (Same.refl _) ll) hD nD,⟨[],rfl,rfl,λz hz=>by simp at hz⟩,a0b⟩ (λ_ _ _ _=>trivial) (λi ys J Q' hi' hl' hP k=>?_) (λys J hl' hP=>?_)
   ·obtain⟨g1,⟨kz,g2,g4,g5⟩,g3⟩:=hP;ext;refine⟨g1.l,qd,qd,λz H9 z0 z1 f9=>?_⟩;exact k _ _ (f9.b _ _ (Ne.symm nD) g3) ⟨(g1.trans f9).own hD nD,⟨kz++[z],by rw[g2,Zn];rfl,by rw[Zc,g4];rfl,λw hw=>(Zm.mp hw).elim (g5 w) (λq=>by rw[Zr.mp q];omega)⟩,a0b⟩
   obtain⟨g1,⟨kz,g2,g4,g5⟩,g3⟩:=hP;have kD:J D=some (.lst (kz.map V.int)):=g2▸g3;have hD0:H1 D=none:=a2b sl hD;have hpl0:H1 pl=none:=a2b s1 hpl;ext;refine⟨g1.l,qd,qd,λm1 B1 m10 m11 f1=>?_⟩;ext;refine⟨f1.l,qd,qd,λm2 B2 m20 m21 f2=>?_⟩;ext;refine⟨ln (by show 2<=100000;decide),λp5 hp5=>?_⟩;have s5:=a0f hp5 (.lst [.int m1,.int m2]);have k5:(upd B2 p5 (.lst [.int m1,.int m2])) p5=some (.lst [.int m1,.int m2]):=a0b;have f3:=(f1.trans f2).same s5;generalize upd B2 p5 (.lst [.int m1,.int m2])=B3 at s5 k5 f3 ⊢;ext;refine⟨f3.l,qd,qd,λm3 B4 m30 m31 f4=>?_⟩;ext;obtain⟨many,hmany,hmn0,hmn1⟩:∃m:Int,atI [V.int m1,V.int m2] (m3/3)=some (.int m)/\0<=m/\m<=40:=by
    rcases(by omega:m3/3=0\/m3/3=1)with z|z<;>rw[z]
    ·exact⟨m1,rfl,qo,qo⟩
    ·exact⟨m2,rfl,qo,qo⟩
   refine a1r (SqL.of (f4.keep f3.l k5 (by show 2≠1;decide))) hmany ?_;have f6:=((g1.trans f3).trans f4);have sB:Same H1 B4:=a4f sl f6.b hpl0;have kB:B4 D=some (.lst (kz.map V.int)):=(f3.trans f4).b _ _ (Ne.symm nD) kD;ext;refine⟨ln (by show 2<=100000;decide),λp7 hp7=>?_⟩;have s7:=a0f hp7 (.lst [.int 43,.int 9]);ext;obtain⟨fv,hfv⟩:∃f:Int,atI [V.int 43,V.int 9] (if decide ((8:Int)<many)=true then 1 else 0)=some (.int f):=by
    split
    ·exact⟨9,rfl⟩
    ·exact⟨43,rfl⟩
   exists a1r (SqL.of a0b) hfv
   exact k _ _ ⟨D,kz,3+many,fv,10,some (.ref pl),some (.int many),rfl,sk.trans (sB.trans s7),s7 _ _ kB,.inr g4,g5,qo,qo,qd,qd⟩
  ·walk_at "m";exact k _ _ ⟨pk,[],l0,15,24,none,none,rfl,sk,kk,.inl rfl,λz hz=>by simp at hz,qo,qo,qd,qd⟩
 obtain⟨kp,kz,l,f,room,o5,o6,rfl,sJ,kJ,hk4,hkb,hl3,hl4,hr1,hr2⟩:=hP;ext;refine⟨ns,kz,sJ.seq hS,kJ,hk4,hkb,λq0 wp np ws xs A2 s2 wd=>?_⟩;have t2:=sJ.trans s2;ext;refine⟨ln (by show 4<=100000;decide),λdp hdp=>?_⟩;generalize e9:upd A2 dp _=A3;have s3:Same A2 A3:=e9▸a0f hdp _;have k3:A3 dp=some (.lst ([Mk.eq,.asg,.lt,.le].map λm=>V.str m.sign)):=by rw[<-e9];exact a0b
 clear e9;ext;refine⟨ln (by show 0<=100000;decide),λpr hpr=>?_⟩;have s4:Same A3 (upd A3 pr (.lst [])):=a0f hpr _;have k4:(upd A3 pr (.lst [])) pr=some (.lst []):=a0b;have t3:=t2.trans s3;have hpr0:H pr=none:=a2b t3 hpr;have nd:dp≠pr:=a1m k3 hpr;generalize upd A3 pr (.lst [])=A4 at s4 k4 ⊢;have t4:=t3.trans s4;have w4:=(wd.same s3).same s4;have d4:=s4 _ _ k3;ext;refine⟨3,l,rfl,⟨qd,qd,qo,qo⟩,?_⟩;refine a1t (a1q 3 (l-3).toNat) (λi σ' Z=>∃(oa:Option V)(us:List V)(rs:List Ru),σ'=[some (.ref a),some (.ref kp),some (.int l),some (.int f),some (.int room),o5,o6,some (.ref q0),some (.ref dp),some (.ref pr),oa]/\Same A3 Z/\Z pr=some (.lst us)/\Paired (RuA K Z) us rs/\rs.length=i/\∀r∈rs,RuF xs r) ⟨none,[],[],rfl,s4,k4,.nil,rfl,λr hr=>by simp at hr⟩ (λ_ _ _ _=>trivial) (λi σ' Z hi hP=>?_) (λσ' Z hP=>?_)
 ·obtain⟨oa,us,rs,rfl,sZ,kZ,dZ,lZ,oZ⟩:=hP;have tZ:=t3.trans sZ;have lu:=Yo dZ;ext;refine⟨.inl ⟨rfl,_,SqL.of kZ⟩,?_⟩;ext;refine⟨ns,tZ.seq hS,qo,qo,λc Z1 z1=>?_⟩;ext;obtain⟨x,hx,hx0,hx1⟩:∃x:Int,6*(if decide ((3:Int)+(i:Int)<f)=true then(1:Int)else 0)=x/\0<=x/\x<=6:=⟨_,rfl,by split<;>decide,by split<;>decide⟩;have hmul:IntMulOk 6 (if decide ((3:Int)+(i:Int)<f)=true then(1:Int)else 0):=a9k qd;refine a7o hmul ?_;rw[hx];ext;have wZ:=(wd.same s3).same (sZ.trans z1);refine⟨wp,np,kp,ws,xs,kz,wZ,hx0,hx1,hr1,qo,(sZ.trans z1) _ _ k3,λrp Z2 r z2 dr fr=>?_⟩;ext;have kZ2:=(z1.trans z2) _ _ kZ;refine a5v kZ2 (ln1 qo) ?_;refine⟨_,us++[.ref rp],rs++[r],rfl,a1c (sZ.trans (z1.trans z2)) hpr,a0b,?_,by rw[Zc,lZ];rfl,λr' hr'=>(Zm.mp hr').elim (oZ r') (λz=>by rw[Zr.mp z];exact fr)⟩;have kT:KT K Z2 (upd Z2 pr (.lst (us++[.ref rp]))):=.upd kZ2 (λ_ z=>by cases z) (λ_ _ z=>by cases z);have kP:∀a xs,Z2 a=some (.tup xs)->(upd Z2 pr (.lst (us++[.ref rp]))) a=some (.tup xs):=λa xs e=>by rw[a0l (a1w e kZ2 (λz=>by cases z))];exact e
  exact Vi (Paired.mapP dZ λ_ _ z=>(z.mono (z1.trans z2)).to kT kP) (dr.to kT kP)
 obtain⟨oa,us,rs,rfl,sZ,kZ,dZ,lZ,oZ⟩:=hP;ext;exact q pr us rs xs _ (t3.trans sZ) hpr0 kZ dZ oZ wd.xl qo
end
section
variable{P:Program}{w:World}{K:W.Frag}{mg:Str->Option Value}{base:Heap}{t:Ad}
theorem c8m(T:Txt K mg t)  :FnOk P w K mg base CX0 1 t.a_c3 t.d_c3 ["_law_terms"] (b8w K):=by
 exists T.F_c3.ok a9m,(a0e (a0p (i:=1) a9m.nd rfl (by nofun) a7x) (a0e (b4w (i:=2) a9m.nd rfl (by nofun) rfl (kpi_rev K rfl rfl T.n_g1 (a0a (mv 0) a0c)) (a3p (a0o b0t) ["_law_terms","_law_slots_here","_law_due","_law_term"] ["_law_terms","_law_slots_here","_law_due","%_law_term"] rfl rfl qk) (λ_ _ _ _ _=>a3o) (λ_ _ _ _ _=>(mv 0))) (a0e (b2v Zv (a0s mo_gt (a0r (a1k K rfl) rfl T.n_a3 Zq (a0a (mv 2) a0c)) a0d (a0t _)) (a0e (a0p (i:=3) (hs:=a1n) a9m.nd rfl (by nofun) (b7w K rfl Yz Td F.type_list_pop c9z (mv 2))) (a0e (a0y (a0s a1g (a0j (a0h K rfl) (mv 3) a0d (λ_ _=>rfl)) a0k (a0t _)) (a0g (a3e (a1h hr) (mv 1) (a0j (a0h K rfl) (mv 3) a0d (λ_ _=>rfl)) (c2t (a1h hr) (mv 1) (a0j (a0h K rfl) (mv 3) a0d (λ_ _=>rfl)) (a0r a5r rfl T.n_a3 Zq (a0a (mv 1) a0c)) ⟨rfl,rfl,rfl,rfl⟩) rfl)) a0v) (a0g (a0y (a0s a1g (a0j (a0h K rfl) (mv 3) a0d (λ_ _=>rfl)) a0k (a0t _)) (a0g (a1f (a6f K rfl Yz Vu Rl (c0q K rfl) (mv 2) (a0a (b3a K rfl rfl rfl T.n_f1 rfl T.n_g1 (a0a (a0j (a0h K rfl) (mv 3) a0d (λ_ _=>rfl)) a0c)) a0c)))) a0v))))) (a0g (a0q (mv 1)))))),H,Q,E,hr,h
 rename_i a;obtain⟨us,ts,hS,hd,hz,q⟩:=h;have hul:=a2l hd;have tl:=Trm.len_le ts;ext;intro pd hpd;have s1:=a0f hpd (.dK []);have k1:(upd H pd (.dK [])) pd=some (.dK []):=a0b;generalize upd H pd (.dK [])=H1 at s1 k1 ⊢;ext;refine⟨a,us,rfl,s1.seq hS,λpt hpt=>?_⟩;refine a2z (row_rev (xs:=us)) (λi ys J=>Same H1 J/\ys=us.reverse.take i/\J pt=some (.lst ys)) (ln qo) ⟨a0f hpt _,rfl,a0b⟩ (λi ys J hP=>hP.1.seq (s1.seq hS)) (λi ys J Q' hi hl' hP kk=>?_) (λys H2 hl' hP=>?_)
 ·obtain⟨g1,g2,g3⟩:=hP;ext;refine kk _ _ g3 ⟨a1c g1 hpt,?_,a0b⟩;have hr:i<us.reverse.length:=by rw[Y2];exact hi
  rw[g2,take_succ' hr,List.getElem_reverse,getD_at qo]
 obtain⟨s2,g2,k2⟩:=hP;rw[Zy (by rw[Y2];exact Zg _)]at g2;subst g2;have hpt0:H pt=none:=a2b s1 hpt;have hne:pd≠pt:=λz=>by rw[z,hpt]at k1;cases k1
 have d2:DenL K H2 us.reverse (Trm.dataL ts.reverse):=by rw[<-b0z];exact My.DenL.rev (hd.mono (s1.trans s2))
 ext;refine b0q (λn σ' H'=>∃(ws:List V)(st:List Trm)(acc:List Str)(o1:Option V),σ'=[some (.ref a),some (.ref pd),some (.ref pt),o1]/\H' pt=some (.lst ws)/\DenL K H' ws (Trm.dataL st)/\H' pd=some (.dK (encJ 0 acc))/\acc.length+Trm.sizeL st<=1000/\ordL st.reverse acc=ordL ts []/\n=Trm.sizeL st/\Same H H'/\acc.Nodup) (Trm.sizeL ts.reverse) ⟨us.reverse,ts.reverse,[],none,rfl,k2,d2,s2 _ _ k1,by rw[a8v];simp;omega,by rw[Vk],rfl,s1.trans s2,qz⟩ (λn σ' H' R hP kT kF=>?_);obtain⟨ws,st,acc,o1,rfl,h1,h2,h3,h4,h5,h6,h7,h8⟩:=hP;ext
 exists a4k (SqL.of h1)
 rcases nil_or_snoc' st with rfl|⟨st',t1,rfl⟩
 ·have e:ws=[]:=by have:=a2l h2;simpa using this
  subst e
  exists kF H'
  rw[List.reverse_nil,ordL]at h5;rw[h5]at h3;exact q pd H' h7 h3
 ·rw[a7j]at h2;obtain⟨ws',w,rfl,g1,g2⟩:=DenL.snoc h2;have hwl:=a2l g1;have hsl:=Trm.len_le st';have e:decide (0<((ws'++[w]).length:Int))=true:=Yg (by rw[Zc,Z9];omega);rw[e];have hsz:=Trm.sizeL_app st' [t1];have hs1:Trm.sizeL [t1]=t1.size:=by simp[Trm.sizeL]
  have tpos:=t1.size_pos;rw[Vm,T9,Se,ordL]at h5;refine kT H' (λD' e1 e2 hnx hct=>?_);ext;refine⟨.inl ⟨rfl,_,SqL.of h1⟩,?_⟩
  exists d0g h1
  have f1:DenL K (upd H' pt (.lst ws')) ws' (Trm.dataL st'):=g1.lst h1;have f2:Den K (upd H' pt (.lst ws')) w t1.data:=g2.lst h1;have f3:Same H (upd H' pt (.lst ws')):=a1c h7 hpt0;have f4:(upd H' pt (.lst ws')) pt=some (.lst ws'):=a0b;have f5:(upd H' pt (.lst ws')) pd=some (.dK (encJ 0 acc)):=by rw[a0l hne];exact h3
  generalize upd H' pt (.lst ws')=J at f1 f2 f3 f4 f5 ⊢;cases t1 with
  |any x=>
   obtain⟨b,rfl,hb⟩:=a6h f2
   exists a0i hb (v:=.str anyS) rfl
   rw[Zz,q3];walk_at "D";refine⟨pd,rfl,.inl ⟨_,.inl f5⟩,?_⟩;ext
   exists a0i hb (v:=.str x) rfl
   refine⟨pd,_,rfl,f5,?_⟩;rw[a3a];refine⟨_,DGet.k (k:=Sum.inr x) f5,?_⟩;have hput:putK (encJ 0 acc) (Sum.inr x) ((valV (encJ 0 acc) (Sum.inr x)).getD (.int (acc.length:Int)))=encJ 0 (ord (.any x) acc):=by
    rw[ord]
    by_cases hx:x∈acc
    ·rw[if_pos hx,valJ 0 hx,Ye];exact d1q h8 hx
    ·rw[if_neg hx,b9w 0 hx];exact c3x hx
   generalize (valV (encJ 0 acc) (Sum.inr x)).getD (.int (acc.length:Int))=vv at hput ⊢;ext
   exists a0i hb (v:=.str x) rfl
   refine⟨pd,_,rfl,DPut.k (k:=Sum.inr x) f5 (by rw[a3a,Yb];omega),?_⟩;rw[hput];have bb:But pd J (upd J pd (.dK (encJ 0 (ord (.any x) acc)))):=a1z;have ol:=b5c (.any x) acc;have tb:=(a4h (K:=K) bb f5) _ _ hb;ext
   exists a0i tb (v:=.str anyS) rfl
   refine iteB (λe=>absurd e qk) (λe=>?_);ext;exact hnx _ _ (Trm.sizeL st') qo ⟨ws',st',ord (.any x) acc,_,rfl,bb _ _ hne.symm f4,f1.monoT (a4h bb f5),a0b,qo,h5,rfl,a4f f3 bb hpd,c6h _ _ h8⟩
  |num m=>
   obtain⟨b,rfl,hb⟩:=a6g f2
   exists a0i hb (v:=.str numS) rfl
   rw[Zz,q1];walk_at "C"
   exists a0i hb (v:=.str numS) rfl
   refine iteB (λe=>absurd e qk) (λe=>?_);ext;rw[ord]at h5;exact hnx _ _ (Trm.sizeL st') qo ⟨ws',st',acc,_,rfl,f4,f1,f5,qo,h5,rfl,f3,h8⟩
  |app sg ks=>
   obtain⟨b,c,ku,rfl,hb,hc,hk⟩:=a3f f2;have hkl:=a2l hk;have kl:=Trm.len_le ks;simp only[Trm.size]at hs1 tpos
   exists a0i hb (v:=.str appS) rfl
   rw[Zz,q2];walk_at "C"
   exists a0i hb (v:=.str appS) rfl
   refine iteB (λe=>?_) (λe=>absurd e qk);ext;refine⟨.inl ⟨rfl,_,SqL.of f4⟩,?_⟩;ext
   exists a0i hb (v:=.ref c) rfl
   refine⟨c,ku,rfl,.inr hc,qo,λpr hpr=>?_⟩;have s5:=a0f hpr (.lst ku.reverse);have k5:(upd J pr (.lst ku.reverse)) pr=some (.lst ku.reverse):=a0b;generalize upd J pr (.lst ku.reverse)=J5 at s5 k5 ⊢;ext
   exists d0f (s5 _ _ f4) k5 (ln (by rw[Y2];omega))
   rw[ord]at h5;have sz:=Trm.sizeL_app st' ks.reverse;rw[a8v]at sz;have k6:=s5 _ _ f4;refine hnx _ _ (Trm.sizeL (st'++ks.reverse)) qo ⟨ws'++ku.reverse,st'++ks.reverse,acc,_,rfl,a0b,?_,?_,qo,?_,rfl,a1c (f3.trans s5) hpt0,h8⟩
   ·rw[a7j,<-b0z];exact((f1.mono s5).append (My.DenL.rev (hk.mono s5))).lst k6
   ·rw[a0l hne];exact s5 _ _ f5
   ·rw[Vm,Vk,b0j];exact h5
theorem c1s(T:Txt K mg t)  (n:Nat)(G_a8:FnOk P w K mg base CX0 (n+2) t.a_a8 t.d_a8 ["_law_term","_law_slots_here"] (a5g K n)):FnOk P w K mg base CX0 (n+2+1) t.a_a8 t.d_a8 ["_law_term","_law_slots_here"] (a5g K (n+1)):=by
 exists T.F_a8.ok (k:=n+2) c1p,(a0e (a0y (a0s a1g (a0j (a0h K rfl) (mv 0) a0d (λ_ _=>rfl)) a0k (a0t _)) (a0g (a0q (a0x (a0a a0k (a0a (a2p (a1h hr) (mv 1) (a0j (a0h K rfl) (mv 0) a0d (λ_ _=>rfl)) (λ_ _=>rfl)) a0c))))) a0v) (a0e (a0y (a0s a1g (a0j (a0h K rfl) (mv 0) a0d (λ_ _=>rfl)) a0k (a0t _)) (a0g (a0q (mv 0))) a0v) (a0g (a0q (a0x (a0a a0k (a0a (a0j (a0h K rfl) (mv 0) a0d (λ_ _=>rfl)) (a0a (a2f (a8b K rfl) rfl T.n_f3 Wo (a0a (a5h rfl (b9o K rfl (a0j (a0h K rfl) (mv 0) a0d (λ_ _=>rfl))) (a3p (a0o a7t) ["_law_term","_law_slots_here"] ["_law_term","_law_slots_here"] rfl rfl qk) (λ_ _ _ _ _=>a3o) (λ_ _ _ _ _=>(a0m G_a8 hr.o rfl T.m_a8 T.F_a8.kp T.b_a8 .nil a0n (a0a (mv 0) (a0a (mv 2) a0c))))) a0c)) a0c)))))))),H,Q,E,hr,h
 rename_i v d;obtain⟨t0,u,hd,hD,hv,hz,hn,q⟩:=h;ext;cases t0 with
 |any x=>
  obtain⟨a,rfl,hs⟩:=a6h hd;have hx:x∈u:=hv x (by simp[vars])
  exists a0i hs (v:=.str anyS) rfl
  rw[Zz,q3];walk_at "D"
  exists a0i hs (v:=.str x) rfl
  have dg:DGet H d (.str x) (valV (encJ 0 u) (Sum.inr x)):=DGet.k (k:=Sum.inr x) hD;rw[valJ 0 hx,Ye]at dg;refine⟨d,_,rfl,dg,?_⟩;ext;refine⟨ln (by show 2<=100000;decide),λp hp=>?_⟩;exact q _ _ (a0f hp _) (by rw[byD];exact .tup (SqT.of a0b) (.cons (.str _) (.cons (.int _) .nil)))
 |num m=>
  obtain⟨a,rfl,hs⟩:=a6g hd
  exists a0i hs (v:=.str numS) rfl
  rw[Zz,q1];walk_at "C"
  exists a0i hs (v:=.str numS) rfl
  refine iteB (λe=>?_) (λe=>absurd e qk);ext;exact q _ H (Same.refl _) (by rw[byD];exact .tup hs (.cons (.str _) (.cons (.int _) .nil)))
 |app sg ks=>
  obtain⟨a,b,us,rfl,hs,hb,hk⟩:=a3f hd;have hkl:=a2l hk;simp only[Trm.size]at hz
  exists a0i hs (v:=.str appS) rfl
  rw[Zz,q2];walk_at "C"
  exists a0i hs (v:=.str appS) rfl
  refine iteB (λe=>absurd e qk) (λe=>?_);ext
  exists a0i hs (v:=.str sg) rfl
  refine a0i hs (v:=.ref b) rfl ?_;refine⟨b,rfl,⟨_,hb⟩,λD hD'=>?_⟩;have zl:=Trm.len_le ks;refine a2z (b4x (xs:=us)) (λi ys J=>Same H J/\J D=some (.lst ys)/\DenL K J ys (byL (ix u) (ks.take i))) (ln qo) ⟨a0f hD' _,a0b,by rw[Xb,byL];exact .nil⟩ (λi ys J hP=>hP.1.tup hb) (λi ys J Q' hi hl' hP kk=>?_) (λys J hl' hP=>?_)
  ·obtain⟨g1,g2,g3⟩:=hP;have hki:i<ks.length:=by omega
   obtain⟨hu,dk⟩:=a9w hk hki;have z1:=a7b (Za hki);ext;rw[getD_at hu];refine⟨ks[i],u,dk.mono g1,g1 _ _ hD,λx hx=>hv x (by rw[vars];exact b2g hki x hx),qo,qo,λx J2 s2 dx=>?_⟩;have g6:J2 D=some (.lst ys):=s2 _ _ g2;refine kk _ _ g6 ⟨a1c (g1.trans s2) hD',a0b,?_⟩;rw[take_succ' hki,a6i,Zn,<-a6i];exact((g3.mono s2).append (.cons dx .nil)).lst g6
  obtain⟨g1,g2,g3⟩:=hP;rw[Zy qo]at g3;ext;refine b1u (SqL.of g2) (λp2 hp2=>?_);have s2:=a0f hp2 (.tup ys);have k2:(upd J p2 (.tup ys)) p2=some (.tup ys):=a0b;generalize upd J p2 (.tup ys)=J2 at s2 k2 ⊢;ext;refine⟨ln (by show 3<=100000;decide),λp3 hp3=>?_⟩;have s3:=a0f hp3 (.tup [.str "app",.str sg,.ref p2]);have ss:=s2.trans s3;exact q _ _ (g1.trans ss) (by rw[byD];exact .tup (SqT.of a0b) (.cons (.str _) (.cons (.str _) (.cons (.tup (SqT.of (s3 _ _ k2)) (g3.mono ss)) .nil))))
theorem c1t(T:Txt K mg t)  (n:Nat):FnOk P w K mg base CX0 (n+2) t.a_a8 t.d_a8 ["_law_term","_law_slots_here"] (a5g K n):=by
 induction n with
 |zero=>
  have no:∀vs H Q E,(a5g K 0) vs H Q E->False:=λvs H Q E h=>by
   revert vs
   walk_at "in";exactλh=>c1r h
  exact⟨λvs H Q E h=>(no vs H Q E h).elim,λA outer s H args us vs Q E _ _ _ _ h=>(no vs H Q E h).elim⟩
 |succ n ih=>
  have e:n+1+2=n+2+1:=by omega
  rw[e];exact c1s T  n ih
end
section
variable{P:Program}{w:World}{K:W.Frag}{mg:Str->Option Value}{base:Heap}{t:Ad}
theorem c8n{K:W.Frag}{H:Hp}{Q:VK}{i:Int}(k:Q (.bl false) H):mIs K [.int i,.ty "str"] H Q:=⟨_,_,_,false,rfl,rfl,λ_=>d0d qk,k⟩
theorem d2j{ks:List Key}{k:Nat}(h:k<ks.length):atI (ks.map kV) (k:Int)=some (kV ks[k]):=by
 obtain⟨v,e1,e2⟩:=a5u (xs:=ks.map kV) (i:=(k:Int)) qo (by rw[length_map];omega);rw[e1];have e3:(ks.map kV)[k]? =some v:=e2
 rw[Zs,Za h]at e3;exact e3.symm
theorem a5m(tag:Str)(els:List Key):atI ((Sum.inr tag::els).map kV) 0=some (.str tag):=d2j (ks:=Sum.inr tag::els) (k:=0) qz
theorem b9c:∀(more kvs:List (Key×V)),(∀p∈more,valV kvs p.1=none)->(more.map (·.1)).Nodup->a0z kvs more=kvs++more
 | [],kvs,_,_=>(Z7 _).symm
 |p::r,kvs,h,hn=>by
  rw[Zp,Xs]at hn
  show a0z (putK kvs p.1 p.2) r=_
  rw[b2x _ (h p Z0),b9c r _ (λq hq=>?_) hn.2,Zt]
  ·rfl
  ·have e:p.1≠q.1:=λz=>hn.1 (by rw[z];exact Z3.mpr ⟨q,hq,rfl⟩)
   rw[b3s _ _ _ _ (h p Z0),if_neg (Ne.symm e)];exact h q (Zw _ hq)
theorem c5i(more kvs:List (Key×V))(h:∀k∈more.map (·.1),k∉kvs.map (·.1))(hn:(more.map (·.1)).Nodup):a0z kvs more=kvs++more:=b9c more kvs (λp hp=>by
 cases e:valV kvs p.1 with
 |none=>rfl
 |some v=>exact absurd (b9m e) (h _ (Z3.mpr ⟨p,hp,rfl⟩))) hn
theorem c1h(kvs:List (Key×V))(hn:(kvs.map (·.1)).Nodup):a0z [] kvs=kvs:=by
 rw[c5i kvs [] (λ_ _ z=>by cases z) hn,Yx]
theorem sz_nd2:(szB.map (·.1)).Nodup:=by decide+kernel
theorem sz_nd3:(szC.map (·.1)).Nodup:=by decide+kernel
theorem c1u(T:Txt K mg t)(G_a9:FnOk P w K mg base CX0 1 t.a_a9 t.d_a9 ["_law_found"] (a9l)):FnOk P w K mg base CX0 2 t.a_d5 t.d_d5 ["_law_rows"] (b3o K):=by
 refine T.F_d5.ok a5e (λvs H Q E h=>?_) (λcdv A outer s H vs Q E hr h=>?_)
 ·revert vs
  walk_at "in";exactλ_=>rfl
 revert vs
 walk_at "in";intro h;refine⟨_,(@QSs.pss _ _ _ (a2s (b5b (a3c (a2q K rfl (a0r (a8k K rfl) rfl T.n_f2 Xc (a0a (mv 0) (a0a (a5t rfl T.n_f1 W4) a0c))))) (a7h (a8l (a0q a3m))) a9u) (a2s (d0m (i:=1) a5e.nd rfl (by nofun) (b5a (a2c a0k a0d (a2c a0k a0d (a2c a0k a0d (a2c a0k a0d (a2c a0k a0d (a2c a0k a0d (a2c a0k a0d (a2c a0k a0d (a2c a0k a0d b8b))))))))) rfl rfl qz qd) rfl (by nofun)) (a2s (d0n K rfl (mv 1) (b5a (a2c a0k a0d (a2c a0k a0d (a2c a0k a0d (a2c a0k a0d (a2c a0k a0d (a2c a0k a0d (a2c a0k a0d (a2c a0k a0d b8b)))))))) rfl rfl qz qd) rfl rfl rfl rfl rfl rfl) (a2s (d0n K rfl (mv 1) (b5a (a2c a0k a0d b8b) rfl rfl qz qd) rfl rfl rfl rfl rfl rfl) (a2s (a8l (a1p Zv rfl (c5z K rfl (mv 0)) (a1a (i:=2) a5e.nd rfl (by nofun)) (a0e (a0y (PW.pt (a2x (a3c (a2q K rfl (a0r (a8k K rfl) rfl T.n_f2 Xc (a0a (mv 2) (a0a (a5t rfl T.n_f3 Wo) a0c))))) (a2x (a0s a1g (a0r (a1k K rfl) rfl T.n_a3 Zq (a0a (mv 2) a0c)) a0d (a0t _)) (a2x (a0s (b4z (a1h hr)) (a0j (a0h K rfl) (mv 2) a0d (λ_ _=>rfl)) (mv 1) (by with_unfolding_all rfl)) (a3j (a0s a9j (a0r (a1k K rfl) rfl T.n_a3 Zq (a0a (mv 2) a0c)) (a2p (a1h hr) (mv 1) (a0j (a0h K rfl) (mv 2) a0d (λ_ _=>rfl)) (λ_ _=>rfl)) (a0t _))))))) (a0g (a0q a3m)) a0v) (a0g (a1p Zv rfl (a8o rfl T.n_e9 (a0a a0d (a0a (a0r (a1k K rfl) rfl T.n_a3 Zq (a0a (mv 2) a0c)) a0c))) (a1a (i:=3) a5e.nd rfl (by nofun)) (a0e (a0p (i:=4) a5e.nd rfl (by nofun) (me_or (a7n (a2k (b0g K rfl) (a0j (a0h K rfl) (mv 2) a0d (λ_ _=>rfl)) (a0x (a0a a0k (a0a a0k a0c))) (by with_unfolding_all rfl)) (a7m (a2k a1g (mv 3) a0d (a0t _)))) (a7m (a7n (a2k (b0g K rfl) (a0j (a0h K rfl) (mv 2) a0d (λ_ _=>rfl)) (a0x (a0a a0k (a0a a0k (a0a a0k a0c)))) (by with_unfolding_all rfl)) (a7m (a2k a1g (mv 3) a0d (a0t _))))))) (a0g (a0y (PW.pt (a2x (a0s a9j (mv 4) (a0r (a8k K rfl) rfl T.n_f2 Xc (a0a (a0j (a0h K rfl) (mv 2) (mv 3) (λ_ _=>rfl)) (a0a (a5t rfl T.n_g6 boot_str) a0c))) (a0t _)) (a3j (PW.pt (b1n (a3c (a2q K rfl (mv 4))) (a9r (a3c (a2q K rfl (a0m G_a9 hr.o rfl T.m_a9 T.F_a9.kp T.b_a9 .nil a0n (a0a (a0j (a0h K rfl) (mv 2) (mv 3) (λ_ _=>rfl)) a0c)))))))))) (a0g (a0q a3m)) a0v)))))))) (a7h (a8l (a0q a3m))))))))),?_⟩;rename_i p;obtain⟨us,kss,hS,hd,hok,hul,q⟩:=h;have hkl:=hd.length;rw[length_map]at hkl;ext
 exists d0e hS
 walk_at "C";intro d1 hd1;ext;refine⟨a0b,szA,rfl,qd,?_⟩;have sd1:Same H (upd (upd H d1 (.dK [])) d1 (.dK (a0z [] szA))):=λb o e=>by
  rw[a0l (λz=>by rw[z,hd1]at e;cases e),a0l (λz=>by rw[z,hd1]at e;cases e)];exact e
 have kd1:(upd (upd H d1 (.dK [])) d1 (.dK (a0z [] szA))) d1=some (.dK (a0z [] szA)):=a0b;generalize upd (upd H d1 (.dK [])) d1 (.dK (a0z [] szA))=H1 at sd1 kd1 ⊢;ext;refine⟨.inr (.inr (.inl ⟨rfl,.inl ⟨_,kd1⟩⟩)),?_⟩;ext;intro d2 hd2;ext;refine⟨a0b,szB,rfl,qd,?_⟩;have sd2:Same H1 (upd (upd H1 d2 (.dK [])) d2 (.dK (a0z [] szB))):=λb o e=>by
  rw[a0l (λz=>by rw[z,hd2]at e;cases e),a0l (λz=>by rw[z,hd2]at e;cases e)];exact e
 have kd2:(upd (upd H1 d2 (.dK [])) d2 (.dK (a0z [] szB))) d2=some (.dK (a0z [] szB)):=a0b;generalize upd (upd H1 d2 (.dK [])) d2 (.dK (a0z [] szB))=H2 at sd2 kd2 ⊢;ext;have n12:d1≠d2:=λz=>by rw[z,hd2]at kd1;cases kd1
 refine d0i n12 (sd2 _ _ kd1) kd2 (ln qk) ?_;have e12:a0z (a0z [] szA) (a0z [] szB)=a0z (a0z [] szA) szB:=by rw[c1h _ sz_nd2]
 rw[e12];have s2:=a1c (o:=.dK (a0z (a0z [] szA) szB)) (sd1.trans sd2) hd1;have k2:(upd H2 d1 (.dK (a0z (a0z [] szA) szB))) d1=some (.dK (a0z (a0z [] szA) szB)):=a0b;generalize upd H2 d1 (.dK (a0z (a0z [] szA) szB))=H3 at s2 k2 ⊢;ext;refine⟨.inr (.inr (.inl ⟨rfl,.inl ⟨_,k2⟩⟩)),?_⟩;ext;intro d3 hd3;ext;refine⟨a0b,szC,rfl,qd,?_⟩;have sd3:Same H3 (upd (upd H3 d3 (.dK [])) d3 (.dK (a0z [] szC))):=λb o e=>by
  rw[a0l (λz=>by rw[z,hd3]at e;cases e),a0l (λz=>by rw[z,hd3]at e;cases e)];exact e
 have kd3:(upd (upd H3 d3 (.dK [])) d3 (.dK (a0z [] szC))) d3=some (.dK (a0z [] szC)):=a0b;generalize upd (upd H3 d3 (.dK [])) d3 (.dK (a0z [] szC))=H4 at sd3 kd3 ⊢;ext;have n13:d1≠d3:=λz=>by rw[z,hd3]at k2;cases k2
 refine d0i n13 (sd3 _ _ k2) kd3 (ln qk) ?_;rw[c1h _ sz_nd3];have s4:=a1c (o:=.dK a1l) (s2.trans sd3) hd1;have k4:(upd H4 d1 (.dK a1l)) d1=some (.dK a1l):=a0b
 show _
 generalize hH5:upd H4 d1 (.dK a1l)=H5 at s4 k4;rw[show upd H4 d1 (.dK (a0z (a0z (a0z [] szA) szB) szC))=H5 from hH5];ext;refine⟨p,rfl,d1z (s4.seq hS) ?_⟩;refine a1t (a4x (xs:=us)) (λi σ' J=>∃o3 o4 o5:Option V,σ'=[some (.ref p),some (.ref d1),o3,o4,o5]/\Same H5 J) ⟨none,none,none,rfl,Same.refl _⟩ (λi σ' J hP=>by obtain⟨_,_,_,_,h⟩:=hP;exact(s4.trans h).seq hS) (λi σ' J hi hP=>?_) (λσ' J hP=>?_)
 ·obtain⟨o3,o4,o5,rfl,sJ⟩:=hP;have hki:i<kss.length:=by omega
  obtain⟨hui,a,ea,ha⟩:=d2i hd hki;rw[getD_at hui,ea];obtain⟨tag,els,eks,hel,hsz,hsg⟩:=hok _ (Zx hki);rw[eks]at ha hsz;have ha:=(s4.trans sJ).tup ha;have kJ:=sJ _ _ k4;have dg:DGet J d1 (.str tag) (valV a1l (Sum.inr tag)):=DGet.k (k:=Sum.inr tag) kJ;rw[hsz]at dg;ext
  exists b7y ha
  walk_at "C"
  exists a2t ha
  refine iteB (λe=>absurd (Z8 (by simpa using e)) qo) (λe=>?_);ext
  exists a0i ha (a5m tag els)
  refine⟨d1,_,rfl,dg,?_⟩;walk_at "A"
  exists a2t ha
  exists a0i ha (a5m tag els)
  refine⟨d1,_,rfl,dg,?_⟩;ext;refine iteB (λe=>absurd e (by rw[length_map];simp)) (λe=>?_);ext
  exists a2t ha
  refine⟨_,_,rfl,⟨qo,qo,qo,by rw[Zp,length_cons,length_map];omega⟩,?_⟩;rw[Zp,length_cons,length_map,show(((els.length+1:Nat):Int)-1).toNat=els.length by omega];have ha0:SqT K J a (List.map kV (Sum.inr tag::els)):=ha;refine a1t (a1q 1 els.length) (λj σ' J'=>∃o4 o5:Option V,σ'=[some (.ref p),some (.ref d1),some (.ref a),o4,o5]/\Same J J') ⟨o4,o5,rfl,Same.refl _⟩ (λ_ _ _ _=>trivial) (λj σ' J' hj hP=>?_) (λσ' J' hP=>?_)
  ·obtain⟨o4,o5,rfl,sJ'⟩:=hP;have hsj:=hsg j hj;have ha:=sJ'.tup ha0;have hat:atI (List.map kV (Sum.inr tag::els)) (1+(j:Int))=some (kV els[j]):=by
    have:=d2j (ks:=Sum.inr tag::els) (k:=j+1) (by simp;omega);rw[show((j+1:Nat):Int)=1+(j:Int) by omega]at this;exact this
   walk_at "m"
   (with_reducible refine a3x (λσ' H'=>σ'=[some (.ref p),some (.ref d1),some (.ref a),some (.int (1+(j:Int))),some (.bl (a4a tag (j+1)))]/\Same J H') (λσ' H' hP=>?_) (λkk=>?_))
   rotate_left
   ·walk_at "m";refine a0i ha (a5m tag els) ?_;walk_at "m";refine⟨ln (by show 2<=100000;decide),λq1 hq1=>?_⟩;have sq1:Same J' (upd J' q1 (.tup [.str "app",.str "build"])):=a0f hq1 _;have kq1:(upd J' q1 (.tup [.str "app",.str "build"])) q1=some (.tup [.str "app",.str "build"]):=a0b;generalize upd J' q1 (.tup [.str "app",.str "build"])=J2 at sq1 kq1 ⊢;walk_at "m";refine a5j [appS,bldS] (.inr (SqT.of kq1)) ?_;walk_at "m"
    exists e1
    ·walk_at "m"
     exists e2
     ·have e2:j+1=2:=by have:=Z8 (by simpa using e2);omega
      walk_at "gn";have hh:=kk _ _ ⟨rfl,sJ'.trans sq1⟩;rw[show a4a tag (j+1)=true by unfold a4a;rw[e1,Yg e2];rfl]at hh;exact hh
     ·have e2:¬j+1=2:=by have:=Xm (by simpa using e2);omega
      walk_at "m";refine a0i (sq1.tup ha) (a5m tag els) ?_;walk_at "m";refine⟨ln (by show 3<=100000;decide),λq2 hq2=>?_⟩;have sq2:Same J2 (upd J2 q2 (.tup [.str "call",.str "jump",.str "not"])):=a0f hq2 _;have kq2:(upd J2 q2 (.tup [.str "call",.str "jump",.str "not"])) q2=some (.tup [.str "call",.str "jump",.str "not"]):=a0b;generalize upd J2 q2 (.tup [.str "call",.str "jump",.str "not"])=J3 at sq2 kq2 ⊢;walk_at "m";refine a5j [a3t,a2m,notS] (.inr (SqT.of kq2)) ?_;walk_at "m"
      exists e3
      ·(with_reducible refine tOp_i ?_);(refine' c2x ?hv ?_;(case hv=>with_unfolding_all rfl));(with_reducible refine tC_i ?_);(with_reducible refine mEq_i ?_);walk_at "gn"
       have hh:=kk _ _ ⟨rfl,sJ'.trans (sq1.trans sq2)⟩;rw[show a4a tag (j+1)=(false^^decide (1+(j:Int)=1)) by unfold a4a;rw[e1,e3,Z4 e2];simp;omega]at hh;exact hh
      ·walk_at "gn";have hh:=kk _ _ ⟨rfl,sJ'.trans (sq1.trans sq2)⟩;rw[show a4a tag (j+1)=false by unfold a4a;rw[e1,e3,Z4 e2];rfl]at hh;exact hh
    ·(with_reducible refine mB_i ?_)
     walk_at "iF";walk_at "m";refine a0i (sq1.tup ha) (a5m tag els) ?_;walk_at "m";refine⟨ln (by show 3<=100000;decide),λq2 hq2=>?_⟩;have sq2:Same J2 (upd J2 q2 (.tup [.str "call",.str "jump",.str "not"])):=a0f hq2 _;have kq2:(upd J2 q2 (.tup [.str "call",.str "jump",.str "not"])) q2=some (.tup [.str "call",.str "jump",.str "not"]):=a0b;generalize upd J2 q2 (.tup [.str "call",.str "jump",.str "not"])=J3 at sq2 kq2 ⊢;walk_at "m";refine a5j [a3t,a2m,notS] (.inr (SqT.of kq2)) ?_;walk_at "m"
     exists e3
     ·(with_reducible refine tOp_i ?_);(refine' c2x ?hv ?_;(case hv=>with_unfolding_all rfl));(with_reducible refine tC_i ?_);(with_reducible refine mEq_i ?_);walk_at "gn"
      have hh:=kk _ _ ⟨rfl,sJ'.trans (sq1.trans sq2)⟩;rw[show a4a tag (j+1)=(false^^decide (1+(j:Int)=1)) by unfold a4a;rw[e1,e3];simp;omega]at hh;exact hh
     ·walk_at "gn";have hh:=kk _ _ ⟨rfl,sJ'.trans (sq1.trans sq2)⟩;rw[show a4a tag (j+1)=false by unfold a4a;rw[e1,e3];rfl]at hh;exact hh
   obtain⟨rfl,sK⟩:=hP;have ha:=sK.tup ha0;rw[hsj];ext;refine a0i ha hat ?_;cases hk:els[j]with
   |inl n=>
    rw[show kV (Sum.inl n)=V.int n from rfl];ext;refine c8n ?_;ext;refine iteB (λe=>absurd e (by simp[isS])) (λe=>?_);walk_at "B";refine a0i ha hat ?_;rw[hk,show kV (Sum.inl n)=V.int n from rfl];ext;walk_at "iF"
    first|exact⟨_,_,rfl,sK⟩| ((with_reducible refine a5y (by assumption) ?_);exact⟨_,_,rfl,sK⟩)| ((with_reducible refine a5y (by assumption) ?_);ext;exact⟨_,_,rfl,sK⟩)| (walk_at "nx";exact⟨_,_,rfl,sK⟩)|trace_state
   |inr z=>
    rw[show kV (Sum.inr z)=V.str z from rfl];ext;refine iteB (λe=>absurd e (by simp[isS])) (λe=>?_);ext;walk_at "iF"
    first|exact⟨_,_,rfl,sK⟩| ((with_reducible refine a5y (by assumption) ?_);exact⟨_,_,rfl,sK⟩)| ((with_reducible refine a5y (by assumption) ?_);ext;exact⟨_,_,rfl,sK⟩)| (walk_at "nx";exact⟨_,_,rfl,sK⟩)|trace_state
  obtain⟨o4,o5,rfl,sK⟩:=hP;exact⟨_,_,_,rfl,sJ.trans sK⟩
 obtain⟨o3,o4,o5,rfl,sJ⟩:=hP;ext;exact q J (s4.trans sJ)
end
noncomputable def hdK(sl:Str->Nat)(a m:Nat)(gs:List Go)(i:Nat):List (List Key):=a6b::a2h a m++gsK sl (a1v true gs.length) 0 (gs.take i)
theorem c8o{gs:List Go}{i:Nat}(h:i<gs.length):gs.take (i+1)=gs.take i++[gs[i]]:=by rw[Vt,Za h];rfl
theorem d5a(sl:Str->Nat)(a m:Nat)(gs:List Go):(hdK sl a m gs 0).length=1+m:=by
 unfold hdK a2h;rw[Xb,gsK,Z7,length_cons,length_map,Vz];omega
theorem c4t(sl:Str->Nat)(a m:Nat){gs:List Go}{i:Nat}(h:i<gs.length):hdK sl a m gs (i+1)=hdK sl a m gs i++gK sl (a1v true gs.length i) gs[i]:=by
 have e:gsK sl (a1v true gs.length) 0 (gs.take (i+1))=gsK sl (a1v true gs.length) 0 (gs.take i)++gK sl (a1v true gs.length i) gs[i]:=by
  rw[b4q sl _ 0 i (gs.take (i+1)),List.take_take,Ud (Vj i),Ye]
  congr 1
  rw[c8o h,List.drop_append_of_le_length (by rw[Z5];omega),Sa (by rw[Z5];omega),Yx,gsK,gsK,Z7]
 unfold hdK;rw[e,<-Zt]
theorem d5b(pre:List (List Key))(sl:Str->Nat)(a m:Nat){gs:List Go}{i:Nat}(h:i<gs.length):∃Y,pre++a5d sl a m gs=(pre++hdK sl a m gs i)++(gK sl (a1v true gs.length i) gs[i]++Y):=by
 refine⟨gsK sl (a1v true gs.length) (i+1) (gs.drop (i+1))++a3z gs,?_⟩;unfold a5d hdK;rw[b4q sl _ 0 i gs,Ye,Vv h,gsK];simp only[Zt,Yh]
theorem c4u(pre:List (List Key))(sl:Str->Nat)(a m:Nat)(gs:List Go):pre++a5d sl a m gs=(pre++hdK sl a m gs gs.length)++a3z gs:=by
 unfold a5d hdK;rw[Xx];simp only[Zt,Yh]
theorem body_0(pre:List (List Key))(sl:Str->Nat)(a m:Nat)(gs:List Go):pre++a5d sl a m gs=pre++([a6b]++(a2h a m++(gsK sl (a1v true gs.length) 0 gs++a3z gs))):=by
 unfold a5d;simp only[Zt,Yh,Yx]
theorem d2k(pre:List (List Key))(sl:Str->Nat)(a m:Nat)(gs:List Go):pre++a5d sl a m gs=(pre++[a6b])++(a2h a m++(gsK sl (a1v true gs.length) 0 gs++a3z gs)):=by
 unfold a5d;simp only[Zt,Yh,Yx]
theorem body_le(sl:Str->Nat)(a m:Nat)(gs:List Go)(h:∀g∈gs,g.ok/\g.trm.size<=30):(a5d sl a m gs).length<=2+m+31*gs.length:=by
 unfold a5d a2h;have h1:=gsK_le sl (a1v true gs.length) gs h;have h2:(a3z gs).length<=1:=by unfold a3z;split<;>simp
 rw[Zc,Zc,length_cons,length_map,Vz];omega
def b2u(z:Str)(ks:List Key):Prop:=∃tag els,ks=.inr tag::els/\tag≠z
theorem c6x(sl:Str->Nat)(r:Br):b2u a2m (brK sl r):=by
 cases r<;>exact⟨_,_,rfl,qk⟩
theorem rwK_not(r:Rw):b2u a2m (rwK r):=by
 cases r<;>exact⟨_,_,rfl,qk⟩
theorem goK_not(g:Go):b2u a2m (goK a3t g):=by
 cases g with
 |keep=>exact⟨_,_,rfl,qk⟩
 |mark m a b=>cases m<;>exact⟨_,_,rfl,qk⟩
 |neg w ks=>exact⟨_,_,rfl,qk⟩
 |nm w ks=>exact⟨_,_,rfl,qk⟩
theorem c6y(sl:Str->Nat){f:Nat->Str}:∀(i:Nat)(gs:List Go),(∀j,i<=j->j<i+gs.length->f j=a3t)->∀ks∈gsK sl f i gs,b2u a2m ks
 |i,[],_,ks,h=>by simp[gsK]at h
 |i,g::gs,hf,ks,h=>by
  rw[gsK]at h;rcases Zm.mp h with z|z
  ·unfold gK at z;rcases Zm.mp z with y|y
   ·obtain⟨r,_,rfl⟩:=Z3.mp y;exact c6x sl r
   ·rw[Zr.mp y,hf i (Zg _) qz];exact goK_not g
  ·exact c6y sl (i+1) gs (λj h1 h2=>hf j qo (by simp only[length_cons];omega)) ks z
theorem d5c(pre:List (List Key))(sl:Str->Nat)(a m:Nat){gs:List Go}(hp:∀ks∈pre,b2u a2m ks)(hn:a4d gs=true):∃(X:List (List Key))(w:Str)(k:Key),pre++a5d sl a m gs=X++[[.inr a2m,.inr w,k]]/\(∀ks∈X,b2u a2m ks)/\X.length+1=(pre++hdK sl a m gs gs.length).length:=by
 rcases b5s gs with h0|⟨gs',gl,h0⟩
 ·rw[h0]at hn;cases hn
 rw[h0,a6r]at hn;cases gl with
 |keep=>cases hn
 |mark m a b=>cases hn
 |neg w ks=>cases hn
 |nm w ks=>
  have hl:gs'.length<gs.length:=by rw[h0];simp
  have e:gs[gs'.length]=.nm w ks:=by subst h0;simp
  have hs:=c4t sl a m hl;have hc:a1v true gs.length gs'.length=a2m:=by unfold a1v;rw[if_pos ⟨rfl,by rw[h0];simp⟩]
  have hl2:gs'.length+1=gs.length:=by rw[h0];simp
  rw[e,hc,hl2]at hs;have ht:a3z gs=[]:=by unfold a3z;rw[h0,a6r];rfl
  have hb:=c4u pre sl a m gs;rw[ht,Z7,hs]at hb;refine⟨pre++(hdK sl a m gs gs'.length++(brL ks 0 ks.length).map (brK sl)),w,.inl ks.length,?_,λx hx=>?_,?_⟩
  ·rw[hb];unfold gK;rw[show(Go.nm w ks).kids=ks from rfl];simp only[Zt];rfl
  ·rcases Zm.mp hx with z|z
   ·exact hp x z
   ·rcases Zm.mp z with z|z
    ·unfold hdK at z;rcases Zm.mp z with y|y
     ·rcases Zo.mp y with y|y
      ·rw[y];exact⟨_,_,rfl,qk⟩
      ·obtain⟨j,_,rfl⟩:=Z3.mp y;exact⟨_,_,rfl,qk⟩
     ·refine c6y sl 0 _ (λj h1 h2=>?_) x y;rw[Z5]at h2;unfold a1v;rw[if_neg (λz=>by have:=z.2;omega)]
    ·obtain⟨r,_,rfl⟩:=Z3.mp z;exact c6x sl r
  ·rw[hs];unfold gK;rw[show(Go.nm w ks).kids=ks from rfl];simp only[Zc,Z9];omega
theorem b7d(xs:List V)(k:Nat)(h:k<=xs.length):cutV xs (some (k:Int)) none=xs.drop k:=by
 unfold cutV;have e1:HT.sIx xs.length 0 (some (k:Int))=k:=by
  simp only[HT.sIx]
  split<;>omega
 have e2:HT.sIx xs.length xs.length none=xs.length:=rfl;rw[e1,e2,Zy (by rw[Ve];omega)]
theorem c6z(xs:List V)(k m:Nat)(h:k<=m)(h2:m<=xs.length):cutV xs (some (k:Int)) (some (m:Int))=(xs.drop k).take (m-k):=by
 unfold cutV;have e1:HT.sIx xs.length 0 (some (k:Int))=k:=by
  simp only[HT.sIx]
  split<;>omega
 have e2:HT.sIx xs.length xs.length (some (m:Int))=m:=by
  simp only[HT.sIx]
  split<;>omega
 rw[e1,e2]
theorem d5d(xs:List V)(m:Nat)(h2:m<=xs.length):cutV xs none (some (m:Int))=xs.take m:=by
 unfold cutV;have e1:HT.sIx xs.length 0 none=0:=rfl;have e2:HT.sIx xs.length xs.length (some (m:Int))=m:=by
  simp only[HT.sIx]
  split<;>omega
 rw[e1,e2,Um,U3]
theorem d2l{K:W.Frag}{H:Hp}{Q:VK}{v x:V}{ds:List PyData}{n:Bool}(h1:Den K H v (.tuple ds))(h2:Den K H x (.tuple ds))(hz:PyData.depthAll ds<=149)(k:Q (.bl (!n)) H):dEq K n v x H Q:=by
 cases h1 with
 |tup s1 d1=>cases h2 with
  |tup s2 d2=>exact⟨_,_,_,_,ds,rfl,rfl,.inl ⟨s1,s2⟩,d1,d2,hz,k⟩
theorem d2m(sl:Str->Nat)(t:Trm):∃ds,byD sl t=.tuple ds:=by cases t<;>(rw[byD];exact⟨_,rfl⟩)
theorem eq_byD{K:W.Frag}{H:Hp}{Q:VK}{v x:V}{sl:Str->Nat}{t:Trm}{n:Bool}(h1:Den K H v (byD sl t))(h2:Den K H x (byD sl t))(hz:t.size<=70)(k:Q (.bl (!n)) H):dEq K n v x H Q:=by
 have hd:=c1d sl t;obtain⟨ds,e⟩:=d2m sl t;rw[e]at h1 h2 hd;simp only[PyData.depth]at hd;exact d2l h1 h2 qo k
theorem d5e{K:W.Frag}{H:Hp}{v:V}{sl:Str->Nat}{sg:Str}{ks:List Trm}(h:Den K H v (byD sl (.app sg ks))):∃a b us,v=.ref a/\SqT K H a [.str appS,.str sg,.ref b]/\SqT K H b us/\DenL K H us (byL sl ks):=by
 rw[byD]at h;cases h with
 |tup hs hl=>
  cases hl with
  |cons h1 hl=>
   cases hl with
   |cons h2 hl=>
    cases hl with
    |cons h3 hl=>
     cases hl;cases h1;cases h2;cases h3 with
     |tup h4 h5=>exact⟨_,_,_,rfl,hs,h4,h5⟩
theorem d5f(sl:Str->Nat)(w:Str)(ks:List Trm):PyData.depthAll (byL sl ks)<=2*(Trm.sizeL ks+1):=by
 have h:=c1d sl (.app w ks);rw[byD]at h;simp only[PyData.depth,PyData.depthAll,Trm.size]at h;omega
noncomputable def a4o:List Str:=[ofString "keep",ofString "not",ofString "=",ofString ":=",ofString "<",ofString "<="]
theorem d5g(g:Go)(h:g.ok):(!decide (g.sgn∈a4o))=g.named:=by
 cases g with
 |keep=>show(!decide (a1u∈a4o))=false;decide+kernel
 |mark m a b=>show(!decide (m.sign∈a4o))=false;cases m<;>decide+kernel
 |neg w ks=>show(!decide (notS∈a4o))=false;decide+kernel
 |nm w ks=>
  obtain⟨h1,h2,h3,h4⟩:=h
  show(!decide (w∈a4o))=true
  rw[Z4];rfl;intro z;simp only[a4o,Zo,Yn,X9]at z;rcases z with rfl|rfl|rfl|rfl|rfl|rfl
  ·exact h2 rfl
  ·exact h3 rfl
  ·exact absurd h1 qk
  ·exact absurd h1 qk
  ·exact absurd h1 qk
  ·exact absurd h1 qk
noncomputable def nwZ(a i:Nat):List Int:=(List.range i).map λ(j:Nat)=>((a+j:Nat):Int)
theorem nwZ_len(a i:Nat):(nwZ a i).length=i:=by unfold nwZ;rw[length_map,Vz]
theorem nwZ_lt(a i:Nat):(nwZ a i).Pairwise (· < ·):=by
 unfold nwZ;rw[List.pairwise_map];exact List.pairwise_lt_range.imp λh=>by omega
theorem d2n{K:W.Frag}{H:Hp}:∀{us:List V}{ns:List Nat},DenL K H us ((ns.map newK).map rowD)->Nws K H newS us (ns.map λ(j:Nat)=>(j:Int))
 |_,[],h=>by cases h;exact .nil
 |_,n::ns,h=>by
  cases h with
  |cons a b=>
   obtain⟨q,e,hq⟩:=d2d a;exact .cons ⟨q,e,hq⟩ (d2n b)
theorem nwZ_new(a m:Nat):a2h a m=((List.range m).map λj=>a+j).map newK:=by unfold a2h;rw[Y4];rfl
theorem nwZ_map(a m:Nat):(((List.range m).map λj=>a+j).map λ(j:Nat)=>(j:Int))=nwZ a m:=by unfold nwZ;rw[Y4];rfl
theorem b9d:∀kss:List (List Key),PyData.depthAll (kss.map rowD)<=2
 | []=>by simp[PyData.depthAll]
 |ks::kss=>by
  have h1:=b9d kss;have h2:=b3m ks;simp only[Zp,rowD,PyData.depthAll,PyData.depth];omega
theorem varO{ts:List Trm}{y:Str}(h:y∈a1b ts):y∈ordL ts []:=(b0k ts [] y).mpr (.inr h)
abbrev c1i(K:W.Frag):Sp:=λvs H Q _=>aI vs λa vs=>aI vs λm vs=>aE vs (∃(u k:Nat),a=((u+k:Nat):Int)/\m=(k:Int)/\u+k<=60/\∀p us H',Same H H'->H' p=some (.lst us)->DenL K H' us ((a2h u k).map rowD)->Q (.ref p) H')
abbrev b1c(K:W.Frag):Sp:=λvs H Q _=>aR vs λpf vs=>aI vs λn vs=>aV vs λhv vs=>aR vs λpg vs=>aE vs (∃(r:Ru)(xs:List Str)(pr:Addr)(ns ug:List V),SqT K H pf [.int n,.int (r.ord.length:Int),.ref pr]/\H pr=some (.lst ns)/\DenL K H ns (a6p r.ord r.ks r.gs)/\HdN K H hv r.w r.ks/\SqT K H pg ug/\DenL K H ug (Trm.dataL (trms r.gs))/\RuF xs r/\xs.length=4/\∀H',Same H H'->Q (.bl true) H')
noncomputable def b9e(x:It2):PyData:=.int ((x.1:Int)-1)
section
variable{K:W.Frag}{H H' H0:Hp}{M:List Addr}{d:Addr}
theorem b7e:∀{us:List V}{ks:List Key},DmL K H M us (ks.map keyD)->DenL K H us (ks.map keyD)
 |_,[],h=>by cases h;exact .nil
 |_,k::ks,h=>by
  cases h with
  |cons a b=>
   cases k with
   |inl n=>cases a;exact .cons (.int _) (b7e b)
   |inr s=>cases a;exact .cons (.str _) (b7e b)
theorem c4v:∀{us:List V}{kss:List (List Key)},DmL K H M us (kss.map rowD)->DenL K H us (kss.map rowD)
 |_,[],h=>by cases h;exact .nil
 |_,ks::kss,h=>by
  cases h with
  |cons a b=>
   have a:Dm K H M _ (.tuple (ks.map keyD)):=a;cases a with
   |tup s e=>exact .cons (.tup s (b7e e)) (c4v b)
theorem d2o:∀{us:List V}{ds:List PyData},DmL K H M us ds->∀{j:Nat}(hj:j<ds.length),∃hu:j<us.length,Dm K H M us[j] ds[j]
 |_,_,.nil,j,hj=>by simp at hj
 |_,_,.cons a b,0,hj=>⟨qz,a⟩
 |_,_,.cons a b,j+1,hj=>by
  obtain⟨h1,h2⟩:=d2o b (j:=j) (by simpa using hj);exact⟨by simpa using h1,h2⟩
theorem b5j:∀{us:List V}{ds:List PyData},DmL K H M us ds->us.length=ds.length
 |_,_,.nil=>rfl
 |_,_,.cons a b=>by rw[length_cons,length_cons,b5j b]
theorem cd_at{us:List V}{l:List It2}(h:DmL K H M us (l.map cdD)){j:Nat}(hj:j<l.length):∃(hu:j<us.length)(pf pr:Addr)(ns:List V),us[j]=.ref pf/\SqT K H pf [.int (l[j].1:Int),.int (l[j].2.ord.length:Int),.ref pr]/\H pr=some (.lst ns)/\DenL K H ns (a6p l[j].2.ord l[j].2.ks l[j].2.gs):=by
 obtain⟨hu,e⟩:=d2o h (j:=j) (by rwa[length_map]);rw[U5]at e;refine⟨hu,?_⟩;generalize us[j]=v at e ⊢;generalize l[j]=x at e ⊢;have e:Dm K H M v (.tuple [.int (x.1:Int),.int (x.2.ord.length:Int),.list (a6p x.2.ord x.2.ks x.2.gs)]):=e;cases e with
 |tup s e=>
  cases e with
  |cons a1 e=>
   cases e with
   |cons a2 e=>
    cases e with
    |cons a3 e=>
     cases e;cases a1;cases a2;cases a3 with
     |lst h1 h2 h3=>
      obtain⟨ub,hub⟩:=c1e x.2.w x.2.ks (trms x.2.gs);have hr:=c1f x.2.w x.2.ks x.2.gs ub hub;have h3:DmL K H M _ (a6p (ordL (.app x.2.w x.2.ks::trms x.2.gs) []) x.2.ks x.2.gs):=h3;rw[hr]at h3;refine⟨_,_,_,rfl,s,h1,?_⟩
      show DenL K H _ (a6p (ordL (.app x.2.w x.2.ks::trms x.2.gs) []) x.2.ks x.2.gs)
      rw[hr];exact c4v h3
theorem d2p:∀{us:List V}{l:List It2},DmL K H M us (l.map b9e)->us=l.map λx=>.int ((x.1:Int)-1)
 |_,[],h=>by cases h;rfl
 |_,x::l,h=>by
  cases h with
  |cons a b=>
   have a:Dm K H M _ (.int ((x.1:Int)-1)):=a;cases a;rw[d2p b];rfl
theorem FdR.same{x:List Key×V}{y:List Key×List It2}(f:FdR K H0 H d x y)(s:Same H H'):FdR K H0 H' d x y:=by
 obtain⟨e,pa,cl,us,sw,e1,e2,e3,e4,e5,⟨s1,dd,kd,g1,g2,g3,g4,g5⟩⟩:=f;exact⟨e,pa,cl,us,sw,e1,s.tup e2,e3,s _ _ e4,e5.pr (.same s),⟨s1,dd,kd,g1,s.tup g2,s _ _ g3,g4,g5⟩⟩
theorem FdOk.same{tab:Tb}(f:FdOk K H0 H d tab)(s:Same H H'):FdOk K H0 H' d tab:=by
 obtain⟨kvs,h1,h2,h3,h4⟩:=f;exact⟨kvs,s _ _ h1,h2,Paired.mapP h3 λ_ _ z=>z.same s,h4⟩
end
abbrev b9f(K:W.Frag):Sp:=λvs H Q _=>aR vs λd vs=>aR vs λa vs=>aE vs (∃(us:List V)(rs:List Ru)(xs:List Str)(H0:Hp),SqL K H a us/\Paired (RuA K H) us rs/\(∀r∈rs,RuF xs r)/\xs.length=4/\rs.length<=43/\FdOk K H0 H d (tabR rs 0 [])/\∀H',Same H H'->Q (.bl true) H')
theorem b9g{α β:Type}{R:α->β->Prop}:∀{xs:List α}{ys:List β},Paired R xs ys->Paired R xs.reverse ys.reverse
 |_,_,.nil=>.nil
 |_,_,.cons h t=>by
  rw[X6,X6];exact Vi (b9g t) h
theorem c4w{K:W.Frag}{H:Hp}:∀{us:List V}{rs:List Ru},Paired (RuA K H) us rs->∃qs:List Addr,us=qs.map V.ref
 |_,_,.nil=>⟨[],rfl⟩
 |_,_,.cons h t=>by
  obtain⟨qs,e⟩:=c4w t;obtain⟨ta,_,_,_,e1,_⟩:=h;exact⟨ta::qs,by rw[e1,e];rfl⟩
def Fnd(K:W.Frag)(H2 J:Hp)(d pL:Addr)(bs:List Addr)(kvs:List (List Key×V))(tab:Tb)(i:Nat):Prop:=Same H2 J/\J pL=some (.lst (bs.map V.ref))/\J d=some (.dT kvs)/\Paired (λ(a:List Key×V) (b:List Key×List It2)=>a.1=b.1/\∃pa cl sw us,a.2=.ref pa/\SqT K J pa [.ref cl,sw]/\H2 cl=none/\cl≠pL/\J cl=some (.lst us)/\us.length<=45+i) kvs tab/\(∀(m:Nat)(k:List Key)(v:V),kvs[m]? =some (k,v)->∃b,bs[m]? =some b/\J b=some (.tup (k.map kV)))
theorem c1j{α:Type}(k:List Key)(x:α):∀tb:List (List Key×List α),(addT tb k x).length<=tb.length+1
 | []=>by simp[addT]
 |b::tb=>by
  have:=c1j k x tb;unfold addT
  split
  ·simp
  ·simp only[length_cons];omega
theorem c1k:∀(rs:List Ru)(n:Nat)(tb:Tb),(tabR rs n tb).length<=tb.length+rs.length
 | [],_,tb=>by simp[tabR]
 |r::rs,n,tb=>by
  rw[tabR,length_cons];have h1:=c1k rs (n+1) (addT tb (keyR r) (n+1,r));have h2:=c1j (keyR r) (n+1,r) tb;omega
abbrev b9h(K:W.Frag):Sp:=λvs H Q _=>aR vs λa vs=>aE vs (∃ns:List Int,SqL K H a (ns.map V.int)/\ns.length<=63/\∀H',Q (.bl true) H')
section
variable{P:Program}{w:World}{K:W.Frag}{mg:Str->Option Value}{base:Heap}{t:Ad}
theorem d2q{sl:Str->Nat}{th:Th}:∀{ks:List Trm}{f i:Nat},BtL sl th ks f->(hi:i<ks.length)->Bt sl th ks[i] (f+i)
 |k::ks,f,0,h,_=>by rw[BtL]at h;exact h.1
 |k::ks,f,i+1,h,hi=>by
  rw[BtL]at h;have:=d2q (i:=i) h.2 (by simpa using hi);rw[show f+(i+1)=f+1+i by omega];exact this
 | [],_,_,_,hi=>by simp at hi
theorem c8p(T:Txt K mg t)  (n:Nat)(G_b2:FnOk P w K mg base CX0 (n+2) t.a_b2 t.d_b2 ["_law_there","_law_cell"] (a7v K n)):FnOk P w K mg base CX0 (n+2+1) t.a_b2 t.d_b2 ["_law_there","_law_cell"] (a7v K (n+1)):=by
 exists T.F_b2.ok (k:=n+2) b8g,(a0e (a0p (i:=2) (hs:=a4q) b8g.nd rfl (by nofun) (a2p (a1h hr) (mv 0) (mv 1) (λ_ _=>rfl))) (a0e (a0y (a0s a1g (a0j (a0h K rfl) (mv 2) a0d (λ_ _=>rfl)) a0k (a0t _)) (a0g (a0q (a0x (a0a a0k (a0a (a0j (a0h K rfl) (mv 2) a0d (λ_ _=>rfl)) a0c))))) a0v) (a0e (a0y (a0s a9j (a0j (a0h K rfl) (mv 2) a0d (λ_ _=>rfl)) a0k (a0t _)) (a0g (a0q (a0x (a0a a0k (a0a (a0j (a0h K rfl) (mv 2) a0d (λ_ _=>rfl)) a0c))))) a0v) (a0g (a0q (a0x (a0a a0k (a0a (a0j (a0h K rfl) (mv 2) a0d (λ_ _=>rfl)) (a0a (a2f (a8b K rfl) rfl T.n_f3 Wo (a0a (a5h rfl (a2o rfl T.n_e9 (a0a (a0r (b3x rfl) rfl T.n_f7 Tj (a0a (a0j (a0h K rfl) (mv 2) a0d (λ_ _=>rfl)) (a0a a0d a0c))) a0c)) (a3p (a0o b0u) ["_law_there","_law_cell","_law_row"] ["_law_there","_law_cell","_law_row"] rfl rfl qk) (λ_ _ _ _ _=>a3o) (λ_ _ _ _ _=>(a0m G_b2 hr.o rfl T.m_b2 T.F_b2.kp T.b_b2 .nil a0n (a0a (mv 1) (a0a (a0u (a1d K rfl) (a0j (a0h K rfl) (mv 3) a0d (λ_ _=>rfl)) (mv 0)) a0c))))) a0c)) a0c))))))))),H,Q,E,hr,h
 rename_i p i;obtain⟨t0,c,ws,th,sl,hp,hT,ei,hB,hz,hn,har,q⟩:=h;subst ei;cases t0 with
 |num n=>
  rw[Bt]at hB;obtain⟨v0,e1,e2⟩:=hT.at_ _ _ hB;obtain⟨a,rfl,hs⟩:=den3 e2;have dg:DGet H p (.int c) (valV (encI 0 ws) (Sum.inl (c:Int))):=DGet.k (k:=Sum.inl (c:Int)) hp;rw[a8n,e1]at dg;ext;refine⟨p,_,rfl,dg,?_⟩;ext
  exists a0i hs (v:=.str numS) rfl
  refine iteB (λe=>?_) (λe=>absurd e qk);ext
  exists a0i hs (v:=.int n) rfl
  refine⟨ln (by show 2<=100000;decide),λp1 hp1=>?_⟩;exact q _ _ (a0f hp1 _) (by rw[byD];exact .tup (SqT.of a0b) (.cons (.str _) (.cons (.int _) .nil)))
 |any x=>
  rw[Bt]at hB;obtain⟨a,sx,hs,dg,hsx1,hsx2⟩:∃(a:Addr)(sx:Str),SqT K H a [.str sx,.int c,.int (sl x)]/\DGet H p (.int c) (some (.ref a))/\(false^^decide (sx=ofString "num"))=false/\(true^^decide (sx=ofString "app"))=true:=by
   have dg:DGet H p (.int c) (valV (encI 0 ws) (Sum.inl (c:Int))):=DGet.k (k:=Sum.inl (c:Int)) hp;rw[a8n]at dg;rcases hB with hB|hB
   ·obtain⟨v0,e1,e2⟩:=hT.at_ _ _ hB;obtain⟨a,rfl,hs⟩:=den3 e2;rw[e1]at dg;exact⟨a,b5d,hs,dg,qk,qk⟩
   ·obtain⟨v0,e1,e2⟩:=hT.at_ _ _ hB;obtain⟨a,rfl,hs⟩:=den3 e2;rw[e1]at dg;exact⟨a,b5e,hs,dg,qk,qk⟩
  ext;refine⟨p,_,rfl,dg,?_⟩;ext
  exists a0i hs (v:=.str sx) rfl
  rw[hsx1];walk_at "C"
  exists a0i hs (v:=.str sx) rfl
  rw[hsx2];walk_at "D"
  exists a0i hs (v:=.int (sl x)) rfl
  refine⟨ln (by show 2<=100000;decide),λp1 hp1=>?_⟩;exact q _ _ (a0f hp1 _) (by rw[byD];exact .tup (SqT.of a0b) (.cons (.str _) (.cons (.int _) .nil)))
 |app sg ks=>
  rw[Bt]at hB;obtain⟨f,hB,hL⟩:=hB;obtain⟨v0,e1,e2⟩:=hT.at_ _ _ hB;obtain⟨a,rfl,hs⟩:=den5 e2;simp only[Trm.size]at hz;have zl:=Trm.len_le ks;rw[ar4]at har;have har1:=har.1;have dg:DGet H p (.int c) (valV (encI 0 ws) (Sum.inl (c:Int))):=DGet.k (k:=Sum.inl (c:Int)) hp;rw[a8n,e1]at dg;ext;refine⟨p,_,rfl,dg,?_⟩;ext
  exists a0i hs (v:=.str appS) rfl
  refine iteB (λe=>absurd e qk) (λe=>?_);ext
  exists a0i hs (v:=.str appS) rfl
  refine iteB (λe=>absurd e qk) (λe=>?_);ext
  exists a0i hs (v:=.str sg) rfl
  exists a0i hs (v:=.int ks.length) rfl
  rw[if_neg (by omega:¬(4:Int)<(ks.length:Int))];ext;refine⟨(ks.length:Int),rfl,qo,qo,λD hD=>?_⟩;refine a2z (a1q 0 ((ks.length:Int)).toNat) (λi ys J=>Same H J/\J D=some (.lst ys)/\DenL K J ys (byL sl (ks.take i))) (ln qo) ⟨a0f hD _,a0b,by rw[Xb,byL];exact .nil⟩ (λ_ _ _ _=>trivial) (λi ys J Q' hi hl' hP kk=>?_) (λys J hl' hP=>?_)
  ·obtain⟨g1,g2,g3⟩:=hP;have hki:i<ks.length:=by omega
   have z1:=a7b (Za hki);ext
   exists a0i (g1.tup hs) (v:=.int f) rfl
   refine⟨ks[i],f+i,ws,th,sl,g1 _ _ hp,hT.mono g1,qo,d2q hL hki,qo,qo,(b3i.mp har.2) _ (Zx hki),λx J2 s2 dx=>?_⟩;have g6:J2 D=some (.lst ys):=s2 _ _ g2;refine kk _ _ g6 ⟨a1c (g1.trans s2) hD,a0b,?_⟩;rw[take_succ' hki,a6i,Zn,<-a6i];exact((g3.mono s2).append (.cons dx .nil)).lst g6
  obtain⟨g1,g2,g3⟩:=hP;rw[Zy qo]at g3;ext;refine b1u (SqL.of g2) (λp2 hp2=>?_);have s2:=a0f hp2 (.tup ys);have k2:(upd J p2 (.tup ys)) p2=some (.tup ys):=a0b;generalize upd J p2 (.tup ys)=J2 at s2 k2 ⊢;ext;refine⟨ln (by show 3<=100000;decide),λp3 hp3=>?_⟩;have s3:=a0f hp3 (.tup [.str "app",.str sg,.ref p2]);have ss:=s2.trans s3;exact q _ _ (g1.trans ss) (by rw[byD];exact .tup (SqT.of a0b) (.cons (.str _) (.cons (.str _) (.cons (.tup (SqT.of (s3 _ _ k2)) (g3.mono ss)) .nil))))
theorem c8q(T:Txt K mg t)  (n:Nat):FnOk P w K mg base CX0 (n+2) t.a_b2 t.d_b2 ["_law_there","_law_cell"] (a7v K n):=by
 induction n with
 |zero=>
  have no:∀vs H Q E,(a7v K 0) vs H Q E->False:=λvs H Q E h=>by
   revert vs
   walk_at "in";exactλh=>c8d h
  exact⟨λvs H Q E h=>(no vs H Q E h).elim,λA outer s H args us vs Q E _ _ _ _ h=>(no vs H Q E h).elim⟩
 |succ n ih=>
  have e:n+1+2=n+2+1:=by omega
  rw[e];exact c8p T  n ih
end
section
variable{P:Program}{w:World}{K:W.Frag}{mg:Str->Option Value}{base:Heap}{t:Ad}
theorem d2r{sl:Str->Nat}{th:Th}:∀{ks:List Trm}{f i:Nat},BtL sl th ks f->(hi:i<ks.length)->Bt sl th ks[i] (f+i)
 |k::ks,f,0,h,_=>by rw[BtL]at h;exact h.1
 |k::ks,f,i+1,h,hi=>by
  rw[BtL]at h;have:=d2r (i:=i) h.2 (by simpa using hi);rw[show f+(i+1)=f+1+i by omega];exact this
 | [],_,_,_,hi=>by simp at hi
theorem a6d(rs:List Rw)(r:Rw)(th:Th):thA (rs++[r]) th=th1 (thA rs th) r:=by rw[a9v];rfl
theorem b5k(rs:List Rw)(r:Rw)(m:List Nat):mA (rs++[r]) m=m1 (mA rs m) r:=by rw[d1k];rfl
theorem d5h:∀{rs:List Rw}{th:Th}{m:List Nat},Oks rs th m->(h:0<rs.length)->Ok1 th m rs[0]/\Oks (rs.drop 1) (th1 th rs[0]) (m1 m rs[0])
 |r::rs,th,m,h,_=>h
 | [],_,_,_,h=>by simp at h
theorem d2s(T:Txt K mg t)(G_b2:FnOk P w K mg base CX0 62 t.a_b2 t.d_b2 ["_law_there","_law_cell"] (a7v K 60)):FnOk P w K mg base CX0 63 t.a_d4 t.d_d4 ["_law_rows","_law_many"] (c1g K):=by
 exists T.F_d4.ok a4w,(a0e (a0p (i:=2) a4w.nd rfl (by nofun) a7x) (a0e (a1p Zv rfl (a2o rfl T.n_e9 (a0a (mv 1) a0c)) (a1a (i:=3) a4w.nd rfl (by nofun)) (a0g (a3e (a1h hr) (mv 2) (mv 3) a3i rfl))) (a0e (a0p (i:=4) a4w.nd rfl (by nofun) a0d) (a0e (b2v Zv (PW.pt (b1n (a0s b4y (mv 4) (a0r (a1k K rfl) rfl T.n_a3 Zq (a0a (mv 0) a0c)) (a0t _)) (a9r (a0s (b0g K rfl) (a0j (a0h K rfl) (a0j (a0h K rfl) (mv 0) (mv 4) (λ_ _=>rfl)) a0d (λ_ _=>rfl)) (a0x (a0a a0k (a0a a0k (a0a a0k (a0a a0k a0c))))) (by with_unfolding_all rfl))))) (a0e (a0p (i:=5) (hs:=a4q) a4w.nd rfl (by nofun) (a0j (a0h K rfl) (mv 0) (mv 4) (λ_ _=>rfl))) (a0e (a0y (PW.pt (a2x (a0s (b4z (a1h hr)) (a0j (a0h K rfl) (mv 5) a0d (λ_ _=>rfl)) (mv 2) (by with_unfolding_all rfl)) (a3j (a0s c5y (a2p (a1h hr) (mv 2) (a0j (a0h K rfl) (mv 5) a0d (λ_ _=>rfl)) (λ_ _=>rfl)) a3i (a0t _))))) (a0g (a0q a3i)) a0v) (a0e (a3e (a1h hr) (mv 2) (a0j (a0h K rfl) (mv 5) a0d (λ_ _=>rfl)) (mv 5) rfl) (a0e (a0y (a0s a1g (a0j (a0h K rfl) (mv 5) a0d (λ_ _=>rfl)) a0k (a0t _)) (a0g (a1p Zv rfl (a8o rfl T.n_e9 (a0a (a0j (a0h K rfl) (mv 5) a0d (λ_ _=>rfl)) (a0a (a0u (a1d K rfl) (a0j (a0h K rfl) (mv 5) a0d (λ_ _=>rfl)) (a0r (b3x rfl) rfl T.n_f7 Tj (a0a (a0j (a0h K rfl) (mv 5) a0d (λ_ _=>rfl)) (a0a a0d a0c)))) a0c))) (a1a (i:=3) a4w.nd rfl (by nofun)) (a0e (a0y (a0s (c3c (a1h hr)) (mv 3) (mv 2) (by with_unfolding_all rfl)) (a0g (a0q a3i)) a0v) (a0g (a3e (a1h hr) (mv 2) (mv 3) a3i rfl))))) a0v) (a0g (a0p (i:=4) (hs:=a3l) a4w.nd rfl (by nofun) (a0u (a1d K rfl) (mv 4) a0d)))))))) (a0e (c6d (a1p Zv rfl (c6c (mv 2)) (a1a (i:=3) a4w.nd rfl (by nofun)) (a0g (a0y (a0s b3z (a2p (a1h hr) (mv 2) (mv 3) (λ_ _=>rfl)) a3i (a0t _)) (a0g (a0q a3i)) a0v)))) (a0g (a0q (a0x (a0a (a2f (a8b K rfl) rfl T.n_f3 Wo (a0a (a5h rfl (a2o rfl T.n_e9 (a0a (mv 1) a0c)) (a3p (a0o b3f) ["_law_rows","_law_many","_law_there","_law_cell","_law_at","_law_row"] ["_law_rows","_law_many","_law_there","%_law_cell","_law_at","_law_row"] rfl rfl qk) (λ_ _ _ _ _=>a3o) (λ_ _ _ _ _=>(a0m G_b2 hr.o rfl T.m_b2 T.F_b2.kp T.b_b2 .nil a0n (a0a (mv 3) (a0a (mv 0) a0c))))) a0c)) (a0a (mv 4) a0c)))))))))),H,Q,E,hr,h
 rename_i a m;obtain⟨us,rs,rest,k,ks,sl,ha,hd,⟨tag0,els0,r2,rfl,ht0⟩,em,hk4,hrl,hO,hall,hul,hkl,har,hB,hz,q⟩:=h;subst em;have hnl:=hd.length;rw[length_map,Zc,length_map,length_cons]at hnl;ext;intro pt hpt;have s1:=a0f hpt (.dK []);have k1:(upd H pt (.dK [])) pt=some (.dK []):=a0b;generalize upd H pt (.dK [])=H1 at s1 k1 ⊢;ext;refine⟨(k:Int),rfl,qo,qo,?_⟩;refine a1t (a1q 0 ((k:Int)).toNat) (λi σ' J=>∃(o3:Option V),σ'=[some (.ref a),some (.int (k:Int)),some (.ref pt),o3,none,none]/\J pt=some (.dK (encI 0 (List.replicate i .non)))/\Same H J) ⟨none,rfl,k1,s1⟩ (λ_ _ _ _=>trivial) (λi σ' J hi hP=>?_) (λσ' J hP=>?_)
 ·obtain⟨o3,rfl,g1,g3⟩:=hP;ext;refine⟨pt,_,rfl,DPut.k (k:=Sum.inl (0+(i:Int))) g1 (by rw[a6c,Yc,Yb];omega),?_⟩;have hput:=c4p (ws:=List.replicate i V.non) (v:=V.non);rw[Yc,<-Sr]at hput;rw[show(0+(i:Int))=(i:Int) by omega,hput];have bb:=a1z (p:=pt) (H:=J) (o:=.dK (encI 0 (List.replicate (i+1) V.non)));exact⟨_,rfl,a0b,a4f g3 bb hpt⟩
 obtain⟨o3,rfl,g1,g3⟩:=hP;rw[show((k:Int)).toNat=k from Y5 _]at g1
 have tw0:TW K J (List.replicate k .non) (List.replicate k none):=⟨by rw[Yc,Yc],λj o e=>by
  have hj:=(Zh.mp e).1;rw[Yc]at hj;rw[Wc,if_pos hj]at e;cases e
  exact⟨.non,by rw[Wc,if_pos hj],rfl⟩⟩
 ext;refine b0q (λn σ' J=>∃(kk:Nat)(ws:List V)(o3 o5:Option V),σ'=[some (.ref a),some (.int (k:Int)),some (.ref pt),o3,some (.int (kk:Int)),o5]/\kk<=rs.length/\J pt=some (.dK (encI 0 ws))/\TW K J ws (thA (rs.take kk) (List.replicate k none))/\Oks (rs.drop kk) (thA (rs.take kk) (List.replicate k none)) (mA (rs.take kk) [])/\Same H J/\n=rs.length-kk/\ws.length<=204) (rs.length-0) ⟨0,List.replicate k .non,_,none,rfl,Yk _,g1,tw0,hO,g3,rfl,by rw[Yc];omega⟩ (λn σ' J hP0 hP kT kF=>?_);clear g1 g3 tw0;obtain⟨kk,ws,o3,o5,rfl,i1,i2,i4,i6,i7,hn0,i8⟩:=hP;ext
 exists a4k (SqL.of (i7 _ _ ha))
 refine iteB (λe=>?_) (λe=>absurd (Xm e) qo);ext
 by_cases hlt:kk<rs.length
 ·have ek:(rs.map rwK++(.inr tag0::els0)::r2)[kk]? =some (rwK rs[kk]):=by
   rw[Yl (by rw[length_map];exact hlt),Zs,Za hlt];rfl
  obtain⟨ar,atr,ltr,sqr⟩:=a9y hd ek;have sqr:=i7.tup sqr
  exists a1r (SqL.of (i7 _ _ ha)) atr
  obtain⟨tag,els,hte,htag⟩:=rw_tag rs[kk];have sqr':=sqr;rw[hte]at sqr'
  exists a0i sqr' (a5m tag els)
  refine⟨ln (by show 4<=100000;decide),λq1 hq1=>?_⟩;have sq1:Same J (upd J q1 (.tup [.str "slot",.str "same",.str "num",.str "app"])):=a0f hq1 _;have kq1:(upd J q1 (.tup [.str "slot",.str "same",.str "num",.str "app"])) q1=some (.tup [.str "slot",.str "same",.str "num",.str "app"]):=a0b;generalize upd J q1 (.tup [.str "slot",.str "same",.str "num",.str "app"])=J1 at sq1 kq1 ⊢;ext;refine a5j a4j (.inr (show SqT K J1 q1 (a4j.map V.str)from SqT.of kq1)) ?_;rw[Yg htag];ext;refine kT J1 (λD' e1 e2 hnx hct=>?_);have s03:=i7.trans sq1;have sqr:=sq1.tup sqr;have p3:=sq1 _ _ i2;have w3:=i4.mono sq1;ext
  exists a1r (SqL.of (s03 _ _ ha)) atr
  obtain⟨hok,hoks⟩:=d5h i6 (by rw[Ve];omega);have hr0:(rs.drop kk)[0]'(by rw[Ve];omega)=rs[kk]:=by rw[List.getElem_drop];rfl
  rw[hr0]at hok hoks;rw[List.drop_drop]at hoks;have d3:Den K J1 (.ref ar) (Rw.data rs[kk]):=by rw[c6s];exact b2r sqr
  have htk:rs.take (kk+1)=rs.take kk++[rs[kk]]:=take_succ' hlt;generalize hri:rs[kk]=rk at hok hoks d3 sqr;cases rk with
  |slot c n=>
   have hc0:(thA (rs.take kk) (List.replicate k none))[c]? =some none:=hok.1
   have hcl:c<ws.length:=by rw[i4.len];exact(Zh.mp hc0).1
   obtain⟨v0,hv0,hv0'⟩:=i4.at_ _ _ hc0;have hv0':v0=.non:=hv0';subst hv0';have dc:DGet J1 pt (.int c) (some .non):=by
    have:DGet J1 pt (.int c) (valV (encI 0 ws) (Sum.inl (c:Int))):=DGet.k (k:=Sum.inl (c:Int)) p3;rw[a8n,hv0]at this;exact this
   exists a0i sqr (v:=.int c) rfl
   refine⟨pt,_,rfl,dc,?_⟩;ext;refine iteB (λe=>absurd e qz) (λe=>?_);ext
   exists a0i sqr (v:=.int c) rfl
   refine⟨pt,_,rfl,dc,?_⟩;walk_at "A"
   exists a0i sqr (v:=.int c) rfl
   refine⟨pt,_,rfl,DPut.k (k:=Sum.inl (c:Int)) p3 (by rw[a6c,Yb];omega),?_⟩;rw[b3l hcl];have bb:But pt J1 (upd J1 pt (.dK (encI 0 (ws.set c (.ref ar))))):=a1z;have kb:(upd J1 pt (.dK (encI 0 (ws.set c (.ref ar))))) pt=some (.dK (encI 0 (ws.set c (.ref ar)))):=a0b;have tb:=a4h (K:=K) bb p3;have hsb:=tb _ _ sqr;have wb:=(w3.monoT tb).set (c:=c) (Den.monoT tb d3);have sb:=a4f s03 bb hpt;generalize upd J1 pt (.dK (encI 0 (ws.set c (.ref ar))))=B at bb kb hsb wb sb ⊢;ext
   exists a0i hsb (v:=.str b5d) rfl
   refine iteB (λe=>absurd e qk) (λe=>?_);ext;exact hnx _ _ (rs.length-(kk+1)) qo ⟨kk+1,_,_,_,rfl,qo,kb,by rw[htk,a6d,hri];exact wb,by rw[htk,a6d,b5k,hri];exact hoks,sb,rfl,by rw[Yi];exact i8⟩
  |same c n=>
   have hc0:(thA (rs.take kk) (List.replicate k none))[c]? =some none:=hok.1
   have hcl:c<ws.length:=by rw[i4.len];exact(Zh.mp hc0).1
   obtain⟨v0,hv0,hv0'⟩:=i4.at_ _ _ hc0;have hv0':v0=.non:=hv0';subst hv0';have dc:DGet J1 pt (.int c) (some .non):=by
    have:DGet J1 pt (.int c) (valV (encI 0 ws) (Sum.inl (c:Int))):=DGet.k (k:=Sum.inl (c:Int)) p3;rw[a8n,hv0]at this;exact this
   exists a0i sqr (v:=.int c) rfl
   refine⟨pt,_,rfl,dc,?_⟩;ext;refine iteB (λe=>absurd e qz) (λe=>?_);ext
   exists a0i sqr (v:=.int c) rfl
   refine⟨pt,_,rfl,dc,?_⟩;walk_at "A"
   exists a0i sqr (v:=.int c) rfl
   refine⟨pt,_,rfl,DPut.k (k:=Sum.inl (c:Int)) p3 (by rw[a6c,Yb];omega),?_⟩;rw[b3l hcl];have bb:But pt J1 (upd J1 pt (.dK (encI 0 (ws.set c (.ref ar))))):=a1z;have kb:(upd J1 pt (.dK (encI 0 (ws.set c (.ref ar))))) pt=some (.dK (encI 0 (ws.set c (.ref ar)))):=a0b;have tb:=a4h (K:=K) bb p3;have hsb:=tb _ _ sqr;have wb:=(w3.monoT tb).set (c:=c) (Den.monoT tb d3);have sb:=a4f s03 bb hpt;generalize upd J1 pt (.dK (encI 0 (ws.set c (.ref ar))))=B at bb kb hsb wb sb ⊢;ext
   exists a0i hsb (v:=.str b5e) rfl
   refine iteB (λe=>absurd e qk) (λe=>?_);ext;exact hnx _ _ (rs.length-(kk+1)) qo ⟨kk+1,_,_,_,rfl,qo,kb,by rw[htk,a6d,hri];exact wb,by rw[htk,a6d,b5k,hri];exact hoks,sb,rfl,by rw[Yi];exact i8⟩
  |num c n=>
   have hc0:(thA (rs.take kk) (List.replicate k none))[c]? =some none:=hok.1
   have hcl:c<ws.length:=by rw[i4.len];exact(Zh.mp hc0).1
   obtain⟨v0,hv0,hv0'⟩:=i4.at_ _ _ hc0;have hv0':v0=.non:=hv0';subst hv0';have dc:DGet J1 pt (.int c) (some .non):=by
    have:DGet J1 pt (.int c) (valV (encI 0 ws) (Sum.inl (c:Int))):=DGet.k (k:=Sum.inl (c:Int)) p3;rw[a8n,hv0]at this;exact this
   exists a0i sqr (v:=.int c) rfl
   refine⟨pt,_,rfl,dc,?_⟩;ext;refine iteB (λe=>absurd e qz) (λe=>?_);ext
   exists a0i sqr (v:=.int c) rfl
   refine⟨pt,_,rfl,dc,?_⟩;walk_at "A"
   exists a0i sqr (v:=.int c) rfl
   refine⟨pt,_,rfl,DPut.k (k:=Sum.inl (c:Int)) p3 (by rw[a6c,Yb];omega),?_⟩;rw[b3l hcl];have bb:But pt J1 (upd J1 pt (.dK (encI 0 (ws.set c (.ref ar))))):=a1z;have kb:(upd J1 pt (.dK (encI 0 (ws.set c (.ref ar))))) pt=some (.dK (encI 0 (ws.set c (.ref ar)))):=a0b;have tb:=a4h (K:=K) bb p3;have hsb:=tb _ _ sqr;have wb:=(w3.monoT tb).set (c:=c) (Den.monoT tb d3);have sb:=a4f s03 bb hpt;generalize upd J1 pt (.dK (encI 0 (ws.set c (.ref ar))))=B at bb kb hsb wb sb ⊢;ext
   exists a0i hsb (v:=.str numS) rfl
   refine iteB (λe=>absurd e qk) (λe=>?_);ext;exact hnx _ _ (rs.length-(kk+1)) qo ⟨kk+1,_,_,_,rfl,qo,kb,by rw[htk,a6d,hri];exact wb,by rw[htk,a6d,b5k,hri];exact hoks,sb,rfl,by rw[Yi];exact i8⟩
  |app c gg k2 f=>
   have hc0:(thA (rs.take kk) (List.replicate k none))[c]? =some none:=hok.1
   have hcl:c<ws.length:=by rw[i4.len];exact(Zh.mp hc0).1
   obtain⟨v0,hv0,hv0'⟩:=i4.at_ _ _ hc0;have hv0':v0=.non:=hv0';subst hv0';have dc:DGet J1 pt (.int c) (some .non):=by
    have:DGet J1 pt (.int c) (valV (encI 0 ws) (Sum.inl (c:Int))):=DGet.k (k:=Sum.inl (c:Int)) p3;rw[a8n,hv0]at this;exact this
   exists a0i sqr (v:=.int c) rfl
   refine⟨pt,_,rfl,dc,?_⟩;ext;refine iteB (λe=>absurd e qz) (λe=>?_);ext
   exists a0i sqr (v:=.int c) rfl
   refine⟨pt,_,rfl,dc,?_⟩;walk_at "A"
   exists a0i sqr (v:=.int c) rfl
   refine⟨pt,_,rfl,DPut.k (k:=Sum.inl (c:Int)) p3 (by rw[a6c,Yb];omega),?_⟩;rw[b3l hcl];have bb:But pt J1 (upd J1 pt (.dK (encI 0 (ws.set c (.ref ar))))):=a1z;have kb:(upd J1 pt (.dK (encI 0 (ws.set c (.ref ar))))) pt=some (.dK (encI 0 (ws.set c (.ref ar)))):=a0b;have tb:=a4h (K:=K) bb p3;have hsb:=tb _ _ sqr;have wb:=(w3.monoT tb).set (c:=c) (Den.monoT tb d3);have sb:=a4f s03 bb hpt;generalize upd J1 pt (.dK (encI 0 (ws.set c (.ref ar))))=B at bb kb hsb wb sb ⊢;ext
   exists a0i hsb (v:=.str appS) rfl
   refine iteB (λe=>?_) (λe=>absurd e qk);have h2:f=(thA (rs.take kk) (List.replicate k none)).length/\k2<=4/\f+k2<=200:=hok.2;obtain⟨h2,h3,h4⟩:=h2;have hfl:f=ws.length:=by rw[h2,i4.len]
   ext
   exists a0i hsb (v:=.int f) rfl
   exists a0i hsb (v:=.int f) rfl
   exists a0i hsb (v:=.int k2) rfl
   rw[if_neg (by omega:¬(4:Int)<(k2:Int))];ext;refine⟨(f:Int),(f:Int)+(k2:Int),rfl,⟨qo,qo,qo,qo⟩,?_⟩;refine a1t (a1q (f:Int) ((f:Int)+(k2:Int)-(f:Int)).toNat) (λi σ' L=>∃(o3:Option V),σ'=[some (.ref a),some (.int (k:Int)),some (.ref pt),o3,some (.int (kk:Int)),some (.ref ar)]/\L pt=some (.dK (encI 0 (ws.set c (.ref ar)++List.replicate i .non)))/\TW K L (ws.set c (.ref ar)++List.replicate i .non) ((thA (rs.take kk) (List.replicate k none)).set c (some (.app c gg k2 f))++List.replicate i none)/\Same H L) ⟨_,rfl,by rw[Uq,Z7];exact kb,by rw[Uq,Z7,Uq,Z7];exact wb,sb⟩ (λ_ _ _ _=>trivial) (λi σ' L hi hP=>?_) (λσ' L hP=>?_)
   ·obtain⟨o3,rfl,l1,l2,l4⟩:=hP;have hlw:((ws.set c (.ref ar)++List.replicate i .non):List V).length=f+i:=by rw[Zc,Yi,Yc,hfl]
    have dn:DGet L pt (.int ((f:Int)+(i:Int))) none:=by
     have:DGet L pt (.int ((f:Int)+(i:Int))) (valV (encI 0 (ws.set c (.ref ar)++List.replicate i .non)) (Sum.inl ((f+i:Nat):Int))):=DGet.k (k:=Sum.inl ((f+i:Nat):Int)) l1;rw[a8n,Yj (by rw[hlw];omega)]at this;exact this
    ext;refine⟨pt,_,rfl,dn,?_⟩;ext;refine iteB (λe=>absurd e qz) (λe=>?_);ext;refine⟨pt,_,rfl,DPut.k (k:=Sum.inl ((f:Int)+(i:Int))) l1 (by rw[a6c,hlw,Yb];omega),?_⟩;have hput:=c4p (ws:=ws.set c (.ref ar)++List.replicate i .non) (v:=V.non);rw[hlw]at hput;rw[show((f:Int)+(i:Int))=((f+i:Nat):Int) by omega,hput];have b6:=a1z (p:=pt) (H:=L) (o:=.dK (encI 0 ((ws.set c (.ref ar)++List.replicate i .non)++[V.non])));have t6:=a4h (K:=K) b6 l1;refine⟨_,rfl,by rw[b7a];exact a0b,by rw[b7a,b7a];exact(l2.snoc).monoT t6,a4f l4 b6 hpt⟩
   obtain⟨o3,rfl,l1,l2,l4⟩:=hP;rw[show((f:Int)+(k2:Int)-(f:Int)).toNat=k2 by omega]at l1 l2;ext;exact hnx _ _ (rs.length-(kk+1)) qo ⟨kk+1,_,_,_,rfl,qo,l1,by rw[htk,a6d,hri];exact l2,by rw[htk,a6d,b5k,hri];exact hoks,l4,rfl,by rw[Zc,Yi,Yc];omega⟩
 ·have hkk:kk=rs.length:=by omega
  subst hkk;have ek:(rs.map rwK++(.inr tag0::els0)::r2)[rs.length]? =some (.inr tag0::els0):=by
   rw[Yy (by rw[length_map];exact Zg _),length_map,U4];rfl
  obtain⟨ar,atr,ltr,sqr⟩:=a9y hd ek
  exists a1r (SqL.of (i7 _ _ ha)) atr
  exists a0i (i7.tup sqr) (a5m tag0 els0)
  refine⟨ln (by show 4<=100000;decide),λq1 hq1=>?_⟩;have sq1:Same J (upd J q1 (.tup [.str "slot",.str "same",.str "num",.str "app"])):=a0f hq1 _;have kq1:(upd J q1 (.tup [.str "slot",.str "same",.str "num",.str "app"])) q1=some (.tup [.str "slot",.str "same",.str "num",.str "app"]):=a0b;generalize upd J q1 (.tup [.str "slot",.str "same",.str "num",.str "app"])=J2 at sq1 kq1 ⊢;ext;refine a5j a4j (.inr (show SqT K J2 q1 (a4j.map V.str)from SqT.of kq1)) ?_;rw[Z4 ht0];ext;refine kF J2 ?_;rw[Xx]at i4;have p2:=sq1 _ _ i2;have w2:=i4.mono sq1;have s02:=i7.trans sq1;ext;generalize NFz _=NF;refine⟨pt,_,rfl,p2,λo nf=>?_⟩;have b1:But pt J2 (upd J2 pt (.frz o (.dK (encI 0 ws)))):=a1z;have f1:(upd J2 pt (.frz o (.dK (encI 0 ws)))) pt=some (.frz o (.dK (encI 0 ws))):=a0b;generalize upd J2 pt (.frz o (.dK (encI 0 ws)))=F at b1 f1 ⊢;refine a1t c3k (λi σ' L=>∃(o3:Option V),σ'=[some (.ref a),some (.int (k:Int)),some (.ref pt),o3,some (.int ((rs.length:Nat):Int)),o5]/\L=F) ⟨_,rfl,rfl⟩ (λi σ' L hP=>by obtain⟨_,_,h⟩:=hP;rw[h];exact f1) (λi σ' L hi hP=>?_) (λσ' L hP=>?_)
  ·obtain⟨o3,rfl,rfl⟩:=hP;rw[a6c]at hi;rw[c6v ws 0 i hi];obtain⟨r,hr⟩:=hall i (by rw[<-w2.len];exact hi);obtain⟨v0,e1,e2⟩:=w2.at_ _ _ hr;have hvr:∃ar,v0=.ref ar:=by
    cases r with
    |slot _ _=>obtain⟨ar,e,_⟩:=den3 e2;exact⟨ar,e⟩
    |same _ _=>obtain⟨ar,e,_⟩:=den3 e2;exact⟨ar,e⟩
    |num _ _=>obtain⟨ar,e,_⟩:=den3 e2;exact⟨ar,e⟩
    |app _ _ _ _=>obtain⟨ar,e,_⟩:=den5 e2;exact⟨ar,e⟩
   obtain⟨ar,rfl⟩:=hvr;have dg:DGet L pt (.int ((0+i:Nat):Int)) (valV (encI 0 ws) (Sum.inl ((0+i:Nat):Int))):=.inl ⟨_,Sum.inl ((0+i:Nat):Int),.inr ⟨o,f1⟩,rfl,rfl⟩;rw[valI,e1]at dg;ext;refine⟨pt,_,rfl,dg,?_⟩;walk_at "A";exact⟨_,rfl,rfl⟩
  obtain⟨o3,rfl,rfl⟩:=hP;refine⟨pt,o,_,nf,f1,?_⟩;have sZ:Same J2 (upd L pt (.dK (encI 0 ws))):=λb u e=>by
   by_cases hb:b=pt
   ·rw[hb,p2]at e;rw[hb,<-e];exact a0b
   ·rw[a0l hb];exact b1 _ _ hb e
  have kZ:(upd L pt (.dK (encI 0 ws))) pt=some (.dK (encI 0 ws)):=a0b;generalize upd L pt (.dK (encI 0 ws))=Z at sZ kZ ⊢;have wZ:=w2.mono sZ;have s0Z:=s02.trans sZ;ext;refine⟨(k:Int),rfl,qo,qo,λD hD=>?_⟩;refine a2z (a1q 0 ((k:Int)).toNat) (λi ys J=>Same Z J/\J D=some (.lst ys)/\DenL K J ys (byL sl (ks.take i))) (ln qo) ⟨a0f hD _,a0b,by rw[Xb,byL];exact .nil⟩ (λ_ _ _ _=>trivial) (λi ys J Q' hi hl' hP kk2=>?_) (λys J hl' hP=>?_)
  ·obtain⟨g1,g2,g3⟩:=hP;have hki:i<ks.length:=by omega
   have z1:=a7b (Za hki);ext;refine⟨ks[i],i,ws,_,sl,g1 _ _ kZ,wZ.mono g1,qo,by have:=d2r hB hki;rwa[Ye]at this,qo,qd,(b3i.mp har) _ (Zx hki),λx J2 s2 dx=>?_⟩;have g6:J2 D=some (.lst ys):=s2 _ _ g2;refine kk2 _ _ g6 ⟨a1c (g1.trans s2) hD,a0b,?_⟩;rw[take_succ' hki,a6i,Zn,<-a6i];exact((g3.mono s2).append (.cons dx .nil)).lst g6
  obtain⟨g1,g2,g3⟩:=hP;rw[Zy qo]at g3;ext;refine b1u (SqL.of g2) (λp2 hp2=>?_);have s2:=a0f hp2 (.tup ys);have k2:(upd J p2 (.tup ys)) p2=some (.tup ys):=a0b;generalize upd J p2 (.tup ys)=J2 at s2 k2 ⊢;ext;refine⟨ln (by show 2<=100000;decide),λp9 hp9=>?_⟩;have s9:=a0f hp9 (.tup [.ref p2,.int ((rs.length:Nat):Int)]);exact q p9 p2 ys _ (s0Z.trans (g1.trans (s2.trans s9))) a0b (s9 _ _ k2) (g3.mono (s2.trans s9))
end
section
variable{P:Program}{w:World}{K:W.Frag}{mg:Str->Option Value}{base:Heap}{t:Ad}
theorem a4b(kvs:List (Key×V))(k:Key)(v:V):(putK kvs k v).length<=kvs.length+1:=by
 unfold putK
 split
 ·rw[length_map];omega
 ·rw[Zc];simp
noncomputable def a9z:List (Key×V):=a0z [] [(Sum.inr (ofString "equal"),.str "="),(Sum.inr (ofString "reckon"),.str ":="),(Sum.inr (ofString "less"),.str "<"),(Sum.inr (ofString "atmost"),.str "<=")]
theorem d5i(m:Mk):valV a9z (Sum.inr m.tag)=some (.str m.sign):=by cases m<;>kernel_rfl
theorem d5j{K:W.Frag}{H:Hp}{sl:Str->Nat}{kvs:List (Key×V)}{f:Ce}{pc:Addr}{j:Nat}{t:Trm}(h:H pc=some (.dK kvs))(c:CeOk K H sl kvs f)(e:f j=some t):∃v,DGet H pc (.int (j:Int)) (some v)/\Den K H v (byD sl t):=by
 obtain⟨v,h1,h2⟩:=c j t e;have:DGet H pc (.int (j:Int)) (valV kvs (Sum.inl (j:Int))):=DGet.k (k:=Sum.inl (j:Int)) h;rw[h1]at this;exact⟨v,this,h2⟩
theorem c8r(T:Txt K mg t)  :FnOk P w K mg base CX0 1 t.a_b4 t.d_b4 ["_law_cells","_law_first","_law_many"] (b8x K):=by
 exists T.F_b4.ok c7z,(a0g (a0q (a2f (a8b K rfl) rfl T.n_f3 Wo (a0a (a5h rfl (a8o rfl T.n_e9 (a0a (mv 1) (a0a (a0u (a1d K rfl) (mv 1) (a0r (b3x rfl) rfl T.n_f7 Tj (a0a (mv 2) (a0a a0d a0c)))) a0c))) (a3p (a0o b0v) ["_law_cells","_law_first","_law_many"] ["_law_cells","_law_first","_law_many"] rfl rfl qk) (λ_ _ _ _ _=>a3o) (λ_ _ _ _ _=>(d3g (a1h hr) (mv 1) (mv 0) ⟨rfl,rfl,rfl,rfl⟩))) a0c)))),H,Q,E,hr,h
 rename_i pc a m;obtain⟨sl,kvs,f,ks,n,hpc,hce,rfl,rfl,hk4,hn,hf,q⟩:=h;ext;rw[if_neg (by omega:¬(5:Int)<(ks.length:Int))];ext;refine⟨(n:Int),(n:Int)+(ks.length:Int),rfl,⟨qo,qo,qo,qo⟩,λD hD=>?_⟩;refine a2z (a1q (n:Int) ((n:Int)+(ks.length:Int)-(n:Int)).toNat) (λi ys J=>Same H J/\J D=some (.lst ys)/\DenL K J ys (byL sl (ks.take i))) (ln qo) ⟨a0f hD _,a0b,by rw[Xb,byL];exact .nil⟩ (λ_ _ _ _=>trivial) (λi ys J Q' hi hl' hP kk=>?_) (λys J hl' hP=>?_)
 ·obtain⟨g1,g2,g3⟩:=hP;have hki:i<ks.length:=by omega
  obtain⟨v,dv,hv⟩:=d5j (g1 _ _ hpc) (hce.mono g1) (hf i hki);ext;unfold c9q;ext;refine⟨pc,rfl,.inl ⟨kvs,.inl (g1 _ _ hpc)⟩,?_⟩;ext;refine⟨some v,dv,?_⟩;refine kk _ _ g2 ⟨a1c g1 hD,a0b,?_⟩;rw[take_succ' hki,a6i,Zn,<-a6i];exact(g3.append (.cons hv .nil)).lst g2
 obtain⟨g1,g2,g3⟩:=hP;rw[Zy qo]at g3;ext;refine b1u (SqL.of g2) (λp2 hp2=>?_);have s2:=a0f hp2 (.tup ys);exact q p2 ys _ (g1.trans s2) a0b (g3.mono s2)
theorem c0f(T:Txt K mg t)(G_b4:FnOk P w K mg base CX0 1 t.a_b4 t.d_b4 ["_law_cells","_law_first","_law_many"] (b8x K)):FnOk P w K mg base CX0 2 t.a_d3 t.d_d3 ["_law_rows","_law_at"] (b2s K):=by
 refine T.F_d3.ok a3g (λvs H Q E h=>?_) (λcdv A outer s H vs Q E hr h=>?_)
 ·revert vs
  walk_at "in";exactλ_=>rfl
 revert vs
 walk_at "in";intro h;refine⟨_,(@QSs.pss _ _ _ (a2s (d0m (i:=2) a3g.nd rfl (by nofun) (b5a (a2c a0k a0k (a2c a0k a0k (a2c a0k a0k (a2c a0k a0k b8b)))) rfl rfl qz qd) rfl (by nofun)) (a2s (a8l (a0p (i:=3) a3g.nd rfl (by nofun) a7x)) (a2s (a8l (b2v Zv (PW.pt (b1n (a0s b4y (mv 1) (a0r (a1k K rfl) rfl T.n_a3 Zq (a0a (mv 0) a0c)) (a0t _)) (a9r (a0s (b0g K rfl) (a0j (a0h K rfl) (a0j (a0h K rfl) (mv 0) (mv 1) (λ_ _=>rfl)) a0d (λ_ _=>rfl)) (a0x (a0a a0k (a0a a0k (a0a a0k a0c)))) (by with_unfolding_all rfl))))) (a0e (a0p (i:=4) (hs:=a4q) a3g.nd rfl (by nofun) (a0j (a0h K rfl) (mv 0) (mv 1) (λ_ _=>rfl))) (a0e (a0y (a0s a1g (a0j (a0h K rfl) (mv 4) a0d (λ_ _=>rfl)) a0k (a0t _)) (a0g (a3e (a1h hr) (mv 3) (a0j (a0h K rfl) (mv 4) a0d (λ_ _=>rfl)) (a0x (a0a a0k (a0a (a0j (a0h K rfl) (mv 4) a0d (λ_ _=>rfl)) a0c))) rfl)) (a0g (a0y (a0s a1g (a0j (a0h K rfl) (mv 4) a0d (λ_ _=>rfl)) a0k (a0t _)) (a0g (a3e (a1h hr) (mv 3) (a0j (a0h K rfl) (mv 4) a0d (λ_ _=>rfl)) (a0x (a0a a0k (a0a (a0j (a0h K rfl) (mv 4) a0d (λ_ _=>rfl)) a0c))) rfl)) (a0g (a3e (a1h hr) (mv 3) (a0j (a0h K rfl) (mv 4) a0d (λ_ _=>rfl)) (a0x (a0a a0k (a0a (a0j (a0h K rfl) (mv 4) a0d (λ_ _=>rfl)) (a0a (a0m G_b4 hr.o rfl T.m_b4 T.F_b4.kp T.b_b4 .nil a0n (a0a (mv 3) (a0a (a0j (a0h K rfl) (mv 4) a0d (λ_ _=>rfl)) (a0a (a0j (a0h K rfl) (mv 4) a0d (λ_ _=>rfl)) a0c)))) a0c)))) rfl))))) (a0g (a0p (i:=1) (hs:=a3l) a3g.nd rfl (by nofun) (a0u (a1d K rfl) (mv 1) a0d))))))) (a2s (b5b (a0s a1g (mv 1) (a0r (a1k K rfl) rfl T.n_a3 Zq (a0a (mv 0) a0c)) (a0t _)) (a7h (a8l (a0q (a0x (a0a a3i (a0a (mv 1) a0c)))))) a9u) (a2s (a8l (a0p (i:=4) (hs:=a4q) a3g.nd rfl (by nofun) (a0j (a0h K rfl) (mv 0) (mv 1) (λ_ _=>rfl)))) (a2s (b5b (a0s a1g (a0j (a0h K rfl) (mv 4) a0d (λ_ _=>rfl)) a0k (a0t _)) (a7h (c3i (a8u (a3w (a8u (a3w (a7p a0k) (a3w (a7p a0k) (a3w (a8u a8t) a8t rfl) rfl) rfl)) (a3w (a7p (a0u (a1d K rfl) (mv 1) a0d)) a8t rfl) rfl)))) a9u) (a2s (b5b (a0s (c3c (a1h hr)) (a0j (a0h K rfl) (mv 4) a0d (λ_ _=>rfl)) (mv 2) (by with_unfolding_all rfl)) (a7h (c3i (a8u (a3w (a8u (a3w (a7p a0k) (a3w (a7p (a2p (a1h hr) (mv 2) (a0j (a0h K rfl) (mv 4) a0d (λ_ _=>rfl)) (λ_ _=>rfl))) (a3w (a7p (a0m G_b4 hr.o rfl T.m_b4 T.F_b4.kp T.b_b4 .nil a0n (a0a (mv 3) (a0a a0d (a0a a0d a0c))))) a8t rfl) rfl) rfl)) (a3w (a7p (a0u (a1d K rfl) (mv 1) a0d)) a8t rfl) rfl)))) a9u) (a2s (b5b (a0s (c6a K rfl) (a0j (a0h K rfl) (mv 4) a0d (λ_ _=>rfl)) (a0x (a0a a0k (a0a a0k (a0a a0k a0c)))) (by with_unfolding_all rfl)) (a7h (a8l (a0q (a0x (a0a a3i (a0a (a0u (a1d K rfl) (mv 1) a0d) a0c)))))) a9u) (a2s (a8l (a0p (i:=5) (hs:=sw_tup) a3g.nd rfl (by nofun) (a0x (a0a a0k (a0a (a0j (a0h K rfl) (mv 4) a0d (λ_ _=>rfl)) (a0a (a0m G_b4 hr.o rfl T.m_b4 T.F_b4.kp T.b_b4 .nil a0n (a0a (mv 3) (a0a a0d (a0a (a0j (a0h K rfl) (mv 4) a0d (λ_ _=>rfl)) a0c)))) a0c)))))) (a2s (b5b (a0s a1g (a0j (a0h K rfl) (mv 4) a0d (λ_ _=>rfl)) a0k (a0t _)) (a7h (c3i (a8u (a3w (a8u (a3w (a7p a0k) (a3w (a7p a0k) (a3w (a8u (a3w (a7p (mv 5)) a8t rfl)) a8t rfl) rfl) rfl)) (a3w (a7p (a0u (a1d K rfl) (mv 1) a0d)) a8t rfl) rfl)))) a9u) (a7h (a8l (a0q (a0x (a0a (mv 5) (a0a (a0u (a1d K rfl) (mv 1) a0d) a0c))))))))))))))))),?_⟩;rename_i pr a;obtain⟨sl,us,kss,g,call,n,hpr,hd,rfl,hrow,hcall,hok,hz30,har,hk4,hul,q⟩:=h;have hkl:=hd.length;rw[length_map]at hkl;ext;intro d1 hd1;ext;refine⟨a0b,[(Sum.inr (ofString "equal"),.str "="),(Sum.inr (ofString "reckon"),.str ":="),(Sum.inr (ofString "less"),.str "<"),(Sum.inr (ofString "atmost"),.str "<=")],rfl,qd,?_⟩;have sd1:Same H (upd (upd H d1 (.dK [])) d1 (.dK (a0z [] [(Sum.inr (ofString "equal"),.str "="),(Sum.inr (ofString "reckon"),.str ":="),(Sum.inr (ofString "less"),.str "<"),(Sum.inr (ofString "atmost"),.str "<=")]))):=λb o e=>by
  rw[a0l (λz=>by rw[z,hd1]at e;cases e),a0l (λz=>by rw[z,hd1]at e;cases e)];exact e
 have kd1:(upd (upd H d1 (.dK [])) d1 (.dK (a0z [] [(Sum.inr (ofString "equal"),.str "="),(Sum.inr (ofString "reckon"),.str ":="),(Sum.inr (ofString "less"),.str "<"),(Sum.inr (ofString "atmost"),.str "<=")]))) d1=some (.dK a9z):=a0b;generalize upd (upd H d1 (.dK [])) d1 (.dK (a0z [] [(Sum.inr (ofString "equal"),.str "="),(Sum.inr (ofString "reckon"),.str ":="),(Sum.inr (ofString "less"),.str "<"),(Sum.inr (ofString "atmost"),.str "<=")]))=H1 at sd1 kd1 ⊢;ext;intro pc hpc;have s2:=a0f hpc (.dK []);have k2:(upd H1 pc (.dK [])) pc=some (.dK []):=a0b;have hpc0:H pc=none:=a2b sd1 hpc;have ndp:d1≠pc:=a1m kd1 hpc;generalize upd H1 pc (.dK [])=H2 at s2 k2 ⊢;have s02:=sd1.trans s2;ext;generalize hbs:brL g.kids 0 g.kids.length=bs;have hbl:bs.length=Trm.sizeL g.kids:=by rw[<-hbs,b2b]
 have zk:=g.kids_size;have zl:=Trm.len_le g.kids;obtain⟨hoks,ceK,_⟩:=rdB_L g.kids 0 g.kids.length (λ_=>none) qo qo har;have hfl:∀r∈bs,bldLe 1000 r:=by rw[<-hbs];exact brL_f g.kids 0 g.kids.length 1000 qo
 rw[hbs]at hoks ceK;have egk:gK sl call g=bs.map (brK sl)++[goK call g]:=by rw[gK,hbs]
 have hb:∀i (h:i<bs.length),kss[n+i]? =some (brK sl bs[i]):=λi h=>by
  rw[hrow i (by rw[c4q];omega),egk,Yl (by rw[length_map];exact h),Zs,Za h];rfl
 have hgo:kss[n+bs.length]? =some (goK call g):=by
  rw[hrow _ (by rw[c4q];omega),egk,Yy (by rw[length_map];exact Zg _),length_map,U4];rfl
 refine b0q (λm σ' J=>∃(i:Nat)(kvs:List (Key×V))(o4 o5:Option V),σ'=[some (.ref pr),some (.int ((n+i:Nat):Int)),some (.ref d1),some (.ref pc),o4,o5]/\i<=bs.length/\m=bs.length-i/\Same H J/\J d1=some (.dK a9z)/\J pc=some (.dK kvs)/\kvs.length<=i/\CeOk K J sl kvs (ceA (bs.take i) (λ_=>none))) bs.length ⟨0,[],none,none,rfl,Yk _,rfl,s02,s2 _ _ kd1,k2,Zg _,λj t h=>by cases h⟩ (λm σ' J R hP kT kF=>?_);obtain⟨i,kvs,o4,o5,rfl,hi,em,g1,gd1,g3,g4,g5⟩:=hP;have gpr:=g1 _ _ hpr;have gd:=hd.mono g1;ext
 exists a4k (SqL.of gpr)
 have hlt:n+i<us.length:=by
  have:=(Zh.mp hgo).1;omega
 refine iteB (λe=>?_) (λe=>absurd (Xm e) qo);ext;rcases T7 i bs.length with hib|hib
 ·obtain⟨ar,hat,_,harr⟩:=a9y gd (hb i hib)
  exists a1r (SqL.of gpr) hat
  obtain⟨tag,els,hte,htag⟩:∃tag els,brK sl bs[i]=.inr tag::els/\tag∈[putS,a9o,bldS]:=by
   cases bs[i]with
   |put c x=>exact⟨_,_,rfl,qz⟩
   |pnum c x=>exact⟨_,_,rfl,qz⟩
   |bld c g k f=>exact⟨_,_,rfl,qz⟩
  have harr':=harr;rw[hte]at harr'
  exists a0i harr' (a5m tag els)
  refine⟨ln (by show 3<=100000;decide),λq1 hq1=>?_⟩;have sq1:Same J (upd J q1 (.tup [.str "put",.str "putnum",.str "build"])):=a0f hq1 _;have kq1:(upd J q1 (.tup [.str "put",.str "putnum",.str "build"])) q1=some (.tup [.str "put",.str "putnum",.str "build"]):=a0b;generalize upd J q1 (.tup [.str "put",.str "putnum",.str "build"])=J1 at sq1 kq1 ⊢;ext;refine a5j [putS,a9o,bldS] (.inr (SqT.of kq1)) ?_;rw[Yg htag];ext;refine kT J1 (λD' e1 e2 hnx hct=>?_);have f1:=g1.trans sq1;have f3:=sq1 _ _ g3;have fd1:=sq1 _ _ gd1;have fpr:=sq1 _ _ gpr;have f5:=g5.mono sq1;have har:=sq1.tup harr;have ho:=c6j hoks hib;have hfi:=hfl _ (Zx hib);have htk:=d4i (rs:=bs) hib (λ_=>none);have NX:∀(J2:Hp)(kv2:List (Key×V))(o4 o5:Option V),But pc J1 J2->J2 pc=some (.dK kv2)->kv2.length<=i+1->CeOk K J2 sl kv2 (ce1 (ceA (bs.take i) (λ_=>none)) bs[i])->D'.nx [some (.ref pr),some (.int ((n+i:Nat)+1)),some (.ref d1),some (.ref pc),o4,o5] J2:=λJ2 kv2 o4 o5 k1 k3 k4 k5=>
   hnx _ _ (bs.length-(i+1)) qo ⟨i+1,kv2,o4,o5,rfl,hib,rfl,a4f f1 k1 hpc0,k1 _ _ ndp fd1,k3,k4,by rw[htk];exact k5⟩
  ext
  exists a1r (SqL.of fpr) hat
  generalize bs[i]=r at har ho hfi NX;obtain⟨ho1,ho2⟩:=ho;cases r with
  |put c x=>
   exists a0i har (v:=.str putS) rfl
   refine iteB (λe=>?_) (λe=>absurd e qk);ext
   exists a0i har (v:=.int (sl x)) rfl
   refine⟨ln (by show 2<=100000;decide),λq2 hq2=>?_⟩;have sq2:Same J1 (upd J1 q2 (.tup [.str "any",.int (sl x)])):=a0f hq2 _;have kq2:(upd J1 q2 (.tup [.str "any",.int (sl x)])) q2=some (.tup [.str "any",.int (sl x)]):=a0b;generalize upd J1 q2 (.tup [.str "any",.int (sl x)])=J2 at sq2 kq2 ⊢;ext
   exists a0i (sq2.tup har) (v:=.int (c:Int)) rfl
   refine⟨pc,_,rfl,DPut.k (k:=Sum.inl (c:Int)) (sq2 _ _ f3) (ln1 qo),?_⟩;ext;have lp:=a4b kvs (Sum.inl (c:Int):Key) (.ref q2);refine NX _ _ _ _ (sq2.but.trans a1z) a0b qo ?_;exact((f5.mono sq2).put (r:=.put c x) (by rw[Br.trm,byD];exact .tup (SqT.of kq2) (.cons (.str _) (.cons (.int _) .nil)))).monoT (a4h a1z (sq2 _ _ f3))
  |pnum c x=>
   exists a0i har (v:=.str a9o) rfl
   refine iteB (λe=>absurd e qk) (λe=>?_);ext
   exists a0i har (v:=.str a9o) rfl
   refine iteB (λe=>?_) (λe=>absurd e qk);ext
   exists a0i har (v:=.int x) rfl
   refine⟨ln (by show 2<=100000;decide),λq2 hq2=>?_⟩;have sq2:Same J1 (upd J1 q2 (.tup [.str "num",.int x])):=a0f hq2 _;have kq2:(upd J1 q2 (.tup [.str "num",.int x])) q2=some (.tup [.str "num",.int x]):=a0b;generalize upd J1 q2 (.tup [.str "num",.int x])=J2 at sq2 kq2 ⊢;ext
   exists a0i (sq2.tup har) (v:=.int (c:Int)) rfl
   refine⟨pc,_,rfl,DPut.k (k:=Sum.inl (c:Int)) (sq2 _ _ f3) (ln1 qo),?_⟩;ext;have lp:=a4b kvs (Sum.inl (c:Int):Key) (.ref q2);refine NX _ _ _ _ (sq2.but.trans a1z) a0b qo ?_;exact((f5.mono sq2).put (r:=.pnum c x) (by rw[Br.trm,byD];exact .tup (SqT.of kq2) (.cons (.str _) (.cons (.int _) .nil)))).monoT (a4h a1z (sq2 _ _ f3))
  |bld c sg k f=>
   obtain⟨hk4,hkf⟩:=ho2
   exists a0i har (v:=.str bldS) rfl
   refine iteB (λe=>absurd e qk) (λe=>?_);ext
   exists a0i har (v:=.str bldS) rfl
   refine iteB (λe=>absurd e qk) (λe=>?_);ext
   exists a0i har (v:=.str sg) rfl
   exists a0i har (v:=.int f) rfl
   exists a0i har (v:=.int k.length) rfl
   refine⟨sl,kvs,_,k,f,f3,f5,rfl,rfl,hk4,hfi,hkf,λrk uk J3 s3 kr dk=>?_⟩;ext;refine⟨ln (by show 3<=100000;decide),λq2 hq2=>?_⟩;have sq2:Same J3 (upd J3 q2 (.tup [.str "app",.str sg,.ref rk])):=a0f hq2 _;have kq2:(upd J3 q2 (.tup [.str "app",.str sg,.ref rk])) q2=some (.tup [.str "app",.str sg,.ref rk]):=a0b;generalize upd J3 q2 (.tup [.str "app",.str sg,.ref rk])=J4 at sq2 kq2 ⊢;ext;have s34:=s3.trans sq2
   exists a0i (s34.tup har) (v:=.int (c:Int)) rfl
   refine⟨pc,_,rfl,DPut.k (k:=Sum.inl (c:Int)) (s34 _ _ f3) (ln1 qo),?_⟩;ext;have lp:=a4b kvs (Sum.inl (c:Int):Key) (.ref q2);refine NX _ _ _ _ (s34.but.trans a1z) a0b qo ?_;exact((f5.mono s34).put (r:=.bld c sg k f) (by rw[Br.trm,byD];exact .tup (SqT.of kq2) (.cons (.str _) (.cons (.str _) (.cons (.tup (SqT.of (sq2 _ _ kr)) (dk.mono sq2)) .nil))))).monoT (a4h a1z (s34 _ _ f3))
 have hib:i=bs.length:=by omega
 subst hib;obtain⟨ar,hat,_,harr⟩:=a9y gd hgo;obtain⟨tag,els,hte,htag⟩:=go_tag hcall g;have harr':=harr;rw[hte]at harr'
 exists a1r (SqL.of gpr) hat
 exists a0i harr' (a5m tag els)
 refine⟨ln (by show 3<=100000;decide),λq1 hq1=>?_⟩;have sq1:Same J (upd J q1 (.tup [.str "put",.str "putnum",.str "build"])):=a0f hq1 _;have kq1:(upd J q1 (.tup [.str "put",.str "putnum",.str "build"])) q1=some (.tup [.str "put",.str "putnum",.str "build"]):=a0b;generalize upd J q1 (.tup [.str "put",.str "putnum",.str "build"])=J1 at sq1 kq1 ⊢;ext;refine a5j [putS,a9o,bldS] (.inr (SqT.of kq1)) ?_;rw[Z4 htag];ext;refine kF J1 ?_;rw[Zy (Zg _)]at g5;have f1:=g1.trans sq1;have ha1:=sq1.tup harr;have hpc1:=sq1 _ _ g3;have hce1:=g5.mono sq1;have kdJ:=sq1 _ _ gd1;have fpr:=sq1 _ _ gpr;clear g3 g5 gd1 gpr gd kd1 k2;have dg:∀x:Str,DGet J1 d1 (.str x) (valV a9z (Sum.inr x)):=λx=>DGet.k (k:=Sum.inr x) kdJ
 ext
 exists a4k (SqL.of fpr)
 refine iteB (λe=>absurd (Z8 (by simpa using e)) qo) (λe=>?_);ext;refine a1r (SqL.of fpr) hat ?_;have END:∀(q9:Addr)(v9:V)(J9:Hp),Same J1 J9->Den K J9 v9 (byD sl g.trm)->J9 q9=none->Q (.ref q9) (upd J9 q9 (.tup [v9,.int (((n+bs.length:Nat):Int)+1)])):=λq9 v9 J9 s9 d9 h9=>by
  have s10:=a0f h9 (.tup [v9,.int (((n+bs.length:Nat):Int)+1)]);refine q q9 v9 _ (f1.trans (s9.trans s10)) ?_ (d9.mono s10);rw[a0b,hbl];rfl
 clear hrow hb hgo egk hoks hfl;ext;cases g with
 |keep=>
  exists a0i ha1 (v:=.str a1u) rfl
  refine iteB (λe=>?_) (λe=>absurd e qk);ext;refine⟨ln (by show 0<=100000;decide),λp2 hp2=>?_⟩;have sp2:=a0f hp2 (.tup []);have kp2:(upd J1 p2 (.tup [])) p2=some (.tup []):=a0b;generalize upd J1 p2 (.tup [])=H3 at sp2 kp2 ⊢;ext;refine⟨ln (by show 3<=100000;decide),λp3 hp3=>?_⟩;have sp3:=a0f hp3 (.tup [.str "app",.str "keep",.ref p2]);have kp3:(upd H3 p3 (.tup [.str "app",.str "keep",.ref p2])) p3=some (.tup [.str "app",.str "keep",.ref p2]):=a0b;generalize upd H3 p3 (.tup [.str "app",.str "keep",.ref p2])=H4 at sp3 kp3 ⊢;ext;refine⟨ln (by show 2<=100000;decide),λq9 hq9=>?_⟩;exact END q9 _ H4 (sp2.trans sp3) (by rw[Go.trm,byD,byL];exact .tup (SqT.of kp3) (.cons (.str _) (.cons (.str _) (.cons (.tup (SqT.of (sp3 _ _ kp2)) .nil) .nil)))) hq9
 |mark m x y=>
  have dm:=dg m.tag;rw[d5i m]at dm
  exists a0i ha1 (v:=.str m.tag) rfl
  refine iteB (λe=>absurd e (by cases m<;>decide+kernel)) (λe=>?_);ext
  exists a0i ha1 (v:=.str m.tag) rfl
  refine⟨d1,_,rfl,dm,?_⟩;walk_at "B"
  exists a0i ha1 (v:=.str m.tag) rfl
  refine⟨d1,_,rfl,dm,?_⟩;ext;refine⟨sl,kvs,_,[x,y],0,hpc1,hce1,rfl,rfl,qz,qo,λj h=>by rw[Ye];have:=ceK j h;rwa[Ye]at this,λrk uk J3 s3 kr dk=>?_⟩;ext;refine⟨ln (by show 3<=100000;decide),λq2 hq2=>?_⟩;have sq2:Same J3 (upd J3 q2 (.tup [.str "app",.str m.sign,.ref rk])):=a0f hq2 _;have kq2:(upd J3 q2 (.tup [.str "app",.str m.sign,.ref rk])) q2=some (.tup [.str "app",.str m.sign,.ref rk]):=a0b;generalize upd J3 q2 (.tup [.str "app",.str m.sign,.ref rk])=J4 at sq2 kq2 ⊢;ext;refine⟨ln (by show 2<=100000;decide),λq9 hq9=>?_⟩;exact END q9 _ J4 (s3.trans sq2) (by rw[Go.trm,byD];exact .tup (SqT.of kq2) (.cons (.str _) (.cons (.str _) (.cons (.tup (SqT.of (sq2 _ _ kr)) (dk.mono sq2)) .nil)))) hq9
 |neg wd ks=>
  have dm:=dg notS;rw[show valV a9z (Sum.inr notS)=none by kernel_rfl]at dm
  exists a0i ha1 (v:=.str notS) rfl
  refine iteB (λe=>absurd e qk) (λe=>?_);ext
  exists a0i ha1 (v:=.str notS) rfl
  refine⟨d1,_,rfl,dm,?_⟩;walk_at "A"
  exists a0i ha1 (v:=.str notS) rfl
  refine⟨ln (by show 3<=100000;decide),λq7 hq7=>?_⟩;have sq7:Same J1 (upd J1 q7 (.tup [.str "call",.str "jump",.str "not"])):=a0f hq7 _;have kq7:(upd J1 q7 (.tup [.str "call",.str "jump",.str "not"])) q7=some (.tup [.str "call",.str "jump",.str "not"]):=a0b;generalize upd J1 q7 (.tup [.str "call",.str "jump",.str "not"])=H2 at sq7 kq7 ⊢;ext;refine b6d [a3t,a2m,notS] (.inr (SqT.of kq7)) ?_;rw[show(!decide (notS∈[a3t,a2m,notS]))=false from qk];walk_at "A";have ha2:=sq7.tup ha1
  exists a0i ha2 (v:=.str wd) rfl
  exists a0i ha2 (v:=.int ks.length) rfl
  refine⟨sl,kvs,_,ks,0,sq7 _ _ hpc1,hce1.mono sq7,rfl,rfl,hk4,qo,λj h=>by rw[Ye];have:=ceK j h;rwa[Ye]at this,λrk uk J3 s3 kr dk=>?_⟩;ext;refine⟨ln (by show 3<=100000;decide),λq2 hq2=>?_⟩;have sq2:Same J3 (upd J3 q2 (.tup [.str "app",.str wd,.ref rk])):=a0f hq2 _;have kq2:(upd J3 q2 (.tup [.str "app",.str wd,.ref rk])) q2=some (.tup [.str "app",.str wd,.ref rk]):=a0b;generalize upd J3 q2 (.tup [.str "app",.str wd,.ref rk])=J4 at sq2 kq2 ⊢;ext
  exists a0i (sq2.tup (s3.tup ha2)) (v:=.str notS) rfl
  refine iteB (λe=>?_) (λe=>absurd e qk);ext;refine⟨ln (by show 1<=100000;decide),λq3 hq3=>?_⟩;have sq3:Same J4 (upd J4 q3 (.tup [.ref q2])):=a0f hq3 _;have kq3:(upd J4 q3 (.tup [.ref q2])) q3=some (.tup [.ref q2]):=a0b;generalize upd J4 q3 (.tup [.ref q2])=J5 at sq3 kq3 ⊢;ext;refine⟨ln (by show 3<=100000;decide),λq4 hq4=>?_⟩;have sq4:Same J5 (upd J5 q4 (.tup [.str "app",.str "not",.ref q3])):=a0f hq4 _;have kq4:(upd J5 q4 (.tup [.str "app",.str "not",.ref q3])) q4=some (.tup [.str "app",.str "not",.ref q3]):=a0b;generalize upd J5 q4 (.tup [.str "app",.str "not",.ref q3])=J6 at sq4 kq4 ⊢;ext;refine⟨ln (by show 2<=100000;decide),λq9 hq9=>?_⟩;have s45:=sq2.trans (sq3.trans sq4);refine END q9 _ J6 (sq7.trans (s3.trans s45)) ?_ hq9;rw[Go.trm,byD,byL,byL,byD];exact .tup (SqT.of kq4) (.cons (.str _) (.cons (.str _) (.cons (.tup (SqT.of (sq4 _ _ kq3)) (.cons (.tup (SqT.of ((sq3.trans sq4) _ _ kq2)) (.cons (.str _) (.cons (.str _) (.cons (.tup (SqT.of (s45 _ _ kr)) (dk.mono s45)) .nil)))) .nil)) .nil)))
 |nm wd ks=>
  have hcv:valV a9z (Sum.inr call)=none/\call≠a1u/\call∈[a3t,a2m,notS]/\call≠notS:=by
   rcases hcall with rfl|rfl
   ·exact⟨by kernel_rfl,qk,qk,qk⟩
   ·exact⟨by kernel_rfl,qk,qk,qk⟩
  obtain⟨hc1,hc2,hc3,hc4⟩:=hcv;have dm:=dg call;rw[hc1]at dm
  exists a0i ha1 (v:=.str call) rfl
  refine iteB (λe=>absurd (Z8 (by simpa using e)) hc2) (λe=>?_);ext
  exists a0i ha1 (v:=.str call) rfl
  refine⟨d1,_,rfl,dm,?_⟩;walk_at "A"
  exists a0i ha1 (v:=.str call) rfl
  refine⟨ln (by show 3<=100000;decide),λq7 hq7=>?_⟩;have sq7:Same J1 (upd J1 q7 (.tup [.str "call",.str "jump",.str "not"])):=a0f hq7 _;have kq7:(upd J1 q7 (.tup [.str "call",.str "jump",.str "not"])) q7=some (.tup [.str "call",.str "jump",.str "not"]):=a0b;generalize upd J1 q7 (.tup [.str "call",.str "jump",.str "not"])=H2 at sq7 kq7 ⊢;ext;refine b6d [a3t,a2m,notS] (.inr (SqT.of kq7)) ?_;rw[Yg hc3];walk_at "A";have ha2:=sq7.tup ha1
  exists a0i ha2 (v:=.str wd) rfl
  exists a0i ha2 (v:=.int ks.length) rfl
  refine⟨sl,kvs,_,ks,0,sq7 _ _ hpc1,hce1.mono sq7,rfl,rfl,hk4,qo,λj h=>by rw[Ye];have:=ceK j h;rwa[Ye]at this,λrk uk J3 s3 kr dk=>?_⟩;ext;refine⟨ln (by show 3<=100000;decide),λq2 hq2=>?_⟩;have sq2:Same J3 (upd J3 q2 (.tup [.str "app",.str wd,.ref rk])):=a0f hq2 _;have kq2:(upd J3 q2 (.tup [.str "app",.str wd,.ref rk])) q2=some (.tup [.str "app",.str wd,.ref rk]):=a0b;generalize upd J3 q2 (.tup [.str "app",.str wd,.ref rk])=J4 at sq2 kq2 ⊢;ext
  exists a0i (sq2.tup (s3.tup ha2)) (v:=.str call) rfl
  refine iteB (λe=>absurd (Z8 (by simpa using e)) hc4) (λe=>?_);ext;refine⟨ln (by show 2<=100000;decide),λq9 hq9=>?_⟩;exact END q9 _ J4 (sq7.trans (s3.trans sq2)) (by rw[Go.trm,byD];exact .tup (SqT.of kq2) (.cons (.str _) (.cons (.str _) (.cons (.tup (SqT.of (sq2 _ _ kr)) (dk.mono sq2)) .nil)))) hq9
end
section
variable{P:Program}{w:World}{K:W.Frag}{mg:Str->Option Value}{base:Heap}{t:Ad}
theorem d5k(T:Txt K mg t)  :FnOk P w K mg base CX0 1 t.a_b8 t.d_b8 ["_law_head_here"] (c4r K):=by
 exists T.F_b8.ok c3w,(a0e (a0y (PW.pt (a2x (a0s a1g (a0r (a1k K rfl) rfl T.n_a3 Zq (a0a (a0j (a0h K rfl) (mv 0) a0d (λ_ _=>rfl)) a0c)) a0d (a0t _)) (a3j (a0s a1g (a0j (a0h K rfl) (a0j (a0h K rfl) (a0j (a0h K rfl) (mv 0) a0d (λ_ _=>rfl)) a0d (λ_ _=>rfl)) a0d (λ_ _=>rfl)) a0k (a0t _))))) (a0g (a0q a3i)) a0v) (a0e (a0p (i:=1) (hs:=a4q) c3w.nd rfl (by nofun) (a0j (a0h K rfl) (a0j (a0h K rfl) (mv 0) a0d (λ_ _=>rfl)) a0d (λ_ _=>rfl))) (a0e (a0y (a0s a1g (a0j (a0h K rfl) (mv 1) a0d (λ_ _=>rfl)) a0k (a0t _)) (a0g (a0q (mv 1))) a0v) (a0g (a0q (a0x (a0a a0k (a0a (a0j (a0h K rfl) (mv 1) a0d (λ_ _=>rfl)) (a0a (a0r (a1k K rfl) rfl T.n_a3 Zq (a0a (a0j (a0h K rfl) (mv 1) a0d (λ_ _=>rfl)) a0c)) a0c))))))))),H,Q,E,hr,h
 rename_i v;obtain⟨sg,ks,⟨a,b,us,rfl,hs,hb,hk0,hnp⟩,q⟩:=h;ext
 exists a0i hs (v:=.ref b) rfl
 exists a2t hb
 cases ks with
 |nil=>
  cases hk0;walk_at "iT";walk_at "D";exact q _ _ (Same.refl H) rfl
 |cons k r=>
  cases hk0 with
  | @cons u us' _ _ h1 h2=>
   have e:(false^^decide (((u::us').length:Int)=0))=false:=by simp;omega
   rw[e];walk_at "C"
   exists a0i hs (v:=.ref b) rfl
   exists a0i hb (a3n (us:=_::us') (i:=0) (V5 _))
   cases k with
   |num m=>
    obtain⟨c,rfl,hc⟩:=a6g h1
    exists a0i hc (v:=.str numS) rfl
    rw[Zz,d7];walk_at "C"
    exists a0i hs (v:=.ref b) rfl
    exists a0i hb (a3n (us:=_::us') (i:=0) (V5 _))
    exists a0i hc (v:=.str numS) rfl
    rw[Zz,d4];walk_at "D";obtain⟨c',e1,e2⟩:=hnp _ _ _ _ rfl rfl m rfl;cases e1;exact q _ _ (Same.refl H) ⟨c,rfl,e2⟩
   |any m=>
    obtain⟨c,rfl,hc⟩:=a6h h1
    exists a0i hc (v:=.str anyS) rfl
    rw[Zz,d9];walk_at "D";exact q _ _ (Same.refl H) rfl
   |app sg2 ks2=>
    obtain⟨c,c2,us2,rfl,hc,hc2,hkk⟩:=a3f h1;have hl:=hkk.length;rw[Trm.dataL_map,length_map]at hl
    exists a0i hc (v:=.str appS) rfl
    rw[Zz,d8];walk_at "C"
    exists a0i hs (v:=.ref b) rfl
    exists a0i hb (a3n (us:=_::us') (i:=0) (V5 _))
    exists a0i hc (v:=.str appS) rfl
    rw[Zz,d6];walk_at "C"
    exists a0i hc (v:=.str sg2) rfl
    exists a0i hc (v:=.ref c2) rfl
    exists a2t hc2
    rw[hl];refine⟨ln (by show 3<=100000;decide),λp hp=>?_⟩;exact q _ _ (a0f hp _) ⟨p,rfl,a0b⟩
theorem c5j(T:Txt K mg t)(G_b8:FnOk P w K mg base CX0 1 t.a_b8 t.d_b8 ["_law_head_here"] (c4r K)):FnOk P w K mg base CX0 2 t.a_e6 t.d_e6 ["_law_heads"] (b5t K):=by
 exists T.F_e6.ok a4c,(a0e (a0p (i:=1) a4c.nd rfl (by nofun) a7y) (a0e (a1p Zv rfl (a6z K rfl (mv 0)) (a1a (i:=2) a4c.nd rfl (by nofun)) (a0g (a0y (a0s c5y (a0m G_b8 hr.o rfl T.m_b8 T.F_b8.kp T.b_b8 .nil a0n (a0a (mv 2) a0c)) a3i (a0t _)) (a0g (a3e (a1h hr) (mv 1) (a0m G_b8 hr.o rfl T.m_b8 T.F_b8.kp T.b_b8 .nil a0n (a0a (mv 2) a0c)) a0d rfl)) a0v))) (a0e (a0p (i:=3) a4c.nd rfl (by nofun) a0d) (a0e (a1p Zv rfl (a2o rfl T.n_e9 (a0a (a0r (a1k K rfl) rfl T.n_a3 Zq (a0a (mv 0) a0c)) a0c)) (a1a (i:=4) a4c.nd rfl (by nofun)) (a0e (a0p (i:=5) (hs:=a1n) a4c.nd rfl (by nofun) (a0m G_b8 hr.o rfl T.m_b8 T.F_b8.kp T.b_b8 .nil a0n (a0a (a0j (a0h K rfl) (mv 0) (mv 4) (λ_ _=>rfl)) a0c))) (a0e (a0p (i:=3) (hs:=a3l) a4c.nd rfl (by nofun) (a0u (a1d K rfl) (mv 3) (a0u a8q (a0u b7z a0d (mv 4)) (a2f c3d rfl T.n_g0 Sn (a0a (a2k b3z (mv 5) a3i (a0t _)) a0c))))) (a0g (a1p Zv rfl (a6z K rfl (a2f (b6b rfl) rfl T.n_f1 W4 (a0a (mv 1) a0c))) (a1a (i:=6) a4c.nd rfl (by nofun)) (a0g (a0y (PW.pt (a2x (a0s b3z (mv 5) a3i (a0t _)) (a3j (a0s (ko_eqKs K rfl (a3q hr)) (mv 5) (mv 6) (a0t _))))) (a0g (a3e (a1h hr) (mv 1) (mv 6) (a0u (a1d K rfl) (a2p (a1h hr) (mv 1) (mv 6) (λ_ _=>rfl)) (a0u b7z a0d (mv 4))) rfl)) a0v))))))) (a0g (a0q (a0x (a0a (mv 1) (a0a (mv 3) (a0a (a0u a3d (a0u b7z a0d (a0r (a1k K rfl) rfl T.n_a3 Zq (a0a (mv 0) a0c))) a0d) a0c)))))))))),H,Q,E,hr,h
 rename_i p;obtain⟨us,hs,hS,hd,hn,q⟩:=h;have hul:us.length=hs.length:=Yo hd;ext;intro d hd0;ext;generalize hks:hkL hs=ks at q;have hkl:ks.length=hs.length:=by rw[<-hks,hkL,length_map]
 have hdl:=b8l ks;have nd:=dk_nd ks;have one:∀i (hi:i<us.length),∃(hki:i<ks.length)(w0:Str)(t0:List Trm),us.getD i .non=us[i]/\atI us (0+(i:Int))=some us[i]/\HdN K H us[i] w0 t0/\hk (.app w0 t0)=ks[i]:=λi hi=>by
  have hx:us[i]? =some us[i]:=Za hi
  have hg:us.getD i .non=us[i]:=by rw[Zk,hx];rfl
  have hhi:i<hs.length:=by omega
  obtain⟨_,e2⟩:=a4n hd (i:=i) hhi;have hki:i<ks.length:=by omega
  refine⟨hki,hs[i].1,hs[i].2,hg,by rw[Wt];exact a3n hi,e2,?_⟩;have:ks[i]? =some (hk (.app hs[i].1 hs[i].2)):=by rw[<-hks,hkL,Zs,Za hhi];rfl
  rw[Za hki]at this;exact(Zi this).symm
 refine⟨p,rfl,⟨_,(a0f hd0 _).seq hS⟩,?_⟩;refine a1t (a4x (xs:=us)) (λi σ' H'=>∃(o2:Option V)(kvs:KVs),σ'=[some (.ref p),some (.ref d),o2,none,none,none,none]/\Same H H'/\H' d=some (.dT kvs)/\kvs.map (·.1)=dk (ks.take i)/\∀k∈dk (ks.take i),valV kvs k=some (.int 0)) ⟨none,[],rfl,a0f hd0 _,a0b,rfl,λk hk=>by simp[dk]at hk⟩ (λi σ' H' hP=>by obtain⟨_,_,_,s1,_⟩:=hP;exact s1.seq hS) (λi σ' H' hi hP=>?_) (λσ' H' hP=>?_)
 ·obtain⟨o2,kvs,rfl,s1,hdd,hok1,hok2⟩:=hP;obtain⟨hki,w0,t0,hg,_,hden,hkk⟩:=one i hi;have hti1:ks.take (i+1)=ks.take i++[ks[i]]:=by rw[X5,Za hki];rfl
  have hkvl:kvs.length<=50:=by
   have h1:=Xg List.length hok1;rw[length_map]at h1;have h2:=b8l (ks.take i);rw[Z5]at h2;omega
  generalize ks.take i=ksi at hok1 hok2 hti1;ext;rw[hg];refine⟨w0,t0,(by first|exact hden.mono s1| (rw[hg];exact hden.mono s1)),λv' H2 s3 hkv=>?_⟩;rw[hkk]at hkv;generalize hko:ks[i]=ko at hkv hti1 hkk;have s4:=s1.trans s3;have hd2:H2 d=some (.dT kvs):=s3 _ _ hdd;cases ko with
  |none=>
   cases hkv;walk_at "A";exact⟨_,kvs,rfl,s4,hd2,by rw[hti1,a6q];exact hok1,by rw[hti1,a6q];exact hok2⟩
  |some k0=>
   obtain⟨b1,rfl,hb1⟩:=hkv;walk_at "B";refine⟨w0,t0,(by first|exact hden.mono s4| (rw[hg];exact hden.mono s4)),λv' H3 s5 hkv=>?_⟩;rw[hkk]at hkv;obtain⟨b0,rfl,hb0⟩:=hkv;have hd3:H3 d=some (.dT kvs):=s5 _ _ hd2;refine⟨d,_,rfl,DPut.t hd3 hb0 (ln1 qo),?_⟩;refine⟨_,_,rfl,a1c (s4.trans s5) hd0,a0b,?_,?_⟩
   ·rw[hti1,a6q]
    by_cases hm:k0∈dk ksi
    ·rw[b2e hm,b0o _ (by rw[hok1];exact hm)];exact hok1
    ·rw[b2f hm,c6k _ (by rw[hok1];exact hm),hok1]
   ·intro k hk';rw[a7w]
    by_cases hjk:k=k0
    ·rw[if_pos hjk]
    ·rw[if_neg hjk];refine hok2 k ?_;rw[b4l,hti1,Zm,Zr]at hk';rcases hk' with h1|h1
     ·exact(b4l ksi k).mpr h1
     ·exact absurd (Zi h1) hjk
 obtain⟨o2,kvs0,rfl,s0,hdd0,hok10,hok20⟩:=hP;have e1:ks.take us.length=ks:=Zy qo;rw[e1]at hok10 hok20;ext;refine a4k (s0.seq hS) ?_;refine⟨_,rfl,qo,qo,?_⟩;rw[Y5];refine a1t (a1q 0 us.length) (λi σ' H'=>∃(o4 o5 o6:Option V)(kvs:KVs),σ'=[some (.ref p),some (.ref d),o2,some (.int (bt isN (ks.take i))),o4,o5,o6]/\Same H H'/\H' d=some (.dT kvs)/\kvs.map (·.1)=dk ks/\∀k∈dk ks,valV kvs k=some (.int (bt (pk k) (ks.take i)))) ⟨_,_,_,kvs0,rfl,s0,hdd0,hok10,λk hk'=>hok20 k hk'⟩ (λ_ _ _ _=>trivial) (λi σ' H' hi hP=>?_) (λσ' H' hP=>?_)
 ·obtain⟨o4,o5,o6,kvs,rfl,s1,hdd,hok1,hok2⟩:=hP;obtain⟨hki,w0,t0,_,hat,hden,hkk⟩:=one i hi;have hti:(ks.take i).length=i:=by rw[Z5];omega
  have hti1:ks.take (i+1)=ks.take i++[ks[i]]:=by rw[X5,Za hki];rfl
  generalize hksi:ks.take i=ksi at hok2 hti hti1;ext;refine a1r (s1.seq hS) hat ?_;refine⟨w0,t0,(by first|exact hden.mono s1| (rw[hg];exact hden.mono s1)),λv' H2 s3 hkv=>?_⟩;rw[hkk]at hkv;generalize hko:ks[i]=ko at hkv hti1;have s4:=s1.trans s3;have hd2:H2 d=some (.dT kvs):=s3 _ _ hdd;cases ko with
  |none=>
   cases hkv;ext
   exists m2_i (C:=CPow) ⟨qo,qo,qd⟩
   exists a7o (a6v qd)
   have hot:bt isN ksi+1*2^(0+(i:Int)).toNat*(if(!false)=true then 1 else 0)=bt isN (ks.take (i+1)):=by
    rw[hti1,a5k,hti,Wt,Y5,Uo,if_pos (show(!false)=true from rfl),Int.mul_one];rfl
   rw[hot];refine⟨d,kvs,rfl,hd2,λLp bs hLp hbl hbs=>?_⟩;refine⟨Lp,rfl,⟨_,SqL.of a0b⟩,?_⟩;have hLd:d≠Lp:=a1m hd2 hLp;have hbt:∀(m:Nat)(k:List Key),(dk ks)[m]? =some k->∃b,bs[m]? =some b/\H2 b=some (.tup (k.map kV)):=λm k e=>by
    rw[<-hok1,Zs]at e;obtain⟨kv,h1,h2⟩:=Ym.mp e;subst h2;exact hbs m kv.1 kv.2 h1
   have hbl':bs.length=(dk ks).length:=by rw[hbl,<-hok1,length_map]
   refine a1t (a4x (xs:=bs.map V.ref)) (λj σ' H3=>∃(o6:Option V)(kvs':KVs),σ'=[some (.ref p),some (.ref d),o2,some (.int (bt isN (ks.take (i+1)))),some (.int (0+(i:Int))),some .non,o6]/\Same H H3/\H3 Lp=some (.lst (bs.map V.ref))/\H3 d=some (.dT kvs')/\kvs'.map (·.1)=dk ks/\(∀(m:Nat)(k:List Key),(dk ks)[m]? =some k->valV kvs' k=some (.int (bt (pk k) ksi+if m<j/\pk k none=true then 2^i else 0)))/\(∀(m:Nat)(k:List Key),(dk ks)[m]? =some k->∃b,bs[m]? =some b/\H3 b=some (.tup (k.map kV)))) ⟨_,kvs,rfl,s4.trans (a0f hLp _),a0b,by rw[a0l hLd];exact hd2,hok1,λm k e=>?_,λm k e=>?_⟩ (λj σ' H3 hP=>by obtain⟨_,_,_,_,h1,_⟩:=hP;exact SqL.of h1) (λj σ' H3 hj hP=>?_) (λσ' H3 hP=>?_)
   ·rw[hok2 k (Y0 e),if_neg (λz=>Uc _ z.1),Vo]
   ·obtain⟨b,h1,h2⟩:=hbt m k e;exact⟨b,h1,(a0f hLp _) _ _ h2⟩
   ·obtain⟨o6,kvs',rfl,z1,z2,z3,z4,z5,z6⟩:=hP;have hj:j<(dk ks).length:=by rw[length_map]at hj;omega
    have hkj:(dk ks)[j]? =some (dk ks)[j]:=Za hj
    obtain⟨b,hb1,hb2⟩:=z6 j _ hkj;have hv:=z5 j _ hkj;rw[if_neg (λz=>Yt j z.1),Vo]at hv;have hbg:(bs.map V.ref).getD j .non=.ref b:=by rw[Zk,Zs,hb1];rfl
    rw[hbg];have hkl':kvs'.length<=50:=by
     have h1:=Xg List.length z4;rw[length_map]at h1;omega
    have hmem:(dk ks)[j]∈kvs'.map (·.1):=by rw[z4];exact Zx hj
    have hbit:(1:Int)*2^(0+(i:Int)).toNat=2^i:=by rw[Wt,Y5,Uo]
    have rest:∀(m:Nat)(k:List Key),(dk ks)[m]? =some k->k≠(dk ks)[j]->valV kvs' k=some (.int (bt (pk k) ksi+if m<j+1/\pk k none=true then 2^i else 0)):=λm k e hm=>by
     rw[z5 m k e];have hmj:m≠j:=λz=>hm (by subst z;rw[hkj]at e;exact(Zi e).symm)
     by_cases hlt:m<j/\pk k none=true
     ·rw[if_pos hlt,if_pos ⟨qo,hlt.2⟩]
     ·rw[if_neg hlt,if_neg (λz=>hlt ⟨qo,z.2⟩)]
    ext;walk_at "iT";walk_at "iT";have hpk:pk (dk ks)[j] none=true:=by unfold pk;simp
    ext;refine⟨d,_,rfl,hv▸DGet.t z3 hb2,?_⟩;ext
    exists m2_i (C:=CPow) ⟨qo,qo,qd⟩
    refine⟨d,_,rfl,DPut.t z3 hb2 (ln1 qo),?_⟩;refine⟨_,_,rfl,a1c z1 hd0,by rw[a0l (Ne.symm hLd)];exact z2,a0b,by rw[b0o _ hmem];exact z4,λm k e=>?_,λm k e=>?_⟩
    ·rw[a7w]
     by_cases hm:k=(dk ks)[j]
     ·rw[if_pos hm];subst hm;obtain⟨hml,hme⟩:=Zh.mp e;have hmj:m=j:=(Vf nd).mp hme;rw[hmj,if_pos ⟨Xo j,hpk⟩,hbit]
     ·rw[if_neg hm];exact rest m k e hm
    ·obtain⟨b',h1,h2⟩:=z6 m k e;exact⟨b',h1,by rw[a0l (a1w h2 z3 (λz=>by cases z))];exact h2⟩
   ·obtain⟨o6,kvs',rfl,z1,z2,z3,z4,z5,z6⟩:=hP;refine⟨_,_,_,kvs',rfl,z1,z3,z4,λk hk'=>?_⟩;obtain⟨m,hm⟩:=Wk.mp hk';have hml:m<(bs.map V.ref).length:=by
     rw[length_map,hbl'];exact(Zh.mp hm).1
    rw[z5 m k hm,hti1,a5k,hti]
    by_cases hp:pk k none=true
    ·rw[if_pos ⟨hml,hp⟩,if_pos hp]
    ·rw[if_neg (λz=>hp z.2),if_neg hp]
  |some k0=>
   obtain⟨b0,rfl,hb0⟩:=hkv;ext
   exists m2_i (C:=CPow) ⟨qo,qo,qd⟩
   exists a7o (a6v qd)
   have hot:bt isN ksi+1*2^(0+(i:Int)).toNat*(if false=true then 1 else 0)=bt isN (ks.take (i+1)):=by
    rw[hti1,a5k,if_neg Zj,Int.mul_zero];have:isN (some k0)=false:=by unfold isN;simp
    rw[this]
    simp
   rw[hot];refine⟨d,kvs,rfl,hd2,λLp bs hLp hbl hbs=>?_⟩;refine⟨Lp,rfl,⟨_,SqL.of a0b⟩,?_⟩;have hLd:d≠Lp:=a1m hd2 hLp;have hbt:∀(m:Nat)(k:List Key),(dk ks)[m]? =some k->∃b,bs[m]? =some b/\H2 b=some (.tup (k.map kV)):=λm k e=>by
    rw[<-hok1,Zs]at e;obtain⟨kv,h1,h2⟩:=Ym.mp e;subst h2;exact hbs m kv.1 kv.2 h1
   have hbl':bs.length=(dk ks).length:=by rw[hbl,<-hok1,length_map]
   refine a1t (a4x (xs:=bs.map V.ref)) (λj σ' H3=>∃(o6:Option V)(kvs':KVs),σ'=[some (.ref p),some (.ref d),o2,some (.int (bt isN (ks.take (i+1)))),some (.int (0+(i:Int))),some (.ref b0),o6]/\Same H H3/\H3 Lp=some (.lst (bs.map V.ref))/\H3 d=some (.dT kvs')/\kvs'.map (·.1)=dk ks/\(∀(m:Nat)(k:List Key),(dk ks)[m]? =some k->valV kvs' k=some (.int (bt (pk k) ksi+if m<j/\pk k (some k0)=true then 2^i else 0)))/\(∀(m:Nat)(k:List Key),(dk ks)[m]? =some k->∃b,bs[m]? =some b/\H3 b=some (.tup (k.map kV)))/\H3 b0=some (.tup (k0.map kV))) ⟨_,kvs,rfl,s4.trans (a0f hLp _),a0b,by rw[a0l hLd];exact hd2,hok1,λm k e=>?_,λm k e=>?_,(a0f hLp _) _ _ hb0⟩ (λj σ' H3 hP=>by obtain⟨_,_,_,_,h1,_⟩:=hP;exact SqL.of h1) (λj σ' H3 hj hP=>?_) (λσ' H3 hP=>?_)
   ·rw[hok2 k (Y0 e),if_neg (λz=>Uc _ z.1),Vo]
   ·obtain⟨b,h1,h2⟩:=hbt m k e;exact⟨b,h1,(a0f hLp _) _ _ h2⟩
   ·obtain⟨o6,kvs',rfl,z1,z2,z3,z4,z5,z6,z7⟩:=hP;have hj:j<(dk ks).length:=by rw[length_map]at hj;omega
    have hkj:(dk ks)[j]? =some (dk ks)[j]:=Za hj
    obtain⟨b,hb1,hb2⟩:=z6 j _ hkj;have hv:=z5 j _ hkj;rw[if_neg (λz=>Yt j z.1),Vo]at hv;have hbg:(bs.map V.ref).getD j .non=.ref b:=by rw[Zk,Zs,hb1];rfl
    rw[hbg];have hkl':kvs'.length<=50:=by
     have h1:=Xg List.length z4;rw[length_map]at h1;omega
    have hmem:(dk ks)[j]∈kvs'.map (·.1):=by rw[z4];exact Zx hj
    have hbit:(1:Int)*2^(0+(i:Int)).toNat=2^i:=by rw[Wt,Y5,Uo]
    have rest:∀(m:Nat)(k:List Key),(dk ks)[m]? =some k->k≠(dk ks)[j]->valV kvs' k=some (.int (bt (pk k) ksi+if m<j+1/\pk k (some k0)=true then 2^i else 0)):=λm k e hm=>by
     rw[z5 m k e];have hmj:m≠j:=λz=>hm (by subst z;rw[hkj]at e;exact(Zi e).symm)
     by_cases hlt:m<j/\pk k (some k0)=true
     ·rw[if_pos hlt,if_pos ⟨qo,hlt.2⟩]
     ·rw[if_neg hlt,if_neg (λz=>hlt ⟨qo,z.2⟩)]
    walk_at "A";refine⟨b0,b,k0,(dk ks)[j],rfl,rfl,SqT.of z7,SqT.of hb2,?_⟩;ext
    exists e0
    ·have hpk:pk (dk ks)[j] (some k0)=true:=by
      unfold pk;rw[Z8 e0]
      simp
     ext;refine⟨d,_,rfl,hv▸DGet.t z3 hb2,?_⟩;ext
     exists m2_i (C:=CPow) ⟨qo,qo,qd⟩
     refine⟨d,_,rfl,DPut.t z3 hb2 (ln1 qo),?_⟩;refine⟨_,_,rfl,a1c z1 hd0,by rw[a0l (Ne.symm hLd)];exact z2,a0b,by rw[b0o _ hmem];exact z4,λm k e=>?_,λm k e=>?_,?_⟩
     ·rw[a7w]
      by_cases hm:k=(dk ks)[j]
      ·rw[if_pos hm];subst hm;obtain⟨hml,hme⟩:=Zh.mp e;have hmj:m=j:=(Vf nd).mp hme;rw[hmj,if_pos ⟨Xo j,hpk⟩,hbit]
      ·rw[if_neg hm];exact rest m k e hm
     ·obtain⟨b',h1,h2⟩:=z6 m k e;exact⟨b',h1,by rw[a0l (a1w h2 z3 (λz=>by cases z))];exact h2⟩
     ·rw[a0l (a1w z7 z3 (λz=>by cases z))];exact z7
    ·have hpk:pk (dk ks)[j] (some k0)=false:=by
      unfold pk;have:(some k0:OK)≠some (dk ks)[j]:=λz=>Xm e0 (Zi z)
      rw[Z4 this];rfl
     ext;refine⟨_,_,rfl,z1,z2,z3,z4,λm k e=>?_,z6,z7⟩
     by_cases hm:k=(dk ks)[j]
     ·subst hm;obtain⟨hml,hme⟩:=Zh.mp e;have hmj:m=j:=(Vf nd).mp hme;rw[hmj,if_neg (λz=>by rw[hpk]at z;exact absurd z.2 qd),Vo];exact hv
     ·exact rest m k e hm
   ·obtain⟨o6,kvs',rfl,z1,z2,z3,z4,z5,z6,z7⟩:=hP;refine⟨_,_,_,kvs',rfl,z1,z3,z4,λk hk'=>?_⟩;obtain⟨m,hm⟩:=Wk.mp hk';have hml:m<(bs.map V.ref).length:=by
     rw[length_map,hbl'];exact(Zh.mp hm).1
    rw[z5 m k hm,hti1,a5k,hti]
    by_cases hp:pk k (some k0)=true
    ·rw[if_pos ⟨hml,hp⟩,if_pos hp]
    ·rw[if_neg (λz=>hp z.2),if_neg hp]
 ·obtain⟨o4,o5,o6,kvs,rfl,s1,hdd,hok1,hok2⟩:=hP;ext;refine a4k (s1.seq hS) ?_
  exists m2_i (C:=CPow) ⟨qo,qo,qd⟩
  refine⟨ln (by show 3<=100000;decide),λr hr=>?_⟩;rw[e1]at hok2 ⊢;rw[Y5,Uo,hul];exact q r d kvs _ (s1.trans (a0f hr _)) hd0 ((a0f hr _) _ _ hdd) (SqT.of a0b) ⟨hok1,hok2⟩
end
section
variable{P:Program}{w:World}{K:W.Frag}{mg:Str->Option Value}{base:Heap}{t:Ad}
theorem d2t(T:Txt K mg t)  :FnOk P w K mg base CX0 1 t.a_d2 t.d_d2 ["_law_slots_here","_law_many"] (c1i K):=by
 exists T.F_d2.ok d1n,(a0g (a0q (a5h rfl (a8o rfl T.n_e9 (a0a (a0u a3d (mv 0) (mv 1)) (a0a (mv 0) a0c))) (a3p (a0o b3g) ["_law_slots_here","_law_many"] ["_law_slots_here","_law_many"] rfl rfl qk) (λ_ _ _ _ _=>a3o) (λ_ _ _ _ _=>(a0x (a0a a0k (a0a (mv 0) a0c))))))),H,Q,E,hr,h
 rename_i a m;obtain⟨u,k,rfl,rfl,hz,q⟩:=h;ext;refine⟨_,_,rfl,⟨qo,qo,qo,qo⟩,λD hD=>?_⟩;rw[show((u+k:Nat):Int)-(k:Int)=(u:Int) by omega];refine a2z (a1q (u:Int) (((u+k:Nat):Int)-(u:Int)).toNat) (λi ys J=>Same H J/\J D=some (.lst ys)/\DenL K J ys ((a2h u i).map rowD)) (ln qo) ⟨a0f hD _,a0b,.nil⟩ (λ_ _ _ _=>trivial) (λi ys J Q' hi hl' hP kk=>?_) (λys J hl' hP=>?_)
 ·obtain⟨g1,g2,g3⟩:=hP;ext;refine⟨ln (by show 2<=100000;decide),λp1 hp1=>?_⟩;have sp1:Same J (upd J p1 (.tup [.str "new",.int ((u:Int)+(i:Int))])):=a0f hp1 _;have kp1:(upd J p1 (.tup [.str "new",.int ((u:Int)+(i:Int))])) p1=some (.tup [.str "new",.int ((u:Int)+(i:Int))]):=a0b;generalize upd J p1 (.tup [.str "new",.int ((u:Int)+(i:Int))])=J1 at sp1 kp1 ⊢;ext;have g6:=sp1 _ _ g2;refine kk _ _ g6 ⟨a1c (g1.trans sp1) hD,a0b,?_⟩;rw[show a2h u (i+1)=a2h u i++[newK (u+i)] by unfold a2h;rw[List.range_succ,Zn];rfl,Zn];exact((g3.mono sp1).append (.cons (b2r (ks:=newK (u+i)) (SqT.of kp1)) .nil)).lst g6
 obtain⟨g1,g2,g3⟩:=hP;rw[show(((u+k:Nat):Int)-(u:Int)).toNat=k by omega]at g3;exact q D ys J g1 g2 g3
theorem b9i(T:Txt K mg t)(G_c3:FnOk P w K mg base CX0 1 t.a_c3 t.d_c3 ["_law_terms"] (b8w K))(G_d4:FnOk P w K mg base CX0 63 t.a_d4 t.d_d4 ["_law_rows","_law_many"] (c1g K))(G_d3:FnOk P w K mg base CX0 2 t.a_d3 t.d_d3 ["_law_rows","_law_at"] (b2s K))(G_a9:FnOk P w K mg base CX0 1 t.a_a9 t.d_a9 ["_law_found"] (a9l))(G_d5:FnOk P w K mg base CX0 2 t.a_d5 t.d_d5 ["_law_rows"] (b3o K))(G_d2:FnOk P w K mg base CX0 1 t.a_d2 t.d_d2 ["_law_slots_here","_law_many"] (c1i K))(G_a8:FnOk P w K mg base CX0 62 t.a_a8 t.d_a8 ["_law_term","_law_slots_here"] (a5g K 60)):FnOk P w K mg base CX0 64 t.a_c9 t.d_c9 ["_law_found","_law_number","_law_head_here","_law_goals"] (b1c K):=by
 exists T.F_c9.ok a2a,(a0e (a0p (i:=4) (hs:=a1n) a2a.nd rfl (by nofun) (a0m G_c3 hr.o rfl T.m_c3 T.F_c3.kp T.b_c3 .nil a0n (a0a (a0u (a1d K rfl) (a1x (a0a (mv 2) a0c)) (a2f (b9q K rfl) rfl T.n_f1 W4 (a0a (mv 3) a0c))) a0c))) (a0e (a0y (PW.pt (a2x (a3c (a2q K rfl (a0r (a8k K rfl) rfl T.n_f2 Xc (a0a (mv 0) (a0a (a5t rfl T.n_f3 Wo) a0c))))) (a2x (a0s a9j (a0r (a1k K rfl) rfl T.n_a3 Zq (a0a (mv 0) a0c)) a0d (a0t _)) (a2x (a3c (a2q K rfl (a0m G_a9 hr.o rfl T.m_a9 T.F_a9.kp T.b_a9 .nil a0n (a0a (a0j (a0h K rfl) (mv 0) a0d (λ_ _=>rfl)) a0c)))) (a3j (a3c (a2q K rfl (a0m G_a9 hr.o rfl T.m_a9 T.F_a9.kp T.b_a9 .nil a0n (a0a (a0j (a0h K rfl) (mv 0) a0d (λ_ _=>rfl)) a0c))))))))) (a0g (a0q a3m)) a0v) (a0e (a0y (PW.pt (a2x (a0s a9j (a0j (a0h K rfl) (mv 0) a0d (λ_ _=>rfl)) (mv 1) (a0t _)) (a2x (a0s a9j (a0j (a0h K rfl) (mv 0) a0d (λ_ _=>rfl)) (a0r a5r rfl T.n_a3 Zq (a0a (mv 4) a0c)) (a0t _)) (a3j (a3c (a2q K rfl (a0m G_d5 hr.o rfl T.m_d5 T.F_d5.kp T.b_d5 .nil a0n (a0a (a0j (a0h K rfl) (mv 0) a0d (λ_ _=>rfl)) a0c)))))))) (a0g (a0q a3m)) a0v) (a0e (a0p (i:=5) (hs:=a4q) a2a.nd rfl (by nofun) (a0j (a0h K rfl) (mv 0) a0d (λ_ _=>rfl))) (a0e (a0p (i:=6) (hs:=a1n) a2a.nd rfl (by nofun) (a0m G_d4 hr.o rfl T.m_d4 T.F_d4.kp T.b_d4 .nil a0n (a0a (mv 5) (a0a (a0r (a1k K rfl) rfl T.n_a3 Zq (a0a (a0j (a0h K rfl) (mv 2) a0d (λ_ _=>rfl)) a0c)) a0c)))) (a0e (a0y (PW.pt (a2x (a0s b3z (mv 6) a3i (a0t _)) (a3j (a0s (b7x K rfl (a3q hr)) (a0j (a0h K rfl) (mv 6) a0d (λ_ _=>rfl)) (a0j (a0h K rfl) (a0m G_a8 hr.o rfl T.m_a8 T.F_a8.kp T.b_a8 .nil a0n (a0a (mv 2) (a0a (mv 4) a0c))) a0d (λ_ _=>rfl)) (a0t _))))) (a0g (a0q a3m)) a0v) (a0e (a0p (i:=7) (hs:=a4q) a2a.nd rfl (by nofun) (a0j (a0h K rfl) (mv 6) a0d (λ_ _=>rfl))) (a0e (a0y (a0s a1g (a0r (a1k K rfl) rfl T.n_a3 Zq (a0a (mv 3) a0c)) a0d (a0t _)) (a0g (a0q (a2k (c2y K rfl (a3q hr)) (a5p (a8a K rfl) (mv 5) (a5i (mv 7)) a9s) (a1x (a0a (a0x (a0a a0k a0c)) a0c)) (a0t _)))) a0v) (a0e (a0p (i:=8) (hs:=a3l) a2a.nd rfl (by nofun) (a0u a3d (a0r a5r rfl T.n_a3 Zq (a0a (mv 4) a0c)) (a0r a5r rfl T.n_a3 Zq (a0a (a0m G_c3 hr.o rfl T.m_c3 T.F_c3.kp T.b_c3 .nil a0n (a0a (a1x (a0a (mv 2) a0c)) a0c)) a0c)))) (a0e (a0y (PW.pt (a2x (a0s (b7x K rfl (a3q hr)) (a5p (a8a K rfl) (mv 5) (a5i (mv 7)) (a5i (a0u (a1d K rfl) (mv 7) a0d))) (a1x (a0a (a0x (a0a a0k a0c)) a0c)) (a0t _)) (a3j (a0s (b7x K rfl (a3q hr)) (a0r (d1f K rfl) rfl T.n_g8 boot_sorted (a0a (a5p (a8a K rfl) (mv 5) (a5i (a0u (a1d K rfl) (mv 7) a0d)) (a5i (a0u (a1d K rfl) (a0u (a1d K rfl) (mv 7) a0d) (mv 8)))) a0c)) (a0m G_d2 hr.o rfl T.m_d2 T.F_d2.kp T.b_d2 .nil a0n (a0a (a0r a5r rfl T.n_a3 Zq (a0a (mv 4) a0c)) (a0a (mv 8) a0c))) (a0t _))))) (a0g (a0q a3m)) a0v) (a0e (a0p (i:=7) (hs:=a3l) a2a.nd rfl (by nofun) (a0u (a1d K rfl) (a0u (a1d K rfl) (mv 7) a0d) (mv 8))) (a0e (a1p Zv rfl (b9o K rfl (mv 3)) (a1a (i:=9) a2a.nd rfl (by nofun)) (a0e (c2h (a0m G_d3 hr.o rfl T.m_d3 T.F_d3.kp T.b_d3 .nil a0n (a0a (mv 5) (a0a (mv 7) a0c))) (a7g K rfl rfl (a2n (a1a (i:=10) a2a.nd rfl (by nofun)) (a2n (a1a (i:=7) a2a.nd rfl (by nofun)) a7e)))) (a0g (a0y (a0s (b7x K rfl (a3q hr)) (mv 10) (a0m G_a8 hr.o rfl T.m_a8 T.F_a8.kp T.b_a8 .nil a0n (a0a (mv 9) (a0a (mv 4) a0c))) (a0t _)) (a0g (a0q a3m)) a0v)))) (a0e (a0y (a0s (b0g K rfl) (a0j (a0h K rfl) (a0j (a0h K rfl) (mv 3) (b7h b3u a0d) (λ_ _=>rfl)) a0d (λ_ _=>rfl)) (a0x (a0a a0k (a0a a0k (a0a a0k (a0a a0k (a0a a0k (a0a a0k a0c))))))) (by with_unfolding_all rfl)) (a0g (a0q (a2k (c2y K rfl (a3q hr)) (a5p (a8a K rfl) (mv 5) (a5i (mv 7)) a9s) (a1x (a0a (a0x (a0a a0k a0c)) a0c)) (a0t _)))) a0v) (a0g (a0q (a7n (a2k (c2y K rfl (a3q hr)) (a5p (a8a K rfl) (mv 5) (a5i (mv 7)) a9s) (a1x a0c) (a0t _)) (a7n (a2k a1g (a0j (a0h K rfl) (a0j (a0h K rfl) (mv 5) (a0u a3d (mv 7) a0d) (λ_ _=>rfl)) a0d (λ_ _=>rfl)) a0k (a0t _)) (a7m (a2k mo_isB (a2k (b0g K rfl) a0k (a5h rfl (a6z K rfl (a5p (a8a K rfl) (mv 5) a9s (a5i (a0u a3d (mv 7) a0d)))) (a3p (a0o a6k) ["_law_found","_law_number","_law_head_here","_law_goals","_law_slots_here","_law_rows","_law_seen","_law_at","_law_many","_law_goal","_law_due"] ["_law_found","_law_number","_law_head_here","_law_goals","_law_slots_here","_law_rows","_law_seen","_law_at","_law_many","_law_goal","_law_due"] rfl rfl qk) (λ_ _ _ _ _=>a3o) (λ_ _ _ _ _=>(a0j (a0h K rfl) (mv 0) a0d (λ_ _=>rfl)))) (by with_unfolding_all rfl)) a3m (a0t _)))))))))))))))))))),H,Q,E,hr,h
 rename_i pf n hv pg;obtain⟨⟨wd,ks,gs⟩,xs,pr,ns,ug,hf,hpr,hd,hh,hg,hdg,⟨rl,rg,rz,rn,ra,rv⟩,hx4,q⟩:=h;have hf:SqT K H pf [.int n,.int ((ordL (.app wd ks::trms gs) []).length:Int),.ref pr]:=hf;have hd:DenL K H ns (a6p (ordL (.app wd ks::trms gs) []) ks gs):=hd;have hh:HdN K H hv wd ks:=hh;have hdg:DenL K H ug (Trm.dataL (trms gs)):=hdg;have rl:gs.length<=6:=rl;have rg:∀t∈gs,t.fit xs:=rg;have rz:Trm.sizeL ks<=30:=rz;have rn:ks.length<=4:=rn;have ra:ar4L ks:=ra;have rv:∀x∈a1b ks,x∈xs:=rv;have hgl:=a2l hdg;rw[a8h]at hgl;have hok:∀g∈gs,g.ok/\g.trm.size<=30:=λg hg=>⟨(rg g hg).1,(rg g hg).2.1⟩
 have zg:=b6w (n:=30) (trms gs) λt ht=>by
  obtain⟨g,hg,rfl⟩:=Z3.mp ht;exact(hok g hg).2
 rw[a8h]at zg;have zl:=Trm.len_le ks;have hva:∀x∈a1b (.app wd ks::trms gs),x∈xs:=λx hx=>by
  rw[a1b,vars]at hx;rcases Zm.mp hx with z|z
  ·exact rv x z
  ·exact c8f rg x z
 have hu4:=ord4 hx4 hva;obtain⟨ub,hub⟩:=c1e wd ks (trms gs);have hgv:=go_vars (gs:=gs) (u:=ordL (.app wd ks::trms gs) []) (λx hx=>varO (by rw[a1b];exact Zm.mpr (.inr hx)));have hvh:∀y∈a1b ks,y∈ordL (.app wd ks::trms gs) []:=λy hy=>varO (by rw[a1b,vars];exact Zm.mpr (.inl hy))
 have hln:(ordL (.app wd ks::trms gs) []).length=(ordL ks []).length+ub.length:=by rw[hub,Zc]
 have ha0:(ordL [.app wd ks] []).length=(ordL ks []).length:=by rw[ordL,ordL,ord]
 rw[c1f wd ks gs ub hub]at hd;generalize hu:ordL (.app wd ks::trms gs) []=u at hu4 hgv hln hd hf hvh;have hS:∀ks'∈b3k u ks (ordL ks []).length ub.length gs,a6t ks':=d4y u ks _ _ gs;generalize hpre:(taL (ix u) ks 0 ks.length []).map rwK=pre;have hpl:pre.length=Trm.sizeL ks:=by rw[<-hpre,length_map,a9x]
 obtain⟨tl,htl,etl⟩:∃tl,b3k u ks (ordL ks []).length ub.length gs=pre++tl/\tl=if gs=[]then[a6s]else a5d (ix u) (ordL ks []).length ub.length gs:=⟨_,by unfold b3k;rw[hpre],rfl⟩
 rw[htl]at hd hS;have hL:(pre++tl).length<=500:=by
  rw[Zc,hpl,etl];have:=body_le (ix u) (ordL ks []).length ub.length gs hok
  split
  ·simp only[length_cons,length_nil];omega
  ·omega
 have hnl:=hd.length;rw[length_map]at hnl;have hpn:pre.length<=ns.length:=by rw[hnl];simp
 obtain⟨ah,bh,kus,rfl,ht,hb,hk,_⟩:=id hh;have hv:=hh.den;have hkl:=a2l hk;ext;refine⟨ln (by show 1<=100000;decide),λp1 hp1=>?_⟩;have sp1:Same H (upd H p1 (.lst [.ref ah])):=a0f hp1 _;have kp1:(upd H p1 (.lst [.ref ah])) p1=some (.lst [.ref ah]):=a0b;generalize upd H p1 (.lst [.ref ah])=H1 at sp1 kp1 ⊢;ext;refine⟨pg,ug,rfl,.inr (sp1.tup hg),λp2 hp2=>?_⟩;have sp2:=a0f hp2 (.lst ug);have kp2:(upd H1 p2 (.lst ug)) p2=some (.lst ug):=a0b;generalize upd H1 p2 (.lst ug)=H2 at sp2 kp2 ⊢;ext;refine c3a (sp2 _ _ kp1) kp2 (ln (by show 1+ug.length<=_;omega)) (λp3 hp3=>?_);have sp3:=a0f hp3 (.lst ([V.ref ah]++ug));have kp3:(upd H2 p3 (.lst ([V.ref ah]++ug))) p3=some (.lst (V.ref ah::ug)):=a0b;generalize upd H2 p3 (.lst ([V.ref ah]++ug))=H3 at sp3 kp3 ⊢;have s03:=sp1.trans (sp2.trans sp3);ext;refine⟨V.ref ah::ug,.app wd ks::trms gs,SqL.of kp3,.cons (hv.mono s03) (hdg.mono s03),by simp only[Trm.sizeL,Trm.size];omega,λpd H4 s4 kd=>?_⟩;rw[hu]at kd;have s04:=s03.trans s4;have k4:=s04.tup hf;have d4:=hd.mono s04;have r4:=s04 _ _ hpr;ext
 exists b7y k4
 walk_at "C"
 exists a2t k4
 refine iteB (λe=>absurd e qz) (λe=>?_);ext
 exists a0i k4 (v:=.int n) rfl
 walk_at "C"
 exists a0i k4 (v:=.int (u.length:Int)) rfl
 walk_at "C"
 exists a0i k4 (v:=.int n) rfl
 refine iteB (λe=>absurd e qz) (λe=>?_);ext
 exists a0i k4 (v:=.int (u.length:Int)) rfl
 refine⟨pd,_,rfl,kd,?_⟩;rw[a3a];ext;refine iteB (λe=>absurd e qz) (λe=>?_);ext
 exists a0i k4 (v:=.ref pr) rfl
 refine⟨ns,_,SqL.of r4,d4,hS,qo,λH5 s5=>?_⟩;have s05:=s04.trans s5;have k5:=s5.tup k4;have r5:=s5 _ _ r4;have d5:=d4.mono s5;have kd5:=s5 _ _ kd;walk_at "A"
 exists a0i k5 (v:=.ref pr) rfl
 exists a0i (s05.tup ht) (v:=.ref bh) rfl
 exists a2t (s05.tup hb)
 have RD:=rd_L (ix u) u (ix_inj u) ks 0 [] (List.replicate ks.length none) (by rw[Yc];omega) (λj hj=>by rw[Wc,if_pos qo]) ra (by rw[Yc];omega) (λx hx=>by simp at hx) hvh;rw[Yc]at RD;obtain⟨R1,_,R3⟩:=RD;have hall:∀j,j<(thA (taL (ix u) ks 0 ks.length []) (List.replicate ks.length none)).length->∃r,(thA (taL (ix u) ks 0 ks.length []) (List.replicate ks.length none))[j]? =some (some r):=λj hj=>by
  rw[R1.len]at hj
  by_cases hjk:j<ks.length
  ·have:=b6h R3 j hjk;rwa[Ye]at this
  ·exact R1.new j (by rw[Yc];omega) hj
 have hnext:∃tag els r2,tl=(.inr tag::els)::r2/\tag∉a4j:=by
  rw[etl]
  by_cases hg:gs=[]
  ·rw[if_pos hg];exact⟨_,_,_,rfl,qk⟩
  ·rw[if_neg hg];exact⟨_,_,_,rfl,qk⟩
 refine⟨ns,taL (ix u) ks 0 ks.length [],tl,ks.length,ks,ix u,r5,by rw[hpre];exact d5,hnext,by rw[hkl],rn,by rw[a9x];omega,R1.ok,hall,qo,rfl,ra,R3,qo,λqs pth ys H6 s6 ks6 kp6 dy=>?_⟩;rw[a9x]at ks6;have s06:=s05.trans s6;walk_at "A"
 exists a0i (SqT.of ks6) (v:=.ref pth) rfl
 refine⟨.app wd ks,u,hv.mono s06,s6 _ _ kd5,λx hx=>hvh x (by rw[vars]at hx;exact hx),by simp only[Trm.size];omega,qo,λx7 H7 s7 d7=>?_⟩;obtain⟨ax,bx,xus,rfl,hx1,hx2,dx⟩:=d5e d7;ext
 exists a0i hx1 (v:=.ref bx) rfl
 exists d2l (.tup (SqT.of (s7 _ _ kp6)) (dy.mono s7)) (.tup hx2 dx) (by have:=d5f (ix u) wd ks;omega)
 walk_at "iF";have s57:=s6.trans s7;have s07:=s05.trans s57;have r7:=s57 _ _ r5;have d7:=d5.mono s57;have kd7:=s57 _ _ kd5;have hg7:=s07.tup hg;have dg7:=hdg.mono s07;ext;refine a0i (SqT.of (s7 _ _ ks6)) (v:=.int (Trm.sizeL ks:Int)) rfl ?_;rw[<-hpl];ext
 exists a2t hg7
 have dEnd:∀(J:Hp)(A B:List (List Key))(nE:Nat),Same H7 J->pre++tl=A++B->nE=A.length->DenL K J (ns.drop nE) (B.map rowD)/\nE<=ns.length:=λJ A B nE sJ e el=>by
  subst el;have:=(d7.mono sJ).drop A.length;rw[e,Zn]at this;have e2:List.drop A.length (List.map rowD A++List.map rowD B)=List.map rowD B:=List.drop_left' (by rw[length_map]);rw[e2]at this;exact⟨this,by rw[hnl,e];simp⟩
 by_cases hg0:gs=[]
 ·refine iteB (λe=>?_) (λe=>absurd (Xm (by simpa using e)) (by rw[hg0]at hgl;simp at hgl;simp[hgl]));rw[if_pos hg0]at etl;ext;refine⟨pr,ns,rfl,SqL.of r7,λp9 hp9=>?_⟩;rw[b7d ns pre.length hpn];have sp9:=a0f hp9 (.lst (ns.drop pre.length));have kp9:(upd H7 p9 (.lst (ns.drop pre.length))) p9=some (.lst (ns.drop pre.length)):=a0b;generalize upd H7 p9 (.lst (ns.drop pre.length))=H8 at sp9 kp9 ⊢;obtain⟨dE,_⟩:=dEnd H8 pre [a6s] pre.length sp9 (by rw[etl]) rfl;ext;refine⟨ln (by show 1<=100000;decide),λq7 hq7=>?_⟩;have sq7:Same H8 (upd H8 q7 (.tup [.str "back"])):=a0f hq7 _;have kq7:(upd H8 q7 (.tup [.str "back"])) q7=some (.tup [.str "back"]):=a0b;generalize upd H8 q7 (.tup [.str "back"])=H9 at sq7 kq7 ⊢;ext;refine⟨ln (by show 1<=100000;decide),λq8 hq8=>?_⟩;have sq8:Same H9 (upd H9 q8 (.lst [.ref q7])):=a0f hq8 _;have kq8:(upd H9 q8 (.lst [.ref q7])) q8=some (.lst [.ref q7]):=a0b;generalize upd H9 q8 (.lst [.ref q7])=H10 at sq8 kq8 ⊢;have s78:=sq7.trans sq8;refine⟨p9,q8,_,_,[rowD a6s],rfl,rfl,.inr ⟨SqL.of (s78 _ _ kp9),SqL.of kq8⟩,dE.mono s78,.cons (b2r (ks:=a6s) (SqT.of (sq8 _ _ kq7))) .nil,by simp[rowD,a6s,keyD,PyData.depthAll,PyData.depth],?_⟩;exact q _ (s07.trans (sp9.trans s78))
 have hug:ug≠[]:=λz=>hg0 (List.eq_nil_of_length_eq_zero (by rw[<-hgl,z];rfl))
 refine iteB (λe=>absurd (Z8 (by simpa using e)) hug) (λe=>?_);rw[if_neg hg0]at etl;ext;refine⟨pd,_,rfl,kd7,?_⟩;rw[a3a];ext;refine⟨ln (by show 1<=100000;decide),λq7 hq7=>?_⟩;have sq7:Same H7 (upd H7 q7 (.lst [.ref ah])):=a0f hq7 _;have kq7:(upd H7 q7 (.lst [.ref ah])) q7=some (.lst [.ref ah]):=a0b;generalize upd H7 q7 (.lst [.ref ah])=H8 at sq7 kq7 ⊢;ext;refine⟨[.ref ah],[.app wd ks],SqL.of kq7,.cons (hv.mono (s07.trans sq7)) .nil,by simp only[Trm.sizeL,Trm.size];omega,λpe H9 s9 ke=>?_⟩;have s79:=sq7.trans s9;ext;refine⟨pe,_,rfl,ke,?_⟩;rw[a3a,ha0];ext
 (repeat (rename_i zz;subst zz))
 rw[show(u.length:Int)-((ordL ks []).length:Int)=(ub.length:Int) by omega];generalize hA:(ordL ks []).length=a at hln etl ha0 htl;generalize hM:ub.length=m at hln etl htl;have d9:=d7.mono s79;have r9:=s79 _ _ r7;obtain⟨dF,lF⟩:=dEnd H9 pre ([a6b]++(a2h a m++(gsK (ix u) (a1v true gs.length) 0 gs++a3z gs))) pre.length s79 (by rw[etl,body_0]) rfl;have dF1:=dF.take 1;obtain⟨dN,lN⟩:=dEnd H9 (pre++[a6b]) (a2h a m++(gsK (ix u) (a1v true gs.length) 0 gs++a3z gs)) (pre.length+1) s79 (by rw[etl,d2k]) qz;obtain⟨dX,lX⟩:=dEnd H9 (pre++[a6b]++a2h a m) (gsK (ix u) (a1v true gs.length) 0 gs++a3z gs) (pre.length+1+m) s79 (by rw[etl,d2k,Zt _ (a2h a m)]) (by unfold a2h;simp;omega);have dN1:DenL K H9 ((ns.drop (pre.length+1)).take m) ((a2h a m).map rowD):=by
  have:=dN.take m;rw[Zn]at this;have e2:List.take m (List.map rowD (a2h a m)++List.map rowD (gsK (ix u) (a1v true gs.length) 0 gs++a3z gs))=List.map rowD (a2h a m):=List.take_left' (by unfold a2h;simp);rw[e2]at this;exact this
 have dF2:DenL K H9 ((ns.drop pre.length).take 1) [rowD a6b]:=dF1;rw[show((pre.length:Int)+1)=((pre.length+1:Nat):Int) by omega];refine⟨pr,ns,rfl,SqL.of r9,λp9 hp9=>?_⟩;rw[c6z ns pre.length (pre.length+1) qo qo,show pre.length+1-pre.length=1 by omega];have sp9:=a0f hp9 (.lst ((ns.drop pre.length).take 1));have kp9:(upd H9 p9 (.lst ((ns.drop pre.length).take 1))) p9=some (.lst ((ns.drop pre.length).take 1)):=a0b;generalize upd H9 p9 (.lst ((ns.drop pre.length).take 1))=H10 at sp9 kp9 ⊢;ext;refine⟨ln (by show 1<=100000;decide),λq8 hq8=>?_⟩;have sq8:Same H10 (upd H10 q8 (.tup [.str "frame"])):=a0f hq8 _;have kq8:(upd H10 q8 (.tup [.str "frame"])) q8=some (.tup [.str "frame"]):=a0b;generalize upd H10 q8 (.tup [.str "frame"])=H11 at sq8 kq8 ⊢;ext;refine⟨ln (by show 1<=100000;decide),λq9 hq9=>?_⟩;have sq9:Same H11 (upd H11 q9 (.lst [.ref q8])):=a0f hq9 _;have kq9:(upd H11 q9 (.lst [.ref q8])) q9=some (.lst [.ref q8]):=a0b;generalize upd H11 q9 (.lst [.ref q8])=H12 at sq9 kq9 ⊢;have s912:=sp9.trans (sq8.trans sq9);refine⟨p9,q9,_,_,[rowD a6b],rfl,rfl,.inr ⟨SqL.of ((sq8.trans sq9) _ _ kp9),SqL.of kq9⟩,dF2.mono s912,.cons (b2r (ks:=a6b) (SqT.of (sq9 _ _ kq8))) .nil,by simp[rowD,a6b,keyD,PyData.depthAll,PyData.depth],?_⟩;walk_at "A";rw[show((pre.length:Int)+1)=((pre.length+1:Nat):Int) by omega,show(((pre.length+1:Nat):Int)+(m:Int))=((pre.length+1+m:Nat):Int) by omega];refine⟨pr,ns,rfl,SqL.of (s912 _ _ r9),λp10 hp10=>?_⟩;rw[c6z ns (pre.length+1) (pre.length+1+m) qo qo,show pre.length+1+m-(pre.length+1)=m by omega];have sp10:=a0f hp10 (.lst ((ns.drop (pre.length+1)).take m));have kp10:(upd H12 p10 (.lst ((ns.drop (pre.length+1)).take m))) p10=some (.lst ((ns.drop (pre.length+1)).take m)):=a0b;generalize upd H12 p10 (.lst ((ns.drop (pre.length+1)).take m))=H13 at sp10 kp10 ⊢;ext;have dN3:=dN1.mono (s912.trans sp10);have nw:=d2n (by rw[<-nwZ_new];exact dN3);rw[nwZ_map]at nw;refine⟨p10,newS,_,_,rfl,SqL.of kp10,nw,nwZ_lt a m,by rw[nwZ_len];omega,λp11 hp11=>?_⟩;have sp11:=a0f hp11 (.lst ((ns.drop (pre.length+1)).take m));have kp11:(upd H13 p11 (.lst ((ns.drop (pre.length+1)).take m))) p11=some (.lst ((ns.drop (pre.length+1)).take m)):=a0b;generalize upd H13 p11 (.lst ((ns.drop (pre.length+1)).take m))=H14 at sp11 kp11 ⊢;have s914:=s912.trans (sp10.trans sp11);ext;refine⟨pd,_,rfl,(s79.trans s914) _ _ kd7,?_⟩;rw[a3a];ext;refine⟨a,m,by rw[hln],rfl,qo,λpw us2 H15 s15 kw dw=>?_⟩;refine⟨p11,pw,_,_,(a2h a m).map rowD,rfl,rfl,.inr ⟨SqL.of (s15 _ _ kp11),SqL.of kw⟩,dN3.mono (sp11.trans s15),dw,by have:=b9d (a2h a m);omega,?_⟩;ext;walk_at "iF";have s715:=s79.trans (s914.trans s15);have r15:=s715 _ _ r7;have d15:=d7.mono s715;have hg15:=s715.tup hg7;have dg15:=dg7.mono s715;have kd15:=s715 _ _ kd7;generalize hB:pre++tl=B at d15 d7 hnl hL;rw[etl]at hB;ext
 (repeat (rename_i zz;subst zz))
 try rw[show((pre.length:Int)+1+(m:Int))=((pre.length+1+m:Nat):Int) by omega]
 refine⟨pg,rfl,⟨_,hg15⟩,?_⟩;refine a1t (b4x (xs:=ug)) (λj σ' J=>∃(o9 o10:Option V),σ'=[some (.ref pf),some (.int n),some (.ref ah),some (.ref pg),some (.ref pd),some (.ref pr),some (.ref qs),some (.int ((pre++hdK (ix u) a m gs j).length:Int)),some (.int (m:Int)),o9,o10]/\Same H15 J) ⟨none,none,by rw[Zc,d5a,<-Nat.add_assoc];rfl,Same.refl _⟩ (λj σ' J hP=>by obtain⟨_,_,_,sJ⟩:=hP;exact sJ.tup hg15) (λj σ' J hj hP=>?_) (λσ' J hP=>?_)
 ·obtain⟨o9,o10,rfl,sJ⟩:=hP;have hj:j<gs.length:=by omega
  obtain⟨gok,gz,gar,gk4,gv⟩:=rg _ (Zx hj);obtain⟨Y,hY⟩:=d5b pre (ix u) a m hj;rw[hB]at hY;have hS2:=c4t (ix u) a m hj;generalize hn:(pre++hdK (ix u) a m gs j).length=nn at hY;obtain⟨huj,dgj⟩:=d2b dg15 hj;ext;refine⟨ix u,ns,B,gs[j],a1v true gs.length j,nn,sJ _ _ r15,d15.mono sJ,rfl,λi hi=>?_,c6u true gs.length j,gok,gz,gar,gk4,qo,λqq vv J2 s2 kq dv=>?_⟩
  ·rw[hY,<-hn,get_mid hi]
  ext
  exists a8r (SqT.of kq) rfl
  have s3:=sJ.trans s2
  (repeat (rename_i zz;subst zz))
  rw[getD_at huj];refine⟨gs[j].trm,u,dgj.mono s3,s3 _ _ kd15,λx hx=>hgv _ (Zx hj) x (by rw[gs[j].kids_vars];exact hx),qo,qo,λx9 J9 s9 d9=>?_⟩
  exists eq_byD (dv.mono s9) d9 qo
  walk_at "C";refine⟨some ug[j],some vv,?_,s3.trans s9⟩;rw[show(pre++hdK (ix u) a m gs (j+1)).length=nn+(Trm.sizeL gs[j].kids+1) by rw[hS2,<-Zt,Zc,hn,c4q]];rfl
 obtain⟨o9,o10,rfl,s16⟩:=hP;rw[show ug.length=gs.length by omega];rcases b5s gs with hgn|⟨gs',gl,hgn⟩
 ·exact absurd hgn hg0
 have hgs2:=dg15;rw[hgn,trms,Zn,a7j]at hgs2;obtain⟨us',ul,hus,du',dul⟩:=DenL.snoc hgs2;have dul:Den K H15 ul gl.trm.data:=dul;have hat:atI ug (-1)=some ul:=by rw[hus];exact c4j us' ul
 have okl:=(rg gl (by rw[hgn];simp)).1;have hln2:a4d gs=gl.named:=by rw[hgn];exact a6r gs' gl
 have hE:=c4u pre (ix u) a m gs;obtain⟨dE,lE⟩:=dEnd J (pre++hdK (ix u) a m gs gs.length) (a3z gs) (pre++hdK (ix u) a m gs gs.length).length (s715.trans s16) (by rw[etl,hE]) rfl;have hT:a3z gs=if gl.named=true then[]else[a6s]:=by unfold a3z;rw[hln2]
 rw[hT]at dE;have dul:=dul.mono s16;rw[Go.trm_eq]at dul;obtain⟨a1,b1,us1,rfl,hs1,hb1,hk1⟩:=a3f dul;have r16:=s16 _ _ r15;have d16:=d15.mono s16;have s716:=s715.trans s16;ext
 exists a0i (s16.tup hg15) hat
 exists a0i hs1 (v:=.str gl.sgn) rfl
 refine⟨ln (by show 6<=100000;decide),λq17 hq17=>?_⟩;have sq17:Same J (upd J q17 (.tup [.str "keep",.str "not",.str "=",.str ":=",.str "<",.str "<="])):=a0f hq17 _;have kq17:(upd J q17 (.tup [.str "keep",.str "not",.str "=",.str ":=",.str "<",.str "<="])) q17=some (.tup [.str "keep",.str "not",.str "=",.str ":=",.str "<",.str "<="]):=a0b;generalize upd J q17 (.tup [.str "keep",.str "not",.str "=",.str ":=",.str "<",.str "<="])=J1 at sq17 kq17 ⊢;ext;refine a5j a4o (.inr (SqT.of kq17)) ?_;rw[show decide (gl.sgn∈a4o)= !gl.named by rw[<-d5g gl okl,Bool.not_not]];have r17:=sq17 _ _ r16
 (repeat (rename_i zz;subst zz))
 cases hnl:gl.named with
 |false=>
  rw[hnl,if_neg qz]at dE;generalize (pre++hdK (ix u) a m gs gs.length).length=nE at dE lE;walk_at "B";refine⟨pr,ns,rfl,SqL.of r17,λp18 hp18=>?_⟩;rw[b7d ns nE lE];have sp18:=a0f hp18 (.lst (ns.drop nE));have kp18:(upd J1 p18 (.lst (ns.drop nE))) p18=some (.lst (ns.drop nE)):=a0b;generalize upd J1 p18 (.lst (ns.drop nE))=J2 at sp18 kp18 ⊢;ext;refine⟨ln (by show 1<=100000;decide),λq19 hq19=>?_⟩;have sq19:Same J2 (upd J2 q19 (.tup [.str "back"])):=a0f hq19 _;have kq19:(upd J2 q19 (.tup [.str "back"])) q19=some (.tup [.str "back"]):=a0b;generalize upd J2 q19 (.tup [.str "back"])=J3 at sq19 kq19 ⊢;ext;refine⟨ln (by show 1<=100000;decide),λq20 hq20=>?_⟩;have sq20:Same J3 (upd J3 q20 (.lst [.ref q19])):=a0f hq20 _;have kq20:(upd J3 q20 (.lst [.ref q19])) q20=some (.lst [.ref q19]):=a0b;generalize upd J3 q20 (.lst [.ref q19])=J4 at sq20 kq20 ⊢;have s920:=sq19.trans sq20;refine⟨p18,q20,_,_,[rowD a6s],rfl,rfl,.inr ⟨SqL.of (s920 _ _ kp18),SqL.of kq20⟩,dE.mono (sq17.trans (sp18.trans s920)),.cons (b2r (ks:=a6s) (SqT.of (sq20 _ _ kq19))) .nil,by simp[rowD,a6s,keyD,PyData.depthAll,PyData.depth],?_⟩;exact q _ (s07.trans (s716.trans (sq17.trans (sp18.trans s920))))
 |true=>
  rw[hnl,if_pos rfl]at dE;have hln3:a4d gs=true:=by rw[hln2,hnl]
  obtain⟨X,w0,k0,hX,hXn,hXl⟩:=d5c pre (ix u) a m (λks' hks'=>by
   rw[<-hpre]at hks';obtain⟨r,_,rfl⟩:=Z3.mp hks'
   exact rwK_not r) hln3
  rw[hB]at hX;generalize (pre++hdK (ix u) a m gs gs.length).length=nE at dE lE hXl;have hXB:X.length+1=B.length:=by rw[hX];simp
  walk_at "A";refine⟨pr,ns,rfl,SqL.of r17,λp18 hp18=>?_⟩;rw[b7d ns nE lE];have sp18:=a0f hp18 (.lst (ns.drop nE));have kp18:(upd J1 p18 (.lst (ns.drop nE))) p18=some (.lst (ns.drop nE)):=a0b;generalize upd J1 p18 (.lst (ns.drop nE))=J2 at sp18 kp18 ⊢;ext;refine⟨ln (by show 0<=100000;decide),λq20 hq20=>?_⟩;have sq20:Same J2 (upd J2 q20 (.lst [])):=a0f hq20 _;have kq20:(upd J2 q20 (.lst [])) q20=some (.lst []):=a0b;generalize upd J2 q20 (.lst [])=J4 at sq20 kq20 ⊢;refine⟨p18,q20,_,_,[],rfl,rfl,.inr ⟨SqL.of (sq20 _ _ kp18),SqL.of kq20⟩,dE.mono (sq17.trans (sp18.trans sq20)),.nil,by simp[PyData.depthAll],?_⟩;have s1720:=sq17.trans (sp18.trans sq20);have r20:=s1720 _ _ r16;have d20:=d16.mono s1720;have hlast:B[X.length]? =some [.inr a2m,.inr w0,k0]:=by rw[hX];simp
  obtain⟨al,atl,ltl,sql⟩:=a9y d20 hlast;walk_at "B";rw[show((nE:Nat):Int)-1=(X.length:Int) by omega]
  exists a1r (SqL.of r20) atl
  exists a0i sql (v:=.str a2m) rfl
  rw[show(false^^decide (a2m=ofString "jump"))=true from qk];walk_at "D";rw[show((nE:Nat):Int)-1=(X.length:Int) by omega];refine⟨pr,ns,rfl,SqL.of r20,λp21 hp21=>?_⟩;rw[d5d ns X.length qo];have sp21:=a0f hp21 (.lst (ns.take X.length));have kp21:(upd J4 p21 (.lst (ns.take X.length))) p21=some (.lst (ns.take X.length)):=a0b;generalize upd J4 p21 (.lst (ns.take X.length))=J5 at sp21 kp21 ⊢;refine⟨p21,rfl,⟨_,SqL.of kp21⟩,λD hD=>?_⟩;refine a2z (a4x (xs:=ns.take X.length)) (λi ys L=>Same J5 L/\L D=some (.lst ys)/\∃zs:List Str,ys=zs.map V.str/\a2m∉zs) (ln (by rw[Z5];omega)) ⟨a0f hD _,a0b,[],rfl,qz⟩ (λi ys L hP=>SqL.of (hP.1 _ _ kp21)) (λi ys L Q' hi hl' hP kk=>?_) (λys L hl' hP=>?_)
  ·obtain⟨g1,g2,zs,rfl,g4⟩:=hP;have hi:i<X.length:=by rw[Z5]at hi;omega
   obtain⟨tag,els,e1,e2⟩:=hXn _ (Zx hi);have hBi:B[i]? =some (.inr tag::els):=by rw[hX,Yl hi,Za hi,e1]
   obtain⟨ai,ati,lti,sqi⟩:=a9y (d20.mono (sp21.trans g1)) hBi;have e3:(ns.take X.length).getD i .non=.ref ai:=by
    have h1:=a3n (us:=ns) lti;rw[ati]at h1;rw[Zk,List.getElem?_take,if_pos hi,Za lti,<-Zi h1];rfl
   ext;rw[e3];refine a0i sqi (a5m tag els) ?_
   exact kk _ _ g2 ⟨a1c g1 hD,a0b,zs++[tag],by rw[Zn];rfl,λz=>by
    rcases Zm.mp z with z|z
    ·exact g4 z
    ·exact e2 (Zr.mp z).symm⟩
  obtain⟨g1,g2,zs,rfl,g4⟩:=hP;refine a5j zs (.inl (SqL.of g2)) ?_;rw[show decide (ofString "jump"∈zs)=false from Z4 g4];ext;refine⟨false,false,rfl,rfl,?_⟩;exact q _ (s07.trans (s716.trans (s1720.trans (sp21.trans g1))))
end
section
variable{P:Program}{w:World}{K:W.Frag}{mg:Str->Option Value}{base:Heap}{t:Ad}
theorem c8s(T:Txt K mg t)(G_c9:FnOk P w K mg base CX0 64 t.a_c9 t.d_c9 ["_law_found","_law_number","_law_head_here","_law_goals"] (b1c K))(G_e6:FnOk P w K mg base CX0 2 t.a_e6 t.d_e6 ["_law_heads"] (b5t K)):FnOk P w K mg base CX0 65 t.a_b7 t.d_b7 ["_law_found","_law_rules_here"] (b9f K):=by
 exists T.F_b7.ok a3y,(a0e (a0p (i:=2) a3y.nd rfl (by nofun) a7y) (a0e (a1p Zv rfl (a2o rfl T.n_e9 (a0a (a0r (a1k K rfl) rfl T.n_a3 Zq (a0a (mv 1) a0c)) a0c)) (a1a (i:=3) a3y.nd rfl (by nofun)) (a0e (a0p (i:=4) (hs:=a4q) a3y.nd rfl (by nofun) (a0j (a0h K rfl) (a0j (a0h K rfl) (mv 1) (mv 3) (λ_ _=>rfl)) a0d (λ_ _=>rfl))) (a0g (a1f (a6f K rfl Yz Xp X1 a5s (a6f K rfl Wl W8 V8 (b6f (a3q hr)) (mv 2) (a0a (a0x (a0a (a0j (a0h K rfl) (mv 4) a0d (λ_ _=>rfl)) (a0a (a0r (a1k K rfl) rfl T.n_a3 Zq (a0a (a0j (a0h K rfl) (mv 4) a0d (λ_ _=>rfl)) a0c)) a0c))) (a0a (a1x a0c) a0c))) (a0a (mv 3) a0c)))))) (a0e (a0y (PW.pt (a2x (a3c (a2q K rfl (a0r kc_isDT rfl T.n_f2 Xc (a0a (mv 0) (a0a (a5t rfl T.n_h0 boot_dict) a0c))))) (a3j (a0s a9j (a0r c6f rfl T.n_a3 Zq (a0a (mv 0) a0c)) (a0r c6f rfl T.n_a3 Zq (a0a (mv 2) a0c)) (a0t _))))) (a0g (a0q a3m)) a0v) (a0e (c3q (a1p Zv rfl (c3p (mv 2)) (a1a (i:=5) a3y.nd rfl (by nofun)) (a0e (a0p (i:=6) (hs:=a4q) a3y.nd rfl (by nofun) (a2p (a1h hr) (mv 2) (mv 5) (λ_ _=>rfl))) (a0e (a0y (PW.pt (a2x (a0s (b4z (a1h hr)) (mv 5) (mv 0) (by with_unfolding_all rfl)) (a2x (a3c (a2q K rfl (a0r (a8k K rfl) rfl T.n_f2 Xc (a0a (a2p (a1h hr) (mv 0) (mv 5) (λ_ _=>rfl)) (a0a (a5t rfl T.n_f3 Wo) a0c))))) (a3j (a0s a9j (a0r (a1k K rfl) rfl T.n_a3 Zq (a0a (a2p (a1h hr) (mv 0) (mv 5) (λ_ _=>rfl)) a0c)) a0d (a0t _)))))) (a0g (a0q a3m)) a0v) (a0e (c2h (a2p (a1h hr) (mv 0) (mv 5) (λ_ _=>rfl)) (a7g K rfl rfl (a2n (a1a (i:=7) a3y.nd rfl (by nofun)) (a2n (a1a (i:=8) a3y.nd rfl (by nofun)) a7e)))) (a0e (a0y (PW.pt (a2x (a3c (a2q K rfl (a0r (a8k K rfl) rfl T.n_f2 Xc (a0a (mv 7) (a0a (a5t rfl T.n_f1 W4) a0c))))) (a3j (a0s a9j (a0r (a1k K rfl) rfl T.n_a3 Zq (a0a (mv 7) a0c)) (a0r (a1k K rfl) rfl T.n_a3 Zq (a0a (mv 6) a0c)) (a0t _))))) (a0g (a0q a3m)) a0v) (a0e (a1p Zv rfl (a2o rfl T.n_e9 (a0a (a0r (a1k K rfl) rfl T.n_a3 Zq (a0a (mv 6) a0c)) a0c)) (a1a (i:=3) a3y.nd rfl (by nofun)) (a0g (a0y (a3c (a2q K rfl (a0m G_c9 hr.o rfl T.m_c9 T.F_c9.kp T.b_c9 .nil a0n (a0a (a0j (a0h K rfl) (mv 7) (mv 3) (λ_ _=>rfl)) (a0a (a0u (a1d K rfl) (a0j (a0h K rfl) (mv 6) (mv 3) (λ_ _=>rfl)) a0d) (a0a (a0j (a0h K rfl) (a0j (a0h K rfl) (mv 1) (a0j (a0h K rfl) (mv 6) (mv 3) (λ_ _=>rfl)) (λ_ _=>rfl)) a0d (λ_ _=>rfl)) (a0a (a0j (a0h K rfl) (a0j (a0h K rfl) (mv 1) (a0j (a0h K rfl) (mv 6) (mv 3) (λ_ _=>rfl)) (λ_ _=>rfl)) a0d (λ_ _=>rfl)) a0c))))))) (a0g (a0q a3m)) a0v))) (a0g (a0y (PW.pt (a2x (a3c (a2q K rfl (a0r (a8k K rfl) rfl T.n_f2 Xc (a0a (mv 8) (a0a (a5t rfl T.n_f3 Wo) a0c))))) (a3j (a0s (ko_neSw K rfl (a3q hr)) (mv 8) (a0m G_e6 hr.o rfl T.m_e6 T.F_e6.kp T.b_e6 .nil a0n (a0a (a5h rfl (a6z K rfl (mv 6)) (a3p (a0o b0w) ["_law_found","_law_rules_here","_law_words","_law_k","_law_head_here","_law_word","_law_places","_law_codes","_law_switch_here"] ["_law_found","_law_rules_here","_law_words","%_law_k","_law_head_here","_law_word","_law_places","_law_codes","_law_switch_here"] rfl rfl qk) (λ_ _ _ _ _=>a3o) (λ_ _ _ _ _=>(a0j (a0h K rfl) (a0j (a0h K rfl) (mv 2) (mv 0) (λ_ _=>rfl)) a0d (λ_ _=>rfl)))) a0c)) (a0t _))))) (a0g (a0q a3m)) a0v))))))))) (a0g (a0q a3m)))))),H,Q,E,hr,h
 rename_i d a;obtain⟨us,rs,xs,H0,hS,hp,hf,hx4,hrl,fd,q⟩:=h;have hul:=Yo hp;ext;intro p1 hp1;have hdp:d≠p1:=λz=>by
  obtain⟨kfz,z1,_⟩:=fd;rw[z,hp1]at z1;cases z1
 have s1:Same H (upd H p1 (.dT [])):=a0f hp1 _;have k1:(upd H p1 (.dT [])) p1=some (.dT []):=a0b;generalize upd H p1 (.dT [])=H1 at s1 k1 ⊢;ext
 exists a4k (s1.seq hS)
 refine⟨_,rfl,qo,qo,?_⟩;rw[show(us.length:Int).toNat=rs.length by omega];refine a1t (a1q 0 rs.length) (λi σ' J=>∃(o3 o4:Option V)(M:List Addr)(v1:List (List Key×V)),σ'=[some (.ref d),some (.ref a),some (.ref p1),o3,o4,none,none,none,none]/\TabM b9e K H J p1 M v1 (tabR (rs.take i) 0 [])/\v1.length<=i) ⟨none,none,[],[],rfl,⟨s1,k1,hp1,λm hm=>by simp at hm,.nil,qz,λm hm=>by simp at hm⟩,Zg _⟩ (λ_ _ _ _=>trivial) (λi σ' J hi hP=>?_) (λσ' J hP=>?_)
 ·obtain⟨o3,o4,M,v1,rfl,tm,l1⟩:=hP;obtain⟨hui,ta,hv,gp,ug,e1,hts,hhd,hgp,hgd⟩:=a4n hp hi;generalize hx0:rs[i]=x0 at hhd hgd;have hat:atI us (0+(i:Int))=some (.ref ta):=by rw[Wt,a3n hui,e1]
  obtain⟨ah,bh,kus,rfl,ht,hb,hk,_⟩:=id hhd;have hkl:=a2l hk;ext
  exists a1r (tm.sm.seq hS) hat
  exists a0i (tm.sm.tup hts) (v:=.ref ah) rfl
  refine⟨.inr (.inr (.inl ⟨rfl,.inr ⟨_,tm.top⟩⟩)),?_⟩;ext
  exists a0i (tm.sm.tup ht) (v:=.str x0.w) rfl
  exists a0i (tm.sm.tup ht) (v:=.ref bh) rfl
  exists a2t (tm.sm.tup hb)
  rw[hkl];refine⟨ln (by show 2<=100000;decide),λp6 hp6=>?_⟩;have sp6:Same J (upd J p6 (.tup [.str x0.w,.int (x0.ks.length:Int)])):=a0f hp6 _;have kp6:(upd J p6 (.tup [.str x0.w,.int (x0.ks.length:Int)])) p6=some (.tup [.str x0.w,.int (x0.ks.length:Int)]):=a0b;generalize upd J p6 (.tup [.str x0.w,.int (x0.ks.length:Int)])=J1 at sp6 kp6 ⊢;ext;have tm:=tm.same sp6;refine⟨Yk _,λp7 hp7=>?_⟩;ext;have kp6:J1 p6=some (.tup ((keyR x0).map kV)):=kp6;refine tm.setd (0,x0) kp6 hp7 qo λJ8 m8 M8 w1 tab8 tm8 hv8 ha8 hl8 kt8 b8 c8=>?_
  obtain⟨us8,e8⟩:=tm8.at (0,x0) hv8;ext;refine⟨.inl ⟨rfl,_,SqL.of e8⟩,?_⟩;ext;have dC:Dm K J8 M8 (.int (0+(i:Int))) (b9e (i+1,x0)):=by
   have:b9e (i+1,x0)=.int (0+(i:Int)):=by show PyData.int (((i+1:Nat):Int)-1)=_;congr 1;omega
   rw[this];exact .int _
  obtain⟨usD,eD,⟨bD,hbD,hlD⟩,tmD,prD⟩:=tm8.app hv8 dC;have hTl:∀b∈tabR (rs.take i) 0 [],b.2.length<=i:=λb hb=>by have:=a7c (n:=0) (λb hb=>by simp at hb) b hb;rw[Z5]at this;omega
  rw[ha8]at hbD tmD;have lD:=b0p hTl bD hbD;refine a5v eD (ln1 qo) ?_;have et:tabR (rs.take (i+1)) 0 []=addT (tabR (rs.take i) 0 []) (keyR x0) (i+1,x0):=by
   rw[take_succ' hi,b4o,Z5,hx0,show 0+min i rs.length+1=i+1 by omega]
  rw[<-et]at tmD;exact⟨_,_,_,w1,rfl,tmD,qo⟩
 obtain⟨o3,o4,M,v1,rfl,tm,l1⟩:=hP;rw[Zy qo]at tm;have hT1:((tabR rs 0 []).map (·.1)).Nodup:=b9y qz;have hT2:∀b∈tabR rs 0 [],b.2.length<=45:=λb hb=>by have:=a7c (n:=0) (λb hb=>by simp at hb) b hb;omega
 have hT3:∀b∈tabR rs 0 [],∀y∈b.2,∃i,y.1=i+1/\rs[i]? =some y.2:=b6x (P:=λy=>∃i,y.1=i+1/\rs[i]? =some y.2) (λb hb=>by simp at hb) (λi hi=>⟨i,by show 0+i+1=i+1;omega,Za hi⟩)
 generalize tabR rs 0 []=TAB at tm fd hT1 hT2 hT3;have lW:=Yo tm.row;obtain⟨kf,fdJ,_,fdp,_⟩:=fd.same tm.sm;have lF:=Yo fdp;ext;refine⟨d,_,rfl,fdJ,?_⟩;walk_at "A";refine⟨d,_,rfl,.inl fdJ,?_⟩;ext;refine⟨p1,_,rfl,.inl tm.top,?_⟩;ext;rw[lF,lW];refine iteB (λe=>absurd e qz) (λe=>?_);ext;refine⟨p1,v1,rfl,tm.top,λo ads nf hal hads=>?_⟩;have ktF:KT K J (upd J p1 (.frz o (.dT v1))):=.upd tm.top (λ_ z=>by cases z) (λ_ _ z=>by cases z);have klF:∀a us,J a=some (.lst us)->(upd J p1 (.frz o (.dT v1))) a=some (.lst us):=λa us e=>by rw[a0l (a1w e tm.top (λz=>by cases z))];exact e
 have sF:Same H (upd J p1 (.frz o (.dT v1))):=a1c tm.sm hp1;have rowF:Paired (λ(a:List Key×V) (b:List Key×List It2)=>a.1=b.1/\∃m us,a.2=.ref m/\(upd J p1 (.frz o (.dT v1))) m=some (.lst us)/\DmL K (upd J p1 (.frz o (.dT v1))) [] us (b.2.map b9e)) v1 TAB:=Paired.mapP tm.row λ_ _ ⟨e,m,us,e1,e2,e3,e4⟩=>⟨e,m,us,e1,klF _ _ e3,e4.weak.kl (λa us _ q=>klF a us q) ktF⟩
 have adF:∀(i:Nat)(q:List Key×V)(b:Addr),v1[i]? =some q->ads[i]? =some b->(upd J p1 (.frz o (.dT v1))) b=some (.tup (q.1.map kV)):=λi q b e1 e2=>by rw[a0l (a1w (hads i q b e1 e2) tm.top (λz=>by cases z))];exact hads i q b e1 e2
 have f1:(upd J p1 (.frz o (.dT v1))) p1=some (.frz o (.dT v1)):=a0b;generalize upd J p1 (.frz o (.dT v1))=HF at sF rowF adF f1 ⊢;clear ktF klF tm fdJ fdp lF;obtain⟨kf,fd1,_,fd3,fd4⟩:=fd.same sF;have lF:=Yo fd3;refine a1t c0t (λm σ' Hm=>∃(o3 o4 o5 o6 o7 o8:Option V),σ'=[some (.ref d),some (.ref a),some (.ref p1),o3,o4,o5,o6,o7,o8]/\Same HF Hm) ⟨o3,o4,none,none,none,none,rfl,Same.refl _⟩ (λm σ' Hm hP=>by obtain⟨_,_,_,_,_,_,_,sm⟩:=hP;exact sm _ _ f1) (λm σ' Hm hm hP=>?_) (λσ' Hm hP=>?_)
 ·obtain⟨o3,o4,o5,o6,o7,o8,rfl,sm⟩:=hP;obtain⟨h1,e,m1,us1,g1,g3,g4⟩:=a4n rowF (i:=m) qo;obtain⟨h2,e',pa,cl,usC,sw,c1,c2,_,c4,c5,⟨sw1,dd,kd,rfl,w1,w2,_,dok⟩⟩:=a4n fd3 (i:=m) qo;obtain⟨b,hb⟩:∃b,ads[m]? =some b:=⟨_,Za qo⟩
  have hkb:=adF m v1[m] b (Za h1) hb;have kn1:(v1.map (·.1)).Nodup:=by rw[a5l (λ_ _ z=>z.1) rowF];exact hT1
  have hv1:valV v1 v1[m].1=some v1[m].2:=b2d kn1 (Zx h1);have hv2:valV kf v1[m].1=some kf[m].2:=by rw[e,<-e'];exact b2d fd4 (Zx h2)
  rw[g1]at hv1;rw[c1]at hv2;rw[hb];have hTm:=Zx (l:=TAB) (n:=m) qo;generalize TAB[m]=tb at e e' g4 c5 dok w1 hTm;have lu1:=b5j g4;have luC:=b5j c5;rw[length_map]at lu1 luC;have hl45:=hT2 _ hTm;have wi:=d2p g4;have dgF:DGet Hm d (.ref b) (some (.ref pa)):=.inr ⟨kf,v1[m].1,b,.inl (sm _ _ fd1),rfl,sm _ _ hkb,hv2.symm⟩;have c2:=sm.tup c2;have c4:=sm _ _ c4;have g3:=sm _ _ g3;have sHm:=sF.trans sm;ext;refine⟨p1,_,rfl,.inr ⟨v1,v1[m].1,b,.inr ⟨o,sm _ _ f1⟩,rfl,sm _ _ hkb,hv1.symm⟩,?_⟩;ext;refine⟨d,_,rfl,dgF,?_⟩;ext;refine iteB (λe=>absurd e qz) (λe=>?_);ext;refine⟨d,_,rfl,dgF,?_⟩;ext
  exists b7y c2
  walk_at "C";refine⟨d,_,rfl,dgF,?_⟩;ext
  exists a2t c2
  refine iteB (λe=>absurd e qz) (λe=>?_);ext;refine⟨d,_,rfl,dgF,?_⟩;ext
  exists a8r c2 rfl
  exists d0e (SqL.of c4)
  walk_at "C"
  exists a4k (SqL.of c4)
  exists a4k (SqL.of g3)
  rw[luC,lu1];refine iteB (λe=>absurd e qz) (λe=>?_);ext
  exists a4k (SqL.of g3)
  refine⟨_,rfl,qo,qo,?_⟩;rw[show(us1.length:Int).toNat=tb.2.length by omega];have pl:∀(L:Hp)(y:It2),Same Hm L->y∈tb.2->∃(ta:Addr)(hv:V)(gp:Addr)(ug:List V),atI us ((y.1:Int)-1)=some (.ref ta)/\SqT K L ta [hv,.ref gp]/\HdN K L hv y.2.w y.2.ks/\SqT K L gp ug/\DenL K L ug (Trm.dataL (trms y.2.gs))/\RuF xs y.2:=λL y sL hy=>by
   obtain⟨i,y1,y2⟩:=hT3 _ hTm y hy;obtain⟨hi,y3⟩:=Zh.mp y2;obtain⟨hui,h3⟩:=a4n hp hi;obtain⟨ta,hv,gp,ug,e1,hts,hhd,hgp,hgd⟩:=h3.mono (sHm.trans sL);rw[y3]at hhd hgd;exact⟨ta,hv,gp,ug,by rw[y1,show((i+1:Nat):Int)-1=(i:Int) by omega,a3n hui,e1],hts,hhd,hgp,hgd,by rw[<-y3];exact hf _ (Zx hi)⟩
  have u1:∀(j:Nat)(hj:j<tb.2.length),atI us1 (0+(j:Int))=some (.int ((tb.2[j].1:Int)-1)):=λj hj=>by
   rw[Wt,a3n qo];subst wi;rw[U5]
  refine a1t (a1q 0 tb.2.length) (λj σ' L=>∃(o3:Option V),σ'=[some (.ref d),some (.ref a),some (.ref p1),o3,o4,some (.ref b),some (.ref m1),some (.ref cl),some (.ref sw1)]/\Same Hm L) ⟨o3,rfl,Same.refl _⟩ (λ_ _ _ _=>trivial) (λj σ' L hj hP=>?_) (λσ' L hP=>?_)
  ·obtain⟨o3,rfl,sL⟩:=hP;have sFL:=sm.trans sL;obtain⟨huj,pf,pr,ns,ej,q1,q2,q3⟩:=cd_at (c5.pr (.same sFL)) hj;obtain⟨ta,hv,gp,ug,y1,y2,y3,y4,y5,y6⟩:=pl L tb.2[j] sL (Zx hj);ext
   exists a1r (SqL.of (sL _ _ c4)) (by rw[Wt,a3n huj,ej])
   exists a1r (SqL.of (sL _ _ g3)) (u1 j hj)
   exists a1r (SqL.of (sL _ _ g3)) (u1 j hj)
   exists a1r ((sHm.trans sL).seq hS) y1
   exists a0i y2 (v:=hv) rfl
   exists a1r (SqL.of (sL _ _ g3)) (u1 j hj)
   exists a1r ((sHm.trans sL).seq hS) y1
   exists a0i y2 (v:=.ref gp) rfl
   refine⟨tb.2[j].2,xs,pr,ns,ug,by rw[show(tb.2[j].1:Int)-1+1=(tb.2[j].1:Int) by omega];exact q1,q2,q3,y3,y4,y5,y6,hx4,λJ9 s9=>?_⟩;walk_at "A";exact⟨_,rfl,sL.trans s9⟩
  obtain⟨o3,rfl,sL⟩:=hP;ext
  exists b7y ((sm.trans sL).tup w1)
  walk_at "C";refine⟨m1,rfl,⟨_,SqL.of (sL _ _ g3)⟩,λD hD=>?_⟩;refine a2z (a4x (xs:=us1)) (λi ys Z=>Same L Z/\Z D=some (.lst ys)/\Paired (λv h=>HdN K Z v h.1 h.2) ys ((tb.2.take i).map λx=>(x.2.w,x.2.ks))) (ln qo) ⟨a0f hD _,a0b,.nil⟩ (λi ys Z hP=>SqL.of (hP.1 _ _ (sL _ _ g3))) (λi ys Z Q' hi hl' hP kk=>?_) (λys Z hl' hP=>?_)
  ·obtain⟨z1,z2,z3⟩:=hP;have hj:i<tb.2.length:=by omega
   obtain⟨ta,hv,gp,ug,y1,y2,y3,_⟩:=pl Z tb.2[i] (sL.trans z1) (Zx hj);have e9:us1.getD i .non=.int ((tb.2[i].1:Int)-1):=by
    have:=u1 i hj;rw[Wt,a3n qo]at this;rw[getD_at qo,Zi this]
   ext;rw[e9]
   exists a1r ((sHm.trans (sL.trans z1)).seq hS) y1
   refine a0i y2 (v:=hv) rfl ?_;have kl:∀a us,SqT K Z a us->SqT K (upd Z D (.lst (ys++[hv]))) a us:=λa us z=>(KT.upd z2 (λ_ z=>by cases z) (λ_ _ z=>by cases z)) _ _ z
   refine kk _ _ z2 ⟨a1c z1 hD,a0b,?_⟩;rw[take_succ' hj,Zn];have kt:∀a xs,Z a=some (.tup xs)->(upd Z D (.lst (ys++[hv]))) a=some (.tup xs):=λa xs e=>by rw[a0l (λy=>by rw[y,z2]at e;cases e)];exact e
   exact Vi (Paired.mapP z3 λ_ _ z=>z.to kl kt) (y3.to kl kt)
  obtain⟨z1,z2,z3⟩:=hP;rw[Zy qo]at z3;ext;refine⟨ys,_,SqL.of z2,z3,by rw[length_map];omega,λr dd2 kvs Z2 s2 hd0 hd2 hr2 dok2=>?_⟩;rw[length_map]at hr2;have dok:DOk kd (hkL (tb.2.map λx=>(x.2.w,x.2.ks))):=by unfold hkL;rw[Y4];exact dok
  have w1:SqT K HF sw1 [.ref dd,.int (bt isN (hkL (tb.2.map λx=>(x.2.w,x.2.ks)))),.int (2^tb.2.length-1)]:=by
   have:hks tb.2=hkL (tb.2.map λx=>(x.2.w,x.2.ks)):=by unfold hkL hks;rw[Y4];rfl
   rw[<-this];have l9:(hks tb.2).length=tb.2.length:=by unfold hks;rw[length_map]
   rw[<-l9];exact w1
  have sFZ:=sm.trans (sL.trans z1);refine⟨sw1,r,dd,dd2,_,_,kd,kvs,rfl,rfl,(sFZ.trans s2).tup w1,hr2,(sFZ.trans s2) _ _ w2,hd2,λz=>?_,by rw[dok.len,dok2.len],dok.same dok2,?_⟩
  ·rw[<-z,sFZ _ _ w2]at hd0;cases hd0
  walk_at "A";exact⟨_,_,_,_,_,_,rfl,sL.trans (z1.trans s2)|>sm.trans⟩
 obtain⟨o3,o4,o5,o6,o7,o8,rfl,sm⟩:=hP;refine⟨p1,o,v1,nf,sm _ _ f1,?_⟩;ext;exact q _ (a1c (sF.trans sm) hp1)
end
section
variable{P:Program}{w:World}{K:W.Frag}{mg:Str->Option Value}{base:Heap}{t:Ad}
theorem ok_law(T:Txt K mg t)(G_d0:FnOk P w K mg base CX0 97 t.a_d0 t.d_d0 ["_law_script"] (b8v K))(G_b5:FnOk P w K mg base CX0 65 t.a_b5 t.d_b5 ["rules"] (b8s K))(G_b7:FnOk P w K mg base CX0 65 t.a_b7 t.d_b7 ["_law_found","_law_rules_here"] (b9f K)):FnOk P w K mg base CX0 98 t.a_law t.d_law ["_law_script"] (b9h K):=by
 exists T.F_law.ok b4i,(a0e (a0p (i:=1) (hs:=a1n) b4i.nd rfl (by nofun) (a0m G_d0 hr.o rfl T.m_d0 T.F_d0.kp T.b_d0 .nil a0n (a0a (mv 0) a0c))) (a0e (a0p (i:=2) (hs:=a1n) b4i.nd rfl (by nofun) (a2f (b9q K rfl) rfl T.n_f1 W4 (a0a (mv 1) a0c))) (a0e (a0p (i:=3) (hs:=a1n) b4i.nd rfl (by nofun) (a0m G_b5 hr.o rfl T.m_b5 T.F_b5.kp T.b_b5 .nil a0n (a0a (mv 1) a0c))) (a0e (a0y (PW.pt (a2x (a3c (a2q K rfl (a0m G_b7 hr.o rfl T.m_b7 T.F_b7.kp T.b_b7 .nil a0n (a0a (mv 3) (a0a (mv 2) a0c))))) (a3j (a0s (d1i K rfl (a3q hr)) (mv 1) (mv 2) (a0t _))))) (a0g (a0q a3m)) a0v) (a0e (a1p Zv rfl (a6z K rfl (a2f (b6b rfl) rfl T.n_f1 W4 (a0a (mv 3) a0c))) (a1a (i:=4) b4i.nd rfl (by nofun)) (a0g (a1f (a6f K rfl Yz Xp X1 a5s (a0j (a0h K rfl) (a2p (a1h hr) (mv 3) (mv 4) (λ_ _=>rfl)) a0d (λ_ _=>rfl)) (a0a (a0x (a0a a0d (a0a a0d (a0a (a1x a0c) a0c)))) a0c))))) (a0e (a1f (b7w K rfl Yz S5 F.type_list_reverse c7k (mv 1))) (a0g (a0q (a7n (a0m G_b7 hr.o rfl T.m_b7 T.F_b7.kp T.b_b7 .nil a0n (a0a (a0m G_b5 hr.o rfl T.m_b5 T.F_b5.kp T.b_b5 .nil a0n (a0a (mv 1) a0c)) (a0a (pe_revS K rfl (mv 2) (b7h b3u a0d) (λ_ _=>rfl)) a0c))) (a7m (a0m G_b7 hr.o rfl T.m_b7 T.F_b7.kp T.b_b7 .nil a0n (a0a (a0m G_b5 hr.o rfl T.m_b5 T.F_b5.kp T.b_b5 .nil a0n (a0a (mv 2) a0c)) (a0a (mv 2) a0c))))))))))))),H,Q,E,hr,h
 rename_i a;obtain⟨ns,hS,hn,q⟩:=h;ext;refine⟨ns,hS,hn,λp us rs xs H1 s1 hp0 kp hp hf hx4 hrl=>?_⟩;have hul:=Yo hp;ext;refine⟨p,us,rfl,.inl (SqL.of kp),λp2 hp2=>?_⟩;have s2:=a0f hp2 (.lst us);have k2:(upd H1 p2 (.lst us)) p2=some (.lst us):=a0b;have n12:p2≠p:=λz=>by rw[z,kp]at hp2;cases hp2
 generalize upd H1 p2 (.lst us)=H2 at s2 k2 ⊢;have kp2:=s2 _ _ kp;have hpa2:Paired (RuA K H2) us rs:=Paired.mapP hp λ_ _ z=>z.mono s2
 obtain⟨qs,hqs⟩:=c4w hpa2;have rok:∀r∈rs,r.Ok:=λr hr=>⟨(hf r hr).l,λt ht=>⟨((hf r hr).g t ht).1,((hf r hr).g t ht).2.1⟩,by have:=(hf r hr).z;omega⟩
 ext;refine⟨us,rs,SqL.of kp2,b5i hpa2,rok,qo,λd H3 s3 fd3=>?_⟩;ext;refine⟨us,rs,xs,H2,SqL.of (s3 _ _ k2),Paired.mapP hpa2 λ_ _ z=>z.mono s3,hf,hx4,hrl,fd3,λH4 s4=>?_⟩;have s24:=s3.trans s4;walk_at "A";refine⟨p,p2,qs,rfl,rfl,by rw[<-hqs];exact SqL.of (s24 _ _ kp2),by rw[<-hqs];exact SqL.of (s24 _ _ k2),?_⟩;walk_at "A";have hT2:∀b∈tabR rs 0 [],b.2.length<=45:=λb hb=>by have:=a7c (n:=0) (λb hb=>by simp at hb) b hb;omega
 obtain⟨kvs,f1,f2,f3,f4⟩:=fd3.same s4;refine⟨d,kvs,rfl,f1,λpL bs hpL hbl hbs=>?_⟩;refine⟨pL,rfl,⟨_,SqL.of a0b⟩,?_⟩;have s5:=a0f hpL (.lst (bs.map V.ref));have k5:(upd H4 pL (.lst (bs.map V.ref))) pL=some (.lst (bs.map V.ref)):=a0b;generalize upd H4 pL (.lst (bs.map V.ref))=H5 at s5 k5 ⊢;have hT5:(tabR rs 0 []).length<=43:=by have:=c1k rs 0 [];simp only[length_nil]at this;omega
 generalize tabR rs 0 []=TAB at f3 hT2 hT5;have pmem:∀{a:List (List Key×V)}{c:Tb},Paired (FdR K H2 H4 d) a c->(∀b∈c,b.2.length<=45)->Paired (λ(a:List Key×V) (b:List Key×List It2)=>a.1=b.1/\∃pa cl sw us,a.2=.ref pa/\SqT K H5 pa [.ref cl,sw]/\H2 cl=none/\cl≠pL/\H5 cl=some (.lst us)/\us.length<=45+0) a c:=λ{a c} h=>by
  induction h with
  |nil=>exactλ_=>.nil
  |cons z _ ih=>
   intro hb;obtain⟨e,pa,cl,us',sw,c1,c2,c3,c4,c5,_⟩:=z;have l:=b5j c5;rw[length_map]at l;have:=hb _ (.head _);exact .cons ⟨e,pa,cl,sw,us',c1,s5.tup c2,c3,(λz=>by rw[z,hpL]at c4;cases c4),s5 _ _ c4,qo⟩ (ih λb hb'=>hb b (.tail _ hb'))
 have inv0:Fnd K H2 H5 d pL bs kvs TAB 0:=⟨s24.trans s5,k5,s5 _ _ f1,pmem f3 hT2,λm k v e=>by
  obtain⟨b,e1,e2⟩:=hbs m k v e
  exact⟨b,e1,s5 _ _ e2⟩⟩
 have lT:=Yo f3;refine a1t (a4x (xs:=bs.map V.ref)) (λi σ' J=>∃(o4:Option V),σ'=[some (.ref a),some (.ref p),some (.ref p2),some (.ref d),o4]/\Fnd K H2 J d pL bs kvs TAB i) ⟨none,rfl,inv0⟩ (λi σ' J hP=>by obtain⟨_,_,z⟩:=hP;exact SqL.of z.2.1) (λi σ' J hi hP=>?_) (λσ' J hP=>?_)
 ·obtain⟨o4,rfl,j1,j2,j3,j4,j5⟩:=hP;rw[length_map]at hi;have hik:i<kvs.length:=by omega
  obtain⟨h1,e,pa,cl,sw,us',c1,c2,c3,c4,c5,c6⟩:=a4n j4 (i:=i) qo;obtain⟨b,e1,e2⟩:=j5 i kvs[i].1 kvs[i].2 (Za hik);have hv:valV kvs kvs[i].1=some kvs[i].2:=b2d f4 (Zx hik);rw[c1]at hv;have e9:(bs.map V.ref).getD i .non=.ref b:=by rw[Zk,Zs,e1];rfl
  rw[e9];have dg:DGet J d (.ref b) (some (.ref pa)):=.inr ⟨kvs,kvs[i].1,b,.inl j3,rfl,e2,hv.symm⟩;ext;refine⟨d,_,rfl,dg,?_⟩;ext
  exists a0i c2 (v:=.ref cl) rfl
  refine⟨.inl ⟨rfl,_,SqL.of c5⟩,?_⟩;ext;refine⟨Yk _,λp7 hp7=>?_⟩;have s7:=a0f hp7 (.lst []);generalize upd J p7 (.lst [])=J7 at s7 ⊢;refine⟨ln (by show 3<=100000;decide),λp8 hp8=>?_⟩;have s8:=s7.trans (a0f hp8 (.tup [.int 0,.int 0,.ref p7]));generalize upd J7 p8 (.tup [.int 0,.int 0,.ref p7])=J8 at s8 ⊢;ext
  exists a5v (s8 _ _ c5) (ln1 qo)
  have c5':=s8 _ _ c5;have kt:KT K J8 (upd J8 cl (.lst (us'++[.ref p8]))):=.upd c5' (λ_ z=>by cases z) (λ_ _ z=>by cases z);have np:∀{x:Addr}{u:HO},J x=some u->(∀k,u≠.lst k)->(upd J8 cl (.lst (us'++[.ref p8]))) x=some u:=λ{x u} z n=>by rw[a0l (λy=>by rw[y,c5]at z;exact n _ (Zi z).symm)];exact s8 _ _ z
  refine⟨_,rfl,a1c (j1.trans s8) c3,by rw[a0l (Ne.symm c4)];exact s8 _ _ j2,np j3 (λ_ z=>by cases z),Paired.mapP j4 λ_ _ ⟨e,pa',cl',sw',us2,d1,d2,d3,d4,d5,d6⟩=>?_,λm k v ev=>?_⟩
  ·by_cases hc:cl'=cl
   ·subst hc;exact⟨e,pa',cl',sw',_,d1,kt _ _ (s8.tup d2),d3,d4,a0b,by rw[Zc,Z9];omega⟩
   ·exact⟨e,pa',cl',sw',us2,d1,kt _ _ (s8.tup d2),d3,d4,by rw[a0l hc];exact s8 _ _ d5,qo⟩
  ·obtain⟨b',e1,e2⟩:=j5 m k v ev;exact⟨b',e1,np e2 (λ_ z=>by cases z)⟩
 obtain⟨o4,rfl,j1,j2,j3,j4,j5⟩:=hP;have rJ:=j1 _ _ kp2;have r2:=j1 _ _ k2;ext;refine⟨.inl ⟨rfl,_,SqL.of rJ⟩,us,rJ,?_⟩;have kt:KT K J (upd J p (.lst us.reverse)):=.upd rJ (λ_ z=>by cases z) (λ_ _ z=>by cases z);have np:∀a xs,J a=some (.tup xs)->(upd J p (.lst us.reverse)) a=some (.tup xs):=λa xs e=>by rw[a0l (λy=>by rw[y,rJ]at e;cases e)];exact e
 have paR:Paired (RuA K (upd J p (.lst us.reverse))) us rs:=Paired.mapP hpa2 λ_ _ z=>(z.mono j1).to kt np
 have r2:(upd J p (.lst us.reverse)) p2=some (.lst us):=by rw[a0l n12];exact r2
 have rp:(upd J p (.lst us.reverse)) p=some (.lst us.reverse):=a0b;generalize upd J p (.lst us.reverse)=J2 at paR r2 rp ⊢;have paV:=b9g paR;ext;refine⟨us.reverse,rs.reverse,SqL.of rp,b5i paV,λr hr=>rok r (List.mem_reverse.mp hr),by rw[Y2];omega,λd7 J7 s7 fd7=>?_⟩;ext;refine tRevS_i ?_;ext;refine⟨p2,us,rfl,rfl,SqL.of (s7 _ _ r2),λp8 hp8=>?_⟩;have s8:=a0f hp8 (.lst us.reverse);have k8:(upd J7 p8 (.lst us.reverse)) p8=some (.lst us.reverse):=a0b;generalize upd J7 p8 (.lst us.reverse)=J8 at s8 k8 ⊢;refine⟨us.reverse,rs.reverse,xs,J2,SqL.of k8,Paired.mapP paV λ_ _ z=>z.mono (s7.trans s8),λr hr=>hf r (List.mem_reverse.mp hr),hx4,by rw[Y2];exact hrl,fd7.same s8,λJ9 s9=>?_⟩;have s29:=s7.trans (s8.trans s9);walk_at "B";refine⟨us,rs,SqL.of (s29 _ _ r2),b5i (Paired.mapP paR λ_ _ z=>z.mono s29),rok,qo,λdA JA sA fdA=>?_⟩;ext;refine⟨us,rs,xs,J9,SqL.of ((s29.trans sA) _ _ r2),Paired.mapP paR λ_ _ z=>z.mono (s29.trans sA),hf,hx4,hrl,fdA,λJB sB=>?_⟩;exact q _
end
section
variable{P:Program}{w:World}{K:W.Frag}{mg:Str->Option Value}{base:Heap}{t:Ad}
theorem ok_all(T:Txt K mg t)(D:KD P w K t.c_f4 (b0n t)):FnOk P w K mg base CX0 98 t.a_law t.d_law ["_law_script"] (b9h K):=by
 have h_a2:=b6t (P:=P) (w:=w) (base:=base) T;have h_a4:=b2i (P:=P) (w:=w) (base:=base) T;have h_c8:=c5g (P:=P) (w:=w) (base:=base) T;have h_c7:=b9x (P:=P) (w:=w) (base:=base) T;have h_d6:=c8g (P:=P) (w:=w) (base:=base) T;have h_d7:=d1v (P:=P) (w:=w) (base:=base) T;have h_a9:=c8i (P:=P) (w:=w) (base:=base) T;have h_a1:=c8j (P:=P) (w:=w) (base:=base) T;have h_a5:=c4s (P:=P) (w:=w) (base:=base) T;have h_c3:=c8m (P:=P) (w:=w) (base:=base) T;have h_b4:=c8r (P:=P) (w:=w) (base:=base) T;have h_d2:=d2t (P:=P) (w:=w) (base:=base) T;have h_b8:=d5k (P:=P) (w:=w) (base:=base) T;have h_f0:=b8p T h_c7;have h_e8:=b1m T h_a2;have h_e0:=c4h T h_c8;have h_d9:=c4e T h_d7;have h_c2:=b9z T h_a1;have h_b6:=d4z T h_a5;have h_c4:=b7c T h_a1;have h_e3:=c0a T h_a1;have h_d5:=c1u T h_a9;have h_d3:=c0f T h_b4;have h_e6:=c5j T h_b8;have h_e5:=c8a T h_e0;have h_d1:=c4f T h_d9;have h_b1:=c8k T h_b6 h_a5;have h_c5:=c0b T h_a1 h_e3;have h_b3:=c5h T h_e5;have h_d8:=b8y T h_b1 h_c2;have h_a7:=b9a (P:=P) (w:=w) (base:=base) T  41;have h_c0:=b2k T h_a2 h_a4 60;have h_b9:=b6v T h_a2 h_a4 60;have h_a8:=c1t (P:=P) (w:=w) (base:=base) T  60;have h_b2:=c8q (P:=P) (w:=w) (base:=base) T  60;have h_e7:=b2l T h_a4 h_c0;have h_c6:=b2m T D h_b3 h_b9 h_a2;have h_d4:=d2s T h_b2;have h_e1:=c4k T h_f0 h_e7 h_e8 h_c6 h_a2 h_b3;have h_c9:=b9i T h_c3 h_d4 h_d3 h_a9 h_d5 h_d2 h_a8;have h_b5:=c8h T h_d6 h_e1 h_d1;have h_b7:=c8s T h_c9 h_e6;have hm:=ok_mut T h_a7 h_a1 h_c4 h_c5 25;have h_c1:=hm.1;have h_a6:=hm.2;have h_b0:=b9b T h_a1 h_a6;have h_e4:=c0d T h_a1 h_b0 h_a6;have h_e2:=c0e T h_b0 h_e4 h_a1;have h_d0:=c8l T h_d8 h_a5 h_b6 h_a1 h_e2 h_b1;exact ok_law T h_d0 h_b5 h_b7
end
theorem walk{l:W.OpenLaw}{q:Program}{loose:List Str}{XP:(Str->Option Value)->Heap->Prop}{YP:World->Heap->Prop}{d:DefRec}{K:Params->W.Frag}(hn:l.most=some 63)(hdf:d.params.defaults=[])
  (hY:∀(w:World)(h:Heap),YP w h->(K w.params).In h)
  (F:∀(w:World)(mg:Str->Option Value)(fa:Addr)(h:Heap),(K w.params).In h->h.Ns mainGlobals mg->mg d.name=some (.ref fa)->
   ∃fd:FuncData,(∀(s:Shared)(u:Value),BindsTo s fd ⟨[u],[]⟩ [("_law_script",u)])/\∀base:Heap,(K w.params).In base->base.Ns mainGlobals mg->FnOk l.prog w (K w.params) mg base CX0 98 fa fd ["_law_script"] (b9h (K w.params))):
  W.WalkO q loose XP YP l.row.toRowW d [] (λf vs=>PySem.call f vs):=
 L2.walk_of (n:=63) (k:=98) (x:="_law_script") (CX:=λ_=>CX0) (sp:=λw=>b9h (K w.params)) hn qd hdf ⟨rfl,qd,qd,rfl⟩ hY F (λ_ _ a ns hl hO hS=>⟨ns,hS,hl,λ_=>rfl⟩) λ_ _ _ _ _ z=>z
end My
open PySem PySem.W PyProof.Rows L2
set_option maxRecDepth 100000 in
set_option maxHeartbeats 0 in
theorem PySem.Challenge.cw_goaltrail_k45_whole_code_is_the_program_holds : PySem.Challenge.rw_goaltrail_k45_whole_code_is_the_program.Holds := by
 w_on;refine W.holds_law My.said1 λsaid=>?_
 refine W.holds_open (q:=My.Q) (loose:=My.loose) (Xt:=My.Xt) (XP:=W.XL My.Q []) (Yf:=λs=>My.ads.map s.heap.get?) (Ya:=λw=>(My.KK w.params).map λ(p:Addr×Obj)=>some p.2) (YP:=W.InK My.KK) (N:=1903) My.left1 (W.InK.of (λ_=>by kernel_rfl)) W.InK.keeps (λs e=>W.xl_of s (Sy.mp e).1) W.XL.keeps (by rfl) (by rfl) (by rfl) (λs e=>W.recFacts_of (Sy.mp e).2) (by rfl) (by assumption) qk ⟨rfl,rfl,rfl,rfl,rfl,qk⟩ ?hw ?hc
 (case hw=>w_witness2)
 k_fill
 refine My.walk (l:=PySem.Challenge.rw_goaltrail_k45_whole_code_is_the_program) rfl rfl (λw h Y=>Y) ?F
 case F=>
  intro w mg fa h KX G hmg;have TT:∃t:My.Ad,My.Txt (L2.KOf KX) mg t/\(∀P:Program,L2.KD P w (L2.KOf KX) t.c_f4 (My.b0n t))/\∀(s:Shared)(u:Value),BindsTo s t.d_law ⟨[u],[]⟩ [("_law_script",u)]:=by
   dsimp only[L2.KOf]
   apply Exists.intro (My.Ad.mk _ _ _ _ _ _ _ _ _ _ _ _ _ _ _ _ _ _ _ _ _ _ _ _ _ _ _ _ _ _ _ _ _ _ _ _ _ _ _ _ _ _ _ _ _ _ _ _ _ _ _ _ _ _ _ _ _ _ _ _ _ _ _ _ _ _ _ _ _ _ _ _ _ _ _ _ _ _ _ _ _ _ _ _ _ _ _ _ _ _ _ _ _ _ _ _ _ _ _ _ _ _ _ _ _ _)
   apply And.intro
   case left=>
    constructor
    all_goals try dsimp only
    all_goals try exact W.mg_of KX G (by k_is)
    all_goals try exact W.mg_none_of KX G (by k_is)
    all_goals first|exact xc_of (by k_is) qz qz qz (by simp)|exact⟨[],qz,rfl⟩|exact⟨[_],qz,rfl⟩|exact XAttr.mk (by k_is) (by k_is) (by k_is)|exact na_of (by k_is)|exact XMk.mk (xc_of (by k_is) qz qz qz qz) (by k_is) (by k_is) (by k_is)|exact XIs.mk (by k_is) (by k_is) (by k_is) (by k_is)|exact XClsM.mk (by k_is) (by k_is) (by k_is) (by k_is)|exact Cls.mk (by k_is) (by k_is) (by k_is) (by k_is)|exact Mk.mk (by k_is) (by k_is) (is_fn (by k_is)) (by k_is)|exact Meth.mk (by k_is) (is_fn (by k_is)) (by k_is)|exact fun_mk (by k_is) (by k_is) (by k_is)|exact funD_mk (by k_is) (by k_is) (by k_is)|exact bi1 λ_=>rfl|exact bi2 λ_ _=>rfl|exact bi3 λ_ _ _=>rfl|exact bi4 λ_ _ _ _=>rfl|exact bi5 λ_ _ _ _ _=>rfl|kit_is|rfl
   apply And.intro
   case left=>exactλP=>L2.kd_of (es:=[⟨keyHash w.params (ofString "="),.str "=" _,.str "equal" _⟩,⟨keyHash w.params (ofString ":="),.str ":=" _,.str "reckon" _⟩,⟨keyHash w.params (ofString "<"),.str "<" _,.str "less" _⟩,⟨keyHash w.params (ofString "<="),.str "<=" _,.str "atmost" _⟩]) (by k_is) (.cons ⟨_,rfl⟩ (.cons ⟨_,rfl⟩ (.cons ⟨_,rfl⟩ (.cons ⟨_,rfl⟩ .nil)))) My.c1q
   exactλs u=>.of_eq rfl
  obtain⟨t,T,D_f4,e1⟩:=TT;have e0:=hmg.symm.trans T.m_law;cases e0;exact⟨t.d_law,e1,λbase kb nb=>My.ok_all T (D_f4 _)⟩
