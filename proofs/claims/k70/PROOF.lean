import PyProof.Rows.All
import PyProof.StrBlock2
import PyProof.Rows.StrIntSpec
import KE.KItemsList
import KE.KDictLaws
import PyProof.SumWalkG
import KE.KRevIter
import PyProof.ListRange
import PyProof.Rows.SortWalk
import KE.KSortedM
import PyProof.Rows.SortStr
import KE.KIntText
import PyProof.Rows.ListMul
import PyProof.ReprHeadsTuple
import KE.KSortTup
import Wide.All
import OpenK.AllK
import Wide.FinOn
import Lean
import PyProof.EqAt
import PyProof.EqKinds
import PyProof.TupleCall
import PyProof.NeKinds
import PyProof.DictUpdate
import KE.KDictList
import KE.KEqDict
import PyProof.Draws
import PyProof.Rows.EnumRows
import PyProof.StationsW
import PyProof.ExcClass3
import PyProof.RulesAs
import PyProof.ExcBaseAll.ValueError
import PyProof.InstStoreFacts
import PyProof.ExcArgsOwn
import PyProof.NsDelKeeps
import KE.RegKIsAll
import PyProof.Rows.LoopZipPat
import PyProof.StrLawsRepr
import KE.KDictOf
import PyProof.WalksS
import PyProof.AttrMissHeap
import PySem.Challenge.RW_goaltrail_k70_good_yes_rows
set_option Elab.async false
set_option linter.all false
set_option maxRecDepth 100000
set_option genSizeOf false
set_option bootstrap.genMatcherCode false
set_option compiler.extract_closed false
open PySem.Str (ofString)
open PySem.PyData (keyHash)
open List (length_cons length_map length_nil)
section
open PySem PySem.Spec PyProof.Rows
def Za:=@List.getElem?_eq_getElem
def Zb:=@wpAny_bind
def Zc:=@Heap.get?_push_of_some
def Zd:=@List.size_toArray
def Ze:=@wpAny_pure
def Zf:=@List.length_append
def Zg:=@PySem.boot_len
def Zh:=@Nat.le_refl
def Zi:=@List.map_append
def Zj:=@Heap.get?_push_size
def Zk:=@Option.some.inj
def Zl:=@Heap.lt_size
def Zm:=@List.getD_eq_getElem?_getD
def Zn:=@Bool.false_ne_true
def Zo:=@decide_eq_false
def Zp:=@List.mem_cons
def Zq:=@List.length_singleton
def Zr:=@of_decide_eq_true
def Zs:=@List.mem_singleton
def Zt:=@decide_eq_true
def Zu:=@List.getElem?_cons_zero
def Zv:=@List.mem_cons_of_mem
def Zw:=@List.getElem_mem
def Zx:=@List.mem_append
def Zy:=@Bool.false_xor
def Zz:=@List.getElem?_map
def Z0:=@Nat.ne_of_lt
def Z1:=@Option.some.injEq
def Z2:=@List.map_cons
def Z3:=@List.getElem?_eq_some_iff
def Z4:=@List.mem_map
def Z5:=@wpAny_field
def Z6:=@Nat.lt_of_lt_of_le
def Z7:=@List.length_take
def Z8:=@List.not_mem_nil
def Z9:=@F.plainAttrs_list
def Yb:=@List.take_of_length_le
def Yc:=@Nat.zero_le
def Yd:=@Heap.size_push
def Ye:=@List.mem_cons_self
def Yg:=@Heap.get?_update_other
def Yh:=@sizeLine_eq
def Yi:=@PassesOwn.never
def Yj:=@Int.emod_lt_of_pos
def Yk:=@Nat.le_trans
def Yl:=@Heap.get?_update_self
def Ym:=@List.getElem?_cons_succ
def Yn:=@wpAny_call_entry
def Yo:=@List.length_set
def Yp:=@Bool.false_and
def Yq:=@F.slot_list_append
def Yr:=@Bool.true_and
def Ys:=@PyProof.Rows.callWith_type1
def Yt:=@builtinLookup_eq_fast
def Yu:=@List.mem_append_right
def Yv:=@wpAny_ite_split
def Yw:=@Int.emod_nonneg
def Yx:=@wpAny_seqItems
def Yy:=@F.type_list_append
def Yz:=@beq_eq_false_iff_ne
def Y0:=@PySem.mem_of_lookup
def Y1:=@PyProof.Rows.slot_tuple_getitem
def Y2:=@F.slot_zip_next
def Y3:=@List.all_eq_true
def Y4:=@wpAny_newObj_type
def Y5:=@Nat.lt_irrefl
def Y6:=@List.map_map
def Y7:=@wpAny_setField_rec
def Y8:=@of_decide_eq_false
def Y9:=@Nat.le_add_right
def Xa:=@List.mem_of_getElem?
def Xb:=@Nat.ne_of_gt
def Xc:=@List.mem_range
def Xd:=@List.map_nil
def Xe:=@List.append_assoc
def Xf:=@Array.length_toList
def Xg:=@wpAny_specialOf
def Xh:=@typeLookup_type
def Xi:=@List.append_nil
def Xj:=@congrArg
def Xk:=@List.length_drop
def Xl:=@Bool.and_eq_true
def Xm:=@wpAny_holding
def Xn:=@or_false
def Xo:=@Nat.mul_le_mul_right
def Xp:=@wpAny_truthy_bool
def Xq:=@List.reverse_cons
def Xr:=@SeqAt.EqAt.same
def Xs:=@List.range_succ
def Xu:=@List.replicate_succ
def Xv:=@wpAny_attempt
def Xw:=@List.any_cons
def Xx:=@decide_eq_decide
def Xy:=@List.lookup_cons
def Xz:=@List.take_zero
def X9:=@Bool.false_eq_true
def Wa:=@List.getElem?_eq_none
def Wb:=@wpAny_updateSeq
def Wc:=@List.find?_cons
def We:=@Bool.eq_iff_iff
def Wf:=@Heap.SameBut.update
def Wg:=@F.plain_extend_loop
def Wh:=@wpAny_isInstance
def Wi:=@isSubtype_type
def Wj:=@W.kia_one
def Wk:=@List.cons_append
def Wl:=@wpAny_rule
def Wm:=@Obj.data_mapFields
def Wn:=@List.map_set
def Wo:=@wpAny_passesOwn
def Wp:=@List.nil_append
def Wq:=@Array.getElem?_toList
def Wr:=@List.take_add_one
def Ws:=@List.nodup_append
def Wt:=@F.args_zip_next_1
def Wu:=@Array.getD_eq_getD_getElem?
def Wv:=@wpAny_of_eq
def Ww:=@F.slot_tuple_iterator_next
def Wx:=@F.entry_zip_next
def Wz:=@Array.getElem?_eq_getElem
def W0:=@List.length_reverse
def W1:=@List.nodup_cons
def W2:=@List.forIn_cons
def W3:=@wpAny_pyIter_tuple
def W4:=@wpAny_mono
def W5:=@boot_tuple
def W6:=@Calls.spliced_cons
def W7:=@boot_list
def W8:=@wpAny_pyIter_list
def W9:=@if_false
def Va:=@Nat.succ.inj
def Vb:=@Nat.lt_succ_of_lt
def Vc:=@List.forIn_nil
def Vd:=@F.slot_dict_setdefault
def Ve:=@Calls.spliced_nil
def Vf:=@Bool.and_false
def Vg:=@Nat.lt_succ_self
def Vh:=@List.all_cons
def Vi:=@wpAny_updateSeq_pair
def Vj:=@Bool.and_eq_true_iff
def Vk:=@wpAny_execs_nil
def Vl:=@SeqAt.RcNeAt.tuples
def Vm:=@List.reverse_append
def Vn:=@wpAny_setField
def Vo:=@wpAny_Call_Name_kw
def Vp:=@tupleKind_room_in1
def Vq:=@call_meets
def Vr:=@SeqAt.EqAt.str_str
def Vs:=@SeqAt.EqAt.int_int
def Vt:=@F.slot_list_extend
def Vu:=@List.pairwise_iff_getElem
def Vv:=@List.drop_eq_getElem_cons
def Vw:=@wpAny_letGo
def Vx:=@atKey_none_of_get
def Vy:=@List.flatten_cons
def Vz:=@Int.toNat_natCast
def V0:=@Int.le_refl
def V1:=@wpAny_onRaise
def V2:=@Paired.length
def V3:=@List.cons.inj
def V4:=@List.take_length
def V5:=@List.reverse_nil
def V6:=@List.any_eq_true
def V7:=@wpAny_typeOf
def V8:=@beq_iff_eq
def V9:=@Option.map_eq_some_iff
def Ua:=@Calls.callWith_builtin
def Ub:=@Nat.min_eq_left
def Uc:=@List.of_mem_zip
def Ud:=@List.cons.injEq
def Ue:=@Obj.isFreed_of_fields
def Uf:=@List.take_append_drop
def Ug:=@List.mem_iff_getElem?
def Uh:=@List.length_replicate
def Ui:=@List.getElem?_toArray
def Uj:=@isSubtype_stop
def Uk:=@Sum.inr.inj
def Ul:=@List.reverse_reverse
def Um:=@List.drop_zero
def Uo:=@List.filterMap_cons
def Up:=@plainId_quiet
def Uq:=@slot_tuple_getitem
def Ur:=@SeqAt.EqAt.str_int
def Us:=@SeqAt.EqAt.of_refs
def Ut:=@SeqAt.EqAt.int_str
def Uu:=@List.find?_eq_none
def Uv:=@F.args_tuple_add_2
def Uw:=@wpAny_assign_Name
def Ux:=@codeAny_mono
def Uy:=@call_meetsIn
def Uz:=@Option.bind_assoc
def U0:=@Nat.sub_zero
def U1:=@Nat.lt_trichotomy
def U2:=@List.all_map
def U3:=@F.plainAttrs_dict
def U4:=@F.entry_tuple_add
def U5:=@wpAny_pyIter_zip
def U6:=@noFill_tuple_add
def U7:=@List.zipIdx_cons
def U8:=@F.slot_tuple_add
def U9:=@Nat.log2_lt
def Ta:=@Nat.le_succ
def Tb:=@Int.mul_le_mul_of_nonneg_left
def Tc:=@Nat.not_lt_zero
def Td:=@List.zipIdx_nil
def Te:=@F.slot_list_pop
def Tf:=@F.slot_dict_get
def Tg:=@F.args_tuple_iterator_next_1
def Th:=@F.entry_tuple_iterator_next
def Ti:=@wpAny_newTuple
def Tj:=@Calls.Name_function_global
def Tk:=@List.getElem?_append_left
def Tl:=@wpAny_standAt
def Tm:=@wpAny_comprehension_free
def Tn:=@strLen_append
def To:=@seq_tuple_add
def Tp:=@W.plainGet_of
def Tq:=@List.getElem?_take_of_lt
def Tr:=@F.args_dict_setdefault_3
def Ts:=@Bool.true_xor
def Tt:=@Bool.or_false
def Tu:=@Bool.false_or
def Tv:=@Int.eq_ofNat_of_zero_le
def Tw:=@F.entry_dict_setdefault
def Tx:=@subscriptTail_builtinR
def Ty:=@seqIndex_neg
def Tz:=@concat_meets
def T0:=@callType_new
def T1:=@W.callWith_K
def T2:=@Option.map_eq_none_iff
def T3:=@Nat.succ_mul
def T4:=@Nat.le_of_lt
def T5:=@List.range_succ_eq_map
def T6:=@List.getElem?_set_self
def T7:=@List.drop_of_length_le
def T8:=@F.type_dict_setdefault
def T9:=@List.singleton_append
def Sa:=@List.dropLast_eq_take
def Sb:=@storedH_new
def Sc:=@seqIndex_of
def Sd:=@lookup_relabel_local
def Se:=@boot_int
def Sf:=@W.kitx_list
def Sg:=@Paired.snoc
def Sh:=@Obj.data_mapDictKeys
def Si:=@List.mem_of_mem_take
def Sj:=@List.mem_of_mem_drop
def Sk:=@List.mem_append_left
def Sl:=@List.getElem?_set_ne
def Sm:=@F.args_object_init_3
def Sn:=@F.args_list_extend_2
def So:=@Calls.evalArgs_plain
def Sq:=@Around.under_plainId
def Sr:=@entry_tuple_getitem
def Ss:=@List.map_congr_left
def Su:=@List.length_pos_iff
def Sv:=@List.getElem_of_mem
def Sw:=@F.slot_list_reverse
def Sx:=@F.entry_list_extend
def Sy:=@F.entry_extend_loop
def Sz:=@wpAny_Name
def S0:=@typeIs_int
def S9:=@decide_eq_true_iff
def Ra:=@args_tuple_getitem
def Rb:=@Subscript_
def Rc:=@SeqAt.RcNeAt.lists
def Re:=@List.zip_cons_cons
def Rf:=@List.set_cons_succ
def Rg:=@List.mem_filterMap
def Rh:=@List.forIn_toArray
def Ri:=@F.type_list_extend
def Rj:=@F.args_list_init_2
def Rk:=@Calls.Constant_str
def Rm:=@Bool.not_eq_false'
end
noncomputable section
theorem qk{p:Prop}[Decidable p](h:decide p=true:=by decide +kernel):p:=of_decide_eq_true h
theorem qo{p:Prop}(h:p:=by omega):p:=h
theorem qd{p:Prop}(h:p:=by decide):p:=h
theorem qz{p:Prop}(h:p:=by simp):p:=h
theorem qn{p:Prop}(h:p:=by exact⟨rfl,rfl,rfl,qk,rfl,qk,qk⟩):p:=h
namespace L2
open PySem PySem.Spec PyProof.Rows
abbrev Key:=Sum Int Str
def b1m:Key->Value->Bool
 | .inl k,v=>Value.isInt k v
 | .inr x,v=>Value.isStrOf x v
def keyH(w:World):Key->Int
 | .inl k=>hashInt k
 | .inr x=>hashStr w x
theorem a2q:∀{k:Key}{v:Value},b1m k v=true->(∃i t,k=Sum.inl i/\v=Value.int i t)\/(∃x t,k=Sum.inr x/\v=Value.str x t)
 | .inl i,v,h=>by
  obtain⟨t,e⟩:=Value.isInt_shape (k:=i) (v:=v) h;exact .inl ⟨i,t,rfl,e⟩
 | .inr x,v,h=>by
  obtain⟨t,e⟩:=Value.isStrOf_shape (x:=x) (v:=v) h;exact .inr ⟨x,t,rfl,e⟩
theorem c2z(i:Int)(t:Tok):b1m (.inl i) (.int i t)=true:=by simp[b1m,Value.isInt]
theorem c3a(x:Str)(t:Tok):b1m (.inr x) (.str x t)=true:=by simp[b1m,Value.isStrOf]
theorem c3b(a b:Int):decide ((Sum.inl a:Key)=Sum.inl b)=(a==b):=by
 by_cases e:a=b
 ·subst e;simp
 ·have h:¬(Sum.inl a:Key)=Sum.inl b:=λq=>e (Sum.inl.inj q)
  rw[Zo h];exact(Yz.mpr e).symm
theorem c3c(a b:Str):decide ((Sum.inr a:Key)=Sum.inr b)=decide (a=b):=by
 by_cases e:a=b
 ·subst e;simp
 ·have h:¬(Sum.inr a:Key)=Sum.inr b:=λq=>e (Uk q)
  rw[Zo h,Zo e]
theorem c3d(a:Int)(b:Str):decide ((Sum.inl a:Key)=Sum.inr b)=false:=Zo (λq=>nomatch q)
theorem c3e(a:Str)(b:Int):decide ((Sum.inr a:Key)=Sum.inl b)=false:=Zo (λq=>nomatch q)
def a1q(prog:Program)(w:World):PySem.KeyKind prog w Key where
 is:=b1m
 hash:=keyH w
 inj:=λv a b ha hb=>by
  rcases a2q ha with⟨i,t,rfl,rfl⟩|⟨x,t,rfl,rfl⟩
  ·rcases a2q hb with⟨j,u,rfl,e⟩|⟨y,u,rfl,e⟩
   ·injection e with e1 _;rw[e1]
   ·exact nomatch e
  ·rcases a2q hb with⟨j,u,rfl,e⟩|⟨y,u,rfl,e⟩
   ·exact nomatch e
   ·injection e with e1 _;rw[e1]
 byValue:=λk v h=>by
  rcases a2q h with⟨i,t,rfl,rfl⟩|⟨x,t,rfl,rfl⟩<;>rfl
 pyHash:=λhv h=>by
  rcases a2q hv with⟨i,t,rfl,rfl⟩|⟨x,t,rfl,rfl⟩
  ·exact wpAny_pyHash_int h
  ·exact wpAny_pyHash_str h
 eqBool:=λhu hv h=>by
  rcases a2q hu with⟨i,t,rfl,rfl⟩|⟨x,t,rfl,rfl⟩
  ·rcases a2q hv with⟨j,u,rfl,rfl⟩|⟨y,u,rfl,rfl⟩
   ·rw[c3b]at h;exact wpAny_eqBool_int h
   ·rw[c3d]at h;exact Ut i t y u _ _ _ _ h
  ·rcases a2q hv with⟨j,u,rfl,rfl⟩|⟨y,u,rfl,rfl⟩
   ·rw[c3e]at h;exact Ur x t j u _ _ _ _ h
   ·rw[c3c]at h;exact wpAny_eqBool_str h
 «strs»:=λk x t v h=>by
  rcases a2q h with⟨i,u,rfl,e⟩|⟨y,u,rfl,e⟩
  ·exact nomatch e
  ·injection e with e1 _
   subst e1;cases v<;>rfl
theorem a8m(prog:Program)(w:World)(i:Int)(t:Tok):(a1q prog w).is (.inl i) (.int i t)=true:=c2z i t
theorem a8n(prog:Program)(w:World)(x:Str)(t:Tok):(a1q prog w).is (.inr x) (.str x t)=true:=c3a x t
inductive V where
 |non|bl(b:Bool)|int(i:Int)|str(x:Str)|byt(b:Array UInt8)|flt(b:UInt64)|ref(a:Addr)|ty(n:String)
 deriving DecidableEq
def RelV:V->Value->Prop
 | .non,u=>u=Value.none
 | .bl b,u=>u=Value.bool b
 | .int i,u=>∃t,u=Value.int i t
 | .str x,u=>∃t,u=Value.str x t
 | .byt b,u=>∃t,u=Value.bytes b t
 | .flt b,u=>∃t,u=Value.float b t
 | .ref a,u=>u=Value.ref a
 | .ty n,u=>u=Value.type n
abbrev Vals:List V->List Value->Prop:=Paired RelV
theorem Vals.length{xs:List V}{us:List Value}(r:Vals xs us):xs.length=us.length:=V2 r
theorem Vals.get:∀{xs:List V}{us:List Value}{i:Nat}{x:V},Vals xs us->xs[i]? =some x->∃u,us[i]? =some u/\RelV x u
 |_,_,_,_,.nil,e=>by simp at e
 |_,_,0,_,.cons r _,e=>by simp at e;subst e;exact⟨_,rfl,r⟩
 |_,_,i+1,x,.cons _ t,e=>by
  obtain⟨u,h1,h2⟩:=Vals.get (i:=i) (x:=x) t (by simpa using e);exact⟨u,by simpa using h1,h2⟩
theorem Vals.set{x:V}{u:Value}(r:RelV x u):∀{xs:List V}{us:List Value}(i:Nat),Vals xs us->Vals (xs.set i x) (us.set i u)
 |_,_,_,.nil=>.nil
 |_,_,0,.cons _ t=>.cons r t
 |_,_,i+1,.cons q t=>.cons q (Vals.set r i t)
theorem Vals.append:∀{xs ys:List V}{us ws:List Value},Vals xs us->Vals ys ws->Vals (xs++ys) (us++ws)
 |_,_,_,_,.nil,s=>s
 |_,_,_,_,.cons r t,s=>.cons r (Vals.append t s)
theorem Vals.take:∀{xs:List V}{us:List Value}(n:Nat),Vals xs us->Vals (xs.take n) (us.take n)
 |_,_,0,_=>.nil
 |_,_,_+1,.nil=>.nil
 |_,_,n+1,.cons r t=>.cons r (Vals.take n t)
theorem Vals.drop:∀{xs:List V}{us:List Value}(n:Nat),Vals xs us->Vals (xs.drop n) (us.drop n)
 |_,_,0,r=>r
 |_,_,_+1,.nil=>.nil
 |_,_,n+1,.cons _ t=>Vals.drop n t
def RelO:Option V->Option Value->Prop
 |some v,some u=>RelV v u
 |none,none=>True
 |_,_=>False
def KV{κ:Type}:List (κ×V)->List (κ×Value)->Prop:=Paired λ(p:κ×V) (q:κ×Value)=>p.1=q.1/\RelV p.2 q.2
def kV:Key->V
 | .inl i=>.int i
 | .inr x=>.str x
inductive HO where
 |lst(xs:List V)
 |tup(xs:List V)
 |dK(kvs:List (Key×V))|dT(kvs:List (List Key×V))
 |set(S:Int->Bool)(n:Nat)
 |ins(C dx:Addr)(fs:List (Str×V))
 |own(x:Addr)
 |xd(fs:List (Str×V))
 |met(f x:Addr)
 |rng(lo hi:Int)
 |frz(o:Obj)(u:HO)
 |tbl(ps:Array Value)
 |ext(φ:Heap->Prop)
abbrev Hp:=Addr->Option HO
def upd(H:Hp)(a:Addr)(o:HO):Hp:=λb=>if b=a then some o else H b
theorem a0c{H:Hp}{a:Addr}{o:HO}:upd H a o a=some o:=by unfold upd;rw[if_pos rfl]
theorem a0p{H:Hp}{a b:Addr}{o:HO}(h:b≠a):upd H a o b=H b:=by unfold upd;rw[if_neg h]
theorem a5n{H:Hp}{a b:Addr}{o u:HO}(h:H a=some o)(h':H b=some u)(d:o≠u):a≠b:=by
 intro e;subst e;rw[h]at h';exact d (Zk h')
theorem a1m{H:Hp}{a b:Addr}{o:HO}(h:H a=some o)(h':H b=none):a≠b:=by
 intro e;subst e;rw[h]at h';cases h'
section
variable(P:Program)(w:World)
def a1v(H:Hp)(h:Heap)(a:Addr):HO->Prop
 | .lst xs=>xs.length<=sizeLine/\∃(its:List Value)(n:Nat),Vals xs its/\h.get? a=some { cls:=.type "list",data:=.seq its.toArray n}
 | .tup xs=>xs.length<=sizeLine/\∃its:List Value,Vals xs its/\IsTup h a its.toArray
 | .dK kvs=>kvs.length<=sizeLine/\(a==sysModules)=false/\∃vs,KV kvs vs/\h.DictOf (a1q P w) a vs
 | .dT kvs=>kvs.length<=sizeLine/\(a==sysModules)=false/\∃xs:List (List Key×Addr×Value),
   Paired (λ(p:List Key×V) (q:List Key×Addr×Value)=>p.1=q.1/\H q.2.1=some (.tup (p.1.map kV))/\RelV p.2 q.2.2) kvs xs/\
   ∃o es ep,h.get? a=some o/\o.ExactDict/\o.data=.dict es ep/\es.toList=xs.map (entryOfKey (tupleKind (a1q P w)))/\(xs.map (·.1)).Nodup
 | .set S n=>h.SetOf (intKind P w) a S n
 | .ins C dx fs=>H dx=some (.own a)/\fs.length<=1000/\dx≠a/\h.get? a=some (W.instObj C dx)/\
   ∃mA,h.Ns1 dx mA/\(∀f,RelO (fs.lookup f) (mA f))/\PySem.Within mA (fs.map (·.1))
 | .own _=>∃o,h.get? a=some o
 | .xd fs=>∃mA,h.Ns1 a mA/\∀f,RelO (fs.lookup f) (mA f)
 | .rng lo hi=>∃t u v,h.get? a=some { cls:=.type "range",data:=.fields #[.int lo t,.int hi u,.int 1 v]}
 | .frz o u=>h.get? a=some o/\a1v H h a u
 | .tbl ps=>h.get? a=some { cls:=.none,data:=.fields ps}
 | .met f x=>h.get? a=some (W.methodObj (.ref f) (.ref x))
 | .ext φ=>φ h/\(∃o,h.get? a=some o)/\∀h1 h2:Heap,φ h1->(∀o,h1.get? a=some o->h2.get? a=some o)->φ h2
def HOk(H:Hp)(h:Heap):Prop:=∀a o,H a=some o->a1v P w H h a o
end
section
variable{P:Program}{w:World}{H H':Hp}{h h':Heap}{a:Addr}{o:HO}
theorem a1v.lt(x:a1v P w H h a o):a<h.objs.size:=by
 cases o with
 |lst xs=>obtain⟨_,_,_,_,e⟩:=x;exact Zl e
 |tup xs=>obtain⟨_,_,_,p⟩:=x;exact p.lt
 |dK kvs=>obtain⟨_,_,_,_,o,_,_,e,_⟩:=x;exact Zl e
 |dT kvs=>obtain⟨_,_,_,_,o,_,_,e,_⟩:=x;exact Zl e
 |set S n=>obtain⟨o,_,_,_,e,_⟩:=x;exact Zl e
 |ins C dx fs=>obtain⟨_,_,_,e,_⟩:=x;exact Zl e
 |own y=>obtain⟨_,e⟩:=x;exact Zl e
 |xd fs=>obtain⟨_,⟨_,_,_,e,_⟩,_⟩:=x;exact Zl e
 |rng lo hi=>obtain⟨_,_,_,e⟩:=x;exact Zl e
 |frz ob u=>obtain⟨e,_⟩:=x;exact Zl e
 |tbl ps=>exact Zl (show h.get? a=some _ from x)
 |met f y=>exact Zl (show h.get? a=some _ from x)
 |ext φ=>obtain⟨_,⟨_,e⟩,_⟩:=x;exact Zl e
theorem Paired.mapP{α β:Type}{F G:α->β->Prop}:∀{l₁:List α}{l₂:List β},Paired F l₁ l₂->(∀a b,F a b->G a b)->Paired G l₁ l₂
 |_,_,.nil,_=>.nil
 |_,_,.cons r t,f=>.cons (f _ _ r) (Paired.mapP t f)
theorem a1v.stay(x:a1v P w H h a o)(k:∀b u,(b=a\/H b=some (.own a))->h.get? b=some u->h'.get? b=some u)
  (ho:∀b,H b=some (.own a)->H' b=some (.own a))(ht:∀b xs,H b=some (.tup xs)->H' b=some (.tup xs)):a1v P w H' h' a o:=by
 induction o with
 |lst xs=>obtain⟨z,its,n,r,e⟩:=x;exact⟨z,its,n,r,k _ _ (.inl rfl) e⟩
 |tup xs=>obtain⟨z,its,r,ob,e,c⟩:=x;exact⟨z,its,r,ob,k _ _ (.inl rfl) e,c⟩
 |dK kvs=>obtain⟨z,y,vs,r,ob,es,ep,e,c⟩:=x;exact⟨z,y,vs,r,ob,es,ep,k _ _ (.inl rfl) e,c⟩
 |dT kvs=>
  obtain⟨z,y,xs,r,ob,es,ep,e,c⟩:=x;exact⟨z,y,xs,Paired.mapP r λp q z=>⟨z.1,ht _ _ z.2.1,z.2.2⟩,ob,es,ep,k _ _ (.inl rfl) e,c⟩
 |set S n=>obtain⟨ob,es,ep,t,e,c⟩:=x;exact⟨ob,es,ep,t,k _ _ (.inl rfl) e,c⟩
 |ins C dx fs=>
  obtain⟨d,z,ne,e,mA,⟨od,es,ep,e2,c⟩,r⟩:=x;exact⟨ho _ d,z,ne,k _ _ (.inl rfl) e,mA,⟨od,es,ep,k _ _ (.inr d) e2,c⟩,r⟩
 |own y=>obtain⟨ob,e⟩:=x;exact⟨ob,k _ _ (.inl rfl) e⟩
 |xd fs=>obtain⟨mA,⟨od,es,ep,e,c⟩,r⟩:=x;exact⟨mA,⟨od,es,ep,k _ _ (.inl rfl) e,c⟩,r⟩
 |rng lo hi=>obtain⟨t,u,v,e⟩:=x;exact⟨t,u,v,k _ _ (.inl rfl) e⟩
 |frz ob u ih=>obtain⟨e,q⟩:=x;exact⟨k _ _ (.inl rfl) e,ih q⟩
 |tbl ps=>
  have e:h.get? a=some { cls:=.none,data:=.fields ps}:=x
  show h'.get? a=some { cls:=.none,data:=.fields ps}
  exact k a _ (.inl rfl) e
 |met f y=>
  have e:h.get? a=some (W.methodObj (.ref f) (.ref y)):=x
  show h'.get? a=some (W.methodObj (.ref f) (.ref y))
  exact k a _ (.inl rfl) e
 |ext φ=>obtain⟨p,⟨o,e⟩,st⟩:=x;exact⟨st _ _ p λo q=>k _ _ (.inl rfl) q,⟨o,k _ _ (.inl rfl) e⟩,st⟩
theorem HOk.lt(x:HOk P w H h)(e:H a=some o):a<h.objs.size:=(x a o e).lt
theorem HOk.fresh(x:HOk P w H h)(e:h.objs.size<=a):H a=none:=by
 cases q:H a with
 |none=>rfl
 |some u=>exact absurd (Z6 (x.lt q) e) (Y5 _)
theorem HOk.kept(x:HOk P w H h)(k:∀b u,h.get? b=some u->h'.get? b=some u):HOk P w H h':=λa o e=>
 (x a o e).stay (λb u _ q=>k b u q) (λ_ q=>q) λ_ _ q=>q
theorem HOk.laid(x:HOk P w H h)(k:∀b u,h.get? b=some u->h'.get? b=some u)(hp:h.objs.size<=a)(new:a1v P w (upd H a o) h' a o):HOk P w (upd H a o) h':=λb u e=>by
 have hn:=x.fresh hp
 by_cases hb:b=a
 ·subst hb;rw[a0c]at e;cases e;exact new
 ·rw[a0p hb]at e;exact(x b u e).stay (λc v _ q=>k c v q) (λc q=>by rw[a0p (a1m q hn)];exact q) λc xs q=>by rw[a0p (a1m q hn)];exact q
end
def Rd(H:Hp)(a:Addr)(u:HO):Prop:=H a=some u\/∃o,H a=some (.frz o u)
theorem Rd.ok{P:Program}{w:World}{H:Hp}{h:Heap}{a:Addr}{u:HO}(r:Rd H a u)(x:HOk P w H h):a1v P w H h a u:=by
 rcases r with r|⟨o,r⟩
 ·exact x a u r
 ·obtain⟨_,q⟩:=x a _ r;exact q
def Mut:Option HO->Prop
 |some (.lst _)=>True
 |some (.dK _)=>True
 |some (.dT _)=>True
 |some (.set _ _)=>True
 |some (.ins _ _ _)=>True
 |some (.ext _)=>True
 |_=>False
section
variable{P:Program}{w:World}{H:Hp}{h h':Heap}{x e:Addr}{o':HO}
theorem HOk.write(ok:HOk P w H h)(mu:Mut (H x))(he:e=x\/H e=some (.own x))(k:∀b u,b≠e->h.get? b=some u->h'.get? b=some u)(heo:∃u,h'.get? e=some u)
  (new:a1v P w (upd H x o') h' x o'):HOk P w (upd H x o') h':=λb u q=>by
 have nown:∀c y,H c=some (.own y)->c≠x:=λc y r z=>by subst z;rw[r]at mu;exact mu
 have ntup:∀c xs,H c=some (.tup xs)->c≠x:=λc xs r z=>by subst z;rw[r]at mu;exact mu
 by_cases hb:b=x
 ·subst hb;rw[a0c]at q;cases q;exact new
 ·rw[a0p hb]at q
  by_cases hbe:b=e
  ·have q':H b=some (.own x):=by
    rcases he with z|z
    ·exact absurd (hbe.trans z) hb
    ·rw[hbe];exact z
   rw[q]at q';cases q';obtain⟨v,hv⟩:=heo;exact⟨v,by rw[hbe];exact hv⟩
  ·refine(ok b u q).stay (λc v hc r=>k c v ?_ r) (λc r=>by rw[a0p (nown c b r)];exact r) λc xs r=>by rw[a0p (ntup c xs r)];exact r
   rcases hc with rfl|hc
   ·exact hbe
   ·rintro rfl
    rcases he with z|z
    ·exact nown c b hc z
    ·rw[hc]at z;cases z;exact hb rfl
end
structure Un(fs ex:List Addr)(H H':Hp)(h h':Heap):Prop where
 keep:∀b o,h.get? b=some o->H b=none->b∉fs->b∉ex->h'.get? b=some o
 slot:∀b o,h.get? b=some o->H b=none->b∈fs->b∉ex->∃sl,h'.get? b=some { o with slots:=sl}
 free:∀b o,h.get? b=some o->H b=none->b∉ex->H' b=none
 there:∀b o,h.get? b=some o->b∉ex->∃o',h'.get? b=some o'
 tups:∀b xs,H b=some (.tup xs)->H' b=some (.tup xs)
 frzs:∀b o u,H b=some (.frz o u)->H' b=some (.frz o u)
 tbls:∀b ps,H b=some (.tbl ps)->∃more,H' b=some (.tbl (ps++more))
section
variable{fs fs' ex ex':List Addr}{H H1 H2:Hp}{h h1 h2 h':Heap}{a x e:Addr}{o:HO}
theorem Un.any(u:Un fs ex H H1 h h1){b:Addr}{ob:Obj}(q:h.get? b=some ob)(n:H b=none)(hx:b∉ex):∃sl,h1.get? b=some { ob with slots:=sl}:=by
 by_cases hb:b∈fs
 ·exact u.slot b ob q n hb hx
 ·exact⟨ob.slots,u.keep b ob q n hb hx⟩
theorem Un.kept(k:∀b u,h.get? b=some u->h'.get? b=some u):Un fs ex H H h h':=
 ⟨λb ob q _ _ _=>k b ob q,λb ob q _ _ _=>⟨ob.slots,k b ob q⟩,λ_ _ _ n _=>n,λb ob q _=>⟨ob,k b ob q⟩,λ_ _ q=>q,λ_ _ _ q=>q,λ_ ps q=>⟨#[],by rw[q];simp⟩⟩
theorem Un.refl:Un fs ex H H h h:=Un.kept λ_ _ q=>q
theorem Un.laid(k:∀b u,h.get? b=some u->h'.get? b=some u)(hp:h.objs.size<=a)(hn:H a=none):Un fs ex H (upd H a o) h h' where
 keep:=λb u q _ _ _=>k b u q
 slot:=λb u q _ _ _=>⟨u.slots,k b u q⟩
 free:=λb u q n _=>by rw[a0p (Z0 (Z6 (Zl q) hp))];exact n
 there:=λb u q _=>⟨u,k b u q⟩
 tups:=λb xs q=>by rw[a0p (a1m q hn)];exact q
 frzs:=λb u xs q=>by rw[a0p (a1m q hn)];exact q
 tbls:=λb ps q=>⟨#[],by rw[a0p (a1m q hn),q];simp⟩
theorem Un.write(mu:Mut (H x))(he:e=x\/H e=some (.own x))(k:∀b u,b≠e->h.get? b=some u->h'.get? b=some u)(heo:∃u,h'.get? e=some u):Un fs ex H (upd H x o) h h':=by
 have hx:∀b,H b=none->b≠x:=λb n z=>by subst z;rw[n]at mu;exact mu
 have hb:∀b,H b=none->b≠e:=λb n z=>by
  subst z;rcases he with r|r
  ·exact hx b n r
  ·rw[n]at r;cases r
 have hm:∀b u,H b=some u->¬Mut (some u)->b≠x:=λb u q nm z=>by subst z;rw[q]at mu;exact nm mu
 refine⟨λb u q n _ _=>k b u (hb b n) q,λb u q n _ _=>⟨u.slots,k b u (hb b n) q⟩,λb u q n _=>by rw[a0p (hx b n)];exact n,λb u q _=>?_,
  λb xs q=>by rw[a0p (hm b _ q λz=>z)];exact q,λb u xs q=>by rw[a0p (hm b _ q λz=>z)];exact q,λb ps q=>⟨#[],by rw[a0p (hm b _ q λz=>z),q];simp⟩⟩
 by_cases hbe:b=e
 ·subst hbe;exact heo
 ·exact⟨u,k b u hbe q⟩
end
def trk(h:Heap)(H:Hp):List Addr:=(List.range h.objs.size).filter λa=>(H a).isSome
def hidT(h:Heap)(H:Hp):Heap:=W.hideAll h (trk h H)
theorem c3f(h:Heap)(H:Hp):(hidT h H).objs.size=h.objs.size:=W.hideAll_size _ _
theorem c6j{h:Heap}{H:Hp}{b:Addr}{o:Obj}(e:h.get? b=some o)(n:H b=none):(hidT h H).get? b=some o:=
 W.hideAll_get _ e λhm=>by
  have q:(H b).isSome=true:=(List.mem_filter.mp hm).2;rw[n]at q;simp at q
theorem of_hidT{h:Heap}{H:Hp}{b:Addr}{o:Obj}(e:(hidT h H).get? b=some o):h.get? b=some o/\H b=none:=by
 have e':h.get? b=some o:=W.of_hideAll (trk h H) e;refine⟨e',?_⟩;cases q:H b with
 |none=>rfl
 |some x=>
  have hm:b∈trk h H:=List.mem_filter.mpr ⟨Xc.mpr (Zl e'),by simp[q]⟩;have z:(hidT h H).get? b=none:=W.hideAll_none (trk h H) hm;rw[z]at e;cases e
def allNews(g h:Heap)(L:Addr):List (Addr×Obj):=(List.range h.objs.size).filterMap λa=>if a=L\/(g.get? a).isSome=true then none else(h.get? a).map λo=>(a,o)
def rest(g h:Heap)(L d:Addr):List (Addr×Obj):=(allNews g h L).filter λp=>decide (p.1≠d)
structure Mod(K:W.Frag)(mg:Str->Option Value)(base:Heap):Prop where
 kin:K.In base
 glob:base.Ns mainGlobals mg
 blt:∃mb,base.Ns builtinsNs mb/\∀x:Str,x≠"__name__"->mb x=bootBuiltins x
 nolimit:base.NoLimit
structure Cx where
 prog:Program
 w:World
 K:W.Frag
 mg:Str->Option Value
 base:Heap
 A:Around
 N:List Str
 s₀:Shared
 H₀:Hp
 env:Env
 outer:List Env
 stack:List Env
 ex:List Addr
 fn:Str->Bool
 calm:Bool
 pn:List (Addr×Obj)
 xe:Value->Shared->Prop
def frs(l:List Env):List Addr:=l.filterMap (·.frame)
abbrev Cx.fs(X:Cx):List Addr:=frs X.outer
def Vis(sc:Scope)(x:Str):Prop:=sc.names.lookup x=some .local\/sc.names.lookup x=some .cell\/sc.names.lookup x=some .free
def Loc(sc:Scope)(x:Str):Prop:=sc.names.lookup x=some .local\/sc.names.lookup x=some .cell
def Look(env:Env)(h:Heap)(m:Str->Option Value)(x:Str)(u:Value):Prop:=
 (env.kindOf x=some .local/\m x=some u)\/((env.kindOf x=some .cell\/env.kindOf x=some .free)/\∃c,env.cells.lookup x=some c/\h.IsCell c (some u))
structure Cx.Ok(X:Cx):Prop where
 mod:Mod X.K X.mg X.base
 kind:X.env.scope.kind=.function
 glob:X.env.globals=mainGlobals
 blt:X.env.builtins=builtinsNs
 above:X.s₀.heap.objs.size<=X.env.locals
 inj:∀x y c,X.env.cells.lookup x=some c->X.env.cells.lookup y=some c->x=y
 has:∀x,(X.env.kindOf x=some .cell\/X.env.kindOf x=some .free)->∃c,X.env.cells.lookup x=some c
 cab:∀x c,X.fn x=true->X.env.cells.lookup x=some c->X.s₀.heap.objs.size<=c
 hd:X.calm=true->X.A.handled=none
 frames:X.A.frames=some X.stack
 stk:X.stack=X.outer\/(X.stack=X.env::X.outer/\X.env.frame=some X.env.locals)
 exf:∀b∈X.ex,b≠X.env.locals/\∀x c,X.env.cells.lookup x=some c->c≠b
 bs:∀b o,X.base.get? b=some o->X.s₀.heap.get? b=some o/\X.H₀ b=none
 bsz:X.base.objs.size<=X.s₀.heap.objs.size
 noex:∀b o,X.base.get? b=some o->b∉X.ex
 exfs:∀b∈X.ex,b∉X.fs
 funs:X.s₀.heap.FunFrames X.base X.outer
 frf:∀b∈X.fs,X.H₀ b=none
structure Inv(X:Cx)(pins:List (Addr×Obj))(σ:List (Option V))(H:Hp)(s:Shared):Prop where
 ok:X.Ok
 os:s.os=X.s₀.os
 bare:AllBare s.gens
 base:Un X.fs X.ex X.H₀ H X.s₀.heap s.heap
 loc:∃m,s.heap.Ns X.env.locals m/\∀(i:Nat)(x:Str)(v:V),X.N[i]? =some x->σ[i]? =some (some v)->Vis X.env.scope x->∃u,RelV v u/\Look X.env s.heap m x u
 cell:∀x c,X.env.cells.lookup x=some c->∃v,s.heap.IsCell c v
 free:H X.env.locals=none
 freeC:∀x c,X.env.cells.lookup x=some c->H c=none
 pin:∀p∈X.pn++pins,s.heap.get? p.1=some p.2/\H p.1=none/\p.1≠X.env.locals/\p.1∉X.fs/\∀v,p.2.data≠.cell v
 hok:HOk X.prog X.w H s.heap
 len:σ.length=X.N.length
section
variable{X:Cx}{pins:List (Addr×Obj)}{σ:List (Option V)}{H H':Hp}{s:Shared}{h':Heap}
theorem Cx.Ok.nofr(ok:X.Ok){b:Addr}{o:Obj}(e:X.base.get? b=some o):b∉X.fs:=λhb=>by
 have:=(ok.funs.mem hb).1;rw[e]at this;cases this
theorem Inv.bs(I:Inv X pins σ H s):∀b o,X.base.get? b=some o->s.heap.get? b=some o/\H b=none:=λb o e=>
 ⟨I.base.keep b o (I.ok.bs b o e).1 (I.ok.bs b o e).2 (I.ok.nofr e) (I.ok.noex b o e),I.base.free b o (I.ok.bs b o e).1 (I.ok.bs b o e).2 (I.ok.noex b o e)⟩
theorem Inv.bk(I:Inv X pins σ H s):∀b o,X.base.get? b=some o->s.heap.get? b=some o:=λb o e=>(I.bs b o e).1
theorem Inv.mod(I:Inv X pins σ H s):Mod X.K X.mg X.base:=I.ok.mod
theorem Inv.kIn(I:Inv X pins σ H s):X.K.In s.heap:=I.ok.mod.kin.keeps I.bk
theorem Inv.lt(I:Inv X pins σ H s):X.env.locals<s.heap.objs.size:=let⟨_,hn,_⟩:=I.loc;hn.lt
theorem Inv.sz(I:Inv X pins σ H s):X.s₀.heap.objs.size<=s.heap.objs.size:=Yk I.ok.above (T4 I.lt)
theorem Inv.nofs(I:Inv X pins σ H s){a:Addr}(h:s.heap.objs.size<=a):a∉X.fs:=λhb=>by
 obtain⟨_,o,ho,_⟩:=I.ok.funs.mem hb;exact absurd (Z6 (Zl ho) (Yk I.sz h)) (Y5 _)
theorem Inv.cne(I:Inv X pins σ H s):∀x c,X.env.cells.lookup x=some c->c≠X.env.locals:=λx c e z=>by
 obtain⟨v,o,ho,hd⟩:=I.cell x c e;obtain⟨m,⟨o',es,ep,ho',hd',_⟩,_⟩:=I.loc;rw[z,ho']at ho;cases ho;rw[hd']at hd;cases hd
theorem Inv.funs(I:Inv X pins σ H s):s.heap.FunFrames X.base X.outer:=by
 have all:∀(l:List Env),(∀b∈frs l,b∈X.fs)->X.s₀.heap.FunFrames X.base l->s.heap.FunFrames X.base l:=by
  intro l
  induction l with
  |nil=>intro _ _;trivial
  |cons env r ih=>
   intro hs hl;obtain⟨hk,⟨L,o,hf,hn,ho,hd⟩,hr⟩:=hl;have hL:L∈X.fs:=hs L (by unfold frs;rw[Uo,hf];exact Ye);obtain⟨sl,e⟩:=I.base.slot L o ho (I.ok.frf L hL) hL λz=>I.ok.exfs L z hL
   exact⟨hk,⟨L,_,hf,hn,e,hd⟩,ih (λb hb=>hs b (by unfold frs;rw[Uo,hf];exact Zv _ hb)) hr⟩
 exact all X.outer (λ_ hb=>hb) I.ok.funs
theorem Inv.stack(I:Inv X pins σ H s):s.heap.FunFrames X.base X.stack:=by
 rcases I.ok.stk with e|⟨e,hf⟩
 ·rw[e];exact I.funs
 ·rw[e];obtain⟨m,hn,_⟩:=I.loc;refine .cons (by rw[I.ok.kind];decide) hf hn ?_ I.funs;exact Heap.get?_none_of_le (Yk I.ok.bsz I.ok.above)
theorem Inv.stkSub(I:Inv X pins σ H s):∀b∈frs X.stack,b∈X.env.locals::X.fs:=λb hb=>by
 rcases I.ok.stk with e|⟨e,hf⟩
 ·rw[e]at hb;exact Zv _ hb
 ·rw[e]at hb;unfold frs at hb;rw[Uo,hf]at hb;exact hb
theorem Inv.stkFree(I:Inv X pins σ H s):∀b∈frs X.stack,H b=none:=λb hb=>by
 rcases Zp.mp (I.stkSub b hb)with e|hb
 ·rw[e];exact I.free
 ·obtain⟨_,o,ho,_⟩:=I.ok.funs.mem hb;exact I.base.free b o ho (I.ok.frf b hb) λz=>I.ok.exfs b z hb
theorem Inv.step{g':Array GenState}{t':Nat}{d':Drawn}{ch:List Addr}(I:Inv X pins σ H s)
  (hch:∀b∈ch,(b∈X.ex\/X.s₀.heap.objs.size<=b)/\b≠X.env.locals/\(∀x c,X.env.cells.lookup x=some c->c≠b)/\∀p∈X.pn++pins,p.1≠b)
  (keep:∀b o,b≠X.env.locals->b∉X.fs->b∉ch->s.heap.get? b=some o->H b=none->h'.get? b=some o)
  (slot:∀b o,b≠X.env.locals->b∈X.fs->b∉ch->s.heap.get? b=some o->H b=none->∃sl,h'.get? b=some { o with slots:=sl})(free:∀b o,b∉ch->s.heap.get? b=some o->H b=none->H' b=none)
  (there:∀b o,b∉ch->s.heap.get? b=some o->∃o',h'.get? b=some o')
  (tups:∀b xs,H b=some (.tup xs)->H' b=some (.tup xs))(frzs:∀b o u,H b=some (.frz o u)->H' b=some (.frz o u))(tbls:∀b ps,H b=some (.tbl ps)->∃more,H' b=some (.tbl (ps++more)))
  (ns:∀m,s.heap.Ns X.env.locals m->h'.Ns X.env.locals m)(hok:HOk X.prog X.w H' h')(hg:AllBare g'):
  Inv X pins σ H' { s with heap:=h',gens:=g',drawn:=d',toks:=t'}:=by
 have neL:∀b o,X.s₀.heap.get? b=some o->b≠X.env.locals:=λb o e=>Z0 (Z6 (Zl e) I.ok.above)
 have neC:∀b o,X.s₀.heap.get? b=some o->b∉X.ex->b∉ch:=λb o e hx hb=>by
  rcases(hch b hb).1 with z|z
  ·exact hx z
  ·exact absurd (Z6 (Zl e) z) (Y5 _)
 have cellK:∀x c,X.env.cells.lookup x=some c->∀v,s.heap.IsCell c v->h'.IsCell c v:=λx c e v ⟨o,ho,hd⟩=>by
  have nch:c∉ch:=λz=>(hch c z).2.2.1 x c e rfl
  by_cases hc:c∈X.fs
  ·obtain⟨sl,q⟩:=slot c o (I.cne x c e) hc nch ho (I.freeC x c e);exact⟨_,q,hd⟩
  ·exact⟨o,keep c o (I.cne x c e) hc nch ho (I.freeC x c e),hd⟩
 refine⟨I.ok,I.os,hg,⟨λb o e n hb hx=>?_,λb o e n hb hx=>?_,λb o e n hx=>?_,λb o e hx=>?_,λb xs e=>tups b xs (I.base.tups b xs e),λb o xs e=>frzs b o xs (I.base.frzs b o xs e),λb ps e=>?_⟩,?_,λx c e=>?_,?_,λx c e=>?_,λp hp=>?_,hok,I.len⟩
 ·exact keep b o (neL b o e) hb (neC b o e hx) (I.base.keep b o e n hb hx) (I.base.free b o e n hx)
 ·obtain⟨sl,e1⟩:=I.base.slot b o e n hb hx;obtain⟨sl',e2⟩:=slot b _ (neL b o e) hb (neC b o e hx) e1 (I.base.free b o e n hx);exact⟨sl',e2⟩
 ·obtain⟨o',e1⟩:=I.base.there b o e hx;exact free b o' (neC b o e hx) e1 (I.base.free b o e n hx)
 ·obtain⟨o',e1⟩:=I.base.there b o e hx;exact there b o' (neC b o e hx) e1
 ·obtain⟨m1,e1⟩:=I.base.tbls b ps e;obtain⟨m2,e2⟩:=tbls b _ e1;exact⟨m1++m2,by rw[e2,Array.append_assoc]⟩
 ·obtain⟨m,hn,hl⟩:=I.loc;refine⟨m,ns m hn,λi x v e1 e2 e3=>?_⟩;obtain⟨u,r,l⟩:=hl i x v e1 e2 e3;refine⟨u,r,?_⟩;rcases l with l|⟨k,c,e,z⟩
  ·exact .inl l
  ·exact .inr ⟨k,c,e,cellK x c e _ z⟩
 ·obtain⟨v,z⟩:=I.cell x c e;exact⟨v,cellK x c e v z⟩
 ·obtain⟨m,⟨o,_,_,ho,_⟩,_⟩:=I.loc;exact free _ o (λz=>(hch _ z).2.1 rfl) ho I.free
 ·obtain⟨v,o,ho,hd⟩:=I.cell x c e;exact free c o (λz=>(hch c z).2.2.1 x c e rfl) ho (I.freeC x c e)
 ·obtain⟨e,n,ne,nf,d⟩:=I.pin p hp;have nch:p.1∉ch:=λz=>(hch p.1 z).2.2.2 p hp rfl
  exact⟨keep p.1 p.2 ne nf nch e n,free p.1 p.2 nch e n,ne,nf,d⟩
theorem Inv.un{t':Nat}(I:Inv X pins σ H s)(u:Un X.fs [] H H' s.heap h')(hok:HOk X.prog X.w H' h'):Inv X pins σ H' { s with heap:=h',toks:=t'}:=by
 obtain⟨m,⟨o,es,ep,ho,r⟩,_⟩:=id I.loc;obtain⟨sl,hL⟩:=u.any ho I.free qz
 exact I.step (g':=s.gens) (d':=s.drawn) (ch:=[]) (λ_ z=>nomatch z) (λb o _ hb _ e n=>u.keep b o e n hb qz) (λb o _ hb _ e n=>u.slot b o e n hb qz) (λb o _ e n=>u.free b o e n qz) (λb o _ e=>u.there b o e qz) u.tups u.frzs u.tbls (λm' hm=>by
  obtain⟨o',es',ep',ho',r'⟩:=hm;rw[ho]at ho';cases ho'
  exact⟨_,es',ep',hL,r'⟩) hok I.bare
theorem Inv.call{g':Array GenState}{t':Nat}{d':Drawn}{ch:List Addr}(I:Inv X pins σ H s)(u:Un (frs X.stack) ch H H' s.heap h')(hok:HOk X.prog X.w H' h')(hg:AllBare g')
  (hch:∀b∈ch,(b∈X.ex\/X.s₀.heap.objs.size<=b)/\b≠X.env.locals/\(∀x c,X.env.cells.lookup x=some c->c≠b)/\∀p∈X.pn++pins,p.1≠b):
  Inv X pins σ H' { s with heap:=h',gens:=g',drawn:=d',toks:=t'}:=by
 obtain⟨m,⟨o,es,ep,ho,r⟩,_⟩:=id I.loc;obtain⟨sl,hL⟩:=u.any ho I.free λz=>(hch _ z).2.1 rfl
 exact I.step (ch:=ch) hch (λb o hL hb hc e n=>u.keep b o e n (λz=>(Zp.mp (I.stkSub b z)).elim hL hb) hc) (λb o _ _ hc e n=>u.any e n hc) (λb o hc e n=>u.free b o e n hc) (λb o hc e=>u.there b o e hc) u.tups u.frzs u.tbls (λm' hm=>by
  obtain⟨o',es',ep',ho',r'⟩:=hm;rw[ho]at ho';cases ho'
  exact⟨_,es',ep',hL,r'⟩) hok hg
theorem Inv.turned{t':Nat}{it:Addr}(I:Inv X pins σ H s)(k:∀b o,b≠it->s.heap.get? b=some o->h'.get? b=some o)(hn:H it=none)(hL:it≠X.env.locals)
  (h1:it∈X.ex\/X.s₀.heap.objs.size<=it)(h2:∀x c,X.env.cells.lookup x=some c->c≠it)(h3:∀p∈X.pn++pins,p.1≠it):Inv X pins σ H { s with heap:=h',toks:=t'}:=by
 have nit:∀b u,H b=some u->b≠it:=λb u e z=>by rw[z,hn]at e;cases e
 refine I.step (g':=s.gens) (d':=s.drawn) (ch:=[it]) (λb hb=>?_) (λb o _ _ hc e _=>k b o (λz=>hc (by simp[z])) e) (λb o _ _ hc e _=>⟨o.slots,k b o (λz=>hc (by simp[z])) e⟩) (λ_ _ _ _ n=>n)
  (λb o hc e=>⟨o,k b o (λz=>hc (by simp[z])) e⟩) (λ_ _ e=>e) (λ_ _ _ e=>e) (λb ps e=>⟨#[],by rw[e];simp⟩) (λm hm=>?_) (λb u e=>?_) I.bare
 ·have e:b=it:=by simpa using hb
  subst e;exact⟨h1,hL,h2,h3⟩
 ·obtain⟨o,es,ep,ho,r⟩:=hm;exact⟨o,es,ep,k _ o (Ne.symm hL) ho,r⟩
 ·refine(I.hok b u e).stay (λc v hc q=>k c v ?_ q) (λ_ q=>q) λ_ _ q=>q
  rcases hc with z|z
  ·rw[z];exact nit b u e
  ·exact nit c _ z
theorem Inv.tok(I:Inv X pins σ H s)(t:Nat):Inv X pins σ H { s with toks:=t}:=I.un (h':=s.heap) (t':=t) Un.refl I.hok
theorem Inv.kept{t':Nat}(I:Inv X pins σ H s)(k:∀b u,s.heap.get? b=some u->h'.get? b=some u):Inv X pins σ H { s with heap:=h',toks:=t'}:=I.un (Un.kept k) (I.hok.kept k)
theorem Inv.laid{a:Addr}{o:HO}{t':Nat}(I:Inv X pins σ H s)(k:∀b u,s.heap.get? b=some u->h'.get? b=some u)(hp:s.heap.objs.size<=a)(new:a1v X.prog X.w (upd H a o) h' a o):
  Inv X pins σ (upd H a o) { s with heap:=h',toks:=t'}:=I.un (Un.laid k hp (I.hok.fresh hp)) (I.hok.laid k hp new)
theorem Inv.write{x e:Addr}{o:HO}{t':Nat}(I:Inv X pins σ H s)(mu:Mut (H x))(he:e=x\/H e=some (.own x))(k:∀b u,b≠e->s.heap.get? b=some u->h'.get? b=some u)(heo:∃u,h'.get? e=some u)
  (new:a1v X.prog X.w (upd H x o) h' x o):Inv X pins σ (upd H x o) { s with heap:=h',toks:=t'}:=I.un (Un.write mu he k heo) (I.hok.write mu he k heo new)
theorem Inv.pins_of{pins':List (Addr×Obj)}(I:Inv X pins σ H s)(h:∀p∈pins',s.heap.get? p.1=some p.2/\H p.1=none/\p.1≠X.env.locals/\p.1∉X.fs/\∀v,p.2.data≠.cell v):Inv X pins' σ H s:=
 ⟨I.ok,I.os,I.bare,I.base,I.loc,I.cell,I.free,I.freeC,λp hp=>(Zx.mp hp).elim (λz=>I.pin p (Sk _ z)) (h p),I.hok,I.len⟩
theorem b7d{N:List Str}(hN:N.Nodup){i j:Nat}{x:Str}(a:N[i]? =some x)(b:N[j]? =some x):i=j:=by
 obtain⟨h1,e1⟩:=Z3.mp a;obtain⟨h2,e2⟩:=Z3.mp b;exact(List.getElem_inj hN).mp (e1.trans e2.symm)
theorem b5q{M:Model}{A:Around}{E:Value->Shared->Prop}{i:Nat}{x:Str}{v:V}{u:Value}{Q:Unit->Shared->Prop}(I:Inv X pins σ H s)(hN:X.N.Nodup)(hi:X.N[i]? =some x)(hx:Loc X.env.scope x)(r:RelV v u)
  (h:∀s',Inv X pins (σ.set i (some v)) H s'->(∃a,Heap.SameBut a s.heap s'.heap/\(a=X.env.locals\/X.env.cells.lookup x=some a))->Q () s')(hf:X.fn x=true\/X.env.scope.names.lookup x=some .local:=by first|exact .inl rfl|exact .inr rfl|assumption):wpAny M A (storeName X.env x u) Q E s:=by
 obtain⟨m,hn,hl⟩:=id I.loc;have hcls:(X.env.scope.kind==.class|| (X.env.scope.kind==.module&&X.env.locals !=X.env.globals))=false:=by rw[I.ok.kind];rfl
 have hiσ:i<σ.length:=by rw[I.len];exact(Z3.mp hi).1
 have cne:=I.cne;have tracked:∀{a:Addr}{h':Heap},(∃o,s.heap.get? a=some o/\H a=none)->Heap.SameBut a s.heap h'->HOk X.prog X.w H h':=λ{a h'} ha hs b ob e=>by
  obtain⟨_,_,hfree⟩:=ha;refine(I.hok b ob e).stay (λc w' hc q=>(hs.2 c ?_).trans q) (λ_ q=>q) λ_ _ q=>q
  rintro rfl
  rcases hc with rfl|hc
  ·rw[hfree]at e;cases e
  ·rw[hfree]at hc;cases hc
 rcases hx with hk|hk
 ·refine wpAny_storeName_local hk hn (λh' hn' hs=>?_) hcls;obtain⟨oL,_,_,hoL,_⟩:=id hn;refine h _ ⟨I.ok,I.os,I.bare,⟨λb o e n hb hx=>?_,λb o e n hb hx=>?_,I.base.free,λb o e hx=>?_,I.base.tups,I.base.frzs,I.base.tbls⟩,⟨_,hn',λj y v' e1 e2 e3=>?_⟩,λy c e=>?_,I.free,I.freeC,λp hp=>?_,tracked ⟨oL,hoL,I.free⟩ hs,by simpa using I.len⟩ ⟨_,hs,.inl rfl⟩
  ·exact(hs.2 b (Z0 (Z6 (Zl e) I.ok.above))).trans (I.base.keep b o e n hb hx)
  ·obtain⟨sl,e1⟩:=I.base.slot b o e n hb hx;exact⟨sl,(hs.2 b (Z0 (Z6 (Zl e) I.ok.above))).trans e1⟩
  ·obtain⟨o',e1⟩:=I.base.there b o e hx;exact⟨o',(hs.2 b (Z0 (Z6 (Zl e) I.ok.above))).trans e1⟩
  ·by_cases hj:j=i
   ·subst hj;rw[hi]at e1;cases e1;rw[T6 hiσ]at e2;cases e2;exact⟨u,r,.inl ⟨hk,qz⟩⟩
   ·rw[Sl (Ne.symm hj)]at e2;obtain⟨u',r',q⟩:=hl j y v' e1 e2 e3;refine⟨u',r',?_⟩;rcases q with⟨k,e⟩|⟨k,c,e,z⟩
    ·refine .inl ⟨k,?_⟩;have:y≠x:=λe=>hj (b7d hN e1 (e▸hi))
     simp[this,e]
    ·exact .inr ⟨k,c,e,z.sameBut hs (cne y c e)⟩
  ·obtain⟨w',z⟩:=I.cell y c e;exact⟨w',z.sameBut hs (cne y c e)⟩
  ·obtain⟨e,n,ne,nf,d⟩:=I.pin p hp;exact⟨(hs.2 p.1 ne).trans e,n,ne,nf,d⟩
 ·have hfn:X.fn x=true:=by
   rcases hf with z|z
   ·exact z
   ·rw[z]at hk;cases hk
  obtain⟨c,hc⟩:=I.ok.has x (.inl hk);obtain⟨w',z⟩:=I.cell x c hc;refine wpAny_storeName_cell I.ok.kind hk hc z (λh' hc' hs=>?_);obtain⟨oc,hoc,hocd⟩:=id z;refine h { s with heap:=h'} ⟨I.ok,I.os,I.bare,⟨λb o e n hb hx=>?_,λb o e n hb hx=>?_,I.base.free,λb o e hx=>?_,I.base.tups,I.base.frzs,I.base.tbls⟩,⟨m,hn.sameBut hs (Ne.symm (cne x c hc)),λj y v' e1 e2 e3=>?_⟩,λy c' e=>?_,I.free,I.freeC,λp hp=>?_,tracked ⟨oc,hoc,I.freeC x c hc⟩ hs,by simpa using I.len⟩ ⟨c,hs,.inr hc⟩
  ·exact(hs.2 b (Z0 (Z6 (Zl e) (I.ok.cab x c hfn hc)))).trans (I.base.keep b o e n hb hx)
  ·obtain⟨sl,e1⟩:=I.base.slot b o e n hb hx;exact⟨sl,(hs.2 b (Z0 (Z6 (Zl e) (I.ok.cab x c hfn hc)))).trans e1⟩
  ·obtain⟨o',e1⟩:=I.base.there b o e hx;exact⟨o',(hs.2 b (Z0 (Z6 (Zl e) (I.ok.cab x c hfn hc)))).trans e1⟩
  ·by_cases hj:j=i
   ·subst hj;rw[hi]at e1;cases e1;rw[T6 hiσ]at e2;cases e2;exact⟨u,r,.inr ⟨.inl hk,c,hc,hc'⟩⟩
   ·rw[Sl (Ne.symm hj)]at e2;obtain⟨u',r',q⟩:=hl j y v' e1 e2 e3;refine⟨u',r',?_⟩;rcases q with q|⟨k,c',e,z'⟩
    ·exact .inl q
    ·refine .inr ⟨k,c',e,z'.sameBut hs ?_⟩
     rintro rfl
     exact hj (b7d hN e1 (I.ok.inj _ _ _ e hc▸hi))
  ·by_cases hcc:c'=c
   ·subst hcc;exact⟨_,hc'⟩
   ·obtain⟨w2,z2⟩:=I.cell y c' e;exact⟨w2,z2.sameBut hs hcc⟩
  ·obtain⟨e,n,ne,nf,d⟩:=I.pin p hp;refine⟨(hs.2 p.1 ?_).trans e,n,ne,nf,d⟩;intro q;rw[q,hoc]at e;have q':oc=p.2:=Zk e;exact d w' (by rw[<-q'];exact hocd)
theorem b2u{M:Model}{A:Around}{E:Value->Shared->Prop}{i:Nat}{x:Str}{v:V}{u:Value}{Q:Unit->Shared->Prop}(I:Inv X pins σ H s)(hN:X.N.Nodup)(hi:X.N[i]? =some x)(hx:Loc X.env.scope x)(r:RelV v u)
  (h:∀s',Inv X pins (σ.set i (some v)) H s'->Q () s')(hf:X.fn x=true\/X.env.scope.names.lookup x=some .local:=by first|exact .inl rfl|exact .inr rfl|assumption):wpAny M A (storeName X.env x u) Q E s:=
 b5q I hN hi hx r (λs' I' _=>h s' I') hf
theorem Inv.call'{s':Shared}{ch:List Addr}(I:Inv X pins σ H s)(ho:s'.os=s.os)(u:Un (frs X.stack) ch H H' s.heap s'.heap)(hok:HOk X.prog X.w H' s'.heap)(hg:AllBare s'.gens)
  (hch:∀b∈ch,(b∈X.ex\/X.s₀.heap.objs.size<=b)/\b≠X.env.locals/\(∀x c,X.env.cells.lookup x=some c->c≠b)/\∀p∈X.pn++pins,p.1≠b):Inv X pins σ H' s':=by
 obtain⟨h',g',d',t',o'⟩:=s';have e:o'=s.os:=ho;subst e;exact I.call (g':=g') (t':=t') (d':=d') u hok hg hch
end
abbrev XK:=Value->Option Addr->Hp->Prop
abbrev St:=List (Option V)
abbrev VK:=V->Hp->Prop
abbrev TE:=St->Hp->VK->Prop
abbrev TT:=St->Hp->(Bool->Hp->Prop)->Prop
abbrev TA:=St->Hp->(List V->Hp->Prop)->Prop
structure Ends where
 nx:St->Hp->Prop
 rt:VK
 bk:St->Hp->Prop:=λ_ _=>False
 ct:St->Hp->Prop:=λ_ _=>False
abbrev TS:=Ends->St->Hp->Prop
def EP(X:Cx)(pins:List (Addr×Obj))(σ:St)(Q:VK)(u:Value)(s':Shared):Prop:=∃v H',Inv X pins σ H' s'/\RelV v u/\Q v H'
def TP(X:Cx)(pins:List (Addr×Obj))(σ:St)(Q:Bool->Hp->Prop)(b:Bool)(s':Shared):Prop:=∃H',Inv X pins σ H' s'/\Q b H'
def AP(X:Cx)(pins:List (Addr×Obj))(σ:St)(Q:List V->Hp->Prop)(us:List Value)(s':Shared):Prop:=∃vs H',Inv X pins σ H' s'/\Vals vs us/\Q vs H'
def SP(X:Cx)(pins:List (Addr×Obj))(D:Ends)(f:Flow)(s':Shared):Prop:=
 match f with
 | .next=>∃σ' H',Inv X pins σ' H' s'/\D.nx σ' H'
 | .brk=>∃σ' H',Inv X pins σ' H' s'/\D.bk σ' H'
 | .cont=>∃σ' H',Inv X pins σ' H' s'/\D.ct σ' H'
 | .ret u=>∃v σ' H',Inv X pins σ' H' s'/\RelV v u/\D.rt v H'
def PE(X:Cx)(e:Expr)(t:TE):Prop:=
 ∀(pins:List (Addr×Obj))(s:Shared)(σ:St)(H:Hp)(Q:VK),Inv X pins σ H s->t σ H Q->wpAny (model X.prog X.w) X.A (eval e X.env) (EP X pins σ Q) X.xe s
def PT(X:Cx)(e:Expr)(t:TT):Prop:=
 ∀(pins:List (Addr×Obj))(s:Shared)(σ:St)(H:Hp)(Q:Bool->Hp->Prop),Inv X pins σ H s->t σ H Q->wpAny (model X.prog X.w) X.A (isTrue e X.env (eval e X.env)) (TP X pins σ Q) X.xe s
def PW(X:Cx)(e:Expr)(t:TT):Prop:=
 ∀(whole:Sem Value)(pins:List (Addr×Obj))(s:Shared)(σ:St)(H:Hp)(Q:Bool->Hp->Prop),Inv X pins σ H s->t σ H Q->wpAny (model X.prog X.w) X.A (isTrue e X.env whole) (TP X pins σ Q) X.xe s
theorem PW.pt{X:Cx}{e:Expr}{t:TT}(h:PW X e t):PT X e t:=h _
def PA(X:Cx)(es:List Expr)(t:TA):Prop:=
 ∀(pos:Pos)(pins:List (Addr×Obj))(s:Shared)(σ:St)(H:Hp)(Q:List V->Hp->Prop),Inv X pins σ H s->t σ H Q->wpAny (model X.prog X.w) X.A (spliced (backTo pos (starEach es X.env))) (AP X pins σ Q) X.xe s
def PS(X:Cx)(st:Stmt)(t:TS):Prop:=
 ∀(pins:List (Addr×Obj))(s:Shared)(σ:St)(H:Hp)(D:Ends),Inv X pins σ H s->t D σ H->wpAny (model X.prog X.w) X.A (exec st X.env) (SP X pins D) X.xe s
def PSs(X:Cx)(st:List Stmt)(t:TS):Prop:=
 ∀(pins:List (Addr×Obj))(s:Shared)(σ:St)(H:Hp)(D:Ends),Inv X pins σ H s->t D σ H->wpAny (model X.prog X.w) X.A (execs st X.env) (SP X pins D) X.xe s
theorem thn{α:Type}{t:Sem α}{Q Q':α->Shared->Prop}{M:Model}{A:Around}{E:Value->Shared->Prop}{s:Shared}(h:wpAny M A t Q E s)(hQ:∀a s,Q a s->Q' a s):wpAny M A t Q' E s:=W4 h hQ λ_ _ x=>x
section
variable{X:Cx}
def tVar(i:Nat):TE:=λσ H Q=>∃v,σ[i]? =some (some v)/\Q v H
def tC(v:V):TE:=λ_ H Q=>Q v H
theorem pe_var{i:Nat}{x:Str}{pos:Pos}(hN:X.N[i]? =some x)(hv:Vis X.env.scope x)(hd:(x==("__debug__":Str))=false:=by decide)(hcd:(x==("__classdict__":Str))=false:=by decide):PE X (.Name x pos) (tVar i):=by
 intro pins s σ H Q I h;obtain⟨v,e,h⟩:=h;obtain⟨m,hn,hl⟩:=I.loc;obtain⟨u,r,l⟩:=hl i x v hN e hv;have fin:EP X pins σ Q u s:=⟨v,H,I,r,h⟩;rcases l with⟨hk,hm⟩|⟨hk,c,hc,hcell⟩
 ·exact Sz (wpAny_loadName_local I.ok.kind hk hn hm fin) hd
 ·rcases hk with hk|hk
  ·exact Sz (wpAny_loadName_cell I.ok.kind hk hc hcell fin) hd
  ·exact Sz (wpAny_loadName_free I.ok.kind hk hc hcell fin hcd) hd
theorem a0b{i j pos}:PE X (.Constant (.int i) j pos) (tC (.int i)):=λ_ _ _ H _ I h=>wpAny_Constant_int ⟨.int i,H,I.tok _,⟨_,rfl⟩,h⟩
theorem a3x{b j pos}:PE X (.Constant (.bool b) j pos) (tC (.bl b)):=λ_ _ _ H _ I h=>Constant_bool ⟨.bl b,H,I,rfl,h⟩
theorem a3n{j pos}:PE X (.Constant .none j pos) (tC .non):=λ_ _ _ H _ I h=>Constant_none ⟨.non,H,I,rfl,h⟩
theorem a0r{x j pos}:PE X (.Constant (.str x) j pos) (tC (.str x)):=λ_ _ _ H _ I h=>Rk ⟨.str x,H,I.tok _,⟨_,rfl⟩,h⟩
def Gl(X:Cx)(x:Str):Prop:=X.env.kindOf x=some .globalImplicit
theorem b4z{E:Value->Shared->Prop}{pins:List (Addr×Obj)}{s:Shared}{σ:St}{H:Hp}{x:Str}{u:Value}{pos:Pos}{Q:Value->Shared->Prop}(I:Inv X pins σ H s)(hg:Gl X x)(hm:X.mg x=some u)(h:Q u s)
  (hd:(x==("__debug__":Str))=false:=by decide):wpAny (model X.prog X.w) X.A (eval (.Name x pos) X.env) Q E s:=
 Tj I.ok.kind hg (Calls.loadGlobal_global (by rw[I.ok.glob];exact I.mod.glob.keeps I.bk) hm h) hd
theorem a5c{E:Value->Shared->Prop}{pins:List (Addr×Obj)}{s:Shared}{σ:St}{H:Hp}{x:Str}{u:Value}{pos:Pos}{Q:Value->Shared->Prop}(I:Inv X pins σ H s)(hg:Gl X x)(hm:X.mg x=none)(hv:bootBuiltins x=some u)(h:Q u s)
  (hn:x≠"__name__":=by decide)(hd:(x==("__debug__":Str))=false:=by decide):wpAny (model X.prog X.w) X.A (eval (.Name x pos) X.env) Q E s:=by
 obtain⟨mb,h1,h2⟩:=I.mod.blt;exact Tj I.ok.kind hg (Calls.loadGlobal_builtin (by rw[I.ok.glob];exact I.mod.glob.keeps I.bk) hm (by rw[I.ok.blt];exact h1.keeps I.bk) ((h2 x hn).trans hv) h) hd
theorem c0d{x:Str}{v:V}{u:Value}{pos:Pos}(hg:Gl X x)(hm:X.mg x=some u)(r:RelV v u)(hd:(x==("__debug__":Str))=false:=by decide):PE X (.Name x pos) (tC v):=
 λ_ _ _ H _ I h=>b4z I hg hm ⟨v,H,I,r,h⟩ hd
theorem pe_bltn{x:Str}{v:V}{u:Value}{pos:Pos}(hg:Gl X x)(hm:X.mg x=none)(hv:bootBuiltins x=some u)(r:RelV v u)(hn:x≠"__name__":=by decide)(hd:(x==("__debug__":Str))=false:=by decide):PE X (.Name x pos) (tC v):=
 λ_ _ _ H _ I h=>a5c I hg hm hv ⟨v,H,I,r,h⟩ hn hd
variable{a b:Expr}{ta tb:TE}{pos:Pos}
def PC(X:Cx)(op:CmpOp)(a b:Expr)(t:TE):Prop:=
 ∀(pins:List (Addr×Obj))(s:Shared)(σ:St)(H:Hp)(Q:VK),Inv X pins σ H s->t σ H Q->
  wpAny (model X.prog X.w) X.A (eval a X.env) (λv s₁=>wpAny (model X.prog X.w) X.A (eval b X.env) (λu s₂=>wpAny (model X.prog X.w) X.A (compareOp op v u) (EP X pins σ Q) X.xe s₂) X.xe s₁) X.xe s
variable{tA tB':TT}{rest:List Expr}
def tAnd(t u:TT):TT:=λσ H Q=>t σ H λc H1=>if c=true then u σ H1 Q else Q false H1
def tOr(t u:TT):TT:=λσ H Q=>t σ H λc H1=>if c=true then Q true H1 else u σ H1 Q
def tNot(t:TT):TT:=λσ H Q=>t σ H λc H1=>Q (!c) H1
theorem a4l(ha:PT X a tA):PW X (.BoolOp .And [a] pos) tA:=by
 intro wh pins s σ H Q I h;refine isTrue_and (thn (ha pins s σ H Q I h) λc s1 e=>?_);cases c with
 |true=>exact isTrue_and_nil e
 |false=>exact e
theorem a7m(ha:PT X a tA):PW X (.BoolOp .Or [a] pos) tA:=by
 intro wh pins s σ H Q I h;refine isTrue_or (thn (ha pins s σ H Q I h) λc s1 e=>?_);cases c with
 |false=>exact isTrue_or_nil e
 |true=>exact e
theorem a3p(ha:PT X a tA)(hb:PW X (.BoolOp .And (b::rest) pos) tB'):PW X (.BoolOp .And (a::b::rest) pos) (tAnd tA tB'):=by
 intro wh pins s σ H Q I h;refine isTrue_and (thn (ha pins s σ H _ I h) λc s1 z9=>?_);obtain⟨H1,I1,q1⟩:=z9;cases c with
 |true=>exact hb wh pins s1 σ H1 Q I1 q1
 |false=>exact⟨H1,I1,q1⟩
theorem a7b(ha:PT X a tA)(hb:PW X (.BoolOp .Or (b::rest) pos) tB'):PW X (.BoolOp .Or (a::b::rest) pos) (tOr tA tB'):=by
 intro wh pins s σ H Q I h;refine isTrue_or (thn (ha pins s σ H _ I h) λc s1 z9=>?_);obtain⟨H1,I1,q1⟩:=z9;cases c with
 |true=>exact⟨H1,I1,q1⟩
 |false=>exact hb wh pins s1 σ H1 Q I1 q1
theorem a6q(ha:PT X a tA):PT X (.UnaryOp .Not a pos) (tNot tA):=by
 intro pins s σ H Q I h;exact isTrue_not (ha pins s σ H (λc H1=>Q (!c) H1) I h)
def tAndV(ta tb:TE):TE:=λσ H Q=>ta σ H λx H1=>∃c,x=.bl c/\if c=true then tb σ H1 Q else Q (.bl false) H1
def tOrV(ta tb:TE):TE:=λσ H Q=>ta σ H λx H1=>∃c,x=.bl c/\if c=true then Q (.bl true) H1 else tb σ H1 Q
theorem a7n{op}{t:TE}(h:PE X a t):PE X (.BoolOp op [a] pos) t:=λpins s σ H Q I hw=>BoolOp_one (h pins s σ H Q I hw)
theorem pe_and(ha:PE X a ta)(hb:PE X (.BoolOp .And (b::rest) pos) tb):PE X (.BoolOp .And (a::b::rest) pos) (tAndV ta tb):=by
 intro pins s σ H Q I h;refine BoolOp_and (thn (ha pins s σ H _ I h) λv s1 z9=>?_);obtain⟨x,H1,I1,r1,q1⟩:=z9;obtain⟨c,rfl,q1⟩:=q1;cases r1;refine Xp ?_;cases c with
 |true=>exact hb pins s1 σ H1 Q I1 q1
 |false=>exact⟨.bl false,H1,I1,rfl,q1⟩
theorem pe_or(ha:PE X a ta)(hb:PE X (.BoolOp .Or (b::rest) pos) tb):PE X (.BoolOp .Or (a::b::rest) pos) (tOrV ta tb):=by
 intro pins s σ H Q I h;refine BoolOp_or (thn (ha pins s σ H _ I h) λv s1 z9=>?_);obtain⟨x,H1,I1,r1,q1⟩:=z9;obtain⟨c,rfl,q1⟩:=q1;cases r1;refine Xp ?_;cases c with
 |false=>exact hb pins s1 σ H1 Q I1 q1
 |true=>exact⟨.bl true,H1,I1,rfl,q1⟩
def tIf(t:TT)(ta tb:TE):TE:=λσ H Q=>t σ H λc H1=>if c=true then ta σ H1 Q else tb σ H1 Q
theorem b2v{c:Expr}(hc:PT X c tA)(ha:PE X a ta)(hb:PE X b tb):PE X (.IfExp c a b pos) (tIf tA ta tb):=by
 intro pins s σ H Q I h;refine wpAny_IfExp (thn (hc pins s σ H _ I h) λd s1 z9=>?_);obtain⟨H1,I1,q1⟩:=z9;cases d with
 |true=>exact ha pins s1 σ H1 Q I1 q1
 |false=>exact hb pins s1 σ H1 Q I1 q1
end
def SqL(K:W.Frag)(H:Hp)(a:Addr)(xs:List V):Prop:=
 Rd H a (.lst xs)\/
  ∃(o:Obj)(its:Array Value)(n:Nat),K.lookup a=some o/\o.cls=.type "list"/\o.dict=none/\o.data=.seq its n/\its.size<=sizeLine/\Vals xs its.toList
def SqT(K:W.Frag)(H:Hp)(a:Addr)(xs:List V):Prop:=
 Rd H a (.tup xs)\/
  ∃(o:Obj)(its:Array Value)(n:Nat),K.lookup a=some o/\o.cls=.type "tuple"/\o.data=.seq its n/\its.size<=sizeLine/\Vals xs its.toList
def absV:Value->Option V
 | .none=>some .non
 | .bool b=>some (.bl b)
 | .int i _=>some (.int i)
 | .str x _=>some (.str x)
 | .bytes b _=>some (.byt b)
 | .float b _=>some (.flt b)
 | .ref a=>some (.ref a)
 | .type n=>some (.ty n)
 |_=>none
theorem RelV.abs{x:V}{u:Value}(r:RelV x u):absV u=some x:=by
 cases x with
 |non=>cases r;rfl
 |bl _=>cases r;rfl
 |int _=>obtain⟨t,rfl⟩:=r;rfl
 |str _=>obtain⟨t,rfl⟩:=r;rfl
 |byt _=>obtain⟨t,rfl⟩:=r;rfl
 |flt _=>obtain⟨t,rfl⟩:=r;rfl
 |ref _=>cases r;rfl
 |ty _=>cases r;rfl
theorem RelV.inj{x y:V}{u:Value}(r:RelV x u)(q:RelV y u):x=y:=Zk (r.abs.symm.trans q.abs)
theorem Vals.inj{xs ys:List V}{us:List Value}(h:Vals xs us)(g:Vals ys us):xs=ys:=by
 induction h generalizing ys with
 |nil=>cases g;rfl
 |cons r _ ih=>cases g with
  |cons r' t'=>rw[r.inj r',ih t']
section
variable{X:Cx}{pins:List (Addr×Obj)}{σ:St}{H:Hp}{s:Shared}{a:Addr}{xs ys:List V}
theorem SqL.of{K:W.Frag}(h:H a=some (.lst xs)):SqL K H a xs:=.inl (.inl h)
theorem SqT.of{K:W.Frag}(h:H a=some (.tup xs)):SqT K H a xs:=.inl (.inl h)
theorem Inv.list(I:Inv X pins σ H s)(h:SqL X.K H a xs):∃its:List Value,Vals xs its/\PlainL s.heap a its.toArray/\xs.length<=sizeLine:=by
 rcases h with h|⟨o,its,n,hk,hc,hd,hs,hz,r⟩
 ·obtain⟨z,its,n,r,e⟩:=h.ok I.hok;exact⟨its,r,⟨_,n,e,rfl,rfl,rfl⟩,z⟩
 ·refine⟨its.toList,r,⟨o,n,I.kIn a o hk,hc,hd,by simpa using hs⟩,?_⟩;have e:=r.length;simp only[Xf]at e;omega
theorem Inv.tuple(I:Inv X pins σ H s)(h:SqT X.K H a xs):∃its:List Value,Vals xs its/\IsTup s.heap a its.toArray/\xs.length<=sizeLine:=by
 rcases h with h|⟨o,its,n,hk,hc,hs,hz,r⟩
 ·obtain⟨z,its,r,p⟩:=h.ok I.hok;exact⟨its,r,p,z⟩
 ·refine⟨its.toList,r,⟨o,I.kIn a o hk,hc,n,by simpa using hs⟩,?_⟩;have e:=r.length;simp only[Xf]at e;omega
theorem Inv.list_inj(I:Inv X pins σ H s)(h:SqL X.K H a xs)(h':SqL X.K H a ys):xs=ys:=by
 obtain⟨its,r,⟨o,n,e,_,_,d⟩,_⟩:=I.list h;obtain⟨its',r',⟨o',n',e',_,_,d'⟩,_⟩:=I.list h';rw[e]at e';cases e';rw[d]at d'
 injection d' with d1 _
 have:its=its':=by simpa using Xj Array.toList d1
 subst this;exact r.inj r'
theorem Inv.tuple_inj(I:Inv X pins σ H s)(h:SqT X.K H a xs)(h':SqT X.K H a ys):xs=ys:=by
 obtain⟨its,r,⟨o,e,_,n,d⟩,_⟩:=I.tuple h;obtain⟨its',r',⟨o',e',_,n',d'⟩,_⟩:=I.tuple h';rw[e]at e';cases e';rw[d]at d'
 injection d' with d1 _
 have:its=its':=by simpa using Xj Array.toList d1
 subst this;exact r.inj r'
end
abbrev Cx.wish(X:Cx)(E:Value->Shared->Prop):Cx:={ X with xe:=E}
abbrev Cx.nox(X:Cx):Cx:=X.wish λ_ _=>False
theorem Cx.Ok.wish{X:Cx}(ok:X.Ok)(E:Value->Shared->Prop):(X.wish E).Ok:=
 ⟨ok.mod,ok.kind,ok.glob,ok.blt,ok.above,ok.inj,ok.has,ok.cab,ok.hd,ok.frames,ok.stk,ok.exf,ok.bs,ok.bsz,ok.noex,ok.exfs,ok.funs,ok.frf⟩
theorem Cx.Ok.unwish{X:Cx}{E:Value->Shared->Prop}(ok:(X.wish E).Ok):X.Ok:=
 ⟨ok.mod,ok.kind,ok.glob,ok.blt,ok.above,ok.inj,ok.has,ok.cab,ok.hd,ok.frames,ok.stk,ok.exf,ok.bs,ok.bsz,ok.noex,ok.exfs,ok.funs,ok.frf⟩
section
variable{X:Cx}{pins:List (Addr×Obj)}{σ:St}{H:Hp}{s:Shared}{E:Value->Shared->Prop}
theorem Inv.wish(I:Inv X pins σ H s)(E:Value->Shared->Prop):Inv (X.wish E) pins σ H s:=⟨I.ok.wish E,I.os,I.bare,I.base,I.loc,I.cell,I.free,I.freeC,I.pin,I.hok,I.len⟩
theorem Inv.unwish(I:Inv (X.wish E) pins σ H s):Inv X pins σ H s:=⟨I.ok.unwish,I.os,I.bare,I.base,I.loc,I.cell,I.free,I.freeC,I.pin,I.hok,I.len⟩
theorem SP.unwish{D:Ends}{f:Flow}{s':Shared}(h:SP (X.wish E) pins D f s'):SP X pins D f s':=by
 cases f with
 |next=>obtain⟨σ',H',I,q⟩:=h;exact⟨σ',H',I.unwish,q⟩
 |brk=>obtain⟨σ',H',I,q⟩:=h;exact⟨σ',H',I.unwish,q⟩
 |cont=>obtain⟨σ',H',I,q⟩:=h;exact⟨σ',H',I.unwish,q⟩
 |ret u=>obtain⟨v,σ',H',I,r,q⟩:=h;exact⟨v,σ',H',I.unwish,r,q⟩
theorem PSs.nox{st:List Stmt}{t:TS}(h:PSs X.nox st t):PSs X st t:=λpins s σ H D I hw=>
 W4 (h pins s σ H D (I.wish _) hw) (λ_ _ q=>q.unwish) λ_ _ z=>False.elim z
end
section
variable{X:Cx}{st:Stmt}{rest:List Stmt}{t u:TS}{e:Expr}{te:TE}{pos:Pos}
def tNext:TS:=λD σ H=>D.nx σ H
def tSeq(t u:TS):TS:=λD σ H=>t { D with nx:=u D} σ H
theorem a0u:PSs X [] tNext:=λ_ _ σ H _ I h=>Vk ⟨σ,H,I,h⟩
theorem a0f(h1:PS X st t)(h2:PSs X rest u):PSs X (st::rest) (tSeq t u):=by
 intro pins s σ H D I h;refine wpAny_execs_cons (thn (h1 pins s σ H { D with nx:=u D} I h) λf s1 q=>?_);cases f with
 |next=>
  obtain⟨σ',H',I',q⟩:=q;exact h2 pins s1 σ' H' D I' q
 |ret v=>exact q
 |brk=>exact q
 |cont=>exact q
theorem a0i(h1:PS X st t):PSs X [st] t:=by
 intro pins s σ H D I h;refine wpAny_execs_cons (thn (h1 pins s σ H D I h) λf s1 q=>?_);cases f with
 |next=>exact Vk q
 |ret v=>exact q
 |brk=>exact q
 |cont=>exact q
theorem Inv.quiet{pins:List (Addr×Obj)}{σ:St}{H:Hp}{s:Shared}(I:Inv X pins σ H s):interactive X.env=false:=by simp[interactive,I.ok.kind]
def tDrop(te:TE):TS:=λD σ H=>te σ H λ_ H1=>D.nx σ H1
theorem a2f(he:PE X e te)(hs:swapsWith e none pos.line X.env=pure false:=by rfl):PS X (.Expr e pos) (tDrop te):=by
 intro pins s σ H D I h;exact wpAny_Expr_any (thn (he pins s σ H _ I h) λv s1 ⟨x,H1,I1,r1,q1⟩=>⟨σ,H1,I1,q1⟩) I.quiet hs
def tRet(te:TE):TS:=λD σ H=>te σ H D.rt
theorem a0t(he:PE X e te):PS X (.Return (some e) pos) (tRet te):=by
 intro pins s σ H D I h;exact wpAny_Return_some (thn (he pins s σ H _ I h) λv s1 ⟨x,H1,I1,r1,q1⟩=>⟨x,σ,H1,I1,r1,q1⟩)
def tIfS(c:TT)(t u:TS):TS:=λD σ H=>c σ H λb H1=>if b=true then t D σ H1 else u D σ H1
theorem a0y{c:Expr}{a b:List Stmt}{tc:TT}(hc:PT X c tc)(ha:PSs X a t)(hb:PSs X b u):PS X (.If c a b pos) (tIfS tc t u):=by
 intro pins s σ H D I h;refine wpAny_If (thn (hc pins s σ H _ I h) λd s1 z9=>?_);obtain⟨H1,I1,q1⟩:=z9;cases d with
 |true=>exact ha pins s1 σ H1 D I1 q1
 |false=>exact hb pins s1 σ H1 D I1 q1
def tNever:TS:=λ_ _ _=>False
theorem a9g:PS X st tNever:=λ_ _ _ _ _ _ h=>h.elim
end
abbrev TG:=V->St->Hp->(St->Hp->Prop)->Prop
abbrev TGs:=List V->St->Hp->(St->Hp->Prop)->Prop
def PG(X:Cx)(target:Expr)(t:TG):Prop:=
 ∀(pins:List (Addr×Obj))(s:Shared)(σ:St)(H:Hp)(v:V)(u:Value)(Q:St->Hp->Prop),Inv X pins σ H s->RelV v u->t v σ H Q->
  wpAny (model X.prog X.w) X.A (assign target X.env u) (λ_ s'=>∃σ' H',Inv X pins σ' H' s'/\Q σ' H') X.xe s
def PGs(X:Cx)(ts:List Expr)(t:TGs):Prop:=
 ∀(pins:List (Addr×Obj))(s:Shared)(σ:St)(H:Hp)(vs:List V)(us:List Value)(Q:St->Hp->Prop),Inv X pins σ H s->Vals vs us->t vs σ H Q->
  wpAny (model X.prog X.w) X.A (assignInOrder ((assignEach ts X.env).map (·.2)) us) (λ_ s'=>∃σ' H',Inv X pins σ' H' s'/\Q σ' H') X.xe s
abbrev TSet:=V->V->V->Hp->(Hp->Prop)->Prop
def PSet(X:Cx)(t:TSet):Prop:=
 ∀(pins:List (Addr×Obj))(s:Shared)(σ:St)(H:Hp)(o i v:V)(ov iv u:Value)(Q:Hp->Prop),Inv X pins σ H s->RelV o ov->RelV i iv->RelV v u->t o i v H Q->
  wpAny (model X.prog X.w) X.A (setItem ov iv u) (λ_ s'=>∃H',Inv X pins σ H' s'/\Q H') X.xe s
section
variable{X:Cx}{pos:Pos}
def b3u(i:Nat):TG:=λv σ H Q=>Q (σ.set i (some v)) H
theorem a1w{i:Nat}{x:Str}(hN:X.N.Nodup)(hi:X.N[i]? =some x)(hx:Loc X.env.scope x)(hf:X.fn x=true\/X.env.scope.names.lookup x=some .local:=by first|exact .inl rfl|exact .inr rfl|assumption):PG X (.Name x pos) (b3u i):=by
 intro pins s σ H v u Q I r h;exact Uw (b2u I hN hi hx r (λs' I'=>⟨_,H,I',h⟩) hf)
def gNil:TGs:=λvs σ H Q=>vs=[]/\Q σ H
def gCons(t:TG)(u:TGs):TGs:=λvs σ H Q=>∃v r,vs=v::r/\t v σ H λσ' H'=>u r σ' H' Q
theorem b1n:PGs X [] gNil:=by
 intro pins s σ H vs us Q I r h;obtain⟨e,h⟩:=h;subst e;cases r;exact assignInOrder_nil ⟨σ,H,I,h⟩
theorem a3y{e:Expr}{es:List Expr}{t:TG}{u:TGs}(h1:PG X e t)(h2:PGs X es u)
  (hs:(assignEach (e::es) X.env).map (·.2)=assign e X.env::(assignEach es X.env).map (·.2):=by rfl):PGs X (e::es) (gCons t u):=by
 intro pins s σ H vs us Q I r h;obtain⟨v,vr,e1,h⟩:=h;subst e1;cases r with
 |cons r rr=>
  rw[hs];refine assignInOrder_cons (thn (h1 pins s σ H _ _ _ I r h) λ_ s1 z9=>?_);obtain⟨σ1,H1,I1,q1⟩:=z9;exact h2 pins s1 σ1 H1 _ _ Q I1 rr q1
def gTup(K:W.Frag)(n:Nat)(t:TGs):TG:=λv σ H Q=>∃a xs,v=.ref a/\SqT K H a xs/\xs.length=n/\t xs σ H Q
theorem pg_tup{es:List Expr}{k:Nat}{t:TGs}{n:Nat}(hc:X.calm=true)(h:PGs X es t)
  (hn:(assignEach es X.env).length=n:=by rfl)(hst:(assignEach es X.env).findIdx? (·.1)=none:=by rfl):PG X (.Tuple es k pos) (gTup X.K n t):=by
 intro pins s σ H v u Q I r hw;obtain⟨a,xs,e1,hq,hl,hw⟩:=hw;subst e1;cases r;obtain⟨its,rv,ht,hz⟩:=I.tuple hq;refine assign_Tuple_tuple (I.ok.hd hc) ht (by simp[hn,<-hl,rv.length]) hst λh' hx=>?_
 have I1:Inv X pins σ H { s with heap:=h'}:=I.kept (t':=s.toks) λb o e=>hx b o (Z0 (Zl e)) e
 exact h pins _ σ H xs _ Q I1 (by simpa using rv) hw
def gSub(to ti:TE)(t:TSet):TG:=λv σ H Q=>to σ H λo H1=>ti σ H1 λi H2=>t o i v H2 λH3=>Q σ H3
theorem a4n{o i:Expr}{to ti:TE}{t:TSet}(ho:PE X o to)(hi:PE X i ti)(hs:PSet X t)
  (ha:∀v,assign (.Subscript o i pos) X.env v=(do
   let ov <-holding [v] (eval o X.env)
   let iv <-holding [v,ov] (eval i X.env)
   standAt pos
   holding [v,ov,iv] (setItem ov iv v)
   release [v,ov,iv] []):=by intro _;rfl):PG X (.Subscript o i pos) (gSub to ti t):=by
 intro pins s σ H v u Q I r h;rw[ha];refine Zb (Xm (thn (ho pins s σ H _ I h) λov s1 z9=>?_));obtain⟨x,H1,I1,r1,q1⟩:=z9;refine Zb (Xm (thn (hi pins s1 σ H1 _ I1 q1) λiv s2 z9=>?_));obtain⟨y,H2,I2,r2,q2⟩:=z9;refine Zb (Tl (Zb (Xm (thn (hs pins s2 σ H2 x y v ov iv u _ I2 r1 r2 r q2) λ_ s3 z9=>?_))));obtain⟨H3,I3,q3⟩:=z9;exact wpAny_release ⟨σ,H3,I3,q3⟩
def tAsg(te:TE)(g:TG):TS:=λD σ H=>te σ H λx H1=>g x σ H1 D.nx
theorem a3q{tg e:Expr}{te:TE}{g:TG}(he:PE X e te)(hg:PG X tg g)(hs:swapsWithSole [tg] e pos.line X.env=pure false:=by rfl)(hw:swappedStores [tg] e X.env=pure none:=by rfl)
  (h1:(assignEach [tg] X.env).map (·.2)=[assign tg X.env]:=by rfl):PS X (.Assign [tg] e pos) (tAsg te g):=by
 intro pins s σ H D I h;refine wpAny_Assign_stores (thn (he pins s σ H _ I h) λv s1 ⟨x,H1,I1,r1,q1⟩=>?_) hs hw;rw[h1];exact thn (hg pins s1 σ H1 x v _ I1 r1 q1) λ_ s2 q=>q
theorem a0s{i:Nat}{x:Str}{e:Expr}{te:TE}{pos':Pos}(hN:X.N.Nodup)(hi:X.N[i]? =some x)(hx:Loc X.env.scope x)(he:PE X e te)(hs:swapsWith e (some (.Name x pos')) pos.line X.env=pure false:=by rfl)(hf:X.fn x=true\/X.env.scope.names.lookup x=some .local:=by first|exact .inl rfl|exact .inr rfl|assumption):
  PS X (.Assign [.Name x pos'] e pos) (tAsg te (b3u i)):=by
 intro pins s σ H D I h;refine wpAny_Assign_Name (thn (he pins s σ H _ I h) λv s1 ⟨y,H1,I1,r1,q1⟩=>?_) hs;exact b2u I1 hN hi hx r1 (λs2 I2=>⟨_,H1,I2,q1⟩) hf
end
section
variable{X:Cx}{pos:Pos}
def b7e(c:TT)(tb:TS):TS:=λD σ H=>∃W:Nat->St->Hp->Prop,(∃m,W m σ H)/\∀m σ H,W m σ H->
 c σ H λb H1=>if b=true then ∃N:St->Hp->Prop,(∀σ' H',N σ' H'->∃m',m'<m/\W m' σ' H')/\tb { D with nx:=N,ct:=N,bk:=D.nx} σ H1 else D.nx σ H1
theorem b2w{c:Expr}{body:List Stmt}{tc:TT}{tb:TS}(hp:PassesOwn (model X.prog X.w) X.A X.env X.xe)(hc:PT X c tc)(hb:PSs X body tb):PS X (.While c body [] pos) (b7e tc tb):=by
 intro pins s σ H D I h;obtain⟨W,⟨m0,w0⟩,turn⟩:=h;refine wpAny_While (codeAny_whileLoop (λn s'=>∃σ' H',Inv X pins σ' H' s'/\W n σ' H') ?_ m0 ⟨σ,H,I,w0⟩)
 rintro n s1 ⟨σ1,H1,I1,w1⟩
 refine Wo hp (thn (hc pins s1 σ1 H1 _ I1 (turn n σ1 H1 w1)) λb s2 z9=>?_);obtain⟨H2,I2,q2⟩:=z9;cases b with
 |true=>
  obtain⟨N,hN,q2⟩:=q2;rw[if_pos rfl];refine Wo hp (thn (hb pins s2 σ1 H2 _ I2 q2) λf s3 q3=>?_);cases f with
  |next=>
   obtain⟨σ3,H3,I3,n3⟩:=q3;obtain⟨m',hm,w3⟩:=hN σ3 H3 n3;exact⟨m',hm,σ3,H3,I3,w3⟩
  |cont=>
   obtain⟨σ3,H3,I3,n3⟩:=q3;obtain⟨m',hm,w3⟩:=hN σ3 H3 n3;exact⟨m',hm,σ3,H3,I3,w3⟩
  |brk=>exact q3
  |ret v=>exact q3
 |false=>
  rw[if_neg Zn];exact Vk ⟨σ1,H2,I2,q2⟩
end
structure It where
 go:Nat->Hp->Prop
 yld:Nat->Hp->V->Hp->Prop
 stop:Nat->Hp->Prop
def FpOk(X:Cx)(pins:List (Addr×Obj))(H:Hp)(b:Addr):Prop:=
 H b=none/\b≠X.env.locals/\b∉X.fs/\(b∈X.ex\/X.s₀.heap.objs.size<=b)/\(∀x c,X.env.cells.lookup x=some c->c≠b)/\∀p∈X.pn++pins,p.1≠b
theorem Inv.fpOk{X:Cx}{pins:List (Addr×Obj)}{σ:St}{H H':Hp}{s:Shared}{b:Addr}(I:Inv X pins σ H s)(hb:s.heap.objs.size<=b)(hn:H' b=none):FpOk X pins H' b:=by
 refine⟨hn,Xb (Z6 I.lt hb),I.nofs hb,.inr (Yk I.sz hb),λx c e z=>?_,λp hp z=>?_⟩
 ·obtain⟨v,q⟩:=I.cell x c e;exact absurd (Z6 q.lt (by rw[z];exact hb)) (Y5 _)
 ·exact absurd (Z6 (Zl (I.pin p hp).1) (by rw[z];exact hb)) (Y5 _)
structure Turn(P:Program)(w:World)(K:W.Frag)(tg:Expr)(J:It)(fp:List Addr)(it:Addr)(tn:Nat->Heap->Prop):Prop where
 mem:it∈fp
 obj:∀i h,tn i h->∀b∈fp,∃o,h.get? b=some o/\∀v,o.data≠.cell v
 keep:∀i h h',tn i h->(∀b∈fp,∀o,h.get? b=some o->h'.get? b=some o)->tn i h'
 item:∀(X:Cx),X.prog=P->X.w=w->X.K=K->X.calm=true->∀(i:Nat)(pins:List (Addr×Obj))(s:Shared)(σ:St)(H:Hp)(E:Value->Shared->Prop),Inv X pins σ H s->(∀b∈fp,FpOk X pins H b)->tn i s.heap->J.go i H->
  wpAny (model P w) X.A (pyNext (.ref it)) (λr s1=>∃u,r=some u/\
   wpAny (model P w) X.A (letOwnedTupleGo tg (.ref it) u) (λ_ s2=>∃x H',Inv X pins σ H' s2/\RelV x u/\J.yld i H x H'/\tn (i+1) s2.heap/\∀b∈fp,H' b=none) E s1) E s
 done:∀(X:Cx),X.prog=P->X.w=w->X.K=K->X.calm=true->∀(i:Nat)(pins:List (Addr×Obj))(s:Shared)(σ:St)(H:Hp)(E:Value->Shared->Prop),Inv X pins σ H s->(∀b∈fp,FpOk X pins H b)->tn i s.heap->J.stop i H->
  wpAny (model P w) X.A (pyNext (.ref it)) (λr s1=>r=none/\Inv X pins σ H s1) E s
 self:∀(A:Around)(i:Nat)(s:Shared)(Q:Value->Shared->Prop)(E:Value->Shared->Prop),tn i s.heap->Q (.ref it) s->wpAny (model P w) A (pyIter (.ref it)) Q E s
abbrev TI:=St->Hp->(It->Hp->Prop)->Prop
def PIE(X:Cx)(pins:List (Addr×Obj))(σ:St)(tg:Expr)(R:It->Hp->Prop)(itv:Value)(s2:Shared):Prop:=
 ∃(it:Addr)(fp:List Addr)(tn:Nat->Heap->Prop)(J:It)(H':Hp),itv=.ref it/\Inv X pins σ H' s2/\Turn X.prog X.w X.K tg J fp it tn/\tn 0 s2.heap/\(∀b∈fp,FpOk X pins H' b)/\R J H'
def PI(X:Cx)(tg iter:Expr)(wi:TI):Prop:=
 ∀(pins:List (Addr×Obj))(s:Shared)(σ:St)(H:Hp)(R:It->Hp->Prop),Inv X pins σ H s->wi σ H R->
  wpAny (model X.prog X.w) X.A (eval iter X.env) (λv s1=>wpAny (model X.prog X.w) X.A (pyIter v) (PIE X pins σ tg R) X.xe s1) X.xe s
theorem b6v{M:Model}{A:Around}{E:Value->Shared->Prop}{s:Shared}{tg:Expr}{it:Addr}{u:Value}{o:Obj}{n:String}{vs:Array Value}{Q:Unit->Shared->Prop}(ho:s.heap.get? it=some o)(hc:o.cls=.type n)(hd:o.data=.fields vs)
  (hn:["enumerate","zip","dict_itemiterator","dict_reverseitemiterator","odict_iterator","itertools.zip_longest","itertools.pairwise"].contains n=false)(hQ:Q () s):wpAny M A (letOwnedTupleGo tg (.ref it) u) Q E s:=by
 unfold letOwnedTupleGo;cases tg<;>first
  |exact Ze hQ
  | (cases u<;>first
    |exact Ze hQ
    | (refine Zb (wpAny_load ho ?_)
       rw[hc,hd]
       show wpAny M A (if(["enumerate","zip","dict_itemiterator","dict_reverseitemiterator","odict_iterator","itertools.zip_longest","itertools.pairwise"].contains n&&vs[0]? ==some (rawInt _))=true then _ else _) Q E s
       rw[if_neg (by intro h;rw[hn,Yp]at h;cases h)]
       exact Ze hQ))
def Itl(K:W.Frag)(a:Addr):It:=
 ⟨λi H=>∃xs x,SqL K H a xs/\xs[i]? =some x,λi H x H'=>H'=H/\∀xs,SqL K H a xs->xs[i]? =some x,λi H=>∃xs,SqL K H a xs/\xs.length<=i⟩
def Itt(K:W.Frag)(a:Addr):It:=
 ⟨λi H=>∃xs x,SqT K H a xs/\xs[i]? =some x,λi H x H'=>H'=H/\∀xs,SqT K H a xs->xs[i]? =some x,λi H=>∃xs,SqT K H a xs/\xs.length<=i⟩
def Itr(lo:Int)(n:Nat):It:=⟨λi _=>i<n,λi H x H'=>H'=H/\x=.int (lo+i),λi _=>n<=i⟩
theorem b5r{P:Program}{w:World}{K:W.Frag}{tg:Expr}(a it:Addr):Turn P w K tg (Itl K a) [it] it (λi h=>h.IsListIter it a i) where
 mem:=by simp
 obj:=λi h st b hb=>by
  have e:b=it:=by simpa using hb
  subst e;obtain⟨o,e,c,d⟩:=st;exact⟨o,e,λv z=>by rw[d]at z;cases z⟩
 keep:=λi h h' st k=>st.at λo e=>k it qz o e
 item:=by
  intro X hP hw hK hc i pins s σ H E I hf st hg;subst hP hw hK;obtain⟨xs,x,hq,hx⟩:=hg;obtain⟨its,rv,p,hz⟩:=I.list hq;obtain⟨u,hu,ru⟩:=rv.get hx;obtain⟨f0,f1,f2,f3,f4,f5⟩:=hf it qz;refine wpAny_pyNext_list_item st p.isList (x:=u) (by simpa using hu) λh' st' sb=>?_
  have I1:Inv X pins σ H { s with heap:=h'}:=I.turned (t':=s.toks) (λb o hb e=>(sb.2 b hb).trans e) f0 f1 f3 f4 f5;obtain⟨o,e,c,d⟩:=id st';exact⟨u,rfl,b6v (s:={ s with heap:=h'}) e c d qd ⟨x,H,I1,ru,⟨rfl,λys hy=>by rw[I.list_inj hy hq];exact hx⟩,st',λb hb=>(hf b hb).1⟩⟩
 done:=by
  intro X hP hw hK hc i pins s σ H E I hf st hg;subst hP hw hK;obtain⟨xs,hq,hx⟩:=hg;obtain⟨its,rv,p,hz⟩:=I.list hq;obtain⟨f0,f1,f2,f3,f4,f5⟩:=hf it qz;have hl:=rv.length;exact wpAny_pyNext_list_end (I.ok.hd hc) st p.isList (by simp;omega) λh' eb=>⟨rfl,I.turned (t':=s.toks) (λb o hb e=>eb b o hb e) f0 f1 f3 f4 f5⟩
 self:=λ_ _ _ _ _ st h=>wpAny_pyIter_listiter st h
theorem b3v{P:Program}{w:World}{K:W.Frag}{tg:Expr}(a it:Addr):Turn P w K tg (Itt K a) [it] it (λi h=>h.IsTupleIter it a i) where
 mem:=by simp
 obj:=λi h st b hb=>by
  have e:b=it:=by simpa using hb
  subst e;obtain⟨o,e,c,d⟩:=st;exact⟨o,e,λv z=>by rw[d]at z;cases z⟩
 keep:=λi h h' st k=>st.at λo e=>k it qz o e
 item:=by
  intro X hP hw hK hc i pins s σ H E I hf st hg;subst hP hw hK;obtain⟨xs,x,hq,hx⟩:=hg;obtain⟨its,rv,p,hz⟩:=I.tuple hq;obtain⟨u,hu,ru⟩:=rv.get hx;obtain⟨f0,f1,f2,f3,f4,f5⟩:=hf it qz;refine wpAny_pyNext_tuple_item st (show s.heap.IsTuple a its.toArray from p) (x:=u) (by simpa using hu) λh' st' sb=>?_
  have I1:Inv X pins σ H { s with heap:=h'}:=I.turned (t':=s.toks) (λb o hb e=>(sb.2 b hb).trans e) f0 f1 f3 f4 f5;obtain⟨o,e,c,d⟩:=id st';exact⟨u,rfl,b6v (s:={ s with heap:=h'}) e c d qd ⟨x,H,I1,ru,⟨rfl,λys hy=>by rw[I.tuple_inj hy hq];exact hx⟩,st',λb hb=>(hf b hb).1⟩⟩
 done:=by
  intro X hP hw hK hc i pins s σ H E I hf st hg;subst hP hw hK;obtain⟨xs,hq,hx⟩:=hg;obtain⟨its,rv,p,hz⟩:=I.tuple hq;obtain⟨f0,f1,f2,f3,f4,f5⟩:=hf it qz;have hl:=rv.length;exact wpAny_pyNext_tuple_end (I.ok.hd hc) st (show s.heap.IsTuple a its.toArray from p) (by simp;omega) λh' eb=>⟨rfl,I.turned (t':=s.toks) (λb o hb e=>eb b o hb e) f0 f1 f3 f4 f5⟩
 self:=λ_ _ _ _ _ st h=>wpAny_pyIter_tupleiter st h
theorem c1g{P:Program}{w:World}{K:W.Frag}{tg:Expr}(it:Addr)(lo:Int)(n:Nat):Turn P w K tg (Itr lo n) [it] it (λi h=>IsRangeIter h it (lo+(i:Nat)*1) ((n:Int)-(i:Nat)) 1) where
 mem:=by simp
 obj:=λi h st b hb=>by
  have e:b=it:=by simpa using hb
  subst e
  exact⟨_,st,λv z=>by
   have z':Data.fields _=Data.cell v:=z
   cases z'⟩
 keep:=λi h h' st k=>k it qz _ st
 item:=by
  intro X hP hw hK hc i pins s σ H E I hf st hg;subst hP hw hK;obtain⟨f0,f1,f2,f3,f4,f5⟩:=hf it qz;have W:=Walks.range (prog:=X.prog) (w:=X.w) (I.ok.hd hc) it lo 1 n;refine W.item i s _ _ hg st λv h' tk hv st' kk=>?_
  obtain⟨t,rfl⟩:=hv;have I1:Inv X pins σ H { s with heap:=h',toks:=tk}:=I.turned (λb o hb e=>kk b o (by simpa using hb) e) f0 f1 f3 f4 f5;refine⟨_,rfl,b6v (s:={ s with heap:=h',toks:=tk}) (n:="range_iterator") st' rfl rfl qd ⟨.int (lo+i),H,I1,⟨t,?_⟩,⟨rfl,rfl⟩,st',λb hb=>(hf b hb).1⟩⟩;rw[Int.mul_one]
 done:=by
  intro X hP hw hK hc i pins s σ H E I hf st hg;subst hP hw hK;obtain⟨f0,f1,f2,f3,f4,f5⟩:=hf it qz;exact wpAny_pyNext_range_end (I.ok.hd hc) st (by have:n<=i:=hg;omega) λh' eb=>⟨rfl,I.turned (t':=s.toks) (λb o hb e=>eb b o hb e) f0 f1 f3 f4 f5⟩
 self:=λ_ _ _ _ _ st h=>wpAny_pyIter_rangeiter st h
section
variable{X:Cx}{tg:Expr}
def iList(K:W.Frag)(tl:TE):TI:=λσ H R=>tl σ H λx H1=>∃a,x=.ref a/\(∃xs,SqL K H1 a xs)/\R (Itl K a) H1
def iTup(K:W.Frag)(tl:TE):TI:=λσ H R=>tl σ H λx H1=>∃a,x=.ref a/\(∃xs,SqT K H1 a xs)/\R (Itt K a) H1
theorem pi_list{l:Expr}{tl:TE}(hl:PE X l tl):PI X tg l (iList X.K tl):=by
 intro pins s σ H R I h;refine thn (hl pins s σ H _ I h) λv s1 z9=>?_
 obtain⟨x,H1,I1,r1,q1⟩:=z9;obtain⟨a,e,⟨xs,hq⟩,q⟩:=q1;subst e;cases r1;obtain⟨its,rv,p,hz⟩:=I1.list hq;refine W8 p.isList ?_;refine⟨s1.heap.objs.size,[s1.heap.objs.size],_,_,H1,rfl,I1.kept (t':=s1.toks) λb o e=>Zc _ e,b5r a _,⟨_,Zj _ rfl,rfl,rfl⟩,λb hb=>?_,q⟩;have e:b=s1.heap.objs.size:=by simpa using hb
 subst e;exact I1.fpOk (Zh _) (I1.hok.fresh (Zh _))
theorem pi_tup{l:Expr}{tl:TE}(hl:PE X l tl):PI X tg l (iTup X.K tl):=by
 intro pins s σ H R I h;refine thn (hl pins s σ H _ I h) λv s1 z9=>?_
 obtain⟨x,H1,I1,r1,q1⟩:=z9;obtain⟨a,e,⟨xs,hq⟩,q⟩:=q1;subst e;cases r1;obtain⟨its,rv,p,hz⟩:=I1.tuple hq;refine W3 (show s1.heap.IsTuple a its.toArray from p) ?_;refine⟨s1.heap.objs.size,[s1.heap.objs.size],_,_,H1,rfl,I1.kept (t':=s1.toks) λb o e=>Zc _ e,b3v a _,⟨_,Zj _ rfl,rfl,rfl⟩,λb hb=>?_,q⟩;have e:b=s1.heap.objs.size:=by simpa using hb
 subst e;exact I1.fpOk (Zh _) (I1.hok.fresh (Zh _))
theorem c6k{pins:List (Addr×Obj)}{σ:St}{H:Hp}{s:Shared}{R:It->Hp->Prop}{E:Value->Shared->Prop}{lo hi:Int}{t u v:Tok}{tk:Nat}(I:Inv X pins σ H s)(h1:-(2^62)<=lo)(h2:lo<2^62)(h3:-(2^62)<=hi)(h4:hi<2^62)
  (q:R (Itr lo (hi-lo).toNat) H):wpAny (model X.prog X.w) X.A (pyIter (.ref s.heap.objs.size)) (PIE X pins σ tg R) E { s with heap:=s.heap.push { cls:=.type "range",data:=.fields #[.int lo t,.int hi u,.int 1 v]},toks:=tk}:=by
 refine wpAny_pyIter_range (IsRange.new ..) (small_one h1 h2 h3 h4) ?_;have I1:Inv X pins σ H { s with heap:=s.heap.push { cls:=.type "range",data:=.fields #[.int lo t,.int hi u,.int 1 v]},toks:=tk}:=I.kept λb o e=>Zc _ e
 refine⟨(s.heap.push { cls:=.type "range",data:=.fields #[.int lo t,.int hi u,.int 1 v]}).objs.size,[(s.heap.push { cls:=.type "range",data:=.fields #[.int lo t,.int hi u,.int 1 v]}).objs.size],_,_,H,rfl,
  I1.kept (t':=tk) λb o e=>Zc _ e,c1g _ lo (hi-lo).toNat,?_,λb hb=>?_,q⟩
 ·have e1:lo+((0:Nat):Int)*1=lo:=by simp
  have e2:(((hi-lo).toNat:Nat):Int)-((0:Nat):Int)=Builtin.Range.rangeSize lo hi 1:=by rw[rangeSize_one];split<;>omega
  show IsRangeIter _ _ (lo+((0:Nat):Int)*1) ((((hi-lo).toNat:Nat):Int)-((0:Nat):Int)) 1
  rw[e1,e2];exact Zj _ rfl
 ·have e:b=(s.heap.push { cls:=.type "range",data:=.fields #[.int lo t,.int hi u,.int 1 v]}).objs.size:=by simpa using hb
  subst e;exact I1.fpOk (Zh _) (I1.hok.fresh (Zh _))
def iRng1(ta:TA):TI:=λσ H R=>ta σ H λvs H1=>∃j:Int,vs=[.int j]/\-(2^62)<=j/\j<2^62/\R (Itr 0 j.toNat) H1
theorem a1n{a:Expr}{ta:TA}{p pos:Pos}(hg:Gl X "range")(hm:X.mg "range"=none)(ha:PA X [a] ta)(hs:starEach [a] X.env=[(false,eval a X.env)]:=by rfl):PI X tg (.Call (.Name "range" p) [a] [] pos) (iRng1 ta):=by
 intro pins s σ H R I h;refine Call_ (a5c I hg hm boot_range (Ys (thn (ha pos pins s σ H _ I h) λus s1 ⟨vs,H1,I1,r1,q1⟩=>?_) hs rfl));obtain⟨j,e,q1,q2,q⟩:=q1;subst e;cases r1 with
 |cons r rr=>
  cases rr;obtain⟨t,rfl⟩:=r;exact call_range_1 (c6k I1 qo qo q1 q2 (by simpa using q))
def tFor(wi:TI)(g:TG)(tb:TS):TS:=λD σ H=>wi σ H λJ H1=>∃W:Nat->Nat->St->Hp->Prop,(∃m,W 0 m σ H1)/\∀i m σ H,W i m σ H->
 (J.stop i H/\D.nx σ H)\/(J.go i H/\∃N:St->Hp->Prop,(∀σ' H',N σ' H'->∃m',m'<m/\W (i+1) m' σ' H')/\∀x H',J.yld i H x H'->g x σ H' λσ2 H2=>tb { D with nx:=N,ct:=N,bk:=D.nx} σ2 H2)
def a8q(fp:List Addr)(h:Heap):List (Addr×Obj):=fp.filterMap λb=>(h.get? b).map λo=>(b,o)
theorem a7c{fp:List Addr}{h:Heap}{b:Addr}{o:Obj}(hb:b∈fp)(e:h.get? b=some o):(b,o)∈a8q fp h:=Rg.mpr ⟨b,hb,by rw[e];rfl⟩
theorem c3g{fp:List Addr}{h:Heap}{p:Addr×Obj}(hp:p∈a8q fp h):p.1∈fp/\h.get? p.1=some p.2:=by
 obtain⟨b,hb,e⟩:=Rg.mp hp;cases q:h.get? b with
 |none=>rw[q]at e;cases e
 |some o=>
  rw[q]at e;have e':(b,o)=p:=Zk e;subst e';exact⟨hb,q⟩
theorem Inv.pinned{pins:List (Addr×Obj)}{σ:St}{H:Hp}{s:Shared}{fp:List Addr}(I:Inv X pins σ H s)(hf:∀b∈fp,FpOk X pins H b)(ho:∀b∈fp,∃o,s.heap.get? b=some o/\∀v,o.data≠.cell v):Inv X (pins++a8q fp s.heap) σ H s:=
 I.pins_of λp hp=>(Zx.mp hp).elim (λz=>I.pin p (Yu _ z)) λz=>by
  obtain⟨hb,e⟩:=c3g z;obtain⟨f0,f1,f2,_⟩:=hf p.1 hb;obtain⟨o,e',d⟩:=ho p.1 hb;rw[e]at e';cases e';exact⟨e,f0,f1,f2,d⟩
theorem Inv.unpinned{pins pl:List (Addr×Obj)}{σ:St}{H:Hp}{s:Shared}(I:Inv X (pins++pl) σ H s):Inv X pins σ H s:=I.pins_of λp hp=>I.pin p (Yu _ (Sk _ hp))
theorem a3r{iter:Expr}{body:List Stmt}{wi:TI}{g:TG}{tb:TS}{pos:Pos}(hp:PassesOwn (model X.prog X.w) X.A X.env X.xe)(hc:X.calm=true)(hi:PI X tg iter wi)(hg:PG X tg g)(hb:PSs X body tb)
  (hs:∀x,foldedSetIterable iter X.env x=pure x:=by intro _;rfl):PS X (.For tg iter body [] pos) (tFor wi g tb):=by
 intro pins s σ H D I h;refine wpAny_For (thn (hi pins s σ H _ I h) λv s1 h1=>thn h1 λitv s2 h2=>?_) hs;obtain⟨it,fp,tn,J,H2,e,I2,T,st2,f2,W,⟨m0,w0⟩,turn⟩:=h2;subst e;have stat:∀{H':Hp},(∀b∈fp,H' b=none)->∀b∈fp,FpOk X pins H' b:=λhn b hb=>⟨hn b hb,(f2 b hb).2⟩
 refine codeAny_forLoop_any (λn s'=>∃i σ' H',Inv X pins σ' H' s'/\tn i s'.heap/\(∀b∈fp,H' b=none)/\W i n σ' H') ?_ m0 ⟨0,σ,H2,I2,st2,λb hb=>(f2 b hb).1,w0⟩
 rintro n s3 ⟨i,σ3,H3,I3,st3,fr3,w3⟩
 rcases turn i n σ3 H3 w3 with⟨stop,qn⟩|⟨go,N,hN,step⟩
 ·refine Wo hp (thn (T.done X rfl rfl rfl hc i pins s3 σ3 H3 X.xe I3 (stat fr3) st3 stop) λr s4 ⟨hr,I4⟩=>?_);subst hr;exact Vk ⟨σ3,H3,I4,qn⟩
 ·refine Wo hp (thn (T.item X rfl rfl rfl hc i pins s3 σ3 H3 X.xe I3 (stat fr3) st3 go) λr s4 ⟨u,hr,h4⟩=>?_);subst hr;refine Wo hp (thn h4 λ_ s5 z9=>?_);obtain⟨x,H5,I5,r5,y5,st5,fr5⟩:=z9;have I5':=I5.pinned (stat fr5) (T.obj _ _ st5);refine Wo hp (thn (hg _ s5 σ3 H5 x u _ I5' r5 (step x H5 y5)) λ_ s6 z9=>?_);obtain⟨σ6,H6,I6,q6⟩:=z9;refine Wo hp (thn (hb _ s6 σ6 H6 _ I6 q6) λf s7 q7=>?_);have again:∀{σ7:St}{H7:Hp},Inv X (pins++a8q fp s5.heap) σ7 H7 s7->N σ7 H7->∃m,m<n/\∃i σ' H',Inv X pins σ' H' s7/\tn i s7.heap/\(∀b∈fp,H' b=none)/\W i m σ' H':=λ{σ7 H7} I7 n7=>by
   obtain⟨m',hm,w7⟩:=hN σ7 H7 n7;refine⟨m',hm,i+1,σ7,H7,I7.unpinned,T.keep _ _ _ st5 λb hb o e=>(I7.pin (b,o) (Yu _ (Yu _ (a7c hb e)))).1,λb hb=>?_,w7⟩;obtain⟨o,e,d⟩:=T.obj _ _ st5 b hb;exact(I7.pin (b,o) (Yu _ (Yu _ (a7c hb e)))).2.1
  cases f with
  |next=>obtain⟨σ7,H7,I7,n7⟩:=q7;exact again I7 n7
  |cont=>obtain⟨σ7,H7,I7,n7⟩:=q7;exact again I7 n7
  |brk=>obtain⟨σ7,H7,I7,q7⟩:=q7;exact⟨σ7,H7,I7.unpinned,q7⟩
  |ret v=>obtain⟨x7,σ7,H7,I7,r7,q7⟩:=q7;exact⟨x7,σ7,H7,I7.unpinned,r7,q7⟩
end
abbrev R2:=V->V->Hp->VK->Prop
def OpR(X:Cx)(f:Value->Value->Sem Value)(r:R2):Prop:=
 ∀(pins:List (Addr×Obj))(s:Shared)(σ:St)(H:Hp)(x y:V)(v u:Value)(Q:VK),Inv X pins σ H s->RelV x v->RelV y u->r x y H Q->
  wpAny (model X.prog X.w) X.A (f v u) (EP X pins σ Q) X.xe s
def UnR(X:Cx)(f:Value->Sem Value)(r:V->Hp->VK->Prop):Prop:=
 ∀(pins:List (Addr×Obj))(s:Shared)(σ:St)(H:Hp)(x:V)(v:Value)(Q:VK),Inv X pins σ H s->RelV x v->r x H Q->
  wpAny (model X.prog X.w) X.A (f v) (EP X pins σ Q) X.xe s
def a2k(X:Cx)(f:Value)(r:List V->Hp->VK->Prop):Prop:=
 ∀(pins:List (Addr×Obj))(s:Shared)(σ:St)(H:Hp)(xs:List V)(us:List Value)(Q:VK),Inv X pins σ H s->Vals xs us->r xs H Q->
  wpAny (model X.prog X.w) X.A (call f us) (EP X pins σ Q) X.xe s
def TruR(X:Cx)(r:V->Hp->(Bool->Hp->Prop)->Prop):Prop:=
 ∀(pins:List (Addr×Obj))(s:Shared)(σ:St)(H:Hp)(x:V)(v:Value)(Q:Bool->Hp->Prop),Inv X pins σ H s->RelV x v->r x H Q->
  wpAny (model X.prog X.w) X.A (truthy v) (TP X pins σ Q) X.xe s
def tOp(r:R2)(ta tb:TE):TE:=λσ H Q=>ta σ H λx H1=>tb σ H1 λy H2=>r x y H2 Q
def tUn(r:V->Hp->VK->Prop)(ta:TE):TE:=λσ H Q=>ta σ H λx H1=>r x H1 Q
def rI(C:Int->Int->Prop)(g:Int->Int->V):R2:=λx y H Q=>∃i j,x=.int i/\y=.int j/\C i j/\Q (g i j) H
def rI0(g:Int->Int->V):R2:=λx y H Q=>∃i j,x=.int i/\y=.int j/\Q (g i j) H
def rU(g:Int->V):V->Hp->VK->Prop:=λx H Q=>∃i,x=.int i/\Q (g i) H
section
variable{X:Cx}{a b c:Expr}{ta tb tc:TE}{pos:Pos}
theorem binT(ha:PE X a ta)(hb:PE X b tb){pins:List (Addr×Obj)}{s:Shared}{σ:St}{H:Hp}{R:V->V->Hp->Prop}(I:Inv X pins σ H s)
  (h:ta σ H λx H1=>tb σ H1 λy H2=>R x y H2){Q:Value->Shared->Prop}{f:Value->Value->Sem Value}
  (hf:∀v u s2 x y H2,Inv X pins σ H2 s2->RelV x v->RelV y u->R x y H2->wpAny (model X.prog X.w) X.A (f v u) Q X.xe s2):
  wpAny (model X.prog X.w) X.A (eval a X.env) (λv s₁=>wpAny (model X.prog X.w) X.A (eval b X.env) (λu s₂=>wpAny (model X.prog X.w) X.A (f v u) Q X.xe s₂) X.xe s₁) X.xe s:=by
 refine thn (ha pins s σ H _ I h) λv s1 z9=>?_
 obtain⟨x,H1,I1,r1,q1⟩:=z9;refine thn (hb pins s1 σ H1 _ I1 q1) λu s2 z9=>?_
 obtain⟨y,H2,I2,r2,q2⟩:=z9;exact hf v u s2 x y H2 I2 r1 r2 q2
theorem a0k{op:Operator}{r:R2}(ho:OpR X (binaryOp op) r)(ha:PE X a ta)(hb:PE X b tb):PE X (.BinOp a op b pos) (tOp r ta tb):=by
 intro pins s σ H Q I h;exact wpAny_BinOp (binT ha hb I h λv u s2 x y H2 I2 rx ry q=>ho pins s2 σ H2 x y v u Q I2 rx ry q)
theorem pe_un{op:UnaryOp}{r:V->Hp->VK->Prop}(ho:UnR X (unaryOp op) r)(ha:PE X a ta):PE X (.UnaryOp op a pos) (tUn r ta):=by
 intro pins s σ H Q I h;exact UnaryOp_ (thn (ha pins s σ H _ I h) λv s1 ⟨x,H1,I1,r1,q1⟩=>ho pins s1 σ H1 x v Q I1 r1 q1)
theorem opI{f:Value->Value->Sem Value}{C:Int->Int->Prop}{g:Int->Int->Int}
  (rule:∀(i j:Int)(t u:Tok)(s:Shared)(Q:Value->Shared->Prop)(E:Value->Shared->Prop),C i j->Q (.int (g i j) s.toks) { s with toks:=s.toks+1}->wpAny (model X.prog X.w) X.A (f (.int i t) (.int j u)) Q E s):
  OpR X f (rI C λi j=>.int (g i j)):=by
 intro pins s σ H x y v u Q I rx ry h;obtain⟨i,j,rfl,rfl,hc,q⟩:=h;obtain⟨t,rfl⟩:=rx;obtain⟨t',rfl⟩:=ry;exact rule i j t t' s _ _ hc ⟨.int (g i j),H,I.tok _,⟨_,rfl⟩,q⟩
theorem opI0{f:Value->Value->Sem Value}{g:Int->Int->Int}
  (rule:∀(i j:Int)(t u:Tok)(s:Shared)(Q:Value->Shared->Prop)(E:Value->Shared->Prop),Q (.int (g i j) s.toks) { s with toks:=s.toks+1}->wpAny (model X.prog X.w) X.A (f (.int i t) (.int j u)) Q E s):
  OpR X f (rI0 λi j=>.int (g i j)):=by
 intro pins s σ H x y v u Q I rx ry h;obtain⟨i,j,rfl,rfl,q⟩:=h;obtain⟨t,rfl⟩:=rx;obtain⟨t',rfl⟩:=ry;exact rule i j t t' s _ _ ⟨.int (g i j),H,I.tok _,⟨_,rfl⟩,q⟩
theorem opB0{f:Value->Value->Sem Value}{g:Int->Int->Bool}
  (rule:∀(i j:Int)(t u:Tok)(s:Shared)(Q:Value->Shared->Prop)(E:Value->Shared->Prop),Q (.bool (g i j)) s->wpAny (model X.prog X.w) X.A (f (.int i t) (.int j u)) Q E s):
  OpR X f (rI0 λi j=>.bl (g i j)):=by
 intro pins s σ H x y v u Q I rx ry h;obtain⟨i,j,rfl,rfl,q⟩:=h;obtain⟨t,rfl⟩:=rx;obtain⟨t',rfl⟩:=ry;exact rule i j t t' s _ _ ⟨.bl (g i j),H,I,rfl,q⟩
def CDiv(i j:Int):Prop:=0<j/\j<1073741824
def CPow(i j:Int):Prop:=0<=j/\j<=1000000/\i.natAbs<2^64
def CMul(i j:Int):Prop:=(-(2^64)<i/\i<2^64)\/(-(2^64)<j/\j<2^64)
theorem CMul.ok{i j:Int}(h:CMul i j):IntMulOk i j:=by
 rcases h with⟨h1,h2⟩|⟨h1,h2⟩
 ·exact .of_left (intBits_le_64 h1 h2)
 ·exact .of_right (intBits_le_64 h1 h2)
theorem op_add:OpR X (binaryOp .Add) (rI0 λi j=>.int (i+j)):=opI0 λ_ _ _ _ _ _ _ q=>add_int q
theorem op_sub:OpR X (binaryOp .Sub) (rI0 λi j=>.int (i-j)):=opI0 λ_ _ _ _ _ _ _ q=>sub_int q
theorem op_fdiv:OpR X (binaryOp .FloorDiv) (rI CDiv λi j=>.int (i/j)):=opI λi j _ _ _ _ _ hc q=>by
 have h1:(0:Int)<j:=hc.1;have h2:j<1073741824:=hc.2;exact floordiv_int qo (by rw[Int.fdiv_eq_ediv_of_nonneg i qo];exact q) (.inl (PyProof.noPylong_small qo))
theorem op_mod:OpR X (binaryOp .Mod) (rI (λ_ j=>0<j) λi j=>.int (i%j)):=opI λi j _ _ _ _ _ hc q=>by
 have h1:(0:Int)<j:=hc;exact mod_int' qo (by rw[Int.fmod_eq_emod_of_nonneg i qo];exact q)
theorem op_pow:OpR X (binaryOp .Pow) (rI CPow λi j=>.int (i^j.toNat)):=opI λ_ _ _ _ _ _ _ hc q=>pow_int_small hc.1 hc.2.1 hc.2.2 q
theorem unI{f:Value->Sem Value}{g:Int->Int}
  (rule:∀(i:Int)(t:Tok)(s:Shared)(Q:Value->Shared->Prop)(E:Value->Shared->Prop),Q (.int (g i) s.toks) { s with toks:=s.toks+1}->wpAny (model X.prog X.w) X.A (f (.int i t)) Q E s):
  UnR X f (rU λi=>.int (g i)):=by
 intro pins s σ H x v Q I rx h;obtain⟨i,rfl,q⟩:=h;obtain⟨t,rfl⟩:=rx;exact rule i t s _ _ ⟨.int (g i),H,I.tok _,⟨_,rfl⟩,q⟩
theorem un_neg:UnR X (unaryOp .USub) (rU λi=>.int (-i)):=unI λ_ _ _ _ _ q=>neg_int q
end
def scal:V->V->Bool
 | .non,.non=>true| .non,.int _=>true| .int _,.non=>true| .non,.bl _=>true| .bl _,.non=>true| .non,.str _=>true| .str _,.non=>true
 | .int _,.int _=>true| .bl _,.bl _=>true| .str _,.str _=>true| .byt _,.byt _=>true
 | .int _,.str _=>true| .str _,.int _=>true| .bl _,.str _=>true| .str _,.bl _=>true
 |_,_=>false
def rEq:R2:=λx y H Q=>scal x y=true/\Q (.bl (decide (x=y))) H
def rNe:R2:=λx y H Q=>scal x y=true/\Q (.bl (!decide (x=y))) H
theorem c0e{i j:Int}:decide (V.int i=V.int j)=(i==j):=by
 rw[We]
 simp
theorem c3h{i j:Bool}:decide (V.bl i=V.bl j)=(i==j):=by
 rw[We]
 simp
theorem c0f{i j:Str}:decide (V.str i=V.str j)=(i==j):=by
 rw[We]
 simp
theorem c0g{i j:Array UInt8}:decide (V.byt i=V.byt j)=(i.toList==j.toList):=by
 rw[We];cases i;cases j
 simp
section
variable{X:Cx}{a b c:Expr}{ta tb tc:TE}{pos:Pos}
theorem a1h{pins:List (Addr×Obj)}{σ:St}{H:Hp}{s:Shared}{Q:VK}{k k':Bool}(I:Inv X pins σ H s)(q:Q (.bl k) H)(e:k=k'):EP X pins σ Q (.bool k') s:=by
 subst e;exact⟨.bl k,H,I,rfl,q⟩
theorem op_eq:OpR X (compareOp .Eq) rEq:=by
 intro pins s σ H x y v u Q I rx ry h;obtain⟨hs,q⟩:=h;cases x with
 |non=>
  cases rx;cases y with
  |non=>cases ry;exact PySem.EqNone.eq_none_none (a1h I q qz)
  |bl j=>cases ry;exact PySem.EqNone.eq_none_bool (a1h I q qz)
  |int j=>obtain⟨t',rfl⟩:=ry;exact PySem.EqNone.eq_none_int (a1h I q qz)
  |str j=>obtain⟨t',rfl⟩:=ry;exact PySem.EqNone.eq_none_str (a1h I q qz)
  |_=>exact absurd (show false=true from hs) Zn
 |bl i=>
  cases rx;cases y with
  |non=>cases ry;exact PySem.EqNone.eq_bool_none (a1h I q qz)
  |bl j=>cases ry;exact eq_bool (a1h I q c3h)
  |str j=>obtain⟨t',rfl⟩:=ry;exact PySem.EqMixed.eq_bool_str (a1h I q qz)
  |_=>exact absurd (show false=true from hs) Zn
 |int i=>
  obtain⟨t,rfl⟩:=rx;cases y with
  |non=>cases ry;exact PySem.EqNone.eq_int_none (a1h I q qz)
  |int j=>obtain⟨t',rfl⟩:=ry;exact eq_int (a1h I q c0e)
  |str j=>obtain⟨t',rfl⟩:=ry;exact PySem.EqMixed.eq_int_str (a1h I q qz)
  |_=>exact absurd (show false=true from hs) Zn
 |str i=>
  obtain⟨t,rfl⟩:=rx;cases y with
  |non=>cases ry;exact PySem.EqNone.eq_str_none (a1h I q qz)
  |bl j=>cases ry;exact PySem.EqMixed.eq_str_bool (a1h I q qz)
  |int j=>obtain⟨t',rfl⟩:=ry;exact PySem.EqMixed.eq_str_int (a1h I q qz)
  |str j=>obtain⟨t',rfl⟩:=ry;exact eq_str (a1h I q c0f)
  |_=>exact absurd (show false=true from hs) Zn
 |byt i=>
  obtain⟨t,rfl⟩:=rx;cases y with
  |byt j=>obtain⟨t',rfl⟩:=ry;exact W.eq_bytes (a1h I q c0g)
  |_=>exact absurd (show false=true from hs) Zn
 |_=>cases y<;>exact absurd (show false=true from hs) Zn
theorem op_ne:OpR X (compareOp .NotEq) rNe:=by
 intro pins s σ H x y v u Q I rx ry h;obtain⟨hs,q⟩:=h;cases x with
 |non=>
  cases rx;cases y with
  |non=>cases ry;exact PySem.EqNone.ne_none_none (a1h I q qz)
  |bl j=>cases ry;exact PySem.EqNone.ne_none_bool (a1h I q qz)
  |int j=>obtain⟨t',rfl⟩:=ry;exact PySem.EqNone.ne_none_int (a1h I q qz)
  |str j=>obtain⟨t',rfl⟩:=ry;exact PySem.EqNone.ne_none_str (a1h I q qz)
  |_=>exact absurd (show false=true from hs) Zn
 |bl i=>
  cases rx;cases y with
  |non=>cases ry;exact PySem.EqNone.ne_bool_none (a1h I q qz)
  |bl j=>cases ry;exact ne_bool (a1h I q (Xj not c3h))
  |str j=>obtain⟨t',rfl⟩:=ry;exact PySem.EqMixed.ne_bool_str (a1h I q qz)
  |_=>exact absurd (show false=true from hs) Zn
 |int i=>
  obtain⟨t,rfl⟩:=rx;cases y with
  |non=>cases ry;exact PySem.EqNone.ne_int_none (a1h I q qz)
  |int j=>obtain⟨t',rfl⟩:=ry;exact ne_int (a1h I q (Xj not c0e))
  |str j=>obtain⟨t',rfl⟩:=ry;exact PySem.EqMixed.ne_int_str (a1h I q qz)
  |_=>exact absurd (show false=true from hs) Zn
 |str i=>
  obtain⟨t,rfl⟩:=rx;cases y with
  |non=>cases ry;exact PySem.EqNone.ne_str_none (a1h I q qz)
  |bl j=>cases ry;exact PySem.EqMixed.ne_str_bool (a1h I q qz)
  |int j=>obtain⟨t',rfl⟩:=ry;exact PySem.EqMixed.ne_str_int (a1h I q qz)
  |str j=>obtain⟨t',rfl⟩:=ry;exact ne_str (a1h I q (Xj not c0f))
  |_=>exact absurd (show false=true from hs) Zn
 |byt i=>
  obtain⟨t,rfl⟩:=rx;cases y with
  |byt j=>obtain⟨t',rfl⟩:=ry;exact W.ne_bytes (a1h I q (Xj not c0g))
  |_=>exact absurd (show false=true from hs) Zn
 |_=>cases y<;>exact absurd (show false=true from hs) Zn
theorem op_lt:OpR X (compareOp .Lt) (rI0 λi j=>.bl (decide (i<j))):=opB0 λ_ _ _ _ _ _ _ q=>lt_int q
theorem op_le:OpR X (compareOp .LtE) (rI0 λi j=>.bl (decide (i<=j))):=opB0 λ_ _ _ _ _ _ _ q=>le_int q
theorem op_gt:OpR X (compareOp .Gt) (rI0 λi j=>.bl (decide (j<i))):=opB0 λ_ _ _ _ _ _ _ q=>gt_int q
theorem c3i:OpR X (compareOp .In) (λx y H Q=>∃i j,x=.str i/\y=.str j/\Q (.bl (!(Builtin.Str.occurrences j i 0 j.length 1).isEmpty)) H):=by
 intro pins s σ H x y v u Q I rx ry h;obtain⟨i,j,rfl,rfl,q⟩:=h;obtain⟨t,rfl⟩:=rx;obtain⟨t',rfl⟩:=ry;exact in_str (a1h I q rfl)
theorem op_isN:OpR X (compareOp .Is) (λx y H Q=>y=.non/\Q (.bl (decide (x=.non))) H):=by
 intro pins s σ H x y v u Q I rx ry h;obtain⟨rfl,q⟩:=h;cases ry;refine is_none_gen (a1h I q ?_);cases x<;>first
  | (cases rx;rfl)
  | (obtain⟨t,rfl⟩:=rx;rfl)
theorem op_notN:OpR X (compareOp .IsNot) (λx y H Q=>y=.non/\Q (.bl (!decide (x=.non))) H):=by
 intro pins s σ H x y v u Q I rx ry h;obtain⟨rfl,q⟩:=h;cases ry;refine isnot_none_gen (a1h I q ?_);cases x<;>first
  | (cases rx;rfl)
  | (obtain⟨t,rfl⟩:=rx;rfl)
theorem OpR.or{f:Value->Value->Sem Value}{r r':R2}(h:OpR X f r)(h':OpR X f r'):OpR X f (λx y H Q=>r x y H Q\/r' x y H Q):=by
 intro pins s σ H x y v u Q I rx ry q;rcases q with q|q
 ·exact h pins s σ H x y v u Q I rx ry q
 ·exact h' pins s σ H x y v u Q I rx ry q
theorem a0l(b:Expr){op:CmpOp}(h:op≠.In:=by decide)(h2:op≠.NotIn:=by decide):behindInMarks op b=false:=by
 have e1:(op==CmpOp.In)=false:=by cases op<;>first|rfl|exact absurd rfl h
 have e2:(op==CmpOp.NotIn)=false:=by cases op<;>first|rfl|exact absurd rfl h2
 cases b<;>simp[behindInMarks,e1,e2]
theorem a1x{op:CmpOp}{r:R2}(ho:OpR X (compareOp op) r)(ha:PE X a ta)(hb:PE X b tb)(hm:behindInMarks op b=false):PE X (.Compare a [op] [b] pos) (tOp r ta tb):=by
 intro pins s σ H Q I h;exact wpAny_Compare1 (binT ha hb I h λv u s2 x y H2 I2 rx ry q=>ho pins s2 σ H2 x y v u Q I2 rx ry q) hm
def tTest(t:TE):TT:=λσ H Q=>t σ H λx H'=>∃k,x=.bl k/\Q k H'
theorem pt_cmpR{op:CmpOp}{r:R2}(ho:OpR X (compareOp op) r)(ha:PE X a ta)(hb:PE X b tb)(hm:behindInMarks op b=false):PT X (.Compare a [op] [b] pos) (tTest (tOp r ta tb)):=by
 intro pins s σ H Q I h
 refine wpAny_isTrue_Compare1 (thn (ha pins s σ H _ I h) λv s1 ⟨x,H1,I1,r1,q1⟩=>thn (hb pins s1 σ H1 _ I1 q1) λu s2 ⟨y,H2,I2,r2,q2⟩=>
  thn (ho pins s2 σ H2 x y v u _ I2 r1 r2 q2) λc s3 ⟨z,H3,I3,r3,k,e,q3⟩=>?_) hm
 subst e;cases r3;exact Xp ⟨H3,I3,q3⟩
def b3w(r r':R2)(ta tb tc:TE):TE:=λσ H Q=>ta σ H λx H1=>tb σ H1 λy H2=>r x y H2 λz H3=>∃k,z=.bl k/\
 (if k=true then tc σ H3 λw' H4=>r' y w' H4 Q else Q (.bl false) H3)
theorem c6l{op op':CmpOp}{r r':R2}(ho:OpR X (compareOp op) r)(ho':OpR X (compareOp op') r')(ha:PE X a ta)(hb:PE X b tb)(hc:PE X c tc)
  (hm:lastMarks [op,op'] [b,c]=false:=by with_unfolding_all rfl):PE X (.Compare a [op,op'] [b,c] pos) (b3w r r' ta tb tc):=by
 intro pins s σ H Q I h
 refine Compare_chain (thn (ha pins s σ H _ I h) λv s1 ⟨x,H1,I1,r1,q1⟩=>chain_link (thn (hb pins s1 σ H1 _ I1 q1) λu s2 ⟨y,H2,I2,r2,q2⟩=>
  thn (ho pins s2 σ H2 x y v u _ I2 r1 r2 q2) λd s3 ⟨z,H3,I3,r3,k,e,q3⟩=>?_)) hm
 subst e;cases r3;refine Xp ?_;cases k with
 |false=>exact ite_ff ⟨.bl false,H3,I3,rfl,q3⟩
 |true=>exact ite_tt (chain_last (thn (hc pins s3 σ H3 _ I3 q3) λw' s4 ⟨z',H4,I4,r4,q4⟩=>ho' pins s4 σ H4 y z' u w' Q I4 r2 r4 q4))
theorem c6m{op op':CmpOp}{r r':R2}(ho:OpR X (compareOp op) r)(ho':OpR X (compareOp op') r')(ha:PE X a ta)(hb:PE X b tb)(hc:PE X c tc)
  (hm:lastMarks [op,op'] [b,c]=false:=by with_unfolding_all rfl):PT X (.Compare a [op,op'] [b,c] pos) (tTest (b3w r r' ta tb tc)):=by
 intro pins s σ H Q I h
 refine isTrue_chain (thn (ha pins s σ H _ I h) λv s1 ⟨x,H1,I1,r1,q1⟩=>test_link (thn (hb pins s1 σ H1 _ I1 q1) λu s2 ⟨y,H2,I2,r2,q2⟩=>
  thn (ho pins s2 σ H2 x y v u _ I2 r1 r2 q2) λd s3 ⟨z,H3,I3,r3,k,e,q3⟩=>?_)) hm
 subst e;cases r3;refine Xp ?_;cases k with
 |false=>
  obtain⟨k',e',q'⟩:=q3;cases e';exact ite_ff ⟨H3,I3,q'⟩
 |true=>
  refine ite_tt (test_last (thn (hc pins s3 σ H3 _ I3 q3) λw' s4 ⟨z',H4,I4,r4,q4⟩=>thn (ho' pins s4 σ H4 y z' u w' _ I4 r2 r4 q4) λd' s5 z9=>?_));obtain⟨z2,H5,I5,r5,k2,e2,q5⟩:=z9;subst e2;cases r5;exact Xp ⟨H5,I5,q5⟩
def TruV(K:W.Frag)(x:V)(H:Hp)(k:Bool):Prop:=
 match x with
 | .non=>k=false
 | .bl b=>k=b
 | .int i=>k=(i !=0)
 | .str y=>y.length<=sizeLine/\k=((y.length:Int) !=0)
 | .byt y=>y.size<=sizeLine/\k=((y.size:Int) !=0)
 | .ref p=>(∃xs,SqL K H p xs/\k= !xs.isEmpty)\/(∃xs,SqT K H p xs/\k= !xs.isEmpty)\/∃kvs,H p=some (.dK kvs)/\k= !kvs.isEmpty
 |_=>False
theorem c1h{κ:Type}{kvs:List (κ×V)}{vs:List (κ×Value)}(r:KV kvs vs):(!vs.isEmpty)= !kvs.isEmpty:=by
 cases r<;>rfl
theorem b3x{xs:List V}{its:List Value}(r:Vals xs its):(!its.toArray.isEmpty)= !xs.isEmpty:=by
 cases r<;>simp
theorem a8r:(sizeLine:Nat)<2^63:=by rw[Yh];decide
theorem c3j:TruR X (λx H Q=>∃k,TruV X.K x H k/\Q k H):=by
 intro pins s σ H x v Q I rx h;obtain⟨k,e,q⟩:=h;have hl:=a8r;have hs:sizeLine=16777216:=Yh;cases x with
 |non=>
  cases rx;have e':k=false:=e;subst e';exact truthy_none ⟨H,I,q⟩
 |bl b=>
  cases rx;have e':k=b:=e;subst e';exact Xp ⟨H,I,q⟩
 |int i=>
  obtain⟨t,rfl⟩:=rx;have e':k=(i !=0):=e;subst e';exact PySem.P.truthy_int ⟨H,I,q⟩
 |str y=>
  obtain⟨t,rfl⟩:=rx;obtain⟨hy,e'⟩:y.length<=sizeLine/\k=((y.length:Int) !=0):=e;subst e';exact PySem.P.truthy_str qo ⟨H,I.tok _,q⟩
 |byt y=>
  obtain⟨t,rfl⟩:=rx;obtain⟨hy,e'⟩:y.size<=sizeLine/\k=((y.size:Int) !=0):=e;subst e';exact W.truthy_bytes qo ⟨H,I.tok _,q⟩
 |ref p=>
  cases rx;have e':(∃xs,SqL X.K H p xs/\k= !xs.isEmpty)\/(∃xs,SqT X.K H p xs/\k= !xs.isEmpty)\/∃kvs,H p=some (.dK kvs)/\k= !kvs.isEmpty:=e;rcases e' with⟨xs,hx,e'⟩|⟨xs,hx,e'⟩|⟨kvs,hx,e'⟩
  ·subst e';obtain⟨its,r,pl,hz⟩:=I.list hx;have hlen:=r.length;exact wpAny_truthy_list pl.isList (by simp only[Zd];omega) ⟨H,I.tok _,by rw[b3x r];exact q⟩
  ·subst e';obtain⟨its,r,pl,hz⟩:=I.tuple hx;have hlen:=r.length;exact truthy_tuple pl (by simp only[Zd];omega) ⟨H,I.tok _,by rw[b3x r];exact q⟩
  ·subst e';obtain⟨hz,hS,vs,r,m⟩:kvs.length<=sizeLine/\(p==sysModules)=false/\∃vs,KV kvs vs/\s.heap.DictOf (a1q X.prog X.w) p vs:=I.hok p _ hx;have hlen:kvs.length=vs.length:=V2 r;exact wpAny_truthy_dict hS m qo ⟨H,I.tok _,by rw[c1h r];exact q⟩
 |_=>exact(show False from e).elim
theorem c1i:OpR X (binaryOp .Add) (λx y H Q=>∃i j,x=.str i/\y=.str j/\i.length+j.length<=sizeLine/\Q (.str (i++j)) H):=by
 intro pins s σ H x y v u Q I rx ry h;obtain⟨i,j,rfl,rfl,hz,q⟩:=h;obtain⟨t,rfl⟩:=rx;obtain⟨t',rfl⟩:=ry;exact add_str (λt' tk=>⟨.str (i++j),H,I.tok _,⟨_,rfl⟩,q⟩) hz
theorem vals1{x:V}{us:List Value}(r:Vals [x] us):∃u,us=[u]/\RelV x u:=by
 cases r with
 |cons r1 r2=>cases r2;exact⟨_,rfl,r1⟩
theorem a8d{x y:V}{us:List Value}(r:Vals [x,y] us):∃u w',us=[u,w']/\RelV x u/\RelV y w':=by
 cases r with
 |cons r1 r2=>
  cases r2 with
  |cons r3 r4=>cases r4;exact⟨_,_,rfl,r1,r3⟩
theorem c3k(hc:X.calm=true):a2k X (.builtin "min") (λxs H Q=>∃i j,xs=[.int i,.int j]/\Q (.int (if j<i then j else i)) H):=by
 intro pins s σ H xs us Q I r h;obtain⟨i,j,rfl,q⟩:=h;obtain⟨u,w',rfl,⟨t,rfl⟩,⟨t',rfl⟩⟩:=a8d r;refine min_two_ints (I.ok.hd hc) λh' tk k=>⟨_,H,I.kept k,?_,q⟩
 by_cases hj:j<i
 ·rw[if_pos hj,if_pos hj];exact⟨_,rfl⟩
 ·rw[if_neg hj,if_neg hj];exact⟨_,rfl⟩
theorem c3l:a2k X (.type "int") (λxs H Q=>(∃i,xs=[.int i]/\Q (.int i) H)\/∃k,xs=[.bl k]/\Q (.int (if k then 1 else 0)) H):=by
 intro pins s σ H xs us Q I r h;rcases h with⟨i,rfl,q⟩|⟨k,rfl,q⟩
 ·obtain⟨u,rfl,t,rfl⟩:=vals1 r;exact call_int_int ⟨.int i,H,I,⟨_,rfl⟩,q⟩
 ·obtain⟨u,rfl,r1⟩:=vals1 r;cases r1;exact call_int_bool ⟨.int (if k then 1 else 0),H,I.tok _,⟨_,rfl⟩,q⟩
theorem b7f:a2k X (.type "str") (λxs H Q=>∃i,xs=[.int i]/\i.natAbs.log2<1920/\Q (.str (toString i)) H):=by
 intro pins s σ H xs us Q I r h;obtain⟨i,rfl,hz,q⟩:=h;obtain⟨u,rfl,t,rfl⟩:=vals1 r;exact PySem.P.str_of_int hz ⟨.str _,H,I.tok _,⟨_,rfl⟩,q⟩
def LenV(K:W.Frag)(x:V)(H:Hp)(n:Nat):Prop:=
 match x with
 | .str y=>y.length<=sizeLine/\n=y.length
 | .byt y=>y.size<=sizeLine/\n=y.size
 | .ref p=>(∃xs,SqL K H p xs/\n=xs.length)\/∃xs,SqT K H p xs/\n=xs.length
 |_=>False
theorem c6n:a2k X (.builtin "len") (λxs H Q=>∃x n,xs=[x]/\LenV X.K x H n/\Q (.int n) H):=by
 intro pins s σ H xs us Q I r h;obtain⟨x,n,rfl,e,q⟩:=h;obtain⟨u,rfl,rx⟩:=vals1 r;have hl:=a8r;have hs:sizeLine=16777216:=Yh;cases x with
 |str y=>
  obtain⟨t,rfl⟩:=rx;obtain⟨hy,e'⟩:y.length<=sizeLine/\n=y.length:=e;subst e';exact len_str qo ⟨.int _,H,I.tok _,⟨_,rfl⟩,q⟩
 |byt y=>
  obtain⟨t,rfl⟩:=rx;obtain⟨hy,e'⟩:y.size<=sizeLine/\n=y.size:=e;subst e';exact W.len_bytes qo ⟨.int _,H,I.tok _,⟨_,rfl⟩,q⟩
 |ref p=>
  cases rx;have e':(∃xs,SqL X.K H p xs/\n=xs.length)\/∃xs,SqT X.K H p xs/\n=xs.length:=e;rcases e' with⟨xs,hx,e'⟩|⟨xs,hx,e'⟩
  ·subst e';obtain⟨its,r',pl,hz⟩:=I.list hx;have hlen:=r'.length;exact Calls.call_len_list pl.isList (by simp only[Zd];omega) ⟨.int xs.length,H,I.tok _,⟨_,by simp only[Zd];rw[hlen]⟩,q⟩
  ·subst e';obtain⟨its,r',pl,hz⟩:=I.tuple hx;have hlen:=r'.length;exact len_tuple pl (by simp only[Zd];omega) ⟨.int xs.length,H,I.tok _,⟨_,by simp only[Zd];rw[hlen]⟩,q⟩
 |_=>exact(show False from e).elim
end
structure ObjM(h:Heap)(x dx C:Addr)(mA:Str->Option Value):Prop where
 obj:h.get? x=some (W.instObj C dx)
 ns:h.Ns1 dx mA
 ne:dx≠x
theorem c3m{h:Heap}{dx:Addr}{mA:Str->Option Value}(n:h.Ns1 dx mA):∃od,h.get? dx=some od/\∀name,W.lookIn name od=some (mA name):=by
 obtain⟨o,es,ep,ho,hd,hk,_,hm⟩:=n;refine⟨o,ho,λname=>?_⟩;have e:=hm name;unfold nsFind findBy at e;rw[<-Array.find?_toList]at e;unfold W.lookIn;rw[hd]
 dsimp only
 split
 ·rename_i y q;rw[q]at e;exact Xj some e
 ·rename_i q;rw[q]at e;have a:es.toList.any (·.refKey)=false:=by
   rw[List.any_eq_false];intro y hy;obtain⟨z,t,hkey⟩:=hk y (Array.mem_toList_iff.mp hy)
   simp[DictEntry.refKey,hkey]
  have a':¬es.toList.any (·.refKey)=true:=by rw[a];exact Zn
  rw[if_neg a'];exact Xj some e
theorem ObjM.look{h:Heap}{x dx C:Addr}{mA:Str->Option Value}(I:ObjM h x dx C mA):∃od,W.InstAt h x (W.instObj C dx) C (some od)/\∀name,W.lookIn name od=some (mA name):=
 let⟨od,ho,hl⟩:=c3m I.ns
 ⟨od,⟨I.obj,rfl,rfl,ho⟩,hl⟩
section
variable{prog:Program}{w:World}{A:Around}{E:Value->Shared->Prop}{s:Shared}{K:W.Frag}{x dx C f:Addr}{mA:Str->Option Value}{name:Str}{v:Value}
theorem get_map{expr:Bool}{Q:Value->Shared->Prop}(X:K.In s.heap)(I:ObjM s.heap x dx C mA)(hg:W.plainGet K C name=true)(hh:W.hasDictIn K C=true)
  (ha:W.findIn K (.ref C) name=some none)(hv:mA name=some v)(hv':W.handedIn v=true)(h:Q v { s with toks:=s.toks+1}):
  wpAny (model prog w) A (getAttr (.ref x) name expr) Q E s:=by
 obtain⟨od,J,hl⟩:=I.look;exact W.get_value X J (Tp hg).1 (W.findObj_own hh ha rfl (by rw[hl,hv])) hv' h
theorem c6o{pl:Sem Bool}{Q:Value×List Value->Shared->Prop}(X:K.In s.heap)(I:ObjM s.heap x dx C mA)(hg:W.plainGet K C name=true)
  (hf:W.findIn K (.ref C) name=some (some (.ref f)))(ht:W.isFn K (.ref f)=true)(hv:mA name=none)(h:Q (.ref f,[.ref x]) s):
  wpAny (model prog w) A (getMethod (.ref x) name pl) Q E s:=by
 obtain⟨od,J,hl⟩:=I.look;exact W.method_fn X J (Tp hg).1 (Tp hg).2 hf (V8.mp ht) (by show(W.lookIn name od).map (·.isSome)=some false;rw[hl,hv];rfl) h
theorem set_map{ns:List Str}{Q:Unit->Shared->Prop}(X:K.In s.heap)(I:ObjM s.heap x dx C mA)
  (hs:W.findIn K (.ref C) "__setattr__"=some (some (.builtin "object.__setattr__")))(hp:W.plainOver K C=true)(ht:W.takerIn K C name=some none)(hh:W.hasDictIn K C=true)
  (hw:PySem.Within mA ns)(hsz:ns.length<=sizeLine)
  (h:∀h',ObjM h' x dx C (λy=>if y=name then some v else mA y)->Heap.SameBut dx s.heap h'->Q () { s with heap:=h',toks:=s.toks+2}):
  wpAny (model prog w) A (setAttr (.ref x) name v) Q E s:=by
 obtain⟨od,J,hl⟩:=I.look;refine W.set_plain X J hs (W.osa_open (s:={ s with toks:=s.toks+1}) (r:=none) X J hp ht λb=>?_);obtain⟨cd,hc,hd'⟩:=W.any_some hh;have hx:s.heap.get? x=some ⟨.ref C,some dx,.plain,#[]⟩:=I.obj;refine Zb (Ze (Zb (Zb (wpAny_loadPart hx (Zb (W.Looks.here (s:={ s with toks:=s.toks+1}) (W.looks_clsIn X hc) ?_))))));rw[hd'];refine Ze (a:=some dx) (Zb (Ze (Zb ?_)));refine wpAny_nsSet1 (s:={ s with toks:=s.toks+1}) I.ns λh' hn2 hs2=>?_
 obtain⟨oD,esD,epD,hoD,hdD,hcD⟩:=hn2.count (PySem.Within.cons name v hw);refine Zb (wpAny_lookBehind hoD (by rw[hdD];exact pastItsLine_dict (Yk hcD (by rw[length_cons];omega))) ?_);exact Ze (h _ ⟨(hs2.2 _ (Ne.symm I.ne)).trans I.obj,hn2,I.ne⟩ hs2)
theorem c6p{R:Result->Shared->Prop}{vs:List Value}{kw:List (Str×Value)}(X:K.In s.heap)(hm:W.makesIn K C=true)
  (hi:W.findIn K (.ref C) "__init__"=some (some (.ref f)))(hf:W.typeIn K (.ref f)=some (.type "function"))
  (h:codeAny (model prog w) (A.under (.builtin "type.__call__" ⟨.ref C::vs,kw⟩)) (.call (.ref f) ⟨.ref (s.heap.objs.size+1)::vs,kw⟩) (W.InitBack (s.heap.objs.size+1) R)
   { s with heap:=(s.heap.push W.emptyDict).push (W.instObj C s.heap.objs.size)}):
  codeAny (model prog w) A (.call (.ref C) ⟨vs,kw⟩) R s:=by
 obtain⟨hh,g,d,t,os⟩:=s;exact W.make_core (W.makes_of X hm) (W.looks_findIn X hi) (λself=>W.bind_fn X self hf) (.inl rfl) h
end
def putF(f:Str)(v:V):List (Str×V)->List (Str×V)
 | []=>[(f,v)]
 | (g,x)::r=>if g=f then(g,v)::r else(g,x)::putF f v r
theorem b2o(f g:Str)(v:V):∀fs:List (Str×V),(putF f v fs).lookup g=if g=f then some v else fs.lookup g
 | []=>by
  show List.lookup g [(f,v)]=_
  by_cases h:g=f
  ·have hb:(g==f)=true:=V8.mpr h;simp only[List.lookup,hb,if_pos h]
  ·have hb:(g==f)=false:=Yz.mpr h;simp only[List.lookup,hb,if_neg h]
 | (k,x)::r=>by
  have ih:=b2o f g v r;rw[show putF f v ((k,x)::r)=(if k=f then(k,v)::r else(k,x)::putF f v r)from rfl]
  by_cases hk:k=f
  ·rw[if_pos hk]
   by_cases h:g=k
   ·have hb:(g==k)=true:=V8.mpr h;simp only[List.lookup,hb,if_pos (h.trans hk)]
   ·have hb:(g==k)=false:=Yz.mpr h;simp only[List.lookup,hb,if_neg (λe:g=f=>h (e.trans hk.symm))]
  ·rw[if_neg hk]
   by_cases h:g=k
   ·have hb:(g==k)=true:=V8.mpr h;simp only[List.lookup,hb,if_neg (λe:g=f=>hk (h.symm.trans e))]
   ·have hb:(g==k)=false:=Yz.mpr h;simp only[List.lookup,hb];exact ih
theorem b0n(f:Str)(v:V):∀fs:List (Str×V),f∈(putF f v fs).map (·.1)/\∀g,g∈fs.map (·.1)->g∈(putF f v fs).map (·.1)
 | []=>⟨by simp[putF],λg h=>by simp at h⟩
 | (k,x)::r=>by
  obtain⟨i1,i2⟩:=b0n f v r;rw[show putF f v ((k,x)::r)=(if k=f then(k,v)::r else(k,x)::putF f v r)from rfl]
  by_cases hk:k=f
  ·rw[if_pos hk];subst hk;exact⟨qz,λg h=>by simpa using h⟩
  ·rw[if_neg hk];refine⟨?_,λg h=>?_⟩
   ·rw[Z2];exact Zv _ i1
   ·rw[Z2]at h ⊢;rcases Zp.mp h with e|e
    ·exact Zp.mpr (.inl e)
    ·exact Zv _ (i2 g e)
theorem b2p(f:Str)(v:V):∀fs:List (Str×V),(putF f v fs).length<=fs.length+1
 | []=>by simp[putF]
 | (k,x)::r=>by
  have ih:=b2p f v r;rw[show putF f v ((k,x)::r)=(if k=f then(k,v)::r else(k,x)::putF f v r)from rfl]
  by_cases hk:k=f
  ·rw[if_pos hk,length_cons,length_cons];omega
  ·rw[if_neg hk,length_cons,length_cons];omega
theorem RelO.some_of{v:V}{o:Option Value}(r:RelO (some v) o):∃u,o=some u/\RelV v u:=by
 cases o with
 |none=>exact(show False from r).elim
 |some u=>exact⟨u,rfl,r⟩
theorem RelO.none_of{o:Option Value}(r:RelO none o):o=none:=by
 cases o with
 |none=>rfl
 |some u=>exact(show False from r).elim
theorem c3n{v:V}{u:Value}(r:RelV v u):W.handedIn u=true:=by
 cases v with
 |non=>cases(show u=Value.none from r);rfl
 |bl b=>cases(show u=Value.bool b from r);rfl
 |int i=>obtain⟨t,e⟩:=(show ∃t,u=Value.int i t from r);cases e;rfl
 |str x=>obtain⟨t,e⟩:=(show ∃t,u=Value.str x t from r);cases e;rfl
 |byt b=>obtain⟨t,e⟩:=(show ∃t,u=Value.bytes b t from r);cases e;rfl
 |flt b=>obtain⟨t,e⟩:=(show ∃t,u=Value.float b t from r);cases e;rfl
 |ref a=>cases(show u=Value.ref a from r);rfl
 |ty n=>cases(show u=Value.type n from r);rfl
section
variable{P:Program}{w:World}{H H':Hp}{h h':Heap}{a C dx:Addr}{fs fs':List (Str×V)}
theorem b1o(hok:HOk P w H h)(e:H a=some (.ins C dx fs)):∃mA,ObjM h a dx C mA/\(∀f,RelO (fs.lookup f) (mA f))/\PySem.Within mA (fs.map (·.1))/\fs.length<=1000/\H dx=some (.own a):=by
 obtain⟨d,z,ne,ob,mA,n,r,q⟩:=(show a1v P w H h a (.ins C dx fs)from hok a _ e);exact⟨mA,⟨ob,n,ne⟩,r,q,z,d⟩
end
structure Cls(K:W.Frag)(C:Addr):Prop where
 pg:W.plainGet K C Str.empty=true
 hd:W.hasDictIn K C=true
 po:W.plainOver K C=true
 sa:W.findIn K (.ref C) "__setattr__"=some (some (.builtin "object.__setattr__"))
theorem Cls.get{K:W.Frag}{C:Addr}(c:Cls K C)(f:Str):W.plainGet K C f=true:=c.pg
def a4h(K:W.Frag)(C:Addr)(f:Str):Prop:=W.findIn K (.ref C) f=some none
theorem a4h.taker{K:W.Frag}{C:Addr}{f:Str}(n:a4h K C f):W.takerIn K C f=some none:=by
 unfold W.takerIn;rw[show W.findIn K (.ref C) f=some none from n];rfl
structure Meth(K:W.Frag)(C:Addr)(m:Str)(f:Addr):Prop where
 at_:W.findIn K (.ref C) m=some (some (.ref f))
 fn:W.isFn K (.ref f)=true
 kp:W.keepIn K (.ref f)=true
section
variable{X:Cx}{pins:List (Addr×Obj)}{σ:St}{H:Hp}{s:Shared}{a C dx:Addr}{fs:List (Str×V)}{f:Str}{v:V}{A:Around}{E:Value->Shared->Prop}
theorem c1j{b:Bool}{Q:Value->Shared->Prop}(I:Inv X pins σ H s)(e:H a=some (.ins C dx fs))(c:Cls X.K C)(n:a4h X.K C f)(l:fs.lookup f=some v)
  (h:∀u s',Inv X pins σ H s'->RelV v u->Q u s'):wpAny (model X.prog X.w) A (getAttr (.ref a) f b) Q E s:=by
 obtain⟨mA,O,r,_,_,_⟩:=b1o I.hok e;obtain⟨u,hu,ru⟩:=RelO.some_of (v:=v) (o:=mA f) (by rw[<-l];exact r f);exact get_map I.kIn O (c.get f) c.hd n hu (c3n ru) (h u _ (I.tok _) ru)
theorem c1k{m:Str}{g:Addr}{pl:Sem Bool}{Q:Value×List Value->Shared->Prop}(I:Inv X pins σ H s)(e:H a=some (.ins C dx fs))(c:Cls X.K C)(k:Meth X.K C m g)(l:fs.lookup m=none)
  (h:Q (.ref g,[.ref a]) s):wpAny (model X.prog X.w) A (getMethod (.ref a) m pl) Q E s:=by
 obtain⟨mA,O,r,_,_,_⟩:=b1o I.hok e;have hn:mA m=none:=RelO.none_of (by rw[<-l];exact r m);exact c6o I.kIn O (c.get m) k.at_ k.fn hn h
theorem c1l{y:V}{u:Value}{Q:Unit->Shared->Prop}(I:Inv X pins σ H s)(e:H a=some (.ins C dx fs))(c:Cls X.K C)(n:a4h X.K C f)(hl:fs.length<1000)(ry:RelV y u)
  (h:∀s',Inv X pins σ (upd H a (.ins C dx (putF f y fs))) s'->Q () s'):wpAny (model X.prog X.w) A (setAttr (.ref a) f u) Q E s:=by
 obtain⟨mA,O,r,wi,_,ho⟩:=b1o I.hok e;have hz:(fs.map (·.1)).length<=sizeLine:=by rw[length_map,Yh];omega
 refine set_map I.kIn O c.sa c.po n.taker c.hd wi hz λh' O' sb=>h _ ?_
 have hd:∃o,h'.get? dx=some o:=let⟨o,_,_,e',_⟩:=O'.ns;⟨o,e'⟩
 refine I.write (x:=a) (e:=dx) (by rw[e];exact True.intro) (.inr ho) (λb q hb z=>(sb.2 b hb).trans z) hd ?_;refine⟨by rw[a0p O.ne];exact ho,?_,O.ne,O'.obj,_,O'.ns,λg=>?_,λg hg=>?_⟩
 ·have:=b2p f y fs;omega
 ·show RelO ((putF f y fs).lookup g) (if g=f then some u else mA g)
  rw[b2o]
  by_cases q:g=f
  ·rw[if_pos q,if_pos q];exact ry
  ·rw[if_neg q,if_neg q];exact r g
 ·by_cases q:g=f
  ·rw[q];exact(b0n f y fs).1
  ·refine(b0n f y fs).2 g (wi g λz=>hg ?_)
   show(if g=f then some u else mA g)=none
   rw[if_neg q];exact z
theorem Inv.made(I:Inv X pins σ H s):Inv X pins σ (upd (upd H s.heap.objs.size (.own (s.heap.objs.size+1))) (s.heap.objs.size+1) (.ins C s.heap.objs.size []))
  { s with heap:=(s.heap.push W.emptyDict).push (W.instObj C s.heap.objs.size)}:=by
 have e1:(s.heap.push W.emptyDict).get? s.heap.objs.size=some W.emptyDict:=Zj s.heap rfl;have e2:((s.heap.push W.emptyDict).push (W.instObj C s.heap.objs.size)).get? (s.heap.objs.size+1)=some (W.instObj C s.heap.objs.size):=by
  have:=Zj (s.heap.push W.emptyDict) (o:=W.instObj C s.heap.objs.size) rfl;rwa[Yd]at this
 have e3:(s.heap.push W.emptyDict).Ns s.heap.objs.size (λ_=>none):=⟨W.emptyDict,#[],_,e1,rfl,(λe he=>absurd he qz),λ_=>rfl⟩;have I1:=I.laid (a:=s.heap.objs.size) (o:=.own (s.heap.objs.size+1)) (h':=s.heap.push W.emptyDict) (t':=s.toks) (λb u q=>Zc _ q) (Zh _) ⟨_,e1⟩;refine I1.laid (a:=s.heap.objs.size+1) (o:=.ins C s.heap.objs.size []) (t':=s.toks) (λb u q=>Zc _ q) (Nat.le_of_eq (Yd _ _)) ?_;have ne:s.heap.objs.size≠s.heap.objs.size+1:=Z0 (Vg _);refine⟨by rw[a0p ne,a0c],Yc _,ne,e2,λ_=>none,(Heap.Ns1.of_empty e3).at λo q=>Zc _ q,λ_=>True.intro,λy hy=>absurd rfl hy⟩
theorem attr_of{prog:Program}{w:World}{env:Env}{e:Expr}{f:Str}{pos:Pos}{s:Shared}{Q:Value->Shared->Prop}(hb:attributeBase e f env (eval e env)=eval e env)
  (h:wpAny (model prog w) A (eval e env) (λo s₁=>wpAny (model prog w) A (getAttr o f true) Q E s₁) E s):wpAny (model prog w) A (eval (.Attribute e f pos) env) Q E s:=
 Attribute_any_ h (by rw[arm_eval_Attribute,hb])
end
def tFld(K:W.Frag)(ta:TE)(f:Str):TE:=λσ H Q=>ta σ H λx H1=>∃a C dx fs v,x=.ref a/\H1 a=some (.ins C dx fs)/\Cls K C/\a4h K C f/\fs.lookup f=some v/\Q v H1
def sFld(K:W.Frag)(ta tv:TE)(f:Str):TS:=λD σ H=>tv σ H λy H1=>ta σ H1 λx H2=>∃a C dx fs,x=.ref a/\H2 a=some (.ins C dx fs)/\Cls K C/\a4h K C f/\fs.length<1000/\
 D.nx σ (upd H2 a (.ins C dx (putF f y fs)))
section
variable{X:Cx}{o e value:Expr}{f:Str}{pos pos' tpos:Pos}{ta tv:TE}
theorem a8s(he:PE X e ta)(hb:attributeBase e f X.env (eval e X.env)=eval e X.env):PE X (.Attribute e f pos) (tFld X.K ta f):=by
 intro pins s σ H Q I h;refine attr_of hb (thn (he pins s σ H _ I h) λu s1 z9=>?_);obtain⟨x,H1,I1,rx,a,C,dx,fs,v,ex,ea,c,n,l,q⟩:=z9;subst ex;obtain rfl:u=Value.ref a:=rx;exact c1j I1 ea c n l λu' s2 I2 ru=>⟨v,H1,I2,ru,q⟩
theorem b7g(ha:PE X o ta)(hv:PE X value tv)(hs:swapsWith value (some (.Attribute o f pos')) pos.line X.env=pure false):PS X (.Assign [.Attribute o f pos'] value pos) (sFld X.K ta tv f):=by
 intro pins s σ H D I h;refine plainObj_wpAny_Assign_Attribute (thn (hv pins s σ H _ I h) λu s1 ⟨y,H1,I1,ry,q⟩=>thn (ha pins s1 σ H1 _ I1 q) λov s2 ⟨x,H2,I2,rx,a,C,dx,fs,ex,ea,c,n,l,q2⟩=>?_) hs;subst ex;obtain rfl:ov=Value.ref a:=rx;exact c1l I2 ea c n l ry λs3 I3=>⟨σ,_,I3,q2⟩
end
section
variable{X:Cx}{pins:List (Addr×Obj)}{σ:St}{H:Hp}{s:Shared}{A:Around}{E:Value->Shared->Prop}{Q:Value->Shared->Prop}{c:Value}{b:Bool}
inductive TyOf(K:W.Frag)(H:Hp):V->Value->Prop where
 |non:TyOf K H .non (.type "NoneType")
 |bl (x:Bool):TyOf K H (.bl x) (.type "bool")
 |int (i:Int):TyOf K H (.int i) (.type "int")
 |str (x:Str):TyOf K H (.str x) (.type "str")
 |flt (x:UInt64):TyOf K H (.flt x) (.type "float")
 |lst {a:Addr} {xs:List V} (e:H a=some (.lst xs)):TyOf K H (.ref a) (.type "list")
 |frz {a:Addr} {o:Obj} {xs:List V} (e:H a=some (.frz o (.lst xs))):TyOf K H (.ref a) (.type "list")
 |tup {a:Addr} {xs:List V} (e:H a=some (.tup xs)):TyOf K H (.ref a) (.type "tuple")
 |dK {a:Addr} {kvs:List (Key×V)} (e:H a=some (.dK kvs)):TyOf K H (.ref a) (.type "dict")
 |dT {a:Addr} {kvs:List (List Key×V)} (e:H a=some (.dT kvs)):TyOf K H (.ref a) (.type "dict")
 |ins {a C dx:Addr} {fs:List (Str×V)} (e:H a=some (.ins C dx fs)) (cl:Cls K C) (ha:W.findIn K (.ref C) "__class__"=some (some (.builtin "object.__class__")))
   (hn:W.specialIn K (.builtin "object.__class__") "__get__"=some (some (.builtin "getset_descriptor.__get__"))) (htk:W.takesIn K (.builtin "object.__class__")=some true)
   (hm:W.mroIn K C (.type "object")=some true):TyOf K H (.ref a) (.ref C)
theorem a4o{x:V}{u t:Value}(I:Inv X pins σ H s)(rx:RelV x u)(ty:TyOf X.K H x t)(e:W.kitOne X.K t c=some b)(h:∀tk,Q (.bool b) { s with toks:=tk}):
  wpAny (model X.prog X.w) A (call (.builtin "isinstance") [u,c]) Q E s:=by
 cases ty with
 |non=>cases(show u=Value.none from rx);exact Wj W.kitx_none I.kIn True.intro e (λz=>nomatch z) h
 |bl y=>cases(show u=Value.bool y from rx);exact Wj W.kitx_bool I.kIn True.intro e (λz=>nomatch z) h
 |int i=>obtain⟨t,q⟩:=(show ∃t,u=Value.int i t from rx);cases q;exact Wj W.kitx_int I.kIn True.intro e (λz=>nomatch z) h
 |str y=>obtain⟨t,q⟩:=(show ∃t,u=Value.str y t from rx);cases q;exact Wj W.kitx_str I.kIn True.intro e (λz=>nomatch z) h
 |flt y=>obtain⟨t,q⟩:=(show ∃t,u=Value.float y t from rx);cases q;exact Wj W.kitx_float I.kIn True.intro e (λz=>nomatch z) h
 | @lst a xs ea=>
  cases(show u=Value.ref a from rx)
  obtain⟨_,_,n,_,h1⟩:=(show a1v X.prog X.w H s.heap a (.lst xs)from I.hok a _ ea);exact Wj Sf I.kIn ⟨_,h1,rfl⟩ e (λz=>nomatch z) h
 | @frz a ob xs ea=>
  cases(show u=Value.ref a from rx)
  obtain⟨_,_,_,n,_,h1⟩:=(show a1v X.prog X.w H s.heap a (.frz ob (.lst xs))from I.hok a _ ea);exact Wj Sf I.kIn ⟨_,h1,rfl⟩ e (λz=>nomatch z) h
 | @tup a xs ea=>
  cases(show u=Value.ref a from rx)
  obtain⟨_,_,_,p⟩:=(show a1v X.prog X.w H s.heap a (.tup xs)from I.hok a _ ea);obtain⟨o,h1,h2,_⟩:=p;exact Wj W.kitx_tuple I.kIn ⟨o,h1,h2⟩ e (λz=>nomatch z) h
 | @dK a kvs ea=>
  cases(show u=Value.ref a from rx)
  obtain⟨_,_,vs,_,p⟩:=(show a1v X.prog X.w H s.heap a (.dK kvs)from I.hok a _ ea);obtain⟨o,es,ep,h1,h2,_⟩:=p;exact Wj W.kitx_dict I.kIn ⟨o,h1,h2.1⟩ e (λz=>nomatch z) h
 | @dT a kvs ea=>
  cases(show u=Value.ref a from rx)
  obtain⟨_,_,xs,_,o,es,ep,h1,h2,_⟩:=(show a1v X.prog X.w H s.heap a (.dT kvs)from I.hok a _ ea);exact Wj W.kitx_dict I.kIn ⟨o,h1,h2.1⟩ e (λz=>nomatch z) h
 | @ins a C dx fs ea cl ha hn htk hm=>
  cases(show u=Value.ref a from rx)
  obtain⟨mA,O,_⟩:=b1o I.hok ea;obtain⟨od,J,_⟩:=O.look;exact Wj (W.kitx_own (cl.get _) cl.hd ha hn htk hm) I.kIn J e (λz=>nomatch z) h
end
structure Room(k:Nat)(A:Around):Prop where
 hd:A.handled=none
 dp:A.depth+3*k+5<recursionLimit
 un:A.units+16*k+200<cLine
 gd:A.guards=some []
theorem Room.mono{j k:Nat}{A:Around}(r:Room k A)(h:j<=k):Room j A:=⟨r.hd,by have:=r.dp;omega,by have:=r.un;omega,r.gd⟩
theorem Room.o{j k:Nat}{A:Around}(r:Room k A)(h:j<=k:=by first|decide|exact Nat.le_refl _|exact Nat.le_add_left_of_le qd|omega):Room j A:=r.mono h
theorem Room.deeper{k:Nat}{A:Around}(r:Room (k+1) A)(env:Env):Room k (A.deeper env):=
 ⟨r.hd,by have:=r.dp;show A.depth+1+3*k+5<_;omega,by have:=r.un;show A.units+3+16*k+200<_;omega,r.gd⟩
theorem c1m{A:Around}{C:Addr}{us:List Value}{kw:List (Str×Value)}:(A.under (.builtin "type.__call__" ⟨.ref C::us,kw⟩)).depth=A.depth+1:=by
 first|rfl|simp[Around.under,Code.weight,Code.isCreation,Code.isGuard,Code.isCaller,Code.frames,Code.isFrame,guardIds]
theorem c1n{A:Around}{C:Addr}{us:List Value}{kw:List (Str×Value)}:(A.under (.builtin "type.__call__" ⟨.ref C::us,kw⟩)).units=A.units+1:=by
 first|rfl|simp[Around.under,Code.cUnits,Code.frames,Code.isFrame]
theorem b9k{A:Around}{C:Addr}{us:List Value}{kw:List (Str×Value)}:(A.under (.builtin "type.__call__" ⟨.ref C::us,kw⟩)).guards=A.guards:=by
 first|rfl|simp[Around.under,Code.guards,Code.isGuard,guardIds,pushGuards]
theorem Room.make{k:Nat}{A:Around}(r:Room (k+1) A)(C:Addr)(us:List Value)(kw:List (Str×Value)):Room k (A.under (.builtin "type.__call__" ⟨.ref C::us,kw⟩)):=
 ⟨r.hd,by have:=r.dp;rw[c1m];omega,by have:=r.un;rw[c1n];omega,b9k.trans r.gd⟩
theorem Room.depth{k:Nat}{A:Around}(r:Room k A):A.depth<recursionLimit:=by have:=r.dp;omega
theorem Room.units{k:Nat}{A:Around}(r:Room k A):A.units+64<cLine:=by have:=r.un;omega
def tNil:TA:=λ_ H Q=>Q [] H
def b6w(ta:TE)(tr:TA):TA:=λσ H Q=>ta σ H λx H1=>tr σ H1 λxs H2=>Q (x::xs) H2
section
variable{X:Cx}{e:Expr}{es:List Expr}{te:TE}{t:TA}{pos:Pos}
theorem a0d:PA X [] tNil:=λ_ _ _ _ H Q I h=>Ve ⟨[],H,I,.nil,h⟩
theorem c0h(ha:PE X e te)(hr:PA X es t)(hs:starEach (e::es) X.env=(false,eval e X.env)::starEach es X.env:=by rfl):PA X (e::es) (b6w te t):=by
 intro pos pins s σ H Q I h;rw[hs]
 show wpAny _ _ (spliced ((false,eval e X.env)::backTo pos (starEach es X.env))) _ _ s
 refine W6 (thn (ha pins s σ H _ I h) λu s1 z9=>?_);obtain⟨x,H1,I1,r1,q1⟩:=z9;exact thn (hr pos pins s1 σ H1 _ I1 q1) λus s2 ⟨xs,H2,I2,r2,q2⟩=>⟨x::xs,H2,I2,.cons r1 r2,q2⟩
def tTup(t:TA):TE:=λσ H Q=>t σ H λxs H1=>xs.length<=sizeLine/\∀p,H1 p=none->Q (.ref p) (upd H1 p (.tup xs))
def tLst(t:TA):TE:=λσ H Q=>t σ H λxs H1=>xs.length<=sizeLine/\∀p,H1 p=none->Q (.ref p) (upd H1 p (.lst xs))
theorem a1d{x1}(h:PA X es t):PE X (.Tuple es x1 pos) (tTup t):=by
 intro pins s σ H Q I hq;refine wpAny_Tuple_spliced (thn (h pos pins s σ H _ I hq) λus s1 ⟨xs,H1,I1,r,z,q⟩=>⟨by rw[<-r.length];exact z,?_⟩);have hf:H1 s1.heap.objs.size=none:=I1.hok.fresh (Zh _);refine⟨.ref s1.heap.objs.size,upd H1 s1.heap.objs.size (.tup xs),I1.laid (t':=s1.toks) (λb u e=>Zc _ e) (Zh _) ?_,rfl,q _ hf⟩;exact⟨z,us,r,⟨_,Zj _ rfl,rfl,_,rfl⟩⟩
theorem a1i(h:PA X es t):PE X (.List es pos) (tLst t):=by
 intro pins s σ H Q I hq;refine wpAny_List_spliced (thn (h pos pins s σ H _ I hq) λus s1 ⟨xs,H1,I1,r,z,q⟩=>⟨by rw[<-r.length];exact z,?_⟩);have hf:H1 s1.heap.objs.size=none:=I1.hok.fresh (Zh _);refine⟨.ref s1.heap.objs.size,upd H1 s1.heap.objs.size (.lst xs),I1.laid (t':=s1.toks) (λb u e=>Zc _ e) (Zh _) ?_,rfl,q _ hf⟩;exact⟨z,us,0,r,Zj _ rfl⟩
end
abbrev Sp:=List V->Hp->VK->XK->Prop
abbrev CXT:=List Env->Hp->Shared->XK->Value->Shared->Prop
structure Env0(P:Program)(w:World)(K:W.Frag)(mg:Str->Option Value)(base:Heap)(A:Around)(outer:List Env)(s:Shared)(H:Hp):Prop where
 frames:A.frames=some outer
 mod:Mod K mg base
 bs:∀b o,base.get? b=some o->s.heap.get? b=some o/\H b=none
 bsz:base.objs.size<=s.heap.objs.size
 funs:s.heap.FunFrames base outer
 frf:∀b∈frs outer,H b=none
 hok:HOk P w H s.heap
 bare:AllBare s.gens
def CE(outer:List Env)(P:Program)(w:World)(H:Hp)(s:Shared)(Q:VK)(u:Value)(s':Shared):Prop:=
 ∃v H',s'.os=s.os/\AllBare s'.gens/\Un (frs outer) [] H H' s.heap s'.heap/\HOk P w H' s'.heap/\RelV v u/\Q v H'
def CR(CX:CXT)(outer:List Env)(P:Program)(w:World)(H:Hp)(s:Shared)(Q:VK)(E:XK)(r:Result)(s':Shared):Prop:=
 match r with
 | .ok (.ret u)=>CE outer P w H s Q u s'
 | .ok _=>False
 | .error e=>CX outer H s E e s'
structure FnOk(P:Program)(w:World)(K:W.Frag)(mg:Str->Option Value)(base:Heap)(CX:CXT)(k:Nat)(f:Addr)(fd:FuncData)(ps:List Str)(sp:Sp):Prop where
 len:∀vs H Q E,sp vs H Q E->vs.length=ps.length
 run:∀(A:Around)(outer:List Env)(s:Shared)(H:Hp)(args:Args)(us:List Value)(vs:List V)(Q:VK)(E:XK),Room k A->Env0 P w K mg base A outer s H->BindsTo s fd args (ps.zip us)->Vals vs us->sp vs H Q E->
  codeAny (model P w) A (.call (.ref f) args) (CR CX outer P w H s Q E) s
theorem Env0.make{P:Program}{w:World}{K:W.Frag}{mg:Str->Option Value}{base:Heap}{A:Around}{outer:List Env}{s:Shared}{H:Hp}(e:Env0 P w K mg base A outer s H)(C:Addr)(us:List Value)(kw:List (Str×Value)):
  Env0 P w K mg base (A.under (.builtin "type.__call__" ⟨.ref C::us,kw⟩)) outer s H:=⟨by first|exact e.frames| (simpa[Around.under,Code.envs,Code.isFrame,pushEnvs]using e.frames),e.mod,e.bs,e.bsz,e.funs,e.frf,e.hok,e.bare⟩
section
variable{X:Cx}{pins:List (Addr×Obj)}{σ:St}{H:Hp}{s s':Shared}
theorem Inv.env0(I:Inv X pins σ H s):Env0 X.prog X.w X.K X.mg X.base X.A X.stack s H:=
 ⟨I.ok.frames,I.ok.mod,I.bs,Yk I.ok.bsz I.sz,I.stack,I.stkFree,I.hok,I.bare⟩
theorem Inv.after{Q:VK}{u:Value}(I:Inv X pins σ H s)(h:CE X.stack X.prog X.w H s Q u s'):EP X pins σ Q u s':=by
 obtain⟨v,H',os,bare,un,hok,r,q⟩:=h;obtain⟨hh,g,d,t,os'⟩:=s';obtain rfl:os'=s.os:=os;exact⟨v,H',I.call (h':=hh) (g':=g) (d':=d) (t':=t) (ch:=[]) un hok bare (λb z=>absurd z qz),r,q⟩
end
def tCall(sp:Sp)(dvs:List V)(E:XK)(t:TA):TE:=λσ H Q=>t σ H λvs H1=>sp (vs++dvs) H1 Q E
def tMeth(C:Addr)(m:Str)(sp:Sp)(dvs:List V)(E:XK)(ta:TE)(t:TA):TE:=λσ H Q=>ta σ H λx H1=>∃a dx fs,x=.ref a/\H1 a=some (.ins C dx fs)/\fs.lookup m=none/\
 t σ H1 λvs H2=>sp (x::(vs++dvs)) H2 Q E
def tMake(C:Addr)(sp:Sp)(dvs:List V)(E:XK)(t:TA):TE:=λσ H Q=>t σ H λvs H1=>∀x dx,H1 x=none->H1 dx=none->dx≠x->
 sp (.ref x::(vs++dvs)) (upd (upd H1 dx (.own x)) x (.ins C dx [])) (λv H2=>v=.non/\Q (.ref x) H2) E
def Binds(K:W.Frag)(fd:FuncData)(ps:List Str)(ds:List Value):Prop:=
 ∀(s:Shared)(us:List Value),K.In s.heap->(us++ds).length=ps.length->BindsTo s fd ⟨us,[]⟩ (ps.zip (us++ds))
theorem Binds.all{K:W.Frag}{fd:FuncData}{ps:List Str}(h:∀us:List Value,us.length=ps.length->bindArgs fd ⟨us,[]⟩=pure (ps.zip us)):Binds K fd ps []:=λs us _ hl=>by
 rw[Xi]at hl ⊢;exact .of_eq (h us hl)
def a8t(CX:CXT)(X:Cx)(E:XK):Prop:=∀(pins:List (Addr×Obj))(σ:St)(H:Hp)(s:Shared)(e:Value)(s':Shared),Inv X pins σ H s->CX X.stack H s E e s'->X.xe e s'
section
variable{X:Cx}{CX:CXT}{k:Nat}{f C:Addr}{fd:FuncData}{ps:List Str}{sp:Sp}{dvs:List V}{ds:List Value}{E:XK}{x m:Str}{p pos apos:Pos}{e o:Expr}{es:List Expr}{ta:TE}{t:TA}
theorem c3o{pins:List (Addr×Obj)}{σ:St}{H:Hp}{s:Shared}{Q:VK}{us:List Value}{vs:List V}(F:FnOk X.prog X.w X.K X.mg X.base CX k f fd ps sp)(hr:Room k X.A)(hb:Binds X.K fd ps ds)(hd:Vals dvs ds)(hx:a8t CX X E)
  (I:Inv X pins σ H s)(r:Vals vs us)(h:sp (vs++dvs) H Q E):wpAny (model X.prog X.w) X.A (call (.ref f) us) (EP X pins σ Q) X.xe s:=by
 have r2:Vals (vs++dvs) (us++ds):=r.append hd;have hl:(us++ds).length=ps.length:=by rw[<-r2.length];exact F.len _ _ _ _ h
 refine wpAny_call (Ux (F.run X.A X.stack s H ⟨us,[]⟩ (us++ds) (vs++dvs) Q E hr I.env0 (hb s us I.kIn hl) r2 h) λr s' hq=>?_);cases r with
 |error e=>exact hx pins σ H s e s' I hq
 |ok fl=>
  cases fl with
  |ret u=>exact I.after hq
  |next=>exact False.elim hq
  |brk=>exact False.elim hq
  |cont=>exact False.elim hq
theorem a0q(F:FnOk X.prog X.w X.K X.mg X.base CX k f fd ps sp)(hr:Room k X.A)(hg:Gl X x)(hm:X.mg x=some (.ref f))(hk:W.keepIn X.K (.ref f)=true)(hb:Binds X.K fd ps ds)(hd:Vals dvs ds)(hx:a8t CX X E)
  (ha:PA X (e::es) t)(hdb:(x==("__debug__":Str))=false:=by decide)(he:starEach (e::es) X.env=(false,eval e X.env)::starEach es X.env:=by rfl)(hpl:(backTo pos (starEach es X.env)).any (·.1)=false:=by rfl):
  PE X (.Call (.Name x p) (e::es) [] pos) (tCall sp dvs E t):=by
 intro pins s σ H Q I h;refine Vo (b4z I hg hm ?_ hdb);refine T1 (h₀:=X.base) I.ok.mod.kin hk (thn (ha pos pins s σ H _ I h) λus s1 ⟨vs,H1,I1,r,q⟩=>⟨I1.kIn,?_⟩) he hpl;exact c3o F hr hb hd hx I1 r q
theorem b1p{pl:Sem Bool}(he:PE X o ta)(c:Cls X.K C)(hm:Meth X.K C m f)(F:FnOk X.prog X.w X.K X.mg X.base CX k f fd ps sp)(hr:Room k X.A)(hb:Binds X.K fd ps ds)(hd:Vals dvs ds)(hx:a8t CX X E)(ha:PA X (e::es) t)
  (hst:starEach (e::es) X.env=(false,eval e X.env)::starEach es X.env:=by rfl)(hpl:(backTo pos (starEach es X.env)).any (·.1)=false:=by rfl)
  (ht:eval (.Call (.Attribute o m apos) (e::es) [] pos) X.env=(do
   let ov <-eval o X.env
   standAt apos.atName
   let(f,first) <-holding [ov] (getMethod ov m pl)
   callWith pos f first (backTo pos (starEach (e::es) X.env)) (backToKw pos (keywordEach [] X.env))):=by rfl):
  PE X (.Call (.Attribute o m apos) (e::es) [] pos) (tMeth C m sp dvs E ta t):=by
 intro pins s σ H Q I h;refine W.methodCall_KW (pl:=pl) (thn (he pins s σ H _ I h) λu s1 ⟨x,H1,I1,rx,a,dx,fs,ex,ea,l,q⟩=>?_) ht;subst ex;obtain rfl:u=Value.ref a:=rx;refine c1k I1 ea c hm l ?_;refine T1 (first:=[.ref a]) (h₀:=X.base) I.ok.mod.kin hm.kp (thn (ha pos pins s1 σ H1 _ I1 q) λus s2 ⟨vs,H2,I2,r,q2⟩=>⟨I2.kIn,?_⟩) hst hpl;exact c3o (us:=.ref a::us) (vs:=.ref a::vs) F hr hb hd hx I2 (.cons rfl r) q2
structure Mk(K:W.Frag)(C f:Addr):Prop where
 makes:W.makesIn K C=true
 init:W.findIn K (.ref C) "__init__"=some (some (.ref f))
 fn:W.isFn K (.ref f)=true
 kp:W.keepIn K (.ref C)=true
theorem c6q{pins:List (Addr×Obj)}{σ:St}{H:Hp}{s:Shared}{Q:VK}{us:List Value}{vs:List V}(M:Mk X.K C f)(F:FnOk X.prog X.w X.K X.mg X.base CX k f fd ps sp)(hr:Room (k+1) X.A)(hb:Binds X.K fd ps ds)(hd:Vals dvs ds)
  (hx:a8t CX X E)(I:Inv X pins σ H s)(r:Vals vs us)
  (h:∀x dx,H x=none->H dx=none->dx≠x->sp (.ref x::(vs++dvs)) (upd (upd H dx (.own x)) x (.ins C dx [])) (λv H2=>v=.non/\Q (.ref x) H2) E):
  wpAny (model X.prog X.w) X.A (call (.ref C) us) (EP X pins σ Q) X.xe s:=by
 have hq:=h (s.heap.objs.size+1) s.heap.objs.size (I.hok.fresh (Ta _)) (I.hok.fresh (Zh _)) (Z0 (Vg _));have I2:=Inv.made (C:=C) I;have r2:Vals (V.ref (s.heap.objs.size+1)::(vs++dvs)) (Value.ref (s.heap.objs.size+1)::(us++ds)):=.cons rfl (r.append hd);have hl:(Value.ref (s.heap.objs.size+1)::us++ds).length=ps.length:=by
  have e:=r2.length;rw[F.len _ _ _ _ hq]at e;exact e.symm
 refine wpAny_call (c6p (f:=f) I.kIn M.makes M.init (V8.mp M.fn) (Ux (F.run _ X.stack _ _ ⟨Value.ref (s.heap.objs.size+1)::us,[]⟩ (Value.ref (s.heap.objs.size+1)::(us++ds)) _ _ E (hr.make C us [])
  (I2.env0.make C us []) (hb _ (Value.ref (s.heap.objs.size+1)::us) I2.kIn hl) r2 hq) λr s' hq'=>?_))
 cases r with
 |error e=>exact hx pins σ _ _ e s' I2 hq'
 |ok fl=>
  cases fl with
  |ret u=>
   obtain⟨v,H',I3,rv,ev,q3⟩:=I2.after hq';subst ev;exact⟨rv,⟨V.ref (s.heap.objs.size+1),H',I3,rfl,q3⟩⟩
  |next=>exact False.elim hq'
  |brk=>exact False.elim hq'
  |cont=>exact False.elim hq'
theorem pe_make(M:Mk X.K C f)(F:FnOk X.prog X.w X.K X.mg X.base CX k f fd ps sp)(hr:Room (k+1) X.A)(hg:Gl X x)(hm:X.mg x=some (.ref C))(hb:Binds X.K fd ps ds)(hd:Vals dvs ds)(hx:a8t CX X E)
  (ha:PA X (e::es) t)(hdb:(x==("__debug__":Str))=false:=by decide)(he:starEach (e::es) X.env=(false,eval e X.env)::starEach es X.env:=by rfl)(hpl:(backTo pos (starEach es X.env)).any (·.1)=false:=by rfl):
  PE X (.Call (.Name x p) (e::es) [] pos) (tMake C sp dvs E t):=by
 intro pins s σ H Q I h;refine Vo (b4z I hg hm ?_ hdb);refine T1 (h₀:=X.base) I.ok.mod.kin M.kp (thn (ha pos pins s σ H _ I h) λus s1 ⟨vs,H1,I1,r,q⟩=>⟨I1.kIn,?_⟩) he hpl;exact c6q M F hr hb hd hx I1 r q
end
structure a0z(N P:List Str)(sc:Scope):Prop where
 kind:sc.kind=.function
 co:sc.isCoroutine=false
 gen:sc.isGenerator=false
 nd:N.Nodup
 pre:N.take P.length=P
 par:∀x∈P,sc.names.lookup x=some .local\/sc.names.lookup x=some .cell
 nofree:∀y∈sc.names,y.2≠.free
theorem b5s{kindOf:Str->Option NameKind}{x:Str}:∀{binds:List (Str×Value)}{m:Str->Option Value},(∀v,(x,v)∉binds)->bindL kindOf binds m x=m x
 | [],_,_=>rfl
 | (n,v)::r,m,h=>by
  unfold bindL;rw[b5s λw hw=>h w (Zv _ hw)]
  split
  ·have:x≠n:=by rintro rfl;exact h v Ye
   simp[this]
  ·rfl
theorem b5t{kindOf:Str->Option NameKind}{x:Str}:∀{binds:List (Str×Value)}{m:Str->Option Value},(∀v,(x,v)∉binds)->bindC kindOf binds m x=m x
 | [],_,_=>rfl
 | (n,v)::r,m,h=>by
  unfold bindC;rw[b5t λw hw=>h w (Zv _ hw)]
  split
  ·rfl
  ·have:x≠n:=by rintro rfl;exact h v Ye
   simp[this]
theorem b5u{kindOf:Str->Option NameKind}{x:Str}{v:Value}:∀{P:List Str}{vs:List Value}{i:Nat}{m:Str->Option Value},P.Nodup->P[i]? =some x->vs[i]? =some v->kindOf x=some .local->
  bindL kindOf (P.zip vs) m x=some v
 | [],_,_,_,_,h,_,_=>by simp at h
 |_::_,[],_,_,_,_,h,_=>by simp at h
 |p::P,w::vs,0,m,nd,h1,h2,hk=>by
  simp at h1 h2;subst h1;subst h2
  show bindL kindOf ((p,w)::P.zip vs) m p=_
  unfold bindL;rw[b5s λv hv=>(W1.mp nd).1 (Uc hv).1,if_pos hk]
  simp
 |p::P,w::vs,i+1,m,nd,h1,h2,hk=>by
  show bindL kindOf ((p,w)::P.zip vs) m x=_
  unfold bindL;exact b5u (i:=i) (W1.mp nd).2 (by simpa using h1) (by simpa using h2) hk
theorem b5v{kindOf:Str->Option NameKind}{x:Str}{v:Value}:∀{P:List Str}{vs:List Value}{i:Nat}{m:Str->Option Value},P.Nodup->P[i]? =some x->vs[i]? =some v->kindOf x≠some .local->
  bindC kindOf (P.zip vs) m x=some v
 | [],_,_,_,_,h,_,_=>by simp at h
 |_::_,[],_,_,_,_,h,_=>by simp at h
 |p::P,w::vs,0,m,nd,h1,h2,hk=>by
  simp at h1 h2;subst h1;subst h2
  show bindC kindOf ((p,w)::P.zip vs) m p=_
  unfold bindC;rw[b5t λv hv=>(W1.mp nd).1 (Uc hv).1,if_neg hk]
  simp
 |p::P,w::vs,i+1,m,nd,h1,h2,hk=>by
  show bindC kindOf ((p,w)::P.zip vs) m x=_
  unfold bindC;exact b5v (i:=i) (W1.mp nd).2 (by simpa using h1) (by simpa using h2) hk
def start(N:List Str)(vs:List V):St:=vs.map some++List.replicate (N.length-vs.length) none
def cxOf(CX:CXT)(P:Program)(w:World)(K:W.Frag)(mg:Str->Option Value)(base:Heap)(N:List Str)(qual:Str)(scope:Scope)(f:Addr)(cd:Value)(A:Around)(outer:List Env)(s:Shared)(H:Hp)(E:XK):Cx where
 prog:=P
 w:=w
 K:=K
 mg:=mg
 base:=base
 A:=A.deeper (envOfC qual scope s.heap.objs.size f cd)
 N:=N
 s₀:=s
 H₀:=H
 env:=envOfC qual scope s.heap.objs.size f cd
 outer:=outer
 stack:=envOfC qual scope s.heap.objs.size f cd::outer
 ex:=[]
 calm:=true
 fn:=λ_=>true
 pn:=[]
 xe:=λe s'=>wpAny (model P w) (A.deeper (envOfC qual scope s.heap.objs.size f cd)) (leaving (envOfC qual scope s.heap.objs.size f cd) e) (λ_ s''=>CX outer H s E e s'') (λe' s''=>CX outer H s E e' s'') s'
theorem b7h{sc:Scope}{n:Nat}{x:Str}(h:sc.names.lookup x=some .cell):∃c,(cellsFrom n sc.names []).lookup x=some c:=by
 have q:=W.cellsFrom_some sc.names n [] (.inl h);exact Option.isSome_iff_exists.mp q
theorem c3p{CX:CXT}{P:Program}{w:World}{K:W.Frag}{mg:Str->Option Value}{base:Heap}{N ps:List Str}{qual:Str}{scope:Scope}{f:Addr}{cd:Value}{A:Around}{outer:List Env}{s s1:Shared}{H:Hp}{E:XK}{us:List Value}{vs:List V}
  (S:a0z N ps scope)(hd:A.handled=none)(e0:Env0 P w K mg base A outer s H)(hl:vs.length=ps.length)(r:Vals vs us)
  (x:InCallC s s.heap.objs.size (bindL (envOfC qual scope s.heap.objs.size f cd).kindOf (ps.zip us) λ_=>none) (cellsFrom (s.heap.objs.size+1) scope.names []) (bindC (envOfC qual scope s.heap.objs.size f cd).kindOf (ps.zip us) λ_=>none) s1):
  Inv (cxOf CX P w K mg base N qual scope f cd A outer s H E) [] (start N vs) H s1:=by
 have hpl:ps.length<=N.length:=by have:=Xj List.length S.pre;rw[Z7]at this;omega
 obtain⟨h1,tk,rfl,hk⟩:=x.done;have noA:∀b:Addr,b∉(cxOf CX P w K mg base N qual scope f cd A outer s H E).ex:=λb z=>absurd (show b∈([]:List Addr)from z) qz
 refine⟨⟨e0.mod,S.kind,rfl,rfl,Zh _,λy z c h1 h2=>?_,λy hy=>?_,λy c _ h=>?_,λ_=>hd,Around.frames_deeper e0.frames,.inr ⟨rfl,rfl⟩,λb z=>absurd z (noA b),e0.bs,e0.bsz,λb _ _=>noA b,λb z=>absurd z (noA b),e0.funs,e0.frf⟩,
  rfl,e0.bare,Un.kept hk,⟨_,x.toInCall.ns,λi y v h1 h2 h3=>?_⟩,λy c h=>⟨_,x.cell y c h⟩,e0.hok.fresh (Zh _),λy c h=>?_,λp hp=>absurd (show p∈([]:List (Addr×Obj))from hp) qz,e0.hok.kept hk,?_⟩
 ·exact name_of_addr x.apart (Y0 h1) (Y0 h2)
 ·have hy:scope.names.lookup y=some .cell\/scope.names.lookup y=some .free:=hy;rcases hy with hy|hy
  ·exact b7h hy
  ·exact absurd rfl (S.nofree _ (Y0 hy))
 ·exact T4 (x.above y c (Y0 h))
 ·have hi:i<vs.length:=by
   unfold start at h2
   by_cases hi:i<vs.length
   ·exact hi
   ·rw[List.getElem?_append_right (by simpa using hi)]at h2;rw[List.getElem?_replicate]at h2;split at h2<;>cases h2
  have ha:vs[i]? =some v:=by
   unfold start at h2;rw[Tk (by simpa using hi),Zz]at h2;cases e:vs[i]? with
   |none=>rw[e]at h2;cases h2
   |some a=>rw[e]at h2;cases h2;rfl
  obtain⟨u,hu,rv⟩:=r.get ha;have hp:ps[i]? =some y:=by
   rw[<-S.pre,Tq qo];exact h1
  have ndP:ps.Nodup:=by rw[<-S.pre];exact S.nd.sublist (List.take_sublist _ _)
  refine⟨u,rv,?_⟩;rcases S.par y (Xa hp)with k|k
  ·exact .inl ⟨k,b5u ndP hp hu k⟩
  ·obtain⟨c,e⟩:=b7h (n:=s.heap.objs.size+1) k;refine .inr ⟨.inl k,c,e,?_⟩;have q:=x.cell y c e;rw[b5v ndP hp hu (by show scope.names.lookup y≠_;rw[k];decide)]at q;exact q
 ·exact e0.hok.fresh (T4 (x.above y c (Y0 h)))
 ·unfold start
  show _=N.length
  rw[Zf,length_map,Uh];omega
theorem fn_of{CX:CXT}{P:Program}{w:World}{K:W.Frag}{mg:Str->Option Value}{base:Heap}{k:Nat}{f:Addr}{name qual:Str}{params:Arguments}{body:List Stmt}{scope:Scope}{dV kV doc pm cdv ct oc:Value}{an od:Option Addr}
  {osl:Array (Option Value)}{N ps:List Str}{sp:Sp}(lk:K.lookup f=some ⟨oc,od,.func (W.fnOf name qual params body scope dV kV doc pm an cdv ct),osl⟩)(hcd:W.codeIn K cdv qual=true)(S:a0z N ps scope)
  (len:∀vs H Q E,sp vs H Q E->vs.length=ps.length)
  (hbody:∀(A:Around)(outer:List Env)(s:Shared)(H:Hp)(vs:List V)(Q:VK)(E:XK),Room k (A.deeper (envOfC qual scope s.heap.objs.size f cdv))->sp vs H Q E->
   ∃t,PSs (cxOf CX P w K mg base N qual scope f cdv A outer s H E) body t/\t { nx:=λ_ H'=>Q .non H',rt:=Q} (start N vs) H):
  FnOk P w K mg base CX (k+1) f (W.fnOf name qual params body scope dV kV doc pm an cdv ct) ps sp:=by
 refine⟨len,λA outer s H args us vs Q E hr e0 hb r hsp=>?_⟩;have hl:=len _ _ _ _ hsp;have KX:K.In s.heap:=e0.mod.kin.keeps λb o e=>(e0.bs b o e).1
 have lim:s.heap.NoLimit:=e0.mod.nolimit.keeps λb o e=>(e0.bs b o e).1
 have hkind:∀y∈ps.zip us,scope.names.lookup y.1=some .local\/(scope.names.lookup y.1=some .cell/\((cellsFrom (s.heap.objs.size+1) scope.names []).lookup y.1).isSome=true):=λ⟨n,v⟩ hy=>by
  rcases S.par n (Uc hy).1 with q|q
  ·exact .inl q
  ·exact .inr ⟨q,W.cellsFrom_some _ _ _ (.inl q)⟩
 refine codeAny_call_function hr.depth (KX _ _ lk) rfl S.co S.gen rfl (W.codeRec_of KX hcd) (hb _ _ _ _ ?_);refine wpAny_newFunctionEnv_cells S.kind hkind λenv he s1 x=>?_
 subst he;refine⟨lim.keeps x.toInCall.keep,codeAny_func ?_⟩;obtain⟨t,ht,hq⟩:=hbody A outer s H vs Q E (hr.deeper _) hsp;have I:Inv (cxOf CX P w K mg base N qual scope f cdv A outer s H E) [] (start N vs) H s1:=c3p S hr.hd e0 hl r x;refine W4 (ht [] s1 (start N vs) H _ I hq) (λfl s' hs=>?_) λe s' hs=>hs
 have fin:∀{σ':St}{H':Hp}{v:V}{u:Value},Inv (cxOf CX P w K mg base N qual scope f cdv A outer s H E) [] σ' H' s'->RelV v u->Q v H'->CE outer P w H s Q u s':=
  λ{σ' H' v u} J rv q=>⟨v,H',J.os,J.bare,J.base,J.hok,rv,q⟩
 cases fl with
 |ret u=>
  obtain⟨v,σ',H',J,rv,q⟩:=hs;exact fin J rv q
 |next=>
  obtain⟨σ',H',J,q⟩:=hs;exact fin (v:=V.non) (u:=Value.none) J rfl q
 |brk=>
  obtain⟨_,_,_,q⟩:=hs;exact False.elim q
 |cont=>
  obtain⟨_,_,_,q⟩:=hs;exact False.elim q
section
variable{X:Cx}{x:Str}{p pos:Pos}{e:Expr}{es:List Expr}{t:TA}{id T:String}{r:List V->Hp->VK->Prop}
def tCB(r:List V->Hp->VK->Prop)(t:TA):TE:=λσ H Q=>t σ H λvs H1=>r vs H1 Q
theorem a0m(hc:a2k X (.builtin id) r)(hg:Gl X x)(hm:X.mg x=none)(hv:bootBuiltins x=some (.builtin id))(ha:PA X (e::es) t)(hn:x≠"__name__":=by decide)(hdb:(x==("__debug__":Str))=false:=by decide)
  (he:starEach (e::es) X.env=(false,eval e X.env)::starEach es X.env:=by rfl)(hpl:(backTo pos (starEach es X.env)).any (·.1)=false:=by rfl):PE X (.Call (.Name x p) (e::es) [] pos) (tCB r t):=by
 intro pins s σ H Q I h;refine Vo (a5c I hg hm hv ?_ hn hdb);exact PyProof.Rows.callWith_builtin1 (thn (ha pos pins s σ H _ I h) λus s1 ⟨vs,H1,I1,r1,q1⟩=>hc pins s1 σ H1 vs us Q I1 r1 q1) he hpl
theorem a1g(hc:a2k X (.type T) r)(hg:Gl X x)(hm:X.mg x=none)(hv:bootBuiltins x=some (.type T))(ha:PA X (e::es) t)(hn:x≠"__name__":=by decide)(hdb:(x==("__debug__":Str))=false:=by decide)
  (he:starEach (e::es) X.env=(false,eval e X.env)::starEach es X.env:=by rfl)(hpl:(backTo pos (starEach es X.env)).any (·.1)=false:=by rfl):PE X (.Call (.Name x p) (e::es) [] pos) (tCB r t):=by
 intro pins s σ H Q I h;refine Vo (a5c I hg hm hv ?_ hn hdb);exact Ys (thn (ha pos pins s σ H _ I h) λus s1 ⟨vs,H1,I1,r1,q1⟩=>hc pins s1 σ H1 vs us Q I1 r1 q1) he hpl
end
end L2
namespace HT
open PySem PyProof.Rows
section
open PySem.SeqAt
open PySem.AutoSeq1 (wpAny_loadPart')
open PySem.MeetsSeq PySem.MeetsSeq2 PySem.MeetsSeq3
end
section
variable{prog:Program}{w:World}{A:Around}{E:Value->Shared->Prop}{s:Shared}
theorem cat_tup{t b:Addr}{vs ws:List Value}{Q:Value->Shared->Prop}(ht:IsTup s.heap t vs.toArray)(hb:IsTup s.heap b ws.toArray)(hv:vs≠[])
  (h1:ws=[]->Q (.ref t) s)(h2:ws≠[]->Q (.ref s.heap.objs.size) { s with heap:=s.heap.push { cls:=.type "tuple",data:=.seq (vs++ws).toArray}})
  (hsz:vs.length+ws.length<=sizeLine):wpAny (model prog w) A (binaryOp .Add (.ref t) (.ref b)) Q E s:=by
 obtain⟨⟨cls,dd,data,sl⟩,ho,hc,n,hd⟩:=id ht;obtain⟨⟨cls2,dd2,data2,sl2⟩,ho2,hc2,n2,hd2⟩:=id hb;simp only at hc hd hc2 hd2;subst hc hd hc2 hd2;have e:vs.toArray++ws.toArray=(vs++ws).toArray:=by simp
 by_cases hw:ws=[]
 ·exact Tz ⟨_,ho,rfl⟩ ⟨_,ho2,rfl⟩ U6 To U8 U4 (Uv _ _)
   (tuple_addW1 t b vs.toArray ws.toArray n n2 dd dd2 sl sl2 (by simpa using hv) (by simp[hw])) ⟨ho,ho2,h1 hw⟩
 ·refine Tz ⟨_,ho,rfl⟩ ⟨_,ho2,rfl⟩ U6 To U8 U4 (Uv _ _)
   (tuple_addW2 t b vs.toArray ws.toArray n n2 dd dd2 sl sl2 (by simpa using hv) (by simpa using hw) (by rw[Zd,Zd];exact hsz)) ⟨ho,ho2,?_⟩
  rw[e];exact h2 hw
def sIx(n d:Nat):Option Int->Nat
 |none=>d
 |some v=>if v<0 then(v+(n:Int)).toNat else min v.toNat n
theorem sIx_le(n d:Nat)(hd:d<=n)(o:Option Int):sIx n d o<=n:=by
 cases o with
 |none=>exact hd
 |some v=>
  show(if v<0 then(v+(n:Int)).toNat else min v.toNat n)<=n
  by_cases hv:v<0
  ·rw[if_pos hv];omega
  ·rw[if_neg hv];exact Nat.min_le_right _ _
theorem c0i(v:Int)(n d:Nat):(if v<0 then max (v+(n:Int)) 0 else min v (n:Int))=((sIx n d (some v):Nat):Int):=by
 show(if v<0 then max (v+(n:Int)) 0 else min v (n:Int))=(((if v<0 then(v+(n:Int)).toNat else min v.toNat n):Nat):Int)
 by_cases hv:v<0
 ·simp only[if_pos hv];omega
 ·simp only[if_neg hv];omega
theorem c1o(lo hi:Option Int)(n:Nat):Builtin.Slice.sliceAdjust lo hi 1 (n:Int)=(((sIx n 0 lo:Nat):Int),((sIx n n hi:Nat):Int)):=by
 have h1:¬((1:Int)<0):=by omega
 unfold Builtin.Slice.sliceAdjust;simp only[h1,W9];refine Prod.ext ?_ ?_
 ·cases lo with
  |none=>rfl
  |some v=>exact c0i v n 0
 ·cases hi with
  |none=>rfl
  |some v=>exact c0i v n n
theorem c1p(i j:Nat):Builtin.Slice.slicePlaces (i:Int) (j:Int) 1=j-i:=by
 unfold Builtin.Slice.slicePlaces;have h1:(1:Int)>0:=by omega
 simp only[h1,if_true,Int.ediv_one]
 split<;>omega
theorem b3y{v:Value}{o:Option Int}{Q:Option Int->Shared->Prop}(p:IsPart v o)(h:Q o s):wpAny (model prog w) A (Builtin.Slice.slicePartIndex v) Q E s:=by
 cases p with
 |none=>exact slicePart_none h
 |int i t=>exact slicePart_int h
theorem sliceApplied_gen{sl:Addr}{vl vu:Value}{lo hi:Option Int}{n:Nat}{Q:Int×Int×Nat->Shared->Prop}(hs:s.heap.IsSliceOf sl vl vu .none)(pl:IsPart vl lo)(pu:IsPart vu hi)
  (h:Q (((sIx n 0 lo:Nat):Int),1,sIx n n hi-sIx n 0 lo) s):wpAny (model prog w) A (Builtin.Slice.sliceApplied (.ref sl) (pure (n:Int))) Q E s:=by
 obtain⟨os,hos,hcs,hds⟩:=id hs;unfold Builtin.Slice.sliceApplied Builtin.Slice.sliceFields;refine Zb (Zb (Z5 hos hds (x:=vl) rfl (Zb (Z5 hos hds (x:=vu) rfl (Zb (Z5 hos hds (x:=.none) rfl (Ze ?_)))))));refine Zb (slicePart_none ?_)
 show wpAny _ _ (if((1:Int)==0)=true then _ else _) _ _ s
 rw[if_neg qd];refine Zb (b3y pl (Zb (b3y pu (Zb (Ze ?_)))))
 show wpAny _ _ (match Builtin.Slice.sliceAdjust lo hi 1 (n:Int)with| (lo,hi)=>pure (lo,(1:Int),Builtin.Slice.slicePlaces lo hi 1)) _ _ s
 rw[c1o lo hi n]
 show wpAny _ _ (pure (((sIx n 0 lo:Nat):Int),(1:Int),Builtin.Slice.slicePlaces ((sIx n 0 lo:Nat):Int) ((sIx n n hi:Nat):Int) 1)) _ _ s
 rw[c1p];exact Ze h
theorem c6r(xs:Array Value)(i k:Nat):((List.range k).filterMap λ(m:Nat)=>xs[((i:Int)+(m:Int)*1).toNat]?).toArray=((xs.toList.drop i).take k).toArray:=by
 have e:(λ(m:Nat)=>xs[((i:Int)+(m:Int)*1).toNat]?)=λm=>xs[i+m]?:=by
  funext m
  have:((i:Int)+(m:Int)*1).toNat=i+m:=by omega
  rw[this]
 rw[e];have:=pick_run xs i k;rw[List.filterMap_map]at this;have e2:((λx=>xs[x]?)∘λx=>i+x)=λm=>xs[i+m]?:=rfl
 rw[e2]at this;rw[this]
theorem getItem_tuple_cut{t sl:Addr}{items:Array Value}{vl vu:Value}{lo hi:Option Int}{Q:Value->Shared->Prop}(ht:IsTup s.heap t items)(hs:s.heap.IsSliceOf sl vl vu .none)(pl:IsPart vl lo)(pu:IsPart vu hi)
  (hw:¬(sIx items.size 0 lo=0/\sIx items.size items.size hi=items.size))
  (h:Q (.ref s.heap.objs.size) { s with heap:=s.heap.push { cls:=.type "tuple",data:=.seq ((items.toList.drop (sIx items.size 0 lo)).take (sIx items.size items.size hi-sIx items.size 0 lo)).toArray}})
  (hsz:items.size<=sizeLine):wpAny (model prog w) A (getItem (.ref t) (.ref sl)) Q E s:=by
 have htake:sizeOk (.seq ((items.toList.drop (sIx items.size 0 lo)).take (sIx items.size items.size hi-sIx items.size 0 lo)).toArray):=by
  show((items.toList.drop (sIx items.size 0 lo)).take (sIx items.size items.size hi-sIx items.size 0 lo)).toArray.size<=sizeLine
  rw[Zd,Z7,Xk,Xf];omega
 have hj:sIx items.size items.size hi<=items.size:=sIx_le _ _ (Zh _) hi;obtain⟨os,hos,hcs,hds⟩:=id hs;have hTs:s.TypeIs (.ref sl) "slice":=⟨os,hos,hcs⟩;unfold getItem
 try with_reducible refine Xm ?_
 first|refine Zb (Ze ?_)|skip
 refine Zb (wpAny_sequenceKey ht.typeIs qd ?_)
 refine Zb (wpAny_callSpecial?_slot (name:=ofString "__getitem__") ht.typeIs Y1
  (Yn Y1 ht.typeIs Sr ?_ (Ra _ _)))
 show wpAny _ _ (Builtin.Tuple.tupleItemsOf (.ref t)>>=_) _ _ s
 refine Zb (tupleItemsOf_ ht ?_);refine Zb (V7 hTs ?_);rw[if_pos qd];refine Zb (sliceApplied_gen hs pl pu ?_);have hno:¬((((sIx items.size 0 lo:Nat):Int)==0&&(1:Int)==1&&(sIx items.size items.size hi-sIx items.size 0 lo)==items.size)=true):=by
  intro q;rw[Xl,Xl]at q;have q1:((sIx items.size 0 lo:Nat):Int)=0:=eq_of_beq q.1.1;have q2:sIx items.size items.size hi-sIx items.size 0 lo=items.size:=eq_of_beq q.2;exact hw ⟨qo,qo⟩
 show wpAny _ _ (if(((sIx items.size 0 lo:Nat):Int)==0&&(1:Int)==1&&(sIx items.size items.size hi-sIx items.size 0 lo)==items.size)=true then _ else _) _ _ s
 rw[if_neg hno,c6r]
 first
  |exact Zb (m:=Builtin.Tuple.tupleExact _) (Y4 (Ze ⟨_,rfl,Ze h⟩) htake)
  |exact Zb (m:=Builtin.Tuple.tupleExact _) (Y4 (Zb (Ze (Ze ⟨_,rfl,Ze h⟩))) htake)
  |exact Zb (Zb (m:=Builtin.Tuple.tupleExact _) (Y4 (Ze (Ze ⟨_,rfl,Ze h⟩)) htake))
  |exact Zb (Zb (m:=Builtin.Tuple.tupleExact _) (Y4 (Ze ⟨_,rfl,Ze h⟩) htake))
end
end HT
namespace L2
open PySem PySem.Spec PyProof.Rows
abbrev TO:=St->Hp->(Option Int->Hp->Prop)->Prop
def PO(X:Cx)(e:Option Expr)(t:TO):Prop:=
 ∀(pins:List (Addr×Obj))(s:Shared)(σ:St)(H:Hp)(Q:Option Int->Hp->Prop),Inv X pins σ H s->t σ H Q->
  wpAny (model X.prog X.w) X.A (evalPart e X.env) (λu s'=>∃o H',Inv X pins σ H' s'/\IsPart u o/\Q o H') X.xe s
def c0j:TO:=λ_ H Q=>Q none H
def tPart(t:TE):TO:=λσ H Q=>t σ H λx H1=>∃i,x=.int i/\Q (some i) H1
theorem intsAre_of{ns:List Int}:∀{us:List Value},Vals (ns.map V.int) us->IntsAre us ns:=by
 induction ns with
 |nil=>intro us r;rw[Xd]at r;cases r;exact .nil
 |cons n ns ih=>
  intro us r;rw[Z2]at r;cases r with
  |cons r1 r2=>
   obtain⟨t,e⟩:=r1;subst e;exact .cons n t (ih r2)
section
variable{X:Cx}{e:Expr}{te:TE}{lo hi:Option Expr}{tl th:TO}{pos p2:Pos}
theorem a3l:PO X none c0j:=by
 intro pins s σ H Q I h;rw[evalPart_none];exact Ze ⟨none,H,I,.none,h⟩
theorem po_some(h:PE X e te):PO X (some e) (tPart te):=by
 intro pins s σ H Q I hw;rw[evalPart_some];refine thn (h pins s σ H _ I hw) λu s1 z9=>?_
 obtain⟨x,H1,I1,r1,q1⟩:=z9;obtain⟨i,rfl,q⟩:=q1;obtain⟨t,rfl⟩:=r1;exact⟨some i,H1,I1,.int i t,q⟩
def SlR(X:Cx)(r:V->Option Int->Option Int->Hp->VK->Prop):Prop:=
 ∀(pins:List (Addr×Obj))(s:Shared)(σ:St)(H:Hp)(x:V)(v vl vu:Value)(lo hi:Option Int)(sl:Addr)(Q:VK),Inv X pins σ H s->RelV x v->s.heap.IsSliceOf sl vl vu .none->IsPart vl lo->IsPart vu hi->r x lo hi H Q->
  ∃T id,typeLookup (.type T) "__getitem__"=pure (some (.builtin id))/\s.TypeIs v T/\wpAny (model X.prog X.w) X.A (getItem v (.ref sl)) (EP X pins σ Q) X.xe s
def tSl(r:V->Option Int->Option Int->Hp->VK->Prop)(te:TE)(tl th:TO):TE:=λσ H Q=>te σ H λx H1=>tl σ H1 λl H2=>th σ H2 λu H3=>r x l u H3 Q
theorem a2x{r:V->Option Int->Option Int->Hp->VK->Prop}(hr:SlR X r)(he:PE X e te)(hl:PO X lo tl)(hu:PO X hi th):PE X (.Subscript e (.Slice lo hi none p2) pos) (tSl r te tl th):=by
 intro pins s σ H Q I h;refine Rb (thn (he pins s σ H _ I h) λv s1 z9=>?_);obtain⟨x,H1,I1,r1,q1⟩:=z9;refine wpAny_Slice (thn (hl pins s1 σ H1 _ I1 q1) λvl s2 ⟨l,H2,I2,pl,q2⟩=>thn (hu pins s2 σ H2 _ I2 q2) λvu s3 z9=>?_);obtain⟨u,H3,I3,pu,q3⟩:=z9;rw[evalPart_none];refine Ze ?_;have I4:Inv X pins σ H3 { s3 with heap:=s3.heap.push { cls:=.type "slice",data:=.fields #[vl,vu,.none]}}:=I3.kept (t':=s3.toks) λb ob q=>Zc _ q
 obtain⟨T,id,hT,ht,hg⟩:=hr pins { s3 with heap:=s3.heap.push { cls:=.type "slice",data:=.fields #[vl,vu,.none]}} σ H3 x v vl vu l u s3.heap.objs.size Q I4 r1 (Heap.IsSliceOf.new ..) pl pu q3
 show wpAny (model X.prog X.w) X.A (subscriptTail e (.Slice lo hi none p2) v (.ref s3.heap.objs.size)) (EP X pins σ Q) X.xe { s3 with heap:=s3.heap.push { cls:=.type "slice",data:=.fields #[vl,vu,.none]}}
 exact tail_any (ops:=[.ref s3.heap.objs.size,v]) ht hT hg (by with_unfolding_all rfl)
def cutV(xs:List V)(lo hi:Option Int):List V:=(xs.drop (HT.sIx xs.length 0 lo)).take (HT.sIx xs.length xs.length hi-HT.sIx xs.length 0 lo)
theorem b2q(xs:List V)(lo hi:Option Int):(cutV xs lo hi).length<=xs.length:=by
 unfold cutV;rw[Z7,Xk];omega
def rSlT(K:W.Frag):V->Option Int->Option Int->Hp->VK->Prop:=λx lo hi H Q=>∃a xs,x=.ref a/\SqT K H a xs/\
 ¬(HT.sIx xs.length 0 lo=0/\HT.sIx xs.length xs.length hi=xs.length)/\∀p,H p=none->Q (.ref p) (upd H p (.tup (cutV xs lo hi)))
theorem sl_tup:SlR X (rSlT X.K):=by
 intro pins s σ H x v vl vu lo hi sl Q I rx hs pl pu h;obtain⟨a,xs,rfl,hx,hw,q⟩:=h;cases rx;obtain⟨its,r,ht,hz⟩:=I.tuple hx;have hlen:its.toArray.size=xs.length:=by rw[Zd];exact r.length.symm
 refine⟨"tuple",_,Y1.lookup,ht.typeIs,?_⟩;refine HT.getItem_tuple_cut ht hs pl pu (by rw[hlen];exact hw) ?_ (by rw[hlen];exact hz);rw[hlen];refine⟨.ref s.heap.objs.size,_,I.laid (t':=s.toks) (o:=.tup (cutV xs lo hi)) (λb ob q=>Zc _ q) (Zh _) ?_,rfl,q _ (I.hok.fresh (Zh _))⟩;exact⟨Yk (b2q xs lo hi) hz,_,(r.drop (HT.sIx xs.length 0 lo)).take (HT.sIx xs.length xs.length hi-HT.sIx xs.length 0 lo),IsTup.new _ _⟩
def rCatT(K:W.Frag):R2:=λx y H Q=>∃a b xs ys,x=.ref a/\y=.ref b/\SqT K H a xs/\SqT K H b ys/\xs≠[]/\xs.length+ys.length<=sizeLine/\
 (ys=[]->Q (.ref a) H)/\(ys≠[]->∀p,H p=none->Q (.ref p) (upd H p (.tup (xs++ys))))
theorem Vals.nil_iff{xs:List V}{us:List Value}(r:Vals xs us):us=[]↔xs=[]:=by
 cases r with
 |nil=>simp
 |cons _ _=>simp
theorem c0k:OpR X (binaryOp .Add) (rCatT X.K):=by
 intro pins s σ H x y v u Q I rx ry h;obtain⟨a,b,xs,ys,rfl,rfl,ha,hb,hx,hz,q1,q2⟩:=h;cases rx;cases ry;obtain⟨its,r1,p1,_⟩:=I.tuple ha;obtain⟨its2,r2,p2,_⟩:=I.tuple hb;refine HT.cat_tup p1 p2 (λz=>hx (r1.nil_iff.mp z)) (λz=>⟨.ref a,H,I,rfl,q1 (r2.nil_iff.mp z)⟩) (λz=>?_) (by rw[<-r1.length,<-r2.length];exact hz);refine⟨.ref s.heap.objs.size,_,I.laid (t':=s.toks) (o:=.tup (xs++ys)) (λb ob q=>Zc _ q) (Zh _) ?_,rfl,q2 (λw=>z (r2.nil_iff.mpr w)) _ (I.hok.fresh (Zh _))⟩;exact⟨by rw[Zf];exact hz,_,r1.append r2,IsTup.new _ _⟩
end
def ixN(n:Nat)(i:Int):Option Nat:=if 0<=i then(if i<n then some i.toNat else none)else if -(n:Int)<=i then some (i+n).toNat else none
def atI{α:Type}(xs:List α)(i:Int):Option α:=(ixN xs.length i).bind λj=>xs[j]?
theorem c0l{n:Nat}{i:Int}{j:Nat}(h:ixN n i=some j):seqIndex? i n=some j/\j<n/\-(n:Int)<=i/\i<n:=by
 unfold ixN at h
 by_cases h0:0<=i
 ·rw[if_pos h0]at h
  by_cases h1:i<n
  ·rw[if_pos h1]at h;have e:i.toNat=j:=Zk h;exact⟨by rw[Sc h0 h1,e],qo,qo,h1⟩
  ·rw[if_neg h1]at h;cases h
 ·rw[if_neg h0]at h
  by_cases h1:-(n:Int)<=i
  ·rw[if_pos h1]at h;have e:(i+n).toNat=j:=Zk h;exact⟨by rw[Ty qo h1,e],qo,h1,qo⟩
  ·rw[if_neg h1]at h;cases h
theorem b1q{α:Type}{xs:List α}{i:Int}{v:α}(h:atI xs i=some v):∃j,seqIndex? i xs.length=some j/\xs[j]? =some v/\j<xs.length/\-(xs.length:Int)<=i/\i<xs.length:=by
 unfold atI at h;cases e:ixN xs.length i with
 |none=>rw[e]at h;cases h
 |some j=>
  rw[e]at h;obtain⟨h1,h2,h3,h4⟩:=c0l e;exact⟨j,h1,h,h2,h3,h4⟩
theorem atI_nat{α:Type}{xs:List α}{j:Nat}{v:α}(h:xs[j]? =some v):atI xs (j:Int)=some v:=by
 have hj:j<xs.length:=(Z3.mp h).1;have e:ixN xs.length (j:Int)=some j:=by
  unfold ixN;rw[if_pos qo,if_pos qo];simp
 unfold atI;rw[e];exact h
def PlainIx(b:Expr):Prop:=∀o i,subscripted b false o i=operate [o,i] (getItem o i)
def IxR(X:Cx)(r:R2):Prop:=
 ∀(value slice:Expr)(pins:List (Addr×Obj))(s:Shared)(σ:St)(H:Hp)(x y:V)(v u:Value)(Q:VK),Inv X pins σ H s->RelV x v->RelV y u->r x y H Q->
  subscripted slice false v u=operate [v,u] (getItem v u)->wpAny (model X.prog X.w) X.A (subscriptTail value slice v u) (EP X pins σ Q) X.xe s
def MtR(X:Cx)(id:String)(r:V->List V->Hp->VK->Prop):Prop:=
 ∀(pins:List (Addr×Obj))(s:Shared)(σ:St)(H:Hp)(x:V)(xs:List V)(v:Value)(us:List Value)(Q:VK),Inv X pins σ H s->RelV x v->Vals xs us->r x xs H Q->
  wpAny (model X.prog X.w) X.A (call (.builtin id) (v::us)) (EP X pins σ Q) X.xe s
section
variable{X:Cx}{a b:Expr}{ta tb:TE}{pos:Pos}
theorem IxR.or{r r':R2}(h:IxR X r)(h':IxR X r'):IxR X (λx y H Q=>r x y H Q\/r' x y H Q):=by
 intro value slice pins s σ H x y v u Q I rx ry q hs;rcases q with q|q
 ·exact h value slice pins s σ H x y v u Q I rx ry q hs
 ·exact h' value slice pins s σ H x y v u Q I rx ry q hs
theorem a0h{r:R2}(hr:IxR X r)(ha:PE X a ta)(hb:PE X b tb)(hs:PlainIx b):PE X (.Subscript a b pos) (tOp r ta tb):=by
 intro pins s σ H Q I h;exact Rb (binT ha hb I h λv u s2 x y H2 I2 rx ry q=>hr a b pins s2 σ H2 x y v u Q I2 rx ry q (hs _ _))
def rIxL(K:W.Frag):R2:=λx y H Q=>∃p xs i v,x=.ref p/\y=.int i/\SqL K H p xs/\atI xs i=some v/\Q v H
def rIxT(K:W.Frag):R2:=λx y H Q=>∃p xs i v,x=.ref p/\y=.int i/\SqT K H p xs/\atI xs i=some v/\Q v H
def rIxS:R2:=λx y H Q=>∃z i c,x=.str z/\y=.int i/\z.length<=sizeLine/\atI z.cps.toList i=some c/\Q (.str ⟨#[c]⟩) H
theorem ix_list:IxR X (rIxL X.K):=by
 intro value slice pins s σ H x y v u Q I rx ry h hs;obtain⟨p,xs,i,z,rfl,rfl,hq,he,q⟩:=h;cases rx;obtain⟨t,rfl⟩:=ry;obtain⟨its,r,pl,hz⟩:=I.list hq;obtain⟨j,h1,h2,h3,h4,h5⟩:=b1q he;obtain⟨w,ew,rw'⟩:=r.get h2;have hl:=r.length;have hn:=a8r;have fin:EP X pins σ Q w s:=⟨z,H,I,rw',q⟩
 by_cases h0:0<=i
 ·have hj:i.toNat=j:=by
   rw[Sc h0 h5]at h1;exact Zk h1
  exact item_listR pl.isList h0 qo (by rw[hj];simpa using ew) fin hs
 ·have hj:(i+(its.toArray.size:Int)).toNat=j:=by
   rw[Ty qo h4]at h1;rw[Zd,<-hl];exact Zk h1
  exact Tx (x:=w) pl.isList.typeIs slot_list_getitem.lookup
   (wpAny_getItem_list_neg (Q:=λr s'=>r=w/\EP X pins σ Q r s') pl.isList qo (by rw[Zd]<;>omega) qo (by rw[hj];simpa using ew) ⟨rfl,fin⟩) hs
theorem ix_tup:IxR X (rIxT X.K):=by
 intro value slice pins s σ H x y v u Q I rx ry h hs;obtain⟨p,xs,i,z,rfl,rfl,hq,he,q⟩:=h;cases rx;obtain⟨t,rfl⟩:=ry;obtain⟨its,r,pl,hz⟩:=I.tuple hq;obtain⟨j,h1,h2,h3,h4,h5⟩:=b1q he;obtain⟨w,ew,rw'⟩:=r.get h2;have hl:=r.length;have hn:=a8r;have fin:EP X pins σ Q w s:=⟨z,H,I,rw',q⟩;exact Tx (x:=w) pl.typeIs Uq.lookup
  (getItem_tuple (j:=j) (Q:=λr s'=>r=w/\EP X pins σ Q r s') pl qo qo (by rw[Zd,<-hl];exact h1) (by simpa using ew) ⟨rfl,fin⟩) hs
theorem ix_str:IxR X rIxS:=by
 intro value slice pins s σ H x y v u Q I rx ry h hs;obtain⟨z,i,c,rfl,rfl,hz,he,q⟩:=h;obtain⟨t,rfl⟩:=rx;obtain⟨t',rfl⟩:=ry;obtain⟨j,h1,h2,h3,h4,h5⟩:=b1q he;have hl:z.cps.toList.length=z.length:=by simp[Str.length]
 rw[hl]at h1 h4 h5;have hn:=a8r
 exact tail_any (typeIs_str s z t) slot_str_getitem.lookup (getItem_str (c:=c) (by
  have e1:decide (i< -(2^63:Int))=false:=Zo qo;have e2:decide (i>=2^63)=false:=Zo qo
  rw[e1,e2,Tt]) (by rw[h1];simpa using h2) ⟨.str ⟨#[c]⟩,H,I.tok _,⟨_,rfl⟩,q⟩) hs
def rIx(K:W.Frag):R2:=λx y H Q=>rIxL K x y H Q\/rIxT K x y H Q\/rIxS x y H Q
theorem ix_seq:IxR X (rIx X.K):=ix_list.or (ix_tup.or ix_str)
theorem c1q(its:List Value)(n j:Nat)(u:Value):Obj.mapSeq (·.setIfInBounds j u) { cls:=.type "list",data:=.seq its.toArray n}={ cls:=.type "list",data:=.seq (its.set j u).toArray n}:=by
 simp[Obj.mapSeq]
theorem Inv.lst{pins:List (Addr×Obj)}{σ:St}{H:Hp}{s:Shared}{p:Addr}{xs:List V}(I:Inv X pins σ H s)(h:H p=some (.lst xs)):
  ∃(its:List Value)(n:Nat),Vals xs its/\s.heap.get? p=some { cls:=.type "list",data:=.seq its.toArray n}/\xs.length<=sizeLine:=by
 obtain⟨z,its,n,r,e⟩:=I.hok p _ h;exact⟨its,n,r,e,z⟩
theorem Inv.lstUpd{pins:List (Addr×Obj)}{σ:St}{H:Hp}{s:Shared}{p:Addr}{xs ys:List V}{its its':List Value}{n n':Nat}{f:Obj->Obj}(I:Inv X pins σ H s)(h:H p=some (.lst xs))
  (ho:s.heap.get? p=some { cls:=.type "list",data:=.seq its.toArray n})(hf:f { cls:=.type "list",data:=.seq its.toArray n}={ cls:=.type "list",data:=.seq its'.toArray n'})(r:Vals ys its')(hz:ys.length<=sizeLine)(t:Nat):
  Inv X pins σ (upd H p (.lst ys)) { s with heap:=s.heap.update p f,toks:=t}:=by
 have e:(s.heap.update p f).get? p=some { cls:=.type "list",data:=.seq its'.toArray n'}:=by
  rw[Yl f ho (by rw[hf]<;>rfl),hf]
 refine I.write (x:=p) (e:=p) (by rw[h];trivial) (.inl rfl) (λb u hb q=>(Yg _ _ (Ne.symm hb)).trans q) ⟨_,e⟩ ?_;exact⟨hz,its',n',r,e⟩
def rSetL:V->V->V->Hp->(Hp->Prop)->Prop:=λo i v H Q=>∃p xs k j,o=.ref p/\i=.int k/\H p=some (.lst xs)/\ixN xs.length k=some j/\Q (upd H p (.lst (xs.set j v)))
theorem a3g:PSet X rSetL:=by
 intro pins s σ H o i v ov iv u Q I ro ri rv h;obtain⟨p,xs,k,j,rfl,rfl,hp,hj,q⟩:=h;cases ro;obtain⟨t,rfl⟩:=ri;obtain⟨its,n,r,ho,hz⟩:=I.lst hp;obtain⟨h1,h2,h3,h4⟩:=c0l hj;have hl:=r.length;have hn:=a8r;have I':Inv X pins σ (upd H p (.lst (xs.set j v))) { s with heap:=s.heap.update p (Obj.mapSeq (·.setIfInBounds j u))}:=
  I.lstUpd hp ho (c1q its n j u) (r.set rv j) (by rw[Yo];exact hz) s.toks
 by_cases h0:0<=k
 ·have hk:k.toNat=j:=by
   rw[Sc h0 h4]at h1;exact Zk h1
  exact W.ki_setAt ho h0 qo (by rw[Zd,<-hl];exact h4) (by rw[hk];exact⟨_,I',q⟩)
 ·have hk:(k+(its.toArray.size:Int)).toNat=j:=by
   rw[Ty qo h3]at h1;rw[Zd,<-hl];exact Zk h1
  exact W.ki_setBack ho qo (by rw[Zd,<-hl];exact h3) qo (by rw[hk];exact⟨_,I',q⟩)
theorem b7i(lo hi:Option Int)(n:Nat):(sliceBounds lo hi none n).1=((HT.sIx n 0 lo:Nat):Int)/\(sliceBounds lo hi none n).2.1=((HT.sIx n n hi:Nat):Int)/\(sliceBounds lo hi none n).2.2=1:=by
 refine⟨?_,?_,rfl⟩
 ·cases lo with
  |none=>simp[sliceBounds,HT.sIx]
  |some i=>
   simp only[sliceBounds,HT.sIx,Option.getD_none,show(1:Int)>0 by decide,if_true]
   by_cases h:i<0
   ·simp only[h,if_true]<;>omega
   ·simp only[h,W9]<;>omega
 ·cases hi with
  |none=>simp[sliceBounds,HT.sIx]
  |some i=>
   simp only[sliceBounds,HT.sIx,Option.getD_none,show(1:Int)>0 by decide,if_true]
   by_cases h:i<0
   ·simp only[h,if_true]<;>omega
   ·simp only[h,W9]<;>omega
theorem b6o(its:List Value)(lo hi:Option Int):slicePick its.toArray lo hi none=((its.drop (HT.sIx its.length 0 lo)).take (HT.sIx its.length its.length hi-HT.sIx its.length 0 lo)).toArray:=by
 obtain⟨h1,h2,h3⟩:=b7i lo hi its.toArray.size;unfold slicePick;rw[h1,h2,h3];simp only[sliceRange_one,pick_run,Zd]<;>rfl
def rSlL(K:W.Frag):V->Option Int->Option Int->Hp->VK->Prop:=λx lo hi H Q=>∃a xs,x=.ref a/\SqL K H a xs/\∀p,H p=none->Q (.ref p) (upd H p (.lst (cutV xs lo hi)))
theorem sl_list:SlR X (rSlL X.K):=by
 intro pins s σ H x v vl vu lo hi sl Q I rx hs pl pu h;obtain⟨a,xs,rfl,hx,q⟩:=h;cases rx;obtain⟨its,r,ht,hz⟩:=I.list hx;have hlen:=r.length;refine⟨"list",_,slot_list_getitem.lookup,ht.isList.typeIs,?_⟩;refine wpAny_getItem_list_slice ht.isList hs pl pu .none qz ?_ (by rw[Zd]<;>omega);rw[b6o,<-hlen];refine⟨.ref s.heap.objs.size,_,I.laid (t':=s.toks) (o:=.lst (cutV xs lo hi)) (λb ob q=>Zc _ q) (Zh _) ?_,rfl,q _ (I.hok.fresh (Zh _))⟩;exact⟨Yk (b2q xs lo hi) hz,_,0,(r.drop (HT.sIx xs.length 0 lo)).take (HT.sIx xs.length xs.length hi-HT.sIx xs.length 0 lo),Zj _ rfl⟩
def a6j:V->Bool
 | .non=>true
 | .bl _=>true
 | .int _=>true
 | .str _=>true
 |_=>false
def eqV:V->V->Bool
 | .non,.non=>true
 | .bl a,.bl b=>a==b
 | .bl a,.int b=>(if a then 1 else 0)==b
 | .int a,.bl b=>a==(if b then 1 else 0)
 | .int a,.int b=>a==b
 | .str a,.str b=>a==b
 |_,_=>false
theorem eqAt_V{A:Around}{s:Shared}{y x:V}{u v:Value}(ry:RelV y u)(rx:RelV x v)(fy:a6j y=true)(fx:a6j x=true):SeqAt.EqAt A s u v (eqV y x):=by
 cases y with
 |non=>
  cases ry;cases x with
  |non=>cases rx;exact Xr _
  |bl b=>cases rx;exact SeqAt.EqAt.none_bool b
  |int b=>obtain⟨t,rfl⟩:=rx;exact SeqAt.EqAt.none_int b t
  |str b=>obtain⟨t,rfl⟩:=rx;exact SeqAt.EqAt.none_str b t
  |_=>exact absurd (show false=true from fx) Zn
 |bl a=>
  cases ry;cases x with
  |non=>cases rx;exact SeqAt.EqAt.bool_none a
  |bl b=>cases rx;exact SeqAt.EqAt.bool_bool a b
  |int b=>obtain⟨t,rfl⟩:=rx;exact SeqAt.EqAt.bool_int a b t
  |str b=>obtain⟨t,rfl⟩:=rx;exact SeqAt.EqAt.bool_str a b t
  |_=>exact absurd (show false=true from fx) Zn
 |int a=>
  obtain⟨t',rfl⟩:=ry;cases x with
  |non=>cases rx;exact SeqAt.EqAt.int_none a t'
  |bl b=>cases rx;exact SeqAt.EqAt.int_bool a t' b
  |int b=>obtain⟨t,rfl⟩:=rx;exact Vs a t' b t
  |str b=>obtain⟨t,rfl⟩:=rx;exact Ut a t' b t
  |_=>exact absurd (show false=true from fx) Zn
 |str a=>
  obtain⟨t',rfl⟩:=ry;cases x with
  |non=>cases rx;exact SeqAt.EqAt.str_none a t'
  |bl b=>cases rx;exact SeqAt.EqAt.str_bool a t' b
  |int b=>obtain⟨t,rfl⟩:=rx;exact Ur a t' b t
  |str b=>obtain⟨t,rfl⟩:=rx;exact Vr a t' b t
  |_=>exact absurd (show false=true from fx) Zn
 |_=>exact absurd (show false=true from fy) Zn
def eqU(x:V)(u:Value):Bool:=match u with
 | .none=>eqV .non x
 | .bool b=>eqV (.bl b) x
 | .int i _=>eqV (.int i) x
 | .str z _=>eqV (.str z) x
 |_=>false
theorem c3q{x y:V}{u:Value}(r:RelV y u)(f:a6j y=true):eqU x u=eqV y x:=by
 cases y with
 |non=>cases r;rfl
 |bl b=>cases r;rfl
 |int i=>obtain⟨t,rfl⟩:=r;rfl
 |str z=>obtain⟨t,rfl⟩:=r;rfl
 |_=>exact absurd (show false=true from f) Zn
theorem a8u{x:V}:∀{xs:List V}{us:List Value},Vals xs us->xs.all a6j=true->us.any (eqU x)=xs.any λy=>eqV y x
 |_,_,.nil,_=>rfl
 |y::xs,u::us,.cons r t,f=>by
  rw[Vh,Xl]at f;rw[Xw,Xw,c3q r f.1,a8u t f.2]
theorem a7o{A:Around}{s:Shared}{x:V}{v:Value}(rx:RelV x v)(fx:a6j x=true):∀{xs:List V}{us:List Value},Vals xs us->xs.all a6j=true->∀u∈us,SeqAt.EqAt A s u v (eqU x u)
 |_,_,.nil,_=>λu hu=>by cases hu
 |y::xs,u::us,.cons r t,f=>λu' hu=>by
  rw[Vh,Xl]at f;rcases Zp.mp hu with rfl|hu
  ·rw[c3q r f.1];exact eqAt_V r rx f.1 fx
  ·exact a7o rx fx t f.2 u' hu
def inV(x:V)(xs:List V):Bool:=xs.any λy=>eqV y x
def rIn(K:W.Frag)(neg:Bool):R2:=λx y H Q=>∃p xs,y=.ref p/\(SqL K H p xs\/SqT K H p xs)/\a6j x=true/\xs.all a6j=true/\Q (.bl (if neg then !inV x xs else inV x xs)) H
theorem c3r:OpR X (compareOp .In) (rIn X.K false):=by
 intro pins s σ H x y v u Q I rx ry h;obtain⟨p,xs,rfl,hq,fx,fs,q⟩:=h;cases ry;rcases hq with hq|hq
 ·obtain⟨its,r,pl,hz⟩:=I.list hq;refine SeqAt.in_listAt (eqU x) pl.isList (λw hw=>a7o rx fx r fs w (by simpa using hw)) ⟨.bl _,H,I,rfl,?_⟩;rw[show its.toArray.any (eqU x)=its.any (eqU x) by simp,a8u r fs];exact q
 ·obtain⟨its,r,pl,hz⟩:=I.tuple hq;refine SeqAt.in_tupleAt (eqU x) pl (λw hw=>a7o rx fx r fs w (by simpa using hw)) ⟨.bl _,H,I,rfl,?_⟩;rw[show its.toArray.any (eqU x)=its.any (eqU x) by simp,a8u r fs];exact q
theorem b7j:OpR X (compareOp .NotIn) (rIn X.K true):=by
 intro pins s σ H x y v u Q I rx ry h;obtain⟨p,xs,rfl,hq,fx,fs,q⟩:=h;cases ry;rcases hq with hq|hq
 ·obtain⟨its,r,pl,hz⟩:=I.list hq;refine SeqAt.notIn_listAt (eqU x) pl.isList (λw hw=>a7o rx fx r fs w (by simpa using hw)) ⟨.bl _,H,I,rfl,?_⟩;rw[show its.toArray.any (eqU x)=its.any (eqU x) by simp,a8u r fs];exact q
 ·obtain⟨its,r,pl,hz⟩:=I.tuple hq;refine SeqAt.notIn_tupleAt (eqU x) pl (λw hw=>a7o rx fx r fs w (by simpa using hw)) ⟨.bl _,H,I,rfl,?_⟩;rw[show its.toArray.any (eqU x)=its.any (eqU x) by simp,a8u r fs];exact q
theorem b7k:a2k X (.type "list") (λxs H Q=>∃p ys,xs=[.ref p]/\(SqL X.K H p ys\/SqT X.K H p ys)/\∀l,H l=none->Q (.ref l) (upd H l (.lst ys))):=by
 intro pins s σ H xs us Q I r h;obtain⟨p,ys,rfl,hq,q⟩:=h;obtain⟨u,rfl,rx⟩:=vals1 r;cases rx;have fin:∀(its:List Value),Vals ys its->ys.length<=sizeLine->∀(h':Heap)(c':Nat),(∀b o',s.heap.get? b=some o'->h'.get? b=some o')->
   h'.get? s.heap.objs.size=some { cls:=.type "list",dict:=none,data:=.seq its.toArray c',slots:=#[]}->EP X pins σ Q (.ref s.heap.objs.size) { s with heap:=h'}:=λits r' hz h' c' kp e=>
  ⟨.ref s.heap.objs.size,_,I.laid (t':=s.toks) kp (Zh _) (show a1v X.prog X.w _ h' _ (.lst ys)from⟨hz,its,c',r',e⟩),rfl,q _ (I.hok.fresh (Zh _))⟩
 rcases hq with hq|hq
 ·obtain⟨its,r',pl,hz⟩:=I.list hq;have hlen:=r'.length;obtain⟨o,ho,hc,n,hd⟩:=pl.isList;exact call_list_seq p (.inl rfl) ho hc hd (λh' c' kp e=>fin its r' hz h' c' kp e) (by simp only[Zd]<;>omega)
 ·obtain⟨its,r',pl,hz⟩:=I.tuple hq;have hlen:=r'.length;obtain⟨o,ho,hc,n,hd⟩:=pl;exact call_list_seq p (.inr rfl) ho hc hd (λh' c' kp e=>fin its r' hz h' c' kp e) (by simp only[Zd]<;>omega)
theorem b6p:a2k X (.type "tuple") (λxs H Q=>∃p ys,xs=[.ref p]/\((SqL X.K H p ys/\∀l,H l=none->Q (.ref l) (upd H l (.tup ys)))\/(SqT X.K H p ys/\Q (.ref p) H))):=by
 intro pins s σ H xs us Q I r h;obtain⟨p,ys,rfl,h⟩:=h;obtain⟨u,rfl,rx⟩:=vals1 r;cases rx;rcases h with⟨hq,q⟩|⟨hq,q⟩
 ·obtain⟨its,r',pl,hz⟩:=I.list hq;have hlen:=r'.length;refine call_tuple_list pl.isList (λh' kp=>?_) (by simp only[Zd]<;>omega);have I1:Inv X pins σ H { s with heap:=h'}:=I.kept (t':=s.toks) kp;have I2:Inv X pins σ (upd H h'.objs.size (.tup ys)) { s with heap:=h'.push { cls:=.type "tuple",data:=.seq its.toArray}}:=
   I1.laid (t':=s.toks) (λb o e=>Zc _ e) (Zh _) (show a1v X.prog X.w _ _ _ (.tup ys)from⟨hz,its,r',IsTup.new _ _⟩)
  exact⟨.ref h'.objs.size,_,I2,rfl,q _ (I1.hok.fresh (Zh _))⟩
 ·obtain⟨its,r',pl,hz⟩:=I.tuple hq;exact call_tuple_same pl ⟨.ref p,H,I,rfl,q⟩
def tyV(K:W.Frag)(T:String)(x:V)(H:Hp):Prop:=match x with
 | .str _=>T="str"
 | .int _=>T="int"
 | .ref p=>(T="list"/\∃xs,SqL K H p xs)\/(T="tuple"/\∃o,K.lookup p=some o/\o.cls=.type "tuple"/\o.dict=none)\/
   (T="dict"/\((∃kvs,H p=some (.dK kvs))\/∃kvs,H p=some (.dT kvs)))\/(T="set"/\∃S n,H p=some (.set S n))
 |_=>False
theorem c3s{pins:List (Addr×Obj)}{σ:St}{H:Hp}{s:Shared}{T:String}{x:V}{v:Value}(I:Inv X pins σ H s)(r:RelV x v)(ty:tyV X.K T x H):
  s.TypeIs v T/\∀a,v=.ref a->∃ob,s.heap.get? a=some ob/\ob.dict=none:=by
 cases x with
 |str z=>
  obtain⟨t,rfl⟩:=r
  cases(show T="str" from ty)
  exact⟨typeIs_str s z t,λ_ e=>nomatch e⟩
 |int i=>
  obtain⟨t,rfl⟩:=r
  cases(show T="int" from ty)
  exact⟨S0 s i t,λ_ e=>nomatch e⟩
 |ref p=>
  cases r;rcases ty with⟨rfl,xs,hq⟩|⟨rfl,o,hk,hc,hd⟩|⟨rfl,hk⟩|⟨rfl,S,n,hk⟩
  ·obtain⟨its,_,pl,_⟩:=I.list hq;refine⟨pl.isList.typeIs,λa e=>?_⟩;cases e;obtain⟨o,n,e,c,hd,_⟩:=pl;exact⟨o,e,hd⟩
  ·refine⟨⟨o,I.kIn p o hk,hc⟩,λa e=>?_⟩;cases e;exact⟨o,I.kIn _ o hk,hd⟩
  ·have z:∃o,s.heap.get? p=some o/\o.ExactDict:=by
    rcases hk with⟨kvs,hk⟩|⟨kvs,hk⟩
    ·obtain⟨_,_,_,_,o,_,_,e,ex,_⟩:=I.hok p _ hk;exact⟨o,e,ex⟩
    ·obtain⟨_,_,_,_,o,_,_,e,ex,_⟩:=I.hok p _ hk;exact⟨o,e,ex⟩
   obtain⟨o,e,ex⟩:=z;refine⟨⟨o,e,ex.1⟩,λa e2=>?_⟩;cases e2;exact⟨o,e,ex.2.1⟩
  ·obtain⟨o,_,_,_,e,ex,_⟩:=I.hok p _ hk;refine⟨⟨o,e,ex.1⟩,λa e2=>?_⟩;cases e2;exact⟨o,e,ex.2.1⟩
 |_=>exact False.elim ty
def tBM0(K:W.Frag)(T:String)(r:V->List V->Hp->VK->Prop)(to:TE):TE:=λσ H Q=>to σ H λx H1=>tyV K T x H1/\r x [] H1 Q
def tBM(K:W.Frag)(T:String)(r:V->List V->Hp->VK->Prop)(to:TE)(t:TA):TE:=λσ H Q=>to σ H λx H1=>tyV K T x H1/\t σ H1 λxs H2=>r x xs H2 Q
variable{o e:Expr}{es:List Expr}{to:TE}{t:TA}{name:Str}{apos cpos:Pos}{T id:String}{r:V->List V->Hp->VK->Prop}
theorem pe_bm0(pa:PlainAttrs T)(slot:Slot T name id)(hty:typeOf (.builtin id)=pure (.type "method_descriptor"))(hm:MtR X id r)(ho:PE X o to)
  (hbase:attributeBase o name X.env (eval o X.env)=eval o X.env:=by rfl)(hline:(apos.endLine==cpos.line)=true:=by rfl):PE X (.Call (.Attribute o name apos) [] [] cpos) (tBM0 X.K T r to):=by
 intro pins s σ H Q I h;refine wpAny_Call_method0_late hbase hline (thn (ho pins s σ H _ I h) λv s1 z9=>?_);obtain⟨x,H1,I1,r1,ty,q1⟩:=z9;obtain⟨h1,h2⟩:=c3s I1 r1 ty;exact⟨T,id,pa,slot,hty,h1,h2,Ua rfl (PySem.evalArgs_none (hm pins s1 σ H1 x [] v [] Q I1 r1 .nil q1))⟩
theorem pe_bm(pa:PlainAttrs T)(slot:Slot T name id)(hty:typeOf (.builtin id)=pure (.type "method_descriptor"))(hm:MtR X id r)(ho:PE X o to)(ha:PA X (e::es) t)
  (hbase:attributeBase o name X.env (eval o X.env)=eval o X.env:=by rfl)
  (hfew:((backTo cpos (starEach (e::es) X.env)).all (λx=>!x.1)&&(backToKw cpos (keywordEach [] X.env)).all (λx=>x.1.isSome)
   &&decide ((e::es).length+([]:List Keyword).length+(if([]:List Keyword).isEmpty then 0 else 1)<30))=true:=by rfl)
  (hline:(apos.endLine==cpos.line)=true:=by rfl)(hs:starEach (e::es) X.env=(false,eval e X.env)::starEach es X.env:=by rfl)(hplain:(backTo cpos (starEach es X.env)).any (·.1)=false:=by rfl):
  PE X (.Call (.Attribute o name apos) (e::es) [] cpos) (tBM X.K T r to t):=by
 intro pins s σ H Q I h;refine wpAny_Call_method_late hbase hfew hline rfl (thn (ho pins s σ H _ I h) λv s1 z9=>?_);obtain⟨x,H1,I1,r1,ty,q1⟩:=z9;obtain⟨h1,h2⟩:=c3s I1 r1 ty;refine⟨T,id,pa,slot,hty,h1,h2,?_⟩;have hA:=ha cpos pins s1 σ H1 _ I1 q1;rw[hs]at hA ⊢;refine Ua (by show(false|| (backTo cpos (starEach es X.env)).any (·.1))=false;rw[hplain]<;>rfl) (So ?_);exact thn hA λus s2 ⟨vs,H2,I2,r2,q2⟩=>hm pins s2 σ H2 x vs v us Q I2 r1 r2 q2
end
def MtM(X:Cx)(id:String)(r:V->List V->Hp->VK->Prop):Prop:=
 ∀(pins:List (Addr×Obj))(s:Shared)(σ:St)(H:Hp)(x:V)(xs:List V)(v:Value)(us:List Value)(Q:VK),Inv X pins σ H s->RelV x v->Vals xs us->r x xs H Q->
  wpAny (model X.prog X.w) X.A (call (.builtin id) (v::us)) (EP X pins σ Q) X.xe s
theorem Vals.one{x:V}{us:List Value}(r:Vals [x] us):∃u,us=[u]/\RelV x u:=vals1 r
theorem Vals.zero:∀{us:List Value},Vals [] us->us=[]
 |_,.nil=>rfl
theorem Vals.dropLast{xs:List V}{us:List Value}(h:Vals xs us):Vals xs.dropLast us.dropLast:=by
 induction h with
 |nil=>exact .nil
 |cons r t ih=>
  cases t with
  |nil=>exact .nil
  |cons q t'=>exact .cons r ih
theorem Vals.reverse{xs:List V}{us:List Value}(h:Vals xs us):Vals xs.reverse us.reverse:=by
 induction h with
 |nil=>exact .nil
 |cons r t ih=>rw[Xq,Xq];exact Vals.append ih (.cons r .nil)
theorem Vals.rep{xs:List V}{us:List Value}(h:Vals xs us):∀k:Nat,Vals (List.replicate k xs).flatten (List.replicate k us).flatten
 |0=>.nil
 |k+1=>by
  rw[Xu,Xu,Vy,Vy];exact Vals.append h (Vals.rep h k)
theorem c1r{α:Type}(l:List α):l.eraseIdx (l.length-1)=l.dropLast:=by
 induction l with
 |nil=>rfl
 |cons a r ih=>
  cases r with
  |nil=>rfl
  |cons b r=>
   have e:(a::b::r).length-1=((b::r).length-1)+1:=by
    have h1:(a::b::r).length=r.length+2:=rfl;have h2:(b::r).length=r.length+1:=rfl;omega
   rw[e,List.eraseIdx_cons_succ,ih]
   all_goals rfl
theorem foldl_rep(its:List Value):∀(k:Nat)(acc:List Value),
  List.foldl (λx1 x2=>x1++x2) acc.toArray (List.replicate k its.toArray)=(acc++(List.replicate k its).flatten).toArray
 |0,acc=>by simp
 |k+1,acc=>by
  have e:acc.toArray++its.toArray=(acc++its).toArray:=by simp
  have e2:(acc++its)++(List.replicate k its).flatten=acc++(List.replicate (k+1) its).flatten:=by
   rw[Xu,Vy,Xe]
  rw[<-e2,<-foldl_rep its k (acc++its),<-e,Xu,List.foldl_cons]
section
variable{X:Cx}{pins:List (Addr×Obj)}{σ:St}{H:Hp}{s:Shared}{l b:Addr}{xs ys zs:List V}
theorem Inv.lset{its its':List Value}{n:Nat}{f:Array Value->Array Value}{t':Nat}(I:Inv X pins σ H s)(hH:H l=some (.lst xs))
  (e:s.heap.get? l=some { cls:=.type "list",data:=.seq its.toArray n})(hf:f its.toArray=its'.toArray)(hv:Vals ys its')(hz:ys.length<=sizeLine):
  Inv X pins σ (upd H l (.lst ys)) { s with heap:=s.heap.update l (Obj.mapSeq f),toks:=t'}:=by
 have q:=PySem.IsL.update e f;rw[hf]at q;refine I.write (x:=l) (e:=l) (by rw[hH];exact trivial) (.inl rfl) (λb' u hb hu=>(Yg s.heap (Obj.mapSeq f) (Ne.symm hb)).trans hu) ⟨_,q⟩ ?_;exact⟨hz,its',_,hv,q⟩
theorem Inv.lnew{its:List Value}{t':Nat}(I:Inv X pins σ H s)(hv:Vals ys its)(hz:ys.length<=sizeLine):
  Inv X pins σ (upd H s.heap.objs.size (.lst ys)) { s with heap:=s.heap.push { cls:=.type "list",data:=.seq its.toArray},toks:=t'}:=
 I.laid (λ_ _ q=>Zc _ q) (Zh _) ⟨hz,its,0,hv,Zj _ rfl⟩
theorem Inv.fresh(I:Inv X pins σ H s):H s.heap.objs.size=none:=I.hok.fresh (Zh _)
theorem Inv.lstM(I:Inv X pins σ H s)(hH:H l=some (.lst xs)):xs.length<=sizeLine/\∃(its:List Value)(n:Nat),Vals xs its/\xs.length=its.length/\s.heap.get? l=some { cls:=.type "list",data:=.seq its.toArray n}:=by
 obtain⟨z,its,n,r,e⟩:=I.hok l _ hH;exact⟨z,its,n,r,r.length,e⟩
theorem b2x{n:Nat}(h:n<=sizeLine):Builtin.List.listTooLong n=false:=by
 unfold Builtin.List.listTooLong;exact Zo qo
end
section
variable{X:Cx}
def rAppend:V->List V->Hp->VK->Prop:=λx vs H Q=>∃l xs y,x=.ref l/\vs=[y]/\H l=some (.lst xs)/\xs.length<sizeLine/\Q .non (upd H l (.lst (xs++[y])))
theorem b5w:MtM X "list.append" rAppend:=by
 intro pins s σ H x vs v us Q I rx rv h;obtain⟨l,xs,y,rfl,rfl,hH,hz,q⟩:=h;cases rx;obtain⟨u,rfl,ru⟩:=rv.one;obtain⟨z,its,n,r,hl,e⟩:=I.lstM hH;refine Vq Yq ⟨_,e,rfl⟩ F.entry_list_append (F.args_list_append_2 _ _) (PySem.list_append l its.toArray n u (by rw[Zd];omega)) ⟨e,?_⟩;refine⟨.non,_,I.lset (its':=its++[u]) hH e qz (r.append (.cons ru .nil)) ?_,rfl,q⟩;rw[Zf,Zq];omega
def rExtend:V->List V->Hp->VK->Prop:=λx vs H Q=>∃l b xs zs,x=.ref l/\vs=[.ref b]/\H l=some (.lst xs)/\H b=some (.lst zs)/\xs.length+zs.length<=sizeLine/\Q .non (upd H l (.lst (xs++zs)))
theorem c3t:MtM X "list.extend" rExtend:=by
 intro pins s σ H x vs v us Q I rx rv h;obtain⟨l,b,xs,zs,rfl,rfl,hH,hB,hz,q⟩:=h;cases rx;obtain⟨u,rfl,ru⟩:=rv.one;cases ru;obtain⟨z,its,n,r,hl,e⟩:=I.lstM hH;obtain⟨z2,its2,n2,r2,hl2,e2⟩:=I.lstM hB;have hsz:its.toArray.size+its2.toArray.size<=sizeLine:=by rw[Zd,Zd];omega
 have hlong:¬(!its.toArray.isEmpty&&Builtin.List.listTooLong (its.toArray.size+its2.toArray.size))=true:=by
  rw[b2x hsz,Vf];exact Zn
 refine Vq Vt ⟨_,e,rfl⟩ Sx (Sn _ _)
  (AutoSeq1.list_extend_list_list_0 l its.toArray n b its2.toArray n2 hlong (by rw[Zd];omega) qo) ⟨e,e2,?_⟩
 refine⟨.non,_,I.lset (its':=its++its2) hH e qz (r.append r2) ?_,rfl,q⟩;rw[Zf];omega
def rPop:V->List V->Hp->VK->Prop:=λx vs H Q=>∃l xs y,x=.ref l/\vs=[]/\H l=some (.lst xs)/\xs[xs.length-1]? =some y/\Q y (upd H l (.lst xs.dropLast))
theorem mt_pop:MtM X "list.pop" rPop:=by
 intro pins s σ H x vs v us Q I rx rv h;obtain⟨l,xs,y,rfl,rfl,hH,hy,q⟩:=h;cases rx;have hus:=rv.zero;subst hus;obtain⟨z,its,n,r,hl,e⟩:=I.lstM hH;obtain⟨u,hu,ru⟩:=r.get hy;have hy':its.toArray[its.toArray.size-1]? =some u:=by
  show its.toArray[its.length-1]? =some u
  rw[<-Wq,<-hl];exact hu
 refine Vq Te ⟨_,e,rfl⟩ F.entry_list_pop (F.args_list_pop_1 _) (MeetsSeq.list_pop_last l its.toArray n u hy' (by rw[Zd];omega)) ⟨e,?_⟩;refine⟨y,_,I.lset (its':=its.dropLast) hH e ?_ r.dropLast ?_,ru,q⟩
 ·show its.toArray.eraseIdxIfInBounds (its.toArray.size-1)=its.dropLast.toArray
  rw[Zd,List.eraseIdxIfInBounds_toArray,c1r]
 ·rw[List.length_dropLast];omega
def c6s:V->List V->Hp->VK->Prop:=λx vs H Q=>∃l xs,x=.ref l/\vs=[]/\H l=some (.lst xs)/\Q .non (upd H l (.lst xs.reverse))
theorem c1s:MtM X "list.reverse" c6s:=by
 intro pins s σ H x vs v us Q I rx rv h;obtain⟨l,xs,rfl,rfl,hH,q⟩:=h;cases rx;have hus:=rv.zero;subst hus;obtain⟨z,its,n,r,hl,e⟩:=I.lstM hH;refine Vq Sw ⟨_,e,rfl⟩ F.entry_list_reverse (F.args_list_reverse_1 _) (AutoSeq1.list_reverse_list_0 l its.toArray n (by rw[Zd];omega)) ⟨e,?_⟩;refine⟨.non,_,I.lset (its':=its.reverse) hH e qz r.reverse ?_,rfl,q⟩;rw[W0];omega
def rCat:R2:=λx y H Q=>∃l b xs zs,x=.ref l/\y=.ref b/\H l=some (.lst xs)/\H b=some (.lst zs)/\xs.length+zs.length<=sizeLine/\∀p,H p=none->Q (.ref p) (upd H p (.lst (xs++zs)))
theorem op_cat:OpR X (binaryOp .Add) rCat:=by
 intro pins s σ H x y v u Q I rx ry h;obtain⟨l,b,xs,zs,rfl,rfl,hH,hB,hz,q⟩:=h;cases rx;cases ry;obtain⟨z,its,n,r,hl,e⟩:=I.lstM hH;obtain⟨z2,its2,n2,r2,hl2,e2⟩:=I.lstM hB;refine PySem.P.add_list e e2 ?_ (by rw[Zd,Zd];omega);have ea:its.toArray++its2.toArray=(its++its2).toArray:=by simp
 rw[ea];exact⟨.ref _,_,I.lnew (t':=s.toks) (r.append r2) (by rw[Zf];omega),rfl,q _ I.fresh⟩
def rRep:R2:=λx y H Q=>∃l k xs,x=.ref l/\y=.int k/\H l=some (.lst xs)/\-(2^63)<=k/\k<2^63/\xs.length*k.toNat<=sizeLine/\
 ∀p,H p=none->Q (.ref p) (upd H p (.lst (List.replicate k.toNat xs).flatten))
theorem len_rep{α:Type}(xs:List α)(k:Nat):(List.replicate k xs).flatten.length=k*xs.length:=by
 induction k with
 |zero=>simp
 |succ k ih=>rw[Xu,Vy,Zf,ih,T3,Nat.add_comm]
theorem op_rep:OpR X (binaryOp .Mult) rRep:=by
 intro pins s σ H x y v u Q I rx ry h;obtain⟨l,k,xs,rfl,rfl,hH,h1,h2,hz,q⟩:=h;cases rx;obtain⟨t,rfl⟩:=ry;obtain⟨z,its,n,r,hl,e⟩:=I.lstM hH;have hlen:its.toArray.size*k.toNat<=sizeLine:=by rw[Zd,<-hl];exact hz
 have hcap:¬its.toArray.size*k.toNat>(2^63-1)/8:=by
  have:(sizeLine:Nat)<=(2^63-1)/8:=by decide
  omega
 have hfit:¬(!Builtin.List.listFitsIndex k)=true:=by
  rw[fitsIndex_both h1 h2];exact Zn
 have hlong:¬Builtin.List.listTooLong (its.toArray.size*k.toNat)=true:=by
  rw[b2x hlen];exact Zn
 have hnew:List.foldl (λx1 x2=>x1++x2) #[] (List.replicate (if its.toArray.isEmpty=true then 0 else k.toNat) its.toArray)=(List.replicate k.toNat its).flatten.toArray:=by
  have f0:∀m:Nat,List.foldl (λx1 x2=>x1++x2) #[] (List.replicate m its.toArray)=(List.replicate m its).flatten.toArray:=λm=>by
   have:=foldl_rep its m [];rw[Wp]at this;exact this
  rw[f0];cases its with
  |nil=>simp
  |cons a r'=>rw[if_neg qz]
 refine wpAny_binaryOp_repeat_ref (T:="list") (U:="int") qd ⟨_,e,rfl⟩ (λs'=>S0 s' k t) noFill_list_mul F.fills_int_mul F.slot_int_rmul repeat_list F.slot_int_index.lookup
  (Vq F.slot_int_rmul (S0 s k t) F.entry_int_rmul (F.args_int_rmul_2 _ _) (int___rmul___int_list k t l its.toArray n)
   ⟨e,rfl,⟨_,e,rfl⟩,Vq F.slot_list_mul ⟨_,e,rfl⟩ F.entry_list_mul (F.args_list_mul_2 _ _) (AutoListH.list___mul___list_int_3 l its.toArray n k t hfit hcap hlong) ⟨e,?_⟩⟩)
 rw[hnew];exact⟨.ref _,_,I.lnew (t':=s.toks) (r.rep k.toNat) (by rw[len_rep,Nat.mul_comm];exact hz),rfl,q _ I.fresh⟩
end
section
variable{κ:Type}[DecidableEq κ]
def valV(kvs:List (κ×V))(k:κ):Option V:=(kvs.find? λkv=>decide (kv.1=k)).map (·.2)
def putK(kvs:List (κ×V))(k:κ)(v:V):List (κ×V):=
 if(kvs.any λkv=>decide (kv.1=k))=true then kvs.map (λkv=>if kv.1=k then(kv.1,v)else kv)else kvs++[(k,v)]
theorem a9h{p:κ×V}{r:List (κ×V)}{k:κ}(e:p.1=k):valV (p::r) k=some p.2:=by simp[valV,Wc,e]
theorem a9i{p:κ×V}{r:List (κ×V)}{k:κ}(e:¬p.1=k):valV (p::r) k=valV r k:=by simp[valV,Wc,e]
theorem b2y(k:κ):∀kvs:List (κ×V),(kvs.any λkv=>decide (kv.1=k))=(valV kvs k).isSome
 | []=>rfl
 |p::r=>by
  rw[Xw]
  by_cases e:p.1=k
  ·simp only[a9h e,Zt e,Bool.true_or,Option.isSome_some]
  ·rw[a9i e,Zo e,Tu];exact b2y k r
theorem a6k(kvs:List (κ×V))(k:κ)(v:V):(putK kvs k v).length<=kvs.length+1:=by
 unfold putK
 split
 ·rw[length_map];omega
 ·rw[Zf,length_cons,length_nil];omega
theorem c6t{kvs:List (κ×V)}{k:κ}(v:V)(h:valV kvs k=none):putK kvs k v=kvs++[(k,v)]:=by
 unfold putK;rw[b2y,h];exact if_neg qd
theorem RelO.isSome_eq{o:Option V}{u:Option Value}(r:RelO o u):o.isSome=u.isSome:=by
 cases o with
 |none=>cases u with
  |none=>rfl
  |some _=>exact(show False from r).elim
 |some _=>cases u with
  |none=>exact(show False from r).elim
  |some _=>rfl
theorem RelO.getD{o:Option V}{u:Option Value}{d:V}{d':Value}(r:RelO o u)(rd:RelV d d'):RelV (o.getD d) (u.getD d'):=by
 cases o with
 |none=>cases u with
  |none=>exact rd
  |some _=>exact(show False from r).elim
 |some _=>cases u with
  |none=>exact(show False from r).elim
  |some _=>exact r
theorem KV.val{kvs:List (κ×V)}{vs:List (κ×Value)}(r:KV kvs vs)(k:κ):RelO (valV kvs k) (valueAt vs k):=by
 unfold KV at r
 induction r with
 |nil=>exact True.intro
 | @cons p q ps qs h t ih=>
  obtain⟨h1,h2⟩:=h
  by_cases e:p.1=k
  ·have e':q.1=k:=h1.symm.trans e;have b:valueAt (q::qs) k=some q.2:=by simp[valueAt,Wc,e']
   rw[a9h e,b];exact h2
  ·have e':¬q.1=k:=λz=>e (h1.trans z)
   have b:valueAt (q::qs) k=valueAt qs k:=by simp[valueAt,Wc,e']
   rw[a9i e,b];exact ih
theorem KV.any{kvs:List (κ×V)}{vs:List (κ×Value)}(r:KV kvs vs)(k:κ):(kvs.any λkv=>decide (kv.1=k))=vs.any λkv=>decide (kv.1=k):=by
 unfold KV at r
 induction r with
 |nil=>rfl
 |cons h t ih=>rw[Xw,Xw,ih,h.1]
theorem KV.repl{kvs:List (κ×V)}{vs:List (κ×Value)}(r:KV kvs vs)(k:κ){y:V}{u:Value}(ry:RelV y u):
  KV (kvs.map λkv=>if kv.1=k then(kv.1,y)else kv) (vs.map λkv=>if kv.1=k then(kv.1,u)else kv):=by
 unfold KV at r ⊢
 induction r with
 |nil=>exact .nil
 | @cons p q ps qs h t ih=>
  rw[Z2,Z2];refine .cons ?_ ih;obtain⟨h1,h2⟩:=h
  by_cases e:p.1=k
  ·rw[if_pos e,if_pos (h1.symm.trans e)];exact⟨h1,ry⟩
  ·rw[if_neg e,if_neg (λz=>e (h1.trans z))];exact⟨h1,h2⟩
theorem KV.put{kvs:List (κ×V)}{vs:List (κ×Value)}(r:KV kvs vs)(k:κ){y:V}{u:Value}(ry:RelV y u):KV (putK kvs k y) (stored vs k u):=by
 unfold putK stored;rw[r.any k]
 by_cases e:(vs.any λkv=>decide (kv.1=k))=true
 ·rw[if_pos e,if_pos e];exact r.repl k ry
 ·rw[if_neg e,if_neg e];exact Sg r ⟨rfl,ry⟩
theorem KV.length{kvs:List (κ×V)}{vs:List (κ×Value)}(r:KV kvs vs):kvs.length=vs.length:=V2 r
end
theorem b3z{P:Program}{w:World}{k:Key}{u:Value}(r:RelV (kV k) u):(a1q P w).is k u=true:=by
 cases k with
 |inl i=>obtain⟨t,e⟩:=(show ∃t,u=Value.int i t from r);subst e;exact a8m P w i t
 |inr x=>obtain⟨t,e⟩:=(show ∃t,u=Value.str x t from r);subst e;exact a8n P w x t
theorem b5x{P:Program}{w:World}:∀{ks:List Key}{us:List Value},Vals (ks.map kV) us->ItemsAre (a1q P w) ks us
 | [],_,r=>by rw[Xd]at r;cases r;exact .nil
 |k::ks,_,r=>by
  rw[Z2]at r;cases r with
  |cons h t=>exact .cons (b3z h) (b5x t)
abbrev KT(H:Hp):List (List Key×V)->List (List Key×Addr×Value)->Prop:=Paired λp q=>p.1=q.1/\H q.2.1=some (.tup (p.1.map kV))/\RelV p.2 q.2.2
theorem KT.val{H:Hp}{kvs:List (List Key×V)}{xs:List (List Key×Addr×Value)}(r:KT H kvs xs)(k:List Key):RelO (valV kvs k) ((atKey xs k).map (·.2)):=by
 induction r with
 |nil=>exact True.intro
 | @cons p q ps qs h t ih=>
  obtain⟨h1,_,h2⟩:=h
  by_cases e:p.1=k
  ·have e':q.1=k:=h1.symm.trans e;have b:atKey (q::qs) k=some q.2:=by simp[atKey,Wc,e']
   rw[a9h e,b];exact h2
  ·have e':¬q.1=k:=λz=>e (h1.trans z)
   have b:atKey (q::qs) k=atKey qs k:=by simp[atKey,Wc,e']
   rw[a9i e,b];exact ih
theorem KT.repl{H:Hp}{kvs:List (List Key×V)}{xs:List (List Key×Addr×Value)}(r:KT H kvs xs)(k:List Key){y:V}{u:Value}(ry:RelV y u):
  KT H (kvs.map λkv=>if kv.1=k then(kv.1,y)else kv) (xs.map (putAt k u)):=by
 induction r with
 |nil=>exact .nil
 | @cons p q ps qs h t ih=>
  rw[Z2,Z2];refine .cons ?_ ih;obtain⟨h1,h2,h3⟩:=h;unfold putAt
  by_cases e:p.1=k
  ·rw[if_pos e,if_pos (h1.symm.trans e)];exact⟨h1,h2,ry⟩
  ·rw[if_neg e,if_neg (λz=>e (h1.trans z))];exact⟨h1,h2,h3⟩
theorem KT.put{H:Hp}{kvs:List (List Key×V)}{xs:List (List Key×Addr×Value)}(r:KT H kvs xs)(k:List Key){b:Addr}{y:V}{u:Value}(hb:H b=some (.tup (k.map kV)))(ry:RelV y u):
  KT H (putK kvs k y) (storedH xs k b u):=by
 have e:(kvs.any λkv=>decide (kv.1=k))=(atKey xs k).isSome:=by
  rw[b2y,(r.val k).isSome_eq,Option.isSome_map]
 unfold putK storedH;rw[e]
 by_cases q:(atKey xs k).isSome=true
 ·rw[if_pos q,if_pos q];exact r.repl k ry
 ·rw[if_neg q,if_neg q];exact Sg r ⟨rfl,hb,ry⟩
theorem KT.keeps{H H':Hp}{kvs:List (List Key×V)}{xs:List (List Key×Addr×Value)}(r:KT H kvs xs)(ht:∀b ys,H b=some (.tup ys)->H' b=some (.tup ys)):KT H' kvs xs:=
 Paired.mapP r λ_ _ z=>⟨z.1,ht _ _ z.2.1,z.2.2⟩
section
variable{P:Program}{w:World}{H:Hp}{h:Heap}{a:Addr}
theorem rd_of{u:HO}(ok:HOk P w H h)(e:Rd H a u):a1v P w H h a u:=e.ok ok
theorem a8e{kvs:List (Key×V)}(ok:HOk P w H h)(e:Rd H a (.dK kvs)):kvs.length<=sizeLine/\(a==sysModules)=false/\∃vs,KV kvs vs/\h.DictOf (a1q P w) a vs:=
 show a1v P w H h a (.dK kvs)from rd_of ok e
theorem dk_of{kvs:List (Key×V)}(ok:HOk P w H h)(e:H a=some (.dK kvs)):kvs.length<=sizeLine/\(a==sysModules)=false/\∃vs,KV kvs vs/\h.DictOf (a1q P w) a vs:=a8e ok (.inl e)
theorem b0o{ks:List Key}(ok:HOk P w H h)(e:H a=some (.tup (ks.map kV))):(tupleKind (a1q P w)).is h ks a:=by
 obtain⟨_,its,r,o,h1,h2,n,h3⟩:=(show a1v P w H h a (.tup (ks.map kV))from ok a _ e);exact⟨o,its.toArray,n,h1,h2,h3,by simpa using b5x r⟩
theorem b4a{kvs:List (List Key×V)}(ok:HOk P w H h)(e:Rd H a (.dT kvs)):kvs.length<=sizeLine/\(a==sysModules)=false/\
  ∃xs,KT H kvs xs/\h.DictOfH (tupleKind (a1q P w)) a xs:=by
 obtain⟨z,y,xs,r,o,es,ep,h1,h2,h3,h4,h5⟩:=(show a1v P w H h a (.dT kvs)from rd_of ok e);refine⟨z,y,xs,r,o,es,ep,h1,h2,h3,h4,λx hx=>?_,h5⟩;have all:∀{l:List (List Key×V)}{m:List (List Key×Addr×Value)},KT H l m->∀x∈m,(tupleKind (a1q P w)).is h x.1 x.2.1:=by
  intro l m q
  induction q with
  |nil=>intro x hx;exact nomatch hx
  | @cons p q ps qs hq t ih=>
   intro x hx;rcases Zp.mp hx with e|hx
   ·subst e;exact b0o ok (by rw[<-hq.1];exact hq.2.1)
   ·exact ih x hx
 exact all r x hx
theorem dt_of{kvs:List (List Key×V)}(ok:HOk P w H h)(e:H a=some (.dT kvs)):kvs.length<=sizeLine/\(a==sysModules)=false/\
  ∃xs,KT H kvs xs/\h.DictOfH (tupleKind (a1q P w)) a xs:=b4a ok (.inl e)
end
def DGet(H:Hp)(a:Addr)(y:V)(r:Option V):Prop:=
 (∃kvs k,Rd H a (.dK kvs)/\y=kV k/\r=valV kvs k)\/∃kvs k b,Rd H a (.dT kvs)/\y=.ref b/\H b=some (.tup (k.map kV))/\r=valV kvs k
def DPut(H:Hp)(a:Addr)(y v:V)(H':Hp):Prop:=
 (∃kvs k,H a=some (.dK kvs)/\y=kV k/\kvs.length<sizeLine/\H'=upd H a (.dK (putK kvs k v)))\/
 ∃kvs k b,H a=some (.dT kvs)/\y=.ref b/\H b=some (.tup (k.map kV))/\kvs.length<sizeLine/\H'=upd H a (.dT (putK kvs k v))
theorem DGet.k{H:Hp}{a:Addr}{kvs:List (Key×V)}{k:Key}(e:H a=some (.dK kvs)):DGet H a (kV k) (valV kvs k):=.inl ⟨kvs,k,.inl e,rfl,rfl⟩
theorem DPut.k{H:Hp}{a:Addr}{kvs:List (Key×V)}{k:Key}{v:V}(e:H a=some (.dK kvs))(hl:kvs.length<sizeLine):DPut H a (kV k) v (upd H a (.dK (putK kvs k v))):=.inl ⟨kvs,k,e,rfl,hl,rfl⟩
section
variable{X:Cx}{pins:List (Addr×Obj)}{σ:St}{H:Hp}{s:Shared}{a:Addr}{y v:V}{u r:Value}{o:Option V}{A:Around}{E:Value->Shared->Prop}
theorem Inv.big(I:Inv X pins σ H s):sysModules<s.heap.objs.size:=by
 have h:mainGlobals<s.heap.objs.size:=(I.mod.glob.keeps I.bk).lt;exact Nat.lt_trans qd h
theorem c3u{Q:Value->Shared->Prop}(hu:A.units+1<cLine)(I:Inv X pins σ H s)(g:DGet H a y (some v))(ry:RelV y u)(h:∀w' s',Inv X pins σ H s'->RelV v w'->Q w' s'):
  wpAny (model X.prog X.w) A (getItem (.ref a) u) Q E s:=by
 rcases g with⟨kvs,k,e,ey,l⟩|⟨kvs,k,b,e,ey,eb,l⟩
 ·subst ey;obtain⟨z,hd,vs,rel,dd⟩:=a8e I.hok e;obtain⟨w',hw,rw'⟩:=RelO.some_of (v:=v) (o:=valueAt vs k) (by rw[l];exact rel.val k);exact wpAny_getItem_of (b3z ry) dd.mapOf hw (h w' _ (I.tok _) rw')
 ·subst ey
  cases(show u=Value.ref b from ry)
  obtain⟨z,hd,xs,rel,dd⟩:=b4a I.hok e;obtain⟨w',hw,rw'⟩:=RelO.some_of (v:=v) (o:=(atKey xs k).map (·.2)) (by rw[l];exact rel.val k);obtain⟨p,hp,hp2⟩:=V9.mp hw;refine wpAny_getItem_heap (Vp hu) (b0o I.hok eb) dd hp ?_;rw[hp2];exact h w' _ (I.tok _) rw'
theorem b1r{h':Heap}{t':Nat}{ob:HO}(I:Inv X pins σ H s)(mu:Mut (H a))(hs:Heap.SameBut a s.heap h')(he:∃q,h'.get? a=some q)(new:a1v X.prog X.w (upd H a ob) h' a ob):
  Inv X pins σ (upd H a ob) { s with heap:=h',toks:=t'}:=
 I.write (x:=a) (e:=a) mu (.inl rfl) (λb q hb z=>(hs.2 b hb).trans z) he new
theorem b7l{P:Program}{w:World}{H':Hp}{h':Heap}{kvs:List (Key×V)}{vs:List (Key×Value)}(z:kvs.length<=sizeLine)(hd:(a==sysModules)=false)(rel:KV kvs vs)(dd:h'.DictOf (a1q P w) a vs):
  a1v P w H' h' a (.dK kvs):=⟨z,hd,vs,rel,dd⟩
theorem c3v{H':Hp}{Q:Unit->Shared->Prop}(hu:A.units+1<cLine)(I:Inv X pins σ H s)(g:DPut H a y v H')(ry:RelV y u)(rv:RelV v r)(h:∀s',Inv X pins σ H' s'->Q () s'):
  wpAny (model X.prog X.w) A (setItem (.ref a) u r) Q E s:=by
 rcases g with⟨kvs,k,e,ey,l,eH⟩|⟨kvs,k,b,e,ey,eb,l,eH⟩
 ·subst ey eH;obtain⟨z,hd,vs,rel,dd⟩:=dk_of I.hok e;have hz:vs.length<=sizeLine:=by rw[<-rel.length];exact z
  have hl:(putK kvs k v).length<=sizeLine:=by have:=a6k kvs k v;omega
  refine wpAny_setItem_pairs (hsz:=hz) (b3z ry) dd λh' dd' hs=>h _ ?_
  have he:∃q,h'.get? a=some q:=let⟨q,_,_,hq,_⟩:=dd';⟨q,hq⟩
  exact b1r I (by rw[e];exact True.intro) hs he (b7l hl hd (rel.put k rv) dd')
 ·subst ey eH
  cases(show u=Value.ref b from ry)
  obtain⟨z,hd,xs,rel,dd⟩:=dt_of I.hok e;have hz:xs.length<=sizeLine:=by rw[<-V2 rel];exact z
  have hl:(putK kvs k v).length<=sizeLine:=by have:=a6k kvs k v;omega
  refine wpAny_setItem_heap (hsz:=hz) (Vp hu) (b0o I.hok eb) dd λh' dd' hs=>h _ ?_
  obtain⟨q,es,ep,hq,h2,h3,h4,_,h5⟩:=dd';refine b1r I (by rw[e];exact True.intro) hs ⟨q,hq⟩ ⟨hl,hd,_,(rel.put k eb rv).keeps λc ys ec=>?_,q,es,ep,hq,h2,h3,h4,h5⟩;rw[a0p (a5n ec e (λz=>nomatch z))];exact ec
end
section
variable{X:Cx}{pins:List (Addr×Obj)}{σ:St}{H:Hp}{s:Shared}{a:Addr}{kvs:List (Key×V)}{k:Key}{u:Value}{A:Around}{E:Value->Shared->Prop}
theorem d_len{Q:Value->Shared->Prop}(I:Inv X pins σ H s)(e:Rd H a (.dK kvs))(h:∀t s',Inv X pins σ H s'->Q (.int kvs.length t) s'):wpAny (model X.prog X.w) A (call (.builtin "len") [.ref a]) Q E s:=by
 obtain⟨z,hd,vs,rel,dd⟩:=a8e I.hok e;refine call_len_dict hd dd (by rw[<-rel.length];rw[Yh]at z;omega) ?_;rw[<-rel.length];exact h _ _ (I.tok _)
end
def NoSl(i:Expr):Prop:=∀ov iv,subscripted i false ov iv=operate [ov,iv] (getItem ov iv)
theorem subD_of{prog:Program}{w:World}{A:Around}{E:Value->Shared->Prop}{s:Shared}{env:Env}{value slice:Expr}{pos:Pos}{T id:String}{Q:Value->Shared->Prop}
  (hl:typeLookup (.type T) "__getitem__"=pure (some (.builtin id)))(hs:NoSl slice)
  (h:wpAny (model prog w) A (eval value env) (λo s₁=>wpAny (model prog w) A (eval slice env) (λi s₂=>s₂.TypeIs o T/\wpAny (model prog w) A (getItem o i) Q E s₂) E s₁) E s):
  wpAny (model prog w) A (eval (.Subscript value slice pos) env) Q E s:=by
 refine Rb (W4 h (λo s₁ h₁=>W4 h₁ (λi s₂ h₂=>?_) λ_ _ x=>x) λ_ _ x=>x);obtain⟨hT,h₂⟩:=h₂;unfold subscriptTail;refine Zb ?_;rw[getitemInPython_of_ne hT.not_modules];refine Zb (Xg hT hl ?_);have fin:wpAny (model prog w) A (subscripted slice false o i) (λr s₃=>wpAny (model prog w) A (letTemporaryGo value o r>>=λ_=>pure r) Q E s₃) E s₂:=by
  rw[hs o i];exact wpAny_operating (W4 h₂ (λr s₃ h₃=>Zb (wpAny_letTemporaryGo (Ze h₃))) λ_ _ x=>x)
 first
  |exact Ze (Zb fin)
  |exact Zb (Ze (Zb fin))
  |exact Zb fin
theorem b9l{X:Cx}{pins:List (Addr×Obj)}{σ:St}{H:Hp}{s:Shared}{a:Addr}{y:V}{o:Option V}(I:Inv X pins σ H s)(g:DGet H a y o):s.TypeIs (.ref a) "dict":=by
 rcases g with⟨kvs,k,e,_,_⟩|⟨kvs,k,b,e,_,_,_⟩
 ·obtain⟨_,_,vs,_,dd⟩:=a8e I.hok e;exact dd.typeIs
 ·obtain⟨_,_,xs,_,dd⟩:=b4a I.hok e;exact dd.typeIs
def tDGet(td ty:TE):TE:=λσ H Q=>td σ H λx H1=>ty σ H1 λy H2=>∃a v,x=.ref a/\DGet H2 a y (some v)/\Q v H2
def sDPut(td ty tv:TE):TS:=λD σ H=>tv σ H λv H1=>td σ H1 λx H2=>ty σ H2 λy H3=>∃a H4,x=.ref a/\DPut H3 a y v H4/\D.nx σ H4
section
variable{X:Cx}{o i e value:Expr}{pos pos' tpos:Pos}{td ty tv:TE}
theorem pe_dget(hu:X.A.units+1<cLine)(ho:PE X o td)(hi:PE X i ty)(hs:NoSl i):PE X (.Subscript o i pos) (tDGet td ty):=by
 intro pins s σ H Q I h;refine subD_of F.slot_dict_getitem.lookup hs (thn (ho pins s σ H _ I h) λu s1 ⟨x,H1,I1,rx,q1⟩=>thn (hi pins s1 σ H1 _ I1 q1) λiv s2 z9=>?_);obtain⟨y,H2,I2,ry,a,v,ex,g,q2⟩:=z9;subst ex;obtain rfl:u=Value.ref a:=rx;exact⟨b9l I2 g,c3u hu I2 g ry λw' s3 I3 rw'=>⟨v,H2,I3,rw',q2⟩⟩
theorem b1s(hu:X.A.units+1<cLine)(ho:PE X o td)(hi:PE X i ty)(hv:PE X value tv)(hs:swapsWith value (some (.Subscript o i pos')) pos.line X.env=pure false):
  PS X (.Assign [.Subscript o i pos'] value pos) (sDPut td ty tv):=by
 intro pins s σ H D I h;refine wpAny_Assign_Subscript (thn (hv pins s σ H _ I h) λr s1 ⟨v,H1,I1,rv,q1⟩=>thn (ho pins s1 σ H1 _ I1 q1) λu s2 ⟨x,H2,I2,rx,q2⟩=>thn (hi pins s2 σ H2 _ I2 q2) λiv s3 ⟨y,H3,I3,ry,a,H4,ex,g,q3⟩=>?_) hs;subst ex;obtain rfl:u=Value.ref a:=rx;exact c3v hu I3 g ry rv λs4 I4=>⟨σ,H4,I4,q3⟩
end
theorem c6u{P:Program}{w:World}{H:Hp}(h:Heap)(hb:sysModules<h.objs.size):a1v P w H (h.push { cls:=.type "dict",data:=.dict #[]}) h.objs.size (.dK []):=
 ⟨Yc _,Yz.mpr (Ne.symm (Z0 hb)),[],.nil,Heap.DictOf.new h⟩
theorem c6v{P:Program}{w:World}{H:Hp}(h:Heap)(hb:sysModules<h.objs.size):a1v P w H (h.push { cls:=.type "dict",data:=.dict #[]}) h.objs.size (.dT []):=
 ⟨Yc _,Yz.mpr (Ne.symm (Z0 hb)),[],.nil,_,#[],0,Zj _ rfl,⟨rfl,rfl,rfl⟩,rfl,rfl,List.nodup_nil⟩
def tDNewK:TE:=λ_ H Q=>∀p,H p=none->Q (.ref p) (upd H p (.dK []))
def tDNewT:TE:=λ_ H Q=>∀p,H p=none->Q (.ref p) (upd H p (.dT []))
section
variable{X:Cx}{pos:Pos}
theorem a7p:PE X (.Dict [] [] pos) tDNewK:=λpins s σ H Q I h=>
 wpAny_Dict_empty ⟨.ref s.heap.objs.size,_,I.laid (a:=s.heap.objs.size) (o:=.dK []) (t':=s.toks) (λ_ _ q=>Zc _ q) (Zh _) (c6u s.heap I.big),rfl,h _ (I.hok.fresh (Zh _))⟩
theorem c6w:PE X (.Dict [] [] pos) tDNewT:=λpins s σ H Q I h=>
 wpAny_Dict_empty ⟨.ref s.heap.objs.size,_,I.laid (a:=s.heap.objs.size) (o:=.dT []) (t':=s.toks) (λ_ _ q=>Zc _ q) (Zh _) (c6v s.heap I.big),rfl,h _ (I.hok.fresh (Zh _))⟩
end
structure M2(X:Cx)(o:Expr)(m:Str)(apos:Pos)(e f:Expr)(cpos:Pos):Prop where
 base:attributeBase o m X.env (eval o X.env)=eval o X.env
 few:((backTo cpos (starEach [e,f] X.env)).all (λx=>!x.1)&&(backToKw cpos (keywordEach [] X.env)).all (λx=>x.1.isSome)
  &&decide (([e,f]:List Expr).length+([]:List Keyword).length+(if([]:List Keyword).isEmpty then 0 else 1)<30))=true
 line:(apos.endLine==cpos.line)=true
 trees:backTo cpos (starEach [e,f] X.env)=[(false,eval e X.env),(false,eval f X.env)]
def IsD(H:Hp)(a:Addr):Prop:=(∃kvs,Rd H a (.dK kvs))\/∃kvs,Rd H a (.dT kvs)
theorem isD_at{X:Cx}{pins:List (Addr×Obj)}{σ:St}{H:Hp}{s:Shared}{a:Addr}(I:Inv X pins σ H s)(d:IsD H a):
  s.TypeIs (.ref a) "dict"/\(∀b,Value.ref a=.ref b->∃ob,s.heap.get? b=some ob/\ob.dict=none)/\(a==sysModules)=false:=by
 rcases d with⟨kvs,e⟩|⟨kvs,e⟩
 ·obtain⟨_,hd,vs,_,dd⟩:=a8e I.hok e;refine⟨dd.typeIs,λb q=>?_,hd⟩;cases q;obtain⟨ob,_,_,h1,h2,_⟩:=dd;exact⟨ob,h1,h2.2.1⟩
 ·obtain⟨_,hd,xs,_,dd⟩:=b4a I.hok e;refine⟨dd.typeIs,λb q=>?_,hd⟩;cases q;obtain⟨ob,_,_,h1,h2,_⟩:=dd;exact⟨ob,h1,h2.2.1⟩
section
variable{X:Cx}{pins:List (Addr×Obj)}{σ:St}{H:Hp}{s:Shared}{a:Addr}{y d:V}{u r:Value}{o:Option V}{A:Around}{E:Value->Shared->Prop}
theorem d_get2{Q:Value->Shared->Prop}(hu:A.units+1<cLine)(I:Inv X pins σ H s)(g:DGet H a y o)(ry:RelV y u)(rd:RelV d r)(h:∀w' s',Inv X pins σ H s'->RelV (o.getD d) w'->Q w' s'):
  wpAny (model X.prog X.w) A (call (.builtin "dict.get") [.ref a,u,r]) Q E s:=by
 rcases g with⟨kvs,k,e,ey,l⟩|⟨kvs,k,b,e,ey,eb,l⟩
 ·subst ey;obtain⟨z,hd,vs,rel,dd⟩:=a8e I.hok e;refine Uy Tf dd.typeIs F.entry_dict_get (F.args_dict_get_3 _ _ _) (meets_dict_get_default (a1q X.prog X.w) a (b3z ry) hd r) ⟨_,dd.mapOf,h _ _ (I.tok _) ?_⟩;rw[l];exact(rel.val k).getD rd
 ·subst ey
  cases(show u=Value.ref b from ry)
  obtain⟨z,hd,xs,rel,dd⟩:=b4a I.hok e;refine Uy Tf dd.typeIs F.entry_dict_get (F.args_dict_get_3 _ _ _) (meetsH_dict_get_default (tupleKind (a1q X.prog X.w)) a b hd r) ⟨Vp hu,k,xs,b0o I.hok eb,dd,h _ _ (I.tok _) ?_⟩;rw[l];exact(rel.val k).getD rd
end
def c3w(td ty tx:TE):TE:=λσ H Q=>td σ H λx H1=>∃a,x=.ref a/\IsD H1 a/\ty σ H1 λy H2=>tx σ H2 λz H3=>∃o,DGet H3 a y o/\Q (o.getD z) H3
section
variable{X:Cx}{o e f:Expr}{apos cpos:Pos}{td ty tx:TE}
theorem b7m(hu:X.A.units+1<cLine)(ho:PE X o td)(he:PE X e ty)(hf:PE X f tx)(m:M2 X o "get" apos e f cpos):PE X (.Call (.Attribute o "get" apos) [e,f] [] cpos) (c3w td ty tx):=by
 intro pins s σ H Q I h;refine wpAny_Call_method m.base m.few m.line U3 Tf F.type_dict_get (thn (ho pins s σ H _ I h) λu s1 z9=>?_);obtain⟨x,H1,I1,rx,a,ex,d,q1⟩:=z9;subst ex;obtain rfl:u=Value.ref a:=rx;obtain⟨t1,t2,_⟩:=isD_at I1 d;refine⟨t1,t2,?_⟩;rw[m.trees]
 refine Ua rfl (So (W6 (thn (he pins s1 σ H1 _ I1 q1) λiv s2 ⟨y,H2,I2,ry,q2⟩=>
  W6 (thn (hf pins s2 σ H2 _ I2 q2) λfv s3 ⟨z,H3,I3,rz,ov,g,q3⟩=>Ve ?_))))
 exact d_get2 hu I3 g ry rz λw' s4 I4 rw'=>⟨_,H3,I4,rw',q3⟩
end
section
variable{X:Cx}{pins:List (Addr×Obj)}{σ:St}{H:Hp}{s:Shared}{a:Addr}{kvs:List (Key×V)}{A:Around}{E:Value->Shared->Prop}
theorem c6x{Q:Value->Shared->Prop}(I:Inv X pins σ H s)(e:Rd H a (.dK kvs))(h:∀p s',H p=none->Inv X pins σ (upd H p (.dK kvs)) s'->Q (.ref p) s'):wpAny (model X.prog X.w) A (call (.type "dict") [.ref a]) Q E s:=by
 obtain⟨z,hd,vs,rel,dd⟩:=a8e I.hok e;refine kt_call_dict hd dd (by rw[<-rel.length];exact z) λh' dd' hs=>?_
 refine h _ _ (I.hok.fresh (Zh _)) (I.laid (a:=s.heap.objs.size) (o:=.dK kvs) (t':=s.toks) (λb q hq=>?_) (Zh _) (b7l z (Yz.mpr (Ne.symm (Z0 I.big))) rel dd'));exact(hs.2 b (Z0 (Zl hq))).trans (Zc _ hq)
end
end L2
namespace Att
open PySem PySem.W PySem.Calls PyProof.Rows
theorem b4b{P:Params}{h:Heap}:∀(ns:List Int)(vs:List Value),WellAll P h vs (ns.map WData.int)->IntsAre vs ns:=by
 intro ns
 induction ns with
 |nil=>
  intro vs w;rw[Xd]at w;cases w;exact .nil
 |cons n ns ih=>
  intro vs w;rw[Z2]at w;cases w with
  |cons a b=>
   cases a;exact .cons _ _ (ih _ b)
theorem c3x{l:OpenLaw}{n:Nat}(hn:l.most=some n){P:Params}{h:Heap}{args:List WData}{vals:List Value}
  (hpre:l.row.toRowW.claim.pre args=true)(hwl:WellAll P h vals args):
  ∃a vs ns,vals=[Value.ref a]/\args=[WData.list (ns.map WData.int)]/\h.get? a=some { cls:=.type "list",data:=.seq vs.toArray}/\IntsAre vs ns/\ns.length<=n:=by
 have hsh:WShape.hasAll [] args [.list .int]=true:=(pre_splitW hpre).1;have hc:l.pre.holds [] { args:=args}=true:=(pre_splitW hpre).2;obtain⟨d,r,rfl,h1,h2⟩:=hasAllW_cons hsh;obtain rfl:=hasAllW_nil h2;obtain⟨xs,rfl,h3⟩:=hasW_list h1;obtain⟨ns,rfl⟩:=items_int h3;have hlen:ns.length<=n:=by
  unfold OpenLaw.pre at hc;have h4:(WTm.not (.lt (.lit (.int (n:Int))) (.len (.arg 0)))).holds [] { args:=[.list (ns.map .int)]}=true:=by
   have h4:=(holds_andW hc).1;rw[hn]at h4;exact h4
  have h5:=condW_of h4 (w_not (w_lt w_lit (w_len_list (w_arg rfl))));rw[length_map]at h5;refine Nat.le_of_not_lt λq=>?_
  have q':(n:Int)<((ns.length:Nat):Int):=by omega
  first
   | (rw[Zt q']at h5;exact absurd h5 qd)
   | (simp at h5;omega)
 cases hwl with
 |cons w1 w2=>
  cases w2;cases w1 with
  |list ho hall=>exact⟨_,_,ns,rfl,rfl,ho,b4b ns _ hall,hlen⟩
theorem c3y(l:OpenLaw)(args:List WData):l.row.toRowW.claim.post args (.bool true) args=true:=
 postW_of (r:=l.row.toRowW) (X:=(true==true))
  (show WShape.has [] (.bool true) .bool=true by first|rfl|decide|simp[WShape.has,WShape.arms,WShape.armsAll])
  (show(WTm.eq .res (.lit (.bool true))).value [] { args:=args,res:=some (.bool true),after:=args}=some (.bool (true==true))from w_eq_bool (w_res rfl) w_lit) rfl
end Att
namespace L2
open PySem PySem.Spec PyProof.Rows
theorem b5y:∀{vs:List Value}{ns:List Int},IntsAre vs ns->Vals (ns.map V.int) vs
 |_,_,.nil=>.nil
 |_,_,.cons n t h=>.cons ⟨t,rfl⟩ (b5y h)
def Only(H:Hp):Prop:=∀b,H b=none\/∃o xs,H b=some (.frz o (.lst xs))
theorem c6y{P:Program}{w:World}{K:W.Frag}{mg mb:Str->Option Value}{CX:CXT}{k:Nat}{fa a:Addr}{fd:FuncData}{x:Str}{sp:Sp}{s₁:Shared}{vs:List Value}{ns:List Int}
  (KX:K.In s₁.heap)(hns:s₁.heap.Ns mainGlobals mg)(hb:s₁.heap.Ns builtinsNs mb)(hbb:∀x:Str,x≠"__name__"->mb x=bootBuiltins x)(hlim:s₁.heap.NoLimit)(hg:s₁.gens= #[])
  (ha:s₁.heap.get? a=some { cls:=.type "list",data:=.seq vs.toArray})(hi:IntsAre vs ns)(hl:ns.length<=sizeLine)(hr:Room k callerA)
  (F:∀base:Heap,K.In base->base.Ns mainGlobals mg->FnOk P w K mg base CX k fa fd [x] sp)(hbind:∀(s:Shared)(u:Value),BindsTo s fd ⟨[u],[]⟩ [(x,u)])
  (hsp:∀H:Hp,Only H->SqL K H a (ns.map V.int)->sp [.ref a] H (λv _=>v=.bl true) λ_ _ _=>False)
  (hCX:∀H e s',CX [] H s₁ (λ_ _ _=>False) e s'->False):
  codeAny (model P w) callerA (.call (.ref fa) ⟨[.ref a],[]⟩) (λr s'=>r=.ok (.ret (.bool true))/\OldK s₁.heap s'.heap/\s'.os=s₁.os/\AllBare s'.gens) s₁:=by
 have rv:=b5y hi;have lenV:=hi.length;have core:∀H:Hp,Only H->SqL K H a (ns.map V.int)->HOk P w H s₁.heap->(∀b,H b≠none->b=a)->(H a≠none->K.lookup a=none)->
   codeAny (model P w) callerA (.call (.ref fa) ⟨[.ref a],[]⟩) (λr s'=>r=.ok (.ret (.bool true))/\OldK s₁.heap s'.heap/\s'.os=s₁.os/\AllBare s'.gens) s₁:=by
  intro H hO hS hok hA hK;have base_of:∀{b:Addr}{o:Obj},s₁.heap.get? b=some o->H b=none->(hidT s₁.heap H).get? b=some o:=λe n=>c6j e n
  have noA:∀{b:Addr}{o:Obj}{es:Array DictEntry}{ep:Nat},s₁.heap.get? b=some o->o.data=.dict es ep->H b=none:=λ{b o es ep} e d=>by
   cases q:H b with
   |none=>rfl
   |some u=>
    have e':b=a:=hA b (by rw[q];simp);subst e';rw[ha]at e;cases e;have d':Data.seq vs.toArray _=Data.dict es ep:=d;cases d'
  have nsK:∀{b:Addr}{m:Str->Option Value},s₁.heap.Ns b m->(hidT s₁.heap H).Ns b m:=λ{b m} ⟨o,es,ep,e,d,r⟩=>⟨o,es,ep,base_of e (noA e d),d,r⟩
  have hKb:K.In (hidT s₁.heap H):=λb o e=>base_of (KX b o e) (by
   cases q:H b with
   |none=>rfl
   |some u=>
    have e':b=a:=hA b (by rw[q];simp);subst e'
    rw[hK (by rw[q];simp)]at e;cases e)
  have hM:Mod K mg (hidT s₁.heap H):=⟨hKb,nsK hns,⟨mb,nsK hb,hbb⟩,let⟨mc,h1,h2⟩:=hlim;⟨mc,nsK h1,h2⟩⟩;have e0:Env0 P w K mg (hidT s₁.heap H) callerA [] s₁ H:=⟨rfl,hM,λb o e=>of_hidT e,Nat.le_of_eq (c3f _ _),trivial,λb hb=>absurd (show b∈([]:List Addr)from hb) qz,hok,.of_eq hg⟩;refine Ux ((F _ hKb (nsK hns)).run callerA [] s₁ H ⟨[.ref a],[]⟩ [.ref a] [.ref a] _ _ hr e0 (hbind s₁ (.ref a)) (.cons rfl .nil) (hsp H hO hS)) λr s' h=>?_
  cases r with
  |error e=>exact(hCX H e s' h).elim
  |ok fl=>
   cases fl with
   |next=>exact False.elim h
   |brk=>exact False.elim h
   |cont=>exact False.elim h
   |ret u=>
    obtain⟨v,H',os,bare,un,hok',r',q⟩:=h;have q':v=.bl true:=q;subst q';obtain rfl:u=Value.bool true:=r';refine⟨rfl,OldK.of_keep λb o e=>?_,os,bare⟩;cases q:H b with
    |none=>exact un.keep b o e q (by intro z;exact absurd (show b∈([]:List Addr)from z) qz) qz
    |some u=>
     rcases hO b with z|⟨ob,xs,z⟩
     ·rw[q]at z;cases z
     ·have z2:=un.frzs b ob _ z;obtain⟨e1,_⟩:=hok b _ z;obtain⟨e2,_⟩:=hok' b _ z2;rw[e]at e1;cases e1;exact e2
 cases hk:K.lookup a with
 |some o=>
  have e:=KX a o hk;rw[ha]at e;cases e;refine core (λ_=>none) (λ_=>.inl rfl) (.inr ⟨_,vs.toArray,_,hk,rfl,rfl,rfl,by rw[Zd,lenV];exact hl,by simpa using rv⟩) (λb u z=>by have z':(none:Option HO)=some u:=z;cases z') (λb z=>absurd rfl z) λz=>absurd rfl z
 |none=>
  refine core (λb=>if b=a then some (.frz { cls:=.type "list",data:=.seq vs.toArray} (.lst (ns.map V.int)))else none) (λb=>?_) (.inl (.inr ⟨{ cls:=.type "list",data:=.seq vs.toArray},if_pos rfl⟩)) (λb u z=>?_) (λb z=>?_) λ_=>hk
  ·by_cases hb:b=a
   ·exact .inr ⟨_,_,if_pos hb⟩
   ·exact .inl (if_neg hb)
  ·by_cases hb:b=a
   ·have z':=(if_pos hb).symm.trans z;cases z';subst hb;exact⟨ha,by rw[length_map];exact hl,vs,_,rv,ha⟩
   ·have z':=(if_neg hb).symm.trans z;cases z'
  ·by_cases hb:b=a
   ·exact hb
   ·exact absurd (if_neg hb) z
abbrev KOf{K:W.Frag}{h:Heap}(_:K.In h):W.Frag:=K
noncomputable def inClass(s:Stmt)(j:Nat):Stmt:=match s with
 | .ClassDef _ _ _ body _ _ _ _ _ _ _=>body.getD j (.Pass ⟨0,0,0,0⟩)
 |_=>.Pass ⟨0,0,0,0⟩
def b1t(s:Stmt):Arguments:=match s with
 | .FunctionDef _ a _ _ _ _ _ _ _ _=>a
 |_=>{ posonlyargs:=[],args:=[],vararg:=none,kwonlyargs:=[],kw_defaults:=[],kwarg:=none,defaults:=[]}
def a8v(s:Stmt):List Stmt:=match s with
 | .FunctionDef _ _ b _ _ _ _ _ _ _=>b
 |_=>[]
def a0n(s:Stmt):Scope:=match s with
 | .FunctionDef _ _ _ _ _ _ sc _ _ _=>sc
 |_=>{ kind:=.function,names:=[],isGenerator:=false,isCoroutine:=false}
abbrev CX0:CXT:=λ_ _ _ _ _ _=>False
abbrev E0:XK:=λ_ _ _=>False
theorem a0v{X:Cx}:a8t CX0 X E0:=λ_ _ _ _ _ _ _ h=>h.elim
structure Fun(K:W.Frag)(x qual:Str)(st:Stmt)(f:Addr)(fd:FuncData):Prop where
 ex:∃(oc:Value)(od:Option Addr)(kV doc pm:Value)(an:Option Addr)(cdv ct:Value)(osl:Array (Option Value)),
  fd=W.fnOf x qual (b1t st) (a8v st) (a0n st) .none kV doc pm an cdv ct/\K.lookup f=some ⟨oc,od,.func fd,osl⟩/\W.codeIn K cdv qual=true
 kp:W.keepIn K (.ref f)=true
section
variable{P:Program}{w:World}{K:W.Frag}{mg:Str->Option Value}{base:Heap}
theorem Fun.ok{x qual:Str}{st:Stmt}{f:Addr}{fd:FuncData}{N ps:List Str}{k:Nat}{sp:Sp}(F:Fun K x qual st f fd)(S:a0z N ps (a0n st))(len:∀vs H Q E,sp vs H Q E->vs.length=ps.length)
  (hbody:∀(cdv:Value)(A:Around)(outer:List Env)(s:Shared)(H:Hp)(vs:List V)(Q:VK)(E:XK),Room k (A.deeper (envOfC qual (a0n st) s.heap.objs.size f cdv))->sp vs H Q E->
   ∃t,PSs (cxOf CX0 P w K mg base N qual (a0n st) f cdv A outer s H E).nox (a8v st) t/\t { nx:=λ_ H'=>Q .non H',rt:=Q} (start N vs) H):FnOk P w K mg base CX0 (k+1) f fd ps sp:=by
 obtain⟨oc,od,kV,doc,pm,an,cdv,ct,osl,rfl,lk,hcd⟩:=F.ex;refine fn_of lk hcd S len λA outer s H vs Q E hr hsp=>?_
 obtain⟨t,h,q⟩:=hbody cdv A outer s H vs Q E hr hsp;exact⟨t,h.nox,q⟩
theorem fun_mk{x qual:Str}{st:Stmt}{f:Addr}{oc:Value}{od an:Option Addr}{osl:Array (Option Value)}{kV doc pm cdv ct:Value}(l:K.lookup f=some ⟨oc,od,.func (W.fnOf x qual (b1t st) (a8v st) (a0n st) .none kV doc pm an cdv ct),osl⟩)
  (c:W.codeIn K cdv qual=true)(k:W.keepIn K (.ref f)=true):Fun K x qual st f (W.fnOf x qual (b1t st) (a8v st) (a0n st) .none kV doc pm an cdv ct):=⟨⟨oc,od,kV,doc,pm,an,cdv,ct,osl,rfl,l,c⟩,k⟩
end
theorem a9j{A:Around}{k:Nat}(hr:Room k A):A.units+1<cLine:=Nat.lt_of_le_of_lt (Nat.add_le_add_left (by decide:1<=64) _) hr.units
theorem iteF{A B:Prop}(h:B):if false=true then A else B:=by
 rw[if_neg Zn];exact h
theorem iteT{A B:Prop}(h:A):if true=true then A else B:=by
 rw[if_pos rfl];exact h
def Same(H H':Hp):Prop:=∀b o,H b=some o->H' b=some o
theorem Same.refl(H:Hp):Same H H:=λ_ _ h=>h
theorem Same.trans{H H1 H2:Hp}(a:Same H H1)(b:Same H1 H2):Same H H2:=λc o h=>b c o (a c o h)
theorem Same.seq{K:W.Frag}{H H':Hp}{a:Addr}{xs:List V}(e:Same H H')(h:SqL K H a xs):SqL K H' a xs:=by
 rcases h with(h|⟨o,h⟩)|h
 ·exact .inl (.inl (e _ _ h))
 ·exact .inl (.inr ⟨o,e _ _ h⟩)
 ·exact .inr h
section
variable{X:Cx}
theorem c3z:a2k X (.builtin "len") (λxs H Q=>∃a kvs,xs=[V.ref a]/\H a=some (.dK kvs)/\Q (.int kvs.length) H):=by
 intro pins s σ H xs us Q I r h;obtain⟨a,kvs,rfl,ha,q⟩:=h;obtain⟨u,rfl,ru⟩:=vals1 r;cases ru;exact d_len I (.inl ha) λt s' I'=>⟨.int kvs.length,H,I',⟨t,rfl⟩,q⟩
end
end L2
set_option maxHeartbeats 4000000
namespace My
open PySem PySem.W PySem.Calls PyProof.Rows
theorem b4c{tb:String->Option Builtin}{p:Program}{w:World}{n₀:Nat}{ann:Option Value}:∀{n:Nat}{s s':Shared}{t:Thread}{f:Flow}{c:Code}{q:Pos},segRun tb p w n₀ ann 0 n s t=some (f,s',c,q)->topRun tb p w n₀ ann n s t=some s'
 |0,_,_,_,_,_,_,h=>by cases h
 |n+1,s,s',t,f,c,q,h=>by
  unfold segRun at h;unfold topRun;cases he:endAt 0 t with
  |some x=>
   rw[he]at h;cases h;have:through t=true:=by
    unfold endAt at he;unfold through;obtain⟨cur,code,pos,st⟩:=t;cases st with
    |nil=>split at he<;>simp_all
    |cons a b=>simp at he
   rw[this]
  |none=>
   have:through t=false:=by
    unfold endAt at he;unfold through;obtain⟨cur,code,pos,st⟩:=t;cases st with
    |nil=>
     dsimp only at he ⊢
     split at he
     ·cases he
     ·rename_i h1;simp only[List.isEmpty_nil,Yr]
      split
      ·exact(h1 _ rfl rfl).elim
      ·rfl
    |cons a b=>rfl
   rw[he]at h;rw[this];cases hk:stepOk n₀ ann t with
   |false=>rw[hk]at h;cases h
   |true=>
    rw[hk]at h;cases hs:step (denote tb) p w s t with
    |halt o x=>rw[hs]at h;cases h
    |go s₂ t₂=>rw[hs]at h;exact b4c h
noncomputable def bootT(P:Params):BT:=.node (boot_o_0 P) (.node (boot_o_1 P) (.node (boot_o_3 P) (.node (boot_o_7 P) .nil .nil) .nil) (.node (boot_o_5 P) (.node (boot_o_9 P) .nil .nil) .nil)) (.node (boot_o_2 P) (.node (boot_o_4 P) (.node (boot_o_8 P) .nil .nil) .nil) (.node (boot_o_6 P) (.node (boot_o_10 P) .nil .nil) .nil))
theorem boot_abs(P:Params):absHeap (bootT P) 11 {}=boot_heap P:=by kernel_rfl
noncomputable def bootS(w:World)(os:OsState):SharedT:=⟨bootT w.params,11,{},#[],boot_drawn,boot_toks,os⟩
noncomputable def looks{α:Type}(p q:Program)(loose:List Str)(Xt:Shared->Bool)(Yf:Shared->α)(g0:Bool)(h₀:Heap)(s:Shared):=
 ((staticsOk (importedModules p.main.body) h₀ s.heap&&namesBound p s.heap&&gensDone s&&laidKept h₀ s.heap),openSeen q loose (importedModules p.main.body) Xt g0 s,Yf s)
theorem left_of{p q:Program}{loose:List Str}{Xt:Shared->Bool}{α:Type}{Yf:Shared->α}{Ya:World->α}{N M:Nat}{g0:Bool}
  (e:opening p=plainProg p.main.scope.names)(hN:Nat.ble 600 N=true)(f:∀s,fenceModules? p s=some s)
  (size:∀w:World,((boot_heap w.params).isNs mainGlobals,(boot_heap w.params).nsMap mainGlobals "__annotations__")=(true,some (.ref 6)))
  (le:Nat.ble M N=true)
  (run:∀w:World,(λos=>(segRunT treeTable p w 11 (some (.ref 6)) 0 M (bootS w os) (topStub p)).map λr=>looks p q loose Xt Yf g0 (boot_heap w.params) r.2.1.abs)=λ_=>some (true,openGood q loose,Ya w)):
  LeftO p q loose Xt Yf Ya N g0:=λw=>by
 obtain⟨⟨h,gs,d,k,os⟩,e1,e2⟩:=V9.mp (boot_open e hN f w);obtain⟨rfl,rfl,rfl,rfl⟩:h=boot_heap w.params/\gs= #[]/\d=boot_drawn/\k=boot_toks:=by simpa using e2
 obtain⟨z1,z3⟩:_/\_:=by simpa only[Prod.mk.injEq]using size w
 obtain⟨⟨fl,s,c,ps⟩,r1,r2⟩:=V9.mp (congrFun (run w) os);obtain⟨l1,l2,l3⟩:_/\_/\_:=by simpa only[looks,Prod.mk.injEq]using r2
 have r:=topRun_mono (N-M) _ _ _ _ (b4c (segRun_of r1));rw[show M+(N-M)=N by have:=Nat.le_of_ble_eq_true le;omega]at r;have t:topFrom treeTable p w N ⟨boot_heap w.params,#[],boot_drawn,boot_toks,os⟩=some s.abs:=by
  unfold topFrom
  dsimp only
  rw[z1]
  show(topRun treeTable p w 11 _ N ⟨boot_heap w.params,#[],boot_drawn,boot_toks,os⟩ (topStub p)).bind _=_
  rw[z3];have r':topRun treeTable p w 11 (some (.ref 6)) N ⟨boot_heap w.params,#[],boot_drawn,boot_toks,os⟩ (topStub p)=some s.abs:=by
   rw[<-boot_abs];exact r
  rw[r']
  show(match staticsOk (importedModules p.main.body) (boot_heap w.params) s.abs.heap&&namesBound p s.abs.heap&&gensDone s.abs&&laidKept (boot_heap w.params) s.abs.heap with|true=>some s.abs|false=>none)=some s.abs
  rw[l1]
 unfold openEnds;rw[e1]
 show((topFrom treeTable p w N ⟨boot_heap w.params,#[],boot_drawn,boot_toks,os⟩).map _)=_
 rw[t];exact Xj some (by dsimp only;rw[l2,l3])
theorem c4a(w:World):((boot_heap w.params).isNs mainGlobals,(boot_heap w.params).nsMap mainGlobals "__annotations__")=(true,some (.ref 6)):=by kernel_rfl
end My
lay_quick PySem.W.topStub PySem.W.openGood PySem.W.SharedT.abs PySem.W.xlAt PySem.W.recOk PySem.W.view My.looks
namespace L2
open PySem PySem.Spec PyProof.Rows
def clOf(env:Env):List (Str×NameKind)->List (Str×Addr)->List (Str×Addr)
 | [],acc=>acc
 | (n,k)::r,acc=>if k=.free then clOf env r ((n,(env.cells.lookup n).getD 0)::acc)else clOf env r acc
theorem b2z{env:Env}(f:(Str×NameKind)->List (Str×Addr)->Sem (ForInStep (List (Str×Addr))))
  (h1:∀n r c,env.cells.lookup n=some c->f (n,.free) r=pure (.yield ((n,c)::r)))(h2:∀n k r,k≠.free->f (n,k) r=pure (.yield r)):
  ∀(l:List (Str×NameKind))(acc:List (Str×Addr)),(∀y∈l,y.2=.free->∃c,env.cells.lookup y.1=some c)->forIn l acc f=pure (clOf env l acc)
 | [],acc,_=>by rw[Vc];rfl
 | (n,k)::r,acc,h=>by
  have hr:∀y∈r,y.2=.free->∃c,env.cells.lookup y.1=some c:=λy hy=>h y (Zv _ hy)
  rw[W2]
  by_cases hk:k=.free
  ·subst hk;obtain⟨c,hc⟩:=h _ Ye rfl;have hc:env.cells.lookup n=some c:=hc;rw[h1 n acc c hc];have ih:=b2z f h1 h2 r ((n,c)::acc) hr
   show(forIn r ((n,c)::acc) f)=_
   rw[ih];unfold clOf;rw[if_pos rfl,hc];rw[<-clOf.eq_def];rfl
  ·rw[h2 n k acc hk];have ih:=b2z f h1 h2 r acc hr
   show(forIn r acc f)=_
   rw[ih]
   conv=>rhs;unfold clOf
   rw[if_neg hk]
theorem b4d{scope:Scope}{env:Env}(h:∀y∈scope.names,y.2=.free->∃c,env.cells.lookup y.1=some c):closureFor scope env=pure (clOf env scope.names []):=by
 unfold closureFor;have e:=b2z (env:=env) (λx r=>if x.2==NameKind.free then do let c <-cellOf env x.1;pure (ForInStep.yield ((x.1,c)::r))else pure (ForInStep.yield r))
  (λn r c hc=>by
   have e:cellOf env n=pure c:=by unfold cellOf;rw[hc]
   show(if(NameKind.free==NameKind.free)=true then _ else _)=_
   rw[if_pos qd,e]
   rfl)
  (λn k r hk=>by
   show(if(k==NameKind.free)=true then _ else _)=_
   rw[if_neg (by intro z;exact hk (eq_of_beq z))]) scope.names [] h
 exact(Xj (λm=>m>>=λcs=>(pure cs:Sem (List (Str×Addr)))) e)
theorem b3a{env:Env}:∀(l:List (Str×NameKind))(acc:List (Str×Addr))(y:Str)(c:Addr),(∀y∈l,y.2=.free->∃c,env.cells.lookup y.1=some c)->(∀y c,acc.lookup y=some c->env.cells.lookup y=some c)->
  (clOf env l acc).lookup y=some c->env.cells.lookup y=some c
 | [],acc,y,c,_,ha,e=>ha y c e
 | (n,k)::r,acc,y,c,h,ha,e=>by
  have hr:∀y∈r,y.2=.free->∃c,env.cells.lookup y.1=some c:=λy hy=>h y (Zv _ hy)
  unfold clOf at e
  by_cases hk:k=.free
  ·rw[if_pos hk]at e;refine b3a r _ y c hr (λz d q=>?_) e;rw[Xy]at q;cases hz:z==n with
   |true=>
    rw[hz]at q;have q':(env.cells.lookup n).getD 0=d:=Zk q;obtain⟨c',hc'⟩:=h _ Ye hk;have hc':env.cells.lookup n=some c':=hc';rw[hc']at q';have q':c'=d:=q';rw[eq_of_beq hz,hc',q']
   |false=>
    rw[hz]at q;exact ha z d q
  ·rw[if_neg hk]at e;exact b3a r acc y c hr ha e
theorem b3b{env:Env}:∀(l:List (Str×NameKind))(acc:List (Str×Addr))(y:Str),(∃c,acc.lookup y=some c)->∃c,(clOf env l acc).lookup y=some c
 | [],_,_,h=>h
 | (n,k)::r,acc,y,h=>by
  unfold clOf
  by_cases hk:k=.free
  ·rw[if_pos hk];refine b3b r _ y ?_;rw[Xy];cases hz:y==n with
   |true=>exact⟨_,rfl⟩
   |false=>exact h
  ·rw[if_neg hk];exact b3b r acc y h
theorem a9k{env:Env}:∀(l:List (Str×NameKind))(acc:List (Str×Addr))(y:Str),(y,NameKind.free)∈l->∃c,(clOf env l acc).lookup y=some c
 | [],_,_,h=>by simp at h
 | (n,k)::r,acc,y,h=>by
  unfold clOf
  by_cases hk:k=.free
  ·rw[if_pos hk];rcases Zp.mp h with e|e
   ·refine b3b r _ y ?_;have e1:y=n:=Xj Prod.fst e;rw[Xy,e1]
    simp
   ·exact a9k r _ y e
  ·rw[if_neg hk];rcases Zp.mp h with e|e
   ·exact absurd (Xj Prod.snd e).symm hk
   ·exact a9k r acc y e
theorem a5v(scope:Scope)(env:Env)(y:Str):(relabel scope env).names.lookup y=(scope.names.lookup y).map λk=>if(k==NameKind.free&&env.scope.kind==.function&&env.kindOf y==some .cell)=true then .cell else k:=by
 show(scope.names.map _).lookup y=_
 induction scope.names with
 |nil=>rfl
 |cons p r ih=>
  obtain⟨n,k⟩:=p;rw[Z2,Xy (a:=y) (k:=n) (b:=k)];cases hz:y==n with
  |true=>
   have e:y=n:=eq_of_beq hz;subst e
   show List.lookup y ((if(k==NameKind.free&&env.scope.kind==.function&&env.kindOf y==some .cell)=true then(y,NameKind.cell)else(y,k))::_)=some (if _ then _ else _)
   by_cases hc:(k==NameKind.free&&env.scope.kind==.function&&env.kindOf y==some .cell)=true
   ·rw[if_pos hc,if_pos hc];simp
   ·rw[if_neg hc,if_neg hc];simp
  |false=>
   show List.lookup y ((if(k==NameKind.free&&env.scope.kind==.function&&env.kindOf n==some .cell)=true then(n,NameKind.cell)else(n,k))::_)=_
   by_cases hc:(k==NameKind.free&&env.scope.kind==.function&&env.kindOf n==some .cell)=true
   ·rw[if_pos hc,Xy,hz];exact ih
   ·rw[if_neg hc,Xy,hz];exact ih
def a2s(X:Cx)(scope:Scope)(x:Str)(N':List Str)(C:Addr)(s:Shared)(H:Hp)(fp:List Addr)(pn:List (Addr×Obj)):Cx where
 prog:=X.prog
 w:=X.w
 K:=X.K
 mg:=X.mg
 base:=X.base
 A:=X.A
 N:=x::N'
 s₀:=s
 H₀:=H
 env:=compEnvC scope (clOf X.env scope.names []) C X.env
 outer:=X.stack
 stack:=X.stack
 ex:=fp
 fn:=λ_=>false
 calm:=X.calm
 pn:=pn
 xe:=λ_ _=>False
section
variable{X:Cx}{pins:List (Addr×Obj)}{σ:St}{H:Hp}{s:Shared}
structure b0p(X:Cx)(scope:Scope)(x:Str)(N':List Str):Prop where
 loc:scope.names.lookup x=some .local
 nocell:∀y∈scope.names,y.2≠.cell
 kind:scope.kind=.function
 names:∀y∈scope.names,y.2=.local->scope.names.lookup y.1=some .local
 free:∀y∈scope.names,y.2=.free->X.env.kindOf y.1=some .cell\/X.env.kindOf y.1=some .free
 nin:x∉N'
 nd:N'.Nodup
 len:N'.length=X.N.length
 sub:∀(i:Nat)(y:Str),N'[i]? =some y->X.N[i]? =some y\/scope.names.lookup y=none
 only:∀y∈scope.names,y.2=.local->y.1=x\/y.1∉N'
theorem Inv.compIn{scope:Scope}{x:Str}{N':List Str}{fp:List Addr}{h1:Heap}{tk:Nat}{m:Str->Option Value}(S:b0p X scope x N')(I:Inv X pins σ H s)(hf:∀b∈fp,FpOk X pins H b)(hfl:∀b∈fp,b<s.heap.objs.size)
  (hn:h1.Ns s.heap.objs.size m)(hsb:∀b o,s.heap.get? b=some o->h1.get? b=some o):
  Inv (a2s X scope x N' s.heap.objs.size s H fp (X.pn++pins)) [] (none::σ) H { s with heap:=h1,toks:=tk}:=by
 have hcells:∀y∈scope.names,y.2=.free->∃c,X.env.cells.lookup y.1=some c:=λy hy hk=>I.ok.has y.1 (S.free y hy hk)
 have sub:∀y c,(clOf X.env scope.names []).lookup y=some c->X.env.cells.lookup y=some c:=λy c e=>b3a _ _ y c hcells (λz d q=>by simp at q) e
 have lk:∀(y:Str)(k:NameKind),(relabel scope X.env).names.lookup y=some k->k=.cell\/k=.free->scope.names.lookup y=some .free:=λy k e hk=>by
  rw[a5v]at e;cases q:scope.names.lookup y with
  |none=>rw[q]at e;cases e
  |some k0=>
   rw[q]at e;have e':(if(k0==NameKind.free&&X.env.scope.kind==.function&&X.env.kindOf y==some .cell)=true then NameKind.cell else k0)=k:=Zk e
   by_cases hc:(k0==NameKind.free&&X.env.scope.kind==.function&&X.env.kindOf y==some .cell)=true
   ·simp only[Xl]at hc;rw[eq_of_beq hc.1.1]
   ·rw[if_neg hc]at e';subst e';rcases hk with hk|hk
    ·exact absurd hk (S.nocell _ (Y0 q))
    ·rw[hk]
 have lt:∀{b:Addr}{o:Obj},s.heap.get? b=some o->b≠s.heap.objs.size:=λe=>Z0 (Zl e)
 refine⟨⟨I.ok.mod,by show(relabel scope X.env).kind=_;exact S.kind,I.ok.glob,I.ok.blt,Zh _,λy z c e1 e2=>I.ok.inj y z c (sub y c e1) (sub z c e2),λy hy=>?_,λy c hz=>(by cases hz),I.ok.hd,I.ok.frames,.inl rfl,
  λb hb=>⟨Z0 (hfl b hb),λy c e=>(hf b hb).2.2.2.2.1 y c (sub y c e)⟩,I.bs,Yk I.ok.bsz I.sz,λb o e hb=>?_,λb hb hz=>?_,I.stack,I.stkFree⟩,
  rfl,I.bare,Un.kept hsb,⟨m,hn,λi y v h1 h2 h3=>?_⟩,λy c e=>?_,I.hok.fresh (Zh _),λy c e=>I.freeC y c (sub y c e),λp hp=>?_,I.hok.kept hsb,?_⟩
 ·have hy:(relabel scope X.env).names.lookup y=some .cell\/(relabel scope X.env).names.lookup y=some .free:=hy;have q:scope.names.lookup y=some .free:=hy.elim (λz=>lk y _ z (.inl rfl)) λz=>lk y _ z (.inr rfl)
  exact a9k _ _ y (Y0 q)
 ·obtain⟨_,_,_,f3,_,_⟩:=hf b hb;rcases f3 with f3|f3
  ·exact I.ok.noex b o e f3
  ·exact absurd (Z6 (Zl e) (Yk I.ok.bsz f3)) (Y5 _)
 ·have hz:b∈frs X.stack:=hz;obtain⟨_,f1,f2,_⟩:=hf b hb;rcases Zp.mp (I.stkSub b hz)with z|z
  ·exact f1 z
  ·exact f2 z
 ·cases i with
  |zero=>simp at h2
  |succ i=>
   have h1:N'[i]? =some y:=by simpa[a2s]using h1
   have h2:σ[i]? =some (some v):=by simpa using h2
   have hne:N'[i]? ≠some x:=λz=>S.nin (Xa z)
   have h3:Vis (relabel scope X.env) y:=h3;obtain⟨m',hn',hl'⟩:=I.loc;have q:scope.names.lookup y=some .free:=by
    rcases h3 with z|z|z
    ·exfalso
     rw[a5v]at z;cases q:scope.names.lookup y with
     |none=>rw[q]at z;cases z
     |some k0=>
      rw[q]at z;have e':(if(k0==NameKind.free&&X.env.scope.kind==.function&&X.env.kindOf y==some .cell)=true then NameKind.cell else k0)=.local:=Zk z
      by_cases hc:(k0==NameKind.free&&X.env.scope.kind==.function&&X.env.kindOf y==some .cell)=true
      ·rw[if_pos hc]at e';cases e'
      ·rw[if_neg hc]at e';subst e';rcases S.only _ (Y0 q) rfl with w|w
       ·exact hne (by rw[h1];exact Xj some w)
       ·exact w (Xa h1)
    ·exact lk y _ z (.inl rfl)
    ·exact lk y _ z (.inr rfl)
   obtain⟨c,hc⟩:=a9k (env:=X.env) scope.names [] y (Y0 q);have hk:X.env.kindOf y=some .cell\/X.env.kindOf y=some .free:=S.free _ (Y0 q) rfl;have h1':X.N[i]? =some y:=(S.sub i y h1).resolve_right λz=>by rw[q]at z;cases z
   obtain⟨u,r,l⟩:=hl' i y v h1' h2 (.inr hk);refine⟨u,r,?_⟩;have kd:(compEnvC scope (clOf X.env scope.names []) s.heap.objs.size X.env).kindOf y=some .cell\/(compEnvC scope (clOf X.env scope.names []) s.heap.objs.size X.env).kindOf y=some .free:=by
    rcases h3 with z|z|z
    ·exfalso
     rw[a5v,q]at z;have e':(if(NameKind.free==NameKind.free&&X.env.scope.kind==.function&&X.env.kindOf y==some .cell)=true then NameKind.cell else NameKind.free)=.local:=Zk z
     by_cases hc:(NameKind.free==NameKind.free&&X.env.scope.kind==.function&&X.env.kindOf y==some .cell)=true
     ·rw[if_pos hc]at e';cases e'
     ·rw[if_neg hc]at e';cases e'
    ·exact .inl z
    ·exact .inr z
   rcases l with⟨a,_⟩|⟨_,c',hc',ic⟩
   ·rcases hk with k|k<;>(rw[k]at a;cases a)
   ·have e:X.env.cells.lookup y=some c:=sub y c hc;rw[e]at hc';cases hc';obtain⟨o,ho,hd⟩:=ic;exact .inr ⟨kd,c,hc,⟨o,hsb _ _ ho,hd⟩⟩
 ·obtain⟨v,o,ho,hd⟩:=I.cell y c (sub y c e);exact⟨v,o,hsb _ _ ho,hd⟩
 ·have hp:p∈X.pn++pins:=by
   have hp:p∈(X.pn++pins)++[]:=hp;rwa[Xi]at hp
  obtain⟨e,n,ne,nf,d⟩:=I.pin p hp;refine⟨hsb _ _ e,n,lt e,λhz=>?_,d⟩;have hz:p.1∈frs X.stack:=hz;rcases Zp.mp (I.stkSub _ hz)with z|z
  ·exact ne z
  ·exact nf z
 ·show(none::σ).length=(x::N').length
  rw[length_cons,length_cons,I.len,S.len]
def PTs(X:Cx)(ifs:List Expr)(t:TT):Prop:=
 ∀(pins:List (Addr×Obj))(s:Shared)(σ:St)(H:Hp)(Q:Bool->Hp->Prop)(E:Value->Shared->Prop),Inv X pins σ H s->t σ H Q->
  wpAny (model X.prog X.w) X.A (forIn ifs true λc r=>if r=true then do let ok <-isTrue c X.env (eval c X.env);pure (ForInStep.yield ok)else pure (ForInStep.yield r)) (TP X pins σ Q) E s
def tYes:TT:=λ_ H Q=>Q true H
theorem a1y:PTs X [] tYes:=λ_ _ _ H _ _ I h=>wpAny_tests_nil ⟨H,I,h⟩
theorem c0m{c:Expr}{t:TT}(h:PT X c t)(hx:∀e s,X.xe e s->False):PTs X [c] t:=λpins s σ H Q _ I hw=>
 wpAny_tests_one (W4 (h pins s σ H Q I hw) (λ_ _ q=>q) λe s' z=>(hx e s' z).elim)
theorem c4b{prog:Program}{w:World}{A:Around}{R:Result->Shared->Prop}{s:Shared}{elt target iter:Expr}{ifs:List Expr}{scope:Scope}{pos:Pos}{it acc:Value}{env:Env}(J:Nat->Shared->Prop)
  (turn:∀n s,J n s->wpAny (model prog w) A (pyNext it) (λr s1=>match r with
   |none=>R (.ok .next) s1
   |some v=>wpAny (model prog w) A (letOwnedTupleGo target it v) (λ_ s2=>wpAny (model prog w) A (assign target env v) (λ_ s3=>
     wpAny (model prog w) A (forIn ifs true λc r=>if r=true then do let ok <-isTrue c env (eval c env);pure (ForInStep.yield ok)else pure (ForInStep.yield r)) (λok s4=>
      if ok=true then wpAny (model prog w) A (eval elt env) (λy s5=>wpAny (model prog w) A (call (.builtin "list.append") [acc,y]) (λ_ s6=>∃m,m<n/\J m s6) (λ_ _=>False) s5) (λ_ _=>False) s4
      else ∃m,m<n/\J m s4) (λ_ _=>False) s3) (λ_ _=>False) s2) (λ_ _=>False) s1) (λ_ _=>False) s)
  (n:Nat)(h:J n s):codeAny (model prog w) A (.compLoop (.ListComp elt [⟨target,iter,ifs,0⟩] scope pos) 0 it acc env) R s:=by
 have no:∀{α:Type}{t:Sem α}{Q:α->Shared->Prop}{E:Value->Shared->Prop}{s:Shared},wpAny (model prog w) A t Q (λ_ _=>False) s->wpAny (model prog w) A t Q E s:=
  λq=>W4 q (λ_ _ z=>z) λ_ _ z=>z.elim
 refine codeAny_loop rfl J (λn s hJ=>?_) n h;refine wpAny_noted (m:=compTurn (.ListComp elt [⟨target,iter,ifs,0⟩] scope pos) 0 it acc env) ?_;rw[compTurn_list];refine Zb (Tl (Zb (no (thn (turn n s hJ) λr s1 q1=>?_))));cases r with
 |none=>exact Ze q1
 |some v=>
  refine no ?_;refine Zb (thn q1 λ_ s2 q2=>Zb (thn q2 λ_ s3 q3=>Zb (thn q3 λok s4 q4=>?_)));cases ok with
  |false=>exact Ze ⟨rfl,q4⟩
  |true=>exact Zb (Zb (thn q4 λy s5 q5=>Zb (thn q5 λ_ s6 q6=>Ze (Ze ⟨rfl,q6⟩))))
def b4e(J:It)(tt:TT)(te:TE)(σ:St)(Q:VK)(D:Addr)(H1:Hp):Prop:=∃W:Nat->Nat->List V->Hp->Prop,(∃m,W 0 m [] (upd H1 D (.lst [])))/\
 ∀i m ys H',W i m ys H'->(J.stop i H'/\Q (.ref D) H')\/(J.go i H'/\∀v H2,J.yld i H' v H2->tt (some v::σ) H2 λb H3=>
  if b=true then te (some v::σ) H3 λy H4=>H4 D=some (.lst ys)/\ys.length<sizeLine/\∃m',m'<m/\W (i+1) m' (ys++[y]) (upd H4 D (.lst (ys++[y])))
  else ∃m',m'<m/\W (i+1) m' ys H3)
def tComp(wi:TI)(tt:TT)(te:TE):TE:=λσ H Q=>wi σ H λJ H1=>∀D,H1 D=none->b4e J tt te σ Q D H1
theorem b5z{elt iter:Expr}{x:Str}{N':List Str}{px:Pos}{ifs:List Expr}{scope:Scope}{pos:Pos}{tt:TT}{te:TE}(hc:X.calm=true)(S:b0p X scope x N')
  (ht:∀C s H fp pn,PTs (a2s X scope x N' C s H fp pn) ifs tt)(he:∀C s H fp pn,PE (a2s X scope x N' C s H fp pn) elt te){Q:VK}{itv:Value}{s2:Shared}{RR:Value->Addr->Result->Shared->Prop}
  (h2:PIE X pins σ (.Name x px) (λJ H1=>∀D,H1 D=none->b4e J tt te σ Q D H1) itv s2)
  (hend:∀(D C:Addr)(H6:Hp)(s7:Shared)(m7:Str->Option Value),Inv X pins σ H6 s7->s7.heap.Ns C m7->FpOk X pins H6 C->Q (.ref D) H6->RR (.ref D) C (.ok .next) s7):
  wpAny (model X.prog X.w) X.A (newList []) (λacc s3=>wpAny (model X.prog X.w) X.A (newFunctionEnv scope X.env.globals (clOf X.env scope.names []) [] X.env.qual none .none (some X.env)) (λcenv s4=>
   codeAny (model X.prog X.w) X.A (.compStart (.ListComp elt [⟨.Name x px,iter,ifs,0⟩] scope pos) 0 itv acc { cenv with scope:=relabel scope X.env}) (RR acc cenv.locals) s4) X.xe s3) X.xe s2:=by
 obtain⟨it,fp,tn,J,H2,e,I2,T,st2,f2,hW⟩:=h2;subst e;have hlt:∀b∈fp,b<s2.heap.objs.size:=λb hb=>by
  obtain⟨o,ho,_⟩:=T.obj _ _ st2 b hb;exact Zl ho
 obtain⟨W,⟨m0,w0⟩,hturn⟩:=hW s2.heap.objs.size (I2.hok.fresh (Zh _));refine Y4 ?_ (by show 0<=sizeLine;exact Yc _);have I3:Inv X pins σ (upd H2 s2.heap.objs.size (.lst [])) { s2 with heap:=s2.heap.push { cls:=.type "list",data:=.seq ([]:List Value).toArray}}:=I2.lnew (t':=s2.toks) .nil (Yc _);have f3:∀b∈fp,FpOk X pins (upd H2 s2.heap.objs.size (.lst [])) b:=λb hb=>by
  obtain⟨g0,g⟩:=f2 b hb;exact⟨by rw[a0p (Z0 (hlt b hb))];exact g0,g⟩
 have st3:tn 0 (s2.heap.push { cls:=.type "list",data:=.seq ([]:List Value).toArray}):=T.keep _ _ _ st2 λb _ o e=>Zc _ e
 have hlt3:∀b∈fp,b<(s2.heap.push { cls:=.type "list",data:=.seq ([]:List Value).toArray}).objs.size:=λb hb=>by rw[Yd];exact Vb (hlt b hb)
 generalize hs3:({ s2 with heap:=s2.heap.push { cls:=.type "list",data:=.seq ([]:List Value).toArray}}:Shared)=s3 at I3;have eh:s3.heap=s2.heap.push { cls:=.type "list",data:=.seq ([]:List Value).toArray}:=by rw[<-hs3]
 rw[<-eh]at st3 hlt3
 show wpAny _ _ (newFunctionEnv scope X.env.globals (clOf X.env scope.names []) [] X.env.qual none .none (some X.env)) _ _ _
 refine wpAny_newFunctionEnv S.nocell (by intro y hy;simp at hy) (λh4 hns4 hsb4=>?_) S.kind;have hk4:∀b o,s3.heap.get? b=some o->h4.get? b=some o:=λb o e=>(hsb4.2 b (Z0 (Zl e))).trans (Zc _ e)
 have I4:=Inv.compIn (tk:=s3.toks+([]:List (Str×Value)).length) S I3 f3 hlt3 hns4 hk4;have st4:tn 0 h4:=T.keep _ _ _ st3 λb _ o e=>hk4 b o e
 have fx:∀{H':Hp},(∀b∈fp,H' b=none)->∀b∈fp,FpOk (a2s X scope x N' s3.heap.objs.size s3 (upd H2 s2.heap.objs.size (.lst [])) fp (X.pn++pins)) [] H' b:=λ{H'} hn b hb=>by
  obtain⟨_,g1,g2,g3,g4,g5⟩:=f3 b hb;refine⟨hn b hb,Z0 (hlt3 b hb),I4.ok.exfs b hb,.inl hb,λy c e=>(I4.ok.exf b hb).2 y c e,λp hp=>g5 p ?_⟩;have hp:p∈(X.pn++pins)++[]:=hp;rwa[Xi]at hp
 have loop:∀s5:Shared,(∃(i n:Nat)(o:Option V)(ys:List V)(H5:Hp),Inv (a2s X scope x N' s3.heap.objs.size s3 (upd H2 s2.heap.objs.size (.lst [])) fp (X.pn++pins)) [] (o::σ) H5 s5/\tn i s5.heap/\(∀b∈fp,H5 b=none)/\W i n ys H5)->
   codeAny (model X.prog X.w) X.A (.compLoop (.ListComp elt [⟨.Name x px,iter,ifs,0⟩] scope pos) 0 (.ref it) (.ref s2.heap.objs.size) (compEnvC scope (clOf X.env scope.names []) s3.heap.objs.size X.env))
    (RR (.ref s2.heap.objs.size) s3.heap.objs.size) s5:=by
  rintro s5 ⟨i5,n5,o5,ys5,H5,I5,st5,fr5,w5⟩
  refine c4b (λn s'=>∃(i:Nat)(o:Option V)(ys:List V)(H5:Hp),Inv (a2s X scope x N' s3.heap.objs.size s3 (upd H2 s2.heap.objs.size (.lst [])) fp (X.pn++pins)) [] (o::σ) H5 s'/\tn i s'.heap/\(∀b∈fp,H5 b=none)/\W i n ys H5) ?_ n5 ⟨i5,o5,ys5,H5,I5,st5,fr5,w5⟩
  rintro n s6 ⟨i,o,ys,H6,I6,st6,fr6,w6⟩
  rcases hturn i n ys H6 w6 with⟨stop,qn⟩|⟨go,step⟩
  ·refine thn (T.done (a2s X scope x N' s3.heap.objs.size s3 (upd H2 s2.heap.objs.size (.lst [])) fp (X.pn++pins)) rfl rfl rfl hc i [] s6 _ H6 _ I6 (fx fr6) st6 stop) λr s7 ⟨hr,I7⟩=>?_
   subst hr;obtain⟨m7,hn7,_⟩:=id I7.loc;have I8:Inv X pins σ H6 s7:=I3.call' I7.os I7.base I7.hok I7.bare λb hb=>by
    obtain⟨_,g1,g2,g3,g4,g5⟩:=f3 b hb;exact⟨g3,g1,g4,g5⟩
   have f8:FpOk X pins H6 s3.heap.objs.size:=I3.fpOk (Zh _) I7.free;exact hend _ _ H6 s7 m7 I8 hn7 f8 qn
  ·refine thn (T.item (a2s X scope x N' s3.heap.objs.size s3 (upd H2 s2.heap.objs.size (.lst [])) fp (X.pn++pins)) rfl rfl rfl hc i [] s6 _ H6 _ I6 (fx fr6) st6 go) λr s7 ⟨u,hr,h7⟩=>?_
   subst hr;refine thn h7 λ_ s8 z9=>?_
   obtain⟨v,H8,I8,r8,y8,st8,fr8⟩:=z9;have I8':=I8.pinned (fx fr8) (T.obj _ _ st8);refine Uw (b2u I8' (i:=0) (W1.mpr ⟨S.nin,S.nd⟩) rfl (.inl (Sd S.loc)) r8 (λs9 I9=>?_) (.inr (Sd S.loc)));have I9:Inv (a2s X scope x N' s3.heap.objs.size s3 (upd H2 s2.heap.objs.size (.lst [])) fp (X.pn++pins)) ([]++a8q fp s8.heap) (some v::σ) H8 s9:=I9;refine thn (ht _ _ _ _ _ _ s9 (some v::σ) H8 _ _ I9 (step v H8 y8)) λb s10 z9=>?_
   obtain⟨H10,I10,q10⟩:=z9;have back:∀{s':Shared}{H':Hp}{ys':List V}{m':Nat},Inv (a2s X scope x N' s3.heap.objs.size s3 (upd H2 s2.heap.objs.size (.lst [])) fp (X.pn++pins)) ([]++a8q fp s8.heap) (some v::σ) H' s'->W (i+1) m' ys' H'->
     ∃(i:Nat)(o:Option V)(ys:List V)(H5:Hp),Inv (a2s X scope x N' s3.heap.objs.size s3 (upd H2 s2.heap.objs.size (.lst [])) fp (X.pn++pins)) [] (o::σ) H5 s'/\tn i s'.heap/\(∀b∈fp,H5 b=none)/\W i m' ys H5:=λ{s' H' ys' m'} I' w'=>by
    refine⟨i+1,some v,ys',H',I'.unpinned,T.keep _ _ _ st8 λb hb o e=>(I'.pin (b,o) (Yu _ (Yu _ (a7c hb e)))).1,λb hb=>?_,w'⟩;obtain⟨o,e,d⟩:=T.obj _ _ st8 b hb;exact(I'.pin (b,o) (Yu _ (Yu _ (a7c hb e)))).2.1
   cases b with
   |false=>
    rw[if_neg Zn]at q10 ⊢;obtain⟨m',hm,w'⟩:=q10;exact⟨m',hm,back I10 w'⟩
   |true=>
    rw[if_pos rfl]at q10 ⊢;refine thn (he _ _ _ _ _ _ s10 (some v::σ) H10 _ I10 q10) λy s11 z9=>?_
    obtain⟨yv,H11,I11,r11,hD,hz,m',hm,w'⟩:=z9;have ap:=b5w (X:=a2s X scope x N' s3.heap.objs.size s3 (upd H2 s2.heap.objs.size (.lst [])) fp (X.pn++pins)) _ s11 (some v::σ) H11 (.ref s2.heap.objs.size) [yv] (.ref s2.heap.objs.size) [y] (λ_ H'=>W (i+1) m' (ys++[yv]) H') I11 rfl (.cons r11 .nil) ⟨_,ys,yv,rfl,rfl,hD,hz,w'⟩;exact thn ap λ_ s12 ⟨_,H12,I12,_,w12⟩=>⟨m',hm,back I12 w12⟩
 have l4:=loop { s3 with heap:=h4,toks:=s3.toks+([]:List (Str×Value)).length} ⟨0,m0,none,[],_,I4,st4,λb hb=>(f3 b hb).1,w0⟩;exact codeAny_compStart_list l4 (T.self _ _ _ _ _ st4 l4)
theorem a2n{elt iter:Expr}{x:Str}{N':List Str}{px:Pos}{ifs:List Expr}{scope:Scope}{pos:Pos}{wi:TI}{tt:TT}{te:TE}(hc:X.calm=true)(hi:PI X (.Name x px) iter wi)(S:b0p X scope x N')
  (ht:∀C s H fp pn,PTs (a2s X scope x N' C s H fp pn) ifs tt)(he:∀C s H fp pn,PE (a2s X scope x N' C s H fp pn) elt te)(hs:∀x,foldedSetIterable iter X.env x=pure x:=by intro _;rfl):
  PE X (.ListComp elt [⟨.Name x px,iter,ifs,0⟩] scope pos) (tComp wi tt te):=by
 intro pins s σ H Q I h;have hcells:∀y∈scope.names,y.2=.free->∃c,X.env.cells.lookup y.1=some c:=λy hy hk=>I.ok.has y.1 (S.free y hy hk)
 rw[eval_ListComp];refine Tm (use:=none) rfl hs (b4d hcells) S.kind S.names (thn (hi pins s σ H _ I h) λxv s1 h1=>thn h1 λitv s2 h2=>?_);refine b5z (RR:=λacc C=>compPost (model X.prog X.w) X.A X.xe none (EP X pins σ Q) acc C) hc S ht he h2 λD C H6 s7 m7 I8 hn7 f8 qn=>?_
 refine⟨m7,hn7,λh' hs'=>?_⟩;obtain⟨g0,g1,g2,g3,g4,g5⟩:=f8;exact⟨.ref D,H6,I8.turned (t':=s7.toks) (λb o hb e=>(hs'.2 b hb).trans e) g0 g1 g3 g4 g5,rfl,qn⟩
theorem a8w{elt iter:Expr}{x y:Str}{N':List Str}{i:Nat}{px py:Pos}{ifs:List Expr}{scope:Scope}{pos spos:Pos}{wi:TI}{tt:TT}{te:TE}(hN:X.N.Nodup)(hiy:X.N[i]? =some y)(hy:Loc X.env.scope y)(hc:X.calm=true)(hi:PI X (.Name x px) iter wi)(S:b0p X scope x N')
  (ht:∀C s H fp pn,PTs (a2s X scope x N' C s H fp pn) ifs tt)(he:∀C s H fp pn,PE (a2s X scope x N' C s H fp pn) elt te)
  (hsw:swapsWith (.ListComp elt [⟨.Name x px,iter,ifs,0⟩] scope pos) (some (.Name y py)) spos.line X.env=pure true:=by rfl)(hs:∀x,foldedSetIterable iter X.env x=pure x:=by intro _;rfl)
  (hf:X.fn y=true\/X.env.scope.names.lookup y=some .local:=by first|exact .inl rfl|exact .inr rfl|assumption):
  PS X (.Assign [.Name y py] (.ListComp elt [⟨.Name x px,iter,ifs,0⟩] scope pos) spos) (tAsg (tComp wi tt te) (b3u i)):=by
 intro pins s σ H D I h;have hcells:∀y∈scope.names,y.2=.free->∃c,X.env.cells.lookup y.1=some c:=λy hy hk=>I.ok.has y.1 (S.free y hy hk)
 rw[exec_Assign_Name_used _ _ _ _ hsw];refine Zb (Tl (Zb ?_))
 show wpAny _ X.A (do let _ <-comprehension (.ListComp elt [⟨.Name x px,iter,ifs,0⟩] scope pos) scope X.env _ (newList []) false (eval iter X.env) (some (assign (.Name y py) X.env))) _ _ s
 refine Zb (thn (Tm (use:=some (assign (.Name y py) X.env)) (Q:=λ_ s'=>SP X pins D .next s') rfl hs (b4d hcells) S.kind S.names
  (thn (hi pins s σ H _ I h) λxv s1 h1=>thn h1 λitv s2 h2=>?_)) λ_ s' hq=>Ze (Ze hq))
 refine b5z (RR:=λacc C=>compPost (model X.prog X.w) X.A X.xe (some (assign (.Name y py) X.env)) (λ_ s'=>SP X pins D .next s') acc C) hc S ht he h2 λL C H6 s7 m7 I8 hn7 f8 qn=>?_
 obtain⟨g0,g1,g2,g3,g4,g5⟩:=f8
 show wpAny _ X.A (assign (.Name y py) X.env (.ref L)) _ _ _
 refine Uw (b5q I8 hN hiy hy (v:=.ref L) (u:=.ref L) rfl (λs8 I9 hch=>?_) hf);obtain⟨a,hsb,ha⟩:=hch;have hCa:C≠a:=by
  rcases ha with z|z
  ·rw[z];exact g1
  ·exactλw=>g4 _ _ z w.symm
 refine⟨m7,hn7.sameBut hsb hCa,λh' hs'=>?_⟩;exact⟨_,H6,I9.turned (t':=s8.toks) (λb o hb e=>(hs'.2 b hb).trans e) g0 g1 g3 g4 g5,qn⟩
end
def c4c(sc scope:Scope)(N N':List Str)(x:Str):Bool:=
 decide (scope.names.lookup x=some .local)&&scope.names.all (λy=>decide (y.2≠.cell))&&decide (scope.kind=.function)&&scope.names.all (λy=>decide (y.2=.local->scope.names.lookup y.1=some .local))&&
 scope.names.all (λy=>decide (y.2=.free->sc.names.lookup y.1=some .cell\/sc.names.lookup y.1=some .free))&&decide (x∉N')&&decide N'.Nodup&&decide (N'.length=N.length)&&
 (List.range N'.length).all (λi=>match N'[i]? with|some y=>decide (N[i]? =some y\/scope.names.lookup y=none)|none=>true)&&scope.names.all (λy=>decide (y.2=.local->y.1=x\/y.1∉N'))
theorem a1u{X:Cx}{scope:Scope}{x:Str}(sc:Scope)(N N':List Str)(hsc:X.env.scope=sc)(hN:X.N=N)(h:c4c sc scope N N' x=true):b0p X scope x N':=by
 subst hsc hN;unfold c4c at h;simp only[Xl,Y3,decide_eq_true_eq]at h;obtain⟨⟨⟨⟨⟨⟨⟨⟨⟨h1,h2⟩,h3⟩,h4⟩,h5⟩,h6⟩,h7⟩,h7'⟩,h8'⟩,h8⟩:=h;refine⟨h1,h2,h3,h4,h5,h6,h7,h7',λi y e=>?_,h8⟩;have hi:i<N'.length:=(Z3.mp e).1;have z:=h8' i (Xc.mpr hi);rw[e]at z;exact Zr z
def Its(x:Str):It:=⟨λi _=>i<x.cps.size,λi H v H'=>H'=H/\∃c,x.cps[i]? =some c/\v=.str ⟨#[c]⟩,λi _=>x.cps.size=i⟩
theorem b7n{P:Program}{w:World}{K:W.Frag}{tg:Expr}{it:Addr}{x:Str}{t:Tok}{ty:String}
  (hty:["enumerate","zip","dict_itemiterator","dict_reverseitemiterator","odict_iterator","itertools.zip_longest","itertools.pairwise"].contains ty=false)
  (hW:∀A':Around,A'.handled=none->Walks P w A' it [it] [it] x.cps.size (SignAt x) (λi h=>h.IsStrIter it ty x t i))
  (hself:∀(A:Around)(i:Nat)(s:Shared)(Q:Value->Shared->Prop)(E:Value->Shared->Prop),s.heap.IsStrIter it ty x t i->Q (.ref it) s->wpAny (model P w) A (pyIter (.ref it)) Q E s):
  Turn P w K tg (Its x) [it] it (λi h=>h.IsStrIter it ty x t i) where
 mem:=by simp
 obj:=λi h st b hb=>by
  have e:b=it:=by simpa using hb
  subst e;obtain⟨o,e,c,d⟩:=st;exact⟨o,e,λv z=>by rw[d]at z;cases z⟩
 keep:=λi h h' st k=>by
  obtain⟨o,e,r⟩:=st;exact⟨o,k it qz o e,r⟩
 item:=by
  intro X hP hw hK hc i pins s σ H E I hf st hg;subst hP hw hK;obtain⟨f0,f1,f2,f3,f4,f5⟩:=hf it qz;refine(hW X.A (I.ok.hd hc)).item i s _ _ hg st λv h' tk hv st' kk=>?_
  obtain⟨c,u,hx,rfl⟩:=hv;have I1:Inv X pins σ H { s with heap:=h',toks:=tk}:=I.turned (λb o hb e=>kk b o (by simpa using hb) e) f0 f1 f3 f4 f5;obtain⟨o,e,c',d⟩:=id st';exact⟨_,rfl,b6v (s:={ s with heap:=h',toks:=tk}) e c' d hty ⟨.str ⟨#[c]⟩,H,I1,⟨u,rfl⟩,⟨rfl,c,hx,rfl⟩,st',λb hb=>(hf b hb).1⟩⟩
 done:=by
  intro X hP hw hK hc i pins s σ H E I hf st hg;subst hP hw hK;obtain⟨f0,f1,f2,f3,f4,f5⟩:=hf it qz;have hg:x.cps.size=i:=hg;subst hg;exact(hW X.A (I.ok.hd hc)).done s _ _ st λh' tk kk=>⟨rfl,I.turned (λb o hb e=>kk b o (by simpa using hb) e) f0 f1 f3 f4 f5⟩
 self:=hself
section
variable{X:Cx}{tg:Expr}
def iStr(tl:TE):TI:=λσ H R=>tl σ H λv H1=>∃x,v=.str x/\R (Its x) H1
theorem pi_str{l:Expr}{tl:TE}(hl:PE X l tl):PI X tg l (iStr tl):=by
 intro pins s σ H R I h;refine thn (hl pins s σ H _ I h) λv s1 z9=>?_
 obtain⟨z,H1,I1,r1,q1⟩:=z9;obtain⟨x,e,q⟩:=q1;subst e;obtain⟨t,rfl⟩:=r1;have fp:∀b∈[s1.heap.objs.size],FpOk X pins H1 b:=λb hb=>by
  have e:b=s1.heap.objs.size:=by simpa using hb
  subst e;exact I1.fpOk (Zh _) (I1.hok.fresh (Zh _))
 cases ha:x.cps.all (· <128)
 ·refine wpAny_pyIter_wide ha ?_;exact⟨s1.heap.objs.size,[s1.heap.objs.size],_,_,H1,rfl,I1.kept (t':=s1.toks) λb o e=>Zc _ e,b7n (ty:="str_iterator") (t:=t) qd (λA' hA=>Walks.strWide hA _ x t) (λ_ _ _ _ _ st hq=>wpAny_pyIter_striter_wide st hq),⟨_,Zj _ rfl,rfl,rfl⟩,fp,q⟩
 ·refine wpAny_pyIter_ascii ha ?_;exact⟨s1.heap.objs.size,[s1.heap.objs.size],_,_,H1,rfl,I1.kept (t':=s1.toks) λb o e=>Zc _ e,b7n (ty:="str_ascii_iterator") (t:=t) qd (λA' hA=>Walks.strAscii hA _ x t) (λ_ _ _ _ _ st hq=>wpAny_pyIter_striter_ascii st hq),⟨_,Zj _ rfl,rfl,rfl⟩,fp,q⟩
end
structure Row(J:It)(n:Nat)(vs:Nat->V)(Ok:Hp->Prop):Prop where
 go:∀i H,i<n->Ok H->J.go i H
 yld:∀i H v H',i<n->Ok H->J.yld i H v H'->H'=H/\v=vs i
 stop:∀H,Ok H->J.stop n H
theorem a1o(lo:Int)(n:Nat):Row (Itr lo n) n (λi=>.int (lo+i)) (λ_=>True):=⟨λi H h _=>h,λi H v H' _ _ h=>h,λH _=>Zh n⟩
theorem row_str(x:Str):Row (Its x) x.cps.size (λi=>.str ⟨#[x.cps.getD i 0]⟩) (λ_=>True):=⟨λi H h _=>h,λi H v H' hi _ h=>by
 obtain⟨e,c,hc,rfl⟩:=h;refine⟨e,?_⟩;have:x.cps.getD i 0=c:=by rw[Wu,hc];rfl
 rw[this],λH _=>rfl⟩
theorem a3z{K:W.Frag}{a:Addr}{xs:List V}:Row (Itl K a) xs.length (λi=>xs.getD i .non) (λH=>SqL K H a xs):=⟨λi H h q=>⟨xs,xs[i],q,by simp[h]⟩,λi H v H' hi q h=>by
 obtain⟨e,y⟩:=h;refine⟨e,?_⟩;have:=y xs q
 rw[Zm,this];rfl,λH q=>⟨xs,q,Zh _⟩⟩
theorem b1u{K:W.Frag}{a:Addr}{xs:List V}:Row (Itt K a) xs.length (λi=>xs.getD i .non) (λH=>SqT K H a xs):=⟨λi H h q=>⟨xs,xs[i],q,by simp[h]⟩,λi H v H' hi q h=>by
 obtain⟨e,y⟩:=h;refine⟨e,?_⟩;have:=y xs q
 rw[Zm,this];rfl,λH q=>⟨xs,q,Zh _⟩⟩
def ForW(J:It)(g:TG)(tb:TS)(D:Ends)(σ:St)(H:Hp):Prop:=∃W:Nat->Nat->St->Hp->Prop,(∃m,W 0 m σ H)/\∀i m σ H,W i m σ H->
   (J.stop i H/\D.nx σ H)\/(J.go i H/\∃N:St->Hp->Prop,(∀σ' H',N σ' H'->∃m',m'<m/\W (i+1) m' σ' H')/\∀x H',J.yld i H x H'->g x σ H' λσ2 H2=>tb { D with nx:=N,ct:=N,bk:=D.nx} σ2 H2)
theorem a3s{J:It}{n:Nat}{vs:Nat->V}{Ok:Hp->Prop}(R:Row J n vs Ok){g:TG}{tb:TS}{D:Ends}{σ:St}{H:Hp}(Pv:Nat->St->Hp->Prop)(h0:Pv 0 σ H)(hok:∀i σ H,Pv i σ H->Ok H)
  (hs:∀i σ H,i<n->Pv i σ H->g (vs i) σ H λσ2 H2=>tb { D with nx:=Pv (i+1),ct:=Pv (i+1),bk:=D.nx} σ2 H2)(hd:∀σ H,Pv n σ H->D.nx σ H):
  ForW J g tb D σ H:=by
 refine⟨λi m σ H=>m=n-i/\i<=n/\Pv i σ H,⟨n,qz,Yc _,h0⟩,?_⟩
 rintro i m σ H ⟨rfl,hi,p⟩
 by_cases hlt:i<n
 ·refine .inr ⟨R.go i H hlt (hok i σ H p),Pv (i+1),λσ' H' p'=>⟨n-(i+1),qo,rfl,hlt,p'⟩,λx H' y=>?_⟩;obtain⟨e1,e2⟩:=R.yld i H x H' hlt (hok i σ H p) y;subst e1 e2;exact hs i σ _ hlt p
 ·have e:i=n:=by omega
  subst e;exact .inl ⟨R.stop H (hok i σ H p),hd σ H p⟩
theorem a1t{J:It}{n:Nat}{vs:Nat->V}{Ok:Hp->Prop}(R:Row J n vs Ok){te:TE}{Q:VK}{σ:St}{H1:Hp}{D:Addr}(Pv:Nat->List V->Hp->Prop)(hn:n<=sizeLine)(h0:Pv 0 [] (upd H1 D (.lst [])))(hok:∀i ys H,Pv i ys H->Ok H)
  (hs:∀i ys H (Q':VK),i<n->ys.length=i->Pv i ys H->(∀y H4,H4 D=some (.lst ys)->Pv (i+1) (ys++[y]) (upd H4 D (.lst (ys++[y])))->Q' y H4)->te (some (vs i)::σ) H Q')
  (hd:∀ys H,ys.length=n->Pv n ys H->Q (.ref D) H):
  b4e J tYes te σ Q D H1:=by
 refine⟨λi m ys H=>m=n-i/\i<=n/\ys.length=i/\Pv i ys H,⟨n,qz,Yc _,rfl,h0⟩,?_⟩
 rintro i m ys H ⟨rfl,hi,hl,p⟩
 by_cases hlt:i<n
 ·refine .inr ⟨R.go i H hlt (hok i ys H p),λv H2 y=>?_⟩;obtain⟨e1,e2⟩:=R.yld i H v H2 hlt (hok i ys H p) y;subst e1 e2;exact hs i ys _ _ hlt hl p λv H4 q1 q2=>⟨q1,qo,n-(i+1),qo,rfl,hlt,by simp[hl],q2⟩
 ·have e:i=n:=by omega
  subst e;exact .inl ⟨R.stop H (hok _ ys H p),hd ys H hl p⟩
def mVar(i:Nat):TE:=λσ H Q=>match σ[i]? with|some (some v)=>Q v H|_=>False
def mB(Q:Bool->Hp->Prop):VK:=λz H'=>match z with| .bl k=>Q k H'|_=>False
theorem b6x(Q:Bool->Hp->Prop):mB Q=λz H'=>∃k,z=.bl k/\Q k H':=by
 funext z H'
 cases z<;>simp[mB]
section
variable{X:Cx}{a b c e:Expr}{ta tb tc te:TE}{pos:Pos}
theorem mv(i:Nat){x:Str}{pos:Pos}(hN:X.N[i]? =some x:=by rfl)(hv:Vis X.env.scope x:=by first|exact Or.inl rfl|exact Or.inr (Or.inl rfl)|exact Or.inr (Or.inr rfl))(hd:(x==("__debug__":Str))=false:=by decide)
  (hcd:(x==("__classdict__":Str))=false:=by decide):PE X (.Name x pos) (mVar i):=by
 intro pins s σ H Q I h;refine pe_var hN hv hd hcd pins s σ H Q I ?_;unfold mVar at h;split at h
 ·rename_i v q;exact⟨v,q,h⟩
 ·exact h.elim
def m2(C:Int->Int->Prop)(g:Int->Int->V):R2:=λx y H Q=>match x,y with
 | .int i,.int j=>C i j/\Q (g i j) H
 |_,_=>False
def m20(g:Int->Int->V):R2:=λx y H Q=>match x,y with
 | .int i,.int j=>Q (g i j) H
 |_,_=>False
theorem m2_to{C:Int->Int->Prop}{g:Int->Int->V}{x y:V}{H:Hp}{Q:VK}(h:m2 C g x y H Q):rI C g x y H Q:=by
 cases x<;>cases y<;>first|exact(show False from h).elim|exact⟨_,_,rfl,rfl,h⟩
theorem b4f{g:Int->Int->V}{x y:V}{H:Hp}{Q:VK}(h:m20 g x y H Q):rI0 g x y H Q:=by
 cases x<;>cases y<;>first|exact(show False from h).elim|exact⟨_,_,rfl,rfl,h⟩
theorem OpR.imp{f:Value->Value->Sem Value}{r r':R2}(h:OpR X f r)(k:∀x y H Q,r' x y H Q->r x y H Q):OpR X f r':=λpins s σ H x y v u Q I rx ry q=>h pins s σ H x y v u Q I rx ry (k x y H Q q)
def mAdd(K:W.Frag):R2:=λx y H Q=>match x,y with
 | .int i,.int j=>Q (.int (i+j)) H
 | .str i,.str j=>i.length+j.length<=sizeLine/\Q (.str (i++j)) H
 | .ref p,.ref q=>(∃xs ys,H p=some (.lst xs)/\H q=some (.lst ys)/\xs.length+ys.length<=sizeLine/\∀d,H d=none->Q (.ref d) (upd H d (.lst (xs++ys))))\/
   ∃xs ys,SqT K H p xs/\SqT K H q ys/\xs≠[]/\xs.length+ys.length<=sizeLine/\(ys=[]->Q (.ref p) H)/\(ys≠[]->∀d,H d=none->Q (.ref d) (upd H d (.tup (xs++ys))))
 |_,_=>False
theorem mo_add:OpR X (binaryOp .Add) (mAdd X.K):=by
 refine(op_add.or (c1i.or (op_cat.or c0k))).imp λx y H Q h=>?_
 cases x<;>cases y<;>first
  |exact(show False from h).elim
  |exact .inl ⟨_,_,rfl,rfl,h⟩
  |exact .inr (.inl ⟨_,_,rfl,rfl,h⟩)
  | (rcases h with⟨xs,ys,h1,h2,h3,h4⟩|⟨xs,ys,h1,h2,h3,h4,h5⟩
     ·exact .inr (.inr (.inl ⟨_,_,xs,ys,rfl,rfl,h1,h2,h3,h4⟩))
     ·exact .inr (.inr (.inr ⟨_,_,xs,ys,rfl,rfl,h1,h2,h3,h4,h5⟩)))
theorem a2p:OpR X (binaryOp .Sub) (m20 λi j=>.int (i-j)):=op_sub.imp λ_ _ _ _ h=>b4f h
def mMul:R2:=λx y H Q=>match x,y with
 | .int i,.int j=>IntMulOk i j/\Q (.int (i*j)) H
 | .ref l,.int k=>∃xs,H l=some (.lst xs)/\-(2^63)<=k/\k<2^63/\xs.length*k.toNat<=sizeLine/\∀p,H p=none->Q (.ref p) (upd H p (.lst (List.replicate k.toNat xs).flatten))
 |_,_=>False
theorem op_mulW:OpR X (binaryOp .Mult) (rI (λi j=>IntMulOk i j) λi j=>.int (i*j)):=opI λ_ _ _ _ _ _ _ hc q=>mul_int q hc
theorem a4p:OpR X (binaryOp .Mult) mMul:=by
 refine(op_mulW.or op_rep).imp λx y H Q h=>?_
 cases x<;>cases y<;>first
  |exact(show False from h).elim
  |exact .inl ⟨_,_,rfl,rfl,h⟩
  | (obtain⟨xs,h1,h2,h3,h4,h5⟩:=h;exact .inr ⟨_,_,xs,rfl,rfl,h1,h2,h3,h4,h5⟩)
theorem a1j:OpR X (binaryOp .FloorDiv) (m2 CDiv λi j=>.int (i/j)):=op_fdiv.imp λ_ _ _ _ h=>m2_to h
theorem a0w:OpR X (binaryOp .Mod) (m2 (λ_ j=>0<j) λi j=>.int (i%j)):=op_mod.imp λ_ _ _ _ h=>m2_to h
theorem c4d:OpR X (binaryOp .Pow) (m2 CPow λi j=>.int (i^j.toNat)):=op_pow.imp λ_ _ _ _ h=>m2_to h
theorem a9l:OpR X (compareOp .Lt) (m20 λi j=>.bl (decide (i<j))):=op_lt.imp λ_ _ _ _ h=>b4f h
theorem b1v:OpR X (compareOp .LtE) (m20 λi j=>.bl (decide (i<=j))):=op_le.imp λ_ _ _ _ h=>b4f h
theorem a5h:OpR X (compareOp .Gt) (m20 λi j=>.bl (decide (j<i))):=op_gt.imp λ_ _ _ _ h=>b4f h
def mEq(n:Bool):R2:=λx y H Q=>match x,y with
 | .int i,.int j=>Q (.bl (n^^decide (i=j))) H
 | .str i,.str j=>Q (.bl (n^^decide (i=j))) H
 | .bl i,.bl j=>Q (.bl (n^^decide (i=j))) H
 | .non,.non=>Q (.bl (n^^true)) H
 | .non,.int _=>Q (.bl n) H
 | .non,.str _=>Q (.bl n) H
 | .non,.bl _=>Q (.bl n) H
 | .int _,.non=>Q (.bl n) H
 | .str _,.non=>Q (.bl n) H
 | .bl _,.non=>Q (.bl n) H
 | .int _,.str _=>Q (.bl n) H
 | .str _,.int _=>Q (.bl n) H
 | .bl _,.str _=>Q (.bl n) H
 | .str _,.bl _=>Q (.bl n) H
 |_,_=>False
theorem a1b:OpR X (compareOp .Eq) (mEq false):=by
 refine op_eq.imp λx y H Q h=>?_
 cases x<;>cases y<;>first
  |exact(show False from h).elim
  |exact⟨rfl,by simpa using(show Q _ H from h)⟩
theorem a7d:OpR X (compareOp .NotEq) (mEq true):=by
 refine op_ne.imp λx y H Q h=>?_
 cases x<;>cases y<;>first
  |exact(show False from h).elim
  |exact⟨rfl,by simpa using(show Q _ H from h)⟩
def b6y(t:TE):TT:=λσ H Q=>t σ H (mB Q)
theorem b7o(t:TE):b6y t=tTest t:=by
 funext σ H Q
 show t σ H (mB Q)=t σ H _
 rw[b6x]
theorem a0o{op:CmpOp}{r:R2}(ho:OpR X (compareOp op) r)(ha:PE X a ta)(hb:PE X b tb)(hm:behindInMarks op b=false):PT X (.Compare a [op] [b] pos) (b6y (tOp r ta tb)):=by
 rw[b7o];exact pt_cmpR ho ha hb hm
def b0q(r r':R2)(ta tb tc:TE):TE:=λσ H Q=>ta σ H λx H1=>tb σ H1 λy H2=>r x y H2 (mB λk H3=>if k=true then tc σ H3 λw' H4=>r' y w' H4 Q else Q (.bl false) H3)
theorem b6a(r r':R2)(ta tb tc:TE):b0q r r' ta tb tc=b3w r r' ta tb tc:=by
 funext σ H Q
 unfold b0q b3w;simp only[b6x]
theorem c6z{op op':CmpOp}{r r':R2}(ho:OpR X (compareOp op) r)(ho':OpR X (compareOp op') r')(ha:PE X a ta)(hb:PE X b tb)(hc:PE X c tc)
  (hm:lastMarks [op,op'] [b,c]=false:=by with_unfolding_all rfl):PE X (.Compare a [op,op'] [b,c] pos) (b0q r r' ta tb tc):=by
 rw[b6a];exact c6l ho ho' ha hb hc hm
theorem a9m{op op':CmpOp}{r r':R2}(ho:OpR X (compareOp op) r)(ho':OpR X (compareOp op') r')(ha:PE X a ta)(hb:PE X b tb)(hc:PE X c tc)
  (hm:lastMarks [op,op'] [b,c]=false:=by with_unfolding_all rfl):PT X (.Compare a [op,op'] [b,c] pos) (b6y (b0q r r' ta tb tc)):=by
 rw[b7o,b6a];exact c6m ho ho' ha hb hc hm
def mTru(K:W.Frag)(Q:Bool->Hp->Prop):VK:=λx H=>match x with
 | .non=>Q false H
 | .bl b=>Q b H
 | .int i=>Q (decide (i≠0)) H
 | .str y=>y.length<=sizeLine/\Q (decide (y.length≠0)) H
 | .ref p=>(∃xs,SqL K H p xs/\Q (!xs.isEmpty) H)\/(∃xs,SqT K H p xs/\Q (!xs.isEmpty) H)\/∃kvs,H p=some (.dK kvs)/\Q (!kvs.isEmpty) H
 |_=>False
theorem c0n{K:W.Frag}{Q:Bool->Hp->Prop}{x:V}{H:Hp}(h:mTru K Q x H):∃k,TruV K x H k/\Q k H:=by
 cases x with
 |non=>exact⟨_,rfl,h⟩
 |bl b=>exact⟨_,rfl,h⟩
 |int i=>
  have h:Q (decide (i≠0)) H:=h;refine⟨i !=0,rfl,?_⟩;have e:(i !=0)=decide (i≠0):=by
   rw[We];simp
  rw[e];exact h
 |str y=>
  obtain⟨h1,h⟩:y.length<=sizeLine/\Q (decide (y.length≠0)) H:=h;refine⟨((y.length:Int) !=0),⟨h1,rfl⟩,?_⟩;have e:((y.length:Int) !=0)=decide (y.length≠0):=by
   rw[We];simp
  rw[e];exact h
 |ref p=>
  rcases h with⟨xs,h1,h2⟩|⟨xs,h1,h2⟩|⟨xs,h1,h2⟩
  ·exact⟨_,.inl ⟨xs,h1,rfl⟩,h2⟩
  ·exact⟨_,.inr (.inl ⟨xs,h1,rfl⟩),h2⟩
  ·exact⟨_,.inr (.inr ⟨xs,h1,rfl⟩),h2⟩
 |_=>exact(show False from h).elim
def mTrue(K:W.Frag)(ta:TE):TT:=λσ H Q=>ta σ H (mTru K Q)
theorem mt_tru(ha:PE X a ta)(he:∀whole,isTrue a X.env whole=(do let v <-whole;standAt a.pos;holding [v] (truthy v)):=by intro _;rfl):PT X a (mTrue X.K ta):=by
 intro pins s σ H Q I h;exact isTrue_plain (thn (ha pins s σ H _ I h) λv s1 ⟨x,H1,I1,r1,q1⟩=>c3j pins s1 σ H1 x v Q I1 r1 (c0n q1)) (he _)
def b6z(ta tb:TE):TE:=λσ H Q=>ta σ H (mB λc H1=>if c=true then tb σ H1 Q else Q (.bl false) H1)
def mOrV(ta tb:TE):TE:=λσ H Q=>ta σ H (mB λc H1=>if c=true then Q (.bl true) H1 else tb σ H1 Q)
variable{rest:List Expr}
theorem a6r(ha:PE X a ta)(hb:PE X (.BoolOp .And (b::rest) pos) tb):PE X (.BoolOp .And (a::b::rest) pos) (b6z ta tb):=by
 have e:b6z ta tb=tAndV ta tb:=by funext σ H Q;unfold b6z tAndV;rw[b6x]
 rw[e];exact pe_and ha hb
theorem me_or(ha:PE X a ta)(hb:PE X (.BoolOp .Or (b::rest) pos) tb):PE X (.BoolOp .Or (a::b::rest) pos) (mOrV ta tb):=by
 have e:mOrV ta tb=tOrV ta tb:=by funext σ H Q;unfold mOrV tOrV;rw[b6x]
 rw[e];exact pe_or ha hb
def mIx(K:W.Frag):R2:=λx y H Q=>match x,y with
 | .ref p,.int i=>(∃xs v,SqL K H p xs/\atI xs i=some v/\Q v H)\/∃xs v,SqT K H p xs/\atI xs i=some v/\Q v H
 | .str z,.int i=>z.length<=sizeLine/\∃c,atI z.cps.toList i=some c/\Q (.str ⟨#[c]⟩) H
 |_,_=>False
theorem mi_seq:IxR X (mIx X.K):=by
 intro value slice pins s σ H x y v u Q I rx ry h hs;refine ix_seq value slice pins s σ H x y v u Q I rx ry ?_ hs;cases x<;>cases y<;>first
  |exact(show False from h).elim
  | (rcases h with⟨xs,v,h1,h2,h3⟩|⟨xs,v,h1,h2,h3⟩
     ·exact .inl ⟨_,xs,_,v,rfl,rfl,h1,h2,h3⟩
     ·exact .inr (.inl ⟨_,xs,_,v,rfl,rfl,h1,h2,h3⟩))
  | (obtain⟨h1,c,h2,h3⟩:=h;exact .inr (.inr ⟨_,_,c,rfl,rfl,h1,h2,h3⟩))
def inS(i j:Str):Bool:=!(Builtin.Str.occurrences j i 0 j.length 1).isEmpty
def mInS(n:Bool):R2:=λx y H Q=>match x,y with
 | .str i,.str j=>Q (.bl (n^^inS i j)) H
 |_,_=>False
theorem b4g:OpR X (compareOp .In) (mInS false):=c3i.imp λx y H Q h=>by
 cases x<;>cases y<;>first|exact(show False from h).elim|exact⟨_,_,rfl,rfl,by simpa[mInS,inS]using h⟩
def mI(R:Option Int->Hp->Prop):VK:=λx H1=>match x with| .int i=>R (some i) H1|_=>False
def b7a(t:TE):TO:=λσ H Q=>t σ H (mI Q)
theorem a3m(h:PE X e te):PO X (some e) (b7a te):=by
 have q:b7a te=tPart te:=by
  funext σ H Q
  unfold b7a tPart
  congr 1
  funext x H1
  cases x<;>simp[mI]
 rw[q];exact po_some h
def mLen(K:W.Frag):List V->Hp->VK->Prop:=λvs H Q=>match vs with
 | [.str y]=>y.length<=sizeLine/\Q (.int y.length) H
 | [.ref p]=>(∃xs,SqL K H p xs/\Q (.int xs.length) H)\/∃xs,SqT K H p xs/\Q (.int xs.length) H
 |_=>False
theorem mc_len:a2k X (.builtin "len") (mLen X.K):=by
 intro pins s σ H xs us Q I r h;refine c6n pins s σ H xs us Q I r ?_;rcases xs with _|⟨x,_|⟨y,ys⟩⟩
 ·exact(show False from h).elim
 ·cases x with
  |str y=>
   have h:y.length<=sizeLine/\Q (.int y.length) H:=h;exact⟨_,_,rfl,⟨h.1,rfl⟩,h.2⟩
  |ref p=>
   have h:(∃xs,SqL X.K H p xs/\Q (.int xs.length) H)\/∃xs,SqT X.K H p xs/\Q (.int xs.length) H:=h;rcases h with⟨ys,h1,h2⟩|⟨ys,h1,h2⟩
   ·exact⟨_,_,rfl,.inl ⟨ys,h1,rfl⟩,h2⟩
   ·exact⟨_,_,rfl,.inr ⟨ys,h1,rfl⟩,h2⟩
  |_=>exact(show False from h).elim
 ·cases x<;>exact(show False from h).elim
def mIsi(K:W.Frag):List V->Hp->VK->Prop:=λvs H Q=>match vs with
 | [x,.ty n]=>∃t b,TyOf K H x t/\W.kitOne K t (.type n)=some b/\Q (.bl b) H
 | [x,.ref c]=>∃t b,TyOf K H x t/\W.kitOne K t (.ref c)=some b/\Q (.bl b) H
 |_=>False
theorem mc_isi:a2k X (.builtin "isinstance") (mIsi X.K):=by
 intro pins s σ H xs us Q I r h;unfold mIsi at h;split at h
 ·obtain⟨u,w',rfl,r1,r2⟩:=a8d r;obtain⟨t,b,h1,h2,q⟩:=h;cases r2;exact a4o I r1 h1 h2 λtk=>⟨.bl b,H,I.tok _,rfl,q⟩
 ·obtain⟨u,w',rfl,r1,r2⟩:=a8d r;obtain⟨t,b,h1,h2,q⟩:=h;cases r2;exact a4o I r1 h1 h2 λtk=>⟨.bl b,H,I.tok _,rfl,q⟩
 ·exact h.elim
theorem b7p(K:W.Frag)(t:Value):W.kitOne K t t=some true:=by
 unfold W.kitOne;rw[if_pos qz]
theorem c0o:∀{bs:List Bool}{us:List Value},Vals (bs.map V.bl) us->us=bs.map Value.bool
 | [],_,.nil=>rfl
 |b::bs,_,.cons r t=>by
  have r:_=Value.bool b:=r;rw[Z2,r,c0o t]
theorem all_range(bs:List Bool):((List.range bs.length).all λi=>bs.getD i true)=bs.all id:=by
 rw[We,Y3,Y3]
 constructor
 ·intro h x hx;obtain⟨i,hi,e⟩:=Sv hx;have:=h i (Xc.mpr hi);rw[Zm,Za hi]at this
  simpa[e]using this
 ·intro h i hi;have hi:=Xc.mp hi;rw[Zm,Za hi];exact h _ (Zw hi)
def mAll(K:W.Frag)(f:List Bool->Bool):List V->Hp->VK->Prop:=λvs H Q=>match vs with
 | [.ref p]=>∃bs:List Bool,SqL K H p (bs.map V.bl)/\Q (.bl (f bs)) H
 |_=>False
theorem c4e{pins:List (Addr×Obj)}{s:Shared}{σ:St}{H:Hp}{p:Addr}{bs:List Bool}{Q:VK}(hc:X.calm=true)(I:Inv X pins σ H s)(hs:SqL X.K H p (bs.map V.bl))(f:(Nat->Bool)->Nat->Bool)(q:Q (.bl (f (λi=>bs.getD i true) bs.length)) H){E:Value->Shared->Prop}:
  wpAny (model X.prog X.w) X.A.in1 (pyIter (.ref p)) (λit s2=>∃J fp wr n P St tr,it=.ref J/\Walks X.prog X.w X.A.in1 J fp wr n P St/\St 0 s2.heap/\TruthOf X.prog X.w X.A.in1 P tr/\
   ∀h' tk,(∀b o,b∉wr->s2.heap.get? b=some o->h'.get? b=some o)->EP X pins σ Q (.bool (f tr n)) { s2 with heap:=h',toks:=tk}) E s:=by
 obtain⟨its,r,pl,hz⟩:=I.list hs;have e:=c0o r;subst e;have hl:p<s.heap.objs.size:=by
  obtain⟨o,n,h1,_⟩:=pl;exact Zl h1
 refine W8 pl.isList ?_
 refine⟨s.heap.objs.size,[s.heap.objs.size,p],[s.heap.objs.size],(bs.map Value.bool).toArray.size,_,_,λi=>bs.getD i true,rfl,Walks.list (A:=X.A.in1) (show X.A.in1.handled=none from I.ok.hd hc) s.heap.objs.size p (Z0 hl) (bs.map Value.bool).toArray,
  ⟨⟨_,Zj _ rfl,rfl,rfl⟩,pl.isList.at λo e=>Zc _ e⟩,λi v s' Q' E' hv hq=>?_,λh' tk hk=>?_⟩
 ·have hv:(bs.map Value.bool).toArray[i]? =some v:=hv
  rw[Ui,Zz]at hv;cases e:bs[i]? with
  |none=>rw[e]at hv;cases hv
  |some b=>
   rw[e]at hv;have hv:Value.bool b=v:=Zk hv;subst hv;have hq:Q' (bs.getD i true) s':=hq;rw[Zm,e]at hq;exact Xp hq
 ·refine⟨.bl _,H,I.kept (λb o e=>hk b o ?_ (Zc _ e)),rfl,by simpa using q⟩;intro z;have z:b=s.heap.objs.size:=by simpa using z
  exact absurd (Zl e) (by rw[z];exact Y5 _)
theorem mc_all(hc:X.calm=true):a2k X (.builtin "all") (mAll X.K λbs=>bs.all id):=by
 intro pins s σ H xs us Q I r h;unfold mAll at h;split at h
 ·obtain⟨u,rfl,r1⟩:=vals1 r;cases r1;obtain⟨bs,hs,q⟩:=h;exact call_all_walk (c4e hc I hs (λtr n=>(List.range n).all tr) (by rw[all_range];exact q))
 ·exact h.elim
end
section
variable{X:Cx}{a b c e:Expr}{ta tb tc te:TE}{pos:Pos}
def mNotV(K:W.Frag)(ta:TE):TE:=λσ H Q=>ta σ H (mTru K λb H'=>Q (.bl (!b)) H')
theorem me_not(ha:PE X a ta):PE X (.UnaryOp .Not a pos) (mNotV X.K ta):=by
 intro pins s σ H Q I h;refine UnaryOp_ (thn (ha pins s σ H _ I h) λv s1 z9=>?_);obtain⟨x,H1,I1,r1,q1⟩:=z9;exact not_of (thn (c3j pins s1 σ H1 x v _ I1 r1 (c0n q1)) λb s2 ⟨H2,I2,q2⟩=>⟨.bl (!b),H2,I2,rfl,q2⟩)
def b5a:V->List V->Hp->VK->Prop:=λx vs H Q=>match x,vs with
 | .ref l,[y]=>∃xs,H l=some (.lst xs)/\xs.length<sizeLine/\Q .non (upd H l (.lst (xs++[y])))
 |_,_=>False
theorem a2t:MtR X "list.append" b5a:=by
 intro pins s σ H x xs v us Q I rx rs h;refine b5w pins s σ H x xs v us Q I rx rs ?_;unfold b5a at h;split at h
 ·obtain⟨ys,h1,h2,h3⟩:=h;exact⟨_,ys,_,rfl,rfl,h1,h2,h3⟩
 ·exact h.elim
def mPop:V->List V->Hp->VK->Prop:=λx vs H Q=>match x,vs with
 | .ref l,[]=>∃xs y,H l=some (.lst (xs++[y]))/\Q y (upd H l (.lst xs))
 |_,_=>False
theorem c4f:MtR X "list.pop" mPop:=by
 intro pins s σ H x xs v us Q I rx rs h;refine mt_pop pins s σ H x xs v us Q I rx rs ?_;unfold mPop at h;split at h
 ·obtain⟨ys,y,h1,h2⟩:=h;exact⟨_,_,y,rfl,rfl,h1,qz,by rw[List.dropLast_concat];exact h2⟩
 ·exact h.elim
def mRev:V->List V->Hp->VK->Prop:=λx vs H Q=>match x,vs with
 | .ref l,[]=>∃xs,H l=some (.lst xs)/\Q .non (upd H l (.lst xs.reverse))
 |_,_=>False
theorem c1t:MtR X "list.reverse" mRev:=by
 intro pins s σ H x xs v us Q I rx rs h;refine c1s pins s σ H x xs v us Q I rx rs ?_;unfold mRev at h;split at h
 ·obtain⟨ys,h1,h2⟩:=h;exact⟨_,_,rfl,rfl,h1,h2⟩
 ·exact h.elim
def mUn(g:Int->Int):V->Hp->VK->Prop:=λx H Q=>match x with| .int i=>Q (.int (g i)) H|_=>False
theorem b7q:UnR X (unaryOp .USub) (mUn λi=>-i):=by
 intro pins s σ H x v Q I rx h;refine un_neg pins s σ H x v Q I rx ?_;cases x<;>first|exact(show False from h).elim|exact⟨_,rfl,h⟩
end
section
variable{X:Cx}
theorem a5w{x:Str}{z:Str}{tk:Tok}{pos:Pos}(hg:Gl X x)(hm:X.mg x=some (.str z tk))(hd:(x==("__debug__":Str))=false:=by decide):PE X (.Name x pos) (tC (.str z)):=c0d hg hm ⟨tk,rfl⟩ hd
theorem pe_gint{x:Str}{z:Int}{tk:Tok}{pos:Pos}(hg:Gl X x)(hm:X.mg x=some (.int z tk))(hd:(x==("__debug__":Str))=false:=by decide):PE X (.Name x pos) (tC (.int z)):=c0d hg hm ⟨tk,rfl⟩ hd
end
section
variable{X:Cx}{a b c e o:Expr}{es:List Expr}{ta tb tc te to:TE}{t:TA}{pos:Pos}{tg l:Expr}{tl:TE}
theorem c4g{x:Str}{n:String}{pos:Pos}(hg:Gl X x)(hm:X.mg x=none)(hv:bootBuiltins x=some (.type n))(hn:x≠"__name__":=by decide)(hd:(x==("__debug__":Str))=false:=by decide):PE X (.Name x pos) (tC (.ty n)):=pe_bltn hg hm hv rfl hn hd
theorem a1k(K:W.Frag)(h:X.K=K):OpR X (binaryOp .Add) (mAdd K):=h▸mo_add
theorem a7q(K:W.Frag)(h:X.K=K)(ha:PE X a ta)(he:∀whole,isTrue a X.env whole=(do let v <-whole;standAt a.pos;holding [v] (truthy v)):=by intro _;rfl):PT X a (mTrue K ta):=h▸mt_tru ha he
theorem ke_not(K:W.Frag)(h:X.K=K)(ha:PE X a ta):PE X (.UnaryOp .Not a pos) (mNotV K ta):=h▸me_not ha
theorem a0g(K:W.Frag)(h:X.K=K):IxR X (mIx K):=h▸mi_seq
theorem a0x(K:W.Frag)(h:X.K=K):a2k X (.builtin "len") (mLen K):=h▸mc_len
theorem kc_isi(K:W.Frag)(h:X.K=K):a2k X (.builtin "isinstance") (mIsi K):=h▸mc_isi
theorem b7r(K:W.Frag)(h:X.K=K)(hc:X.calm=true):a2k X (.builtin "all") (mAll K λbs=>bs.all id):=h▸mc_all hc
theorem a4q(K:W.Frag)(h:X.K=K)(hl:PE X l tl):PI X tg l (iList K tl):=h▸pi_list hl
theorem b5b(K:W.Frag)(h:X.K=K)(hl:PE X l tl):PI X tg l (iTup K tl):=h▸pi_tup hl
theorem b7s(K:W.Frag)(h:X.K=K){name:Str}{apos cpos:Pos}{T id:String}{r:V->List V->Hp->VK->Prop}(pa:PlainAttrs T)(slot:Slot T name id)(hty:typeOf (.builtin id)=pure (.type "method_descriptor"))(hm:MtR X id r)(ho:PE X o to)
  (hbase:attributeBase o name X.env (eval o X.env)=eval o X.env:=by rfl)(hline:(apos.endLine==cpos.line)=true:=by rfl):PE X (.Call (.Attribute o name apos) [] [] cpos) (tBM0 K T r to):=h▸pe_bm0 pa slot hty hm ho hbase hline
theorem a4a(K:W.Frag)(h:X.K=K){name:Str}{apos cpos:Pos}{T id:String}{r:V->List V->Hp->VK->Prop}(pa:PlainAttrs T)(slot:Slot T name id)(hty:typeOf (.builtin id)=pure (.type "method_descriptor"))(hm:MtR X id r)(ho:PE X o to)(ha:PA X (e::es) t)
  (hbase:attributeBase o name X.env (eval o X.env)=eval o X.env:=by rfl)
  (hfew:((backTo cpos (starEach (e::es) X.env)).all (λx=>!x.1)&&(backToKw cpos (keywordEach [] X.env)).all (λx=>x.1.isSome)
   &&decide ((e::es).length+([]:List Keyword).length+(if([]:List Keyword).isEmpty then 0 else 1)<30))=true:=by rfl)
  (hline:(apos.endLine==cpos.line)=true:=by rfl)(hs:starEach (e::es) X.env=(false,eval e X.env)::starEach es X.env:=by rfl)(hplain:(backTo cpos (starEach es X.env)).any (·.1)=false:=by rfl):
  PE X (.Call (.Attribute o name apos) (e::es) [] cpos) (tBM K T r to t):=h▸pe_bm pa slot hty hm ho ha hbase hfew hline hs hplain
theorem a7e{b c:Bool}(h:(false^^b)=c):b=c:=by cases b<;>exact h
end
theorem inS_one(c:Nat)(j:Str):inS ⟨#[c]⟩ j=decide (c∈j.cps.toList):=PySem.StrLaws.found_one j c
theorem a2c{α:Type}{xs:List α}{i:Int}(h0:0<=i)(h1:i<(xs.length:Int)):∃v,atI xs i=some v/\xs[i.toNat]? =some v:=by
 have hk:i.toNat<xs.length:=by omega
 have ek:i=((i.toNat:Nat):Int):=by omega
 have q:xs[i.toNat]? =some xs[i.toNat]:=Za hk
 refine⟨xs[i.toNat],?_,q⟩;have:=atI_nat q;rw[<-ek]at this;exact this
theorem a0e{H:Hp}{p:Addr}(h:H p=none)(o:HO):Same H (upd H p o):=λb u q=>by rw[a0p (a1m q h)];exact q
theorem a1f{H H':Hp}{p:Addr}{o:HO}(e:Same H H')(h:H p=none):Same H (upd H' p o):=λb u q=>by rw[a0p (a1m q h)];exact e b u q
theorem Same.tup{K:W.Frag}{H H':Hp}{a:Addr}{xs:List V}(e:Same H H')(h:SqT K H a xs):SqT K H' a xs:=by
 rcases h with(h|⟨o,h⟩)|h
 ·exact .inl (.inl (e _ _ h))
 ·exact .inl (.inr ⟨o,e _ _ h⟩)
 ·exact .inr h
theorem c4h{i j:Int}(h1:0<j)(h2:j<1073741824):CDiv i j:=⟨h1,h2⟩
theorem a6l{i j:Int}(h:-(2^64)<j/\j<2^64):IntMulOk i j:=CMul.ok (.inr h)
theorem a4b{i j:Int}(h:-(2^64)<i/\i<2^64):IntMulOk i j:=CMul.ok (.inl h)
section
variable{K:W.Frag}{σ:St}{H:Hp}{Q:VK}{D:Ends}{ta tb tc te:TE}{t u:TS}{A B:TT}{P:Bool->Hp->Prop}{v x y:V}{i j:Int}{n:Nat}{b:Bool}{p q:Str}
theorem mVar_i(h:σ[n]? =some (some v))(k:Q v H):mVar n σ H Q:=by unfold mVar;rw[h];exact k
theorem tC_i(k:Q v H):tC v σ H Q:=k
theorem tOp_i{r:R2}(k:ta σ H λx H1=>tb σ H1 λy H2=>r x y H2 Q):tOp r ta tb σ H Q:=k
theorem tUn_i{r:V->Hp->VK->Prop}(k:ta σ H λx H1=>r x H1 Q):tUn r ta σ H Q:=k
theorem mUn_i{g:Int->Int}(k:Q (.int (g i)) H):mUn g (.int i) H Q:=k
theorem m20_i{g:Int->Int->V}(k:Q (g i j) H):m20 g (.int i) (.int j) H Q:=k
theorem m2_i{C:Int->Int->Prop}{g:Int->Int->V}(c:C i j)(k:Q (g i j) H):m2 C g (.int i) (.int j) H Q:=⟨c,k⟩
theorem mAdd_i(k:Q (.int (i+j)) H):mAdd K (.int i) (.int j) H Q:=k
theorem a8x(c:p.length+q.length<=sizeLine)(k:Q (.str (p++q)) H):mAdd K (.str p) (.str q) H Q:=⟨c,k⟩
theorem a4i(c:IntMulOk i j)(k:Q (.int (i*j)) H):mMul (.int i) (.int j) H Q:=⟨c,k⟩
theorem mEq_i(k:Q (.bl (b^^decide (i=j))) H):mEq b (.int i) (.int j) H Q:=k
theorem mEq_s(k:Q (.bl (b^^decide (p=q))) H):mEq b (.str p) (.str q) H Q:=k
theorem mEq_b{c d:Bool}(k:Q (.bl (b^^decide (c=d))) H):mEq b (.bl c) (.bl d) H Q:=k
theorem mInS_i(k:Q (.bl (b^^inS p q)) H):mInS b (.str p) (.str q) H Q:=k
theorem mB_i(k:P b H):mB P (.bl b) H:=k
theorem mTest_i(k:ta σ H (mB P)):b6y ta σ H P:=k
theorem mTrue_i(k:ta σ H (mTru K P)):mTrue K ta σ H P:=k
theorem mTru_b(k:P b H):mTru K P (.bl b) H:=k
theorem c7a{r r':R2}(k:ta σ H λx H1=>tb σ H1 λy H2=>r x y H2 (mB λk H3=>if k=true then tc σ H3 λw' H4=>r' y w' H4 Q else Q (.bl false) H3)):b0q r r' ta tb tc σ H Q:=k
theorem mAndV_i(k:ta σ H (mB λc H1=>if c=true then tb σ H1 Q else Q (.bl false) H1)):b6z ta tb σ H Q:=k
theorem mOrV_i(k:ta σ H (mB λc H1=>if c=true then Q (.bl true) H1 else tb σ H1 Q)):mOrV ta tb σ H Q:=k
theorem mNotV_i(k:ta σ H (mTru K λb H'=>Q (.bl (!b)) H')):mNotV K ta σ H Q:=k
theorem tIf_i(k:A σ H λc H1=>if c=true then ta σ H1 Q else tb σ H1 Q):tIf A ta tb σ H Q:=k
theorem tAnd_i(k:A σ H λc H1=>if c=true then B σ H1 P else P false H1):tAnd A B σ H P:=k
theorem tOr_i(k:A σ H λc H1=>if c=true then P true H1 else B σ H1 P):tOr A B σ H P:=k
theorem tNot_i(k:A σ H λc H1=>P (!c) H1):tNot A σ H P:=k
theorem tSeq_i(k:t { D with nx:=u D} σ H):tSeq t u D σ H:=k
theorem tNext_i(k:D.nx σ H):tNext D σ H:=k
theorem tRet_i(k:te σ H D.rt):tRet te D σ H:=k
theorem tIfS_i(k:A σ H λb H1=>if b=true then t D σ H1 else u D σ H1):tIfS A t u D σ H:=k
theorem tAsg_i{g:TG}(k:te σ H λx H1=>g x σ H1 D.nx):tAsg te g D σ H:=k
theorem tDrop_i(k:te σ H λ_ H1=>D.nx σ H1):tDrop te D σ H:=k
theorem a7j{N:St->Hp->Prop}(k:N (σ.set n (some v)) H):b3u n v σ H N:=k
theorem tCB_i{r:List V->Hp->VK->Prop}{a:TA}(k:a σ H λvs H1=>r vs H1 Q):tCB r a σ H Q:=k
theorem tCons_i{a:TA}{R:List V->Hp->Prop}(k:ta σ H λx H1=>a σ H1 λxs H2=>R (x::xs) H2):b6w ta a σ H R:=k
theorem tNil_i{R:List V->Hp->Prop}(k:R [] H):tNil σ H R:=k
theorem tBM_i{T:String}{r:V->List V->Hp->VK->Prop}{a:TA}(k:ta σ H λx H1=>tyV K T x H1/\a σ H1 λxs H2=>r x xs H2 Q):tBM K T r ta a σ H Q:=k
theorem tBM0_i{T:String}{r:V->List V->Hp->VK->Prop}(k:ta σ H λx H1=>tyV K T x H1/\r x [] H1 Q):tBM0 K T r ta σ H Q:=k
theorem tTup_i{a:TA}(k:a σ H λxs H1=>xs.length<=sizeLine/\∀p,H1 p=none->Q (.ref p) (upd H1 p (.tup xs))):tTup a σ H Q:=k
theorem tLst_i{a:TA}(k:a σ H λxs H1=>xs.length<=sizeLine/\∀p,H1 p=none->Q (.ref p) (upd H1 p (.lst xs))):tLst a σ H Q:=k
theorem tSl_i{r:V->Option Int->Option Int->Hp->VK->Prop}{tl th:TO}(k:te σ H λx H1=>tl σ H1 λl H2=>th σ H2 λu H3=>r x l u H3 Q):tSl r te tl th σ H Q:=k
theorem c4i{R:Option Int->Hp->Prop}(k:R none H):c0j σ H R:=k
theorem mPart_i{R:Option Int->Hp->Prop}(k:te σ H (mI R)):b7a te σ H R:=k
theorem mI_i{R:Option Int->Hp->Prop}(k:R (some i) H):mI R (.int i) H:=k
theorem mLen_s(c:p.length<=sizeLine)(k:Q (.int p.length) H):mLen K [.str p] H Q:=⟨c,k⟩
theorem a1c{a:Addr}{xs:List V}(c:SqL K H a xs)(k:Q (.int xs.length) H):mLen K [.ref a] H Q:=.inl ⟨xs,c,k⟩
theorem a3a{a:Addr}{xs:List V}(c:SqT K H a xs)(k:Q (.int xs.length) H):mLen K [.ref a] H Q:=.inr ⟨xs,c,k⟩
theorem a1a{a:Addr}{xs:List V}(c:SqL K H a xs)(e:atI xs i=some v)(k:Q v H):mIx K (.ref a) (.int i) H Q:=.inl ⟨xs,v,c,e,k⟩
theorem a0j{a:Addr}{xs:List V}(c:SqT K H a xs)(e:atI xs i=some v)(k:Q v H):mIx K (.ref a) (.int i) H Q:=.inr ⟨xs,v,c,e,k⟩
theorem b1w{c:Nat}(z:p.length<=sizeLine)(e:atI p.cps.toList i=some c)(k:Q (.str ⟨#[c]⟩) H):mIx K (.str p) (.int i) H Q:=⟨z,c,e,k⟩
theorem mIsi_b(k:Q (.bl true) H):mIsi K [.bl b,.ty "bool"] H Q:=⟨_,true,.bl b,b7p _ _,k⟩
theorem a2u{a:Addr}{xs:List V}(e:H a=some (.lst xs))(c:xs.length<sizeLine)(k:Q .non (upd H a (.lst (xs++[v])))):b5a (.ref a) [v] H Q:=⟨xs,e,c,k⟩
theorem iteB{c d:Prop}(h1:b=true->c)(h2:b=false->d):if b=true then c else d:=by
 cases b with
 |true=>exact h1 rfl
 |false=>exact h2 rfl
theorem c7b{sp:Sp}{E:XK}{a:TA}(k:a σ H λvs H1=>sp vs H1 Q E):tCall sp [] E a σ H Q:=by
 unfold tCall;have e:(λ(vs:List V) (H1:Hp)=>sp (vs++[]) H1 Q E)=λvs H1=>sp vs H1 Q E:=by funext vs H1;rw[Xi]
 rw[e];exact k
theorem tFor_i{wi:TI}{g:TG}(k:wi σ H λJ H1=>ForW J g t D σ H1):tFor wi g t D σ H:=k
theorem iStr_i{R:It->Hp->Prop}(k:ta σ H λv H1=>∃x,v=.str x/\R (Its x) H1):iStr ta σ H R:=k
theorem iList_i{R:It->Hp->Prop}(k:ta σ H λx H1=>∃a,x=.ref a/\(∃xs,SqL K H1 a xs)/\R (Itl K a) H1):iList K ta σ H R:=k
theorem iTup_i{R:It->Hp->Prop}(k:ta σ H λx H1=>∃a,x=.ref a/\(∃xs,SqT K H1 a xs)/\R (Itt K a) H1):iTup K ta σ H R:=k
theorem iRng1_i{a:TA}{R:It->Hp->Prop}(k:a σ H λvs H1=>∃j:Int,vs=[.int j]/\-(2^62)<=j/\j<2^62/\R (Itr 0 j.toNat) H1):iRng1 a σ H R:=k
theorem tComp_i{wi:TI}{tt:TT}(k:wi σ H λJ H1=>∀D,H1 D=none->b4e J tt te σ Q D H1):tComp wi tt te σ H Q:=k
theorem a2y(Post:St->Hp->Prop)(h1:∀σ' H',Post σ' H'->u D σ' H')(h2:(∀σ' H',Post σ' H'->u D σ' H')->t { D with nx:=u D} σ H):tSeq t u D σ H:=h2 h1
theorem b0r{z:Str}{i:Int}(h0:0<=i)(h1:i<(z.length:Int)):∃c,atI z.cps.toList i=some c:=by
 obtain⟨c,hc,_⟩:=a2c (xs:=z.cps.toList) h0 (by simp only[Xf];exact h1);exact⟨c,hc⟩
end
mutual
inductive Den(K:W.Frag)(H:Hp):V->PyData->Prop
 |non:Den K H .non .none
 |bl (b:Bool):Den K H (.bl b) (.bool b)
 |int (i:Int):Den K H (.int i) (.int i)
 |str (x:Str):Den K H (.str x) (.str x)
 |tup {a:Addr} {us:List V} {ds:List PyData}:SqT K H a us->DenL K H us ds->Den K H (.ref a) (.tuple ds)
inductive DenL(K:W.Frag)(H:Hp):List V->List PyData->Prop
 |nil:DenL K H [] []
 |cons {u:V} {us:List V} {d:PyData} {ds:List PyData}:Den K H u d->DenL K H us ds->DenL K H (u::us) (d::ds)
end
mutual
theorem Den.monoT{K:W.Frag}{H H':Hp}(e:∀a xs,SqT K H a xs->SqT K H' a xs):∀{v:V}{d:PyData},Den K H v d->Den K H' v d
 |_,_,.non=>.non
 |_,_,.bl b=>.bl b
 |_,_,.int i=>.int i
 |_,_,.str x=>.str x
 |_,_,.tup h l=>.tup (e _ _ h) (DenL.monoT e l)
theorem DenL.monoT{K:W.Frag}{H H':Hp}(e:∀a xs,SqT K H a xs->SqT K H' a xs):∀{v:List V}{d:List PyData},DenL K H v d->DenL K H' v d
 |_,_,.nil=>.nil
 |_,_,.cons h l=>.cons (Den.monoT e h) (DenL.monoT e l)
end
theorem Den.mono{K:W.Frag}{H H':Hp}(e:Same H H'){v:V}{d:PyData}(h:Den K H v d):Den K H' v d:=h.monoT λ_ _ q=>e.tup q
theorem DenL.mono{K:W.Frag}{H H':Hp}(e:Same H H'){v:List V}{d:List PyData}(h:DenL K H v d):DenL K H' v d:=h.monoT λ_ _ q=>e.tup q
theorem b1x{K:W.Frag}{H:Hp}{p:Addr}{ys:List V}{o:HO}(h:H p=some (.lst ys)):∀a xs,SqT K H a xs->SqT K (upd H p o) a xs:=λa xs q=>by
 rcases q with(q|⟨o',q⟩)|q
 ·exact .inl (.inl (by rw[a0p (a5n q h (λz=>by cases z))];exact q))
 ·exact .inl (.inr ⟨o',by rw[a0p (a5n q h (λz=>by cases z))];exact q⟩)
 ·exact .inr q
theorem Den.lst{K:W.Frag}{H:Hp}{p:Addr}{ys:List V}{o:HO}(h:H p=some (.lst ys)){v:V}{d:PyData}(q:Den K H v d):Den K (upd H p o) v d:=q.monoT (b1x h)
theorem DenL.lst{K:W.Frag}{H:Hp}{p:Addr}{ys:List V}{o:HO}(h:H p=some (.lst ys)){v:List V}{d:List PyData}(q:DenL K H v d):DenL K (upd H p o) v d:=q.monoT (b1x h)
section
variable{K:W.Frag}{H:Hp}
theorem DenL.length:∀{us:List V}{ds:List PyData},DenL K H us ds->us.length=ds.length
 |_,_,.nil=>rfl
 |_,_,.cons _ l=>by rw[length_cons,length_cons,DenL.length l]
theorem DenL.get:∀{us:List V}{ds:List PyData}{i:Nat}{u:V},DenL K H us ds->us[i]? =some u->∃d,ds[i]? =some d/\Den K H u d
 |_,_,_,_,.nil,e=>by simp at e
 |_,_,0,_,.cons h _,e=>by simp at e;subst e;exact⟨_,rfl,h⟩
 |_,_,i+1,u,.cons _ l,e=>by
  obtain⟨d,h1,h2⟩:=DenL.get (i:=i) (u:=u) l (by simpa using e);exact⟨d,by simpa using h1,h2⟩
theorem DenL.append:∀{us vs:List V}{ds es:List PyData},DenL K H us ds->DenL K H vs es->DenL K H (us++vs) (ds++es)
 |_,_,_,_,.nil,l=>l
 |_,_,_,_,.cons h t,l=>.cons h (DenL.append t l)
theorem DenL.take:∀{us:List V}{ds:List PyData}(n:Nat),DenL K H us ds->DenL K H (us.take n) (ds.take n)
 |_,_,0,_=>.nil
 |_,_,_+1,.nil=>.nil
 |_,_,n+1,.cons h t=>.cons h (DenL.take n t)
theorem DenL.drop:∀{us:List V}{ds:List PyData}(n:Nat),DenL K H us ds->DenL K H (us.drop n) (ds.drop n)
 |_,_,0,l=>l
 |_,_,_+1,.nil=>.nil
 |_,_,n+1,.cons _ t=>DenL.drop n t
end
section
variable{X:Cx}{pins:List (Addr×Obj)}{σ:St}{H:Hp}{s:Shared}
theorem a5o:∀{ds:List PyData}{i:Nat}{d:PyData},ds[i]? =some d->d.depth<=PyData.depthAll ds
 | [],_,_,e=>by simp at e
 |x::r,0,d,e=>by simp at e;subst e;unfold PyData.depthAll;omega
 |x::r,i+1,d,e=>by
  have:=a5o (ds:=r) (i:=i) (d:=d) (by simpa using e);unfold PyData.depthAll;omega
end
section
variable{X:Cx}{a b c e:Expr}{ta tb tc te:TE}{pos:Pos}{tg l:Expr}{tl:TE}
theorem a3t{k:Nat}{A:Around}(hr:Room k A):A.units+150<cLine:=by have:=hr.un;omega
def mSlL(K:W.Frag):V->Option Int->Option Int->Hp->VK->Prop:=λx lo hi H Q=>∃a xs,x=.ref a/\SqL K H a xs/\∀p,H p=none->Q (.ref p) (upd H p (.lst (cutV xs lo hi)))
theorem a5x(K:W.Frag)(h:X.K=K):SlR X (mSlL K):=h▸sl_list
def mTup(K:W.Frag):List V->Hp->VK->Prop:=λvs H Q=>∃p ys,vs=[.ref p]/\((SqL K H p ys/\∀l,H l=none->Q (.ref l) (upd H l (.tup ys)))\/(SqT K H p ys/\Q (.ref p) H))
theorem a4c(K:W.Frag)(h:X.K=K):a2k X (.type "tuple") (mTup K):=h▸b6p
def mLst(K:W.Frag):List V->Hp->VK->Prop:=λvs H Q=>∃p ys,vs=[.ref p]/\(SqL K H p ys\/SqT K H p ys)/\∀l,H l=none->Q (.ref l) (upd H l (.lst ys))
theorem a5y(K:W.Frag)(h:X.K=K):a2k X (.type "list") (mLst K):=h▸b7k
def mMin:List V->Hp->VK->Prop:=λvs H Q=>∃i j,vs=[.int i,.int j]/\Q (.int (if j<i then j else i)) H
theorem c4j(hc:X.calm=true):a2k X (.builtin "min") mMin:=c3k hc
end
open PySem.AutoSeq1 in
open PySem.MeetsSeq PySem.MeetsSeq2 PySem.MeetsSeq3 in
theorem c1u(l:Addr)(items:Array Value)(n:Nat)(b:Addr)(items2:Array Value)(n2:Nat)(dd:Option Addr)(sl:Array (Option Value))(hs0:¬(!items.isEmpty&&Builtin.List.listTooLong (items.size+items2.size))=true)(hs1:items.size<=sizeLine)(hs2:items.size+items2.size<=sizeLine+1):
  Meets (Builtin.«list.extend» ⟨[.ref l,.ref b],[]⟩) (λ_ R s=>s.heap.get? l=some { cls:=.type "list",dict:=none,data:=.seq items n,slots:=#[]}/\s.heap.get? b=some { cls:=.type "tuple",dict:=dd,data:=.seq items2 n2,slots:=sl}/\
   R (.ok (.ret Value.none)) { s with heap:=s.heap.update l (Obj.mapSeq λx=>x++items2),toks:=s.toks}):=
 .of_wp λprog w A R s h=>by
  obtain⟨hp,g,d,tk,os⟩:=s;obtain⟨hl,hb,h⟩:=h;have f1:=idx_int;have f2:=PySem.AutoSeq1.sub_tuple_tuple;have f3:=PySem.AutoSeq1.sub_list_list;have f4:=PySem.AutoSeq1.sub_tuple_list;have f5:=PySem.AutoSeq1.sub_list_tuple;have hz':(items++items2).size<=sizeLine+1:=by rw[Array.size_append];exact hs2
  wp_walk using(Wb hl rfl (hz:=hs1) (_hz':=hz')),wpAny_loadPart' hl,wpAny_loadPart' hb
  exact⟨_,rfl,h⟩
section
variable{X:Cx}
def mExt(K:W.Frag):V->List V->Hp->VK->Prop:=λx vs H Q=>∃l b xs zs,x=.ref l/\vs=[.ref b]/\H l=some (.lst xs)/\(H b=some (.lst zs)\/SqT K H b zs)/\xs.length+zs.length<=sizeLine/\Q .non (upd H l (.lst (xs++zs)))
theorem b6b(K:W.Frag)(hK:X.K=K):MtR X "list.extend" (mExt K):=by
 subst hK;intro pins s σ H x vs v us Q I rx rv h;obtain⟨l,b,xs,zs,e1,e2,hH,hB,hz,q⟩:=h;rcases hB with hB|hB
 ·exact c3t pins s σ H x vs v us Q I rx rv ⟨l,b,xs,zs,e1,e2,hH,hB,hz,q⟩
 ·subst e1 e2;cases rx;obtain⟨u,rfl,ru⟩:=rv.one;cases ru;obtain⟨z,its,n,r,hl,e⟩:=I.lstM hH;obtain⟨its2,r2,pl,z2⟩:=I.tuple hB;obtain⟨⟨cls,dd,data,sl⟩,ho,hc,n2,hd⟩:=pl;simp only at hc hd;subst hc hd;have hl2:=r2.length;have hsz:its.toArray.size+its2.toArray.size<=sizeLine:=by rw[Zd,Zd];omega
  have hlong:¬(!its.toArray.isEmpty&&Builtin.List.listTooLong (its.toArray.size+its2.toArray.size))=true:=by
   rw[b2x hsz,Vf];exact Zn
  refine Vq Vt ⟨_,e,rfl⟩ Sx (Sn _ _) (c1u l its.toArray n b its2.toArray n2 dd sl hlong (by rw[Zd];omega) qo) ⟨e,ho,?_⟩;refine⟨.non,_,I.lset (its':=its++its2) hH e qz (r.append r2) ?_,rfl,q⟩;rw[Zf];omega
end
section
variable{prog:Program}{w:World}{A:Around}{E:Value->Shared->Prop}{s:Shared}
theorem b2l{t sl:Addr}{items:Array Value}{vl vu:Value}{lo hi:Option Int}{Q:Value->Shared->Prop}(ht:IsTup s.heap t items)(hs:s.heap.IsSliceOf sl vl vu .none)(pl:IsPart vl lo)(pu:IsPart vu hi)
  (hw:HT.sIx items.size 0 lo=0/\HT.sIx items.size items.size hi=items.size)(h:Q (.ref t) s):wpAny (model prog w) A (getItem (.ref t) (.ref sl)) Q E s:=by
 obtain⟨os,hos,hcs,hds⟩:=id hs;have hTs:s.TypeIs (.ref sl) "slice":=⟨os,hos,hcs⟩;unfold getItem
 try with_reducible refine Xm ?_
 first|refine Zb (Ze ?_)|skip
 refine Zb (wpAny_sequenceKey ht.typeIs qd ?_)
 refine Zb (wpAny_callSpecial?_slot (name:=ofString "__getitem__") ht.typeIs Y1
  (Yn Y1 ht.typeIs Sr ?_ (Ra _ _)))
 show wpAny _ _ (Builtin.Tuple.tupleItemsOf (.ref t)>>=_) _ _ s
 refine Zb (tupleItemsOf_ ht ?_);refine Zb (V7 hTs ?_);rw[if_pos qd];refine Zb (HT.sliceApplied_gen hs pl pu ?_)
 show wpAny _ _ (if(((HT.sIx items.size 0 lo:Nat):Int)==0&&(1:Int)==1&&(HT.sIx items.size items.size hi-HT.sIx items.size 0 lo)==items.size)=true then _ else _) _ _ s
 rw[if_pos (by rw[hw.1,hw.2];simp)];refine Zb ?_;unfold Builtin.Tuple.tupleIsExact;refine Zb (V7 ht.typeIs (Ze ?_));rw[if_pos qd];exact Zb (Wl (Ze ⟨_,rfl,Ze h⟩))
end
section
variable{X:Cx}
def b4h(xs:List V)(lo hi:Option Int):Prop:=HT.sIx xs.length 0 lo=0/\HT.sIx xs.length xs.length hi=xs.length
def mSlT(K:W.Frag):V->Option Int->Option Int->Hp->VK->Prop:=λx lo hi H Q=>∃a xs,x=.ref a/\SqT K H a xs/\(b4h xs lo hi->Q (.ref a) H)/\(¬b4h xs lo hi->∀p,H p=none->Q (.ref p) (upd H p (.tup (cutV xs lo hi))))
theorem b0s(K:W.Frag)(hK:X.K=K):SlR X (mSlT K):=by
 subst hK;intro pins s σ H x v vl vu lo hi sl Q I rx hs pl pu h;obtain⟨a,xs,rfl,hx,h1,h2⟩:=h
 by_cases hw:b4h xs lo hi
 ·cases rx;obtain⟨its,r,ht,hz⟩:=I.tuple hx;have hlen:its.toArray.size=xs.length:=by rw[Zd];exact r.length.symm
  exact⟨"tuple",_,Y1.lookup,ht.typeIs,b2l ht hs pl pu (by rw[hlen];exact hw) ⟨.ref a,H,I,rfl,h1 hw⟩⟩
 ·exact sl_tup pins s σ H _ v vl vu lo hi sl Q I rx hs pl pu ⟨a,xs,rfl,hx,hw,h2 hw⟩
theorem c7c{K:W.Frag}{H:Hp}{a:Addr}{us:List V}{ds:List PyData}{lo hi:Option Int}{Q:VK}(hs:SqT K H a us)(hl:DenL K H us ds)
  (q:∀p H',Same H H'->Den K H' (.ref p) (.tuple ((ds.drop (HT.sIx ds.length 0 lo)).take (HT.sIx ds.length ds.length hi-HT.sIx ds.length 0 lo)))->Q (.ref p) H'):mSlT K (.ref a) lo hi H Q:=by
 have l:=hl.length;refine⟨a,us,rfl,hs,λhw=>?_,λhw p hp=>?_⟩
 ·obtain⟨w1,w2⟩:=hw;refine q a H (Same.refl H) ?_;rw[<-l,w1,w2,Um,U0,l,V4];exact .tup hs hl
 ·refine q p _ (a0e hp _) (.tup (SqT.of a0c) ?_);unfold cutV;rw[<-l];exact((hl.drop _).take _).mono (a0e hp _)
end
section
variable{σ:St}{H:Hp}{D:Ends}{t:TS}{c:TT}
def c4k(c:TT)(t:TS)(D:Ends)(σ:St)(H:Hp):Prop:=b7e c t D σ H
theorem c7d(k:c4k c t D σ H):b7e c t D σ H:=k
theorem b0t(Pv:Nat->St->Hp->Prop)(n:Nat)(h0:Pv n σ H)
  (hs:∀n σ H (R:Bool->Hp->Prop),Pv n σ H->(∀H1,(∀(D':Ends),D'.rt=D.rt->D'.bk=D.nx->(∀σ' H' m,m<n->Pv m σ' H'->D'.nx σ' H')->(∀σ' H' m,m<n->Pv m σ' H'->D'.ct σ' H')->t D' σ H1)->R true H1)->(∀H1,D.nx σ H1->R false H1)->c σ H R):c4k c t D σ H:=by
 refine⟨Pv,⟨n,h0⟩,λm σ H p=>?_⟩;refine hs m σ H _ p (λH1 k=>?_) (λH1 k=>k);exact⟨λσ' H'=>∃m',m'<m/\Pv m' σ' H',λ_ _ h=>h,k _ rfl rfl (λ_ _ m' hm hp=>⟨m',hm,hp⟩) (λ_ _ m' hm hp=>⟨m',hm,hp⟩)⟩
end
section
variable{X:Cx}{a:Expr}{ta:TE}
def tyN(K:W.Frag)(H:Hp):V->String->Prop
 | .non,T=>T="NoneType"
 | .bl _,T=>T="bool"
 | .int _,T=>T="int"
 | .str _,T=>T="str"
 | .ref p,T=>(T="list"/\∃xs,SqL K H p xs)\/(T="tuple"/\∃xs,SqT K H p xs)\/(T="dict"/\∃kvs,H p=some (.dK kvs))
 |_,_=>False
def mIs(K:W.Frag):List V->Hp->VK->Prop:=λvs H Q=>∃x n T b,vs=[x,.ty n]/\tyN K H x T/\(∀K':W.Frag,W.kitOne K' (.type T) (.type n)=some b)/\Q (.bl b) H
theorem kc_is(K:W.Frag)(hK:X.K=K):a2k X (.builtin "isinstance") (mIs K):=by
 subst hK;intro pins s σ H xs us Q I r h;obtain⟨x,n,T,b,rfl,ht,hk,q⟩:=h;obtain⟨u,w',rfl,r1,r2⟩:=a8d r;cases r2;have fin:∀tk,EP X pins σ Q (.bool b) { s with toks:=tk}:=λtk=>⟨.bl b,H,I.tok _,rfl,q⟩
 cases x with
 |non=>cases ht;exact a4o I r1 .non (hk _) fin
 |bl y=>cases ht;exact a4o I r1 (.bl y) (hk _) fin
 |int i=>cases ht;exact a4o I r1 (.int i) (hk _) fin
 |str z=>cases ht;exact a4o I r1 (.str z) (hk _) fin
 |ref p=>
  cases r1;rcases ht with⟨rfl,xs,hs⟩|⟨rfl,xs,hs⟩|⟨rfl,kvs,hs⟩
  ·obtain⟨its,_,⟨o,n',h1,h2,_⟩,_⟩:=I.list hs;exact Wj Sf I.kIn ⟨o,h1,h2⟩ (hk _) (λz=>nomatch z) fin
  ·obtain⟨its,_,⟨o,h1,h2,_⟩,_⟩:=I.tuple hs;exact Wj W.kitx_tuple I.kIn ⟨o,h1,h2⟩ (hk _) (λz=>nomatch z) fin
  ·exact a4o (x:=.ref p) I rfl (.dK hs) (hk _) fin
 |_=>exact(show False from ht).elim
end
section
variable{K:W.Frag}{H:Hp}{Q:VK}{i:Int}{p:Str}{b:Bool}{a:Addr}{xs:List V}
theorem is_str(k:Q (.bl true) H):mIs K [.str p,.ty "str"] H Q:=⟨_,_,_,true,rfl,rfl,λ_=>b7p _ _,k⟩
theorem a5m{α:Type}{xs:List α}{i:Int}{v:α}(h:atI xs i=some v):v∈xs:=by
 obtain⟨j,_,e,_⟩:=b1q h;exact Xa e
theorem b1y(l m:List Nat):(⟨l.toArray⟩:Str)++⟨m.toArray⟩=⟨(l++m).toArray⟩:=by
 apply Str.ext'
 show l.toArray++m.toArray=(l++m).toArray
 simp
theorem str_len(l:List Nat):(⟨l.toArray⟩:Str).length=l.length:=by simp[Str.length]
theorem ints_at{ns:List Int}{i:Int}{v:V}(h:atI (ns.map V.int) i=some v):∃n,v=.int n:=by
 have:=a5m h;obtain⟨n,_,e⟩:=Z4.mp this;exact⟨n,e.symm⟩
theorem c7e{ns:List Int}{i:Nat}(h:i<(ns.map V.int).length):∃n,(ns.map V.int).getD i .non=.int n:=by
 rw[length_map]at h;rw[Zm,Zz,Za h];exact⟨_,rfl⟩
theorem a8y{lo hi:Option Int}(c:SqL K H a xs)(k:∀p,H p=none->Q (.ref p) (upd H p (.lst (cutV xs lo hi)))):mSlL K (.ref a) lo hi H Q:=⟨a,xs,rfl,c,k⟩
theorem a5p(c:SqL K H a xs)(k:∀l,H l=none->Q (.ref l) (upd H l (.tup xs))):mTup K [.ref a] H Q:=⟨a,xs,rfl,.inl ⟨c,k⟩⟩
theorem b7t(c:SqL K H a xs)(k:∀l,H l=none->Q (.ref l) (upd H l (.lst xs))):mLst K [.ref a] H Q:=⟨a,xs,rfl,.inl c,k⟩
theorem mMin_i{j:Int}(k:Q (.int (if j<i then j else i)) H):mMin [.int i,.int j] H Q:=⟨i,j,rfl,k⟩
theorem c4l{zs:List V}{l:Addr}(e:H l=some (.lst xs))(c:H a=some (.lst zs))(z:xs.length+zs.length<=sizeLine)(k:Q .non (upd H l (.lst (xs++zs)))):mExt K (.ref l) [.ref a] H Q:=⟨l,a,xs,zs,rfl,rfl,e,.inl c,z,k⟩
theorem c4m{l:Addr}{v:V}(e:H l=some (.lst (xs++[v])))(k:Q v (upd H l (.lst xs))):mPop (.ref l) [] H Q:=⟨xs,v,e,k⟩
theorem a7r{q:Addr}{ys:List V}(e1:H a=some (.lst xs))(e2:H q=some (.lst ys))(z:xs.length+ys.length<=sizeLine)(k:∀d,H d=none->Q (.ref d) (upd H d (.lst (xs++ys)))):mAdd K (.ref a) (.ref q) H Q:=.inl ⟨xs,ys,e1,e2,z,k⟩
end
section
variable{X:Cx}
theorem preSum_eq(ns:List Int):∀n,n<=ns.length->preSum (λi=>ns.getD i 0) n=(ns.take n).sum
 |0,_=>by simp[preSum]
 |n+1,h=>by
  have hn:n<ns.length:=by omega
  rw[preSum,preSum_eq ns n qo,Wr,List.sum_append,Za hn,Zm,Za hn]
  simp
end
abbrev a4r:Str:=ofString "abcdefghijklmnopqrstuvwxyz"
abbrev c4n:Str:=ofString "ABCDEFGHIJKLMNOPQRSTUVWXYZ"
abbrev figS:Str:=ofString "0123456789"
abbrev a4d:Str:=ofString "abcdefghijklmnopqrstuvwxyzABCDEFGHIJKLMNOPQRSTUVWXYZ0123456789"
abbrev one(c:Nat):Str:=⟨#[c]⟩
abbrev a6m:Sp:=λvs H Q _=>match vs with| [.int c]=>∀(n:Int)(H':Hp),-(10^30)<n->n<10^30->Same H H'->Q (.int n) H'|_=>False
theorem ln{n:Nat}(h:n<=100000):n<=sizeLine:=by rw[Yh];omega
theorem ln1{n:Nat}(h:n<100000):n<sizeLine:=by rw[Yh];omega
theorem tl62:a4d.length=62:=by decide+kernel
inductive Trm where
 |num(n:Int)
 |any(x:Str)
 |app(sg:Str)(ks:List Trm)
abbrev numS:Str:=ofString "num"
abbrev anyS:Str:=ofString "any"
abbrev appS:Str:=ofString "app"
mutual
def Trm.data:Trm->PyData
 | .num n=>.tuple [.str numS,.int n]
 | .any x=>.tuple [.str anyS,.str x]
 | .app sg ks=>.tuple [.str appS,.str sg,.tuple (Trm.dataL ks)]
def Trm.dataL:List Trm->List PyData
 | []=>[]
 |t::r=>t.data::Trm.dataL r
end
mutual
def Trm.size:Trm->Nat
 | .num _=>1
 | .any _=>1
 | .app _ ks=>1+Trm.sizeL ks
def Trm.sizeL:List Trm->Nat
 | []=>0
 |t::r=>t.size+Trm.sizeL r
end
theorem Trm.size_pos:∀t:Trm,1<=t.size
 | .num _=>Zh 1
 | .any _=>Zh 1
 | .app _ ks=>by unfold Trm.size;omega
mutual
theorem Trm.depth_le:∀t:Trm,t.data.depth<=2*t.size
 | .num _=>by simp[Trm.data,Trm.size,PyData.depth,PyData.depthAll]
 | .any _=>by simp[Trm.data,Trm.size,PyData.depth,PyData.depthAll]
 | .app _ ks=>by
  have:=Trm.depthL_le ks;simp only[Trm.data,Trm.size,PyData.depth,PyData.depthAll];omega
theorem Trm.depthL_le:∀ts:List Trm,PyData.depthAll (Trm.dataL ts)<=2*Trm.sizeL ts
 | []=>by simp[Trm.dataL,Trm.sizeL,PyData.depthAll]
 |t::r=>by
  have h1:=Trm.depth_le t;have h2:=Trm.depthL_le r;simp only[Trm.dataL,Trm.sizeL,PyData.depthAll];omega
end
theorem Trm.dataL_map:∀ts:List Trm,Trm.dataL ts=ts.map Trm.data
 | []=>rfl
 |t::r=>by rw[Trm.dataL,Trm.dataL_map r,Z2]
theorem Trm.sizeL_map:∀ts:List Trm,Trm.sizeL ts=(ts.map Trm.size).sum
 | []=>rfl
 |t::r=>by rw[Trm.sizeL,Trm.sizeL_map r,Z2,List.sum_cons]
theorem Trm.sizeL_app(a b:List Trm):Trm.sizeL (a++b)=Trm.sizeL a+Trm.sizeL b:=by
 rw[Trm.sizeL_map,Trm.sizeL_map,Trm.sizeL_map,Zi,List.sum_append]
theorem Trm.len_le(ts:List Trm):ts.length<=Trm.sizeL ts:=by
 induction ts with
 |nil=>simp
 |cons t r ih=>
  have:=t.size_pos;rw[Trm.sizeL,length_cons];omega
section
variable{K:W.Frag}{H:Hp}{v:V}
theorem a2g{n:Int}(h:Den K H v (Trm.num n).data):∃a,v=.ref a/\SqT K H a [.str numS,.int n]:=by
 unfold Trm.data at h;cases h with
 |tup hs hl=>
  cases hl with
  |cons h1 hl=>
   cases hl with
   |cons h2 hl=>
    cases hl;cases h1;cases h2;exact⟨_,rfl,hs⟩
theorem a2h{x:Str}(h:Den K H v (Trm.any x).data):∃a,v=.ref a/\SqT K H a [.str anyS,.str x]:=by
 unfold Trm.data at h;cases h with
 |tup hs hl=>
  cases hl with
  |cons h1 hl=>
   cases hl with
   |cons h2 hl=>
    cases hl;cases h1;cases h2;exact⟨_,rfl,hs⟩
theorem a1l{sg:Str}{ks:List Trm}(h:Den K H v (Trm.app sg ks).data):∃a b us,v=.ref a/\SqT K H a [.str appS,.str sg,.ref b]/\SqT K H b us/\DenL K H us (Trm.dataL ks):=by
 unfold Trm.data at h;cases h with
 |tup hs hl=>
  cases hl with
  |cons h1 hl=>
   cases hl with
   |cons h2 hl=>
    cases hl with
    |cons h3 hl=>
     cases hl;cases h1;cases h2;cases h3 with
     |tup hb hk=>exact⟨_,_,_,rfl,hs,hb,hk⟩
theorem b5c{a:Addr}{n:Int}(h:SqT K H a [.str numS,.int n]):Den K H (.ref a) (Trm.num n).data:=by
 unfold Trm.data;exact .tup h (.cons (.str _) (.cons (.int _) .nil))
theorem a5z{a:Addr}{x:Str}(h:SqT K H a [.str anyS,.str x]):Den K H (.ref a) (Trm.any x).data:=by
 unfold Trm.data;exact .tup h (.cons (.str _) (.cons (.str _) .nil))
theorem a3f{a b:Addr}{sg:Str}{ks:List Trm}{us:List V}(h:SqT K H a [.str appS,.str sg,.ref b])(hb:SqT K H b us)(hk:DenL K H us (Trm.dataL ks)):Den K H (.ref a) (Trm.app sg ks).data:=by
 unfold Trm.data;exact .tup h (.cons (.str _) (.cons (.str _) (.cons (.tup hb hk) .nil)))
theorem a6a{t:Trm}(h:Den K H v t.data):∃a us ds,v=.ref a/\SqT K H a us/\DenL K H us ds/\t.data=.tuple ds:=by
 cases t with
 |num n=>unfold Trm.data at h ⊢;cases h with|tup hs hl=>exact⟨_,_,_,rfl,hs,hl,rfl⟩
 |any x=>unfold Trm.data at h ⊢;cases h with|tup hs hl=>exact⟨_,_,_,rfl,hs,hl,rfl⟩
 |app sg ks=>unfold Trm.data at h ⊢;cases h with|tup hs hl=>exact⟨_,_,_,rfl,hs,hl,rfl⟩
theorem DenL.snoc{us:List V}{ds:List PyData}{d:PyData}(h:DenL K H us (ds++[d])):∃us' u,us=us'++[u]/\DenL K H us' ds/\Den K H u d:=by
 induction ds generalizing us with
 |nil=>
  cases h with
  |cons h1 h2=>
   cases h2;exact⟨[],_,rfl,.nil,h1⟩
 |cons x r ih=>
  cases h with
  |cons h1 h2=>
   obtain⟨us',u,rfl,a,b⟩:=ih h2;exact⟨_::us',u,rfl,.cons h1 a,b⟩
theorem DenL.nil_inv{us:List V}(h:DenL K H us []):us=[]:=by cases h;rfl
end
theorem dig_val(k:Nat)(h:k<10):(Nat.digitChar k).toNat=48+k:=by
 have:k=0\/k=1\/k=2\/k=3\/k=4\/k=5\/k=6\/k=7\/k=8\/k=9:=by omega
 rcases this with rfl|rfl|rfl|rfl|rfl|rfl|rfl|rfl|rfl|rfl<;>rfl
def a3b(n:Nat):List Nat:=(Nat.toDigits 10 n).map Char.toNat
theorem b1z{n:Nat}(h:n<10):a3b n=[48+n]:=by
 unfold a3b;rw[Nat.toDigits_of_lt_base h,Z2,Xd,dig_val n h]
theorem c7f{n k:Nat}(hk:1<=k)(h:n<10^k):(a3b n).length<=k:=by
 unfold a3b;rw[length_map];exact digits10_le hk h
theorem b7u(n:Nat):((toString (n:Int):String):Str)=⟨(a3b n).toArray⟩:=text_ofNat n
section
variable{X:Cx}
def mStr:List V->Hp->VK->Prop:=λvs H Q=>match vs with
 | [.int i]=>i.natAbs.log2<1920/\Q (.str (toString i)) H
 |_=>False
theorem c4o:a2k X (.type "str") mStr:=by
 intro pins s σ H xs us Q I r h;refine b7f pins s σ H xs us Q I r ?_;unfold mStr at h;split at h
 ·exact⟨_,rfl,h.1,h.2⟩
 ·exact h.elim
theorem c4p{i:Int}(h0:0<=i)(h1:i<10^30):i.natAbs.log2<1920:=by
 by_cases h:i.natAbs=0
 ·rw[h];decide
 ·refine(U9 h).mpr ?_;refine Z6 (m:=10^30) qo ?_;refine Yk (m:=2^100) qk (Nat.pow_le_pow_right qd qd)
theorem c4q{i:Int}{H:Hp}{Q:VK}(h0:0<=i)(h1:i<10^30)(k:Q (.str ⟨(a3b i.toNat).toArray⟩) H):mStr [.int i] H Q:=by
 refine⟨c4p h0 h1,?_⟩;obtain⟨n,rfl⟩:=Tv h0;have e:=b7u n;rw[Vz]at k;rw[<-e]at k;exact k
def mRepS:R2:=λx y H Q=>∃(c:Nat)(k:Int),x=.str ⟨#[c]⟩/\y=.int k/\0<=k/\k<=1000/\Q (.str ⟨(List.replicate k.toNat c).toArray⟩) H
theorem b7v(c:Nat):∀(n:Nat)(a:List Nat),(List.replicate n (#[c]:Array Nat)).foldl (· ++ ·) a.toArray=(a++List.replicate n c).toArray
 |0,a=>by simp
 |n+1,a=>by
  rw[Xu,List.foldl_cons,show a.toArray++ #[c]=(a++[c]).toArray by simp,b7v c n (a++[c]),Xe,Xu];rfl
theorem b9m{c:Nat}{k:Int}(h0:0<=k):Txt.mul ⟨#[c]⟩ k=⟨(List.replicate k.toNat c).toArray⟩:=by
 unfold Txt.mul
 split
 ·have:k=0:=by omega
  subst this;rfl
 ·split
  ·rename_i h1 h2;have:k=1:=by
    rw[Bool.or_eq_true]at h2;rcases h2 with h2|h2
    ·simpa using h2
    ·simp[Str.length]at h2
   subst this;rfl
  ·have:=b7v c k.toNat [];rw[Wp]at this;exact Xj Str.mk this
theorem ko_repS:OpR X (binaryOp .Mult) mRepS:=by
 intro pins s σ H x y v u Q I rx ry h;obtain⟨c,k,rfl,rfl,h0,h1,q⟩:=h;obtain⟨t,rfl⟩:=rx;obtain⟨t',rfl⟩:=ry;have e1:(⟨#[c]⟩:Str).length=1:=rfl;refine SB.mul ⟨?_,λ_ _=>?_,λ_ _=>?_⟩ λt' k'=>⟨.str _,H,I.tok _,⟨_,rfl⟩,?_⟩
 ·rw[Zo qo,Zo qo];rfl
 ·rw[e1];have h2:(0:Int)<k:=by omega
  have:(1:Int)<=(2^63-1)/k:=Int.le_ediv_of_mul_le h2 qo;omega
 ·rw[e1,Nat.one_mul];exact Zo (show ¬(k.toNat>sizeLine) by rw[Yh];omega)
 ·rw[b9m h0];exact q
theorem b4i(K:W.Frag)(h:X.K=K):OpR X (compareOp .In) (rIn K false):=h▸c3r
theorem mRepS_i{c:Nat}{k:Int}{H:Hp}{Q:VK}(h0:0<=k)(h1:k<=1000)(q:Q (.str ⟨(List.replicate k.toNat c).toArray⟩) H):mRepS (.str ⟨#[c]⟩) (.int k) H Q:=⟨c,k,rfl,rfl,h0,h1,q⟩
end
section
variable{σ:St}{H:Hp}{Q:VK}{D:Ends}{td ty tx tv:TE}
theorem tDGet_i(k:td σ H λx H1=>ty σ H1 λy H2=>∃a v,x=.ref a/\DGet H2 a y (some v)/\Q v H2):tDGet td ty σ H Q:=k
theorem c7g(k:td σ H λx H1=>∃a,x=.ref a/\IsD H1 a/\ty σ H1 λy H2=>tx σ H2 λz H3=>∃o,DGet H3 a y o/\Q (o.getD z) H3):c3w td ty tx σ H Q:=k
theorem sDPut_i(k:tv σ H λv H1=>td σ H1 λx H2=>ty σ H2 λy H3=>∃a H4,x=.ref a/\DPut H3 a y v H4/\D.nx σ H4):sDPut td ty tv D σ H:=k
end
section
variable{X:Cx}
def mIsN(n:Bool):R2:=λx y H Q=>y=.non/\Q (.bl (n^^decide (x=.non))) H
theorem c4r:OpR X (compareOp .Is) (mIsN false):=op_isN.imp λ_ _ _ _ h=>⟨h.1,by have:=h.2;rwa[Zy]at this⟩
theorem b5d:OpR X (compareOp .IsNot) (mIsN true):=op_notN.imp λ_ _ _ _ h=>⟨h.1,by have:=h.2;rwa[Ts]at this⟩
theorem isN_non{n:Bool}{H:Hp}{Q:VK}(k:Q (.bl (!n)) H):mIsN n .non .non H Q:=⟨rfl,by rw[Zt rfl,Bool.xor_true];exact k⟩
theorem isN_ref{n:Bool}{a:Addr}{H:Hp}{Q:VK}(k:Q (.bl n) H):mIsN n (.ref a) .non H Q:=⟨rfl,by rw[Zo (λz=>by cases z),Bool.xor_false];exact k⟩
def mInt:List V->Hp->VK->Prop:=λvs H Q=>match vs with
 | [.int i]=>Q (.int i) H
 | [.bl b]=>Q (.int (if b then 1 else 0)) H
 |_=>False
theorem b4j:a2k X (.type "int") mInt:=by
 intro pins s σ H xs us Q I r h;refine c3l pins s σ H xs us Q I r ?_;unfold mInt at h;split at h
 ·exact .inl ⟨_,rfl,h⟩
 ·exact .inr ⟨_,rfl,h⟩
 ·exact h.elim
theorem mInt_b{b:Bool}{H:Hp}{Q:VK}(k:Q (.int (if b then 1 else 0)) H):mInt [.bl b] H Q:=k
end
def But(p:Addr)(H H':Hp):Prop:=∀b o,b≠p->H b=some o->H' b=some o
theorem Same.but{p:Addr}{H H':Hp}(s:Same H H'):But p H H':=λb o _ h=>s b o h
theorem But.trans{p:Addr}{H H1 H2:Hp}(a:But p H H1)(b:But p H1 H2):But p H H2:=λc o n h=>b c o n (a c o n h)
theorem But.tup{K:W.Frag}{p:Addr}{H H':Hp}{ys:List V}(e:But p H H')(hp:H p=some (.lst ys)){a:Addr}{xs:List V}(h:SqT K H a xs):SqT K H' a xs:=by
 rcases h with(h|⟨o,h⟩)|h
 ·exact .inl (.inl (e _ _ (λz=>by subst z;rw[hp]at h;cases h) h))
 ·exact .inl (.inr ⟨o,e _ _ (λz=>by subst z;rw[hp]at h;cases h) h⟩)
 ·exact .inr h
theorem b7w(n:Nat)(m:Int)(h:0<=m):HT.sIx n n (some m)=min m.toNat n:=by
 unfold HT.sIx;have e:¬(m<0):=by omega
 simp only[e,W9]
theorem a9n(n k:Nat):HT.sIx n k none=k:=rfl
section
variable{X:Cx}{pins:List (Addr×Obj)}{σ:St}{H:Hp}{s:Shared}{h':Heap}
theorem Inv.turnedLaid{t':Nat}{ch:List Addr}{T:Addr}{o:HO}(I:Inv X pins σ H s)(hf:∀b∈ch,FpOk X pins H b)(k:∀b u,b∉ch->s.heap.get? b=some u->h'.get? b=some u)(hT:s.heap.objs.size<=T)
  (new:a1v X.prog X.w (upd H T o) h' T o):Inv X pins σ (upd H T o) { s with heap:=h',toks:=t'}:=by
 have hn:H T=none:=I.hok.fresh hT;have nin:∀b u,H b=some u->b∉ch:=λb u e hb=>by rw[(hf b hb).1]at e;cases e
 have neT:∀b u,s.heap.get? b=some u->b≠T:=λb u e=>Z0 (Z6 (Zl e) hT)
 refine I.step (g':=s.gens) (d':=s.drawn) (ch:=ch) (λb hb=>⟨(hf b hb).2.2.2.1,(hf b hb).2.1,(hf b hb).2.2.2.2.1,(hf b hb).2.2.2.2.2⟩) (λb u _ _ hc e _=>k b u hc e) (λb u _ _ hc e _=>⟨u.slots,k b u hc e⟩)
  (λb u hc e n=>by rw[a0p (neT b u e)];exact n) (λb u hc e=>⟨u,k b u hc e⟩) (λb xs q=>by rw[a0p (a1m q hn)];exact q) (λb u xs q=>by rw[a0p (a1m q hn)];exact q) (λb ps q=>⟨#[],by rw[a0p (a1m q hn),q];simp⟩) (λm hm=>?_) (λb u e=>?_) I.bare
 ·obtain⟨q,es,ep,ho,r⟩:=hm;exact⟨q,es,ep,k _ q (λhb=>(hf _ hb).2.1 rfl) ho,r⟩
 ·by_cases hb:b=T
  ·subst hb;rw[a0c]at e;cases e;exact new
  ·rw[a0p hb]at e;refine(I.hok b u e).stay (λc v hc q=>k c v ?_ q) (λc q=>by rw[a0p (a1m q hn)];exact q) λc xs q=>by rw[a0p (a1m q hn)];exact q
   rcases hc with z|z
   ·rw[z];exact nin b u e
   ·exact nin c _ z
end
def Ite(K:W.Frag)(a:Addr)(n:Nat):It:=⟨λi H=>i<n/\∃xs,SqL K H a xs/\xs.length=n,λi H v H'=>∃T x,H T=none/\v=.ref T/\H'=upd H T (.tup [.int i,x])/\∀xs,SqL K H a xs->xs[i]? =some x,λi H=>i=n/\∃xs,SqL K H a xs/\xs.length=n⟩
theorem c4s{P:Program}{w:World}{K:W.Frag}{elts:List Expr}{k:Nat}{pos:Pos}(a e it:Addr)(n:Nat)(hei:e≠it)(hai:a≠it)(hae:a≠e):
  Turn P w K (.Tuple elts k pos) (Ite K a n) [e,it] e (λi h=>(∃old,IsEnum h e it (i:Nat) old)/\h.IsListIter it a i) where
 mem:=by simp
 obj:=λi h st b hb=>by
  obtain⟨⟨old,h1⟩,o,h2,h3,h4⟩:=st;simp only[Zp,Z8,Xn]at hb;rcases hb with rfl|rfl
  ·exact⟨_,h1,λv z=>by have z':Data.fields _=Data.cell v:=z;cases z'⟩
  ·exact⟨o,h2,λv z=>by rw[h4]at z;cases z⟩
 keep:=λi h h' st hk=>⟨let⟨old,q⟩:=st.1;⟨old,hk e qz _ q⟩,st.2.at λo q=>hk it qz o q⟩
 item:=by
  intro X hP hw hK hc i pins s σ H E I hf st hg;subst hP hw hK;obtain⟨hi,xs,hq,hl⟩:=hg;obtain⟨its,rv,p,hz⟩:=I.list hq;have hlen:=rv.length;have D:=Draws.list (prog:=X.prog) (w:=X.w) (A:=X.A.in1) (show X.A.in1.handled=none from I.ok.hd hc) it a hai its.toArray;have W:=WalksT.enumerateD D e hei (by simp only[Zp,Z8,Xn,not_or];exact⟨hei,Ne.symm hae⟩) qz;refine W.item i s _ _ (by rw[Zd];omega) ⟨st.1,st.2,p.isList⟩ λT vals h1 tk hPt hT htup hmid hk1=>?_
  obtain⟨t,x,hx,rfl⟩:=hPt;refine⟨.ref T,rfl,W.go elts k pos i T { s with heap:=h1,toks:=tk} _ _ hmid λh2 hst2 hk2=>?_⟩;have hx2:its[i]? =some x:=by simpa using hx
  have hix:i<xs.length:=by omega
  obtain⟨u,hu,ru⟩:=rv.get (Za hix);rw[hu]at hx2;cases hx2;have hk:∀b u,b∉[e,it]->s.heap.get? b=some u->h2.get? b=some u:=λb u hb q=>hk2 b u hb (hk1 b u hb q)
  have hTn:T∉[e,it]:=by
   obtain⟨_,_,z1,z2⟩:=hmid;simp only[Zp,Z8,Xn,not_or];exact⟨z1,z2⟩
  have hTup:IsTup h2 T #[.int i t,x]:=by
   obtain⟨o,h3,h4⟩:=htup;exact⟨o,hk2 T o hTn h3,h4⟩
  refine⟨.ref T,upd H T (.tup [.int i,xs[i]]),I.turnedLaid (ch:=[e,it]) hf hk hT ⟨by simp[Yh],[.int i t,x],.cons ⟨t,rfl⟩ (.cons ru .nil),hTup⟩,rfl,?_,?_,λb hb=>?_⟩
  ·exact⟨T,xs[i],I.hok.fresh hT,rfl,rfl,λys hy=>by rw[I.list_inj hy hq];exact Za hix⟩
  ·exact⟨by simpa using hst2.1,hst2.2.1⟩
  ·have nb:b≠T:=λz=>hTn (by rw[<-z];exact hb)
   rw[a0p nb];exact(hf b hb).1
 done:=by
  intro X hP hw hK hc i pins s σ H E I hf st hg;subst hP hw hK;obtain⟨hi,xs,hq,hl⟩:=hg;subst hi;obtain⟨its,rv,p,hz⟩:=I.list hq;obtain⟨old,h1⟩:=st.1;obtain⟨f0,f1,f2,f3,f4,f5⟩:=hf it qz;have hlen:=rv.length;exact wpAny_pyNext_enum_end (I.ok.hd hc) h1 st.2 p.isList (by simp;omega) λh' eb=>⟨rfl,I.turned (t':=s.toks) (λb o hb q=>eb b o hb q) f0 f1 f3 f4 f5⟩
 self:=λ_ _ _ _ _ st h=>by
  obtain⟨⟨old,h1⟩,_⟩:=st;exact wpAny_pyIter_enum h1 h
section
variable{X:Cx}
def iEnum(K:W.Frag)(ta:TA):TI:=λσ H R=>ta σ H λvs H1=>∃a xs,vs=[.ref a]/\SqL K H1 a xs/\R (Ite K a xs.length) H1
theorem c7h(K:W.Frag)(hK:X.K=K){elts:List Expr}{k:Nat}{tpos:Pos}{a:Expr}{ta:TA}{p pos:Pos}(hg:Gl X "enumerate")(hm:X.mg "enumerate"=none)(ha:PA X [a] ta)(hs:starEach [a] X.env=[(false,eval a X.env)]:=by rfl):PI X (.Tuple elts k tpos) (.Call (.Name "enumerate" p) [a] [] pos) (iEnum K ta):=by
 subst hK;intro pins s σ H R I h;refine Call_ (a5c I hg hm boot_enumerate (Ys (thn (ha pos pins s σ H _ I h) λus s1 ⟨vs,H1,I1,r1,q1⟩=>?_) hs rfl));obtain⟨l,xs,e,hq,q⟩:=q1;subst e;cases r1 with
 |cons r rr=>
  cases rr;cases r;obtain⟨its,rv,pl,hz⟩:=I1.list hq;have hlt:l<s1.heap.objs.size:=by obtain⟨o,ho,_⟩:=pl.isList;exact Zl ho
  refine call_enumerate_list pl.isList λh' he hit hsz hk=>wpAny_pyIter_enum he ?_
  refine⟨_,[s1.heap.objs.size+1,s1.heap.objs.size],_,_,H1,rfl,I1.kept (t':=s1.toks) hk,c4s l (s1.heap.objs.size+1) s1.heap.objs.size xs.length (Nat.succ_ne_self _) (Z0 hlt) (Z0 (Vb hlt)),⟨⟨_,he⟩,hit⟩,λb hb=>?_,q⟩;simp only[Zp,Z8,Xn]at hb;rcases hb with rfl|rfl
  ·exact I1.fpOk (Ta _) (I1.hok.fresh (Ta _))
  ·exact I1.fpOk (Zh _) (I1.hok.fresh (Zh _))
end
theorem iEnum_i{K:W.Frag}{σ:St}{H:Hp}{ta:TA}{R:It->Hp->Prop}(k:ta σ H λvs H1=>∃a xs,vs=[.ref a]/\SqL K H1 a xs/\R (Ite K a xs.length) H1):iEnum K ta σ H R:=k
open PySem PySem.Spec PyProof.Rows PySem.W
section
variable{X:Cx}
theorem b2r{α β:Type}{R:α->β->Prop}:∀{xs:List α}{ys:List β},Paired R xs ys->∀(i:Nat)(y:β),ys[i]? =some y->∃x,xs[i]? =some x/\R x y
 |_,_,.nil,i,x,h=>by simp at h
 |_,_,.cons r t,0,x,h=>by simp at h;subst h;exact⟨_,rfl,r⟩
 |_,_,.cons r t,i+1,x,h=>by simpa using b2r t i x (by simpa using h)
theorem kV_rel{P:Program}{w:World}{k:Key}{u:Value}(h:(a1q P w).is k u=true):RelV (kV k) u:=by
 cases u with
 |int i t=>
  cases k with
  |inl j=>
   have e:(Sum.inl i:Key)=Sum.inl j:=(a1q P w).inj _ _ _ (a8m P w i t) h;cases e;exact⟨t,rfl⟩
  |inr x=>exact nomatch (show(Sum.inl i:Key)=Sum.inr x from(a1q P w).inj _ _ _ (a8m P w i t) h)
 |str x t=>
  cases k with
  |inr j=>
   have e:(Sum.inr x:Key)=Sum.inr j:=(a1q P w).inj _ _ _ (a8n P w x t) h;cases e;exact⟨t,rfl⟩
  |inl i=>exact nomatch (show(Sum.inr x:Key)=Sum.inl i from(a1q P w).inj _ _ _ (a8n P w x t) h)
 |_=>cases k<;>exact absurd (show false=true from h) Zn
def mLstK:List V->Hp->VK->Prop:=λvs H Q=>∃a kvs,vs=[.ref a]/\Rd H a (.dK kvs)/\∀p:Addr,H p=none->Q (.ref p) (upd H p (.lst (kvs.map λkv=>kV kv.1)))
theorem b2s:∀{xs:List V}{us:List Value},us.length=xs.length->(∀(j:Nat)(v:Value),us[j]? =some v->∃x,xs[j]? =some x/\RelV x v)->Vals xs us
 | [],[],_,_=>.nil
 |x::r,u::t,hl,h=>by
  obtain⟨y,h1,h2⟩:=h 0 u rfl
  simp at h1
  subst h1;exact .cons h2 (b2s (by simpa using hl) λj v e=>by simpa using h (j+1) v (by simpa using e))
 | [],_::_,hl,_=>by simp at hl
 |_::_,[],hl,_=>by simp at hl
theorem c7i(hc:X.calm=true):a2k X (.type "list") mLstK:=by
 intro pins s σ H vs us Q I r h;obtain⟨a,kvs,rfl,ha,q⟩:=h;obtain⟨u,rfl,r1⟩:=vals1 r;cases r1;obtain⟨z,lo,xs,rel,dd⟩:=a8e I.hok ha;obtain⟨ep,dd⟩:=dd.dictAt;have hlx:=rel.length;refine kdl_call (kdl_dict (knd:=a1q X.prog X.w) lo) (I.ok.hd hc) dd qo λh' tk acc c hk hS hacc=>?_
 refine⟨.ref s.heap.objs.size,_,I.laid (a:=s.heap.objs.size) (o:=.lst (kvs.map λkv=>kV kv.1)) (t':=tk) hk (Zh _) ⟨by simp;omega,acc.toList,c,?_,by simpa using hS⟩,rfl,q _ (I.hok.fresh (Zh _))⟩;refine b2s (by rw[Xf,hacc.1,length_map,hlx]) λj v e=>?_
 obtain⟨k,x,h1,h2⟩:=hacc.2 j v (by rw[<-Wq];exact e);obtain⟨kv,h3,h4,h5⟩:=b2r rel j (k,x) h1;refine⟨kV k,by rw[Zz,h3];exact Xj (λz=>some (kV z)) h4,?_⟩;exact kV_rel h2
end
open PySem.AutoSeq1 (wpAny_loadPart')
section
variable{X:Cx}
theorem b2a(K:W.Frag)(hK:X.K=K){pos:Pos}{es:List Expr}{k:Nat}{t:TGs}{n:Nat}(hc:X.calm=true)(h:PGs X es t)
  (hn:(assignEach es X.env).length=n:=by rfl)(hst:(assignEach es X.env).findIdx? (·.1)=none:=by rfl):PG X (.Tuple es k pos) (gTup K n t):=hK▸pg_tup hc h hn hst
end
section
variable{K:W.Frag}{σ:St}{H:Hp}{Q:VK}{D:Ends}{a:Addr}{xs:List V}{n:Nat}
theorem b4k{t:TGs}{N:St->Hp->Prop}(hs:SqT K H a xs)(hl:xs.length=n)(k:t xs σ H N):gTup K n t (.ref a) σ H N:=⟨a,xs,rfl,hs,hl,k⟩
theorem gCons_i{t:TG}{u:TGs}{v:V}{r:List V}{N:St->Hp->Prop}(k:t v σ H λσ' H'=>u r σ' H' N):gCons t u (v::r) σ H N:=⟨v,r,rfl,k⟩
theorem gNil_i{N:St->Hp->Prop}(k:N σ H):gNil [] σ H N:=⟨rfl,k⟩
theorem c7j(ys:List V):cutV ys none (some (-1))=ys.dropLast:=by
 unfold cutV HT.sIx;simp only[U0,Um];rw[Sa]
 congr 1
 have:((-1:Int)<0):=by decide
 simp only[this,if_true];omega
end
section
variable{X:Cx}
theorem a1z{A:Around}{s:Shared}{a b:Key}{u v:Value}(ra:RelV (kV a) u)(rb:RelV (kV b) v):SeqAt.EqAt A s u v (decide (a=b)):=by
 cases a with
 |inl i=>
  obtain⟨t,rfl⟩:=ra;cases b with
  |inl j=>
   obtain⟨t',rfl⟩:=rb;rw[c3b];have:=Vs (A:=A) (s:=s) i t j t'
   simpa[PyData.eqv]using this
  |inr y=>
   obtain⟨t',rfl⟩:=rb;rw[c3d];exact Ut i t y t'
 |inr x=>
  obtain⟨t,rfl⟩:=ra;cases b with
  |inl j=>
   obtain⟨t',rfl⟩:=rb;rw[c3e];exact Ur x t j t'
  |inr y=>
   obtain⟨t',rfl⟩:=rb;rw[c3c];have:=Vr (A:=A) (s:=s) x t y t';have e:(x==y)=decide (x=y):=by
    by_cases h:x=y
    ·subst h;simp
    ·rw[Zo h];exact Yz.mpr h
   rw[<-e]
   simpa[PyData.eqv]using this
theorem all_eq(k1 k2:List Key):((List.range (min k1.length k2.length)).all (λj=>decide (k1[j]? =k2[j]?))&&(k1.length==k2.length))=decide (k1=k2):=by
 by_cases h:k1=k2
 ·subst h
  simp
 ·rw[Zo h];cases hl:(k1.length==k2.length)with
  |false=>rw[Vf]
  |true=>
   have hl:k1.length=k2.length:=eq_of_beq hl;rw[Bool.and_true];refine Bool.eq_false_iff.mpr λz=>h ?_
   apply List.ext_getElem?
   intro j
   by_cases hj:j<k1.length
   ·exact Zr (Y3.mp z j (Xc.mpr qo))
   ·rw[Wa qo,Wa qo]
end
structure QE(X:Cx)(e:Expr)(t:TE):Prop where
 pe:PE X e t
structure QS(X:Cx)(st:Stmt)(t:TS):Prop where
 ps:PS X st t
structure QSs(X:Cx)(l:List Stmt)(t:TS):Prop where
 pss:PSs X l t
section
variable{X:Cx}{pos pos':Pos}{e k v:Expr}{te tk tv:TE}{st:Stmt}{rest:List Stmt}{t u:TS}
theorem qs_set{i:Nat}{x:Str}(hN:X.N.Nodup)(hi:X.N[i]? =some x)(hx:Loc X.env.scope x)(he:QE X e te)(hs:swapsWith e (some (.Name x pos')) pos.line X.env=pure false)(hf:X.fn x=true\/X.env.scope.names.lookup x=some .local):QS X (.Assign [.Name x pos'] e pos) (tAsg te (b3u i)):=⟨a0s hN hi hx he.pe hs hf⟩
theorem b3c(h1:QS X st t)(h2:QSs X rest u):QSs X (st::rest) (tSeq t u):=⟨a0f h1.ps h2.pss⟩
theorem qss_one(h1:QS X st t):QSs X [st] t:=⟨a0i h1.ps⟩
end
section
variable{X:Cx}{tg:Expr}
def iSeq(K:W.Frag)(tl:TE):TI:=λσ H R=>tl σ H λx H1=>∃a,x=.ref a/\((∃xs,SqL K H1 a xs/\R (Itl K a) H1)\/∃xs,SqT K H1 a xs/\R (Itt K a) H1)
theorem kpi_seq(K:W.Frag)(hK:X.K=K){l:Expr}{tl:TE}(hl:PE X l tl):PI X tg l (iSeq K tl):=by
 subst hK;intro pins s σ H R I h;refine thn (hl pins s σ H _ I h) λv s1 z9=>?_
 obtain⟨x,H1,I1,r1,q1⟩:=z9;obtain⟨a,e,q1⟩:=q1;subst e;cases r1;rcases q1 with⟨xs,hq,q⟩|⟨xs,hq,q⟩
 ·obtain⟨its,rv,p,hz⟩:=I1.list hq;refine W8 p.isList ?_;refine⟨s1.heap.objs.size,[s1.heap.objs.size],_,_,H1,rfl,I1.kept (t':=s1.toks) λb o e=>Zc _ e,b5r a _,⟨_,Zj _ rfl,rfl,rfl⟩,λb hb=>?_,q⟩;have e:b=s1.heap.objs.size:=by simpa using hb
  subst e;exact I1.fpOk (Zh _) (I1.hok.fresh (Zh _))
 ·obtain⟨its,rv,p,hz⟩:=I1.tuple hq;refine W3 (show s1.heap.IsTuple a its.toArray from p) ?_;refine⟨s1.heap.objs.size,[s1.heap.objs.size],_,_,H1,rfl,I1.kept (t':=s1.toks) λb o e=>Zc _ e,b3v a _,⟨_,Zj _ rfl,rfl,rfl⟩,λb hb=>?_,q⟩;have e:b=s1.heap.objs.size:=by simpa using hb
  subst e;exact I1.fpOk (Zh _) (I1.hok.fresh (Zh _))
theorem c4t{K:W.Frag}{σ:St}{H:Hp}{ta:TE}{R:It->Hp->Prop}(k:ta σ H λx H1=>∃a,x=.ref a/\((∃xs,SqL K H1 a xs/\R (Itl K a) H1)\/∃xs,SqT K H1 a xs/\R (Itt K a) H1)):iSeq K ta σ H R:=k
end
open PySem PySem.W
abbrev newS:String:="ValueError.__new__"
structure XCls(K:Frag)(C:Addr)(bm:List Value):Prop where
 obj:∃nm q N bs sn sub ab col dd k0 k1 k2 k3 k5,K.lookup C=some (excClassObj nm q C N bs bm true sn sub ab col dd k0 k1 k2 k3 k5 newS)
 hasV:bm.contains (.type "ValueError")=true
 hasB:bm.contains (.type "BaseException")=true
 noA:bm.contains (.type "AttributeError")=false
 noN:bm.contains (.type "NameError")=false
section
variable{X:Cx}{pins:List (Addr×Obj)}{σ:St}{H:Hp}{s:Shared}{pos apos np:Pos}{a b o e value:Expr}{es:List Expr}{t:TA}{te ta tv:TE}{f x:Str}
structure XAttr(K:Frag)(C:Addr):Prop where
 ga:findIn K (.ref C) "__getattribute__"=some (some (.builtin "BaseException.__getattribute__"))
 gx:findIn K (.ref C) "__getattr__"=some none
 sa:findIn K (.ref C) "__setattr__"=some (some (.builtin "object.__setattr__"))
end
section
variable{X:Cx}{CX:CXT}{k:Nat}{f C:Addr}{fd:FuncData}{ps:List Str}{sp:Sp}{dvs:List V}{ds:List Value}{E:XK}{x m:Str}{p pos apos np:Pos}{e o:Expr}{es:List Expr}{ta te:TE}{t:TA}{bm:List Value}
structure XMk(K:Frag)(C:Addr)(bm:List Value)(f:Addr):Prop where
 cls:XCls K C bm
 init:findIn K (.ref C) "__init__"=some (some (.ref f))
 fn:typeIn K (.ref f)=some (.type "function")
 kp:keepIn K (.ref C)=true
structure XClsM(K:Frag)(C:Addr)(m:Str)(f:Addr):Prop where
 ga:specialIn K (.ref C) "__getattribute__"=some (some (.builtin "type.__getattribute__"))
 rd:readsIn K C (.type "type")=true
 at_:findCls K (.ref C) (.type "type") m=some (.val (.ref f))
 kp:keepIn K (.ref f)=true
end
end L2
namespace Att
open PySem PySem.W PySem.Calls PyProof.Rows
theorem bits_of{ns:List Int}(h:WData.layableAll [WData.list (ns.map WData.int)]=true):∀i∈ns,Builtin.Int.intBits i<=1048576:=by
 have h1:(WData.list (ns.map WData.int)).layable=true:=by
  unfold WData.layableAll at h
  simpa using h
 obtain⟨g1,g2,h2⟩:=layableW_iff.mp h1;have h3:WData.weightAll (ns.map WData.int)<=2^20:=h2;clear h h1 h2 g1 g2
 induction ns with
 |nil=>intro i hi;exact absurd hi qz
 |cons n r ih=>
  rw[Z2]at h3;have h4:(WData.int n).weight+1+WData.weightAll (r.map WData.int)<=2^20:=h3;intro i hi;rcases Zp.mp hi with e|e
  ·subst e;have:(WData.int i).weight=Builtin.Int.intBits i:=rfl;omega
  ·exact ih qo i e
theorem attach_callB{l:OpenLaw}{n:Nat}{q:Program}{loose:List Str}{XP:(Str->Option Value)->Heap->Prop}{YP:World->Heap->Prop}{d:DefRec}
  (hn:l.most=some n)(hdf:d.params.defaults=[])
  (call:∀(w:World)(s₀ s₁:Shared)(mg mb:Str->Option Value)(fa:Addr)(o:Obj)(pm cd doc:Value)(a:Addr)(vs:List Value)(ns:List Int),
   Ground q loose [] XP w s₀ mg mb s₁.heap->YP w s₁.heap->
   s₁.heap.get? fa=some o->o.data=.func (docDef d.name d.params d.body d.scope pm cd doc)->s₁.heap.CodeRec cd d.name->mg d.name=some (.ref fa)->
   s₁.heap.get? a=some { cls:=.type "list",data:=.seq vs.toArray}->IntsAre vs ns->ns.length<=n->(∀i∈ns,Builtin.Int.intBits i<=1048576)->s₁.gens= #[]->
   codeAny (model l.prog w) callerA (.call (.ref fa) ⟨[.ref a],[]⟩) (λr s'=>r=.ok (.ret (.bool true))/\OldK s₁.heap s'.heap/\s'.os=s₁.os/\AllBare s'.gens) s₁):
  WalkO q loose XP YP l.row.toRowW d [] (λf vs=>PySem.call f vs):=by
 intro w s₀ s₁ mg mb G Y fa o pm cd doc dV kV ho hd hcd hD hmg hg args vals as hpre hlay hrd hwl hlo;obtain rfl:dV=.none:=Dflts.none hD hdf;obtain rfl:kV=.none:=Dflts.noKw hD;obtain⟨a,vs,ns,rfl,rfl,hobj,hints,hlen⟩:=c3x hn hpre hwl;refine enter_call (Ux (call w s₀ s₁ mg mb fa o pm cd doc a vs ns G Y ho (fd_plain hd) hcd hmg hobj hints hlen (bits_of hlay) hg) λr s' hq=>?_);obtain⟨rfl,h2,h3,h4⟩:=hq;exact⟨.inl ⟨.bool true,.bool true,[],rfl,λ_=>rfl,.bool true,c3y l _,λ_=>⟨List.Pairwise.nil,λ_ hm=>(nomatch hm)⟩⟩,h2,h3,h4⟩
end Att
namespace L2
open PySem PySem.Spec PyProof.Rows
theorem c7k{l:W.OpenLaw}{n k:Nat}{q:Program}{loose:List Str}{XP:(Str->Option Value)->Heap->Prop}{YP:World->Heap->Prop}{d:DefRec}{K:Params->W.Frag}{CX:World->CXT}{sp:World->Sp}{x:Str}
  (hn:l.most=some n)(hn2:n<=sizeLine)(hdf:d.params.defaults=[])(hr:Room k callerA)
  (hY:∀(w:World)(h:Heap),YP w h->(K w.params).In h)
  (F:∀(w:World)(mg:Str->Option Value)(fa:Addr)(h:Heap),(K w.params).In h->h.Ns mainGlobals mg->mg d.name=some (.ref fa)->
   ∃fd:FuncData,(∀(s:Shared)(u:Value),BindsTo s fd ⟨[u],[]⟩ [(x,u)])/\
    ∀base:Heap,(K w.params).In base->base.Ns mainGlobals mg->FnOk l.prog w (K w.params) mg base (CX w) k fa fd [x] (sp w))
  (hsp:∀(w:World)(H:Hp)(a:Addr)(ns:List Int),ns.length<=n->(∀i∈ns,Builtin.Int.intBits i<=1048576)->Only H->SqL (K w.params) H a (ns.map V.int)->sp w [.ref a] H (λv _=>v=.bl true) λ_ _ _=>False)
  (hCX:∀(w:World)(H:Hp)(s:Shared)(e:Value)(s':Shared),CX w [] H s (λ_ _ _=>False) e s'->False):
  W.WalkO q loose XP YP l.row.toRowW d [] (λf vs=>PySem.call f vs):=by
 refine Att.attach_callB hn hdf λw s₀ s₁ mg mb fa o pm cd doc a vs ns G Y ho hd hcd hmg hobj hints hlen hbits hg=>?_
 have KX:=hY w _ Y;obtain⟨fd,hb,hF⟩:=F w mg fa _ KX G.T.g hmg;exact c6y KX G.T.g G.T.b G.T.builtins G.T.nolimit hg hobj hints (Yk hlen hn2) hr hF hb (λH hO hS=>hsp w H a ns hlen hbits hO hS) λH e s'=>hCX w H s₁ e s'
theorem c1v{a b:Int}(h:Builtin.Int.intBits a+Builtin.Int.intBits b<=8388608):IntMulOk a b:=by
 unfold IntMulOk Builtin.Int.intTooBig;intro z;simp only[Xl,decide_eq_true_eq]at z;have h2:=z.2;have hb:((bitsLine:Nat):Int)=134217728:=by decide
 omega
theorem bits_lt(x:Int)(k:Nat)(h:x.natAbs<2^k):Builtin.Int.intBits x<=k:=by
 unfold Builtin.Int.intBits
 by_cases h0:x=0
 ·subst h0;simp
 ·have hz:(x==0)=false:=Yz.mpr h0;rw[hz];simp only[X9,W9];have h1:x.natAbs≠0:=by omega
  have:=(U9 h1).mpr h;omega
theorem lt_bits(x:Int)(k:Nat)(h:Builtin.Int.intBits x<=k):x.natAbs<2^k:=by
 unfold Builtin.Int.intBits at h
 by_cases h0:x=0
 ·subst h0;simp;exact Nat.two_pow_pos k
 ·have hz:(x==0)=false:=Yz.mpr h0;rw[hz]at h;simp only[X9,W9]at h;have h1:x.natAbs≠0:=by omega
  exact(U9 h1).mp qo
open PySem PySem.Spec PyProof.Rows PySem.W
section
variable{X:Cx}
theorem b2b(K:Frag)(h:X.K=K):OpR X (compareOp .NotIn) (rIn K true):=h▸b7j
end
theorem b3d(x:Str):∀xs:List Str,inV (.str x) (xs.map V.str)=decide (x∈xs)
 | []=>by simp[inV]
 |y::r=>by
  have ih:=b3d x r;unfold inV at ih ⊢;rw[Z2,Xw,ih]
  show((y==x)||decide (x∈r))=decide (x∈y::r)
  by_cases h:y=x
  ·subst h;simp
  ·have h2:x≠y:=λz=>h z.symm
   simp[h,h2]
theorem b7x(xs:List Str):(xs.map V.str).all a6j=true:=by
 rw[Y3];intro v hv;obtain⟨x,_,rfl⟩:=Z4.mp hv;rfl
theorem b2c{K:Frag}{H:Hp}{Q:VK}{p:Addr}{x:Str}(xs:List Str)(h:SqL K H p (xs.map V.str)\/SqT K H p (xs.map V.str))(k:Q (.bl (decide (x∈xs))) H):rIn K false (.str x) (.ref p) H Q:=⟨p,_,rfl,h,rfl,b7x xs,by rw[b3d];exact k⟩
theorem b3e{K:Frag}{H:Hp}{Q:VK}{p:Addr}{x:Str}(xs:List Str)(h:SqL K H p (xs.map V.str)\/SqT K H p (xs.map V.str))(k:Q (.bl (!decide (x∈xs))) H):rIn K true (.str x) (.ref p) H Q:=⟨p,_,rfl,h,rfl,b7x xs,by rw[b3d];exact k⟩
structure XIs(K:Frag)(C:Addr):Prop where
 ha:findIn K (.ref C) "__class__"=some (some (.builtin "object.__class__"))
 hn:specialIn K (.builtin "object.__class__") "__get__"=some (some (.builtin "getset_descriptor.__get__"))
 htk:takesIn K (.builtin "object.__class__")=some true
 hm:mroIn K C (.type "object")=some true
section
variable{X:Cx}{pins:List (Addr×Obj)}{σ:St}{H:Hp}{s:Shared}{h':Heap}
theorem Inv.turnedMany{t':Nat}{ch:List Addr}(I:Inv X pins σ H s)(hf:∀b∈ch,FpOk X pins H b)(k:∀b u,b∉ch->s.heap.get? b=some u->h'.get? b=some u):Inv X pins σ H { s with heap:=h',toks:=t'}:=by
 have nin:∀b u,H b=some u->b∉ch:=λb u e hb=>by rw[(hf b hb).1]at e;cases e
 refine I.step (g':=s.gens) (d':=s.drawn) (ch:=ch) (λb hb=>⟨(hf b hb).2.2.2.1,(hf b hb).2.1,(hf b hb).2.2.2.2.1,(hf b hb).2.2.2.2.2⟩) (λb u _ _ hc e _=>k b u hc e) (λb u _ _ hc e _=>⟨u.slots,k b u hc e⟩)
  (λb u hc e n=>n) (λb u hc e=>⟨u,k b u hc e⟩) (λb xs q=>q) (λb u xs q=>q) (λb ps q=>⟨#[],by rw[q];simp⟩) (λm hm=>?_) (λb u e=>?_) I.bare
 ·obtain⟨q,es,ep,ho,r⟩:=hm;exact⟨q,es,ep,k _ q (λhb=>(hf _ hb).2.1 rfl) ho,r⟩
 ·refine(I.hok b u e).stay (λc v hc q=>k c v ?_ q) (λc q=>q) λc xs q=>q
  rcases hc with z|z
  ·rw[z];exact nin b u e
  ·exact nin c _ z
end
theorem b6c:∀n l l':Nat,l<n->l'<n->ZipApart (n+4) (n+2) (n+3) n (n+1) l l':=λn l l' h h'=>by constructor<;>(show ¬((_:Nat)=_);omega)
section
variable{X:Cx}{es rest:List Expr}{k:Nat}{pos:Pos}{env:Env}{te:TE}{t:TA}
def notStar:Expr->Bool
 | .Starred _ _=>false
 |_=>true
theorem b7y{e:Expr}(h:notStar e=true):starEach (e::rest) env=(false,eval e env)::starEach rest env:=by
 cases e<;>first|rfl|cases h
theorem a0a{e:Expr}(ha:PE X e te)(hr:PA X rest t)(h:notStar e=true:=by rfl):PA X (e::rest) (b6w te t):=c0h ha hr (b7y h)
theorem a6s{n:Option Expr}{l:Nat}:swapsWith (.List es pos) n l env=pure false:=rfl
theorem a3h{a b:Expr}{op:Operator}{n:Option Expr}{l:Nat}:swapsWith (.BinOp a op b pos) n l env=pure false:=rfl
theorem a4j{a b:Expr}{n:Option Expr}{l:Nat}:swapsWith (.Subscript a b pos) n l env=pure false:=rfl
theorem a1e{a:Expr}{kw:List Keyword}{n:Option Expr}{l:Nat}:swapsWith (.Call a es kw pos) n l env=pure false:=rfl
end
structure QA(X:Cx)(es:List Expr)(t:TA):Prop where
 pa:PA X es t
section
variable{X:Cx}{a b e:Expr}{es rest:List Expr}{k:Nat}{pos pos':Pos}{te ta tb:TE}{t:TA}{u v:TS}{st:Stmt}{x:Str}
theorem qe_of(h:PE X e te):QE X e te:=⟨h⟩
theorem qs_of(h:PS X st u):QS X st u:=⟨h⟩
theorem c4u:QA X [] tNil:=⟨a0d⟩
theorem b7z(ha:QE X e te)(hr:QA X rest t)(h:notStar e=true):QA X (e::rest) (b6w te t):=⟨c0h ha.pe hr.pa (b7y h)⟩
theorem qe_tup(h:QA X es t):QE X (.Tuple es k pos) (tTup t):=⟨a1d h.pa⟩
theorem qe_lst(h:QA X es t):QE X (.List es pos) (tLst t):=⟨a1i h.pa⟩
end
theorem b4l{J:It}{n:Nat}{vs:Nat->V}{Ok:Hp->Prop}(R:Row J n vs Ok){tt:TT}{te:TE}{Q:VK}{σ:St}{H1:Hp}{D:Addr}(Pv:Nat->List V->Hp->Prop)(hn:n<=sizeLine)(h0:Pv 0 [] (upd H1 D (.lst [])))(hok:∀i ys H,Pv i ys H->Ok H)
  (hs:∀i ys H (Q':Bool->Hp->Prop),i<n->ys.length<=i->Pv i ys H->(∀H3:Hp,(∀Q2:VK,(∀y H4,H4 D=some (.lst ys)->Pv (i+1) (ys++[y]) (upd H4 D (.lst (ys++[y])))->Q2 y H4)->te (some (vs i)::σ) H3 Q2)->Q' true H3)->(∀H3,Pv (i+1) ys H3->Q' false H3)->tt (some (vs i)::σ) H Q')
  (hd:∀ys H,ys.length<=n->Pv n ys H->Q (.ref D) H):
  b4e J tt te σ Q D H1:=by
 refine⟨λi m ys H=>m=n-i/\i<=n/\ys.length<=i/\Pv i ys H,⟨n,qz,Yc _,Zh _,h0⟩,?_⟩
 rintro i m ys H ⟨rfl,hi,hl,p⟩
 by_cases hlt:i<n
 ·refine .inr ⟨R.go i H hlt (hok i ys H p),λv H2 y=>?_⟩;obtain⟨e1,e2⟩:=R.yld i H v H2 hlt (hok i ys H p) y;subst e1 e2;refine hs i ys _ _ hlt hl p (λH3 k=>?_) (λH3 k=>?_)
  ·rw[if_pos rfl];exact k _ λy H4 q1 q2=>⟨q1,qo,n-(i+1),qo,rfl,hlt,by simp;omega,q2⟩
  ·rw[if_neg Zn];exact⟨n-(i+1),qo,rfl,hlt,qo,k⟩
 ·have e:i=n:=by omega
  subst e;exact .inl ⟨R.stop H (hok _ ys H p),hd ys H hl p⟩
namespace FD
end FD
section
variable{prog:Program}{w:World}{A:Around}{R:Result->Shared->Prop}
def b8a{K:Type}[DecidableEq K](knd:PySem.KeyKind prog w K)(ts:List Addr)(kvs:List (K×Value))(h:Heap):Prop:=∀(i:Nat)(T:Addr),ts[i]? =some T->∃(kk:K)(key val:Value),kvs[i]? =some (kk,val)/\knd.is kk key=true/\IsTup h T #[key,val]
theorem b8a.keep{K:Type}[DecidableEq K]{knd:PySem.KeyKind prog w K}{ts:List Addr}{kvs:List (K×Value)}{h h':Heap}(x:b8a knd ts kvs h)(k:∀T∈ts,∀o,h.get? T=some o->h'.get? T=some o):b8a knd ts kvs h':=λi T e=>by
 obtain⟨kk,key,val,e1,e2,o,ho,r⟩:=x i T e;exact⟨kk,key,val,e1,e2,o,k T (Xa e) o ho,r⟩
end
section
variable{X:Cx}
def mDictK:List V->Hp->VK->Prop:=λvs H Q=>∃(a:Addr)(kvs:List (Key×V)),vs=[.ref a]/\H a=some (.dK kvs)/\∀p,H p=none->Q (.ref p) (upd H p (.dK kvs))
theorem b8b:a2k X (.type "dict") mDictK:=by
 intro pins s σ H xs us Q I r h;obtain⟨a,kvs,rfl,ha,q⟩:=h;obtain⟨u,rfl,r1⟩:=vals1 r;obtain rfl:u=Value.ref a:=r1;exact c6x I (.inl ha) λp s' hp I'=>⟨.ref p,_,I',rfl,q p hp⟩
end
abbrev Rws:=List (Str×Trm)
def a2i(K:Frag)(H:Hp)(kvs:List (Key×V))(rows:Rws):Prop:=Paired (λ(p:Key×V) (q:Str×Trm)=>p.1=Sum.inr q.1/\Den K H p.2 q.2.data) kvs rows
def a2m(rows:Rws)(x:Str):Option Trm:=(rows.find? λr=>decide (r.1=x)).map (·.2)
def putR(rows:Rws)(x:Str)(t:Trm):Rws:=if(rows.any λr=>decide (r.1=x))=true then rows.map (λr=>if r.1=x then(r.1,t)else r)else rows++[(x,t)]
section
variable{K:Frag}{H H':Hp}{kvs:List (Key×V)}{rows:Rws}
theorem a2i.mono(h:a2i K H kvs rows)(s:Same H H'):a2i K H' kvs rows:=Paired.mapP h λ_ _ z=>⟨z.1,z.2.mono s⟩
theorem a2i.monoT(h:a2i K H kvs rows)(e:∀a xs,SqT K H a xs->SqT K H' a xs):a2i K H' kvs rows:=Paired.mapP h λ_ _ z=>⟨z.1,z.2.monoT e⟩
theorem a2i.len(h:a2i K H kvs rows):kvs.length=rows.length:=V2 h
theorem key_inr(a b:Str):((Sum.inr a:Key)=Sum.inr b)↔a=b:=⟨λh=>Uk h,λh=>by rw[h]⟩
theorem a2i.get:∀{kvs:List (Key×V)}{rows:Rws},a2i K H kvs rows->∀x:Str,(a2m rows x=none/\valV kvs (Sum.inr x)=none)\/∃t v,a2m rows x=some t/\valV kvs (Sum.inr x)=some v/\Den K H v t.data
 | [],[],_,x=>.inl ⟨rfl,rfl⟩
 | (k,v)::kr,(y,t)::rr,.cons h r,x=>by
  obtain⟨e1,e2⟩:=h;have e1:k=Sum.inr y:=e1;subst e1
  by_cases hx:y=x
  ·subst hx;refine .inr ⟨t,v,?_,?_,e2⟩
   ·simp[a2m]
   ·simp[valV]
  ·have ih:=a2i.get r x;have n1:a2m ((y,t)::rr) x=a2m rr x:=by simp[a2m,hx]
   have n2:valV ((Sum.inr y,v)::kr) (Sum.inr x)=valV kr (Sum.inr x):=by simp[valV,hx]
   rw[n1,n2];exact ih
theorem a2i.any:∀{kvs:List (Key×V)}{rows:Rws},a2i K H kvs rows->∀x:Str,(kvs.any λkv=>decide (kv.1=Sum.inr x))=rows.any λr=>decide (r.1=x)
 | [],[],_,x=>rfl
 | (k,v)::kr,(y,t)::rr,.cons h r,x=>by
  have e1:k=Sum.inr y:=h.1;subst e1;rw[Xw,Xw,a2i.any r x]
  congr 1
  exact Xx.mpr (key_inr y x)
theorem a2i.put(h:a2i K H kvs rows){x:Str}{v:V}{t:Trm}(d:Den K H v t.data):a2i K H (putK kvs (Sum.inr x) v) (putR rows x t):=by
 unfold putK putR;rw[h.any x]
 split
 ·rename_i hz0;clear hz0
  induction kvs generalizing rows with
  |nil=>cases rows with|nil=>exact .nil|cons _ _=>cases h
  |cons p r ih=>
   cases rows with
   |nil=>cases h
   |cons q m=>
    cases h with
    |cons e f=>
     refine .cons ?_ (ih f)
     dsimp only
     obtain⟨e1,e2⟩:=e
     by_cases hx:q.1=x
     ·rw[if_pos hx,if_pos (by rw[e1,hx])];exact⟨e1,d⟩
     ·rw[if_neg hx,if_neg (by rw[e1];exactλz=>hx (Uk z))];exact⟨e1,e2⟩
 ·rename_i hz0;clear hz0
  induction kvs generalizing rows with
  |nil=>cases rows with|nil=>exact .cons ⟨rfl,d⟩ .nil|cons _ _=>cases h
  |cons p r ih=>
   cases rows with
   |nil=>cases h
   |cons q m=>
    cases h with
    |cons e f=>exact .cons e (ih f)
theorem a7s:∀{rows:Rws}{x:Str}{t:Trm},a2m rows x=some t->(x,t)∈rows
 | [],x,t,h=>by simp[a2m]at h
 | (y,u)::r,x,t,h=>by
  by_cases hx:y=x
  ·have:u=t:=by simpa[a2m,hx]using h
   subst this hx;exact Ye
  ·exact Zv _ (a7s (by simpa[a2m,hx]using h))
end
mutual
def eqb:Trm->Trm->Bool
 | .num a,.num b=>decide (a=b)
 | .any x,.any y=>decide (x=y)
 | .app s ks,.app r ls=>decide (s=r)&&eqbL ks ls
 |_,_=>false
def eqbL:List Trm->List Trm->Bool
 | [],[]=>true
 |a::r,b::m=>eqb a b&&eqbL r m
 |_,_=>false
end
theorem a6t{p:Prop}(h:¬p):false=true↔p:=⟨λz=>Bool.noConfusion z,λz=>absurd z h⟩
mutual
theorem b2d:∀t u:Trm,eqb t u=true↔t=u
 | .num a,.num b=>S9.trans ⟨λh=>h▸rfl,λh=>Trm.num.inj h⟩
 | .num a,.any y=>a6t nofun
 | .num a,.app _ _=>a6t nofun
 | .any x,.num b=>a6t nofun
 | .any x,.any y=>S9.trans ⟨λh=>h▸rfl,λh=>Trm.any.inj h⟩
 | .any x,.app _ _=>a6t nofun
 | .app _ _,.num b=>a6t nofun
 | .app _ _,.any y=>a6t nofun
 | .app s ks,.app r ls=>(Vj (x:=decide (s=r)) (y:=eqbL ks ls)).trans ⟨λ⟨h,k⟩=>Zr h▸(a7t ks ls).mp k▸rfl,λh=>⟨Zt (Trm.app.inj h).1,(a7t ks ls).mpr (Trm.app.inj h).2⟩⟩
theorem a7t:∀t u:List Trm,eqbL t u=true↔t=u
 | [],[]=>⟨λ_=>rfl,λ_=>rfl⟩
 | [],_::_=>a6t nofun
 |_::_,[]=>a6t nofun
 |a::r,b::m=>(Vj (x:=eqb a b) (y:=eqbL r m)).trans ⟨λ⟨h,k⟩=>(b2d a b).mp h▸(a7t r m).mp k▸rfl,λh=>⟨(b2d a b).mpr (V3 h).1,(a7t r m).mpr (V3 h).2⟩⟩
end
theorem a9o(t:Trm):eqb t t=true:=(b2d t t).mpr rfl
theorem b8c:∀ks ls:List Trm,((List.range (min ks.length ls.length)).all (λj=>match ks[j]?,ls[j]? with|some a,some b=>eqb a b|_,_=>true)&&(ks.length==ls.length))=eqbL ks ls
 | [],[]=>by simp[eqbL]
 | [],_::_=>by simp[eqbL]
 |_::_,[]=>by simp[eqbL]
 |a::r,b::m=>by
  have ih:=b8c r m
  show _=(eqb a b&&eqbL r m)
  rw[<-ih,length_cons,length_cons,Nat.succ_min_succ,T5,Vh,U2,Bool.and_assoc]
  congr 1
  congr 1
  ·simp
mutual
theorem Trm.data_inj:∀{t u:Trm},t.data=u.data->t=u
 | .num a,.num b,h=>by simp[Trm.data]at h;rw[h]
 | .num a,.any y,h=>by simp[Trm.data]at h
 | .num a,.app _ _,h=>by simp[Trm.data]at h
 | .any x,.num b,h=>by simp[Trm.data]at h
 | .any x,.any y,h=>by simp[Trm.data]at h;rw[h]
 | .any x,.app _ _,h=>by simp[Trm.data]at h
 | .app _ _,.num b,h=>by simp[Trm.data]at h
 | .app _ _,.any y,h=>by simp[Trm.data]at h
 | .app s ks,.app r ls,h=>by
  simp only[Trm.data,PyData.tuple.injEq,Ud,PyData.str.injEq,and_true,true_and]at h;rw[h.1,Trm.dataL_inj h.2]
theorem Trm.dataL_inj:∀{t u:List Trm},Trm.dataL t=Trm.dataL u->t=u
 | [],[],_=>rfl
 | [],_::_,h=>by simp[Trm.dataL]at h
 |_::_,[],h=>by simp[Trm.dataL]at h
 |a::r,b::m,h=>by
  simp only[Trm.dataL,Ud]at h;rw[Trm.data_inj h.1,Trm.dataL_inj h.2]
end
section
variable{X:Cx}{pins:List (Addr×Obj)}{σ:St}{H:Hp}{s:Shared}
mutual
theorem c0p(I:Inv X pins σ H s):∀{v:V}{d d':PyData},Den X.K H v d->Den X.K H v d'->d=d'
 |_,_,_,.non,h=>by cases h;rfl
 |_,_,_,.bl b,h=>by cases h;rfl
 |_,_,_,.int i,h=>by cases h;rfl
 |_,_,_,.str x,h=>by cases h;rfl
 |_,_,_,.tup hs hl,h=>by
  cases h with
  |tup hs' hl'=>
   have e:=I.tuple_inj hs hs';subst e;rw[b3f I hl hl']
theorem b3f(I:Inv X pins σ H s):∀{v:List V}{d d':List PyData},DenL X.K H v d->DenL X.K H v d'->d=d'
 |_,_,_,.nil,h=>by cases h;rfl
 |_,_,_,.cons h l,h'=>by
  cases h' with
  |cons g m=>rw[c0p I h g,b3f I l m]
end
theorem b6d(I:Inv X pins σ H s){A:Around}{a b:Addr}{us us':List V}(hs:SqT X.K H a us)(hs':SqT X.K H b us')(hab:a≠b)(e:Nat->Bool)(hu:A.units+1<cLine)
  (items:∀j x x' w w',us[j]? =some x->us'[j]? =some x'->RelV x w->RelV x' w'->SeqAt.EqAt A.in1 s w w' (e j)):SeqAt.EqAt A s (.ref a) (.ref b) ((List.range (min us.length us'.length)).all e&&(us.length==us'.length)):=by
 obtain⟨its,rv,p,_⟩:=I.tuple hs;obtain⟨its',rv',p',_⟩:=I.tuple hs';have l1:=rv.length;have l2:=rv'.length
 have key:=SeqAt.RcAt.tuples (A:=A) (e:=e) (show s.heap.IsTuple a its.toArray from p) (show s.heap.IsTuple b its'.toArray from p') qo (λj h1 h2=>by
  have h1:j<its.length:=by simpa using h1
  have h2:j<its'.length:=by simpa using h2
  have x1:us[j]? =some us[j]:=Za qo
  have x2:us'[j]? =some us'[j]:=Za qo
  obtain⟨w1,y1,z1⟩:=rv.get x1;obtain⟨w2,y2,z2⟩:=rv'.get x2;have q1:its.toArray[j]=w1:=by
   have:=Za h1;rw[y1]at this
   simpa using(Zk this).symm
  have q2:its'.toArray[j]=w2:=by
   have:=Za h2;rw[y2]at this
   simpa using(Zk this).symm
  rw[q1,q2]
  exact items j _ _ _ _ x1 x2 z1 z2)
 rw[Zd,Zd,<-l1,<-l2]at key;exact Us hab key
def eT(t t':Trm):Nat->Bool
 |0=>match t,t' with| .num _,.num _=>true| .any _,.any _=>true| .app _ _,.app _ _=>true|_,_=>false
 |1=>match t,t' with| .num a,.num b=>decide (a=b)| .any x,.any y=>decide (x=y)| .app r _,.app q _=>decide (r=q)| .any x,.app q _=>decide (x=q)| .app r _,.any y=>decide (r=y)|_,_=>false
 |2=>match t,t' with| .app _ ks,.app _ ls=>eqbL ks ls|_,_=>true
 |_=>true
def lenT:Trm->Nat
 | .app _ _=>3
 |_=>2
theorem two_b(x:Bool):((true&&(x&&true))&&true)=x:=by cases x<;>rfl
theorem thr_b(x y:Bool):((true&&(x&&(y&&true)))&&true)=(x&&y):=by cases x<;>cases y<;>rfl
theorem b8d(t t':Trm):((List.range (min (lenT t) (lenT t'))).all (eT t t')&&(lenT t==lenT t'))=eqb t t':=by
 cases t<;>cases t'<;>first|rfl|exact two_b _|exact thr_b _ _
theorem b8e{ks:List Trm}{t:Trm}(h:t∈ks):t.size<=Trm.sizeL ks:=by
 obtain⟨a,b,rfl⟩:=List.append_of_mem h;rw[Trm.sizeL_app,Trm.sizeL];omega
theorem b3g(I:Inv X pins σ H s)(n:Nat)(ih:∀(A:Around)(t t':Trm)(v v':V)(u u':Value),t.size<=n->A.units+2*n+4<cLine->Den X.K H v t.data->Den X.K H v' t'.data->RelV v u->RelV v' u'->SeqAt.EqAt A s u u' (eqb t t'))
  (A:Around)(t t':Trm){a a':Addr}(h:Den X.K H (.ref a) t.data)(h':Den X.K H (.ref a') t'.data)(hz:t.size<=n+1)(hu:A.units+2*(n+1)+4<cLine):
  ∃us us',SqT X.K H a us/\SqT X.K H a' us'/\us.length=lenT t/\us'.length=lenT t'/\∀j x x' w w',us[j]? =some x->us'[j]? =some x'->RelV x w->RelV x' w'->SeqAt.EqAt A.in1 s w w' (eT t t' j):=by
 cases t with
 |num m=>
  obtain⟨a0,e0,hs⟩:=a2g h;cases e0;cases t' with
  |num m'=>
   obtain⟨a0',e0',hs'⟩:=a2g h';cases e0';refine⟨_,_,hs,hs',rfl,rfl,λj y y' w w' h1 h2 r1 r2=>?_⟩
   match j,h1,h2 with
    |0,h1,h2=>
     simp only[Zu,Z1]at h1 h2;subst h1 h2;have:=a1z (A:=A.in1) (s:=s) (a:=Sum.inr numS) (b:=Sum.inr numS) r1 r2;rw[show decide ((Sum.inr numS:Key)=Sum.inr numS)=true from qk]at this;exact this
    |1,h1,h2=>
     simp only[Ym,Zu,Z1]at h1 h2;subst h1 h2;have:=a1z (A:=A.in1) (s:=s) (a:=Sum.inl m) (b:=Sum.inl m') r1 r2;have e9:decide ((Sum.inl m:Key)=Sum.inl m')=decide (m=m'):=by
      refine Xx.mpr ⟨λh=>?_,λh=>by rw[h]⟩
      injection h
     rw[e9]at this;exact this
    |j+2,h1,h2=>simp at h1
  |any x'=>
   obtain⟨a0',e0',hs'⟩:=a2h h';cases e0';refine⟨_,_,hs,hs',rfl,rfl,λj y y' w w' h1 h2 r1 r2=>?_⟩
   match j,h1,h2 with
    |0,h1,h2=>
     simp only[Zu,Z1]at h1 h2;subst h1 h2;have:=a1z (A:=A.in1) (s:=s) (a:=Sum.inr numS) (b:=Sum.inr anyS) r1 r2;rw[show decide ((Sum.inr numS:Key)=Sum.inr anyS)=false from qk]at this;exact this
    |1,h1,h2=>
     simp only[Ym,Zu,Z1]at h1 h2;subst h1 h2;have:=a1z (A:=A.in1) (s:=s) (a:=Sum.inl m) (b:=Sum.inr x') r1 r2;have e9:decide ((Sum.inl m:Key)=Sum.inr x')=false:=Zo (λh=>by cases h);rw[e9]at this;exact this
    |j+2,h1,h2=>simp at h1
  |app sg' ks'=>
   obtain⟨a0',b',ku',e0',hs',hb',hk'⟩:=a1l h';cases e0';refine⟨_,_,hs,hs',rfl,rfl,λj y y' w w' h1 h2 r1 r2=>?_⟩
   match j,h1,h2 with
    |0,h1,h2=>
     simp only[Zu,Z1]at h1 h2;subst h1 h2;have:=a1z (A:=A.in1) (s:=s) (a:=Sum.inr numS) (b:=Sum.inr appS) r1 r2;rw[show decide ((Sum.inr numS:Key)=Sum.inr appS)=false from qk]at this;exact this
    |1,h1,h2=>
     simp only[Ym,Zu,Z1]at h1 h2;subst h1 h2;have:=a1z (A:=A.in1) (s:=s) (a:=Sum.inl m) (b:=Sum.inr sg') r1 r2;have e9:decide ((Sum.inl m:Key)=Sum.inr sg')=false:=Zo (λh=>by cases h);rw[e9]at this;exact this
    |j+2,h1,h2=>simp at h1
 |any x=>
  obtain⟨a0,e0,hs⟩:=a2h h;cases e0;cases t' with
  |num m'=>
   obtain⟨a0',e0',hs'⟩:=a2g h';cases e0';refine⟨_,_,hs,hs',rfl,rfl,λj y y' w w' h1 h2 r1 r2=>?_⟩
   match j,h1,h2 with
    |0,h1,h2=>
     simp only[Zu,Z1]at h1 h2;subst h1 h2;have:=a1z (A:=A.in1) (s:=s) (a:=Sum.inr anyS) (b:=Sum.inr numS) r1 r2;rw[show decide ((Sum.inr anyS:Key)=Sum.inr numS)=false from qk]at this;exact this
    |1,h1,h2=>
     simp only[Ym,Zu,Z1]at h1 h2;subst h1 h2;have:=a1z (A:=A.in1) (s:=s) (a:=Sum.inr x) (b:=Sum.inl m') r1 r2;have e9:decide ((Sum.inr x:Key)=Sum.inl m')=false:=Zo (λh=>by cases h);rw[e9]at this;exact this
    |j+2,h1,h2=>simp at h1
  |any x'=>
   obtain⟨a0',e0',hs'⟩:=a2h h';cases e0';refine⟨_,_,hs,hs',rfl,rfl,λj y y' w w' h1 h2 r1 r2=>?_⟩
   match j,h1,h2 with
    |0,h1,h2=>
     simp only[Zu,Z1]at h1 h2;subst h1 h2;have:=a1z (A:=A.in1) (s:=s) (a:=Sum.inr anyS) (b:=Sum.inr anyS) r1 r2;rw[show decide ((Sum.inr anyS:Key)=Sum.inr anyS)=true from qk]at this;exact this
    |1,h1,h2=>
     simp only[Ym,Zu,Z1]at h1 h2;subst h1 h2;have:=a1z (A:=A.in1) (s:=s) (a:=Sum.inr x) (b:=Sum.inr x') r1 r2;have e9:decide ((Sum.inr x:Key)=Sum.inr x')=decide (x=x'):=by
      refine Xx.mpr ⟨λh=>?_,λh=>by rw[h]⟩
      injection h
     rw[e9]at this;exact this
    |j+2,h1,h2=>simp at h1
  |app sg' ks'=>
   obtain⟨a0',b',ku',e0',hs',hb',hk'⟩:=a1l h';cases e0';refine⟨_,_,hs,hs',rfl,rfl,λj y y' w w' h1 h2 r1 r2=>?_⟩
   match j,h1,h2 with
    |0,h1,h2=>
     simp only[Zu,Z1]at h1 h2;subst h1 h2;have:=a1z (A:=A.in1) (s:=s) (a:=Sum.inr anyS) (b:=Sum.inr appS) r1 r2;rw[show decide ((Sum.inr anyS:Key)=Sum.inr appS)=false from qk]at this;exact this
    |1,h1,h2=>
     simp only[Ym,Zu,Z1]at h1 h2;subst h1 h2;have:=a1z (A:=A.in1) (s:=s) (a:=Sum.inr x) (b:=Sum.inr sg') r1 r2;have e9:decide ((Sum.inr x:Key)=Sum.inr sg')=decide (x=sg'):=by
      refine Xx.mpr ⟨λh=>?_,λh=>by rw[h]⟩
      injection h
     rw[e9]at this;exact this
    |j+2,h1,h2=>simp at h1
 |app sg ks=>
  obtain⟨a0,b,ku,e0,hs,hb,hk⟩:=a1l h;cases e0;cases t' with
  |num m'=>
   obtain⟨a0',e0',hs'⟩:=a2g h';cases e0';refine⟨_,_,hs,hs',rfl,rfl,λj y y' w w' h1 h2 r1 r2=>?_⟩
   match j,h1,h2 with
    |0,h1,h2=>
     simp only[Zu,Z1]at h1 h2;subst h1 h2;have:=a1z (A:=A.in1) (s:=s) (a:=Sum.inr appS) (b:=Sum.inr numS) r1 r2;rw[show decide ((Sum.inr appS:Key)=Sum.inr numS)=false from qk]at this;exact this
    |1,h1,h2=>
     simp only[Ym,Zu,Z1]at h1 h2;subst h1 h2;have:=a1z (A:=A.in1) (s:=s) (a:=Sum.inr sg) (b:=Sum.inl m') r1 r2;have e9:decide ((Sum.inr sg:Key)=Sum.inl m')=false:=Zo (λh=>by cases h);rw[e9]at this;exact this
    |j+2,h1,h2=>simp at h2
  |any x'=>
   obtain⟨a0',e0',hs'⟩:=a2h h';cases e0';refine⟨_,_,hs,hs',rfl,rfl,λj y y' w w' h1 h2 r1 r2=>?_⟩
   match j,h1,h2 with
    |0,h1,h2=>
     simp only[Zu,Z1]at h1 h2;subst h1 h2;have:=a1z (A:=A.in1) (s:=s) (a:=Sum.inr appS) (b:=Sum.inr anyS) r1 r2;rw[show decide ((Sum.inr appS:Key)=Sum.inr anyS)=false from qk]at this;exact this
    |1,h1,h2=>
     simp only[Ym,Zu,Z1]at h1 h2;subst h1 h2;have:=a1z (A:=A.in1) (s:=s) (a:=Sum.inr sg) (b:=Sum.inr x') r1 r2;have e9:decide ((Sum.inr sg:Key)=Sum.inr x')=decide (sg=x'):=by
      refine Xx.mpr ⟨λh=>?_,λh=>by rw[h]⟩
      injection h
     rw[e9]at this;exact this
    |j+2,h1,h2=>simp at h2
  |app sg' ks'=>
   obtain⟨a0',b',ku',e0',hs',hb',hk'⟩:=a1l h';cases e0';refine⟨_,_,hs,hs',rfl,rfl,λj y y' w w' h1 h2 r1 r2=>?_⟩
   match j,h1,h2 with
    |0,h1,h2=>
     simp only[Zu,Z1]at h1 h2;subst h1 h2;have:=a1z (A:=A.in1) (s:=s) (a:=Sum.inr appS) (b:=Sum.inr appS) r1 r2;rw[show decide ((Sum.inr appS:Key)=Sum.inr appS)=true from qk]at this;exact this
    |1,h1,h2=>
     simp only[Ym,Zu,Z1]at h1 h2;subst h1 h2;have:=a1z (A:=A.in1) (s:=s) (a:=Sum.inr sg) (b:=Sum.inr sg') r1 r2;have e9:decide ((Sum.inr sg:Key)=Sum.inr sg')=decide (sg=sg'):=by
      refine Xx.mpr ⟨λh=>?_,λh=>by rw[h]⟩
      injection h
     rw[e9]at this;exact this
    |2,h1,h2=>
     simp only[Ym,Zu,Z1]at h1 h2;subst h1 h2;obtain rfl:w=Value.ref b:=r1;obtain rfl:w'=Value.ref b':=r2
     show SeqAt.EqAt A.in1 s (.ref b) (.ref b') (eqbL ks ks')
     by_cases hbb:b=b'
     ·subst hbb;have e1:=I.tuple_inj hb hb';subst e1;have e2:=Trm.dataL_inj (b3f I hk hk');subst e2;rw[(a7t ks ks).mpr rfl];exact Xr _
     ·have l1:=hk.length;have l2:=hk'.length;rw[Trm.dataL_map,length_map]at l1 l2
      have:=b6d I (A:=A.in1) hb hb' hbb (λj=>match ks[j]?,ks'[j]? with|some a,some b=>eqb a b|_,_=>true) (by show A.units+1+1<cLine;omega) (λj y y' z z' g1 g2 q1 q2=>by
       obtain⟨d,e1,d1⟩:=hk.get g1;obtain⟨d',e2,d2⟩:=hk'.get g2;rw[Trm.dataL_map,Zz]at e1 e2;cases f1:ks[j]? with
       |none=>rw[f1]at e1;cases e1
       |some k1=>
        cases f2:ks'[j]? with
        |none=>rw[f2]at e2;cases e2
        |some k2=>
         rw[f1]at e1;rw[f2]at e2;cases e1;cases e2;have hs1:=b8e (Xa f1);simp only[Trm.size]at hz
         exact ih A.in1.in1 k1 k2 y y' z z' qo (by show A.units+1+1+2*n+4<cLine;omega) d1 d2 q1 q2)
      rw[l1,l2,b8c]at this;exact this
    |j+3,h1,h2=>simp at h1
theorem b8f(I:Inv X pins σ H s):∀(n:Nat)(A:Around)(t t':Trm)(v v':V)(u u':Value),t.size<=n->A.units+2*n+4<cLine->Den X.K H v t.data->Den X.K H v' t'.data->RelV v u->RelV v' u'->SeqAt.EqAt A s u u' (eqb t t'):=by
 intro n
 induction n with
 |zero=>
  intro A t t' v v' u u' hz;have:=t.size_pos;omega
 |succ n ih=>
  intro A t t' v v' u u' hz hu h h' r r';obtain⟨a,_,_,rfl,_⟩:=a6a h;obtain⟨a',_,_,rfl,_⟩:=a6a h';obtain rfl:u=Value.ref a:=r;obtain rfl:u'=Value.ref a':=r'
  by_cases hab:a=a'
  ·subst hab;have e1:=Trm.data_inj (c0p I h h');rw[e1,a9o];exact Xr _
  obtain⟨us,us',hs,hs',l1,l2,it⟩:=b3g I n ih A t t' h h' hz hu;have key:=b6d I (A:=A) hs hs' hab (eT t t') qo it;rw[l1,l2,b8d]at key;exact key
end
section
variable{X:Cx}
def mEqT(K:Frag)(n:Bool):R2:=λx y H Q=>∃(t t':Trm),Den K H x t.data/\Den K H y t'.data/\t.size<=70/\Q (.bl (n^^eqb t t')) H
theorem b8g(K:Frag)(hK:X.K=K)(hu:X.A.units+150<cLine):OpR X (compareOp .Eq) (mEqT K false):=by
 subst hK;intro pins s σ H x y v u Q I rx ry h;obtain⟨t,t',h,h',hz,k⟩:=h;obtain⟨a,_,_,rfl,_⟩:=a6a h;obtain⟨a',_,_,rfl,_⟩:=a6a h';cases rx;cases ry;obtain⟨us,us',hs,hs',l1,l2,it⟩:=b3g I 69 (b8f I 69) X.A t t' h h' qo qo;obtain⟨its,rv,p1,_⟩:=I.tuple hs;obtain⟨its',rv',p2,_⟩:=I.tuple hs';have m1:=rv.length;have m2:=rv'.length;refine SeqAt.eq_tupleAt (e:=eT t t') (show s.heap.IsTuple a its.toArray from p1) (show s.heap.IsTuple a' its'.toArray from p2) qo (λj h1 h2=>?_) ?_
 ·have h1:j<its.length:=by simpa using h1
  have h2:j<its'.length:=by simpa using h2
  have x1:us[j]? =some us[j]:=Za qo
  have x2:us'[j]? =some us'[j]:=Za qo
  obtain⟨w1,y1,z1⟩:=rv.get x1;obtain⟨w2,y2,z2⟩:=rv'.get x2;have q1:its.toArray[j]=w1:=by
   have:=Za h1;rw[y1]at this
   simpa using(Zk this).symm
  have q2:its'.toArray[j]=w2:=by
   have:=Za h2;rw[y2]at this
   simpa using(Zk this).symm
  rw[q1,q2];exact it j _ _ _ _ x1 x2 z1 z2
 ·rw[Zd,Zd,<-m1,<-m2,l1,l2,b8d];rw[Zy]at k;exact⟨.bl _,H,I,rfl,k⟩
theorem c4v(K:Frag)(hK:X.K=K)(hu:X.A.units+150<cLine):OpR X (compareOp .NotEq) (mEqT K true):=by
 subst hK;intro pins s σ H x y v u Q I rx ry h;obtain⟨t,t',h,h',hz,k⟩:=h;obtain⟨a,_,_,rfl,_⟩:=a6a h;obtain⟨a',_,_,rfl,_⟩:=a6a h';cases rx;cases ry;obtain⟨us,us',hs,hs',l1,l2,it⟩:=b3g I 69 (b8f I 69) X.A t t' h h' qo qo;obtain⟨its,rv,p1,_⟩:=I.tuple hs;obtain⟨its',rv',p2,_⟩:=I.tuple hs';have m1:=rv.length;have m2:=rv'.length;refine Vl (e:=eT t t') (show s.heap.IsTuple a its.toArray from p1) (show s.heap.IsTuple a' its'.toArray from p2) qo (λj h1 h2=>?_) X.prog X.w _ _ ?_
 ·have h1:j<its.length:=by simpa using h1
  have h2:j<its'.length:=by simpa using h2
  have x1:us[j]? =some us[j]:=Za qo
  have x2:us'[j]? =some us'[j]:=Za qo
  obtain⟨w1,y1,z1⟩:=rv.get x1;obtain⟨w2,y2,z2⟩:=rv'.get x2;have q1:its.toArray[j]=w1:=by
   have:=Za h1;rw[y1]at this
   simpa using(Zk this).symm
  have q2:its'.toArray[j]=w2:=by
   have:=Za h2;rw[y2]at this
   simpa using(Zk this).symm
  rw[q1,q2];exact it j _ _ _ _ x1 x2 z1 z2
 ·rw[Zd,Zd,<-m1,<-m2,l1,l2,b8d];rw[Ts]at k;exact⟨.bl _,H,I,rfl,k⟩
theorem a6u{K:Frag}{H:Hp}{Q:VK}{x y:V}{n:Bool}{t t':Trm}(h:Den K H x t.data)(h':Den K H y t'.data)(hz:t.size<=70)(k:Q (.bl (n^^eqb t t')) H):mEqT K n x y H Q:=⟨t,t',h,h',hz,k⟩
end
section
variable{prog:Program}{w:World}{A:Around}{E:Value->Shared->Prop}{s:Shared}
theorem a5q{it l:Addr}{i:Nat}{items}{x:Value}{Q:Value->Shared->Prop}(hit:s.heap.IsTupleIter it l i)
  (hl:s.heap.IsTuple l items)(hx:items[i]? =some x)
  (hQ:∀h',h'.IsTupleIter it l (i+1)->Heap.SameBut it s.heap h'->Q x { s with heap:=h'}):
  wpAny (model prog w) A (Builtin.SmallTypes.nextOf (.ref it)) Q E s:=by
 obtain⟨o,ho,hc,hd⟩:=id hit;obtain⟨ol,hol,_,nl,hdl⟩:=hl;unfold Builtin.SmallTypes.nextOf
 refine Zb (wpAny_callSpecial?_slot (name:=ofString "__next__") hit.typeIs Ww
  (Yn Ww hit.typeIs Th ?_ (Tg _)))
 show wpAny _ _ (field (.ref it) 0>>=_) _ _ s
 refine Zb (Z5 ho hd (x:=.ref l) rfl ?_)
 show wpAny _ _ (if(Value.ref l==Value.none)=true then _ else _) _ _ s
 rw[if_neg (show ¬((Value.ref l==Value.none)=true)from Zn)]
 show wpAny _ _ (field (.ref it) 1>>=_) _ _ s
 refine Zb (Z5 ho hd (x:=.int i 0) rfl ?_)
 show wpAny _ _ (seqItems? (.ref l)>>=_) _ _ s
 refine Zb (Yx hol hdl ?_);simp only[Vz,hx];refine Zb (Vn ho hd qz (Ze ⟨x,rfl,Ze (hQ _ ?_ (Wf ..))⟩))
 exact⟨_,Yl _ ho (Ue (Wm hd _)),(Obj.cls_mapFields ..).trans hc,by
  rw[Wm hd];simp[rawInt]⟩
theorem b6e{it l:Addr}{i:Nat}{items}{Q:Value->Shared->Prop}(hh:A.handled=none)
  (hit:s.heap.IsTupleIter it l i)(hl:s.heap.IsTuple l items)(hx:items[i]? =none)
  (hE:∀h' e,Heap.ExtBut it s.heap h'->(∃o,h'.get? e=some o/\o.cls=.type "StopIteration")->E (.ref e) { s with heap:=h'}):
  wpAny (model prog w) A (Builtin.SmallTypes.nextOf (.ref it)) Q E s:=by
 obtain⟨o,ho,hc,hd⟩:=id hit;obtain⟨ol,hol,_,nl,hdl⟩:=hl;unfold Builtin.SmallTypes.nextOf
 refine Zb (wpAny_callSpecial?_slot (name:=ofString "__next__") hit.typeIs Ww
  (Yn Ww hit.typeIs Th ?_ (Tg _)))
 show wpAny _ _ (field (.ref it) 0>>=_) _ _ s
 refine Zb (Z5 ho hd (x:=.ref l) rfl ?_)
 show wpAny _ _ (if(Value.ref l==Value.none)=true then _ else _) _ _ s
 rw[if_neg (show ¬((Value.ref l==Value.none)=true)from Zn)]
 show wpAny _ _ (field (.ref it) 1>>=_) _ _ s
 refine Zb (Z5 ho hd (x:=.int i 0) rfl ?_)
 show wpAny _ _ (seqItems? (.ref l)>>=_) _ _ s
 refine Zb (Yx hol hdl ?_);simp only[Vz,hx];refine Zb (Wl (Zb (Vn ho hd qz ?_)))
 show wpAny _ _ (newExc (.type "StopIteration") []>>=_) _ _ _
 refine Zb ?_;simp only[newExc,newTuple];refine Zb (Y4 ?_ (by size_fits));refine Zb (m:=firstArgMember _ _) (Wv (a:=Value.none) (by first|rfl| (simp only[firstArgMember];rfl)) ?_);refine Y4 ?_ (by size_fits);simp only[raiseNew];refine Zb (wpAny_handled ?_)
 first|rw[show A.in1.handled=none from hh]|rw[hh]
 refine Zb (Ze (wpAny_throw ?_));exact hE _ _ (((Wf ..).extBut.push _).push _) ⟨_,Zj _ rfl,rfl⟩
abbrev a5d(h:Heap)(z TI TO:Addr)(f0:Value)(f1:Bool):Prop:=
 h.get? z=some { cls:=.type "zip",dict:=none,data:=.fields #[f0,.bool f1,.bool false,.ref TI,.ref TO],slots:=#[]}
theorem c4w{z TI TO i1 i2 l1 l2:Addr}{k1 k2:Nat}{xs ys:Array Value}{x y a b:Value}{Q:Value->Shared->Prop}(D:ZipApart z TI TO i1 i2 l1 l2)
  (hz:IsZip s.heap z TI TO .none)(hTI:IsPair s.heap TI (.ref i1) (.ref i2))(hTO:IsPair s.heap TO a b)
  (h1:s.heap.IsTupleIter i1 l1 k1)(h2:s.heap.IsTupleIter i2 l2 k2)(hl1:s.heap.IsTuple l1 xs)(hl2:s.heap.IsTuple l2 ys)(hx:xs[k1]? =some x)(hy:ys[k2]? =some y)
  (hQ:∀h',a5d h' z TI TO (rawInt s.heap.objs.size) false->IsPair h' TO x y->h'.IsTupleIter i1 l1 (k1+1)->h'.IsTupleIter i2 l2 (k2+1)->IsPair h' s.heap.objs.size x y->h'.objs.size=s.heap.objs.size+1->
   (∀c o,c≠z->c≠TO->c≠i1->c≠i2->s.heap.get? c=some o->h'.get? c=some o)->Q (.ref s.heap.objs.size) { s with heap:=h'}):
  wpAny (model prog w) A (Builtin.«zip.__next__» ⟨[.ref z],[]⟩) (λfin s'=>∃v,fin=.done (.ret v)/\Q v s') E s:=by
 show wpAny _ _ (field (.ref z) 2>>=_) _ _ _
 refine Zb (Z5 hz rfl (x:=.bool false) rfl ?_)
 show wpAny _ _ (field (.ref z) 3>>=_) _ _ _
 refine Zb (Z5 hz rfl (x:=.ref TI) rfl ?_);refine Zb (Yx hTI rfl ?_)
 show wpAny _ _ (Builtin.SmallTypes.ownedTupleIsFree (.ref z)>>=_) _ _ _
 refine Zb ?_;unfold Builtin.SmallTypes.ownedTupleIsFree;refine Zb (Z5 hz rfl (x:=.none) rfl (Ze ?_));simp only[if_true];refine Zb (Wl ?_);refine Zb (Z5 hz rfl (x:=.ref TO) rfl ?_);refine Zb (Y7 hz qz λh₁ hz₁ hs₁=>?_)
 replace hz₁:IsZip h₁ z TI TO .ellipsis:=hz₁
 refine Zb ?_;simp only[U7,Td,W2,Vc];refine Zb (Zb (V1 ?_))
 show wpAny _ _ (Builtin.SmallTypes.nextOf (.ref i1)>>=_) _ _ _
 refine Zb (a5q (h1.extBut hs₁.extBut D.i1z) (hl1.extBut hs₁.extBut D.l1z) hx λh₂ h1₂ hs₂=>Ze ?_);have hTO₂:IsPair h₂ TO a b:=hs₂.extBut _ _ D.TOi1 (hs₁.extBut _ _ D.TOz hTO);refine Zb (Yx hTO₂ rfl ?_);refine Zb (Vi hTO₂ λh₃ hTO₃ hs₃=>?_)
 replace hTO₃:IsPair h₃ TO x b:=hTO₃
 refine Zb (Vw (Ze ?_));refine Zb (Zb (V1 ?_))
 show wpAny _ _ (Builtin.SmallTypes.nextOf (.ref i2)>>=_) _ _ _
 refine Zb (a5q (((h2.extBut hs₁.extBut D.i2z).extBut hs₂.extBut D.i12.symm).extBut hs₃.extBut D.TOi2.symm)
  (((hl2.extBut hs₁.extBut D.l2z).extBut hs₂.extBut D.l2i1).extBut hs₃.extBut D.l2TO) hy λh₄ h2₄ hs₄=>Ze ?_)
 have hTO₄:IsPair h₄ TO x b:=hs₄.extBut _ _ D.TOi2 hTO₃;refine Zb (Yx hTO₄ rfl ?_);refine Zb (Vi hTO₄ λh₅ hTO₅ hs₅=>?_)
 replace hTO₅:IsPair h₅ TO x y:=hTO₅
 refine Zb (Vw (Ze (Ze ?_)));refine Zb (Yx hTO₅ rfl ?_);refine Zb (Ti ?_);have hsz:h₅.objs.size=s.heap.objs.size:=by rw[hs₅.1,hs₄.1,hs₃.1,hs₂.1,hs₁.1]
 have hz₅:IsZip h₅ z TI TO .ellipsis:=hs₅.extBut _ _ D.TOz.symm (hs₄.extBut _ _ D.i2z.symm (hs₃.extBut _ _ D.TOz.symm (hs₂.extBut _ _ D.i1z.symm hz₁)));have hk₅:∀c o,c≠z->c≠TO->c≠i1->c≠i2->s.heap.get? c=some o->h₅.get? c=some o:=λc o c1 c2 c3 c4 e=>
  hs₅.extBut _ _ c2 (hs₄.extBut _ _ c4 (hs₃.extBut _ _ c2 (hs₂.extBut _ _ c3 (hs₁.extBut _ _ c1 e))))
 have h1₅:h₅.IsTupleIter i1 l1 (k1+1):=((h1₂.extBut hs₃.extBut D.TOi1.symm).extBut hs₄.extBut D.i12).extBut hs₅.extBut D.TOi1.symm;have h2₅:h₅.IsTupleIter i2 l2 (k2+1):=h2₄.extBut hs₅.extBut D.TOi2.symm;have hzlt:z<h₅.objs.size:=Zl hz₅
 show wpAny _ _ (Builtin.SmallTypes.ownedTupleHandOut (.ref z) (.ref h₅.objs.size)>>=_) _ _ _
 refine Zb ?_;unfold Builtin.SmallTypes.ownedTupleHandOut;have hz₆:IsZip (h₅.push { cls:=.type "tuple",data:=.seq #[x,y]}) z TI TO .ellipsis:=Zc _ hz₅;refine Zb (Y7 hz₆ qz λh₇ hz₇ hs₇=>?_)
 replace hz₇:IsZip h₇ z TI TO (rawInt h₅.objs.size):=hz₇
 refine Y7 hz₇ qz λh₈ hz₈ hs₈=>?_
 replace hz₈:IsZip h₈ z TI TO (rawInt h₅.objs.size):=hz₈
 have up:∀c o,c≠z->h₅.get? c=some o->h₈.get? c=some o:=λc o c1 e=>hs₈.extBut _ _ c1 (hs₇.extBut _ _ c1 (Zc _ e))
 have hT₈:IsPair h₈ h₅.objs.size x y:=hs₈.extBut _ _ (Xb hzlt) (hs₇.extBut _ _ (Xb hzlt) (Zj _ rfl));have hz8:h₈.objs.size=h₅.objs.size+1:=by rw[hs₈.1,hs₇.1,Yd]
 rw[hsz]at hz₈ hT₈ hz8;refine Ze ⟨_,rfl,?_⟩
 show Q (.ref h₅.objs.size) _
 rw[hsz];exact hQ h₈ hz₈ (up _ _ D.TOz hTO₅) (h1₅.at λo e=>up _ o D.i1z e) (h2₅.at λo e=>up _ o D.i2z e) hT₈ hz8 λc o c1 c2 c3 c4 e=>up c o c1 (hk₅ c o c1 c2 c3 c4 e)
theorem b0u{z TI TO i1 i2 l1 l2:Addr}{k1:Nat}{xs:Array Value}{Q:Fin->Shared->Prop}(hh:A.handled=none)(D:ZipApart z TI TO i1 i2 l1 l2)
  (hz:IsZip s.heap z TI TO .none)(hTI:IsPair s.heap TI (.ref i1) (.ref i2))
  (h1:s.heap.IsTupleIter i1 l1 k1)(hl1:s.heap.IsTuple l1 xs)(hx:xs[k1]? =none)
  (hE:∀h' e,(∀c o,c≠z->c≠TO->c≠i1->c≠i2->s.heap.get? c=some o->h'.get? c=some o)->(∃o,h'.get? e=some o/\o.cls=.type "StopIteration")->E (.ref e) { s with heap:=h'}):
  wpAny (model prog w) A (Builtin.«zip.__next__» ⟨[.ref z],[]⟩) Q E s:=by
 show wpAny _ _ (field (.ref z) 2>>=_) _ _ _
 refine Zb (Z5 hz rfl (x:=.bool false) rfl ?_)
 show wpAny _ _ (field (.ref z) 3>>=_) _ _ _
 refine Zb (Z5 hz rfl (x:=.ref TI) rfl ?_);refine Zb (Yx hTI rfl ?_)
 show wpAny _ _ (Builtin.SmallTypes.ownedTupleIsFree (.ref z)>>=_) _ _ _
 refine Zb ?_;unfold Builtin.SmallTypes.ownedTupleIsFree;refine Zb (Z5 hz rfl (x:=.none) rfl (Ze ?_));simp only[if_true];refine Zb (Wl ?_);refine Zb (Z5 hz rfl (x:=.ref TO) rfl ?_);refine Zb (Y7 hz qz λh₁ hz₁ hs₁=>?_)
 replace hz₁:IsZip h₁ z TI TO .ellipsis:=hz₁
 refine Zb ?_;simp only[U7,Td,W2,Vc];refine Zb (Zb (V1 ?_))
 show wpAny _ _ (Builtin.SmallTypes.nextOf (.ref i1)>>=_) _ _ _
 refine Zb (b6e hh (h1.extBut hs₁.extBut D.i1z) (hl1.extBut hs₁.extBut D.l1z) hx λh₂ e hs₂ he=>?_);obtain⟨oe,hoe,hce⟩:=he;have hz₂:IsZip h₂ z TI TO .ellipsis:=hs₂ _ _ D.i1z.symm hz₁;have hez:e≠z:=λx=>by subst x;rw[hz₂]at hoe;cases hoe;simp at hce
 refine Y7 hz₂ qz λh₃ _ hs₃=>hE h₃ e (λc o c1 _ c3 _ x=>hs₃.extBut _ _ c1 (hs₂ _ _ c3 (hs₁.extBut _ _ c1 x))) ⟨oe,hs₃.extBut _ _ hez hoe,hce⟩
theorem b0l{z TI TO T:Addr}{f1:Bool}{o:Obj}{Q:Bool->Shared->Prop}(hz:a5d s.heap z TI TO (rawInt T) f1)(hT:s.heap.get? T=some o)
  (hQ:∀h',a5d h' z TI TO (rawInt T) true->Heap.SameBut z s.heap h'->Q false { s with heap:=h'}):wpAny (model prog w) A (Builtin.SmallTypes.ownedTupleIsFree (.ref z)) Q E s:=by
 unfold Builtin.SmallTypes.ownedTupleIsFree;refine Zb (Z5 hz rfl (x:=rawInt T) rfl ?_)
 show wpAny _ _ (loadIfAlive ((T:Int).toNat)>>=_) _ _ _
 rw[Vz];refine Zb (kdx_alive hT ?_);simp only[Option.isNone_some,X9,W9];refine Zb (Z5 hz rfl (x:=.bool f1) rfl ?_);cases f1 with
 |true=>
  rw[if_neg (show ¬((Value.bool true !=Value.bool true)=true)from Zn)];exact Ze (hQ _ hz (Heap.SameBut.refl _ _))
 |false=>
  rw[if_pos (show(Value.bool false !=Value.bool true)=true from rfl)];refine Zb (Y7 hz qz λh₃ he₃ hs₃=>?_);exact Ze (hQ _ he₃ hs₃)
theorem c4x{z TI TO i1 i2 l1 l2 T:Addr}{f1:Bool}{oT:Obj}{k1 k2:Nat}{xs ys:Array Value}{x y:Value}{Q:Value->Shared->Prop}(D:ZipApart z TI TO i1 i2 l1 l2)
  (hz:a5d s.heap z TI TO (rawInt T) f1)(hT:s.heap.get? T=some oT)(hTI:IsPair s.heap TI (.ref i1) (.ref i2))
  (h1:s.heap.IsTupleIter i1 l1 k1)(h2:s.heap.IsTupleIter i2 l2 k2)(hl1:s.heap.IsTuple l1 xs)(hl2:s.heap.IsTuple l2 ys)(hx:xs[k1]? =some x)(hy:ys[k2]? =some y)
  (hQ:∀h',a5d h' z TI TO (rawInt T) true->h'.IsTupleIter i1 l1 (k1+1)->h'.IsTupleIter i2 l2 (k2+1)->IsPair h' s.heap.objs.size x y->h'.objs.size=s.heap.objs.size+1->
   (∀c o,c≠z->c≠i1->c≠i2->s.heap.get? c=some o->h'.get? c=some o)->Q (.ref s.heap.objs.size) { s with heap:=h'}):
  wpAny (model prog w) A (Builtin.«zip.__next__» ⟨[.ref z],[]⟩) (λfin s'=>∃v,fin=.done (.ret v)/\Q v s') E s:=by
 show wpAny _ _ (field (.ref z) 2>>=_) _ _ _
 refine Zb (Z5 hz rfl (x:=.bool false) rfl ?_)
 show wpAny _ _ (field (.ref z) 3>>=_) _ _ _
 refine Zb (Z5 hz rfl (x:=.ref TI) rfl ?_);refine Zb (Yx hTI rfl ?_)
 show wpAny _ _ (Builtin.SmallTypes.ownedTupleIsFree (.ref z)>>=_) _ _ _
 refine Zb (b0l hz hT λh₁ hz₁ hs₁=>?_);simp only[X9,W9];refine Zb ?_;simp only[Rh,W2,Vc];refine Zb (Zb (Xm ?_))
 show wpAny _ _ (Builtin.SmallTypes.nextOf (.ref i1)>>=_) _ _ _
 refine Zb (a5q (h1.extBut hs₁.extBut D.i1z) (hl1.extBut hs₁.extBut D.l1z) hx λh₂ h1₂ hs₂=>Ze ?_);refine Ze ?_;refine Zb (Zb (Xm ?_))
 show wpAny _ _ (Builtin.SmallTypes.nextOf (.ref i2)>>=_) _ _ _
 refine Zb (a5q ((h2.extBut hs₁.extBut D.i2z).extBut hs₂.extBut D.i12.symm) ((hl2.extBut hs₁.extBut D.l2z).extBut hs₂.extBut D.l2i1) hy λh₄ h2₄ hs₄=>Ze ?_);refine Ze (Ze ?_);refine Zb (Ti (hsz:=by show 2<=sizeLine;rw[Yh];omega) ?_);have hsz:h₄.objs.size=s.heap.objs.size:=by rw[hs₄.1,hs₂.1,hs₁.1]
 refine Ze ⟨_,rfl,?_⟩
 show Q (.ref h₄.objs.size) _
 have hz₄:a5d h₄ z TI TO (rawInt T) true:=hs₄.extBut _ _ D.i2z.symm (hs₂.extBut _ _ D.i1z.symm hz₁);have e5:IsPair (h₄.push { cls:=.type "tuple",data:=.seq #[x,y]}) h₄.objs.size x y:=Zj _ rfl;rw[hsz]at e5 ⊢;refine hQ _ (Zc _ hz₄) ((h1₂.extBut hs₄.extBut D.i12).at λo e=>Zc _ e) (h2₄.at λo e=>Zc _ e) e5 (by rw[Yd,hsz]) λc o c1 c3 c4 e=>Zc _ (hs₄.extBut _ _ c4 (hs₂.extBut _ _ c3 (hs₁.extBut _ _ c1 e)))
theorem b8h{z TI TO i1 i2 l1 l2 T:Addr}{f1:Bool}{oT:Obj}{k1:Nat}{xs:Array Value}{Q:Fin->Shared->Prop}(hh:A.handled=none)(D:ZipApart z TI TO i1 i2 l1 l2)
  (hz:a5d s.heap z TI TO (rawInt T) f1)(hT:s.heap.get? T=some oT)(hTI:IsPair s.heap TI (.ref i1) (.ref i2))
  (h1:s.heap.IsTupleIter i1 l1 k1)(hl1:s.heap.IsTuple l1 xs)(hx:xs[k1]? =none)
  (hE:∀h' e,(∀c o,c≠z->c≠TO->c≠i1->c≠i2->s.heap.get? c=some o->h'.get? c=some o)->(∃o,h'.get? e=some o/\o.cls=.type "StopIteration")->E (.ref e) { s with heap:=h'}):
  wpAny (model prog w) A (Builtin.«zip.__next__» ⟨[.ref z],[]⟩) Q E s:=by
 show wpAny _ _ (field (.ref z) 2>>=_) _ _ _
 refine Zb (Z5 hz rfl (x:=.bool false) rfl ?_)
 show wpAny _ _ (field (.ref z) 3>>=_) _ _ _
 refine Zb (Z5 hz rfl (x:=.ref TI) rfl ?_);refine Zb (Yx hTI rfl ?_)
 show wpAny _ _ (Builtin.SmallTypes.ownedTupleIsFree (.ref z)>>=_) _ _ _
 refine Zb (b0l hz hT λh₁ hz₁ hs₁=>?_);simp only[X9,W9];refine Zb ?_;simp only[Rh,W2,Vc];refine Zb (Zb (Xm ?_))
 show wpAny _ _ (Builtin.SmallTypes.nextOf (.ref i1)>>=_) _ _ _
 refine Zb (b6e hh (h1.extBut hs₁.extBut D.i1z) (hl1.extBut hs₁.extBut D.l1z) hx λh₂ e hs₂ he=>?_);exact hE h₂ e (λc o c1 _ c3 _ x=>hs₂ _ _ c3 (hs₁.extBut _ _ c1 x)) he
end
theorem c1w:typeLookup (.type "zip") "__len__"=pure none:=by rw[Xh,Yt];kernel_rfl
theorem b9n:typeLookup (.type "zip") "__length_hint__"=pure none:=by rw[Xh,Yt];kernel_rfl
abbrev ztH1(h:Heap)(l1:Addr):Heap:=h.push { cls:=.type "tuple_iterator",data:=.fields #[.ref l1,.int 0 0]}
abbrev ztH2(h:Heap)(l1 l2:Addr):Heap:=(ztH1 h l1).push { cls:=.type "tuple_iterator",data:=.fields #[.ref l2,.int 0 0]}
abbrev ztH3(h:Heap)(l1 l2:Addr):Heap:=(ztH2 h l1 l2).push { cls:=.type "tuple",data:=.seq #[.ref h.objs.size,.ref (ztH1 h l1).objs.size]}
abbrev ztH4(h:Heap)(l1 l2:Addr):Heap:=(ztH3 h l1 l2).push { cls:=.type "tuple",data:=.seq #[.none,.none]}
abbrev ztH5(h:Heap)(l1 l2:Addr):Heap:=(ztH4 h l1 l2).push { cls:=.type "zip",data:=.fields #[.none,.bool false,.bool false,.ref (ztH2 h l1 l2).objs.size,.ref (ztH3 h l1 l2).objs.size]}
theorem c1x(l1 l2:Addr)(xs ys:Array Value):
  Meets (Builtin.«zip.__new__» ⟨[.type "zip",.ref l1,.ref l2],[]⟩) (λ_ R s=>s.heap.IsTuple l1 xs/\s.heap.IsTuple l2 ys/\
   R (.ok (.ret (.ref (ztH4 s.heap l1 l2).objs.size))) { s with heap:=ztH5 s.heap l1 l2}):=
 .of_wp λprog w A R s h=>by
  obtain⟨hp,g,d,tk,os⟩:=s;obtain⟨hl1,hl2,h⟩:=h;have hsub:=sub_zip;have hL1:Heap.IsTuple (Shared.heap ⟨hp,g,d,tk,os⟩) l1 xs:=hl1;have hL2:Heap.IsTuple (Shared.heap ⟨hp.push { cls:=.type "tuple_iterator",data:=.fields #[.ref l1,.int 0 0]},g,d,tk,os⟩) l2 ys:=Heap.IsTuple.push hl2 _
  wp_walk using W3 hL1,W3 hL2
  exact⟨_,rfl,h⟩
section
variable{prog:Program}{w:World}{A:Around}{E:Value->Shared->Prop}{s:Shared}
theorem c4y{l1 l2:Addr}{xs ys:Array Value}{Q:Value->Shared->Prop}(hl1:s.heap.IsTuple l1 xs)(hl2:s.heap.IsTuple l2 ys)
  (h:∀h',IsZip h' (s.heap.objs.size+4) (s.heap.objs.size+2) (s.heap.objs.size+3) .none->IsPair h' (s.heap.objs.size+2) (.ref s.heap.objs.size) (.ref (s.heap.objs.size+1))->
   IsPair h' (s.heap.objs.size+3) .none .none->h'.IsTupleIter s.heap.objs.size l1 0->h'.IsTupleIter (s.heap.objs.size+1) l2 0->h'.objs.size=s.heap.objs.size+5->
   (∀c o,s.heap.get? c=some o->h'.get? c=some o)->Q (.ref (s.heap.objs.size+4)) { s with heap:=h'}):
  wpAny (model prog w) A (call (.type "zip") [.ref l1,.ref l2]) Q E s:=by
 refine T0 F.called_zip qd (F.typeCall_zip_2 _ _) (F.newCall_zip_2 _ _) (λobj=>Sm obj _ _) F.entry_zip_new
  (c1x l1 l2 xs ys) ⟨hl1,hl2,?_⟩
 have z1:(ztH1 s.heap l1).objs.size=s.heap.objs.size+1:=Yd ..;have z2:(ztH2 s.heap l1 l2).objs.size=s.heap.objs.size+2:=by rw[Yd,z1]
 have z3:(ztH3 s.heap l1 l2).objs.size=s.heap.objs.size+3:=by rw[Yd,z2]
 have z4:(ztH4 s.heap l1 l2).objs.size=s.heap.objs.size+4:=by rw[Yd,z3]
 have z5:(ztH5 s.heap l1 l2).objs.size=s.heap.objs.size+5:=by rw[Yd,z4]
 have g5:(ztH5 s.heap l1 l2).get? (ztH4 s.heap l1 l2).objs.size=some _:=Zj _ rfl;have g4:(ztH5 s.heap l1 l2).get? (ztH3 s.heap l1 l2).objs.size=some _:=Zc _ (Zj _ rfl);have g3:(ztH5 s.heap l1 l2).get? (ztH2 s.heap l1 l2).objs.size=some _:=Zc _ (Zc _ (Zj _ rfl));have g2:(ztH5 s.heap l1 l2).get? (ztH1 s.heap l1).objs.size=some _:=Zc _ (Zc _ (Zc _ (Zj _ rfl)));have g1:(ztH5 s.heap l1 l2).get? s.heap.objs.size=some _:=Zc _ (Zc _ (Zc _ (Zc _ (Zj _ rfl))))
 show _/\_
 rw[z2,z3,z4]at g5;rw[z1,z2]at g3;rw[z3]at g4;rw[z1]at g2;rw[z4]
 exact⟨⟨_,g5,rfl⟩,h _ g5 g3 g4 ⟨_,g1,rfl,rfl⟩ ⟨_,g2,rfl,rfl⟩ z5 λc o x=>
  Zc _ (Zc _ (Zc _ (Zc _ (Zc _ x))))⟩
def ZS(h:Heap)(z TI TO i1 i2 t1 t2 S:Addr)(i:Nat):Prop:=
 ((IsZip h z TI TO .none/\∃a b,IsPair h TO a b)\/∃(T:Addr)(f1:Bool)(o:Obj),a5d h z TI TO (rawInt T) f1/\h.get? T=some o/\T≠z/\T≠TO/\T≠i1/\T≠i2/\T≠S)/\IsPair h TI (.ref i1) (.ref i2)/\h.IsTupleIter i1 t1 i/\h.IsTupleIter i2 t2 i
theorem ZS.keep{h h':Heap}{z TI TO i1 i2 t1 t2 S:Addr}{i:Nat}(st:ZS h z TI TO i1 i2 t1 t2 S i)(k:∀c o,c≠S->h.get? c=some o->h'.get? c=some o)(n:S≠z/\S≠TI/\S≠TO/\S≠i1/\S≠i2):ZS h' z TI TO i1 i2 t1 t2 S i:=by
 obtain⟨q,hTI,h1,h2⟩:=st;refine⟨?_,k _ _ n.2.1.symm hTI,h1.at λo e=>k _ o n.2.2.2.1.symm e,h2.at λo e=>k _ o n.2.2.2.2.symm e⟩;rcases q with⟨hz,a,b,hTO⟩|⟨T,f1,o,hz,hT,d⟩
 ·exact .inl ⟨k _ _ n.1.symm hz,a,b,k _ _ n.2.2.1.symm hTO⟩
 ·exact .inr ⟨T,f1,o,k _ _ n.1.symm hz,k _ _ d.2.2.2.2 hT,d⟩
theorem zs_item{z TI TO i1 i2 t1 t2 S:Addr}{i:Nat}{xs ys:Array Value}{x y:Value}{Q:Option Value->Shared->Prop}(D:ZipApart z TI TO i1 i2 t1 t2)(st:ZS s.heap z TI TO i1 i2 t1 t2 S i)(hS:S<s.heap.objs.size)
  (hl1:s.heap.IsTuple t1 xs)(hl2:s.heap.IsTuple t2 ys)(hx:xs[i]? =some x)(hy:ys[i]? =some y)
  (hQ:∀h',ZS h' z TI TO i1 i2 t1 t2 S (i+1)->IsPair h' s.heap.objs.size x y->(∀c o,c≠z->c≠TO->c≠i1->c≠i2->s.heap.get? c=some o->h'.get? c=some o)->Q (some (.ref s.heap.objs.size)) { s with heap:=h'}):
  wpAny (model prog w) A (pyNext (.ref z)) Q E s:=by
 obtain⟨q,hTI,h1,h2⟩:=st;have lt:∀{c o},s.heap.get? c=some o->s.heap.objs.size≠c:=λe=>Xb (Zl e)
 have n1:s.heap.objs.size≠i1:=by obtain⟨_,e,_⟩:=h1;exact lt e
 have n2:s.heap.objs.size≠i2:=by obtain⟨_,e,_⟩:=h2;exact lt e
 rcases q with⟨hz,a,b,hTO⟩|⟨T,f1,o,hz,hT,d⟩
 ·have hTy:s.TypeIs (.ref z) "zip":=⟨_,hz,rfl⟩;unfold pyNext
  refine Zb (Xv (wpAny_callSpecial?_slot (name:=ofString "__next__") hTy Y2
   (Yn Y2 hTy Wx
    (c4w D hz hTI hTO h1 h2 hl1 hl2 hx hy λh' a1 a2 a3 a4 a5 a6 a7=>Ze (hQ h' ⟨.inr ⟨_,false,_,a1,a5,lt hz,lt hTO,n1,n2,Xb hS⟩,a7 _ _ D.TIz D.TITO D.TIi1 D.TIi2 hTI,a3,a4⟩ a5 a7)) (Wt _))))
 ·have hTy:s.TypeIs (.ref z) "zip":=⟨_,hz,rfl⟩;unfold pyNext
  refine Zb (Xv (wpAny_callSpecial?_slot (name:=ofString "__next__") hTy Y2
   (Yn Y2 hTy Wx
    (c4x D hz hT hTI h1 h2 hl1 hl2 hx hy λh' a1 a3 a4 a5 a6 a7=>Ze (hQ h' ⟨.inr ⟨T,true,o,a1,a7 _ _ d.1 d.2.2.1 d.2.2.2.1 hT,d⟩,a7 _ _ D.TIz D.TIi1 D.TIi2 hTI,a3,a4⟩ a5 λc o c1 _ c3 c4 e=>a7 c o c1 c3 c4 e)) (Wt _))))
theorem zs_end{z TI TO i1 i2 t1 t2 S:Addr}{i:Nat}{xs:Array Value}{Q:Option Value->Shared->Prop}(hh:A.handled=none)(D:ZipApart z TI TO i1 i2 t1 t2)(st:ZS s.heap z TI TO i1 i2 t1 t2 S i)
  (hl1:s.heap.IsTuple t1 xs)(hx:xs[i]? =none)
  (hQ:∀h',(∀c o,c≠z->c≠TO->c≠i1->c≠i2->s.heap.get? c=some o->h'.get? c=some o)->Q none { s with heap:=h'}):
  wpAny (model prog w) A (pyNext (.ref z)) Q E s:=by
 obtain⟨q,hTI,h1,h2⟩:=st;rcases q with⟨hz,a,b,hTO⟩|⟨T,f1,o,hz,hT,d⟩
 ·have hTy:s.TypeIs (.ref z) "zip":=⟨_,hz,rfl⟩;unfold pyNext
  refine Zb (Xv (wpAny_callSpecial?_slot (name:=ofString "__next__") hTy Y2
   (Yn Y2 hTy Wx (b0u hh D hz hTI h1 hl1 hx λh' e hk he=>?_) (Wt _))))
  obtain⟨o,ho,hc⟩:=he;refine Zb (Wh (T:="StopIteration") (b:=true) ⟨o,ho,hc⟩ Uj ?_);exact Ze (hQ _ hk)
 ·have hTy:s.TypeIs (.ref z) "zip":=⟨_,hz,rfl⟩;unfold pyNext
  refine Zb (Xv (wpAny_callSpecial?_slot (name:=ofString "__next__") hTy Y2
   (Yn Y2 hTy Wx (b8h hh D hz hT hTI h1 hl1 hx λh' e hk he=>?_) (Wt _))))
  obtain⟨o,ho,hc⟩:=he;refine Zb (Wh (T:="StopIteration") (b:=true) ⟨o,ho,hc⟩ Uj ?_);exact Ze (hQ _ hk)
end
def a7k(H:Hp)(qs:List Addr)(xs ys:List V):Prop:=∀(j:Nat)(q:Addr)(x y:V),qs[j]? =some q->xs[j]? =some x->ys[j]? =some y->H q=some (.tup [x,y])
section
variable{X:Cx}{pins:List (Addr×Obj)}{σ:St}
theorem c7l{A:Around}{R:Result->Shared->Prop}{z TI TO i1 i2 t1 t2 S:Addr}{xs ys:List V}{H0:Hp}(hh:A.handled=none)(D:ZipApart z TI TO i1 i2 t1 t2)(ltS:∀b∈[z,TI,TO,i1,i2],b<S)(hlen:ys.length=xs.length)(h0:H0 S=none)(res:Value)
  (hR:∀s' H' qs,Inv X pins σ H' s'->Same H0 H'->H' S=some (.lst (qs.map V.ref))->qs.length=xs.length->a7k H' qs xs ys->R (.ok (.ret res)) s'):
  ∀(k i:Nat)(s:Shared)(H:Hp)(qs:List Addr),xs.length-i=k->i<=xs.length->Inv X pins σ H s->SqT X.K H t1 xs->SqT X.K H t2 ys->ZS s.heap z TI TO i1 i2 t1 t2 S i->(∀b∈[z,TI,TO,i1,i2],FpOk X pins H b)->Same H0 H->H S=some (.lst (qs.map V.ref))->qs.length=i->a7k H qs xs ys->
   codeAny (model X.prog X.w) A (.builtin "list.extend.loop" ⟨[.ref S,.ref z,res],[]⟩) R s:=by
 have n:S≠z/\S≠TI/\S≠TO/\S≠i1/\S≠i2:=⟨Xb (ltS _ qz),Xb (ltS _ qz),Xb (ltS _ qz),Xb (ltS _ qz),Xb (ltS _ qz)⟩;intro k
 induction k with
 |zero=>
  intro i s H qs hk hi I hq1 hq2 st hf sm hS hl pr;have hin:i=xs.length:=by omega
  obtain⟨its,rv,p,hz⟩:=I.tuple hq1;have hlx:=rv.length;refine codeAny_builtin Sy ?_;rw[Sq Wg _]
  show wpAny _ A.in1 (pyNext (.ref z)>>=_) _ _ s
  refine Zb (zs_end (A:=A.in1) hh D st (show s.heap.IsTuple t1 its.toArray from p) (by simp;omega) λh' he=>?_);refine Ze (hR { s with heap:=h'} H qs (I.turnedMany (t':=s.toks) (ch:=[z,TI,TO,i1,i2]) hf λc u hc e=>he c u (λq=>hc (by simp[q])) (λq=>hc (by simp[q])) (λq=>hc (by simp[q])) (λq=>hc (by simp[q])) e) sm hS qo pr)
 |succ k ih=>
  intro i s H qs hk hi I hq1 hq2 st hf sm hS hl pr;have hlt:i<xs.length:=by omega
  have hlt':i<ys.length:=by omega
  obtain⟨its,rv,p,hz⟩:=I.tuple hq1;obtain⟨its',rv',p',hz'⟩:=I.tuple hq2;obtain⟨u,hu,ru⟩:=rv.get (Za hlt);obtain⟨u',hu',ru'⟩:=rv'.get (Za hlt');obtain⟨zS,it3,n3,r3,l3,e3⟩:=I.lstM hS;have hSl:S<s.heap.objs.size:=Zl e3;refine codeAny_builtin Sy ?_;rw[Sq Wg _]
  show wpAny _ A.in1 (pyNext (.ref z)>>=_) _ _ s
  refine Zb (zs_item D st hSl (show s.heap.IsTuple t1 its.toArray from p) (show s.heap.IsTuple t2 its'.toArray from p') (by simpa using hu) (by simpa using hu') λh' st' hp hkp=>?_);have hk':∀b o,b∉[z,TI,TO,i1,i2]->s.heap.get? b=some o->h'.get? b=some o:=λc o hc e=>hkp c o (λq=>hc (by simp[q])) (λq=>hc (by simp[q])) (λq=>hc (by simp[q])) (λq=>hc (by simp[q])) e
  have fr:H s.heap.objs.size=none:=I.hok.fresh (Zh _);have I1:Inv X pins σ (upd H s.heap.objs.size (.tup [xs[i],ys[i]])) { s with heap:=h'}:=I.turnedLaid (t':=s.toks) (ch:=[z,TI,TO,i1,i2]) hf hk' (Zh _) ⟨by simp[Yh],[u,u'],.cons ru (.cons ru' .nil),⟨_,hp,rfl,_,rfl⟩⟩;have hST:S≠s.heap.objs.size:=Z0 hSl;have hS1:upd H s.heap.objs.size (.tup [xs[i],ys[i]]) S=some (.lst (qs.map V.ref)):=by rw[a0p hST];exact hS
  have e4:h'.get? S=some { cls:=.type "list",data:=.seq it3.toArray n3}:=hkp S _ n.1 n.2.2.1 n.2.2.2.1 n.2.2.2.2 e3;have hq:(qs.map V.ref).length=i:=by rw[length_map];exact hl
  have I2:=I1.lset (t':=s.toks) (f:=(·.push (Value.ref s.heap.objs.size))) (its':=it3++[Value.ref s.heap.objs.size]) (ys:=(qs++[s.heap.objs.size]).map V.ref) hS1 e4 qz (by rw[Zi];exact r3.append (.cons rfl .nil)) (by rw[length_map,Zf,Zq];omega)
  show wpAny _ A.in1 (updateSeq S (·.push (Value.ref s.heap.objs.size))>>=_) _ _ _
  refine Zb ?_;have b1:But S H (upd (upd H s.heap.objs.size (.tup [xs[i],ys[i]])) S (.lst ((qs++[s.heap.objs.size]).map V.ref))):=λb o hb e=>by
   rw[a0p hb,a0p (a1m e fr)];exact e
  refine Wb e4 rfl (Ze ⟨Up Wg _,ih (i+1) _ _ (qs++[s.heap.objs.size]) qo hlt I2 (b1.tup hS hq1) (b1.tup hS hq2) (st'.keep (λc o hc e=>(Yg _ _ (Ne.symm hc)).trans e) n) (λb hb=>?_) (λb o e=>?_) a0c (by rw[Zf,hl];rfl) (λj q x y g1 g2 g3=>?_)⟩) (by rw[Zd];omega) (by show(it3.toArray.push (Value.ref s.heap.objs.size)).size<=sizeLine+1;rw[Array.size_push,Zd];omega)
  ·have fb:=hf b hb;have nb:b≠S:=λq=>by rw[q]at fb;rw[fb.1]at hS;cases hS
   have nT:b≠s.heap.objs.size:=Z0 (Nat.lt_trans (ltS b hb) hSl);refine⟨?_,fb.2⟩;rw[a0p nb,a0p nT];exact fb.1
  ·exact b1 b o (λq=>by rw[q,h0]at e;cases e) (sm b o e)
  ·rcases U1 j qs.length with h1|h1|h1
   ·rw[Tk h1]at g1;have:=pr j q x y g1 g2 g3;exact b1 _ _ (λe=>by rw[e,hS]at this;cases this) this
   ·subst h1;have hb:s.heap.objs.size=q:=by simpa using g1
    subst hb;rw[a0p hST.symm,a0c];rw[hl]at g2 g3;rw[Za hlt]at g2;rw[Za hlt']at g3;cases g2;cases g3;rfl
   ·have hnone:(qs++[s.heap.objs.size])[j]? =none:=Wa (by rw[Zf,Zq];omega)
    rw[hnone]at g1;cases g1
theorem b8i{A:Around}{E:Value->Shared->Prop}{s:Shared}{H:Hp}{Q:Value->Shared->Prop}{z TI TO i1 i2 t1 t2:Addr}{xs ys:List V}(hh:A.handled=none)(D:ZipApart z TI TO i1 i2 t1 t2)(I:Inv X pins σ H s)(hq1:SqT X.K H t1 xs)(hq2:SqT X.K H t2 ys)(hlen:ys.length=xs.length)
  (hz:IsZip s.heap z TI TO .none)(hTI:IsPair s.heap TI (.ref i1) (.ref i2))(hTO:IsPair s.heap TO .none .none)(h1:s.heap.IsTupleIter i1 t1 0)(h2:s.heap.IsTupleIter i2 t2 0)(hf:∀b∈[z,TI,TO,i1,i2],FpOk X pins H b)
  (h:∀s' H' p qs,H p=none->Inv X pins σ H' s'->Same H H'->H' p=some (.lst (qs.map V.ref))->qs.length=xs.length->a7k H' qs xs ys->Q (.ref p) s'):
  wpAny (model X.prog X.w) A (call (.type "list") [.ref z]) Q E s:=by
 refine callType_codes (Q₁:=λobj s₁=>obj=.ref s.heap.objs.size/\s₁={ s with heap:=s.heap.push { cls:=.type "list",data:=.seq #[]}}) F.called_list (F.typeCall_list_1 _) F.entry_list_init
  (code_list_new _ ⟨rfl,rfl⟩) λobj s₁ h₁=>?_
 obtain⟨rfl,rfl⟩:=h₁;have hS:(s.heap.push { cls:=.type "list",data:=.seq #[]}).get? s.heap.objs.size=some { cls:=.type "list",data:=.seq #[]}:=Zj _ rfl;refine⟨⟨_,hS,rfl⟩,Rj _ _,?_⟩;have ltS:∀b∈[z,TI,TO,i1,i2],b<s.heap.objs.size:=λb hb=>by
  obtain⟨_,e1,_⟩:=h1;obtain⟨_,e2,_⟩:=h2;simp only[Zp,Z8,Xn]at hb;rcases hb with rfl|rfl|rfl|rfl|rfl
  ·exact Zl hz
  ·exact Zl hTI
  ·exact Zl hTO
  ·exact Zl e1
  ·exact Zl e2
 generalize hSS:s.heap.objs.size=S at hS ltS ⊢;have fr:H S=none:=by rw[<-hSS];exact I.hok.fresh (Zh _)
 show wpAny _ _ (do let old <-Builtin.List.listItems (.ref S);Builtin.List.listUpdate (.ref S) (λ_=>#[]);letGo old.toList.reverse;Builtin.List.listExtendWith (.ref S) (.ref z) .none) _ _ _
 refine Zb ?_;unfold Builtin.List.listItems;refine Zb (Yx hS rfl (Ze ?_))
 show wpAny _ _ (updateSeq S (λ_=>#[])>>=λ_=>letGo (#[]:Array Value).toList.reverse>>=λ_=>Builtin.List.listExtendWith (.ref S) (.ref z) .none) _ _ _
 refine Zb (Wb hS rfl ?_);have hS₁:=Yl (Obj.mapSeq (λ_=>(#[]:Array Value))) hS rfl;have k1:∀b o,b≠S->s.heap.get? b=some o->((s.heap.push { cls:=.type "list",data:=.seq #[]}).update S (Obj.mapSeq (λ_=>(#[]:Array Value)))).get? b=some o:=
  λb o hb e=>(Yg _ _ (Ne.symm hb)).trans (Zc _ e)
 refine Zb (Vw ?_);generalize ((s.heap.push { cls:=.type "list",data:=.seq #[]}).update S (Obj.mapSeq (λ_=>(#[]:Array Value))))=hp1 at hS₁ k1 ⊢;have nz:z≠S:=Z0 (ltS z qz);have hz1:IsZip hp1 z TI TO .none:=k1 _ _ nz hz;have hT1:Shared.TypeIs { s with heap:=hp1} (.ref z) "zip":=⟨_,hz1,rfl⟩;unfold Builtin.List.listExtendWith;refine Zb (V7 hT1 ?_);have g1:Builtin.List.listSameRef (.ref S) (.ref z)=false:=by simp[Builtin.List.listSameRef,nz.symm]
 have g2:(Value.type "zip"==Value.type "list")=false:=by decide
 have g3:(Value.type "zip"==Value.type "tuple")=false:=by decide
 simp only[g1,g2,g3,Tt,X9,W9];refine Zb (U5 hz1 ?_);refine Zb (Xm ?_);unfold Builtin.List.listLengthHint;refine Zb (Xg hT1 c1w ?_)
 show wpAny _ _ (specialOf (Value.ref z) (ofString "__length_hint__")>>=_) _ _ _
 refine Zb (Xg hT1 b9n ?_);refine Ze ?_
 show wpAny _ _ (rule "list.extend.makes-room">>=λ_=>Builtin.List.listTouch (.ref S)>>=λ_=>
  again (.builtin "list.extend.loop" ⟨[.ref S,.ref z,.none],[]⟩)) _ _ _
 refine Zb (Wl ?_);refine Zb ?_
 show wpAny _ _ (updateSeq S (·.push .none)>>=λ_=>updateSeq S (·.pop)) _ _ _
 refine Zb (Wb hS₁ rfl ?_);have hS₂:=Yl (Obj.mapSeq (·.push Value.none)) hS₁ rfl;refine Wb (hz:=by seq_fits) hS₂ rfl ?_;have hS₃:=Yl (Obj.mapSeq (·.pop)) hS₂ rfl;have k3:∀b o,b≠S->s.heap.get? b=some o->((hp1.update S (Obj.mapSeq (·.push Value.none))).update S (Obj.mapSeq (·.pop))).get? b=some o:=
  λb o hb e=>(Yg _ _ (Ne.symm hb)).trans ((Yg _ _ (Ne.symm hb)).trans (k1 b o hb e))
 refine Ze ⟨Up Wg _,?_⟩;have keepS:∀b o,s.heap.get? b=some o->((hp1.update S (Obj.mapSeq (·.push Value.none))).update S (Obj.mapSeq (·.pop))).get? b=some o:=λb o e=>k3 b o (λq=>by have:=Zl e;rw[q,hSS]at this;exact Y5 _ this) e
 have I1:Inv X pins σ (upd H S (.lst [])) { s with heap:=((hp1.update S (Obj.mapSeq (·.push Value.none))).update S (Obj.mapSeq (·.pop)))}:=I.laid (t':=s.toks) (a:=S) (o:=.lst []) keepS (by rw[hSS];exact Zh _) ⟨Yc _,[],_,.nil,hS₃⟩;have sm:Same H (upd H S (.lst [])):=λb o e=>by rw[a0p (a1m e fr)];exact e
 refine c7l (A:=A.in1) (X:=X) (pins:=pins) (σ:=σ) (H0:=H) (xs:=xs) (ys:=ys) hh D ltS hlen fr .none (λs' H' qs I' sm' hS' hl' pr'=>⟨rfl,h s' H' S qs fr I' sm' hS' hl' pr'⟩) xs.length 0 _ _ [] qo (Yc _) I1 (sm.tup hq1) (sm.tup hq2) ⟨.inl ⟨k3 _ _ nz hz,_,_,k3 _ _ (Z0 (ltS TO qz)) hTO⟩,k3 _ _ (Z0 (ltS TI qz)) hTI,h1.at λo e=>k3 _ o (Z0 (ltS i1 qz)) e,h2.at λo e=>k3 _ o (Z0 (ltS i2 qz)) e⟩ (λb hb=>⟨by rw[a0p (Z0 (ltS b hb))];exact(hf b hb).1,(hf b hb).2⟩) sm a0c rfl (λj q x y g _ _=>by simp at g)
end
section
variable{X:Cx}
def b8j(K:W.Frag)(ta:TA):TE:=λσ H Q=>ta σ H λvs H1=>∃a b xs ys,vs=[.ref a,.ref b]/\SqT K H1 a xs/\SqT K H1 b ys/\ys.length=xs.length/\∀p H2 qs,H1 p=none->Same H1 H2->H2 p=some (.lst (qs.map V.ref))->qs.length=xs.length->a7k H2 qs xs ys->Q (.ref p) H2
theorem c1y(K:W.Frag)(hK:X.K=K)(hc:X.calm=true){a b:Expr}{ta:TA}{p1 p2 pos1 pos2:Pos}(hg:Gl X "list")(hm:X.mg "list"=none)(hg2:Gl X "zip")(hm2:X.mg "zip"=none)(ha:PA X [a,b] ta)
  (hs:starEach (a::[b]) X.env=(false,eval a X.env)::starEach [b] X.env:=by rfl)(hpl:(backTo pos2 (starEach [b] X.env)).any (·.1)=false:=by rfl)
  (hs1:starEach [Expr.Call (.Name "zip" p2) [a,b] [] pos2] X.env=[(false,eval (.Call (.Name "zip" p2) [a,b] [] pos2) X.env)]:=by rfl):
  PE X (.Call (.Name "list" p1) [.Call (.Name "zip" p2) [a,b] [] pos2] [] pos1) (b8j K ta):=by
 subst hK;intro pins s σ H Q I h;refine Call_ (a5c I hg hm W7 (Ys ?_ hs1 rfl));rw[hs1]
 show wpAny _ _ (spliced ((false,eval (.Call (.Name "zip" p2) [a,b] [] pos2) X.env)::backTo pos1 (starEach [] X.env))) _ _ s
 refine W6 ?_;refine Call_ (a5c I hg2 hm2 (by decide+kernel:bootBuiltins "zip"=some (.type "zip")) (Ys (thn (ha pos2 pins s σ H _ I h) λus s1 ⟨vs,H1,I1,r1,q1⟩=>?_) hs hpl));obtain⟨l,l',xs,ys,e,hq,hq',hlen,q⟩:=q1;subst e;obtain⟨u,u',rfl,r1,r2⟩:=a8d r1;cases r1;cases r2;obtain⟨its,rv,pl,hz⟩:=I1.tuple hq;obtain⟨its',rv',pl',hz'⟩:=I1.tuple hq';have tl:s1.heap.IsTuple l its.toArray:=pl;have tl':s1.heap.IsTuple l' its'.toArray:=pl';have hlt:l<s1.heap.objs.size:=by obtain⟨o,ho,_⟩:=tl;exact Zl ho
 have hlt':l'<s1.heap.objs.size:=by obtain⟨o,ho,_⟩:=tl';exact Zl ho
 refine c4y tl tl' λh' he hTI hTO hi1 hi2 hsz hk=>?_
 refine Ve ?_;have D:ZipApart (s1.heap.objs.size+4) (s1.heap.objs.size+2) (s1.heap.objs.size+3) s1.heap.objs.size (s1.heap.objs.size+1) l l':=b6c _ _ _ hlt hlt';have I2:Inv X pins σ H1 { s1 with heap:=h'}:=I1.kept (t':=s1.toks) hk;refine b8i (I1.ok.hd hc) D I2 hq hq' hlen he hTI hTO hi1 hi2 (λb hb=>?_) λs' H' p qs fr I' sm hp hl pr=>⟨.ref p,H',I',rfl,q p H' qs fr sm hp hl pr⟩
 have hb:s1.heap.objs.size<=b:=by
  simp only[Zp,Z8,Xn]at hb;rcases hb with rfl|rfl|rfl|rfl|rfl
  ·exact Y9 _ _
  ·exact Y9 _ _
  ·exact Y9 _ _
  ·exact Zh _
  ·exact Y9 _ _
 exact I1.fpOk hb (I1.hok.fresh hb)
theorem c1z{K:W.Frag}{σ:St}{H:Hp}{ta:TA}{Q:VK}(k:ta σ H λvs H1=>∃a b xs ys,vs=[.ref a,.ref b]/\SqT K H1 a xs/\SqT K H1 b ys/\ys.length=xs.length/\∀p H2 qs,H1 p=none->Same H1 H2->H2 p=some (.lst (qs.map V.ref))->qs.length=xs.length->a7k H2 qs xs ys->Q (.ref p) H2):b8j K ta σ H Q:=k
def mSetd:V->List V->Hp->VK->Prop:=λx vs H Q=>∃(a:Addr)(kvs:List (Key×V))(k:Key)(d:V),x=.ref a/\vs=[kV k,d]/\H a=some (.dK kvs)/\kvs.length<sizeLine/\(∀v,valV kvs k=some v->Q v H)/\(valV kvs k=none->Q d (upd H a (.dK (putK kvs k d))))
theorem mm_setd:MtR X "dict.setdefault" mSetd:=by
 intro pins s σ H x vs v us Q I rx rv h;obtain⟨a,kvs,k,d,rfl,rfl,ha,hz,q1,q2⟩:=h;cases rx;obtain⟨u,u',rfl,r1,r2⟩:=a8d rv;obtain⟨z1,d1,vs1,rel,dd⟩:=dk_of I.hok ha;refine Uy Vd dd.typeIs Tw (Tr _ _ _) (kt_meets_setdefault (a1q X.prog X.w) a (b3z r1) d1 u')
  ⟨vs1,dd,by rw[<-rel.length];exact z1,λw' hw=>?_,λhn h' dd' hs=>?_⟩
 ·have hr:=rel.val k;rw[hw]at hr;cases hv:valV kvs k with
  |none=>rw[hv]at hr;cases hr
  |some y=>
   rw[hv]at hr;obtain⟨y',e1,r3⟩:=RelO.some_of hr;cases e1;exact⟨y,H,I.tok _,r3,q1 y hv⟩
 ·have hr:=rel.val k;rw[hn]at hr;cases hv:valV kvs k with
  |some y=>rw[hv]at hr;obtain⟨_,e1,_⟩:=RelO.some_of hr;cases e1
  |none=>
   refine⟨d,_,?_,r2,q2 hv⟩;have hl:(putK kvs k d).length<=sizeLine:=by have:=a6k kvs k d;omega
   have he:∃q,h'.get? a=some q:=let⟨q,_,_,hq,_⟩:=dd';⟨q,hq⟩
   exact b1r I (by rw[ha];exact True.intro) hs he (b7l hl d1 (rel.put k r2) dd')
theorem mSetd_i{a:Addr}{kvs:List (Key×V)}{k:Key}{d y:V}{H:Hp}{Q:VK}(ey:y=kV k)(ha:H a=some (.dK kvs))(hz:kvs.length<sizeLine)(q1:∀v,valV kvs k=some v->Q v H)(q2:valV kvs k=none->Q d (upd H a (.dK (putK kvs k d)))):mSetd (.ref a) [y,d] H Q:=⟨a,kvs,k,d,rfl,by rw[ey],ha,hz,q1,q2⟩
def mNeKs(K:W.Frag):R2:=λx y H Q=>∃(p:Addr)(k1:List Key),x=.ref p/\SqT K H p (k1.map kV)/\((y=.non/\Q (.bl true) H)\/∃(q:Addr)(k2:List Key),y=.ref q/\SqT K H q (k2.map kV)/\Q (.bl (!decide (k1=k2))) H)
theorem ko_neKs(K:W.Frag)(hK:X.K=K)(hu:X.A.units+150<cLine):OpR X (compareOp .NotEq) (mNeKs K):=by
 subst hK;intro pins s σ H x y v u Q I rx ry h;obtain⟨p,k1,rfl,hp,h⟩:=h;cases rx;obtain⟨its,rv,p1,_⟩:=I.tuple hp;rcases h with⟨rfl,k⟩|⟨q,k2,rfl,hq,k⟩
 ·cases ry;exact SeqAt.RcNeAt.tuple_none (show s.heap.IsTuple p its.toArray from p1) qo X.prog X.w _ _ ⟨.bl true,H,I,rfl,k⟩
 cases ry;obtain⟨its',rv',p2,_⟩:=I.tuple hq;have l1:=rv.length;have l2:=rv'.length;rw[length_map]at l1 l2;refine Vl (e:=λj=>decide (k1[j]? =k2[j]?)) (show s.heap.IsTuple p its.toArray from p1) (show s.heap.IsTuple q its'.toArray from p2) qo (λj h1 h2=>?_) X.prog X.w _ _ ?_
 ·have g1:j<its.length:=by simpa using h1
  have g2:j<its'.length:=by simpa using h2
  have j1:j<k1.length:=by omega
  have j2:j<k2.length:=by omega
  obtain⟨w1,y1,z1⟩:=rv.get (show(k1.map kV)[j]? =some (kV k1[j]) by rw[Zz,Za j1];rfl);obtain⟨w2,y2,z2⟩:=rv'.get (show(k2.map kV)[j]? =some (kV k2[j]) by rw[Zz,Za j2];rfl);have q1:its.toArray[j]=w1:=by
   have:=Za g1;rw[y1]at this
   simpa using(Zk this).symm
  have q2:its'.toArray[j]=w2:=by
   have:=Za g2;rw[y2]at this
   simpa using(Zk this).symm
  rw[q1,q2];have e0:decide (k1[j]? =k2[j]?)=decide (k1[j]=k2[j]):=by rw[Za j1,Za j2];exact Xx.mpr ⟨λh=>Zk h,λh=>by rw[h]⟩
  rw[e0];exact a1z z1 z2
 ·rw[Zd,Zd,<-l1,<-l2,all_eq];exact⟨.bl _,H,I,rfl,k⟩
end
section
variable{X:Cx}
def mSumA(K:W.Frag):List V->Hp->VK->Prop:=λvs H Q=>∃(p:Addr)(ns:List Int),vs=[.ref p]/\SqL K H p (ns.map V.int)/\Q (.int ns.sum) H
theorem kc_sumA(K:W.Frag)(hK:X.K=K)(hc:X.calm=true):a2k X (.builtin "sum") (mSumA K):=by
 subst hK;intro pins s σ H xs us Q I r h;obtain⟨p,ns,rfl,hs,q⟩:=h;obtain⟨u,rfl,r1⟩:=vals1 r;cases r1;obtain⟨its,rv,pl,hz⟩:=I.list hs;have hi:IntsAre its ns:=intsAre_of rv;have hlen:its.length=ns.length:=hi.length;have hl:p<s.heap.objs.size:=by
  obtain⟨o,n,h1,_⟩:=pl;exact Zl h1
 refine call_sum_walkG (W8 pl.isList ?_)
 refine⟨s.heap.objs.size,[s.heap.objs.size,p],[s.heap.objs.size],its.toArray.size,_,_,λi=>ns.getD i 0,rfl,Walks.list (A:=X.A.in1) (show X.A.in1.handled=none from I.ok.hd hc) s.heap.objs.size p (Z0 hl) its.toArray,
  ⟨⟨_,Zj _ rfl,rfl,rfl⟩,pl.isList.at λo e=>Zc _ e⟩,λb hb=>?_,λi v hv=>?_,λh' tk t' hk=>?_⟩
 ·rw[Yd];simp only[Zp,Z8,Xn]at hb;rcases hb with rfl|rfl
  ·exact Vg _
  ·exact Vb hl
 ·have hv:its.toArray[i]? =some v:=hv
  rw[Ui]at hv;have hil:i<ns.length:=by
   have:=(Z3.mp hv).1;omega
  have x1:(ns.map V.int)[i]? =some (.int ns[i]):=by rw[Zz,Za hil];rfl
  obtain⟨w,e1,e2⟩:=rv.get x1;rw[e1]at hv;cases hv;obtain⟨t,rfl⟩:=e2;refine⟨t,?_⟩
  show Value.int ns[i] t=Value.int (ns.getD i 0) t
  rw[Zm,Za hil];rfl
 ·have e:preSum (λi=>ns.getD i 0) its.toArray.size=ns.sum:=by
   rw[Zd,hlen,preSum_eq ns _ (Zh _),V4]
  rw[e];refine⟨.int _,H,I.kept (λb o e=>hk b o ?_ (Zc _ e)),⟨_,rfl⟩,q⟩;intro z;have z:b=s.heap.objs.size:=by simpa using z
  exact absurd (Zl e) (by rw[z];exact Y5 _)
end
theorem c2a:typeLookup (.type "list_reverseiterator") "__len__"=pure none:=by rw[Xh,Yt];kernel_rfl
theorem c7m:typeLookup (.type "list_reverseiterator") "__length_hint__"=pure (some (.builtin "list_reverseiterator.__length_hint__")):=by rw[Xh,Yt];kernel_rfl
theorem c4z:typeLookup (.type "reversed") "__len__"=pure none:=by rw[Xh,Yt];kernel_rfl
theorem b3h:Manifest.owners.lookup (String.ofList ['d','e','s','r','e','v','e','r'].reverse)=some Manifest.sig_reversed:=by kernel_rfl
theorem a4s:Slot "reversed" "__next__" "reversed.__next__":=
 .of (owner:="reversed") (n:="__next__") (by rw[Xh,Yt];kernel_rfl) qk qk qk
  (by first|exact .inl (by decide+kernel)|exact .inr qk) (by rw[Wi];kernel_rfl)
theorem b0m:entryFor table "reversed.__next__"=some Builtin.«reversed.__next__»:=entryFor_of_tree (by kernel_rfl)
theorem a8z(a:Value):argsOk "reversed.__next__" ⟨[a],[]⟩:=by
 unfold argsOk;rw[signature?_of (id:="reversed.__next__") (n:=['_','_','t','x','e','n','_','_']) (o:=['d','e','s','r','e','v','e','r']) (by kernel_rfl) b3h];kernel_rfl
theorem b0v:Slot "reversed" "__iter__" "reversed.__iter__":=
 .of (owner:="reversed") (n:="__iter__") (by rw[Xh,Yt];kernel_rfl) qk qk qk
  (by first|exact .inl (by decide+kernel)|exact .inr qk) (by rw[Wi];kernel_rfl)
theorem b5e(a:Value):argsOk "reversed.__iter__" ⟨[a],[]⟩:=by
 unfold argsOk;rw[signature?_of (id:="reversed.__iter__") (n:=['_','_','r','e','t','i','_','_']) (o:=['d','e','s','r','e','v','e','r']) (by kernel_rfl) b3h];kernel_rfl
theorem b6q:entryFor table "reversed.__iter__"=some Builtin.«dict_keyiterator.__iter__»:=
 entryFor_alias (id':="dict_keyiterator.__iter__") (by kernel_rfl) (by first|rfl|decide+kernel| (unfold String.splitOn;simp+decide [String.splitOnAux])) qk (by kernel_rfl)
theorem a7u:Slot "reversed" "__length_hint__" "reversed.__length_hint__":=
 .of (owner:="reversed") (n:="__length_hint__") (by rw[Xh,Yt];kernel_rfl) qk qk qk
  (by first|exact .inl (by decide+kernel)|exact .inr qk) (by rw[Wi];kernel_rfl)
theorem b6r:entryFor table "reversed.__length_hint__"=some Builtin.«reversed.__length_hint__»:=entryFor_of_tree (by kernel_rfl)
theorem b5f(a:Value):argsOk "reversed.__length_hint__" ⟨[a],[]⟩:=by
 unfold argsOk;rw[signature?_of (id:="reversed.__length_hint__") (n:="__length_hint__".toList.reverse) (o:=['d','e','s','r','e','v','e','r']) (by kernel_rfl) b3h];kernel_rfl
theorem b8k:Slot "reversed" "__init__" "object.__init__":=
 .of (owner:="object") (n:="__init__") (by rw[Xh,Yt];kernel_rfl) qk qk qk
  (by first|exact .inl (by decide+kernel)|exact .inr qk) (by rw[Wi];kernel_rfl)
theorem c5a:TypeCalled "reversed" "reversed.__new__" "object.__init__":=
 ⟨qk,qk,⟨_,_,F.mro_reversed⟩,madeBy_type F.mro_reversed F.lookup_reversed_new qk,qk,by rw[Wi];kernel_rfl,b8k⟩
theorem c2b:typeLookup (.type "tuple") "__reversed__"=pure none:=by rw[Xh,Yt];kernel_rfl
def IsRv(h:Heap)(a t:Addr)(i:Int):Prop:=∃o,h.get? a=some o/\o.cls=.type "reversed"/\o.data=.fields #[.ref t,rawInt i]
theorem IsRv.typeIs{s:Shared}{a t:Addr}{i:Int}(x:IsRv s.heap a t i):s.TypeIs (.ref a) "reversed":=let⟨o,ho,hc,_⟩:=x;⟨o,ho,hc⟩
theorem IsRv.at{h h':Heap}{a l:Addr}{i:Int}(x:IsRv h a l i)(e:∀o,h.get? a=some o->h'.get? a=some o):IsRv h' a l i:=let⟨o,ho,r⟩:=x;⟨o,e _ ho,r⟩
def b4m(t:Addr)(i:Int):Obj:={ cls:=.type "reversed",data:=.fields #[.ref t,rawInt i]}
theorem c5b(t:Addr)(items:Array Value)(hn:(items.size:Int)<2^63):
  Meets (Builtin.«reversed.__new__» ⟨[.type "reversed",.ref t],[]⟩) (λ_ R s=>IsTup s.heap t items/\∀tk,R (.ok (.ret (.ref s.heap.objs.size))) { s with heap:=s.heap.push (b4m t ((items.size:Int)-1)),toks:=tk}):=
 .of_wp λprog w A R s h=>by
  obtain⟨ht,h⟩:=h;unfold Builtin.«reversed.__new__»;refine Zb (Wv (newClass_reversed _) ?_)
  try dsimp only
  refine Zb (Wv (a:=()) (by first|rfl|kernel_rfl) ?_);refine Zb (Wv (a:=()) (by first|rfl|kernel_rfl) ?_)
  try dsimp only
  refine Zb (Xg ht.typeIs c2b ?_)
  try dsimp only
  refine Zb ?_
  show wpAny _ _ (isInstance (Value.ref t) (.type "dict")>>=_) _ _ _
  refine Zb (Wh (T:="tuple") (b:=false) ht.typeIs (by rw[Wi];kernel_rfl) ?_);refine Yv (λhab=>absurd hab qd) (λ_=>?_);refine Zb (Xg ht.typeIs Uq.lookup ?_);refine Yv (λ_=>?_) (λhab=>absurd qk hab);refine Ze ?_;refine Yv (λhab=>absurd hab qd) (λ_=>?_);refine Zb (len_tuple ht hn ?_);refine Zb (m:=asInt? _) (Ze ?_);refine Zb ?_
  show wpAny _ _ (newObj (.type "reversed") (.fields #[.ref t,rawInt ((items.size:Int)-1)])) _ _ _
  refine Y4 (Ze ⟨_,rfl,?_⟩);exact h _
section
variable{prog:Program}{w:World}{A:Around}{E:Value->Shared->Prop}{s:Shared}
theorem b2m{t:Addr}{items:Array Value}{Q:Value->Shared->Prop}(ht:IsTup s.heap t items)(hn:(items.size:Int)<2^63)
  (h:∀tk,Q (.ref s.heap.objs.size) { s with heap:=s.heap.push (b4m t ((items.size:Int)-1)),toks:=tk}):wpAny (model prog w) A (call (.type "reversed") [.ref t]) Q E s:=by
 refine T0 c5a qd (F.typeCall_reversed_1 _) (F.newCall_reversed_1 _) (λobj=>F.args_object_init_2 obj _) F.entry_reversed_new (c5b t items hn) ⟨ht,λtk=>?_⟩;exact⟨⟨_,Zj _ rfl,rfl⟩,h tk⟩
theorem b8l{it t:Addr}{i:Nat}{items:Array Value}{x:Value}{Q:Option Value->Shared->Prop}(hit:IsRv s.heap it t (i:Int))(ht:IsTup s.heap t items)(hi:(i:Int)<2^63)(hx:items[i]? =some x)
  (hQ:∀h' tk,IsRv h' it t ((i:Int)-1)->Heap.SameBut it s.heap h'->Q (some x) { s with heap:=h',toks:=tk}):wpAny (model prog w) A (pyNext (.ref it)) Q E s:=by
 obtain⟨o,ho,hc,hd⟩:=id hit;unfold pyNext
 refine Zb (Xv (wpAny_callSpecial?_slot (name:=ofString "__next__") hit.typeIs a4s
  (Yn a4s hit.typeIs b0m ?_ (a8z _))))
 unfold Builtin.«reversed.__next__»;refine Zb (Wv (a:=(Value.ref it,[])) rfl ?_)
 try dsimp only
 refine Zb (Z5 ho hd (x:=.ref t) rfl ?_);refine Zb (Z5 ho hd (x:=rawInt (i:Int)) rfl ?_)
 show wpAny _ _ (if(i:Int)<0 then _ else _) _ _ s
 rw[if_neg qo];refine Zb (Xg ht.typeIs Uq.lookup ?_);refine Yv (λhab=>absurd hab qd) (λ_=>?_);refine Zb (wpAny_mkInt ?_);have hlt:i<items.size:=by
  rcases Nat.lt_or_ge i items.size with z|z
  ·exact z
  ·rw[Array.getElem?_eq_none z]at hx;cases hx
 have hj:seqIndex? (i:Int) items.size=some i:=by
  unfold seqIndex?
  simp
  omega
 refine Zb (Xv (getItem_tuple (s:={ s with toks:=s.toks+1}) (j:=i) ht qo hi hj hx ?_));refine Zb (Z5 ho hd (x:=rawInt (i:Int)) rfl ?_)
 show wpAny _ _ (setField (.ref it) 1 (rawInt ((i:Int)-1))>>=λ_=>ret x) _ _ _
 refine Zb (Vn ho hd qz ?_);refine Ze ⟨x,rfl,Ze (hQ _ _ ?_ (Wf ..))⟩
 exact⟨_,Yl _ ho (Ue (Wm hd _)),(Obj.cls_mapFields ..).trans hc,by
  rw[Wm hd];simp⟩
theorem b9o{it t:Addr}{Q:Option Value->Shared->Prop}(hh:A.handled=none)(hit:IsRv s.heap it t (-1))
  (hQ:∀h',Heap.ExtBut it s.heap h'->Q none { s with heap:=h'}):wpAny (model prog w) A (pyNext (.ref it)) Q E s:=by
 obtain⟨o,ho,hc,hd⟩:=id hit;unfold pyNext
 refine Zb (Xv (wpAny_callSpecial?_slot (name:=ofString "__next__") hit.typeIs a4s
  (Yn a4s hit.typeIs b0m ?_ (a8z _))))
 unfold Builtin.«reversed.__next__»;refine Zb (Wv (a:=(Value.ref it,[])) rfl ?_)
 try dsimp only
 refine Zb (Z5 ho hd (x:=.ref t) rfl ?_);refine Zb (Z5 ho hd (x:=rawInt (-1)) rfl ?_)
 show wpAny _ _ (if(-1:Int)<0 then _ else _) _ _ s
 rw[if_pos qd];refine Zb (Wl ?_);refine Zb ?_
 show wpAny _ _ (setField (.ref it) 1 (rawInt (-1))>>=λ_=>setField (.ref it) 0 .none) _ _ _
 refine Zb (Vn ho hd qz ?_);have ho1:=Yl (Obj.mapFields (·.setIfInBounds 1 (rawInt (-1)))) ho (Ue (Wm hd _));have hd1:(Obj.mapFields (λx=>x.setIfInBounds 1 (rawInt (-1))) o).data=.fields #[.ref t,rawInt (-1)]:=by rw[Wm hd];simp
 refine Vn ho1 hd1 qz ?_;refine Zb ?_
 show wpAny _ _ (newExc (.type "StopIteration") []>>=_) _ _ _
 refine Zb ?_;simp only[newExc,newTuple];refine Zb (Y4 ?_ (by size_fits));refine Zb (m:=firstArgMember _ _) (Wv (a:=Value.none) (by first|rfl| (simp only[firstArgMember];rfl)) ?_);refine Y4 ?_ (by size_fits);simp only[raiseNew];refine Zb (wpAny_handled ?_)
 first|rw[show A.in1.handled=none from hh]|rw[hh]
 refine Zb (Ze (wpAny_throw ?_));refine Zb (Wh (T:="StopIteration") (b:=true) ⟨_,Zj _ rfl,rfl⟩ Uj ?_);refine Ze (hQ _ (λb u hb e=>?_));exact Zc _ (Zc _ ((Yg _ _ (Ne.symm hb)).trans ((Yg _ _ (Ne.symm hb)).trans e)))
theorem iter_rv{it t:Addr}{i:Int}{Q:Value->Shared->Prop}(hit:IsRv s.heap it t i)(h:Q (.ref it) s):wpAny (model prog w) A (pyIter (.ref it)) Q E s:=by
 refine wpAny_pyIter_slot hit.typeIs b0v (Yn b0v hit.typeIs b6q ?_ (b5e _))
 show wpAny _ _ (ret (.ref it)) _ _ s
 exact Ze ⟨_,rfl,"reversed",_,hit.typeIs,a4s.lookup,h⟩
theorem c7n{r:Addr}{Q:Bool->Shared->Prop}(hT:s.TypeIs (.ref r) "list_reverseiterator")(h:Q false s):wpAny (model prog w) A (Builtin.List.listLengthHint (.ref r)) Q E s:=by
 unfold Builtin.List.listLengthHint;refine Zb (Xg hT c2a ?_)
 show wpAny _ _ (specialOf (Value.ref r) (ofString "__length_hint__")>>=_) _ _ _
 refine Zb (Xg hT c7m ?_);generalize hid:("list_reverseiterator.__length_hint__":String)=id0
 wp_delta
 rw[show splitId id0=some ("list_reverseiterator","__length_hint__")from by subst hid;decide+kernel];subst hid;refine Zb (Wh (T:="list_reverseiterator") (b:=true) hT (by rw[Wi];kernel_rfl) ?_);refine Yv (λhab=>absurd hab qd) (λ_=>?_);refine Yv (λ_=>?_) (λhab=>absurd qk hab);refine Yv (λhab=>absurd hab qk) (λ_=>?_);exact Ze h
theorem hint_rv{r t:Addr}{i:Int}{items:Array Value}{Q:Bool->Shared->Prop}(hit:IsRv s.heap r t i)(ht:IsTup s.heap t items)(hi:i=(items.size:Int)-1)(hn:items.size<=2^24)(h:∀b tk,Q b { s with toks:=tk}):wpAny (model prog w) A (Builtin.List.listLengthHint (.ref r)) Q E s:=by
 have hT:=hit.typeIs;obtain⟨o,ho,hc,hd⟩:=id hit;unfold Builtin.List.listLengthHint;refine Zb (Xg hT c4z ?_)
 show wpAny _ _ (specialOf (Value.ref r) (ofString "__length_hint__")>>=_) _ _ _
 refine Zb (Xg hT a7u.lookup ?_);generalize hid:("reversed.__length_hint__":String)=id0
 wp_delta
 rw[show splitId id0=some ("reversed","__length_hint__")from by subst hid;decide+kernel];subst hid;refine Zb (Wh (T:="reversed") (b:=true) hT (by rw[Wi];kernel_rfl) ?_);refine Yv (λhab=>absurd hab qd) (λ_=>?_);refine Yv (λhab=>absurd hab qk) (λ_=>?_);refine Zb (Wl ?_);refine Zb (Wv (a7u.bind _) ?_);refine Zb (Xv (Yn a7u hT b6r ?_ (b5f _)));unfold Builtin.«reversed.__length_hint__»;refine Zb (Wv (a:=Value.ref r) rfl ?_);refine Zb (Z5 ho hd (x:=.ref t) rfl ?_);refine Yv (λhab=>absurd hab Zn) (λ_=>?_);refine Zb (len_tuple ht qo ?_);refine Zb (m:=asInt? _) (Ze ?_);refine Zb (Z5 ho hd (x:=rawInt i) rfl ?_)
 show wpAny _ _ (if(items.size:Int)<i+1 then _ else _) _ _ _
 rw[if_neg qo];refine Zb (wpAny_mkInt (Ze ⟨_,rfl,?_⟩));refine Zb (m:=asInt? _) (Ze ?_);have e1:Builtin.List.listFitsIndex (i+1)=true:=by simp[Builtin.List.listFitsIndex];omega
 have e2:Builtin.List.listTooLong (i+1).toNat=false:=by simp[Builtin.List.listTooLong,Yh];omega
 refine Yv (λhab=>absurd hab (by rw[e1];decide)) (λ_=>?_);refine Yv (λhab=>absurd hab qo) (λ_=>?_);refine Yv (λhab=>absurd hab (by rw[e2];decide)) (λ_=>?_);exact Ze (h _ _)
theorem c7o(hh:A.handled=none)(I t:Addr)(hne:t≠I)(items:Array Value)(hn:items.size<=2^24):
  Walks prog w A I [I,t] [I] items.size (λi v=>items[items.size-1-i]? =some v) (λi h=>i<=items.size/\IsRv h I t ((items.size:Int)-1-(i:Int))/\IsTup h t items) where
 sub:=λb hb=>by simp at hb;simp[hb]
 frame:=λ_ _ _ x hk=>⟨x.1,x.2.1.at λo e=>hk I qz o e,let⟨o,ho,r⟩:=x.2.2;⟨o,hk t qz o ho,r⟩⟩
 item:=λi s Q E hi x hQ=>by
  have e:(items.size:Int)-1-(i:Int)=((items.size-1-i:Nat):Int):=by omega
  have hit:=x.2.1;rw[e]at hit;have hx:items[items.size-1-i]? =some (items[items.size-1-i]'(by omega)):=Wz qo
  refine b8l hit x.2.2 qo hx λh' tk hit' hs'=>?_
  have e2:((items.size-1-i:Nat):Int)-1=(items.size:Int)-1-((i+1:Nat):Int):=by omega
  rw[e2]at hit';exact hQ _ h' tk hx ⟨hi,hit',let⟨o,ho,r⟩:=x.2.2;⟨o,(hs'.2 t hne).trans ho,r⟩⟩ λb o hb eo=>hs'.extBut b o (λh=>hb (by simp[h])) eo
 done:=λs Q E x hQ=>by
  have e:(items.size:Int)-1-(items.size:Int)= -1:=by omega
  have hit:=x.2.1;rw[e]at hit;exact b9o hh hit λh' he'=>hQ h' s.toks λb o hb eo=>he' b o (λh=>hb (by simp[h])) eo
 self:=λ_ _ _ _ x hQ=>iter_rv x.2.1 hQ
theorem b0w{Q:Value->Shared->Prop}{T:String}{I:Addr}{fp wr:List Addr}{n:Nat}{P:Nat->Value->Prop}{St:Nat->Heap->Prop}(W:Walks prog w A.in1.in1 I fp wr n P St)(hn:n<=sizeLine)
  (hT:∀(s':Shared),St 0 s'.heap->s'.TypeIs (.ref I) T)(h2:(Value.type T==Value.type "list")=false)(h3:(Value.type T==Value.type "tuple")=false)
  (hint:∀{A':Around}{E':Value->Shared->Prop}(s':Shared)(Q':Bool->Shared->Prop),St 0 s'.heap->(∀b tk,Q' b { s' with toks:=tk})->wpAny (model prog w) A' (Builtin.List.listLengthHint (.ref I)) Q' E' s')
  (hst:St 0 s.heap)(hfp:∀b∈fp,b<s.heap.objs.size)(hI:I∈fp)
  (hQ:∀h' tk acc' c',(∀b o,b∉wr->s.heap.get? b=some o->h'.get? b=some o)->
   h'.get? s.heap.objs.size=some { cls:=.type "list",dict:=none,data:=.seq acc' c',slots:=#[]}->ItemsOf P acc' n->Q (.ref s.heap.objs.size) { s with heap:=h',toks:=tk}):
  wpAny (model prog w) A (call (.type "list") [.ref I]) Q E s:=by
 have hSf:s.heap.objs.size∉fp:=λhm=>Y5 _ (hfp _ hm)
 have hSI:s.heap.objs.size≠I:=λe=>hSf (e▸hI)
 refine callType_codes (Q₁:=λobj s₁=>obj=.ref s.heap.objs.size/\s₁={ s with heap:=s.heap.push { cls:=.type "list",data:=.seq #[]}}) F.called_list (F.typeCall_list_1 _) F.entry_list_init
  (code_list_new _ ⟨rfl,rfl⟩) λobj s₁ h₁=>?_
 obtain⟨rfl,rfl⟩:=h₁;have hS:(s.heap.push { cls:=.type "list",data:=.seq #[]}).get? s.heap.objs.size=some { cls:=.type "list",data:=.seq #[]}:=Zj _ rfl;refine⟨⟨_,hS,rfl⟩,Rj _ _,?_⟩;generalize hSS:s.heap.objs.size=S at hS hSf hSI hQ ⊢
 show wpAny _ _ (do let old <-Builtin.List.listItems (.ref S);Builtin.List.listUpdate (.ref S) (λ_=>#[]);letGo old.toList.reverse;Builtin.List.listExtendWith (.ref S) (.ref I) .none) _ _ _
 refine Zb ?_;unfold Builtin.List.listItems;refine Zb (Yx hS rfl (Ze ?_))
 show wpAny _ _ (updateSeq S (λ_=>#[])>>=λ_=>letGo (#[]:Array Value).toList.reverse>>=λ_=>Builtin.List.listExtendWith (.ref S) (.ref I) .none) _ _ _
 refine Zb (Wb hS rfl ?_);have hS₁:=Yl (Obj.mapSeq (λ_=>(#[]:Array Value))) hS rfl;have k1:∀b o,b≠S->s.heap.get? b=some o->((s.heap.push { cls:=.type "list",data:=.seq #[]}).update S (Obj.mapSeq (λ_=>(#[]:Array Value)))).get? b=some o:=
  λb o hb e=>(Yg _ _ (Ne.symm hb)).trans (Zc _ e)
 refine Zb (Vw ?_);generalize ((s.heap.push { cls:=.type "list",data:=.seq #[]}).update S (Obj.mapSeq (λ_=>(#[]:Array Value))))=hp1 at hS₁ k1 ⊢;have neS:∀b∈fp,b≠S:=λb hb e=>hSf (e▸hb)
 have st1:St 0 hp1:=W.frame 0 _ _ hst λb hb o e=>k1 b o (neS b hb) e
 unfold Builtin.List.listExtendWith;refine Zb (V7 (hT { s with heap:=hp1} st1) ?_);have g1:Builtin.List.listSameRef (.ref S) (.ref I)=false:=by simp[Builtin.List.listSameRef,hSI]
 simp only[g1,h2,h3,Tt,X9,W9];refine Zb (W.self 0 { s with heap:=hp1} _ _ st1 ?_);refine Zb (Xm (hint { s with heap:=hp1} _ st1 λb tk=>?_));have key:∀(h:Heap)(c₁:Nat),(∀b o,b≠S->s.heap.get? b=some o->h.get? b=some o)->h.get? S=some { cls:=.type "list",data:=.seq #[] c₁}->
   codeAny (model prog w) A.in1 (.builtin "list.extend.loop" ⟨[.ref S,.ref I,.none],[]⟩) (wants (λr s'=>r=.none/\Q (.ref S) s') E) { s with heap:=h,toks:=tk}:=by
  intro h c₁ hk hS₂;refine codeAny_extend_loopS W.toS hn S hSf .none n 0 _ #[] c₁ rfl (Yc _) (W.frame 0 _ _ hst λb hb o e=>hk b o (neS b hb) e) hS₂ (ItemsOf.nil _) λs' acc' c' hm hS' hacc=>?_
  rw[Moved.eq_with hm];refine⟨rfl,hQ s'.heap s'.toks acc' c' (λb o hb e=>hm.heap b o (λhmem=>?_) (hk b o (λz=>?_) e)) hS' hacc⟩
  ·rcases Zp.mp hmem with e'|hmem
   ·have:=Zl e;rw[e',hSS]at this;exact Y5 _ this
   ·exact hb hmem
  ·have:=Zl e;rw[z,hSS]at this;exact Y5 _ this
 refine Yv (λ_=>?_) (λ_=>Ze ⟨Up Wg _,key _ _ k1 hS₁⟩);refine Zb (Wl ?_);refine Zb ?_
 show wpAny _ _ (updateSeq S (·.push .none)>>=λ_=>updateSeq S (·.pop)) _ _ _
 refine Zb (Wb hS₁ rfl ?_);have hS₂:=Yl (Obj.mapSeq (·.push Value.none)) hS₁ rfl;refine Wb (hz:=by seq_fits) hS₂ rfl ?_;have hS₃:=Yl (Obj.mapSeq (·.pop)) hS₂ rfl;exact Ze ⟨Up Wg _,key _ _ (λb o hb e=>(Yg _ _ (Ne.symm hb)).trans ((Yg _ _ (Ne.symm hb)).trans (k1 b o hb e))) hS₃⟩
end
theorem c5c{its:List Value}{acc:Array Value}(h:ItemsOf (λi v=>its.toArray[its.toArray.size-1-i]? =some v) acc its.toArray.size):acc=its.reverse.toArray:=by
 obtain⟨h1,h2⟩:=h
 apply Array.ext'
 rw[List.toList_toArray]
 apply List.ext_getElem?
 intro j;have hs:acc.toList.length=its.length:=by rw[Xf,h1,Zd]
 by_cases hj:j<its.length
 ·have hj':j<acc.size:=by rw[<-Xf];omega
  have e:=h2 j acc[j] (Wz hj');rw[List.getElem?_reverse hj,Wq,Wz hj'];rw[Zd,Ui]at e;exact e.symm
 ·rw[Wa qo,Wa (by rw[W0];omega)]
section
variable{X:Cx}
def b8m(K:W.Frag)(ta:TA):TE:=λσ H Q=>ta σ H λvs H1=>∃a xs,vs=[.ref a]/\(SqL K H1 a xs\/SqT K H1 a xs)/\xs.length<=100000/\∀p,H1 p=none->Q (.ref p) (upd H1 p (.lst xs.reverse))
theorem b4n(K:W.Frag)(hK:X.K=K)(hc:X.calm=true){a:Expr}{ta:TA}{p1 p2 pos1 pos2:Pos}(hg:Gl X "list")(hm:X.mg "list"=none)(hg2:Gl X "reversed")(hm2:X.mg "reversed"=none)(ha:PA X [a] ta)
  (hs:starEach [a] X.env=[(false,eval a X.env)]:=by rfl)
  (hs1:starEach [Expr.Call (.Name "reversed" p2) [a] [] pos2] X.env=[(false,eval (.Call (.Name "reversed" p2) [a] [] pos2) X.env)]:=by rfl):
  PE X (.Call (.Name "list" p1) [.Call (.Name "reversed" p2) [a] [] pos2] [] pos1) (b8m K ta):=by
 subst hK;intro pins s σ H Q I h;refine Call_ (a5c I hg hm W7 (Ys ?_ hs1 rfl));rw[hs1]
 show wpAny _ _ (spliced ((false,eval (.Call (.Name "reversed" p2) [a] [] pos2) X.env)::backTo pos1 (starEach [] X.env))) _ _ s
 refine W6 ?_;refine Call_ (a5c I hg2 hm2 boot_reversed (Ys (thn (ha pos2 pins s σ H _ I h) λus s1 ⟨vs,H1,I1,r1,q1⟩=>?_) hs rfl));obtain⟨l,xs,e,hq,hlen,q⟩:=q1;subst e;have fin:∀(its:List Value)(h':Heap)(tk:Nat)(acc':Array Value)(c':Nat),Vals xs its->(∀b o,s1.heap.get? b=some o->h'.get? b=some o)->h'.get? (s1.heap.objs.size+1)=some { cls:=.type "list",dict:=none,data:=.seq acc' c',slots:=#[]}->ItemsOf (λi v=>its.toArray[its.toArray.size-1-i]? =some v) acc' its.toArray.size->EP X pins σ Q (.ref (s1.heap.objs.size+1)) { s1 with heap:=h',toks:=tk}:=by
  intro its h' tk acc' c' rv hk hS hacc;have ea:=c5c hacc;subst ea;have fr:H1 (s1.heap.objs.size+1)=none:=I1.hok.fresh (Y9 _ _);refine⟨.ref _,upd H1 (s1.heap.objs.size+1) (.lst xs.reverse),I1.laid (t':=tk) hk (Y9 _ _) ⟨by rw[W0,Yh];omega,its.reverse,c',rv.reverse,hS⟩,rfl,q _ fr⟩
 have keepA:∀(o0:Obj)(h':Heap),(∀b o,b∉[s1.heap.objs.size]->(s1.heap.push o0).get? b=some o->h'.get? b=some o)->∀b o,s1.heap.get? b=some o->h'.get? b=some o:=λo0 h' hk b o e=>hk b o (λz=>by
  rw[Zs.mp z]at e
  exact Y5 _ (Zl e)) (Zc _ e)
 cases r1 with
 |cons r rr=>
  cases rr;cases r;rcases hq with hq|hq
  ·obtain⟨its,rv,pl,hz⟩:=I1.list hq;have hlen':=rv.length;have hL:s1.heap.IsList l its.toArray:=pl.isList;have hlt:l<s1.heap.objs.size:=by obtain⟨o,ho,_⟩:=hL;exact Zl ho
   refine call_reversed_list hL ?_;refine Ve ?_;have zz:(s1.heap.push (revObj l ((its.toArray.size:Int)-1))).objs.size=s1.heap.objs.size+1:=Yd ..;have st0:0<=its.toArray.size/\(s1.heap.push (revObj l ((its.toArray.size:Int)-1))).IsRevIter s1.heap.objs.size l ((its.toArray.size:Int)-1-((0:Nat):Int))/\(s1.heap.push (revObj l ((its.toArray.size:Int)-1))).IsList l its.toArray:=by
    refine⟨Yc _,?_,hL.at λo e=>Zc _ e⟩;have e1:(its.toArray.size:Int)-1-((0:Nat):Int)=(its.toArray.size:Int)-1:=by omega
    rw[e1];exact⟨_,Zj _ rfl,rfl,rfl⟩
   have W:=Walks.listRev (prog:=X.prog) (w:=X.w) (A:=X.A.in1.in1) (I1.ok.hd hc) s1.heap.objs.size l (Z0 hlt) its.toArray;refine b0w (T:="list_reverseiterator") W (by rw[Zd,<-hlen',Yh];omega) (λs' st=>st.2.1.typeIs) qd qd (λs' Q' st k=>c7n st.2.1.typeIs (k false s'.toks)) st0 (λb hb=>?_) qz (λh' tk acc' c' hk hS hacc=>?_)
   ·rw[zz];simp only[Zp,Z8,Xn]at hb;rcases hb with rfl|rfl
    ·exact Vg _
    ·exact Vb hlt
   ·rw[zz]at hS ⊢;exact fin its h' tk acc' c' rv (keepA _ h' hk) hS hacc
  ·obtain⟨its,rv,pl,hz⟩:=I1.tuple hq;have hlen':=rv.length;have hlt:l<s1.heap.objs.size:=pl.lt;refine b2m pl (by rw[Zd,<-hlen'];omega) (λtk0=>?_);refine Ve ?_;have zz:(s1.heap.push (b4m l ((its.toArray.size:Int)-1))).objs.size=s1.heap.objs.size+1:=Yd ..;have st0:0<=its.toArray.size/\IsRv (s1.heap.push (b4m l ((its.toArray.size:Int)-1))) s1.heap.objs.size l ((its.toArray.size:Int)-1-((0:Nat):Int))/\IsTup (s1.heap.push (b4m l ((its.toArray.size:Int)-1))) l its.toArray:=by
    refine⟨Yc _,?_,pl.push _⟩;have e1:(its.toArray.size:Int)-1-((0:Nat):Int)=(its.toArray.size:Int)-1:=by omega
    rw[e1];exact⟨_,Zj _ rfl,rfl,rfl⟩
   have hsz:its.toArray.size<=2^24:=by rw[Zd,<-hlen'];omega
   have W:=c7o (prog:=X.prog) (w:=X.w) (A:=X.A.in1.in1) (I1.ok.hd hc) s1.heap.objs.size l (Z0 hlt) its.toArray hsz;refine b0w (T:="reversed") W (by rw[Zd,<-hlen',Yh];omega) (λs' st=>st.2.1.typeIs) qd qd (λs' Q' st k=>hint_rv st.2.1 st.2.2 qo hsz k) st0 (λb hb=>?_) qz (λh' tk acc' c' hk hS hacc=>?_)
   ·rw[zz];simp only[Zp,Z8,Xn]at hb;rcases hb with rfl|rfl
    ·exact Vg _
    ·exact Vb hlt
   ·rw[zz]at hS ⊢;exact fin its h' tk acc' c' rv (keepA _ h' hk) hS hacc
theorem c2c{K:W.Frag}{σ:St}{H:Hp}{ta:TA}{Q:VK}(k:ta σ H λvs H1=>∃a xs,vs=[.ref a]/\(SqL K H1 a xs\/SqT K H1 a xs)/\xs.length<=100000/\∀p,H1 p=none->Q (.ref p) (upd H1 p (.lst xs.reverse))):b8m K ta σ H Q:=k
end
section
variable{X:Cx}{pos:Pos}{e e2:Expr}{te te2:TE}
def tF2n(a:Str)(te:TE):TE:=λσ H Q=>te σ H λx H1=>∃i:Int,x=.int i/\i.natAbs.log2<1920/\(ofString (toString i)).length<=1000/\Q (.str (a++ofString (toString i))) H1
theorem pe_f2n{a:Str}{j1 p1 p2}(he:PE X e te)(ha:a.length<=1000:=by decide+kernel):PE X (.JoinedStr [.Constant (.str a) j1 p1,.FormattedValue e (-1) none p2] pos) (tF2n a te):=by
 intro pins s σ H Q I h;have z9:100000<=sizeLine:=by decide
 have ea:∀x:Str,Str.empty++x=x:=λx=>by apply Str.ext';show(#[]:Array Nat)++x.cps=x.cps;simp
 refine JoinedStr_many (joinParts_cons (Rk ?_));have hz:(Str.empty++a).length<=sizeLine:=by rw[ea];omega
 refine⟨hz,joinParts_cons (FormattedValue_plain (thn (he pins _ σ H _ (I.tok _) h) λv s1 z9=>?_))⟩;obtain⟨x,H1,I1,r1,q1⟩:=z9;rw[ea];obtain⟨i,rfl,hl,hy,q⟩:=q1;obtain⟨t,rfl⟩:=r1;refine formatField_int_small hl ?_;generalize ofString (toString i)=y at hy q ⊢;refine⟨by rw[Tn];omega,?_⟩;refine joinParts_nil ?_ (by rw[Tn];omega);exact⟨.str (a++y),H1,(I1.tok _).tok _,⟨_,rfl⟩,q⟩
theorem tF2n_i{a:Str}{σ:St}{H:Hp}{Q:VK}(k:te σ H λx H1=>∃i:Int,x=.int i/\i.natAbs.log2<1920/\(ofString (toString i)).length<=1000/\Q (.str (a++ofString (toString i))) H1):tF2n a te σ H Q:=k
end
section
variable{K:W.Frag}{σ:St}{H:Hp}{Q:VK}{D:Ends}{ta tv:TE}{t:TA}{f m:Str}{C:Addr}{sp:Sp}{dvs:List V}{E:XK}
theorem tFld_i(k:ta σ H λx H1=>∃a C dx fs v,x=.ref a/\H1 a=some (.ins C dx fs)/\Cls K C/\a4h K C f/\fs.lookup f=some v/\Q v H1):tFld K ta f σ H Q:=k
theorem sFld_i(k:tv σ H λy H1=>ta σ H1 λx H2=>∃a C dx fs,x=.ref a/\H2 a=some (.ins C dx fs)/\Cls K C/\a4h K C f/\fs.length<1000/\D.nx σ (upd H2 a (.ins C dx (putF f y fs)))):sFld K ta tv f D σ H:=k
theorem tMeth_i(k:ta σ H λx H1=>∃a dx fs,x=.ref a/\H1 a=some (.ins C dx fs)/\fs.lookup m=none/\t σ H1 λvs H2=>sp (x::(vs++dvs)) H2 Q E):tMeth C m sp dvs E ta t σ H Q:=k
theorem tMake_i(k:t σ H λvs H1=>∀x dx,H1 x=none->H1 dx=none->dx≠x->sp (.ref x::(vs++dvs)) (upd (upd H1 dx (.own x)) x (.ins C dx [])) (λv H2=>v=.non/\Q (.ref x) H2) E):tMake C sp dvs E t σ H Q:=k
end
theorem gSub_i{to ti:TE}{t:TSet}{v:V}{σ:St}{H:Hp}{N:St->Hp->Prop}(k:to σ H λo H1=>ti σ H1 λi H2=>t o i v H2 λH3=>N σ H3):gSub to ti t v σ H N:=k
section
variable{X:Cx}
def mAddT(K:W.Frag):R2:=λx y H Q=>∃p q xs ys,x=.ref p/\y=.ref q/\SqT K H p xs/\SqT K H q ys/\xs.length+ys.length<=sizeLine/\(xs=[]->Q (.ref q) H)/\(xs≠[]->ys=[]->Q (.ref p) H)/\(xs≠[]->ys≠[]->∀d,H d=none->Q (.ref d) (upd H d (.tup (xs++ys))))
theorem c7p{prog:Program}{w:World}{A:Around}{E:Value->Shared->Prop}{s:Shared}{t b:Addr}{vs ws:List Value}{Q:Value->Shared->Prop}(ht:IsTup s.heap t vs.toArray)(hb:IsTup s.heap b ws.toArray)(hv:vs=[])(h0:Q (.ref b) s):wpAny (model prog w) A (binaryOp .Add (.ref t) (.ref b)) Q E s:=by
 obtain⟨⟨cls,dd,data,sl⟩,ho,hc,n,hd⟩:=id ht;obtain⟨⟨cls2,dd2,data2,sl2⟩,ho2,hc2,n2,hd2⟩:=id hb;simp only at hc hd hc2 hd2;subst hc hd hc2 hd2;exact Tz ⟨_,ho,rfl⟩ ⟨_,ho2,rfl⟩ U6 To U8 U4 (Uv _ _)
  (tuple_addW0 t b vs.toArray ws.toArray n n2 dd dd2 sl sl2 (by simp[hv])) ⟨ho,ho2,h0⟩
theorem c0q(K:W.Frag)(h:X.K=K):OpR X (binaryOp .Add) (mAddT K):=by
 subst h;intro pins s σ H x y v u Q I rx ry h;obtain⟨p,q,xs,ys,rfl,rfl,hp,hq,hz,q0,q1,q2⟩:=h
 by_cases hx:xs=[]
 ·cases rx;cases ry;obtain⟨its,r1,p1,_⟩:=I.tuple hp;obtain⟨its2,r2,p2,_⟩:=I.tuple hq;exact c7p p1 p2 (r1.nil_iff.mpr hx) ⟨.ref q,H,I,rfl,q0 hx⟩
 ·exact c0k pins s σ H _ _ v u Q I rx ry ⟨p,q,xs,ys,rfl,rfl,hp,hq,hx,hz,q1 hx,q2 hx⟩
theorem c0r{K:W.Frag}{H:Hp}{Q:VK}{p q:Addr}{xs ys:List V}(hp:SqT K H p xs)(hq:SqT K H q ys)(hz:xs.length+ys.length<=sizeLine)(k:∀r H',Same H H'->SqT K H' r (xs++ys)->Q (.ref r) H'):mAddT K (.ref p) (.ref q) H Q:=by
 refine⟨p,q,xs,ys,rfl,rfl,hp,hq,hz,λe=>?_,λ_ e=>?_,λ_ _ d hd=>k d _ (a0e hd _) (SqT.of a0c)⟩
 ·subst e;exact k q H (Same.refl H) hq
 ·subst e;exact k p H (Same.refl H) (by rw[Xi];exact hp)
end
open PySem PySem.Spec PyProof.Rows PySem.W PySem.NumText PySem.Calls
theorem su0{us:List Value}{P:List Value->Prop}(hl:us.length=0)(h:P []):P us:=by cases us with|nil=>exact h|cons a r=>cases hl
theorem su1{us:List Value}{P:List Value->Prop}(hl:us.length=1)(h:∀a,P [a]):P us:=by cases us with|nil=>cases hl|cons a r=>exact su0 (P:=λr=>P (a::r)) (Va hl) (h a)
theorem su2{us:List Value}{P:List Value->Prop}(hl:us.length=2)(h:∀a b,P [a,b]):P us:=by cases us with|nil=>cases hl|cons a r=>exact su1 (P:=λr=>P (a::r)) (Va hl) (h a)
theorem su3{us:List Value}{P:List Value->Prop}(hl:us.length=3)(h:∀a b c,P [a,b,c]):P us:=by cases us with|nil=>cases hl|cons a r=>exact su2 (P:=λr=>P (a::r)) (Va hl) (h a)
theorem su4{us:List Value}{P:List Value->Prop}(hl:us.length=4)(h:∀a b c d,P [a,b,c,d]):P us:=by cases us with|nil=>cases hl|cons a r=>exact su3 (P:=λr=>P (a::r)) (Va hl) (h a)
theorem su5{us:List Value}{P:List Value->Prop}(hl:us.length=5)(h:∀a b c d e,P [a,b,c,d,e]):P us:=by cases us with|nil=>cases hl|cons a r=>exact su4 (P:=λr=>P (a::r)) (Va hl) (h a)
section
variable{K:Frag}{fd:FuncData}{a b c d e f:Str}
theorem bi1(h:∀x,bindArgs fd ⟨[x],[]⟩=pure [(a,x)]):Binds K fd [a] []:=.all λus hl=>su1 (P:=λus=>bindArgs fd ⟨us,[]⟩=pure (([a]:List Str).zip us)) hl h
theorem bi2(h:∀x y,bindArgs fd ⟨[x,y],[]⟩=pure [(a,x),(b,y)]):Binds K fd [a,b] []:=.all λus hl=>su2 (P:=λus=>bindArgs fd ⟨us,[]⟩=pure (([a,b]:List Str).zip us)) hl h
theorem bi3(h:∀x y z,bindArgs fd ⟨[x,y,z],[]⟩=pure [(a,x),(b,y),(c,z)]):Binds K fd [a,b,c] []:=.all λus hl=>su3 (P:=λus=>bindArgs fd ⟨us,[]⟩=pure (([a,b,c]:List Str).zip us)) hl h
theorem bi4(h:∀x y z u,bindArgs fd ⟨[x,y,z,u],[]⟩=pure [(a,x),(b,y),(c,z),(d,u)]):Binds K fd [a,b,c,d] []:=.all λus hl=>su4 (P:=λus=>bindArgs fd ⟨us,[]⟩=pure (([a,b,c,d]:List Str).zip us)) hl h
theorem bi5(h:∀x y z u v,bindArgs fd ⟨[x,y,z,u,v],[]⟩=pure [(a,x),(b,y),(c,z),(d,u),(e,v)]):Binds K fd [a,b,c,d,e] []:=.all λus hl=>su5 (P:=λus=>bindArgs fd ⟨us,[]⟩=pure (([a,b,c,d,e]:List Str).zip us)) hl h
end
section
variable{K:Frag}
theorem na_of{C:Addr}{x:Str}(h:findIn K (.ref C) x=some none):a4h K C x:=h
theorem is_fn{f:Addr}(h:typeIn K (.ref f)=some (.type "function")):isFn K (.ref f)=true:=V8.mpr h
end
theorem kt_at{H:Hp}{kvs:List (List Key×V)}{xs:List (List Key×Addr×Value)}(h:KT H kvs xs):kvs.length=xs.length:=by
 induction h with
 |nil=>rfl
 |cons _ _ ih=>rw[length_cons,length_cons,ih]
section
variable{prog:Program}{w:World}{K:Type}[DecidableEq K]{knd:HeapKind prog w K}{A:Around}{E:Value->Shared->Prop}{s:Shared}
theorem c5d{d a:Addr}{xs:List (K×Addr×Value)}{k:K}{v:Value}{Q:Value->Shared->Prop}(hu:knd.room A)(hkey:knd.is s.heap k a)(hm:s.heap.DictOfH knd d xs)(hsz:xs.length<=sizeLine)
  (h1:∀p,atKey xs k=some p->Q p.2 { s with toks:=s.toks+knd.draws k})
  (h2:atKey xs k=none->∀h',h'.DictOfH knd d (storedH xs k a v)->Heap.SameBut d s.heap h'->Q v { s with heap:=h',toks:=s.toks+knd.draws k}):
  wpAny (model prog w) A (dictSetDefault d (.ref a) v) Q E s:=by
 obtain⟨o,es,ep,ho,hc,hd,he,his,hn⟩:=hm;unfold dictSetDefault
 try with_reducible refine Xm ?_
 refine Zb (knd.pyHash hu hkey ?_);refine Zb (wpAny_dictFind_heap (s:={ s with toks:=s.toks+knd.draws k}) hu hkey ho hd he his hn ?_ ?_)
 ·intro hno;have hnot:k∉xs.map (·.1):=not_mem_keys_of_get hno
  refine Zb (Wl (Zb (wpAny_updateDictKeys (hz:=by have e:=size_of_entries he;omega) (s:={ s with toks:=s.toks+knd.draws k}) ho hd (Ze (h2 (Vx hno) _ ⟨_,_,ep+1,Yl _ ho (Obj.isFreed_of_dict (Sh hd _)),
   hc.mapDictKeys _,Sh hd _,?_,?_,?_⟩ (Wf ..))))))
  ·rw[Sb (Vx hno)]
   simp[he,entryOfKey]
  ·rw[Sb (Vx hno)];intro x hx;rcases Zx.mp hx with hx|hx
   ·exact knd.keeps (his x hx) ho hd (Wf ..)
   ·simp only[Zs]at hx;subst hx;exact knd.keeps hkey ho hd (Wf ..)
  ·rw[Sb (Vx hno)];rw[Zi,Ws];refine⟨hn,qz,?_⟩;intro x hx y hy;simp only[Z2,Xd,Zs]at hy;subst hy;exactλe=>hnot (e▸hx)
 ·intro j p hj;refine Zb (wpAny_dictEntries (s:={ s with toks:=s.toks+knd.draws k}) ho hd ?_);rw[entry_at he j,hj];exact Zb (Wl (Ze (h1 p (atKey_of_get hn hj))))
theorem b9p(knd:HeapKind prog w K){k:K}{b:Addr}(d:Addr)(hd:(d==sysModules)=false)(dflt:Value):
  MeetsIn prog w (Builtin.«dict.setdefault» ⟨[.ref d,.ref b,dflt],[]⟩) (λA R s=>knd.room A.in1/\∃xs,knd.is s.heap k b/\s.heap.DictOfH knd d xs/\xs.length<=sizeLine/\
   (∀p,atKey xs k=some p->R (.ok (.ret p.2)) { s with toks:=s.toks+knd.draws k})/\
   (atKey xs k=none->∀h',h'.DictOfH knd d (storedH xs k b dflt)->Heap.SameBut d s.heap h'->R (.ok (.ret dflt)) { s with heap:=h',toks:=s.toks+knd.draws k})):=
 .of_wp λA R s ⟨hu,xs,hk,hm,hz,h1,h2⟩=>by
  unfold Builtin.«dict.setdefault»;refine Zb ?_;unfold Builtin.Dict.keyAndDefault;refine Zb (wpAny_notOrdered_dict hm.typeIs ?_)
  show wpAny _ _ (pure (d,Value.ref b,some dflt)) _ _ s
  refine Ze ?_
  show wpAny _ _ (if(d==sysModules)=true then _ else(dictSetDefault d (.ref b) dflt>>=_)) _ _ s
  rw[if_neg (by rw[hd];exact Zn)];exact Zb (c5d hu hk hm hz (λp hp=>Ze ⟨p.2,rfl,h1 p hp⟩) λhn h' hm' hs'=>Ze ⟨dflt,rfl,h2 hn h' hm' hs'⟩)
end
section
variable{X:Cx}
def b8n:V->List V->Hp->VK->Prop:=λx vs H Q=>∃(a b:Addr)(kvs:List (List Key×V))(k:List Key)(d:V),x=.ref a/\vs=[.ref b,d]/\H a=some (.dT kvs)/\H b=some (.tup (k.map kV))/\kvs.length<sizeLine/\(∀v,valV kvs k=some v->Q v H)/\(valV kvs k=none->Q d (upd H a (.dT (putK kvs k d))))
theorem c7q(hu:X.A.units+150<cLine):MtR X "dict.setdefault" b8n:=by
 intro pins s σ H x vs v us Q I rx rv h;obtain⟨a,b,kvs,k,d,rfl,rfl,ha,hb,hz,q1,q2⟩:=h;cases rx;obtain⟨u,u',rfl,r1,r2⟩:=a8d rv;cases r1;obtain⟨z1,d1,xs,rel,dd⟩:=dt_of I.hok ha;have hl:=kt_at rel;refine Uy Vd dd.typeIs Tw (Tr _ _ _) (b9p (tupleKind (a1q X.prog X.w)) (k:=k) a d1 u')
  ⟨Vp qo,xs,b0o I.hok hb,dd,qo,λp hp=>?_,λhn h' dd' hs=>?_⟩
 ·have hr:=rel.val k;rw[hp]at hr;cases hv:valV kvs k with
  |none=>rw[hv]at hr;cases hr
  |some y=>
   rw[hv]at hr;obtain⟨y',e1,r3⟩:=RelO.some_of hr;cases e1;exact⟨y,H,I.tok _,r3,q1 y hv⟩
 ·have hr:=rel.val k;rw[hn]at hr;cases hv:valV kvs k with
  |some y=>rw[hv]at hr;obtain⟨_,e1,_⟩:=RelO.some_of hr;cases e1
  |none=>
   refine⟨d,_,?_,r2,q2 hv⟩;have hl:(putK kvs k d).length<=sizeLine:=by have:=a6k kvs k d;omega
   obtain⟨o,es,ep,hq,h2,h3,h4,_,h5⟩:=dd';refine b1r I (by rw[ha];exact True.intro) hs ⟨o,hq⟩ ⟨hl,d1,_,(KT.put rel k hb r2).keeps λc ys ec=>?_,o,es,ep,hq,h2,h3,h4,h5⟩;rw[a0p (a5n ec ha (λz=>nomatch z))];exact ec
theorem c7r{a b:Addr}{kvs:List (List Key×V)}{k:List Key}{d:V}{H:Hp}{Q:VK}(ha:H a=some (.dT kvs))(hb:H b=some (.tup (k.map kV)))(hz:kvs.length<sizeLine)(q1:∀v,valV kvs k=some v->Q v H)(q2:valV kvs k=none->Q d (upd H a (.dT (putK kvs k d)))):b8n (.ref a) [.ref b,d] H Q:=⟨a,b,kvs,k,d,rfl,rfl,ha,hb,hz,q1,q2⟩
end
mutual
inductive Dx(K:W.Frag)(H:Hp):V->PyData->Prop
 |non:Dx K H .non .none
 |bl (b:Bool):Dx K H (.bl b) (.bool b)
 |int (i:Int):Dx K H (.int i) (.int i)
 |str (x:Str):Dx K H (.str x) (.str x)
 |tup {a:Addr} {us:List V} {ds:List PyData}:SqT K H a us->DxL K H us ds->Dx K H (.ref a) (.tuple ds)
 |lst {a:Addr} {us:List V} {ds:List PyData}:SqL K H a us->DxL K H us ds->Dx K H (.ref a) (.list ds)
inductive DxL(K:W.Frag)(H:Hp):List V->List PyData->Prop
 |nil:DxL K H [] []
 |cons {u:V} {us:List V} {d:PyData} {ds:List PyData}:Dx K H u d->DxL K H us ds->DxL K H (u::us) (d::ds)
end
mutual
theorem Den.dx{K:W.Frag}{H:Hp}:∀{v:V}{d:PyData},Den K H v d->Dx K H v d
 |_,_,.non=>.non
 |_,_,.bl b=>.bl b
 |_,_,.int i=>.int i
 |_,_,.str x=>.str x
 |_,_,.tup h l=>.tup h (DenL.dx l)
theorem DenL.dx{K:W.Frag}{H:Hp}:∀{v:List V}{d:List PyData},DenL K H v d->DxL K H v d
 |_,_,.nil=>.nil
 |_,_,.cons h l=>.cons (Den.dx h) (DenL.dx l)
end
mutual
theorem Dx.monoT{K:W.Frag}{H H':Hp}(e:∀a xs,SqT K H a xs->SqT K H' a xs)(f:∀a xs,SqL K H a xs->SqL K H' a xs):∀{v:V}{d:PyData},Dx K H v d->Dx K H' v d
 |_,_,.non=>.non
 |_,_,.bl b=>.bl b
 |_,_,.int i=>.int i
 |_,_,.str x=>.str x
 |_,_,.tup h l=>.tup (e _ _ h) (DxL.monoT e f l)
 |_,_,.lst h l=>.lst (f _ _ h) (DxL.monoT e f l)
theorem DxL.monoT{K:W.Frag}{H H':Hp}(e:∀a xs,SqT K H a xs->SqT K H' a xs)(f:∀a xs,SqL K H a xs->SqL K H' a xs):∀{v:List V}{d:List PyData},DxL K H v d->DxL K H' v d
 |_,_,.nil=>.nil
 |_,_,.cons h l=>.cons (Dx.monoT e f h) (DxL.monoT e f l)
end
theorem DxL.mono{K:W.Frag}{H H':Hp}(e:Same H H'){v:List V}{d:List PyData}(h:DxL K H v d):DxL K H' v d:=h.monoT (λ_ _ q=>e.tup q) (λ_ _ q=>e.seq q)
section
variable{K:W.Frag}{H:Hp}
theorem DxL.length:∀{us:List V}{ds:List PyData},DxL K H us ds->us.length=ds.length
 |_,_,.nil=>rfl
 |_,_,.cons _ l=>by rw[length_cons,length_cons,DxL.length l]
theorem DxL.get:∀{us:List V}{ds:List PyData}{i:Nat}{u:V},DxL K H us ds->us[i]? =some u->∃d,ds[i]? =some d/\Dx K H u d
 |_,_,_,_,.nil,e=>by simp at e
 |_,_,0,_,.cons h _,e=>by simp at e;subst e;exact⟨_,rfl,h⟩
 |_,_,i+1,u,.cons _ l,e=>by
  obtain⟨d,h1,h2⟩:=DxL.get (i:=i) (u:=u) l (by simpa using e);exact⟨d,by simpa using h1,h2⟩
end
section
variable{X:Cx}{pins:List (Addr×Obj)}{σ:St}{H:Hp}{s:Shared}
theorem c7s(I:Inv X pins σ H s):∀(n:Nat)(A:Around)(d:PyData)(v v':V)(u u':Value),d.depth<=n->A.units+n<cLine->Dx X.K H v d->Dx X.K H v' d->RelV v u->RelV v' u'->SeqAt.EqAt A s u u' true:=by
 intro n
 induction n with
 |zero=>
  intro A d v v' u u' hd hu h h' r r';cases h with
  |non=>cases h';cases r;cases r';exact Xr _
  |bl b=>cases h';cases r;cases r';exact Xr _
  |int i=>
   cases h';obtain⟨t,rfl⟩:=r;obtain⟨t',rfl⟩:=r';have:=Vs (A:=A) (s:=s) i t i t'
   simpa using this
  |str x=>
   cases h';obtain⟨t,rfl⟩:=r;obtain⟨t',rfl⟩:=r';have:=Vr (A:=A) (s:=s) x t x t'
   simpa using this
  |tup _ _=>simp[PyData.depth]at hd
  |lst _ _=>simp[PyData.depth]at hd
 |succ n ih=>
  intro A d v v' u u' hd hu h h' r r';cases h with
  |non=>cases h';cases r;cases r';exact Xr _
  |bl b=>cases h';cases r;cases r';exact Xr _
  |int i=>
   cases h';obtain⟨t,rfl⟩:=r;obtain⟨t',rfl⟩:=r';have:=Vs (A:=A) (s:=s) i t i t'
   simpa using this
  |str x=>
   cases h';obtain⟨t,rfl⟩:=r;obtain⟨t',rfl⟩:=r';have:=Vr (A:=A) (s:=s) x t x t'
   simpa using this
  | @tup a us ds hs hl=>
   cases h' with
   | @tup b us' _ hs' hl'=>
    cases r;cases r'
    by_cases e:a=b
    ·subst e;exact Xr _
    ·obtain⟨its,rv,p,_⟩:=I.tuple hs;obtain⟨its',rv',p',_⟩:=I.tuple hs';have l1:=rv.length;have l2:=rv'.length;have l3:=hl.length;have l4:=hl'.length;have hd':PyData.depthAll ds<=n:=by simp only[PyData.depth]at hd;omega
     have key:=SeqAt.RcAt.tuples (A:=A) (e:=λ_=>true) (show s.heap.IsTuple a its.toArray from p) (show s.heap.IsTuple b its'.toArray from p') qo (λj h1 h2=>by
      have h1:j<its.length:=by simpa using h1
      have h2:j<its'.length:=by simpa using h2
      have x1:us[j]? =some us[j]:=Za qo
      have x2:us'[j]? =some us'[j]:=Za qo
      obtain⟨d,e1,d1⟩:=hl.get x1;obtain⟨d',e2,d2⟩:=hl'.get x2;rw[e1]at e2;cases e2;obtain⟨w1,y1,z1⟩:=rv.get x1;obtain⟨w2,y2,z2⟩:=rv'.get x2;have q1:its.toArray[j]=w1:=by
       have:=Za h1;rw[y1]at this
       simpa using(Zk this).symm
      have q2:its'.toArray[j]=w2:=by
       have:=Za h2;rw[y2]at this
       simpa using(Zk this).symm
      rw[q1,q2]
      exact ih A.in1 d _ _ _ _ (Yk (a5o e1) hd') (by show A.units+1+n<cLine;omega) d1 d2 z1 z2)
     have e3:its.toArray.size=its'.toArray.size:=by simp only[Zd];omega
     rw[e3]at key;have e4:((List.range (min its'.toArray.size its'.toArray.size)).all (λ_=>true)&&its'.toArray.size==its'.toArray.size)=true:=by simp
     rw[e4]at key;exact Us e key
  | @lst a us ds hs hl=>
   cases h' with
   | @lst b us' _ hs' hl'=>
    cases r;cases r'
    by_cases e:a=b
    ·subst e;exact Xr _
    ·obtain⟨its,rv,p,_⟩:=I.list hs;obtain⟨its',rv',p',_⟩:=I.list hs';have l1:=rv.length;have l2:=rv'.length;have l3:=hl.length;have l4:=hl'.length;have hd':PyData.depthAll ds<=n:=by simp only[PyData.depth]at hd;omega
     have key:=SeqAt.RcAt.lists (A:=A) (e:=λ_=>true) p.isList p'.isList (by simp only[Zd];omega) qo (λj h1 h2=>by
      have h1:j<its.length:=by simpa using h1
      have h2:j<its'.length:=by simpa using h2
      have x1:us[j]? =some us[j]:=Za qo
      have x2:us'[j]? =some us'[j]:=Za qo
      obtain⟨d,e1,d1⟩:=hl.get x1;obtain⟨d',e2,d2⟩:=hl'.get x2;rw[e1]at e2;cases e2;obtain⟨w1,y1,z1⟩:=rv.get x1;obtain⟨w2,y2,z2⟩:=rv'.get x2;have q1:its.toArray[j]=w1:=by
       have:=Za h1;rw[y1]at this
       simpa using(Zk this).symm
      have q2:its'.toArray[j]=w2:=by
       have:=Za h2;rw[y2]at this
       simpa using(Zk this).symm
      rw[q1,q2]
      exact ih A.in1 d _ _ _ _ (Yk (a5o e1) hd') (by show A.units+1+n<cLine;omega) d1 d2 z1 z2)
     have e4:((List.range its.toArray.size).all (λ_=>true))=true:=by simp
     rw[e4]at key;exact Us e key
end
section
variable{X:Cx}
def dEqX(K:W.Frag)(n:Bool):R2:=λx y H Q=>∃(p q:Addr)(us us':List V)(ds:List PyData),x=.ref p/\y=.ref q/\((SqT K H p us/\SqT K H q us')\/(SqL K H p us/\SqL K H q us'))/\DxL K H us ds/\DxL K H us' ds/\PyData.depthAll ds<=149/\Q (.bl (!n)) H
theorem b6f{pins:List (Addr×Obj)}{σ:St}{H:Hp}{s:Shared}(I:Inv X pins σ H s){A:Around}{us us':List V}{ds:List PyData}{its its':List Value}(hl:DxL X.K H us ds)(hl':DxL X.K H us' ds)(rv:Vals us its)(rv':Vals us' its')(hd:PyData.depthAll ds<=149)(hu:A.units+150<cLine):
  ∀j (h1:j<its.toArray.size) (h2:j<its'.toArray.size),SeqAt.EqAt A.in1 s its.toArray[j] its'.toArray[j] true:=λj h1 h2=>by
 have l1:=rv.length;have l2:=rv'.length;have l3:=hl.length;have l4:=hl'.length;have h1:j<its.length:=by simpa using h1
 have h2:j<its'.length:=by simpa using h2
 have x1:us[j]? =some us[j]:=Za qo
 have x2:us'[j]? =some us'[j]:=Za qo
 obtain⟨d,e1,d1⟩:=hl.get x1;obtain⟨d',e2,d2⟩:=hl'.get x2;rw[e1]at e2;cases e2;obtain⟨w1,y1,z1⟩:=rv.get x1;obtain⟨w2,y2,z2⟩:=rv'.get x2;have q1:its.toArray[j]=w1:=by
  have:=Za h1;rw[y1]at this
  simpa using(Zk this).symm
 have q2:its'.toArray[j]=w2:=by
  have:=Za h2;rw[y2]at this
  simpa using(Zk this).symm
 rw[q1,q2];exact c7s I 149 A.in1 d _ _ _ _ (Yk (a5o e1) hd) (by show A.units+1+149<cLine;omega) d1 d2 z1 z2
theorem ko_neX(K:W.Frag)(hK:X.K=K)(hu:X.A.units+150<cLine):OpR X (compareOp .NotEq) (dEqX K true):=by
 subst hK;intro pins s σ H x y v u Q I rx ry h;obtain⟨p,q,us,us',ds,rfl,rfl,h,hl,hl',hd,k⟩:=h;cases rx;cases ry;rcases h with⟨hs,hs'⟩|⟨hs,hs'⟩
 ·obtain⟨its,rv,p1,_⟩:=I.tuple hs;obtain⟨its',rv',p2,_⟩:=I.tuple hs';have e3:its.toArray.size=its'.toArray.size:=by simp only[Zd];rw[<-rv.length,<-rv'.length,hl.length,hl'.length]
  refine Vl (e:=λ_=>true) (show s.heap.IsTuple p its.toArray from p1) (show s.heap.IsTuple q its'.toArray from p2) qo (b6f I hl hl' rv rv' hd hu) X.prog X.w _ _ ?_;rw[e3];exact⟨.bl false,H,I,by simp[RelV],k⟩
 ·obtain⟨its,rv,p1,_⟩:=I.list hs;obtain⟨its',rv',p2,_⟩:=I.list hs';have e3:its.toArray.size=its'.toArray.size:=by simp only[Zd];rw[<-rv.length,<-rv'.length,hl.length,hl'.length]
  refine Rc (e:=λ_=>true) p1.isList p2.isList e3 qo (b6f I hl hl' rv rv' hd hu) X.prog X.w _ _ ?_;exact⟨.bl false,H,I,by simp[RelV],k⟩
end
end L2
namespace L2.ZL
open PySem PySem.Spec PyProof.Rows PySem.W L2
abbrev ztH1(h:Heap)(l1:Addr):Heap:=h.push { cls:=.type "list_iterator",data:=.fields #[.ref l1,.int 0 0]}
abbrev ztH2(h:Heap)(l1 l2:Addr):Heap:=(ztH1 h l1).push { cls:=.type "list_iterator",data:=.fields #[.ref l2,.int 0 0]}
abbrev ztH3(h:Heap)(l1 l2:Addr):Heap:=(ztH2 h l1 l2).push { cls:=.type "tuple",data:=.seq #[.ref h.objs.size,.ref (ztH1 h l1).objs.size]}
abbrev ztH4(h:Heap)(l1 l2:Addr):Heap:=(ztH3 h l1 l2).push { cls:=.type "tuple",data:=.seq #[.none,.none]}
abbrev ztH5(h:Heap)(l1 l2:Addr):Heap:=(ztH4 h l1 l2).push { cls:=.type "zip",data:=.fields #[.none,.bool false,.bool false,.ref (ztH2 h l1 l2).objs.size,.ref (ztH3 h l1 l2).objs.size]}
section
variable{prog:Program}{w:World}{A:Around}{E:Value->Shared->Prop}{s:Shared}
def ZS(h:Heap)(z TI TO i1 i2 t1 t2 S:Addr)(i:Nat):Prop:=
 ((IsZip h z TI TO .none/\∃a b,IsPair h TO a b)\/∃(T:Addr)(f1:Bool)(o:Obj),a5d h z TI TO (rawInt T) f1/\h.get? T=some o/\T≠z/\T≠TO/\T≠i1/\T≠i2/\T≠S)/\IsPair h TI (.ref i1) (.ref i2)/\h.IsListIter i1 t1 i/\h.IsListIter i2 t2 i
end
end L2.ZL
namespace L2
open PySem PySem.Spec PyProof.Rows PySem.W
theorem c5e{K:W.Frag}{a:Addr}{xs:List V}{g:TG}{tb:TS}{D:Ends}{σ:St}{H:Hp}(Pv:Nat->St->Hp->Prop)(h0:Pv 0 σ H)(hok:∀i σ H,Pv i σ H->SqL K H a xs)
  (hs:∀i σ H T,i<xs.length->Pv i σ H->H T=none->g (.ref T) σ (upd H T (.tup [.int i,xs.getD i .non])) λσ2 H2=>tb { D with nx:=Pv (i+1),ct:=Pv (i+1),bk:=D.nx} σ2 H2)(hd:∀σ H,Pv xs.length σ H->D.nx σ H):
  ForW (Ite K a xs.length) g tb D σ H:=by
 refine⟨λi m σ H=>m=xs.length-i/\i<=xs.length/\Pv i σ H,⟨xs.length,qz,Yc _,h0⟩,?_⟩
 rintro i m σ H ⟨rfl,hi,p⟩
 have q1:=hok i σ H p
 by_cases hlt:i<xs.length
 ·refine .inr ⟨⟨hlt,xs,q1,rfl⟩,Pv (i+1),λσ' H' p'=>⟨xs.length-(i+1),qo,rfl,hlt,p'⟩,λx H' y=>?_⟩;obtain⟨T,u,hT,rfl,rfl,e1⟩:=y;have e1:=e1 xs q1;have f1:xs.getD i .non=u:=by rw[Zm,e1];rfl
  have:=hs i σ H T hlt p hT;rw[f1]at this;exact this
 ·have e:i=xs.length:=by omega
  subst e;exact .inl ⟨⟨rfl,xs,q1,rfl⟩,hd σ H p⟩
section
variable{K:Frag}{fd:FuncData}{a b c:Str}{v:Addr}{od:Option Addr}{n:Nat}{sl:Array (Option Value)}{its:Array Value}{d:Value}
theorem su6{us:List Value}{P:List Value->Prop}(hl:us.length=6)(h:∀a b c d e f,P [a,b,c,d,e,f]):P us:=by cases us with|nil=>cases hl|cons a r=>exact su5 (P:=λr=>P (a::r)) (Va hl) (h a)
theorem bi6{a2 b2 c2 d2 e2 f2:Str}(h:∀x y z u v w,bindArgs fd ⟨[x,y,z,u,v,w],[]⟩=pure [(a2,x),(b2,y),(c2,z),(d2,u),(e2,v),(f2,w)]):Binds K fd [a2,b2,c2,d2,e2,f2] []:=.all λus hl=>su6 (P:=λus=>bindArgs fd ⟨us,[]⟩=pure (([a2,b2,c2,d2,e2,f2]:List Str).zip us)) hl h
end
open PySem PySem.Spec PyProof.Rows
section
variable{X:Cx}
def dEm(K:W.Frag)(n:Bool):R2:=λx y H Q=>∃(p q:Addr)(us:List V),x=.ref p/\y=.ref q/\((SqT K H p us/\SqT K H q [])\/(n=true/\SqL K H p us/\SqL K H q []))/\Q (.bl (n^^us.isEmpty)) H
theorem c0s(K:W.Frag)(hK:X.K=K)(hu:X.A.units+150<cLine):OpR X (compareOp .NotEq) (dEm K true):=by
 subst hK;intro pins s σ H x y v u Q I rx ry h;obtain⟨p,q,us,rfl,rfl,h,k⟩:=h;cases rx;cases ry;rcases h with⟨hs,hs'⟩|⟨_,hs,hs'⟩
 ·obtain⟨its,rv,p1,_⟩:=I.tuple hs;obtain⟨its',rv',p2,_⟩:=I.tuple hs';cases rv';refine Vl (e:=λ_=>true) (show s.heap.IsTuple p its.toArray from p1) (show s.heap.IsTuple q #[]from p2) qo (λj h1 h2=>absurd h2 (Tc j)) X.prog X.w _ _ ?_;refine⟨.bl (true^^us.isEmpty),H,I,?_,k⟩;cases rv<;>simp[RelV]
 ·obtain⟨its,rv,p1,_⟩:=I.list hs;obtain⟨its',rv',p2,_⟩:=I.list hs';cases rv';cases rv with
  |nil=>exact Rc (e:=λ_=>true) p1.isList p2.isList rfl qo (λj h1 h2=>absurd h2 (Tc j)) X.prog X.w _ _ ⟨.bl false,H,I,by simp[RelV],k⟩
  |cons a b=>exact SeqAt.RcNeAt.lists_lengths p1.isList p2.isList qz qo X.prog X.w _ _ ⟨.bl true,H,I,by simp[RelV],k⟩
end
theorem em_l{K:W.Frag}{p q:Addr}{us:List V}{H:Hp}{Q:VK}(h:SqL K H p us)(h2:SqL K H q [])(k:Q (.bl (true^^us.isEmpty)) H):dEm K true (.ref p) (.ref q) H Q:=⟨p,q,us,rfl,rfl,.inr ⟨rfl,h,h2⟩,k⟩
open PySem.AutoSeq1 (wpAny_loadPart')
section
variable{prog:Program}{w:World}{A:Around}{E:Value->Shared->Prop}{s:Shared}
theorem c5f{z TI TO i1 i2 l1 l2:Addr}{k1 k2:Nat}{xs ys:Array Value}{x y a b:Value}{Q:Value->Shared->Prop}(D:ZipApart z TI TO i1 i2 l1 l2)
  (hz:IsZip s.heap z TI TO .none)(hTI:IsPair s.heap TI (.ref i1) (.ref i2))(hTO:IsPair s.heap TO a b)
  (h1:s.heap.IsTupleIter i1 l1 k1)(h2:s.heap.IsListIter i2 l2 k2)(hl1:s.heap.IsTuple l1 xs)(hl2:s.heap.IsList l2 ys)(hx:xs[k1]? =some x)(hy:ys[k2]? =some y)
  (hQ:∀h',a5d h' z TI TO (rawInt s.heap.objs.size) false->IsPair h' TO x y->h'.IsTupleIter i1 l1 (k1+1)->h'.IsListIter i2 l2 (k2+1)->IsPair h' s.heap.objs.size x y->h'.objs.size=s.heap.objs.size+1->
   (∀c o,c≠z->c≠TO->c≠i1->c≠i2->s.heap.get? c=some o->h'.get? c=some o)->Q (.ref s.heap.objs.size) { s with heap:=h'}):
  wpAny (model prog w) A (Builtin.«zip.__next__» ⟨[.ref z],[]⟩) (λfin s'=>∃v,fin=.done (.ret v)/\Q v s') E s:=by
 show wpAny _ _ (field (.ref z) 2>>=_) _ _ _
 refine Zb (Z5 hz rfl (x:=.bool false) rfl ?_)
 show wpAny _ _ (field (.ref z) 3>>=_) _ _ _
 refine Zb (Z5 hz rfl (x:=.ref TI) rfl ?_);refine Zb (Yx hTI rfl ?_)
 show wpAny _ _ (Builtin.SmallTypes.ownedTupleIsFree (.ref z)>>=_) _ _ _
 refine Zb ?_;unfold Builtin.SmallTypes.ownedTupleIsFree;refine Zb (Z5 hz rfl (x:=.none) rfl (Ze ?_));simp only[if_true];refine Zb (Wl ?_);refine Zb (Z5 hz rfl (x:=.ref TO) rfl ?_);refine Zb (Y7 hz qz λh₁ hz₁ hs₁=>?_)
 replace hz₁:IsZip h₁ z TI TO .ellipsis:=hz₁
 refine Zb ?_;simp only[U7,Td,W2,Vc];refine Zb (Zb (V1 ?_))
 show wpAny _ _ (Builtin.SmallTypes.nextOf (.ref i1)>>=_) _ _ _
 refine Zb (a5q (h1.extBut hs₁.extBut D.i1z) (hl1.extBut hs₁.extBut D.l1z) hx λh₂ h1₂ hs₂=>Ze ?_);have hTO₂:IsPair h₂ TO a b:=hs₂.extBut _ _ D.TOi1 (hs₁.extBut _ _ D.TOz hTO);refine Zb (Yx hTO₂ rfl ?_);refine Zb (Vi hTO₂ λh₃ hTO₃ hs₃=>?_)
 replace hTO₃:IsPair h₃ TO x b:=hTO₃
 refine Zb (Vw (Ze ?_));refine Zb (Zb (V1 ?_))
 show wpAny _ _ (Builtin.SmallTypes.nextOf (.ref i2)>>=_) _ _ _
 refine Zb (wpAny_nextOf_list_item (((h2.extBut hs₁.extBut D.i2z).extBut hs₂.extBut D.i12.symm).extBut hs₃.extBut D.TOi2.symm)
  (((hl2.extBut hs₁.extBut D.l2z).extBut hs₂.extBut D.l2i1).extBut hs₃.extBut D.l2TO) hy λh₄ h2₄ hs₄=>Ze ?_)
 have hTO₄:IsPair h₄ TO x b:=hs₄.extBut _ _ D.TOi2 hTO₃;refine Zb (Yx hTO₄ rfl ?_);refine Zb (Vi hTO₄ λh₅ hTO₅ hs₅=>?_)
 replace hTO₅:IsPair h₅ TO x y:=hTO₅
 refine Zb (Vw (Ze (Ze ?_)));refine Zb (Yx hTO₅ rfl ?_);refine Zb (Ti ?_);have hsz:h₅.objs.size=s.heap.objs.size:=by rw[hs₅.1,hs₄.1,hs₃.1,hs₂.1,hs₁.1]
 have hz₅:IsZip h₅ z TI TO .ellipsis:=hs₅.extBut _ _ D.TOz.symm (hs₄.extBut _ _ D.i2z.symm (hs₃.extBut _ _ D.TOz.symm (hs₂.extBut _ _ D.i1z.symm hz₁)));have hk₅:∀c o,c≠z->c≠TO->c≠i1->c≠i2->s.heap.get? c=some o->h₅.get? c=some o:=λc o c1 c2 c3 c4 e=>
  hs₅.extBut _ _ c2 (hs₄.extBut _ _ c4 (hs₃.extBut _ _ c2 (hs₂.extBut _ _ c3 (hs₁.extBut _ _ c1 e))))
 have h1₅:h₅.IsTupleIter i1 l1 (k1+1):=((h1₂.extBut hs₃.extBut D.TOi1.symm).extBut hs₄.extBut D.i12).extBut hs₅.extBut D.TOi1.symm;have h2₅:h₅.IsListIter i2 l2 (k2+1):=h2₄.extBut hs₅.extBut D.TOi2.symm;have hzlt:z<h₅.objs.size:=Zl hz₅
 show wpAny _ _ (Builtin.SmallTypes.ownedTupleHandOut (.ref z) (.ref h₅.objs.size)>>=_) _ _ _
 refine Zb ?_;unfold Builtin.SmallTypes.ownedTupleHandOut;have hz₆:IsZip (h₅.push { cls:=.type "tuple",data:=.seq #[x,y]}) z TI TO .ellipsis:=Zc _ hz₅;refine Zb (Y7 hz₆ qz λh₇ hz₇ hs₇=>?_)
 replace hz₇:IsZip h₇ z TI TO (rawInt h₅.objs.size):=hz₇
 refine Y7 hz₇ qz λh₈ hz₈ hs₈=>?_
 replace hz₈:IsZip h₈ z TI TO (rawInt h₅.objs.size):=hz₈
 have up:∀c o,c≠z->h₅.get? c=some o->h₈.get? c=some o:=λc o c1 e=>hs₈.extBut _ _ c1 (hs₇.extBut _ _ c1 (Zc _ e))
 have hT₈:IsPair h₈ h₅.objs.size x y:=hs₈.extBut _ _ (Xb hzlt) (hs₇.extBut _ _ (Xb hzlt) (Zj _ rfl));have hz8:h₈.objs.size=h₅.objs.size+1:=by rw[hs₈.1,hs₇.1,Yd]
 rw[hsz]at hz₈ hT₈ hz8;refine Ze ⟨_,rfl,?_⟩
 show Q (.ref h₅.objs.size) _
 rw[hsz];exact hQ h₈ hz₈ (up _ _ D.TOz hTO₅) (h1₅.at λo e=>up _ o D.i1z e) (h2₅.at λo e=>up _ o D.i2z e) hT₈ hz8 λc o c1 c2 c3 c4 e=>up c o c1 (hk₅ c o c1 c2 c3 c4 e)
end
abbrev zmH1(h:Heap)(l1:Addr):Heap:=h.push { cls:=.type "tuple_iterator",data:=.fields #[.ref l1,.int 0 0]}
abbrev zmH2(h:Heap)(l1 l2:Addr):Heap:=(zmH1 h l1).push { cls:=.type "list_iterator",data:=.fields #[.ref l2,.int 0 0]}
abbrev zmH3(h:Heap)(l1 l2:Addr):Heap:=(zmH2 h l1 l2).push { cls:=.type "tuple",data:=.seq #[.ref h.objs.size,.ref (zmH1 h l1).objs.size]}
abbrev zmH4(h:Heap)(l1 l2:Addr):Heap:=(zmH3 h l1 l2).push { cls:=.type "tuple",data:=.seq #[.none,.none]}
abbrev zmH5(h:Heap)(l1 l2:Addr):Heap:=(zmH4 h l1 l2).push { cls:=.type "zip",data:=.fields #[.none,.bool false,.bool false,.ref (zmH2 h l1 l2).objs.size,.ref (zmH3 h l1 l2).objs.size]}
theorem c2d(l1 l2:Addr)(xs ys:Array Value):
  Meets (Builtin.«zip.__new__» ⟨[.type "zip",.ref l1,.ref l2],[]⟩) (λ_ R s=>s.heap.IsTuple l1 xs/\s.heap.IsList l2 ys/\
   R (.ok (.ret (.ref (zmH4 s.heap l1 l2).objs.size))) { s with heap:=zmH5 s.heap l1 l2}):=
 .of_wp λprog w A R s h=>by
  obtain⟨hp,g,d,tk,os⟩:=s;obtain⟨hl1,hl2,h⟩:=h;have hsub:=sub_zip;have hL1:Heap.IsTuple (Shared.heap ⟨hp,g,d,tk,os⟩) l1 xs:=hl1;have hL2:Heap.IsList (Shared.heap ⟨hp.push { cls:=.type "tuple_iterator",data:=.fields #[.ref l1,.int 0 0]},g,d,tk,os⟩) l2 ys:=Heap.IsList.push hl2 _
  wp_walk using W3 hL1,W8 hL2
  exact⟨_,rfl,h⟩
section
variable{prog:Program}{w:World}{A:Around}{E:Value->Shared->Prop}{s:Shared}
theorem c5g{l1 l2:Addr}{xs ys:Array Value}{Q:Value->Shared->Prop}(hl1:s.heap.IsTuple l1 xs)(hl2:s.heap.IsList l2 ys)
  (h:∀h',IsZip h' (s.heap.objs.size+4) (s.heap.objs.size+2) (s.heap.objs.size+3) .none->IsPair h' (s.heap.objs.size+2) (.ref s.heap.objs.size) (.ref (s.heap.objs.size+1))->
   IsPair h' (s.heap.objs.size+3) .none .none->h'.IsTupleIter s.heap.objs.size l1 0->h'.IsListIter (s.heap.objs.size+1) l2 0->h'.objs.size=s.heap.objs.size+5->
   (∀c o,s.heap.get? c=some o->h'.get? c=some o)->Q (.ref (s.heap.objs.size+4)) { s with heap:=h'}):
  wpAny (model prog w) A (call (.type "zip") [.ref l1,.ref l2]) Q E s:=by
 refine T0 F.called_zip qd (F.typeCall_zip_2 _ _) (F.newCall_zip_2 _ _) (λobj=>Sm obj _ _) F.entry_zip_new
  (c2d l1 l2 xs ys) ⟨hl1,hl2,?_⟩
 have z1:(zmH1 s.heap l1).objs.size=s.heap.objs.size+1:=Yd ..;have z2:(zmH2 s.heap l1 l2).objs.size=s.heap.objs.size+2:=by rw[Yd,z1]
 have z3:(zmH3 s.heap l1 l2).objs.size=s.heap.objs.size+3:=by rw[Yd,z2]
 have z4:(zmH4 s.heap l1 l2).objs.size=s.heap.objs.size+4:=by rw[Yd,z3]
 have z5:(zmH5 s.heap l1 l2).objs.size=s.heap.objs.size+5:=by rw[Yd,z4]
 have g5:(zmH5 s.heap l1 l2).get? (zmH4 s.heap l1 l2).objs.size=some _:=Zj _ rfl;have g4:(zmH5 s.heap l1 l2).get? (zmH3 s.heap l1 l2).objs.size=some _:=Zc _ (Zj _ rfl);have g3:(zmH5 s.heap l1 l2).get? (zmH2 s.heap l1 l2).objs.size=some _:=Zc _ (Zc _ (Zj _ rfl));have g2:(zmH5 s.heap l1 l2).get? (zmH1 s.heap l1).objs.size=some _:=Zc _ (Zc _ (Zc _ (Zj _ rfl)));have g1:(zmH5 s.heap l1 l2).get? s.heap.objs.size=some _:=Zc _ (Zc _ (Zc _ (Zc _ (Zj _ rfl))))
 show _/\_
 rw[z2,z3,z4]at g5;rw[z1,z2]at g3;rw[z3]at g4;rw[z1]at g2;rw[z4]
 exact⟨⟨_,g5,rfl⟩,h _ g5 g3 g4 ⟨_,g1,rfl,rfl⟩ ⟨_,g2,rfl,rfl⟩ z5 λc o x=>
  Zc _ (Zc _ (Zc _ (Zc _ (Zc _ x))))⟩
end
def Izm(K:W.Frag)(a b:Addr)(n:Nat):It:=⟨λi H=>i<n/\∃xs ys,SqT K H a xs/\SqL K H b ys/\xs.length=n/\ys.length=n,λi H v H'=>∃T x y,H T=none/\v=.ref T/\H'=upd H T (.tup [x,y])/\(∀xs,SqT K H a xs->xs[i]? =some x)/\(∀ys,SqL K H b ys->ys[i]? =some y),λi H=>i=n/\∃xs ys,SqT K H a xs/\SqL K H b ys/\xs.length=n/\ys.length=n⟩
theorem c5h{P:Program}{w:World}{K:W.Frag}{elts:List Expr}{k:Nat}{pos:Pos}(z TI TO i1 i2 a b:Addr)(n:Nat)(D:ZipApart z TI TO i1 i2 a b):
  Turn P w K (.Tuple elts k pos) (Izm K a b n) [z,TI,TO,i1,i2] z (λi h=>IsZip h z TI TO .none/\IsPair h TI (.ref i1) (.ref i2)/\(∃a b,IsPair h TO a b)/\h.IsTupleIter i1 a i/\h.IsListIter i2 b i) where
 mem:=by simp
 obj:=λi h st c hc=>by
  obtain⟨hz,hTI,⟨x,y,hTO⟩,⟨o1,h1,h1b,h1c⟩,⟨o2,h2,h2b,h2c⟩⟩:=st;simp only[Zp,Z8,Xn]at hc;rcases hc with rfl|rfl|rfl|rfl|rfl
  ·exact⟨_,hz,λv q=>by have q':Data.fields _=Data.cell v:=q;cases q'⟩
  ·exact⟨_,hTI,λv q=>by have q':Data.seq _=Data.cell v:=q;cases q'⟩
  ·exact⟨_,hTO,λv q=>by have q':Data.seq _=Data.cell v:=q;cases q'⟩
  ·exact⟨o1,h1,λv q=>by rw[h1c]at q;cases q⟩
  ·exact⟨o2,h2,λv q=>by rw[h2c]at q;cases q⟩
 keep:=λi h h' st hk=>by
  obtain⟨hz,hTI,⟨x,y,hTO⟩,h1,h2⟩:=st;exact⟨hk z qz _ hz,hk TI qz _ hTI,⟨x,y,hk TO qz _ hTO⟩,h1.at λo q=>hk i1 qz o q,h2.at λo q=>hk i2 qz o q⟩
 item:=by
  intro X hP hw hK hc i pins s σ H E I hf st hg;subst hP hw hK;obtain⟨hi,xs,ys,hq1,hq2,hl1,hl2⟩:=hg;obtain⟨its,rv,p,hz⟩:=I.tuple hq1;obtain⟨its',rv',p',hz'⟩:=I.list hq2;have hlen:=rv.length;have hlen':=rv'.length;obtain⟨sz,sTI,⟨x0,y0,sTO⟩,s1,s2⟩:=st;have hix:i<xs.length:=by omega
  have hiy:i<ys.length:=by omega
  obtain⟨x,hx2,ru⟩:=rv.get (Za hix);obtain⟨y,hy2,ru'⟩:=rv'.get (Za hiy);have hTy:s.TypeIs (.ref z) "zip":=⟨_,sz,rfl⟩;have lt:∀{c o},s.heap.get? c=some o->s.heap.objs.size≠c:=λe=>Xb (Zl e)
  have n1:s.heap.objs.size≠i1:=by obtain⟨_,e,_⟩:=s1;exact lt e
  have n2:s.heap.objs.size≠i2:=by obtain⟨_,e,_⟩:=s2;exact lt e
  unfold pyNext;refine Zb (Xv (wpAny_callSpecial?_slot (name:=ofString "__next__") hTy Y2 (Yn Y2 hTy Wx (c5f D sz sTI sTO s1 s2 (show s.heap.IsTuple a its.toArray from p) p'.isList (by simpa using hx2) (by simpa using hy2) λh1 a1 a2 a3 a4 a5 a6 a7=>Ze ?_) (Wt _))));refine⟨.ref s.heap.objs.size,rfl,wpAny_letOwnedTupleGo_zip a1 λh2 hz2 hs2=>?_⟩;have k2:∀c o,c≠z->h1.get? c=some o->h2.get? c=some o:=λc o hc e=>hs2.extBut _ _ hc e
  have hk':∀b u,b∉[z,TI,TO,i1,i2]->s.heap.get? b=some u->h2.get? b=some u:=λc u hb q=>k2 c u (λe=>hb (by simp[e])) (a7 c u (λe=>hb (by simp[e])) (λe=>hb (by simp[e])) (λe=>hb (by simp[e])) (λe=>hb (by simp[e])) q)
  have hTup:IsTup h2 s.heap.objs.size #[x,y]:=⟨_,k2 _ _ (lt sz) a5,rfl,_,rfl⟩;refine⟨.ref s.heap.objs.size,upd H s.heap.objs.size (.tup [xs[i],ys[i]]),I.turnedLaid (t':=s.toks) (ch:=[z,TI,TO,i1,i2]) hf hk' (Zh _) ⟨by simp[Yh],[x,y],.cons ru (.cons ru' .nil),hTup⟩,rfl,?_,?_,λb hb=>?_⟩
  ·exact⟨s.heap.objs.size,xs[i],ys[i],I.hok.fresh (Zh _),rfl,rfl,λzs hy=>by rw[I.tuple_inj hy hq1];exact Za hix,λzs hy=>by rw[I.list_inj hy hq2];exact Za hiy⟩
  ·exact⟨hz2,k2 _ _ D.TIz (a7 _ _ D.TIz D.TITO D.TIi1 D.TIi2 sTI),⟨_,_,k2 _ _ D.TOz a2⟩,a3.at λo e=>k2 _ o D.i1z e,a4.at λo e=>k2 _ o D.i2z e⟩
  ·have nb:b≠s.heap.objs.size:=λq=>by
    simp only[Zp,Z8,Xn]at hb;rcases hb with e|e|e|e|e
    ·exact lt sz (q.symm.trans e)
    ·exact lt sTI (q.symm.trans e)
    ·exact lt sTO (q.symm.trans e)
    ·exact n1 (q.symm.trans e)
    ·exact n2 (q.symm.trans e)
   rw[a0p nb];exact(hf b hb).1
 done:=by
  intro X hP hw hK hc i pins s σ H E I hf st hg;subst hP hw hK;obtain⟨hi,xs,ys,hq1,hq2,hl1,hl2⟩:=hg;subst hi;obtain⟨its,rv,p,hz⟩:=I.tuple hq1;obtain⟨its',rv',p',hz'⟩:=I.list hq2;have hlen:=rv.length;have hlen':=rv'.length;obtain⟨sz,sTI,⟨x,y,sTO⟩,s1,s2⟩:=st;have hTy:s.TypeIs (.ref z) "zip":=⟨_,sz,rfl⟩;unfold pyNext;refine Zb (Xv (wpAny_callSpecial?_slot (name:=ofString "__next__") hTy Y2 (Yn Y2 hTy Wx (b0u (I.ok.hd hc) D sz sTI s1 (show s.heap.IsTuple a its.toArray from p) (by simp;omega) λh' e hk he=>?_) (Wt _))));obtain⟨oe,ho,hce⟩:=he;refine Zb (Wh (T:="StopIteration") (b:=true) ⟨oe,ho,hce⟩ Uj ?_);exact Ze ⟨rfl,I.turnedMany (t':=s.toks) (ch:=[z,TI,TO,i1,i2]) hf λc u hc q=>hk c u (λe=>hc (by simp[e])) (λe=>hc (by simp[e])) (λe=>hc (by simp[e])) (λe=>hc (by simp[e])) q⟩
 self:=λ_ _ _ _ _ st h=>U5 st.1 h
section
variable{X:Cx}
def iZipM(K:W.Frag)(ta:TA):TI:=λσ H R=>ta σ H λvs H1=>∃a b xs ys,vs=[.ref a,.ref b]/\SqT K H1 a xs/\SqL K H1 b ys/\ys.length=xs.length/\R (Izm K a b xs.length) H1
theorem c7t(K:W.Frag)(hK:X.K=K){elts:List Expr}{k:Nat}{tpos:Pos}{a b:Expr}{ta:TA}{p pos:Pos}(hg:Gl X "zip")(hm:X.mg "zip"=none)(ha:PA X [a,b] ta)(hs:starEach (a::[b]) X.env=(false,eval a X.env)::starEach [b] X.env:=by rfl)(hpl:(backTo pos (starEach [b] X.env)).any (·.1)=false:=by rfl):PI X (.Tuple elts k tpos) (.Call (.Name "zip" p) [a,b] [] pos) (iZipM K ta):=by
 subst hK;intro pins s σ H R I h;refine Call_ (a5c I hg hm (by decide+kernel:bootBuiltins "zip"=some (.type "zip")) (Ys (thn (ha pos pins s σ H _ I h) λus s1 ⟨vs,H1,I1,r1,q1⟩=>?_) hs hpl));obtain⟨l,l',xs,ys,e,hq,hq',hlen,q⟩:=q1;subst e;obtain⟨u,u',rfl,r1,r2⟩:=a8d r1;cases r1;cases r2;obtain⟨its,rv,pl,hz⟩:=I1.tuple hq;obtain⟨its',rv',pl',hz'⟩:=I1.list hq';have hlt:l<s1.heap.objs.size:=by obtain⟨o,ho,_⟩:=(show s1.heap.IsTuple l its.toArray from pl);exact Zl ho
 have hlt':l'<s1.heap.objs.size:=by obtain⟨o,ho,_⟩:=pl'.isList;exact Zl ho
 refine c5g (show s1.heap.IsTuple l its.toArray from pl) pl'.isList λh' he hTI hTO hi1 hi2 hsz hk=>U5 he ?_
 have D:ZipApart (s1.heap.objs.size+4) (s1.heap.objs.size+2) (s1.heap.objs.size+3) s1.heap.objs.size (s1.heap.objs.size+1) l l':=b6c _ _ _ hlt hlt';refine⟨_,[s1.heap.objs.size+4,s1.heap.objs.size+2,s1.heap.objs.size+3,s1.heap.objs.size,s1.heap.objs.size+1],_,_,H1,rfl,I1.kept (t':=s1.toks) hk,c5h _ _ _ _ _ l l' xs.length D,⟨he,hTI,⟨_,_,hTO⟩,hi1,hi2⟩,λb hb=>?_,q⟩;have hb:s1.heap.objs.size<=b:=by
  simp only[Zp,Z8,Xn]at hb;rcases hb with rfl|rfl|rfl|rfl|rfl
  ·exact Y9 _ _
  ·exact Y9 _ _
  ·exact Y9 _ _
  ·exact Zh _
  ·exact Y9 _ _
 exact I1.fpOk hb (I1.hok.fresh hb)
end
theorem iZipM_i{K:W.Frag}{σ:St}{H:Hp}{ta:TA}{R:It->Hp->Prop}(k:ta σ H λvs H1=>∃a b xs ys,vs=[.ref a,.ref b]/\SqT K H1 a xs/\SqL K H1 b ys/\ys.length=xs.length/\R (Izm K a b xs.length) H1):iZipM K ta σ H R:=k
theorem c7u{K:W.Frag}{a b:Addr}{xs ys:List V}{g:TG}{tb:TS}{D:Ends}{σ:St}{H:Hp}(hl:ys.length=xs.length)(Pv:Nat->St->Hp->Prop)(h0:Pv 0 σ H)(hok:∀i σ H,Pv i σ H->SqT K H a xs/\SqL K H b ys)
  (hs:∀i σ H T,i<xs.length->Pv i σ H->H T=none->g (.ref T) σ (upd H T (.tup [xs.getD i .non,ys.getD i .non])) λσ2 H2=>tb { D with nx:=Pv (i+1),ct:=Pv (i+1),bk:=D.nx} σ2 H2)(hd:∀σ H,Pv xs.length σ H->D.nx σ H):
  ForW (Izm K a b xs.length) g tb D σ H:=by
 refine⟨λi m σ H=>m=xs.length-i/\i<=xs.length/\Pv i σ H,⟨xs.length,qz,Yc _,h0⟩,?_⟩
 rintro i m σ H ⟨rfl,hi,p⟩
 obtain⟨q1,q2⟩:=hok i σ H p
 by_cases hlt:i<xs.length
 ·refine .inr ⟨⟨hlt,xs,ys,q1,q2,rfl,hl⟩,Pv (i+1),λσ' H' p'=>⟨xs.length-(i+1),qo,rfl,hlt,p'⟩,λx H' y=>?_⟩;obtain⟨T,u,u',hT,rfl,rfl,e1,e2⟩:=y;have e1:=e1 xs q1;have e2:=e2 ys q2;have f1:xs.getD i .non=u:=by rw[Zm,e1];rfl
  have f2:ys.getD i .non=u':=by rw[Zm,e2];rfl
  have:=hs i σ H T hlt p hT;rw[f1,f2]at this;exact this
 ·have e:i=xs.length:=by omega
  subst e;exact .inl ⟨⟨rfl,xs,ys,q1,q2,rfl,hl⟩,hd σ H p⟩
theorem ps_try0{X:Cx}{body:List Stmt}{h0:ExceptHandler}{hs:List ExceptHandler}{pos:Pos}{tb:TS}(hx:∀v s,X.xe v s->False)(hb:PSs X body tb):PS X (.Try body (h0::hs) [] [] pos) tb:=by
 intro pins s σ H D I h;refine wpAny_Try_except (W4 (hb pins s σ H D I h) (λf s1 q=>?_) λv s1 z=>(hx v s1 z).elim);cases f with
 |next=>exact Vk q
 |brk=>exact q
 |cont=>exact q
 |ret _=>exact q
def mNotB:R2:=λx y H Q=>∃a b,x=.bl a/\y=.bl b/\Q (.bl (!(a==b))) H
theorem mo_notB{X:Cx}:OpR X (compareOp .IsNot) mNotB:=by
 intro pins s σ H x y v u Q I rx ry h;obtain⟨a,b,rfl,rfl,q⟩:=h;cases rx;cases ry;have q:=a1h I q rfl;cases a<;>cases b<;>exact Ze q
section
variable{X:Cx}
def mEqE(K:Frag):R2:=λx y H Q=>∃(a b:Addr)(xs:List V),x=.ref a/\y=.ref b/\SqL K H a xs/\SqL K H b []/\Q (.bl xs.isEmpty) H
theorem ko_eqE(K:Frag)(hK:X.K=K)(hu:X.A.units+150<cLine):OpR X (compareOp .Eq) (mEqE K):=by
 subst hK;intro pins s σ H x y v u Q I rx ry h;obtain⟨a,b,xs,rfl,rfl,ha,hb,k⟩:=h;cases rx;cases ry;obtain⟨its,rv,p1,_⟩:=I.list ha;obtain⟨its',rv',p2,_⟩:=I.list hb;cases rv';cases rv with
 |nil=>exact SeqAt.RcAt.lists (e:=λ_=>true) p1.isList p2.isList rfl qo (λj h _=>absurd h (Tc j)) X.prog X.w _ _ ⟨.bl true,H,I,rfl,k⟩
 |cons _ _=>exact SeqAt.RcAt.lists_lengths p1.isList p2.isList rfl qo X.prog X.w _ _ ⟨.bl false,H,I,rfl,k⟩
theorem mEqE_i{K:Frag}{H:Hp}{Q:VK}{a b:Addr}{xs:List V}(h:SqL K H a xs)(h2:SqL K H b [])(k:Q (.bl xs.isEmpty) H):mEqE K (.ref a) (.ref b) H Q:=⟨a,b,xs,rfl,rfl,h,h2,k⟩
end
theorem su7{us:List Value}{P:List Value->Prop}(hl:us.length=7)(h:∀a b c d e f g,P [a,b,c,d,e,f,g]):P us:=by cases us with|nil=>cases hl|cons a r=>exact su6 (P:=λr=>P (a::r)) (Va hl) (h a)
theorem bi7{K:Frag}{fd:FuncData}{a b c d e f g:Str}(h:∀x y z u v w o,bindArgs fd ⟨[x,y,z,u,v,w,o],[]⟩=pure [(a,x),(b,y),(c,z),(d,u),(e,v),(f,w),(g,o)]):Binds K fd [a,b,c,d,e,f,g] []:=.all λus hl=>su7 (P:=λus=>bindArgs fd ⟨us,[]⟩=pure (([a,b,c,d,e,f,g]:List Str).zip us)) hl h
end L2
namespace My
open PySem PySem.Spec PyProof.Rows L2
mutual
def ord:Trm->List Str->List Str
 | .any x,a=>if x∈a then a else a++[x]
 | .num _,a=>a
 | .app _ ks,a=>ordL ks a
def ordL:List Trm->List Str->List Str
 | [],a=>a
 |k::ks,a=>ordL ks (ord k a)
end
mutual
def ren(f:Str->Str):Trm->Trm
 | .any x=>.any (f x)
 | .num m=>.num m
 | .app s ks=>.app s (renL f ks)
def renL(f:Str->Str):List Trm->List Trm
 | []=>[]
 |k::ks=>ren f k::renL f ks
end
mutual
def vars:Trm->List Str
 | .any x=>[x]
 | .num _=>[]
 | .app _ ks=>a3j ks
def a3j:List Trm->List Str
 | []=>[]
 |k::ks=>vars k++a3j ks
end
theorem b3i:∀(a b:List Trm)(acc:List Str),ordL (a++b) acc=ordL b (ordL a acc)
 | [],b,acc=>by rw[Wp,ordL]
 |k::a,b,acc=>by rw[Wk,ordL,ordL,b3i a b]
theorem c7v(t:Trm)(acc:List Str):ordL [t] acc=ord t acc:=by rw[ordL,ordL]
mutual
theorem ord_mem:∀(t:Trm)(a:List Str)(x:Str),x∈ord t a↔x∈a\/x∈vars t
 | .any y,a,x=>by
  rw[ord,vars]
  split
  ·rename_i h
   constructor
   ·exact .inl
   ·rintro(z|z)
    ·exact z
    ·rw[Zs.mp z];exact h
  ·rw[Zx]
 | .num _,a,x=>by rw[ord,vars];simp
 | .app _ ks,a,x=>by rw[ord,vars];exact a5j ks a x
theorem a5j:∀(ts:List Trm)(a:List Str)(x:Str),x∈ordL ts a↔x∈a\/x∈a3j ts
 | [],a,x=>by rw[ordL,a3j];simp
 |k::ks,a,x=>by rw[ordL,a3j,a5j ks,ord_mem k,Zx,or_assoc]
end
mutual
theorem ord_nod:∀(t:Trm)(a:List Str),a.Nodup->(ord t a).Nodup
 | .any y,a,h=>by
  rw[ord]
  split
  ·exact h
  ·rename_i hy;exact Ws.mpr ⟨h,qz,λu hu v hv e=>hy (by rw[<-Zs.mp hv,<-e];exact hu)⟩
 | .num _,a,h=>by rw[ord];exact h
 | .app _ ks,a,h=>by rw[ord];exact b3j ks a h
theorem b3j:∀(ts:List Trm)(a:List Str),a.Nodup->(ordL ts a).Nodup
 | [],a,h=>by rw[ordL];exact h
 |k::ks,a,h=>by rw[ordL];exact b3j ks _ (ord_nod k a h)
end
mutual
theorem c0t:∀(t:Trm)(a:List Str),(ord t a).length<=a.length+t.size
 | .any y,a=>by
  rw[ord]
  split
  ·omega
  ·rw[Zf];simp[Trm.size]
 | .num _,a=>by rw[ord];omega
 | .app _ ks,a=>by rw[ord];have:=a9p ks a;simp only[Trm.size];omega
theorem a9p:∀(ts:List Trm)(a:List Str),(ordL ts a).length<=a.length+Trm.sizeL ts
 | [],a=>by rw[ordL];omega
 |k::ks,a=>by
  rw[ordL];have h1:=c0t k a;have h2:=a9p ks (ord k a);simp only[Trm.sizeL];omega
end
theorem a6b(f:Str->Str):∀ts:List Trm,renL f ts=ts.map (ren f)
 | []=>by rw[renL];rfl
 |k::ks=>by rw[renL,a6b f ks];rfl
abbrev As:=List (Str×Str)
def encS(as:As):List (Key×V):=as.map λr=>(Sum.inr r.1,V.str r.2)
def sub(as:As)(x:Str):Str:=((as.find? λr=>decide (r.1=x)).map (·.2)).getD x
theorem c0u(as:As):(encS as).length=as.length:=by simp[encS]
theorem b5g:∀(as:As)(x:Str),valV (encS as) (Sum.inr x)=((as.find? λr=>decide (r.1=x)).map (·.2)).map V.str
 | [],x=>rfl
 |r::as,x=>by
  by_cases e:r.1=x
  ·rw[show encS (r::as)=(Sum.inr r.1,V.str r.2)::encS as from rfl,a9h (by show Sum.inr r.1=Sum.inr x;rw[e]),Wc,Zt e];rfl
  ·rw[show encS (r::as)=(Sum.inr r.1,V.str r.2)::encS as from rfl,a9i (λz=>e (Uk z)),Wc,Zo e,b5g as x]
theorem c5i{as:As}{x:Str}(h:x∉as.map (·.1)):(as.find? λr=>decide (r.1=x))=none:=by
 rw[Uu];intro r hr e;exact h (Z4.mpr ⟨r,hr,Zr e⟩)
theorem c5j{as:As}{x:Str}(h:x∈as.map (·.1)):∃y,(as.find? λr=>decide (r.1=x))=some (x,y):=by
 cases e:as.find? λr=>decide (r.1=x)with
 |none=>
  obtain⟨r,hr,z⟩:=Z4.mp h;exact absurd (Zt z) (Uu.mp e r hr)
 |some r=>
  have h2:decide (r.1=x)=true:=List.find?_some (p:=λr:Str×Str=>decide (r.1=x)) e;have:=Zr h2;exact⟨r.2,by rw[<-this]⟩
theorem val_sub{as:As}{x:Str}(h:x∈as.map (·.1)):valV (encS as) (Sum.inr x)=some (.str (sub as x)):=by
 obtain⟨y,e⟩:=c5j h;rw[b5g,sub,e];rfl
theorem val_new{as:As}{x:Str}(h:x∉as.map (·.1)):valV (encS as) (Sum.inr x)=none:=by rw[b5g,c5i h];rfl
theorem put_enc{as:As}{x y:Str}(h:x∉as.map (·.1)):putK (encS as) (Sum.inr x) (.str y)=encS (as++[(x,y)]):=by
 rw[c6t _ (val_new h),encS,encS,Zi];rfl
def mkA(f:Nat->Str->Str):Nat->List Str->As
 |_,[]=>[]
 |i,x::u=>(x,f i x)::mkA f (i+1) u
theorem a9q(f:Nat->Str->Str):∀(i:Nat)(u:List Str),(mkA f i u).map (·.1)=u
 |_,[]=>rfl
 |i,x::u=>by rw[mkA,Z2,a9q f (i+1) u]
theorem c0v(f:Nat->Str->Str)(i:Nat)(u:List Str):(mkA f i u).length=u.length:=by
 rw[<-length_map (f:=λr:Str×Str=>r.1),a9q]
theorem b8o(f:Nat->Str->Str):∀(i:Nat)(u:List Str)(x:Str),mkA f i (u++[x])=mkA f i u++[(x,f (i+u.length) x)]
 |i,[],x=>rfl
 |i,y::u,x=>by
  rw[Wk,mkA,mkA,b8o f (i+1) u x,Wk,length_cons];rw[show i+1+u.length=i+(u.length+1) by omega]
theorem mem_idx{u:List Str}{x:Str}(h:x∈u):∃j:Nat,u[j]? =some x:=Ug.mp h
def tn(n:Nat):Str:=⟨(a3b n).toArray⟩
def uS:Str:=ofString "U"
def anew(ts:List Trm):List Trm:=renL (sub (mkA (λj _=>uS++tn (j+1)) 0 (ordL ts []))) ts
theorem c7w{u:List Str}(hn:u.Nodup){i:Nat}(hi:i<u.length):u[i]∉u.take i:=λh=>by
 obtain⟨j,hj⟩:=mem_idx h;have hl:=(Z3.mp hj).1;rw[Z7]at hl;rw[Tq qo]at hj;have hj':=Z3.mp hj;have hp:=Vu.mp (List.nodup_iff_pairwise_ne.mp hn) j i hj'.1 hi qo;exact hp hj'.2
theorem put_mkA(f:Nat->Str->Str){u:List Str}(hn:u.Nodup){i:Nat}(hi:i<u.length){y:Str}(hy:y=f i u[i]):putK (encS (mkA f 0 (u.take i))) (Sum.inr u[i]) (.str y)=encS (mkA f 0 (u.take (i+1))):=by
 rw[put_enc (by rw[a9q];exact c7w hn hi),Wr,Za hi]
 show _=encS (mkA f 0 (u.take i++[u[i]]))
 rw[b8o,Z7,Ub qo,Nat.zero_add,hy]
theorem c5k{u:List Str}{i:Nat}(hi:i<u.length):(u.map V.str).getD i .non=.str u[i]:=by rw[Zm,Zz,Za hi];rfl
theorem nodL(ts:List Trm):(ordL ts []).Nodup:=b3j ts [] qz
theorem c7x{ts:List Trm}{x:Str}(h:x∈a3j ts):x∈ordL ts []:=(a5j ts [] x).mpr (.inr h)
theorem vars_in{ts:List Trm}{t:Trm}(h:t∈ts):∀x∈vars t,x∈a3j ts:=λx hx=>by
 induction ts with
 |nil=>simp at h
 |cons a r ih=>
  rw[a3j,Zx];rcases Zp.mp h with z|z
  ·subst z;exact .inl hx
  ·exact .inr (ih z)
local macro_rules | `(tactic| walk_at "r") => `(tactic| first | decide | exact Zh _ | exact Nat.le_add_left_of_le qd | omega)
local macro_rules | `(tactic| walk_at "or1") => `(tactic| first | exact Or.inl rfl | exact Or.inr rfl)
local macro_rules | `(tactic| walk_at "q") => `(tactic| first | refine tAsg_i ?_ | refine a7j ?_ | refine tRet_i ?_ | refine tIfS_i ?_ | refine tNext_i ?_ | refine tDrop_i ?_ | refine mTest_i ?_ | refine mTrue_i ?_ | refine mTru_b ?_ | refine mB_i ?_ | refine tOp_i ?_ | refine tUn_i ?_ | refine mUn_i ?_ | refine m20_i ?_ | refine mAdd_i ?_ | refine mEq_i ?_ | refine mEq_s ?_ | refine mEq_b ?_ | refine mInS_i ?_ | (refine' mVar_i ?hv ?_; (case hv => with_unfolding_all rfl)) | refine tC_i ?_ | refine c7a ?_ | refine mAndV_i ?_ | refine mOrV_i ?_ | refine mNotV_i ?_ | refine tIf_i ?_ | refine tAnd_i ?_ | refine tOr_i ?_ | refine tNot_i ?_ | refine tCB_i ?_ | refine c7b ?_ | refine tCons_i ?_ | refine tNil_i ?_ | refine tBM_i ?_ | refine tBM0_i ?_ | refine tTup_i ?_ | refine tLst_i ?_ | refine tSl_i ?_ | refine c4i ?_ | refine mPart_i ?_ | refine mI_i ?_ | refine is_str ?_ | refine mMin_i ?_ | refine isN_non ?_ | refine isN_ref ?_ | refine mInt_b ?_ | refine tDGet_i ?_ | refine c7g ?_ | refine sDPut_i ?_ | refine iEnum_i ?_ | refine c4t ?_ | refine gCons_i ?_ | refine gNil_i ?_ | refine c7d ?_ | (refine' mAug_i ?hw ?_; (case hw => with_unfolding_all rfl)) | refine tFor_i ?_ | refine tFld_i ?_ | refine sFld_i ?_ | refine tMeth_i ?_ | refine tMake_i ?_ | refine gSub_i ?_ | refine iZipM_i ?_ | refine c2c ?_ | refine tF2n_i ?_ | refine c4t ?_ | refine iStr_i ?_ | refine iList_i ?_ | refine iTup_i ?_ | refine iRng1_i ?_ | refine tComp_i ?_ | (refine m2_i ?hc ?_; (case hc => first | (show (0 : Int) < _; decide) | exact c4h qd qd)))
local macro_rules | `(tactic| walk_at "s") => `(tactic| repeat (with_reducible first | refine tSeq_i ?_ | walk_at "q"))
local macro_rules | `(tactic| walk_at "m") => `(tactic| repeat (with_reducible walk_at "q"))
local macro_rules | `(tactic| ext) => `(tactic| walk_at "s")
local macro_rules | `(tactic| nofun) => `(tactic| walk_at "or1")
local macro_rules | `(tactic| ac_rfl) => `(tactic| walk_at "r")
noncomputable def top(i:Nat):Stmt:=PySem.Challenge.pw_goaltrail_k70_good_yes_rows.main.body.getD i (.Pass ⟨0,0,0,0⟩)
abbrev a6y:Stmt:=inClass (top 52) 0
abbrev a6c:Stmt:=inClass (top 52) 1
abbrev a5k:Stmt:=inClass (top 52) 2
abbrev a4e:Stmt:=inClass (top 52) 3
abbrev a3k:Stmt:=inClass (top 52) 4
abbrev b0x:Stmt:=top 11
abbrev s_a9:Stmt:=top 12
abbrev a9r:Stmt:=top 13
abbrev a6n:Stmt:=top 14
abbrev b0y:Stmt:=top 15
abbrev b3k:Stmt:=top 22
abbrev b0z:Stmt:=top 28
abbrev a6z:Stmt:=top 38
abbrev a8f:Stmt:=top 39
abbrev a6o:Stmt:=top 40
abbrev a9s:Stmt:=top 45
abbrev b1a:Stmt:=top 46
abbrev b1b:Stmt:=top 47
abbrev b5h:Stmt:=top 53
abbrev a8g:Stmt:=top 54
abbrev b3l:Stmt:=top 56
abbrev a6v:Stmt:=top 57
abbrev a8h:Stmt:=top 58
abbrev a9t:Stmt:=top 59
abbrev b3m:Stmt:=top 60
abbrev b3n:Stmt:=top 61
abbrev a9u:Stmt:=top 62
abbrev a9a:Stmt:=top 63
abbrev a9v:Stmt:=top 64
abbrev a9w:Stmt:=top 65
abbrev a6d:Stmt:=top 66
abbrev b1c:Stmt:=top 67
abbrev a7v:Stmt:=top 68
abbrev a7f:Stmt:=top 69
abbrev a5e:Stmt:=top 70
abbrev b5i:Stmt:=top 71
abbrev b3o:Stmt:=top 72
abbrev a6p:Stmt:=top 73
abbrev b4o:Stmt:=top 74
theorem b5j:a0z ["self","rules","rows"] ["self","rules","rows"] (a0n a6y):=qn
theorem b4p:a0z ["self","place","number","kind"] ["self","place","number","kind"] (a0n a6c):=qn
theorem a7a:a0z ["self","place","row"] ["self","place"] (a0n a5k):=qn
theorem a9b:a0z ["self","place","goal","number","kids"] ["self","place","goal","number","kids"] (a0n a4e):=qn
theorem a2a:a0z ["self","place","goal","number","kids","told","puts","asked","kid"] ["self","place","goal","number","kids"] (a0n a3k):=qn
theorem c2e:a0z ["name"] ["name"] (a0n b0x):=qn
theorem sc_a9:a0z ["sign","kids"] ["sign","kids"] (a0n s_a9):=qn
theorem b9q:a0z ["sign"] ["sign"] (a0n a9r):=qn
theorem b8p:a0z ["text","firsts"] ["text","firsts"] (a0n a6n):=qn
theorem c2f:a0z ["text"] ["text"] (a0n b0y):=qn
theorem c5l:a0z ["term"] ["term"] (a0n b3k):=qn
theorem a5r:a0z ["one","other","puts","new","todo","pair","kids"] ["one","other","puts"] (a0n b0z):=qn
theorem a4z:a0z ["terms","found","todo","part"] ["terms"] (a0n a6z):=qn
theorem c2g:a0z ["term","names"] ["term","names"] (a0n a8f):=qn
theorem a5s:a0z ["terms","names","name","number"] ["terms"] (a0n a6o):=qn
theorem b9r:a0z ["term"] ["term"] (a0n a9s):=qn
theorem c2h:a0z ["goal"] ["goal"] (a0n b1a):=qn
theorem a5t:a0z ["rules","found","place","told","terms"] ["rules"] (a0n b1b):=qn
theorem c7y:a0z ["goal"] ["goal"] (a0n b5h):=qn
theorem b4q:a0z ["rules","rows","looker"] ["rules","rows"] (a0n a8g):=qn
theorem b1d:a0z ["_law_script","_law_k","_law_number_here"] ["_law_script","_law_k"] (a0n b3l):=qn
theorem a2r:a0z ["_law_cell_here","_law_many","_law_first","_law_signs","_law_size","_law_at","_law_names_here","_law_j","_law_name","_law_k","_law_place"] ["_law_cell_here","_law_many","_law_first"] (a0n a6v):=qn
theorem b4r:a0z ["_law_cell_here","_law_many","_law_words_here"] ["_law_cell_here","_law_many"] (a0n a8h):=qn
theorem b9s:a0z ["_law_cell_here"] ["_law_cell_here"] (a0n a9t):=qn
theorem c5m:a0z ["_law_cell_here","_law_many","_law_words_here"] ["_law_cell_here","_law_many","_law_words_here"] (a0n b3m):=qn
theorem a3w:a0z ["_law_cells","_law_names_here","_law_words_here","_law_left","_law_cell_here","_law_many","_law_kids"] ["_law_cells","_law_names_here","_law_words_here"] (a0n b3n):=qn
theorem b9t:a0z ["_law_state"] ["_law_state"] (a0n a9u):=qn
theorem a9x:a0z ["_law_term_here","_law_parted","_law_names_here","_law_state","_law_within","_law_turn","_law_k","_law_name"] ["_law_term_here","_law_parted","_law_names_here","_law_state","_law_within"] (a0n a9a):=qn
theorem a8i:a0z ["_law_names_here","_law_words_here","_law_state","_law_kids","_law_k","_law_cells"] ["_law_names_here","_law_words_here","_law_state"] (a0n a9v):=qn
theorem b6g:a0z ["_law_names_here","_law_words_here","_law_state","_law_one"] ["_law_names_here","_law_words_here","_law_state"] (a0n a9w):=qn
theorem a2v:a0z ["_law_goal_here","_law_rules","_law_rows","_law_names_here","_law_words_here","_law_state","_law_deep","_law_at","_law_number_here","_law_parted","_law_head","_law_more_here","_law_goals","_law_kids","_law_turned_here","_law_k","_law_place"] ["_law_goal_here","_law_rules","_law_rows","_law_names_here","_law_words_here","_law_state","_law_deep"] (a0n a6d):=qn
theorem a7g:a0z ["_law_term_here","_law_state","_law_names_here","_law_words_here","_law_turn","_law_at","_law_kids"] ["_law_term_here","_law_state","_law_names_here","_law_words_here"] (a0n b1c):=qn
theorem a5i:a0z ["_law_terms","_law_found","_law_term_here"] ["_law_terms","_law_found"] (a0n a7v):=qn
theorem b9u:a0z ["_law_term_here","_law_one","_law_other_here"] ["_law_term_here","_law_one","_law_other_here"] (a0n a7f):=qn
theorem a2d:a0z ["_law_rules","_law_turn","_law_some","_law_k","_law_head","_law_goals","_law_there","_law_mine","_law_one","_law_other_here","_law_at"] ["_law_rules","_law_turn"] (a0n a5e):=qn
theorem a9y:a0z ["_law_pattern","_law_term_here","_law_due_here","_law_k"] ["_law_pattern","_law_term_here","_law_due_here"] (a0n b5i):=qn
theorem a4t:a0z ["_law_rules","_law_rows","_law_at","_law_goal_here","_law_number_here","_law_kids","_law_due_here","_law_k"] ["_law_rules","_law_rows","_law_at"] (a0n b3o):=qn
theorem a1p:a0z ["_law_rules","_law_rows","_law_way","_law_names_here","_law_words_here","_law_state","_law_at","_law_goal_here","_law_number_here","_law_kids","_law_turn","_law_k","_law_head","_law_goals"] ["_law_rules","_law_rows","_law_way","_law_names_here","_law_words_here","_law_state"] (a0n a6p):=qn
theorem a5f:a0z ["_law_script","_law_names_here","_law_words_here","_law_state","_law_rules","_law_rows","_law_due_here","_law_kept","_law_turn","_law_found"] ["_law_script"] (a0n b4o):=qn
set_option genInjectivity false in
structure Ad where
 k_a1:Addr
 a_e0:Addr
 d_e0:FuncData
 a_d7:Addr
 d_d7:FuncData
 a_d6:Addr
 d_d6:FuncData
 a_d8:Addr
 d_d8:FuncData
 a_d5:Addr
 d_d5:FuncData
 a_b8:Addr
 d_b8:FuncData
 a_a9:Addr
 d_a9:FuncData
 a_c3:Addr
 d_c3:FuncData
 a_d1:Addr
 d_d1:FuncData
 a_d3:Addr
 d_d3:FuncData
 a_b9:Addr
 d_b9:FuncData
 a_b6:Addr
 d_b6:FuncData
 a_c2:Addr
 d_c2:FuncData
 a_b1:Addr
 d_b1:FuncData
 a_c7:Addr
 d_c7:FuncData
 a_c1:Addr
 d_c1:FuncData
 a_d0:Addr
 d_d0:FuncData
 a_d2:Addr
 d_d2:FuncData
 a_d4:Addr
 d_d4:FuncData
 a_b7:Addr
 d_b7:FuncData
 a_a8:Addr
 d_a8:FuncData
 a_b3:Addr
 d_b3:FuncData
 a_c4:Addr
 d_c4:FuncData
 a_c9:Addr
 d_c9:FuncData
 a_c5:Addr
 d_c5:FuncData
 a_b4:Addr
 d_b4:FuncData
 a_a0:Addr
 d_a0:FuncData
 a_a5:Addr
 d_a5:FuncData
 a_a6:Addr
 d_a6:FuncData
 a_b5:Addr
 d_b5:FuncData
 a_b0:Addr
 d_b0:FuncData
 a_a3:Addr
 d_a3:FuncData
 a_a4:Addr
 d_a4:FuncData
 a_b2:Addr
 d_b2:FuncData
 a_c8:Addr
 d_c8:FuncData
 a_a7:Addr
 d_a7:FuncData
 a_c0:Addr
 d_c0:FuncData
 a_c6:Addr
 d_c6:FuncData
 a_law:Addr
 d_law:FuncData
 t_e3:Tok
 t_e4:Tok
 t_e8:Tok
 t_e9:Tok
 t_f0:Tok
 t_e6:Tok
structure Txt(K:W.Frag)(mg:Str->Option Value)(t:Ad):Prop where
 m_a1:mg "Looker"=some (.ref t.k_a1)
 cl_a1:Cls K t.k_a1
 no_a1_rules:a4h K t.k_a1 "rules"
 no_a1_worded:a4h K t.k_a1 "worded"
 no_a1_rows:a4h K t.k_a1 "rows"
 mk_a1:Mk K t.k_a1 t.a_e0
 me_d7:Meth K t.k_a1 "leads" t.a_d7
 me_d6:Meth K t.k_a1 "is_good" t.a_d6
 me_d8:Meth K t.k_a1 "is_good_yes" t.a_d8
 me_d5:Meth K t.k_a1 "is_by_rule" t.a_d5
 F_e0:Fun K "__init__" "Looker.__init__" a6y t.a_e0 t.d_e0
 b_e0:Binds K t.d_e0 ["self","rules","rows"] []
 F_d7:Fun K "leads" "Looker.leads" a6c t.a_d7 t.d_d7
 b_d7:Binds K t.d_d7 ["self","place","number","kind"] []
 F_d6:Fun K "is_good" "Looker.is_good" a5k t.a_d6 t.d_d6
 b_d6:Binds K t.d_d6 ["self","place"] []
 F_d8:Fun K "is_good_yes" "Looker.is_good_yes" a4e t.a_d8 t.d_d8
 b_d8:Binds K t.d_d8 ["self","place","goal","number","kids"] []
 F_d5:Fun K "is_by_rule" "Looker.is_by_rule" a3k t.a_d5 t.d_d5
 b_d5:Binds K t.d_d5 ["self","place","goal","number","kids"] []
 F_b8:Fun K "unknown" "unknown" b0x t.a_b8 t.d_b8
 b_b8:Binds K t.d_b8 ["name"] []
 m_b8:mg "unknown"=some (.ref t.a_b8)
 F_a9:Fun K "app" "app" s_a9 t.a_a9 t.d_a9
 b_a9:Binds K t.d_a9 ["sign","kids"] []
 m_a9:mg "app"=some (.ref t.a_a9)
 F_c3:Fun K "is_inner" "is_inner" a9r t.a_c3 t.d_c3
 b_c3:Binds K t.d_c3 ["sign"] []
 m_c3:mg "is_inner"=some (.ref t.a_c3)
 F_d1:Fun K "is_called" "is_called" a6n t.a_d1 t.d_d1
 b_d1:Binds K t.d_d1 ["text","firsts"] []
 m_d1:mg "is_called"=some (.ref t.a_d1)
 F_d3:Fun K "is_word" "is_word" b0y t.a_d3 t.d_d3
 b_d3:Binds K t.d_d3 ["text"] []
 m_d3:mg "is_word"=some (.ref t.a_d3)
 F_b9:Fun K "key_of" "key_of" b3k t.a_b9 t.d_b9
 b_b9:Binds K t.d_b9 ["term"] []
 m_b9:mg "key_of"=some (.ref t.a_b9)
 F_b6:Fun K "matched" "matched" b0z t.a_b6 t.d_b6
 b_b6:Binds K t.d_b6 ["one","other","puts"] []
 m_b6:mg "matched"=some (.ref t.a_b6)
 F_c2:Fun K "unknowns_of" "unknowns_of" a6z t.a_c2 t.d_c2
 b_c2:Binds K t.d_c2 ["terms"] []
 m_c2:mg "unknowns_of"=some (.ref t.a_c2)
 F_b1:Fun K "renamed" "renamed" a8f t.a_b1 t.d_b1
 b_b1:Binds K t.d_b1 ["term","names"] []
 m_b1:mg "renamed"=some (.ref t.a_b1)
 F_c7:Fun K "told_anew" "told_anew" a6o t.a_c7 t.d_c7
 b_c7:Binds K t.d_c7 ["terms"] []
 m_c7:mg "told_anew"=some (.ref t.a_c7)
 F_c1:Fun K "is_named" "is_named" a9s t.a_c1 t.d_c1
 b_c1:Binds K t.d_c1 ["term"] []
 m_c1:mg "is_named"=some (.ref t.a_c1)
 F_d0:Fun K "word_of" "word_of" b1a t.a_d0 t.d_d0
 b_d0:Binds K t.d_d0 ["goal"] []
 m_d0:mg "word_of"=some (.ref t.a_d0)
 F_d2:Fun K "by_word" "by_word" b1b t.a_d2 t.d_d2
 b_d2:Binds K t.d_d2 ["rules"] []
 m_d2:mg "by_word"=some (.ref t.a_d2)
 F_d4:Fun K "holds" "holds" b5h t.a_d4 t.d_d4
 b_d4:Binds K t.d_d4 ["goal"] []
 m_d4:mg "holds"=some (.ref t.a_d4)
 F_b7:Fun K "lets_by" "lets_by" a8g t.a_b7 t.d_b7
 b_b7:Binds K t.d_b7 ["rules","rows"] []
 m_b7:mg "lets_by"=some (.ref t.a_b7)
 F_a8:Fun K "_law_cell" "_law_cell" b3l t.a_a8 t.d_a8
 b_a8:Binds K t.d_a8 ["_law_script","_law_k"] []
 m_a8:mg "_law_cell"=some (.ref t.a_a8)
 F_b3:Fun K "_law_names" "_law_names" a6v t.a_b3 t.d_b3
 b_b3:Binds K t.d_b3 ["_law_cell_here","_law_many","_law_first"] []
 m_b3:mg "_law_names"=some (.ref t.a_b3)
 F_c4:Fun K "_law_words" "_law_words" a8h t.a_c4 t.d_c4
 b_c4:Binds K t.d_c4 ["_law_cell_here","_law_many"] []
 m_c4:mg "_law_words"=some (.ref t.a_c4)
 F_c9:Fun K "_law_number" "_law_number" a9t t.a_c9 t.d_c9
 b_c9:Binds K t.d_c9 ["_law_cell_here"] []
 m_c9:mg "_law_number"=some (.ref t.a_c9)
 F_c5:Fun K "_law_sign" "_law_sign" b3m t.a_c5 t.d_c5
 b_c5:Binds K t.d_c5 ["_law_cell_here","_law_many","_law_words_here"] []
 m_c5:mg "_law_sign"=some (.ref t.a_c5)
 F_b4:Fun K "_law_term" "_law_term" b3n t.a_b4 t.d_b4
 b_b4:Binds K t.d_b4 ["_law_cells","_law_names_here","_law_words_here"] []
 m_b4:mg "_law_term"=some (.ref t.a_b4)
 F_a0:Fun K "_law_turned" "_law_turned" a9u t.a_a0 t.d_a0
 b_a0:Binds K t.d_a0 ["_law_state"] []
 m_a0:mg "_law_turned"=some (.ref t.a_a0)
 F_a5:Fun K "_law_dug" "_law_dug" a9a t.a_a5 t.d_a5
 b_a5:Binds K t.d_a5 ["_law_term_here","_law_parted","_law_names_here","_law_state","_law_within"] []
 m_a5:mg "_law_dug"=some (.ref t.a_a5)
 F_a6:Fun K "_law_goal" "_law_goal" a9v t.a_a6 t.d_a6
 b_a6:Binds K t.d_a6 ["_law_names_here","_law_words_here","_law_state"] []
 m_a6:mg "_law_goal"=some (.ref t.a_a6)
 F_b5:Fun K "_law_more" "_law_more" a9w t.a_b5 t.d_b5
 b_b5:Binds K t.d_b5 ["_law_names_here","_law_words_here","_law_state"] []
 m_b5:mg "_law_more"=some (.ref t.a_b5)
 F_b0:Fun K "_law_show" "_law_show" a6d t.a_b0 t.d_b0
 b_b0:Binds K t.d_b0 ["_law_goal_here","_law_rules","_law_rows","_law_names_here","_law_words_here","_law_state","_law_deep"] []
 m_b0:mg "_law_show"=some (.ref t.a_b0)
 F_a3:Fun K "_law_other" "_law_other" b1c t.a_a3 t.d_a3
 b_a3:Binds K t.d_a3 ["_law_term_here","_law_state","_law_names_here","_law_words_here"] []
 m_a3:mg "_law_other"=some (.ref t.a_a3)
 F_a4:Fun K "_law_unknowns" "_law_unknowns" a7v t.a_a4 t.d_a4
 b_a4:Binds K t.d_a4 ["_law_terms","_law_found"] []
 m_a4:mg "_law_unknowns"=some (.ref t.a_a4)
 F_b2:Fun K "_law_called" "_law_called" a7f t.a_b2 t.d_b2
 b_b2:Binds K t.d_b2 ["_law_term_here","_law_one","_law_other_here"] []
 m_b2:mg "_law_called"=some (.ref t.a_b2)
 F_c8:Fun K "_law_renamed" "_law_renamed" a5e t.a_c8 t.d_c8
 b_c8:Binds K t.d_c8 ["_law_rules","_law_turn"] []
 m_c8:mg "_law_renamed"=some (.ref t.a_c8)
 F_a7:Fun K "_law_due" "_law_due" b5i t.a_a7 t.d_a7
 b_a7:Binds K t.d_a7 ["_law_pattern","_law_term_here","_law_due_here"] []
 m_a7:mg "_law_due"=some (.ref t.a_a7)
 F_c0:Fun K "_law_good" "_law_good" b3o t.a_c0 t.d_c0
 b_c0:Binds K t.d_c0 ["_law_rules","_law_rows","_law_at"] []
 m_c0:mg "_law_good"=some (.ref t.a_c0)
 F_c6:Fun K "_law_spoiled" "_law_spoiled" a6p t.a_c6 t.d_c6
 b_c6:Binds K t.d_c6 ["_law_rules","_law_rows","_law_way","_law_names_here","_law_words_here","_law_state"] []
 m_c6:mg "_law_spoiled"=some (.ref t.a_c6)
 F_law:Fun K "law" "law" b4o t.a_law t.d_law
 b_law:Binds K t.d_law ["_law_script"] []
 m_law:mg "law"=some (.ref t.a_law)
 n_f1:mg "all"=none
 n_f8:mg "bool"=none
 n_f6:mg "dict"=none
 n_f9:mg "enumerate"=none
 n_e5:mg "int"=none
 n_f4:mg "isinstance"=none
 n_a2:mg "len"=none
 n_e1:mg "list"=none
 n_f2:mg "min"=none
 n_d9:mg "range"=none
 n_f5:mg "reversed"=none
 n_e7:mg "str"=none
 n_f7:mg "sum"=none
 n_e2:mg "tuple"=none
 n_f3:mg "zip"=none
 m_e3:mg "NOT"=some (.str "not" t.t_e3)
 m_e4:mg "SMALL"=some (.str "abcdefghijklmnopqrstuvwxyz" t.t_e4)
 m_e8:mg "GREAT"=some (.str "ABCDEFGHIJKLMNOPQRSTUVWXYZ" t.t_e8)
 m_e9:mg "FIGURES"=some (.str "0123456789" t.t_e9)
 m_f0:mg "MOST_LETTERS"=some (.int 12 t.t_f0)
 m_e6:mg "KEEP"=some (.str "keep" t.t_e6)
local macro_rules | `(tactic| exists $e:ident) => `(tactic| refine iteB (fun $e => ?_) (fun $e => ?_))
local macro_rules | `(tactic| exists $f:ident $a*) => `(tactic| (refine $f $a* ?_; walk_at "s"))
local macro_rules | `(tactic| exists $f:ident $a*, $sp:ident, $D, $H:ident, $Q:ident, $E:ident, $hr:ident, $h:ident) => `(tactic| (refine $f $a* (fun vs H Q E h => by unfold $sp at h; split at h <;> first | rfl | exact h.elim) (fun cdv A outer s $H vs $Q $E $hr $h => ?_); unfold $sp at $h:ident; split at $h:ident; rotate_left; exact ($h).elim; refine ⟨_, $D, ?_⟩))
theorem em_eq:ofString ""=⟨([]:List Nat).toArray⟩:=by decide+kernel
theorem c5n{B:Nat}{x c:Int}(h:x.natAbs<2^B)(g:c.natAbs<8388608):(c+31337*x).natAbs<2^(B+24):=by
 have h1:=Int.natAbs_add_le c (31337*x);have h2:(31337*x).natAbs=31337*x.natAbs:=Int.natAbs_mul 31337 x;rw[Nat.pow_add];have h3:=Nat.two_pow_pos B;generalize 2^B=M at*;rw[h2]at h1;have h4:M*2^24=16777216*M:=by rw[Nat.mul_comm]
 omega
abbrev b1e(K:W.Frag):Sp:=λvs H Q _=>match vs with| [.ref a,.int k]=>∃ns:List Int,SqL K H a (ns.map V.int)/\(∀n∈ns,Builtin.Int.intBits n<=1048576)/\0<=k/\k<=1000/\∀v,Q (.int v) H|_=>False
abbrev a6m:Sp:=λvs H Q _=>match vs with| [.int c]=>∀v,Q (.int v) H|_=>False
abbrev b1f(K:W.Frag):Sp:=λvs H Q _=>match vs with| [.int c,.int m,.ref wp]=>∃ws:List Str,SqL K H wp (ws.map V.str)/\1<=ws.length/\ws.length<=10/\(∀x∈ws,x.length<=30)/\∀(x:Str)(H':Hp),x.length<=30->Same H H'->Q (.str x) H'|_=>False
mutual
def vin(xs:List Str):Trm->Prop
 | .num _=>True
 | .any x=>x∈xs
 | .app _ ks=>vinL xs ks
def vinL(xs:List Str):List Trm->Prop
 | []=>True
 |t::r=>vin xs t/\vinL xs r
end
theorem b3p{xs:List Str}:∀{ts:List Trm},vinL xs ts↔∀t∈ts,vin xs t
 | []=>⟨λ_ _ h=>by simp at h,λ_=>by simp[vinL]⟩
 |t::r=>by
  simp only[vinL,Zp,forall_eq_or_imp];exact and_congr_right λ_=>b3p
abbrev a8j(K:W.Frag):Sp:=λvs H Q _=>match vs with| [.ref cp,.ref np,.ref wp]=>∃(cs:List Int)(xs ws:List Str),SqL K H cp (cs.map V.int)/\cs.length<=40/\SqL K H np (xs.map V.str)/\1<=xs.length/\xs.length<=20/\SqL K H wp (ws.map V.str)/\1<=ws.length/\ws.length<=10/\(∀x∈ws,x.length<=30)/\∀(x:V)(t:Trm)(H':Hp),Same H H'->Den K H' x t.data->vin xs t->t.size<=2*cs.length+1->Q x H'|_=>False
theorem a4m{f:Nat->Str}:∀(m:Nat),(∀i j,i<m->j<m->f i=f j->i=j)->((List.range m).map f).Nodup
 |0,_=>by simp
 |m+1,h=>by
  rw[Xs,Zi];refine Ws.mpr ⟨a4m m λi j hi hj e=>h i j qo qo e,qz,λa ha b hb e=>?_⟩;obtain⟨i,hi,rfl⟩:=Z4.mp ha;have hb:b=f m:=by simpa using hb
  have:=h i m (by have:=Xc.mp hi;omega) qo (e.trans hb);have:=Xc.mp hi;omega
theorem c2i:a4d.cps.toList.Nodup:=by decide+kernel
theorem b8q{l:List Nat}(h:l.Nodup){i j:Nat}(hi:i<l.length)(hj:j<l.length)(e:l.getD i 0=l.getD j 0):i=j:=by
 rw[Zm,Zm,Za hi,Za hj]at e;have e:l[i]=l[j]:=e;have hp:=Vu.mp h;rcases U1 i j with z|z|z
 ·exact absurd e (hp i j hi hj z)
 ·exact z
 ·exact absurd e.symm (hp j i hj hi z)
def plc(c:Int)(at_ k j:Nat):Int:=c/(7*(k:Int)+11)+k+(j:Int)*(if k=at_ then 1 else 0)
def chN(c:Int)(first:List Nat)(at_:Nat)(j k:Nat):Nat:=if k=0 then first.getD (plc c at_ k j%26).toNat 0 else a4d.cps.toList.getD (plc c at_ k j%62).toNat 0
def nm3(c:Int)(first:List Nat)(at_ size:Nat)(j:Nat):Str:=⟨((List.range size).map (chN c first at_ j)).toArray⟩
theorem st_inj'{x y:List Nat}(h:(⟨x.toArray⟩:Str)=⟨y.toArray⟩):x=y:=by
 have h:=Xj (λs:Str=>s.cps.toList) h
 simpa using h
theorem nm3_inj{c:Int}{first:List Nat}{at_ size i j:Nat}(hf:first.Nodup)(hl:first.length=26)(ha:at_<size)(hi:i<9)(hj:j<9)(e:nm3 c first at_ size i=nm3 c first at_ size j):i=j:=by
 have e:=Xj (λl=>l[at_]?) (st_inj' e);simp only[Zz,List.getElem?_range ha,Option.map_some,Z1]at e;have l62:a4d.cps.toList.length=62:=by decide+kernel
 unfold chN plc at e;rw[if_pos rfl]at e
 by_cases h0:at_=0
 ·rw[if_pos h0,if_pos h0]at e;have:=b8q hf qo qo e;omega
 ·rw[if_neg h0,if_neg h0]at e;have:=b8q c2i qo qo e;omega
theorem b8r{l:List Nat}{i:Int}(h0:0<=i)(h1:i<(l.length:Int)):atI l i=some (l.getD i.toNat 0):=by
 obtain⟨v,e1,e2⟩:=a2c h0 h1;rw[e1,Zm,e2];rfl
theorem a5a{xs:List Str}{i:Int}{v:V}(h:atI (xs.map V.str) i=some v):∃x,v=.str x/\x∈xs:=by
 have:=a5m h;obtain⟨x,hx,rfl⟩:=Z4.mp this;exact⟨x,rfl,hx⟩
theorem b8s(n:Nat)(m:Int)(h:0<=m):HT.sIx n 0 (some m)=min m.toNat n:=by rw[<-b7w n m h];rfl
theorem b8t(us:List V)(m:Int)(h:0<=m):cutV us none (some m)=us.take m.toNat:=by
 unfold cutV;rw[a9n,b7w _ _ h,Um,U0]
 by_cases hm:m.toNat<=us.length
 ·rw[Ub hm]
 ·rw[Nat.min_eq_right qo,V4,Yb qo]
theorem a6e(us:List V)(m:Int)(h:0<=m):cutV us (some m) none=us.drop m.toNat:=by
 unfold cutV;rw[a9n,b8s _ _ h]
 by_cases hm:m.toNat<=us.length
 ·rw[Ub hm,Yb (by rw[Xk];omega)]
 ·rw[Nat.min_eq_right qo,List.drop_length,T7 qo]
  simp
theorem a9z(ts:List Trm)(n:Nat):(Trm.dataL ts).take n=Trm.dataL (ts.take n):=by rw[Trm.dataL_map,Trm.dataL_map,List.map_take]
theorem b0a(ts:List Trm)(n:Nat):(Trm.dataL ts).drop n=Trm.dataL (ts.drop n):=by rw[Trm.dataL_map,Trm.dataL_map,List.map_drop]
theorem a3e(a b:List Trm):Trm.dataL (a++b)=Trm.dataL a++Trm.dataL b:=by rw[Trm.dataL_map,Trm.dataL_map,Trm.dataL_map,Zi]
theorem a4u(ts:List Trm)(n:Nat):Trm.sizeL (ts.take n)+Trm.sizeL (ts.drop n)=Trm.sizeL ts:=by rw[<-Trm.sizeL_app,Uf]
theorem a2j{H H':Hp}{p:Addr}(s:Same H H')(h:H' p=none):H p=none:=by
 cases e:H p with
 |none=>rfl
 |some o=>rw[s _ _ e]at h;cases h
structure a3c(K:W.Frag)(H:Hp)(us:List V)(xs:List Str)(ts:List Trm):Prop where
 den:DenL K H us (Trm.dataL ts)
 vs:∀t∈ts,vin xs t
theorem a3c.len{K:W.Frag}{H:Hp}{us:List V}{xs:List Str}{ts:List Trm}(h:a3c K H us xs ts):us.length=ts.length:=by
 have:=h.den.length;rw[Trm.dataL_map,length_map]at this;exact this
theorem a3c.mono{K:W.Frag}{H H':Hp}{us:List V}{xs:List Str}{ts:List Trm}(h:a3c K H us xs ts)(s:Same H H'):a3c K H' us xs ts:=⟨h.den.mono s,h.vs⟩
theorem a3c.snoc{K:W.Frag}{H:Hp}{us:List V}{xs:List Str}{ts:List Trm}{u:V}{t:Trm}(h:a3c K H us xs ts)(d:Den K H u t.data)(v:vin xs t):a3c K H (us++[u]) xs (ts++[t]):=by
 refine⟨?_,λy hy=>?_⟩
 ·rw[a3e];exact h.den.append (.cons d .nil)
 ·rcases Zx.mp hy with z|z
  ·exact h.vs y z
  ·rw[Zs.mp z];exact v
theorem a3c.take{K:W.Frag}{H:Hp}{us:List V}{xs:List Str}{ts:List Trm}(h:a3c K H us xs ts)(n:Nat):a3c K H (us.take n) xs (ts.take n):=⟨by rw[<-a9z];exact h.den.take n,λt ht=>h.vs t (Si ht)⟩
theorem a3c.drop{K:W.Frag}{H:Hp}{us:List V}{xs:List Str}{ts:List Trm}(h:a3c K H us xs ts)(n:Nat):a3c K H (us.drop n) xs (ts.drop n):=⟨by rw[<-b0a];exact h.den.drop n,λt ht=>h.vs t (Sj ht)⟩
theorem b0b{K:W.Frag}{p:Addr}{H H':Hp}{kv:List (Key×V)}(e:But p H H')(hp:H p=some (.dK kv)):∀a xs,SqT K H a xs->SqT K H' a xs:=λa xs h=>by
 rcases h with(h|⟨o,h⟩)|h
 ·exact .inl (.inl (e _ _ (λz=>by rw[z,hp]at h;cases h) h))
 ·exact .inl (.inr ⟨o,e _ _ (λz=>by rw[z,hp]at h;cases h) h⟩)
 ·exact .inr h
mutual
inductive Full(rows:Rws):Trm->Trm->Prop
 |num (n:Int):Full rows (.num n) (.num n)
 |no {x:Str}:a2m rows x=none->Full rows (.any x) (.any x)
 |yes {x:Str} {u t:Trm}:a2m rows x=some u->Full rows u t->Full rows (.any x) t
 |app {s:Str} {ks ls:List Trm}:b7b rows ks ls->Full rows (.app s ks) (.app s ls)
inductive b7b(rows:Rws):List Trm->List Trm->Prop
 |nil:b7b rows [] []
 |cons {t t':Trm} {r r':List Trm}:Full rows t t'->b7b rows r r'->b7b rows (t::r) (t'::r')
end
inductive Wlk(rows:Rws):Nat->Trm->Trm->Prop
 |stop {t:Trm}:(∀x,t=.any x->a2m rows x=none)->Wlk rows 0 t t
 |step {n:Nat} {x:Str} {u t:Trm}:a2m rows x=some u->Wlk rows n u t->Wlk rows (n+1) (.any x) t
theorem nil_or_snoc'{α:Type}(l:List α):l=[]\/∃r x,l=r++[x]:=by
 cases l.eq_nil_or_concat with
 |inl h=>exact .inl h
 |inr h=>obtain⟨r,x,h⟩:=h;exact .inr ⟨r,x,by simpa using h⟩
theorem q1:decide (numS=anyS)=false:=by decide+kernel
theorem q2:decide (appS=anyS)=false:=by decide+kernel
theorem q3:decide (anyS=anyS)=true:=by decide+kernel
theorem q7:decide (numS=numS)=true:=by decide+kernel
structure a2l(K:W.Frag)(H:Hp)(a:Addr)(rows:Rws):Prop where
 ex:∃kvs,H a=some (.dK kvs)/\a2i K H kvs rows
theorem a2l.mono{K:W.Frag}{H H':Hp}{a:Addr}{rows:Rws}(h:a2l K H a rows)(s:Same H H'):a2l K H' a rows:=by
 obtain⟨kvs,h1,h2⟩:=h.ex;exact⟨kvs,s _ _ h1,h2.mono s⟩
theorem a2l.lst{K:W.Frag}{H:Hp}{a p:Addr}{rows:Rws}{ys:List V}{o:HO}(h:a2l K H a rows)(hp:H p=some (.lst ys)):a2l K (upd H p o) a rows:=by
 obtain⟨kvs,h1,h2⟩:=h.ex;refine⟨kvs,?_,h2.monoT (b1x hp)⟩;rw[a0p (λz=>by rw[z,hp]at h1;cases h1)];exact h1
theorem a2l.get{K:W.Frag}{H:Hp}{a:Addr}{rows:Rws}(h:a2l K H a rows)(x:Str):(a2m rows x=none/\DGet H a (.str x) none)\/∃t v,a2m rows x=some t/\DGet H a (.str x) (some v)/\Den K H v t.data:=by
 obtain⟨kvs,h1,h2⟩:=h.ex;rcases h2.get x with⟨c1,c2⟩|⟨t,v,c1,c2,c3⟩
 ·refine .inl ⟨c1,?_⟩;have:=DGet.k (k:=Sum.inr x) h1;rw[c2]at this;exact this
 ·refine .inr ⟨t,v,c1,?_,c3⟩;have:=DGet.k (k:=Sum.inr x) h1;rw[c2]at this;exact this
def keyK:Trm->Option (List Key)
 | .num m=>some [Sum.inr numS,Sum.inl m]
 | .any _=>none
 | .app s ks=>some [Sum.inr appS,Sum.inr s,Sum.inl (ks.length:Int)]
theorem c7z{b:Trm}{m:Int}(h:keyK b=some [Sum.inr numS,Sum.inl m]):b=.num m:=by
 cases b with
 |any _=>cases h
 |num m'=>
  simp only[keyK,Z1,Ud,Sum.inl.injEq,and_true,true_and]at h;rw[h]
 |app s ls=>
  simp[keyK]at h
theorem c8a{b:Trm}{s:Str}{n:Nat}(h:keyK b=some [Sum.inr appS,Sum.inr s,Sum.inl (n:Int)]):∃ls,b=.app s ls/\ls.length=n:=by
 cases b with
 |any _=>cases h
 |num m'=>simp[keyK]at h
 |app s' ls=>
  simp only[keyK,Z1,Ud,Sum.inl.injEq,Sum.inr.injEq,and_true,true_and]at h;exact⟨ls,by rw[h.1],by have:=h.2;omega⟩
def onK(H:Hp)(Q:VK):Option (List Key)->Prop
 |none=>Q .non H
 |some ks=>∀p H',Same H H'->H' p=some (.tup (ks.map kV))->Q (.ref p) H'
abbrev b1g(K:W.Frag):Sp:=λvs H Q _=>match vs with| [v]=>∃t:Trm,Den K H v t.data/\onK H Q (keyK t)|_=>False
theorem a4v{ls:List Trm}{i:Nat}{l:Trm}(h:ls[i]? =some l):l.size<=Trm.sizeL ls:=by
 have hi:=(Z3.mp h).1;have e:=Trm.sizeL_app (ls.take i) (ls.drop i);have hl:ls[i]=l:=(Z3.mp h).2;rw[Uf,Vv hi,Trm.sizeL,hl]at e;omega
abbrev a7h(K:W.Frag):Sp:=λvs H Q _=>match vs with| [.str x]=>∀(v:V)(H':Hp),Same H H'->Den K H' v (Trm.any x).data->Q v H'|_=>False
abbrev a6f(K:W.Frag):Sp:=λvs H Q _=>match vs with| [.ref a]=>∃(us:List V)(ts:List Trm),SqL K H a us/\DenL K H us (Trm.dataL ts)/\Trm.sizeL ts<=1000/\∀(p:Addr)(H':Hp),Same H H'->H p=none->H' p=some (.lst ((ordL ts []).map V.str))->Q (.ref p) H'|_=>False
abbrev a4f(K:W.Frag)(n:Nat):Sp:=λvs H Q _=>match vs with| [v,.ref d]=>∃(t:Trm)(as:As),Den K H v t.data/\H d=some (.dK (encS as))/\(∀x∈vars t,x∈as.map (·.1))/\t.size<=n/\n<=70/\∀(x:V)(H':Hp),Same H H'->Den K H' x (ren (sub as) t).data->Q x H'|_=>False
theorem c2j{K:W.Frag}{H:Hp}{v:V}{d:Addr}{R:Trm->As->Prop}(h:∃(t:Trm)(as:As),Den K H v t.data/\H d=some (.dK (encS as))/\(∀x∈vars t,x∈as.map (·.1))/\t.size<=0/\0<=70/\R t as):False:=by
 obtain⟨t,_,_,_,_,z,_⟩:=h;have:=Trm.size_pos t;omega
abbrev a7w(K:W.Frag):Sp:=λvs H Q _=>match vs with| [.ref a]=>∃(us:List V)(ts:List Trm),SqL K H a us/\DenL K H us (Trm.dataL ts)/\Trm.sizeL ts<=1000/\(∀t∈ts,t.size<=70)/\∀(p:Addr)(us':List V)(H':Hp),Same H H'->H p=none->H' p=some (.lst us')->DenL K H' us' (Trm.dataL (anew ts))->Q (.ref p) H'|_=>False
theorem tn_len{n:Nat}(h:n<10^30):(tn n).length<=30:=c7f qd h
theorem fs_int{i:Int}(h0:0<=i)(h1:i<10^30):i.natAbs.log2<1920/\(ofString (toString i)).length<=1000/\ofString (toString i)=tn i.toNat:=by
 obtain⟨n,rfl⟩:=Tv h0;have e:ofString (toString (n:Int))=tn n:=b7u n;have hn:n<10^30:=by omega
 refine⟨?_,by rw[e];have:=tn_len hn;omega,e⟩
 show n.log2<1920
 rcases Nat.eq_zero_or_pos n with z|z
 ·subst z;decide
 ·rw[U9 qo];exact Z6 hn qk
theorem DenL.rev{K:W.Frag}{H:Hp}:∀{us:List V}{ds:List PyData},DenL K H us ds->DenL K H us.reverse ds.reverse
 |_,_,.nil=>.nil
 |_,_,.cons a r=>by
  rw[Xq,Xq];exact(DenL.rev r).append (.cons a .nil)
theorem b6h(ts:List Trm):(Trm.dataL ts).reverse=Trm.dataL ts.reverse:=by rw[Trm.dataL_map,Trm.dataL_map,List.map_reverse]
theorem b1h:∀ts:List Trm,Trm.sizeL ts.reverse=Trm.sizeL ts
 | []=>rfl
 |k::ks=>by
  rw[Xq,Trm.sizeL_app,b1h ks];simp only[Trm.sizeL];omega
def encB(acc:List Str):List (Key×V):=acc.map λx=>(Sum.inr x,V.bl true)
theorem c8b(acc:List Str):(encB acc).length=acc.length:=by simp[encB]
theorem c8c(acc:List Str)(x:Str):((encB acc).any λkv=>decide (kv.1=Sum.inr x))=decide (x∈acc):=by
 by_cases h:x∈acc
 ·rw[Zt h,V6];exact⟨(Sum.inr x,V.bl true),Z4.mpr ⟨x,h,rfl⟩,qz⟩
 ·rw[Zo h,List.any_eq_false];intro kv hk e;obtain⟨y,hy,rfl⟩:=Z4.mp hk;exact h (by rw[<-Uk (Zr e)];exact hy)
theorem c8d(acc:List Str)(x:Str):putK (encB acc) (Sum.inr x) (.bl true)=encB (ord (.any x) acc):=by
 rw[ord];unfold putK;rw[c8c]
 by_cases h:x∈acc
 ·rw[if_pos (Zt h),if_pos h];unfold encB;rw[Y6];refine Ss λy hy=>?_
  show(if(Sum.inr y:Key)=Sum.inr x then((Sum.inr y:Key),V.bl true)else(Sum.inr y,V.bl true))=(Sum.inr y,V.bl true)
  split<;>rfl
 ·rw[if_neg (by rw[Zo h];decide),if_neg h];unfold encB;rw[Zi];rfl
theorem c5o(acc:List Str):((encB acc).map λkv=>kV kv.1)=acc.map V.str:=by
 unfold encB;rw[Y6];rfl
theorem b2e{K:W.Frag}{H:Hp}{us:List V}{ts:List Trm}{i:Nat}(h:DenL K H us (Trm.dataL ts))(hi:i<ts.length):∃hu:i<us.length,Den K H us[i] ts[i].data:=by
 have hl:=h.length;rw[Trm.dataL_map,length_map]at hl;have hu:i<us.length:=by omega
 refine⟨hu,?_⟩;obtain⟨d,e1,e2⟩:=h.get (Za hu);rw[Trm.dataL_map,Zz,Za hi]at e1;obtain rfl:ts[i].data=d:=Zk e1;exact e2
theorem getD_at{us:List V}{i:Nat}(h:i<us.length):us.getD i .non=us[i]:=by rw[Zm,Za h];rfl
theorem take_succ'{α:Type}{l:List α}{i:Nat}(h:i<l.length):l.take (i+1)=l.take i++[l[i]]:=by rw[Wr,Za h];rfl
theorem a2b{K:W.Frag}{H:Hp}{us:List V}{ts:List Trm}(h:DenL K H us (Trm.dataL ts)):us.length=ts.length:=by
 have hl:=h.length;rwa[Trm.dataL_map,length_map]at hl
theorem c0w{p:Addr}{H0 H H':Hp}(s:Same H0 H)(b:But p H H')(n:H0 p=none):Same H0 H':=λa o e=>b a o (λz=>by rw[z,n]at e;cases e) (s a o e)
theorem a6g{p:Addr}{H:Hp}{o:HO}:But p H (upd H p o):=λb u hb e=>by rw[a0p hb];exact e
abbrev b4s(K:W.Frag):Sp:=λvs H Q _=>match vs with| [.str sg,.ref p]=>∃us ks,SqL K H p us/\DenL K H us (Trm.dataL ks)/\∀r H',Same H H'->Den K H' (.ref r) (Trm.app sg ks).data->Q (.ref r) H'|_=>False
abbrev a4r:Str:=ofString "abcdefghijklmnopqrstuvwxyz"
abbrev c4n:Str:=ofString "ABCDEFGHIJKLMNOPQRSTUVWXYZ"
abbrev figS:Str:=ofString "0123456789"
abbrev one(c:Nat):Str:=⟨#[c]⟩
def inner(c:Str):Bool:=inS c a4r|| (inS c c4n||inS c figS)
def fst(z:Str):Str:=one (z.cps.getD 0 0)
def called(z firsts:Str):Bool:=(decide ((1:Int)<=z.length)&&decide ((z.length:Int)<=12))&&(inS (fst z) firsts&&z.cps.toList.all λc=>inner (one c))
abbrev a8o:Sp:=λvs H Q _=>match vs with| [.str c]=>Q (.bl (inner c)) H|_=>False
abbrev a7x:Sp:=λvs H Q _=>match vs with| [.str z,.str f]=>z.length<=1000/\∀H',Same H H'->Q (.bl (called z f)) H'|_=>False
abbrev b0c:Sp:=λvs H Q _=>match vs with| [.str z]=>z.length<=1000/\∀H',Same H H'->Q (.bl (called z a4r)) H'|_=>False
theorem len_fst{z:Str}(h:0<z.length):atI z.cps.toList 0=some (z.cps.getD 0 0):=by
 obtain⟨v,h1,h2⟩:=a2c (xs:=z.cps.toList) (i:=0) qo (by simp only[Xf];unfold Str.length at h;omega);rw[h1];have h2:z.cps.toList[0]? =some v:=h2
 rw[Wq]at h2;rw[Wu,h2];rfl
theorem all_get(z:Str)(f:Nat->Bool):((List.range z.cps.size).map λk=>f (z.cps.getD k 0)).all id=z.cps.toList.all f:=by
 rw[We,Y3,Y3]
 constructor
 ·intro h c hc;obtain⟨i,hi,e⟩:=Sv hc;have hi':i<z.cps.size:=by simpa using hi
  have:=h (f (z.cps.getD i 0)) (Z4.mpr ⟨i,Xc.mpr hi',rfl⟩);rw[Wu,<-Wq,Za hi]at this
  simpa[e]using this
 ·intro h b hb;obtain⟨i,hi,rfl⟩:=Z4.mp hb;have hi:=Xc.mp hi;rw[Wu,Wz hi];exact h _ qz
abbrev keepS:Str:=ofString "keep"
abbrev notS:Str:=ofString "not"
abbrev eqS:Str:=ofString "="
structure Wd(s:Str):Prop where
 cl:called s a4r=true
 kp:s≠keepS
 nt:s≠notS
 eq:s≠eqS
 ln:s.length<=1000
abbrev nd(s:Str)(n:Nat):List Key:=[.inr s,.inl (n:Int)]
def nmd(s:Str):Bool:=called s a4r&& !decide (s∈[keepS,notS])
abbrev a8p(K:W.Frag):Sp:=λvs H Q _=>match vs with| [v]=>∃(s:Str)(ks:List Trm),Den K H v (Trm.app s ks).data/\s.length<=1000/\∀H',Same H H'->Q (.bl (nmd s)) H'|_=>False
abbrev b0d(K:W.Frag):Sp:=λvs H Q _=>match vs with| [v]=>∃(s:Str)(ks:List Trm),Den K H v (Trm.app s ks).data/\∀p H',Same H H'->H' p=some (.tup ((nd s ks.length).map kV))->Q (.ref p) H'|_=>False
def Nmd(first x:Str):Prop:=∃(a:Nat)(r:List Nat),x=⟨(a::r).toArray⟩/\a∈first.cps.toList/\(∀y∈r,y∈a4d.cps.toList)/\r.length<=11
theorem Nmd.len{f x:Str}(h:Nmd f x):x.length<=12:=by
 obtain⟨a,r,rfl,_,_,h⟩:=h;rw[str_len,length_cons];omega
theorem b8u{l:List Nat}{i:Nat}(h:i<l.length):l.getD i 0∈l:=by
 rw[Zm,Za h];exact Zw h
theorem c8e:∀n:Fin 10,(48+n.val)∈a4d.cps.toList:=by decide+kernel
theorem nmd3{c:Int}{f:Str}{at_ size j:Nat}(hf:f.cps.toList.length=26)(h1:1<=size)(h2:size<=12):Nmd f (nm3 c f.cps.toList at_ size j):=by
 obtain⟨n,rfl⟩:∃n,size=n+1:=⟨size-1,qo⟩;refine⟨chN c f.cps.toList at_ j 0,(List.range n).map λk=>chN c f.cps.toList at_ j (k+1),?_,?_,λy hy=>?_,by simp;omega⟩
 ·unfold nm3;rw[T5,Z2,Y6];rfl
 ·unfold chN;rw[if_pos rfl];exact b8u qo
 ·obtain⟨k,_,rfl⟩:=Z4.mp hy;unfold chN;rw[if_neg (Nat.succ_ne_zero k)];have l62:a4d.cps.toList.length=62:=by decide+kernel
  exact b8u qo
theorem c2k:(a4d.cps.toList.all λc=>inner (one c))=true:=by decide+kernel
theorem c5p{r:List Nat}(h1:1<=r.length)(h2:r.length<=12)(ha:∀c∈r,inner (one c)=true)(hf:∀c,r.head? =some c->inS (one c) a4r=true):called ⟨r.toArray⟩ a4r=true:=by
 cases r with
 |nil=>simp at h1
 |cons c r=>
  have e1:(⟨(c::r).toArray⟩:Str).length=(c::r).length:=str_len _;unfold called;rw[e1,Zt qo,Zt qo];have e2:fst (⟨(c::r).toArray⟩:Str)=one c:=by simp[fst,one]
  rw[e2,hf c rfl];simp only[Yr,Y3];exactλx hx=>ha x (by simpa using hx)
theorem Nmd.called{x:Str}(h:Nmd a4r x):called x a4r=true:=by
 obtain⟨a,r,rfl,ha,hr,hl⟩:=h;have ti:=Y3.mp c2k;have hs:inS (one a) a4r=true:=by rw[inS_one];exact Zt ha
 refine c5p qz (by simp;omega) (λc hc=>?_) λc hc=>?_
 ·rcases Zp.mp hc with z|z
  ·rw[z];unfold inner;rw[hs];rfl
  ·exact ti c (hr c z)
 ·have hc:a=c:=by simpa using hc
  rw[<-hc];exact hs
theorem wd_mk{x:Str}(h:Nmd a4r x)(h1:x≠keepS)(h2:x≠notS):Wd x:=⟨h.called,h1,h2,λe=>by
 have:=h.called;rw[e]at this
 exact absurd this qk,by have:=h.len;omega⟩
theorem wd_s{z:Str}(h:z∈[keepS,notS]):Wd (z++ofString "s"):=by
 simp only[Zp,Z8,Xn]at h;rcases h with rfl|rfl
 ·exact⟨qk,qk,qk,qk,qk⟩
 ·exact⟨qk,qk,qk,qk,qk⟩
abbrev a7i(K:W.Frag):Sp:=λvs H Q _=>match vs with| [.int c,.int m,.str first]=>1<=m/\m<=9/\first.length=26/\first.cps.toList.Nodup/\∀(p:Addr)(xs:List Str)(H':Hp),xs.length=m.toNat->xs.Nodup->(∀x∈xs,Nmd first x)->Same H H'->H' p=some (.lst (xs.map V.str))->Q (.ref p) H'|_=>False
noncomputable def cO(n q:Str)(a b c:Tok)(l m f:Int)(r:Addr)(x:Int)(s:Addr)(v w:Value)(u:Addr)(y:Int)(d:Tok):Obj:=.mk (.type "code") none (.fields (List.toArray ((.str n a)::(.str q b)::(.str "/claim/cut.py" c)::(.int l 0)::(.int m 0)::(.int 0 0)::(.int 0 0)::(.int f 0)::(.ref r)::(.bool true)::(.int x 0)::(.ref s)::.none::v::w::(.ref u)::(.int y 0)::(.int l 0)::(.str "/claim/cut.py" d)::[]))) #[]
noncomputable def fO(n q:Str)(s:Stmt)(m:Value)(c:Addr):Obj:=.mk (.type "function") none (.func (W.fnOf n q (b1t s) (a8v s) (a0n s) .none .none .none m none (.ref c) .none)) #[]
noncomputable def kb2(P:Params):Obj:=.mk .none none (.dict #[] 0) #[]
noncomputable def kb3(P:Params):Obj:=.mk (.type "dict") none (.dict (List.toArray ((.mk (keyHash P "__name__") (.str "__name__" 165) (.str "law_goaltrail_k70_good_yes_rows" 768))::(.mk (keyHash P "__doc__") (.str "__doc__" 166) .none)::(.mk (keyHash P "__package__") (.str "__package__" 167) .none)::(.mk (keyHash P "__loader__") (.str "__loader__" 168) (.builtin "__main__.__loader__#opaque"))::(.mk (keyHash P "__spec__") (.str "__spec__" 169) .none)::(.mk (keyHash P "__annotations__") (.str "__annotations__" 170) (.ref 6))::(.mk (keyHash P "__builtins__") (.str "__builtins__" 171) (.ref 4))::(.mk (keyHash P "__file__") (.str "__file__" 173) (.str "/claim/cut.py" 172))::(.mk (keyHash P "__cached__") (.str "__cached__" 174) .none)::(.mk (keyHash P "TrailError") (.str "TrailError" 217) (.ref 32))::(.mk (keyHash P "Big") (.str "Big" 233) (.ref 45))::(.mk (keyHash P "Fault") (.str "Fault" 260) (.ref 65))::(.mk (keyHash P "SMALL") (.str "SMALL" 264) (.str "abcdefghijklmnopqrstuvwxyz" 263))::(.mk (keyHash P "GREAT") (.str "GREAT" 266) (.str "ABCDEFGHIJKLMNOPQRSTUVWXYZ" 265))::(.mk (keyHash P "FIGURES") (.str "FIGURES" 268) (.str "0123456789" 267))::(.mk (keyHash P "MOST_LETTERS") (.str "MOST_LETTERS" 270) (.int 12 269))::(.mk (keyHash P "MOST_PARTS") (.str "MOST_PARTS" 272) (.int 40 271))::(.mk (keyHash P "num") (.str "num" 279) (.ref 74))::(.mk (keyHash P "unknown") (.str "unknown" 286) (.ref 81))::(.mk (keyHash P "app") (.str "app" 294) (.ref 88))::(.mk (keyHash P "is_inner") (.str "is_inner" 301) (.ref 95))::(.mk (keyHash P "is_called") (.str "is_called" 307) (.ref 100))::(.mk (keyHash P "is_word") (.str "is_word" 314) (.ref 107))::(.mk (keyHash P "walked") (.str "walked" 325) (.ref 114))::(.mk (keyHash P "parts_up_to") (.str "parts_up_to" 337) (.ref 121))::(.mk (keyHash P "written_out") (.str "written_out" 345) (.ref 128))::(.mk (keyHash P "put_in") (.str "put_in" 351) (.ref 133))::(.mk (keyHash P "key_of") (.str "key_of" 360) (.ref 140))::(.mk (keyHash P "Row") (.str "Row" 394) (.ref 157))::(.mk (keyHash P "Joining") (.str "Joining" 473) (.ref 211))::(.mk (keyHash P "stands_within") (.str "stands_within" 485) (.ref 222))::(.mk (keyHash P "made_one") (.str "made_one" 496) (.ref 229))::(.mk (keyHash P "matched") (.str "matched" 509) (.ref 236))::(.mk (keyHash P "SUM_MARKS") (.str "SUM_MARKS" 517) (.ref 237))::(.mk (keyHash P "reckoned") (.str "reckoned" 526) (.ref 244))::(.mk (keyHash P "by_mark") (.str "by_mark" 535) (.ref 251))::(.mk (keyHash P "checked_near") (.str "checked_near" 542) (.ref 258))::(.mk (keyHash P "is_so") (.str "is_so" 551) (.ref 265))::(.mk (keyHash P "done_by_mark") (.str "done_by_mark" 563) (.ref 272))::(.mk (keyHash P "unknowns_of") (.str "unknowns_of" 575) (.ref 279))::(.mk (keyHash P "renamed") (.str "renamed" 581) (.ref 284))::(.mk (keyHash P "told_anew") (.str "told_anew" 587) (.ref 289))::(.mk (keyHash P "marked") (.str "marked" 597) (.ref 296))::(.mk (keyHash P "KEEP") (.str "KEEP" 601) (.str "keep" 600))::(.mk (keyHash P "NOT") (.str "NOT" 603) (.str "not" 602))::(.mk (keyHash P "is_named") (.str "is_named" 610) (.ref 303))::(.mk (keyHash P "word_of") (.str "word_of" 617) (.ref 310))::(.mk (keyHash P "by_word") (.str "by_word" 628) (.ref 317))::(.mk (keyHash P "fall_of") (.str "fall_of" 636) (.ref 322))::(.mk (keyHash P "falls_of") (.str "falls_of" 642) (.ref 327))::(.mk (keyHash P "Looker") (.str "Looker" 754) (.ref 401))::(.mk (keyHash P "holds") (.str "holds" 761) (.ref 412))::(.mk (keyHash P "lets_by") (.str "lets_by" 767) (.ref 417))::(.mk (keyHash P "_law_cell") (.str "_law_cell" 778) (.ref 424))::(.mk (keyHash P "_law_names") (.str "_law_names" 784) (.ref 429))::(.mk (keyHash P "_law_words") (.str "_law_words" 790) (.ref 434))::(.mk (keyHash P "_law_number") (.str "_law_number" 797) (.ref 441))::(.mk (keyHash P "_law_sign") (.str "_law_sign" 806) (.ref 448))::(.mk (keyHash P "_law_term") (.str "_law_term" 819) (.ref 455))::(.mk (keyHash P "_law_turned") (.str "_law_turned" 826) (.ref 462))::(.mk (keyHash P "_law_dug") (.str "_law_dug" 832) (.ref 467))::(.mk (keyHash P "_law_goal") (.str "_law_goal" 838) (.ref 472))::(.mk (keyHash P "_law_more") (.str "_law_more" 844) (.ref 477))::(.mk (keyHash P "_law_show") (.str "_law_show" 850) (.ref 482))::(.mk (keyHash P "_law_other") (.str "_law_other" 863) (.ref 489))::(.mk (keyHash P "_law_unknowns") (.str "_law_unknowns" 872) (.ref 496))::(.mk (keyHash P "_law_called") (.str "_law_called" 878) (.ref 501))::(.mk (keyHash P "_law_renamed") (.str "_law_renamed" 884) (.ref 506))::(.mk (keyHash P "_law_due") (.str "_law_due" 894) (.ref 513))::(.mk (keyHash P "_law_good") (.str "_law_good" 908) (.ref 520))::(.mk (keyHash P "_law_spoiled") (.str "_law_spoiled" 914) (.ref 525))::(.mk (keyHash P "law") (.str "law" 920) (.ref 530))::[])) 72) #[]
noncomputable def kb31(P:Params):Obj:=.mk (.type "dict") none (.dict (List.toArray ((.mk (keyHash P "__module__") (.str "__module__" 196) (.str "goaltrail.errors" 187))::(.mk (keyHash P "__firstlineno__") (.str "__firstlineno__" 200) (.int 2 199))::(.mk (keyHash P "__init__") (.str "__init__" 210) (.ref 29))::(.mk (keyHash P "__static_attributes__") (.str "__static_attributes__" 212) (.ref 30))::(.mk (keyHash P "__weakref__") (.str "__weakref__" 214) (.ref 33))::(.mk (keyHash P "__doc__") (.str "__doc__" 215) .none)::[])) 3) #[]
noncomputable def kb32(P:Params):Obj:=.mk (.type "type") none (.cls (.mk "TrailError" [(.type "ValueError")] [(.ref 32),(.type "ValueError"),(.type "Exception"),(.type "BaseException"),(.type "object")] 31 "TrailError" Bool.true [] [(.ref 45),(.ref 65)] Bool.false none Bool.false)) (List.toArray ((some (.ref 15))::none::(some (.str "TrailError" 189))::(some (.str "TrailError" 197))::(some (.builtin "ValueError.__new__"))::(some (.bool true))::[]))
noncomputable def kb44(P:Params):Obj:=.mk (.type "dict") none (.dict #[(.mk (keyHash P "__module__") (.str "__module__" 225) (.str "goaltrail.errors" 187)),(.mk (keyHash P "__firstlineno__") (.str "__firstlineno__" 229) (.int 7 228)),(.mk (keyHash P "__static_attributes__") (.str "__static_attributes__" 230) (.ref 43)),(.mk (keyHash P "__doc__") (.str "__doc__" 231) .none)] 2) #[]
noncomputable def kb45(P:Params):Obj:=.mk (.type "type") none (.cls (.mk "Big" [(.ref 32)] [(.ref 45),(.ref 32),(.type "ValueError"),(.type "Exception"),(.type "BaseException"),(.type "object")] 44 "Big" Bool.true [] [] Bool.false none Bool.false)) (List.toArray ((some (.ref 36))::none::(some (.str "Big" 218))::(some (.str "Big" 226))::(some (.builtin "ValueError.__new__"))::(some (.bool true))::[]))
noncomputable def kb64(P:Params):Obj:=.mk (.type "dict") none (.dict (List.toArray ((.mk (keyHash P "__module__") (.str "__module__" 241) (.str "goaltrail.errors" 187))::(.mk (keyHash P "__firstlineno__") (.str "__firstlineno__" 245) (.int 9 244))::(.mk (keyHash P "__init__") (.str "__init__" 255) (.ref 62))::(.mk (keyHash P "__static_attributes__") (.str "__static_attributes__" 257) (.ref 63))::(.mk (keyHash P "__doc__") (.str "__doc__" 258) .none)::[])) 2) #[]
noncomputable def kb65(P:Params):Obj:=.mk (.type "type") none (.cls (.mk "Fault" [(.ref 32)] [(.ref 65),(.ref 32),(.type "ValueError"),(.type "Exception"),(.type "BaseException"),(.type "object")] 64 "Fault" Bool.true [] [] Bool.false none Bool.false)) (List.toArray ((some (.ref 48))::none::(some (.str "Fault" 234))::(some (.str "Fault" 242))::(some (.builtin "ValueError.__new__"))::(some (.bool true))::[]))
noncomputable def kb156(P:Params):Obj:=.mk (.type "dict") none (.dict (List.toArray ((.mk (keyHash P "__module__") (.str "__module__" 370) (.str "goaltrail.ones" 361))::(.mk (keyHash P "__firstlineno__") (.str "__firstlineno__" 374) (.int 68 373))::(.mk (keyHash P "__init__") (.str "__init__" 383) (.ref 154))::(.mk (keyHash P "__static_attributes__") (.str "__static_attributes__" 387) (.ref 155))::(.mk (keyHash P "__dict__") (.str "__dict__" 389) (.ref 158))::(.mk (keyHash P "__weakref__") (.str "__weakref__" 391) (.ref 159))::(.mk (keyHash P "__doc__") (.str "__doc__" 392) .none)::[])) 4) #[]
noncomputable def kb157(P:Params):Obj:=.mk (.type "type") none (.cls (.mk "Row" [(.type "object")] [(.ref 157),(.type "object")] 156 "Row" Bool.true [] [] Bool.false none Bool.false)) (List.toArray (none::none::(some (.str "Row" 363))::(some (.str "Row" 371))::(some (.builtin "object.__new__"))::(some (.bool true))::[]))
noncomputable def kb210(P:Params):Obj:=.mk (.type "dict") none (.dict (List.toArray ((.mk (keyHash P "__module__") (.str "__module__" 402) (.str "goaltrail.ones" 361))::(.mk (keyHash P "__firstlineno__") (.str "__firstlineno__" 406) (.int 74 405))::(.mk (keyHash P "__init__") (.str "__init__" 415) (.ref 175))::(.mk (keyHash P "join_terms") (.str "join_terms" 426) (.ref 182))::(.mk (keyHash P "join_place") (.str "join_place" 437) (.ref 189))::(.mk (keyHash P "put_for") (.str "put_for" 446) (.ref 196))::(.mk (keyHash P "begin_kids") (.str "begin_kids" 455) (.ref 203))::(.mk (keyHash P "path") (.str "path" 461) (.ref 208))::(.mk (keyHash P "__static_attributes__") (.str "__static_attributes__" 466) (.ref 209))::(.mk (keyHash P "__dict__") (.str "__dict__" 468) (.ref 212))::(.mk (keyHash P "__weakref__") (.str "__weakref__" 470) (.ref 213))::(.mk (keyHash P "__doc__") (.str "__doc__" 471) .none)::[])) 4) #[]
noncomputable def kb211(P:Params):Obj:=.mk (.type "type") none (.cls (.mk "Joining" [(.type "object")] [(.ref 211),(.type "object")] 210 "Joining" Bool.true [] [] Bool.false none Bool.false)) (List.toArray (none::none::(some (.str "Joining" 395))::(some (.str "Joining" 403))::(some (.builtin "object.__new__"))::(some (.bool true))::[]))
noncomputable def kb400(P:Params):Obj:=.mk (.type "dict") none (.dict (List.toArray ((.mk (keyHash P "__module__") (.str "__module__" 652) (.str "goaltrail.looker" 643))::(.mk (keyHash P "__firstlineno__") (.str "__firstlineno__" 656) (.int 249 655))::(.mk (keyHash P "__init__") (.str "__init__" 665) (.ref 341))::(.mk (keyHash P "leads") (.str "leads" 675) (.ref 348))::(.mk (keyHash P "is_good") (.str "is_good" 684) (.ref 355))::(.mk (keyHash P "is_good_yes") (.str "is_good_yes" 695) (.ref 362))::(.mk (keyHash P "is_by_rule") (.str "is_by_rule" 701) (.ref 367))::(.mk (keyHash P "is_no_of") (.str "is_no_of" 711) (.ref 374))::(.mk (keyHash P "is_yes_of") (.str "is_yes_of" 721) (.ref 381))::(.mk (keyHash P "is_good_no") (.str "is_good_no" 727) (.ref 386))::(.mk (keyHash P "is_good_not") (.str "is_good_not" 733) (.ref 391))::(.mk (keyHash P "is_fall") (.str "is_fall" 743) (.ref 398))::(.mk (keyHash P "__static_attributes__") (.str "__static_attributes__" 747) (.ref 399))::(.mk (keyHash P "__dict__") (.str "__dict__" 749) (.ref 402))::(.mk (keyHash P "__weakref__") (.str "__weakref__" 751) (.ref 403))::(.mk (keyHash P "__doc__") (.str "__doc__" 752) .none)::[])) 4) #[]
noncomputable def kb401(P:Params):Obj:=.mk (.type "type") none (.cls (.mk "Looker" [(.type "object")] [(.ref 401),(.type "object")] 400 "Looker" Bool.true [] [] Bool.false none Bool.false)) (List.toArray (none::none::(some (.str "Looker" 645))::(some (.str "Looker" 653))::(some (.builtin "object.__new__"))::(some (.bool true))::[]))
noncomputable def KK:Params->W.Frag:=λP=>(nat_lit 2,kb2 P)::(nat_lit 3,kb3 P)::(nat_lit 31,kb31 P)::(nat_lit 32,kb32 P)::(nat_lit 44,kb44 P)::(nat_lit 45,kb45 P)::(nat_lit 64,kb64 P)::(nat_lit 65,kb65 P)::(nat_lit 80,cO "unknown" "unknown" 280 281 282 22 1 3 75 181 76 (.ref 77) (.ref 78) 79 284 285)::(nat_lit 81,fO "unknown" "unknown" b0x (.str "goaltrail.terms" 261) 80)::(nat_lit 87,cO "app" "app" 287 288 289 24 2 3 82 181 83 (.ref 84) (.ref 85) 86 292 293)::(nat_lit 88,fO "app" "app" s_a9 (.str "goaltrail.terms" 261) 87)::(nat_lit 94,cO "is_inner" "is_inner" 295 296 297 26 1 3 89 181 90 (.ref 91) (.ref 92) 93 299 300)::(nat_lit 95,fO "is_inner" "is_inner" a9r (.str "goaltrail.terms" 261) 94)::(nat_lit 99,cO "is_called" "is_called" 302 303 304 28 2 3 96 181 97 .none .none 98 305 306)::(nat_lit 100,fO "is_called" "is_called" a6n (.str "goaltrail.terms" 261) 99)::(nat_lit 106,cO "is_word" "is_word" 308 309 310 32 1 3 101 181 102 (.ref 103) (.ref 104) 105 312 313)::(nat_lit 107,fO "is_word" "is_word" b0y (.str "goaltrail.terms" 261) 106)::(nat_lit 139,cO "key_of" "key_of" 354 355 356 61 1 3 134 181 135 (.ref 136) (.ref 137) 138 358 359)::(nat_lit 140,fO "key_of" "key_of" b3k (.str "goaltrail.switches" 352) 139)::(nat_lit 156,kb156 P)::(nat_lit 157,kb157 P)::(nat_lit 210,kb210 P)::(nat_lit 211,kb211 P)::(nat_lit 235,cO "matched" "matched" 497 498 499 139 3 3 230 181 231 (.ref 232) (.ref 233) 234 507 508)::(nat_lit 236,fO "matched" "matched" b0z (.str "goaltrail.ones" 361) 235)::(nat_lit 278,cO "unknowns_of" "unknowns_of" 566 567 568 194 1 3 273 181 274 (.ref 275) (.ref 276) 277 573 574)::(nat_lit 279,fO "unknowns_of" "unknowns_of" a6z (.str "goaltrail.names" 564) 278)::(nat_lit 283,cO "renamed" "renamed" 576 577 578 204 2 3 280 181 281 .none .none 282 579 580)::(nat_lit 284,fO "renamed" "renamed" a8f (.str "goaltrail.names" 564) 283)::(nat_lit 288,cO "told_anew" "told_anew" 582 583 584 210 1 3 285 181 286 .none .none 287 585 586)::(nat_lit 289,fO "told_anew" "told_anew" a6o (.str "goaltrail.names" 564) 288)::(nat_lit 302,cO "is_named" "is_named" 604 605 606 224 1 3 297 181 298 (.ref 299) (.ref 300) 301 608 609)::(nat_lit 303,fO "is_named" "is_named" a9s (.str "goaltrail.rules" 598) 302)::(nat_lit 309,cO "word_of" "word_of" 611 612 613 226 1 3 304 181 305 (.ref 306) (.ref 307) 308 615 616)::(nat_lit 310,fO "word_of" "word_of" b1a (.str "goaltrail.rules" 598) 309)::(nat_lit 316,cO "by_word" "by_word" 618 619 620 228 1 3 311 181 312 (.ref 313) (.ref 314) 315 626 627)::(nat_lit 317,fO "by_word" "by_word" b1b (.str "goaltrail.rules" 598) 316)::(nat_lit 340,cO "__init__" "Looker.__init__" 657 658 659 251 3 3 335 181 336 (.ref 337) (.ref 338) 339 663 664)::(nat_lit 341,fO "__init__" "Looker.__init__" a6y (.str "goaltrail.looker" 643) 340)::(nat_lit 347,cO "leads" "Looker.leads" 666 667 668 256 4 3 342 181 343 (.ref 344) (.ref 345) 346 673 674)::(nat_lit 348,fO "leads" "Looker.leads" a6c (.str "goaltrail.looker" 643) 347)::(nat_lit 354,cO "is_good" "Looker.is_good" 676 677 678 259 2 3 349 181 350 (.ref 351) (.ref 352) 353 682 683)::(nat_lit 355,fO "is_good" "Looker.is_good" a5k (.str "goaltrail.looker" 643) 354)::(nat_lit 361,cO "is_good_yes" "Looker.is_good_yes" 685 686 687 270 5 3 356 181 357 (.ref 358) (.ref 359) 360 693 694)::(nat_lit 362,fO "is_good_yes" "Looker.is_good_yes" a4e (.str "goaltrail.looker" 643) 361)::(nat_lit 366,cO "is_by_rule" "Looker.is_by_rule" 696 697 698 279 5 3 363 181 364 .none .none 365 699 700)::(nat_lit 367,fO "is_by_rule" "Looker.is_by_rule" a3k (.str "goaltrail.looker" 643) 366)::(nat_lit 400,kb400 P)::(nat_lit 401,kb401 P)::(nat_lit 411,cO "holds" "holds" 755 756 757 322 1 3 406 181 407 (.ref 408) (.ref 409) 410 759 760)::(nat_lit 412,fO "holds" "holds" b5h (.str "goaltrail.looker" 643) 411)::(nat_lit 416,cO "lets_by" "lets_by" 762 763 764 328 2 3 413 181 414 .none .none 415 765 766)::(nat_lit 417,fO "lets_by" "lets_by" a8g (.str "goaltrail.looker" 643) 416)::(nat_lit 423,cO "_law_cell" "_law_cell" 770 771 772 332 2 3 418 181 419 (.ref 420) (.ref 421) 422 776 777)::(nat_lit 424,fO "_law_cell" "_law_cell" b3l (.str "law_goaltrail_k70_good_yes_rows" 768) 423)::(nat_lit 428,cO "_law_names" "_law_names" 779 780 781 339 3 3 425 181 426 .none .none 427 782 783)::(nat_lit 429,fO "_law_names" "_law_names" a6v (.str "law_goaltrail_k70_good_yes_rows" 768) 428)::(nat_lit 433,cO "_law_words" "_law_words" 785 786 787 355 2 3 430 181 431 .none .none 432 788 789)::(nat_lit 434,fO "_law_words" "_law_words" a8h (.str "law_goaltrail_k70_good_yes_rows" 768) 433)::(nat_lit 440,cO "_law_number" "_law_number" 791 792 793 358 1 3 435 181 436 (.ref 437) (.ref 438) 439 795 796)::(nat_lit 441,fO "_law_number" "_law_number" a9t (.str "law_goaltrail_k70_good_yes_rows" 768) 440)::(nat_lit 447,cO "_law_sign" "_law_sign" 798 799 800 362 3 3 442 181 443 (.ref 444) (.ref 445) 446 804 805)::(nat_lit 448,fO "_law_sign" "_law_sign" b3m (.str "law_goaltrail_k70_good_yes_rows" 768) 447)::(nat_lit 454,cO "_law_term" "_law_term" 807 808 809 370 3 3 449 181 450 (.ref 451) (.ref 452) 453 817 818)::(nat_lit 455,fO "_law_term" "_law_term" b3n (.str "law_goaltrail_k70_good_yes_rows" 768) 454)::(nat_lit 461,cO "_law_turned" "_law_turned" 820 821 822 387 1 3 456 181 457 (.ref 458) (.ref 459) 460 824 825)::(nat_lit 462,fO "_law_turned" "_law_turned" a9u (.str "law_goaltrail_k70_good_yes_rows" 768) 461)::(nat_lit 466,cO "_law_dug" "_law_dug" 827 828 829 390 5 3 463 181 464 .none .none 465 830 831)::(nat_lit 467,fO "_law_dug" "_law_dug" a9a (.str "law_goaltrail_k70_good_yes_rows" 768) 466)::(nat_lit 471,cO "_law_goal" "_law_goal" 833 834 835 401 3 3 468 181 469 .none .none 470 836 837)::(nat_lit 472,fO "_law_goal" "_law_goal" a9v (.str "law_goaltrail_k70_good_yes_rows" 768) 471)::(nat_lit 476,cO "_law_more" "_law_more" 839 840 841 407 3 3 473 181 474 .none .none 475 842 843)::(nat_lit 477,fO "_law_more" "_law_more" a9w (.str "law_goaltrail_k70_good_yes_rows" 768) 476)::(nat_lit 481,cO "_law_show" "_law_show" 845 846 847 412 7 3 478 181 479 .none .none 480 848 849)::(nat_lit 482,fO "_law_show" "_law_show" a6d (.str "law_goaltrail_k70_good_yes_rows" 768) 481)::(nat_lit 488,cO "_law_other" "_law_other" 851 852 853 434 4 3 483 181 484 (.ref 485) (.ref 486) 487 861 862)::(nat_lit 489,fO "_law_other" "_law_other" b1c (.str "law_goaltrail_k70_good_yes_rows" 768) 488)::(nat_lit 495,cO "_law_unknowns" "_law_unknowns" 864 865 866 452 2 3 490 181 491 (.ref 492) (.ref 493) 494 870 871)::(nat_lit 496,fO "_law_unknowns" "_law_unknowns" a7v (.str "law_goaltrail_k70_good_yes_rows" 768) 495)::(nat_lit 500,cO "_law_called" "_law_called" 873 874 875 459 3 3 497 181 498 .none .none 499 876 877)::(nat_lit 501,fO "_law_called" "_law_called" a7f (.str "law_goaltrail_k70_good_yes_rows" 768) 500)::(nat_lit 505,cO "_law_renamed" "_law_renamed" 879 880 881 465 2 3 502 181 503 .none .none 504 882 883)::(nat_lit 506,fO "_law_renamed" "_law_renamed" a5e (.str "law_goaltrail_k70_good_yes_rows" 768) 505)::(nat_lit 512,cO "_law_due" "_law_due" 885 886 887 476 3 3 507 181 508 (.ref 509) (.ref 510) 511 892 893)::(nat_lit 513,fO "_law_due" "_law_due" b5i (.str "law_goaltrail_k70_good_yes_rows" 768) 512)::(nat_lit 519,cO "_law_good" "_law_good" 895 896 897 493 3 3 514 181 515 (.ref 516) (.ref 517) 518 906 907)::(nat_lit 520,fO "_law_good" "_law_good" b3o (.str "law_goaltrail_k70_good_yes_rows" 768) 519)::(nat_lit 524,cO "_law_spoiled" "_law_spoiled" 909 910 911 507 6 3 521 181 522 .none .none 523 912 913)::(nat_lit 525,fO "_law_spoiled" "_law_spoiled" a6p (.str "law_goaltrail_k70_good_yes_rows" 768) 524)::(nat_lit 529,cO "law" "law" 915 916 917 537 1 3 526 181 527 .none .none 528 918 919)::(nat_lit 530,fO "law" "law" b4o (.str "law_goaltrail_k70_good_yes_rows" 768) 529)::[]
noncomputable def prog:Program:=PySem.Challenge.pw_goaltrail_k70_good_yes_rows
noncomputable def Q:Program:=W.view prog [1,2,3,5,6,7,8,9,10,11,12,13,14,15,17,18,19,20,22,24,25,26,27,28,30,31,32,33,34,36,38,39,40,41,43,44,45,46,47,49,50,52,53,54,56,57,58,59,60,61,62,63,64,65,66,67,68,69,70,71,72,73,74]
noncomputable def loose:List Str:=["TrailError","Fault"]
noncomputable def Xt(s:Shared):Bool:=W.xlAt Q [] s&&W.recOk [] s
noncomputable def ads:List Addr:=[2,3,31,32,44,45,64,65,80,81,87,88,94,95,99,100,106,107,139,140,156,157,210,211,235,236,278,279,283,284,288,289,302,303,309,310,316,317,340,341,347,348,354,355,361,362,366,367,400,401,411,412,416,417,423,424,428,429,433,434,440,441,447,448,454,455,461,462,466,467,471,472,476,477,481,482,488,489,495,496,500,501,505,506,512,513,519,520,524,525,529,530]
theorem run1:∀w:World,(λos=>(W.segRunT treeTable prog w 11 (some (.ref 6)) 0 3470 (bootS w os) (W.topStub prog)).map λr=>looks prog Q loose Xt (λs=>ads.map s.heap.get?) true (W.boot_heap w.params) r.2.1.abs)=λ_=>some (true,W.openGood Q loose,(KK w.params).map λp=>some p.2):=by
 intro w
 delta Xt Q loose
 rw[W.Fast.te10110043849684766642,W.Fast.te14364793385576792824,W.Fast.te2530740449226627131,W.Fast.te3486900944545009338,W.Fast.te10845986317416049621,W.Fast.te5655336392911312201,W.Fast.te4757257242682413121,W.Fast.te6483871617321286689,W.Fast.te15055690906229335287]
 kernel_rfl
theorem left1:W.LeftO prog Q loose Xt (λs=>ads.map s.heap.get?) (λw=>(KK w.params).map λp=>some p.2) 3470:=left_of (by kernel_rfl) qd (λ_=>by kernel_rfl) c4a qd run1
theorem said1:PySem.Challenge.rw_goaltrail_k70_good_yes_rows.wellSaid=true:=by
 w_on
 rw[W.Fast.te9446332074065402090]
 kernel_rfl
def nany:Trm->Bool
 | .any _=>false
 |_=>true
def keyL(t:Trm):List Key:=(keyK t).getD []
structure clean(x:Str)(rows:Rws)(t:Trm):Prop where
 sz:t.size<=60
 no:x∉vars t
 fr:∀y∈vars t,a2m rows y=none
def kD:Key->PyData
 | .inl i=>.int i
 | .inr x=>.str x
abbrev leftsN:Str:=ofString "lefts"
abbrev rightsN:Str:=ofString "rights"
abbrev takenN:Str:=ofString "taken"
structure RwO where
 r:Addr
 dr:Addr
 a:V
 b:V
 k:Int
def RwO.ob(CR:Addr)(q:RwO):HO:=.ins CR q.dr [(leftsN,q.a),(rightsN,q.b),(takenN,.int q.k)]
def KT(K:W.Frag)(H H':Hp):Prop:=∀a xs,SqT K H a xs->SqT K H' a xs
theorem KT.refl{K:W.Frag}(H:Hp):KT K H H:=λ_ _ h=>h
theorem KT.trans{K:W.Frag}{H H1 H2:Hp}(a:KT K H H1)(b:KT K H1 H2):KT K H H2:=λc xs h=>b _ _ (a _ _ h)
theorem KT.same{K:W.Frag}{H H':Hp}(s:Same H H'):KT K H H':=λ_ _ h=>s.tup h
theorem KT.upd{K:W.Frag}{H:Hp}{p:Addr}{o o0:HO}(h:H p=some o0)(h1:∀xs,o0≠.tup xs)(h2:∀o' xs,o0≠.frz o' (.tup xs)):KT K H (upd H p o):=λa xs q=>by
 rcases q with(q|⟨o',q⟩)|q
 ·exact .inl (.inl (by rw[a0p (a5n q h (λz=>h1 _ z.symm))];exact q))
 ·exact .inl (.inr ⟨o',by rw[a0p (a5n q h (λz=>h2 _ _ z.symm))];exact q⟩)
 ·exact .inr q
inductive Pl where
 |go(rows:Rws)
 |part(a b:List Key)
 |kids(s:Str)(ks ls:List Trm)
def pl4(l r:Trm):Pl:=match l,r with
 | .app s ks,.app s' ls=>if s=s'/\ks.length=ls.length then .kids s ks ls else .part (keyL (.app s ks)) (keyL (.app s' ls))
 |l,r=>.part (keyL l) (keyL r)
def pl3(rows:Rws)(l:Trm):Trm->Pl
 | .any y=>.go (putR rows y l)
 |r=>pl4 l r
def pl2a(rows:Rws)(r:Trm):Trm->Pl
 | .any x=>.go (putR rows x r)
 |l=>pl3 rows l r
def pl2(rows:Rws)(l r:Trm):Pl:=if eqb l r=true then .go rows else pl2a rows r l
structure Okp(p:Rws)(l r:Trm):Prop where
 zl:l.size<=60
 zr:r.size<=60
 len:p.length<=900
 cl:∀x,l=.any x->¬eqb l r=true->clean x p r
 cr:∀y,r=.any y->nany l=true->clean y p l
inductive Un:Bool->Rws->List (Trm×Trm)->Bool->Rws->Nat->Prop
 |done {me:Bool} {p:Rws}:Un me p [] true p 0
 |go {me ok:Bool} {p p' q:Rws} {a b l r:Trm} {rest:List (Trm×Trm)} {n m c:Nat}:Wlk p n a l->Wlk p m b r->Okp p l r->pl2 p l r=.go p'->Un me p' rest ok q c->Un me p ((a,b)::rest) ok q (c+1)
 |part {me:Bool} {p:Rws} {a b l r:Trm} {rest:List (Trm×Trm)} {n m:Nat} {ka kb:List Key}:Wlk p n a l->Wlk p m b r->Okp p l r->pl2 p l r=.part ka kb->Un me p ((a,b)::rest) false p 1
 |kids {ok:Bool} {p q:Rws} {a b l r:Trm} {rest:List (Trm×Trm)} {n m c:Nat} {s:Str} {ks ls:List Trm}:Wlk p n a l->Wlk p m b r->Okp p l r->pl2 p l r=.kids s ks ls->Un false p (ks.zip ls++rest) ok q c->Un true p ((a,b)::rest) ok q (c+1)
theorem b8v:∀{fs:List (Str×V)}{f:Str}{i:Nat}{v:V},(fs.map (·.1)).findIdx? (· ==f)=some i->(fs[i]?).map (·.2)=some v->fs.lookup f=some v
 | [],f,i,v,h,_=>by simp at h
 | (g,x)::fs,f,i,v,h,e=>by
  rw[Z2,List.findIdx?_cons]at h;rw[Xy]
  by_cases c:(g==f)=true
  ·rw[if_pos c]at h;cases h;have c':(f==g)=true:=by rw[eq_of_beq c];exact beq_self_eq_true _
   rw[c'];exact e
  ·rw[if_neg c]at h;cases hq:(fs.map (·.1)).findIdx? (· ==f)with
   |none=>rw[hq]at h;cases h
   |some k=>
    rw[hq]at h;cases h;have c':(f==g)=false:=Bool.eq_false_iff.mpr λz=>c (by rw[eq_of_beq z];exact beq_self_eq_true _)
    rw[c'];exact b8v hq (by simpa using e)
theorem c5q:∀{fs:List (Str×V)}{f:Str},(fs.map (·.1)).all (λg=>!(f==g))=true->fs.lookup f=none
 | [],f,_=>rfl
 | (g,x)::fs,f,h=>by
  rw[Z2,Vh,Xl]at h;have e:(f==g)=false:=by
   have:=h.1;cases q:(f==g)with
   |false=>rfl
   |true=>rw[q]at this;cases this
  rw[Xy,e];exact c5q h.2
mutual
inductive Dm(K:W.Frag)(H:Hp)(M:List Addr):V->PyData->Prop
 |non:Dm K H M .non .none
 |bl (b:Bool):Dm K H M (.bl b) (.bool b)
 |int (i:Int):Dm K H M (.int i) (.int i)
 |str (x:Str):Dm K H M (.str x) (.str x)
 |tup {a:Addr} {us:List V} {ds:List PyData}:SqT K H a us->DmL K H M us ds->Dm K H M (.ref a) (.tuple ds)
 |lst {a:Addr} {us:List V} {ds:List PyData}:H a=some (.lst us)->a∉M->DmL K H M us ds->Dm K H M (.ref a) (.list ds)
inductive DmL(K:W.Frag)(H:Hp)(M:List Addr):List V->List PyData->Prop
 |nil:DmL K H M [] []
 |cons {u:V} {us:List V} {d:PyData} {ds:List PyData}:Dm K H M u d->DmL K H M us ds->DmL K H M (u::us) (d::ds)
end
structure Pr(K:W.Frag)(M:List Addr)(H H':Hp):Prop where
 kp:∀a o,a∉M->H a=some o->H' a=some o
 kt:KT K H H'
theorem Pr.refl{K:W.Frag}{M:List Addr}{H:Hp}:Pr K M H H:=⟨λ_ _ _ h=>h,KT.refl H⟩
theorem Pr.trans{K:W.Frag}{M:List Addr}{H H1 H2:Hp}(a:Pr K M H H1)(b:Pr K M H1 H2):Pr K M H H2:=⟨λc o n h=>b.kp c o n (a.kp c o n h),a.kt.trans b.kt⟩
theorem Pr.same{K:W.Frag}{M:List Addr}{H H1:Hp}(s:Same H H1):Pr K M H H1:=⟨λc o _ h=>s c o h,KT.same s⟩
theorem Pr.upd{K:W.Frag}{M:List Addr}{H:Hp}{m:Addr}{o o0:HO}(hm:m∈M)(h:H m=some o0)(h1:∀xs,o0≠.tup xs)(h2:∀o' xs,o0≠.frz o' (.tup xs)):Pr K M H (upd H m o):=⟨λc o n e=>by rw[a0p (λz=>n (by rw[z];exact hm))];exact e,KT.upd h h1 h2⟩
mutual
theorem Dm.pr{K:W.Frag}{M:List Addr}{H H':Hp}(p:Pr K M H H'):∀{v:V}{d:PyData},Dm K H M v d->Dm K H' M v d
 |_,_,.non=>.non
 |_,_,.bl b=>.bl b
 |_,_,.int i=>.int i
 |_,_,.str x=>.str x
 |_,_,.tup h l=>.tup (p.kt _ _ h) (DmL.pr p l)
 |_,_,.lst h n l=>.lst (p.kp _ _ n h) n (DmL.pr p l)
theorem DmL.pr{K:W.Frag}{M:List Addr}{H H':Hp}(p:Pr K M H H'):∀{v:List V}{d:List PyData},DmL K H M v d->DmL K H' M v d
 |_,_,.nil=>.nil
 |_,_,.cons h l=>.cons (Dm.pr p h) (DmL.pr p l)
end
mutual
theorem Dm.dx{K:W.Frag}{M:List Addr}{H:Hp}:∀{v:V}{d:PyData},Dm K H M v d->Dx K H v d
 |_,_,.non=>.non
 |_,_,.bl b=>.bl b
 |_,_,.int i=>.int i
 |_,_,.str x=>.str x
 |_,_,.tup h l=>.tup h (DmL.dx l)
 |_,_,.lst h _ l=>.lst (SqL.of h) (DmL.dx l)
theorem DmL.dx{K:W.Frag}{M:List Addr}{H:Hp}:∀{v:List V}{d:List PyData},DmL K H M v d->DxL K H v d
 |_,_,.nil=>.nil
 |_,_,.cons h l=>.cons (Dm.dx h) (DmL.dx l)
end
mutual
theorem Den.dm{K:W.Frag}{M:List Addr}{H:Hp}:∀{v:V}{d:PyData},Den K H v d->Dm K H M v d
 |_,_,.non=>.non
 |_,_,.bl b=>.bl b
 |_,_,.int i=>.int i
 |_,_,.str x=>.str x
 |_,_,.tup h l=>.tup h (DenL.dm l)
theorem DenL.dm{K:W.Frag}{M:List Addr}{H:Hp}:∀{v:List V}{d:List PyData},DenL K H v d->DmL K H M v d
 |_,_,.nil=>.nil
 |_,_,.cons h l=>.cons (Den.dm h) (DenL.dm l)
end
theorem DmL.append{K:W.Frag}{M:List Addr}{H:Hp}:∀{us vs:List V}{ds es:List PyData},DmL K H M us ds->DmL K H M vs es->DmL K H M (us++vs) (ds++es)
 |_,_,_,_,.nil,l=>l
 |_,_,_,_,.cons h t,l=>.cons h (DmL.append t l)
theorem DmL.length{K:W.Frag}{M:List Addr}{H:Hp}:∀{us:List V}{ds:List PyData},DmL K H M us ds->us.length=ds.length
 |_,_,.nil=>rfl
 |_,_,.cons _ l=>by rw[length_cons,length_cons,DmL.length l]
mutual
theorem b1i{K:W.Frag}{M:List Addr}{H:Hp}:∀(t:Trm){v:V},Dm K H M v t.data↔Den K H v t.data
 | .num n,v=>⟨λh=>by cases h with|tup a b=>exact .tup a (by cases b with|cons c d=>cases c;cases d with|cons e f=>cases e;cases f;exact .cons (.str _) (.cons (.int _) .nil)),λh=>by cases h with|tup a b=>exact .tup a (by cases b with|cons c d=>cases c;cases d with|cons e f=>cases e;cases f;exact .cons (.str _) (.cons (.int _) .nil))⟩
 | .any n,v=>⟨λh=>by cases h with|tup a b=>exact .tup a (by cases b with|cons c d=>cases c;cases d with|cons e f=>cases e;cases f;exact .cons (.str _) (.cons (.str _) .nil)),λh=>by cases h with|tup a b=>exact .tup a (by cases b with|cons c d=>cases c;cases d with|cons e f=>cases e;cases f;exact .cons (.str _) (.cons (.str _) .nil))⟩
 | .app s ks,v=>⟨λh=>by
   cases h with
   |tup a b=>
    refine .tup a ?_;cases b with
    |cons c d=>
     cases c;cases d with
     |cons e f=>
      cases e;cases f with
      |cons g i=>
       cases i;cases g with
       |tup p q=>exact .cons (.str _) (.cons (.str _) (.cons (.tup p ((a9c ks).mp q)) .nil)),λh=>by
   cases h with
   |tup a b=>
    refine .tup a ?_;cases b with
    |cons c d=>
     cases c;cases d with
     |cons e f=>
      cases e;cases f with
      |cons g i=>
       cases i;cases g with
       |tup p q=>exact .cons (.str _) (.cons (.str _) (.cons (.tup p ((a9c ks).mpr q)) .nil))⟩
theorem a9c{K:W.Frag}{M:List Addr}{H:Hp}:∀(ts:List Trm){us:List V},DmL K H M us (Trm.dataL ts)↔DenL K H us (Trm.dataL ts)
 | [],us=>⟨λh=>by cases h;exact .nil,λh=>by cases h;exact .nil⟩
 |t::r,us=>⟨λh=>by cases h with|cons a b=>exact .cons ((b1i t).mp a) ((a9c r).mp b),λh=>by cases h with|cons a b=>exact .cons ((b1i t).mpr a) ((a9c r).mpr b)⟩
end
theorem b2f{K:W.Frag}{M:List Addr}{H:Hp}:∀(l:List Int){us:List V},DmL K H M us (l.map PyData.int)↔us=l.map V.int
 | [],us=>⟨λh=>by cases h;rfl,λh=>by rw[h];exact .nil⟩
 |i::r,us=>⟨λh=>by cases h with|cons a b=>cases a;rw[(b2f r).mp b];rfl,λh=>by rw[h];exact .cons (.int i) ((b2f r).mpr rfl)⟩
structure Rl where
 n:Nat
 head:Trm
 goals:List Trm
def Rl.data(x:Rl):PyData:=.tuple [.int (x.n:Int),x.head.data,.list (Trm.dataL x.goals)]
structure Wy where
 goal:Trm
 rules:List Rl
 todo:List (Trm×Nat)
 nums:List Int
 nt:Nat
abbrev Ans:=List (Str×Trm)×List Int
structure St where
 todo:List (Trm×Nat)
 nums:List Int
 rows:Rws
 left:List Wy
 us:Nat
 ct:Nat
 ans:List Ans
 en:Option PyData
def rlD(l:List Rl):PyData:=.list (l.map Rl.data)
def nbD(l:List Int):PyData:=.list (l.map PyData.int)
structure Cfg where
 tab:List (List Key×List Rl)
 bound:Int
 most:Int
 names:List Str
 asked:List Trm
structure RO where
 rl:Addr
 bd:Int
 ms:Int
 nm:Addr
 sk:Addr
 td:Addr
 nb:Addr
 pd:Addr
 nl:Addr
 lf:Addr
 nt:Addr
 us:Int
 ct:Int
 an:Addr
 en:V
def roN:List Str:=[ofString "rules",ofString "bound",ofString "most",ofString "names",ofString "asked",ofString "todo",ofString "numbers",ofString "puts",ofString "noted",ofString "left",ofString "nots",ofString "uses",ofString "count",ofString "answers",ofString "end"]
def RO.vs(o:RO):List V:=[.ref o.rl,.int o.bd,.int o.ms,.ref o.nm,.ref o.sk,.ref o.td,.ref o.nb,.ref o.pd,.ref o.nl,.ref o.lf,.ref o.nt,.int o.us,.int o.ct,.ref o.an,o.en]
def RO.fs(o:RO):List (Str×V):=roN.zip o.vs
def Tab(K:W.Frag)(H:Hp)(M:List Addr)(kvs:List (List Key×V))(tab:List (List Key×List Rl)):Prop:=Paired (λ(p:List Key×V) (q:List Key×List Rl)=>p.1=q.1/\Dm K H M p.2 (rlD q.2)) kvs tab
abbrev RO.M(o:RO)(r:Addr):List Addr:=[r,o.pd,o.nl,o.lf,o.an]
theorem nb_list{K:W.Frag}{H:Hp}{M:List Addr}{a:Addr}{l:List Int}(h:Dm K H M (.ref a) (nbD l)):H a=some (.lst (l.map V.int))/\a∉M:=by
 cases h with
 |lst h1 h2 h3=>rw[(b2f l).mp h3]at h1;exact⟨h1,h2⟩
theorem nb_mk{K:W.Frag}{H:Hp}{M:List Addr}{a:Addr}{l:List Int}(h:H a=some (.lst (l.map V.int)))(n:a∉M):Dm K H M (.ref a) (nbD l):=.lst h n ((b2f l).mpr rfl)
theorem nb_ref{K:W.Frag}{H:Hp}{M:List Addr}{v:V}{l:List Int}(h:Dm K H M v (nbD l)):∃a,v=.ref a:=by
 cases h with
 |lst h1 h2 h3=>exact⟨_,rfl⟩
theorem c0x(v:V)(us:List V):atI (v::us) 0=some v:=by
 obtain⟨w1,w2,w3⟩:=a2c (xs:=v::us) (i:=0) qd (by rw[length_cons];omega);rw[w2,<-w3];rfl
theorem b8w{w:Str}(h:Wd w):nmd w=true:=by
 rw[nmd,h.cl,Zo (λz=>by
  rcases Zp.mp z with z|z
  ·exact h.kp z
  ·exact h.nt (Zs.mp z))]
 rfl
def ruE(x:Trm×List Trm):PyData:=.tuple [x.1.data,.tuple (Trm.dataL x.2)]
def fAn(x:Trm×List Trm):Str->Str:=sub (mkA (λj _=>uS++tn (j+1)) 0 (ordL (x.1::x.2) []))
def mkRl(n:Nat)(x:Trm×List Trm):Rl:=⟨n,ren (fAn x) x.1,renL (fAn x) x.2⟩
theorem c5r(x:Trm×List Trm):anew (x.1::x.2)=ren (fAn x) x.1::renL (fAn x) x.2:=by
 unfold anew fAn;rw[renL]
def keyT:Trm->List Key
 | .app w ks=>nd w ks.length
 |_=>[]
def addT:List (List Key×List Rl)->List Key->Rl->List (List Key×List Rl)
 | [],k,x=>[(k,[x])]
 | (k',l)::r,k,x=>if k'=k then(k',l++[x])::r else(k',l)::addT r k x
def tabF:List (Trm×List Trm)->Nat->List (List Key×List Rl)->List (List Key×List Rl)
 | [],_,tb=>tb
 |x::r,n,tb=>tabF r (n+1) (addT tb (keyT x.1) (mkRl (n+1) x))
def tabOf(l:List (Trm×List Trm)):List (List Key×List Rl):=tabF l 0 []
theorem b6i:∀(l:List (Trm×List Trm))(x:Trm×List Trm)(n:Nat)(tb:List (List Key×List Rl)),tabF (l++[x]) n tb=addT (tabF l n tb) (keyT x.1) (mkRl (n+l.length+1) x)
 | [],x,n,tb=>rfl
 |y::l,x,n,tb=>by
  rw[Wk,tabF,b6i l x,tabF,length_cons,show n+1+l.length+1=n+(l.length+1)+1 by omega]
structure RuOk(x:Trm×List Trm):Prop where
 ap:∃w ks,x.1=.app w ks
 z1:x.1.size<=60
 z2:∀g∈x.2,g.size<=60
 l:x.2.length<=10
theorem b3q{ts:List Trm}{B:Nat}(h:∀t∈ts,t.size<=B):Trm.sizeL ts<=ts.length*B:=by
 induction ts with
 |nil=>simp[Trm.sizeL]
 |cons t r ih=>
  rw[Trm.sizeL,length_cons,Nat.add_mul];have:=h t (Ye ..);have:=ih λt ht=>h t (Zv _ ht)
  omega
mutual
theorem Dm.more{K:W.Frag}{M:List Addr}{H:Hp}{m:Addr}(n:H m=none):∀{v:V}{d:PyData},Dm K H M v d->Dm K H (m::M) v d
 |_,_,.non=>.non
 |_,_,.bl b=>.bl b
 |_,_,.int i=>.int i
 |_,_,.str x=>.str x
 |_,_,.tup h l=>.tup h (DmL.more n l)
 |_,_,.lst h e l=>.lst h (λz=>by
   rcases Zp.mp z with z|z
   ·rw[z,n]at h;cases h
   ·exact e z) (DmL.more n l)
theorem DmL.more{K:W.Frag}{M:List Addr}{H:Hp}{m:Addr}(n:H m=none):∀{v:List V}{d:List PyData},DmL K H M v d->DmL K H (m::M) v d
 |_,_,.nil=>.nil
 |_,_,.cons h l=>.cons (Dm.more n h) (DmL.more n l)
end
mutual
theorem Dm.weak{K:W.Frag}{M:List Addr}{H:Hp}:∀{v:V}{d:PyData},Dm K H M v d->Dm K H [] v d
 |_,_,.non=>.non
 |_,_,.bl b=>.bl b
 |_,_,.int i=>.int i
 |_,_,.str x=>.str x
 |_,_,.tup h l=>.tup h (DmL.weak l)
 |_,_,.lst h e l=>.lst h qz (DmL.weak l)
theorem DmL.weak{K:W.Frag}{M:List Addr}{H:Hp}:∀{v:List V}{d:List PyData},DmL K H M v d->DmL K H [] v d
 |_,_,.nil=>.nil
 |_,_,.cons h l=>.cons (Dm.weak h) (DmL.weak l)
end
structure TabM(K:W.Frag)(H0 H:Hp)(p:Addr)(M:List Addr)(kvs:List (List Key×V))(tab:List (List Key×List Rl)):Prop where
 sm:Same H0 H
 top:H p=some (.dT kvs)
 f:H0 p=none
 fm:∀m∈M,H0 m=none
 row:Paired (λ(a:List Key×V) (b:List Key×List Rl)=>a.1=b.1/\∃m us,a.2=.ref m/\m∈M/\H m=some (.lst us)/\DmL K H M us (b.2.map Rl.data)) kvs tab
 nd:(kvs.map (·.2)).Nodup
 ex:∀m∈M,∃us,H m=some (.lst us)
abbrev b0e(K:W.Frag):Sp:=λvs H Q _=>match vs with| [.ref a]=>∃(us:List V)(rs:List (Trm×List Trm)),SqL K H a us/\DenL K H us (rs.map ruE)/\(∀x∈rs,RuOk x)/\rs.length<=100/\∀p kvs H',Same H H'->H p=none->H' p=some (.dT kvs)->Tab K H' [] kvs (tabOf rs)->Q (.ref p) H'|_=>False
theorem TabM.same{K:W.Frag}{H0 H H':Hp}{p:Addr}{M:List Addr}{kvs:List (List Key×V)}{tab:List (List Key×List Rl)}(h:TabM K H0 H p M kvs tab)(s:Same H H'):TabM K H0 H' p M kvs tab:=
 ⟨h.sm.trans s,s _ _ h.top,h.f,h.fm,Paired.mapP h.row λ_ _ ⟨e,m,us,e1,e2,e3,e4⟩=>⟨e,m,us,e1,e2,s _ _ e3,e4.pr (.same s)⟩,h.nd,λm hm=>let⟨us,e⟩:=h.ex m hm;⟨us,s _ _ e⟩⟩
theorem TabM.get{K:W.Frag}{H:Hp}{M:List Addr}{kvs:List (List Key×V)}{tab:List (List Key×List Rl)}(h:Paired (λ(a:List Key×V) (b:List Key×List Rl)=>a.1=b.1/\∃m us,a.2=.ref m/\m∈M/\H m=some (.lst us)/\DmL K H M us (b.2.map Rl.data)) kvs tab)(k:List Key)(x:Rl):(valV kvs k=none/\addT tab k x=tab++[(k,[x])]/\putK kvs k=λv=>kvs++[(k,v)])\/∃k1 k2 m l1 l2 us l,kvs=k1++(k,.ref m)::k2/\valV kvs k=some (.ref m)/\m∈M/\H m=some (.lst us)/\DmL K H M us (l.map Rl.data)/\tab=l1++(k,l)::l2/\addT tab k x=l1++(k,l++[x])::l2/\Paired (λ(a:List Key×V) (b:List Key×List Rl)=>a.1=b.1/\∃m us,a.2=.ref m/\m∈M/\H m=some (.lst us)/\DmL K H M us (b.2.map Rl.data)) k1 l1/\Paired (λ(a:List Key×V) (b:List Key×List Rl)=>a.1=b.1/\∃m us,a.2=.ref m/\m∈M/\H m=some (.lst us)/\DmL K H M us (b.2.map Rl.data)) k2 l2:=by
 induction h with
 |nil=>exact .inl ⟨rfl,rfl,rfl⟩
 | @cons a b kvs tab h t ih=>
  obtain⟨ka,va⟩:=a;obtain⟨kb,lb⟩:=b;obtain⟨e,m,us,e1,e2,e3,e4⟩:=h;have e:ka=kb:=e;have e1:va=.ref m:=e1;subst e;subst e1
  by_cases c:ka=k
  ·subst c;refine .inr ⟨[],kvs,m,[],tab,us,lb,rfl,?_,e2,e3,e4,rfl,?_,.nil,t⟩
   ·unfold valV;rw[List.find?_cons_of_pos (by exact Zt rfl)];rfl
   ·rw[addT,if_pos rfl];rfl
  ·have ev:valV ((ka,V.ref m)::kvs) k=valV kvs k:=by
    unfold valV;rw[List.find?_cons_of_neg (by simpa using c)]
   rcases ih with⟨g1,g2,g3⟩|⟨k1,k2,m',l1,l2,us',l,g1,g2,g3,g4,g5,g6,g7,g8,g9⟩
   ·refine .inl ⟨ev.trans g1,by rw[addT,if_neg c,g2];rfl,?_⟩
    funext v
    have g3:=congrFun g3 v;unfold putK at g3 ⊢;have hn:(kvs.any λkv=>decide (kv.1=k))=false:=by
     cases hh:(kvs.any λkv=>decide (kv.1=k))with
     |false=>rfl
     |true=>
      rw[V6]at hh;obtain⟨kv,z1,z2⟩:=hh;unfold valV at g1;have:=Uu.mp (T2.mp g1) kv z1;exact absurd z2 this
    rw[Xw,hn,Zo c];rfl
   ·refine .inr ⟨(ka,.ref m)::k1,k2,m',(ka,lb)::l1,l2,us',l,by rw[g1];rfl,ev.trans g2,g3,g4,g5,by rw[g6];rfl,by rw[addT,if_neg c,g7];rfl,.cons ⟨rfl,m,us,rfl,e2,e3,e4⟩ g8,g9⟩
mutual
theorem Dm.kl{K:W.Frag}{M:List Addr}{H H':Hp}(k:∀a us,a∉M->H a=some (.lst us)->H' a=some (.lst us))(kt:KT K H H'):∀{v:V}{d:PyData},Dm K H M v d->Dm K H' M v d
 |_,_,.non=>.non
 |_,_,.bl b=>.bl b
 |_,_,.int i=>.int i
 |_,_,.str x=>.str x
 |_,_,.tup h l=>.tup (kt _ _ h) (DmL.kl k kt l)
 |_,_,.lst h n l=>.lst (k _ _ n h) n (DmL.kl k kt l)
theorem DmL.kl{K:W.Frag}{M:List Addr}{H H':Hp}(k:∀a us,a∉M->H a=some (.lst us)->H' a=some (.lst us))(kt:KT K H H'):∀{v:List V}{d:List PyData},DmL K H M v d->DmL K H' M v d
 |_,_,.nil=>.nil
 |_,_,.cons h l=>.cons (Dm.kl k kt h) (DmL.kl k kt l)
end
abbrev TR(K:W.Frag)(H:Hp)(M:List Addr):List Key×V->List Key×List Rl->Prop:=λa b=>a.1=b.1/\∃m us,a.2=.ref m/\m∈M/\H m=some (.lst us)/\DmL K H M us (b.2.map Rl.data)
theorem TR.apart{K:W.Frag}{H:Hp}{M:List Addr}{m:Addr}{o:HO}(p:Pr K M H (upd H m o)){k1:List (List Key×V)}{l1:List (List Key×List Rl)}(h:Paired (TR K H M) k1 l1)(n:V.ref m∉k1.map (·.2)):Paired (TR K (upd H m o) M) k1 l1:=by
 induction h with
 |nil=>exact .nil
 |cons z _ ih=>
  obtain⟨e,m',us,e1,e2,e3,e4⟩:=z;rw[Z2]at n;have hne:m'≠m:=λz=>n (by rw[e1,z];exact Ye ..)
  exact .cons ⟨e,m',us,e1,e2,by rw[a0p hne];exact e3,e4.pr p⟩ (ih λz=>n (Zv _ z))
theorem b4t{α β:Type}{F:α->β->Prop}:∀{a1:List α}{b1:List β}{a2:List α}{b2:List β},Paired F a1 b1->Paired F a2 b2->Paired F (a1++a2) (b1++b2)
 |_,_,_,_,.nil,h=>h
 |_,_,_,_,.cons a t,h=>.cons a (b4t t h)
section
variable{K:W.Frag}{H0 H H1:Hp}{p:Addr}{M:List Addr}{kvs:List (List Key×V)}{tab:List (List Key×List Rl)}
theorem TabM.notM(h:TabM K H0 H p M kvs tab){a:Addr}(e:H a=none):a∉M:=λz=>by
 obtain⟨us,e2⟩:=h.ex a z;rw[e]at e2;cases e2
theorem TabM.app(h:TabM K H0 H p M kvs tab){k:List Key}{m:Addr}{v:V}{x:Rl}(hv:valV kvs k=some (.ref m))(d:Dm K H M v x.data):∃us,H m=some (.lst us)/\(∃b∈addT tab k x,b.2.length=us.length+1)/\TabM K H0 (upd H m (.lst (us++[v]))) p M kvs (addT tab k x)/\Pr K M H (upd H m (.lst (us++[v]))):=by
 rcases TabM.get h.row k x with⟨g1,_,_⟩|⟨k1,k2,m',l1,l2,us,l,g1,g2,g3,g4,g5,g6,g7,g8,g9⟩
 ·rw[hv]at g1;cases g1
 ·rw[hv]at g2;cases g2;have pr:Pr K M H (upd H m (.lst (us++[v]))):=.upd g3 g4 (λ_ z=>by cases z) (λ_ _ z=>by cases z);have nd:=h.nd;rw[g1,Zi,Ws,Z2]at nd;have n1:V.ref m∉k1.map (·.2):=λz=>nd.2.2 _ z _ (Ye ..) rfl
  have n2:V.ref m∉k2.map (·.2):=(W1.mp nd.2.1).1;have hl:=g5.length;rw[length_map]at hl;refine⟨us,g4,⟨(k,l++[x]),by rw[g7];simp,by simp[hl]⟩,⟨a1f h.sm (h.fm m g3),?_,h.f,h.fm,?_,h.nd,λa ha=>?_⟩,pr⟩
  ·rw[a0p (a5n h.top g4 (λz=>by cases z))];exact h.top
  ·rw[g7,g1];refine b4t (TR.apart pr g8 n1) (.cons ⟨rfl,m,_,rfl,g3,a0c,?_⟩ (TR.apart pr g9 n2));rw[Zi];exact(g5.pr pr).append (.cons (d.pr pr) .nil)
  ·by_cases c:a=m
   ·rw[c];exact⟨_,a0c⟩
   ·obtain⟨us2,e2⟩:=h.ex a ha;exact⟨us2,by rw[a0p c];exact e2⟩
theorem TabM.at(h:TabM K H0 H p M kvs tab){k:List Key}{m:Addr}(hv:valV kvs k=some (.ref m)):∃us,H m=some (.lst us):=by
 rcases TabM.get h.row k ⟨0,.num 0,[]⟩with⟨g1,_,_⟩|⟨k1,k2,m',l1,l2,us,l,g1,g2,g3,g4,_⟩
 ·rw[hv]at g1;cases g1
 ·rw[hv]at g2;cases g2;exact⟨us,g4⟩
theorem TabM.setd(h:TabM K H0 H1 p M kvs tab){k:List Key}{px pe:Addr}(hx:H1 px=some (.tup (k.map kV)))(he:H1 pe=none)(hz:kvs.length<=1000){Q:VK}
  (kq:∀H2 m M' kvs' tab',TabM K H0 H2 p M' kvs' tab'->valV kvs' k=some (.ref m)->(∀x,addT tab' k x=addT tab k x)->kvs'.length<=kvs.length+1->KT K H1 H2->(∀a us,a∉M->H1 a=some (.lst us)->H2 a=some (.lst us)/\a∉M')->Q (.ref m) H2):b8n (.ref p) [.ref px,.ref pe] (upd H1 pe (.lst [])) Q:=by
 have s1:=a0e he (.lst []);have h1:=h.same s1;refine c7r h1.top (s1 _ _ hx) (ln qo) (λv hv=>?_) λhv=>?_
 ·rcases TabM.get h.row k ⟨0,.num 0,[]⟩with⟨g1,_,_⟩|⟨k1,k2,m',l1,l2,us,l,g1,g2,g3,g4,g5,g6,g7,g8,g9⟩
  ·rw[hv]at g1;cases g1
  ·rw[hv]at g2;cases g2;exact kq _ m' M kvs tab h1 hv (λ_=>rfl) (Ta _) (KT.same s1) λa us n e=>⟨s1 _ _ e,n⟩
 ·have hpe0:H0 pe=none:=by
   cases e:H0 pe with
   |none=>rfl
   |some o=>rw[h.sm _ _ e]at he;cases he
  have npe:pe≠p:=λz=>by rw[z,h.top]at he;cases he
  have hM:pe∉M:=h.notM he;rcases TabM.get h.row k ⟨0,.num 0,[]⟩with⟨g1,_,g3⟩|⟨_,_,_,_,_,_,_,_,g2,_⟩
  rotate_left
  ·rw[hv]at g2;cases g2
  have g3:=congrFun g3 (.ref pe);rw[g3];have kt:KT K (upd H1 pe (.lst [])) (upd (upd H1 pe (.lst [])) p (.dT (kvs++[(k,.ref pe)]))):=.upd h1.top (λ_ z=>by cases z) (λ_ _ z=>by cases z);have kl:∀a us,(upd H1 pe (.lst [])) a=some (.lst us)->(upd (upd H1 pe (.lst [])) p (.dT (kvs++[(k,.ref pe)]))) a=some (.lst us):=λa us e=>by rw[a0p (a5n e h1.top (λz=>by cases z))];exact e
  have hnew:∀x,addT (tab++[(k,[])]) k x=addT tab k x:=λx=>by
   rcases TabM.get h.row k x with⟨_,g2,_⟩|⟨_,_,_,_,_,_,_,_,g2,_⟩
   ·rw[g2];have:∀(tb:List (List Key×List Rl)),addT tb k x=tb++[(k,[x])]->addT (tb++[(k,[])]) k x=tb++[(k,[x])]:=λtb=>by
     induction tb with
     |nil=>intro _;show addT [(k,[])] k x=_;rw[addT,if_pos rfl];rfl
     |cons y r ih=>
      intro e;obtain⟨ky,ly⟩:=y;rw[addT]at e;rw[Wk,addT]
      by_cases c:ky=k
      ·rw[if_pos c]at e
       exfalso
       have:=Xj List.length e
       simp at this
      ·rw[if_neg c]at e ⊢;rw[ih (V3 e).2];rfl
    exact this tab g2
   ·rw[hv]at g2;cases g2
  refine kq _ pe (pe::M) (kvs++[(k,.ref pe)]) (tab++[(k,[])]) ⟨a1f h1.sm h.f,a0c,h.f,λm hm=>?_,?_,?_,λm hm=>?_⟩ ?_ hnew qz ((KT.same s1).trans kt) (λa us n e=>⟨kl _ _ (s1 _ _ e),λz=>?_⟩)
  ·rcases Zp.mp hm with z|z
   ·rw[z];exact hpe0
   ·exact h.fm m z
  ·refine Sg (Paired.mapP h.row λ_ _ ⟨e,m,us,e1,e2,e3,e4⟩=>⟨e,m,us,e1,Zv _ e2,kl _ _ (s1 _ _ e3),((e4.more he).pr (.same s1)).kl (λa us _ e=>kl _ _ e) kt⟩) ⟨rfl,pe,[],rfl,Ye ..,kl _ _ a0c,.nil⟩
  ·rw[Zi,Ws];refine⟨h.nd,qz,λa ha b hb z=>?_⟩;have hb:b=.ref pe:=by simpa using hb
   obtain⟨kv,hkv,e1⟩:=Z4.mp ha;have:∀{k1:List (List Key×V)}{l1:List (List Key×List Rl)},Paired (TR K H1 M) k1 l1->∀y∈k1,∃m us,y.2=.ref m/\H1 m=some (.lst us):=λ{k1 l1} q=>by
    induction q with
    |nil=>intro y hy;simp at hy
    |cons a t ih=>
     intro y hy;obtain⟨_,m,us,c1,_,c3,_⟩:=a;rcases Zp.mp hy with z|z
     ·rw[z];exact⟨m,us,c1,c3⟩
     ·exact ih y z
   obtain⟨m,us,c1,c2⟩:=this h.row kv hkv;rw[<-e1,c1,hb]at z;cases z;rw[he]at c2;cases c2
  ·rcases Zp.mp hm with z|z
   ·rw[z];exact⟨_,kl _ _ a0c⟩
   ·obtain⟨us,e⟩:=h.ex m z;exact⟨us,kl _ _ (s1 _ _ e)⟩
  ·unfold valV at hv ⊢;rw[List.find?_append,T2.mp hv]
   simp
  ·rcases Zp.mp z with z|z
   ·rw[z,he]at e;cases e
   ·exact n z
end
theorem b3r{k:List Key}{x:Rl}{n:Nat}:∀{tb:List (List Key×List Rl)},(∀b∈tb,b.2.length<=n)->∀b∈addT tb k x,b.2.length<=n+1
 | [],_,b,hb=>by
  rw[addT]at hb;rw[Zs.mp hb]
  show 1<=n+1
  omega
 | (k',l)::r,h,b,hb=>by
  rw[addT]at hb;have h1:l.length<=n:=h (k',l) (Ye ..)
  by_cases c:k'=k
  ·rw[if_pos c]at hb;rcases Zp.mp hb with z|z
   ·rw[z];simp;exact h1
   ·have:=h b (Zv _ z);omega
  ·rw[if_neg c]at hb;rcases Zp.mp hb with z|z
   ·rw[z];show l.length<=n+1;omega
   ·exact b3r (λb hb=>h b (Zv _ hb)) b z
theorem b8x:∀{rs:List (Trm×List Trm)}{k n:Nat}{tb:List (List Key×List Rl)},(∀b∈tb,b.2.length<=n)->∀b∈tabF rs k tb,b.2.length<=n+rs.length
 | [],k,n,tb,h,b,hb=>h b hb
 |x::r,k,n,tb,h,b,hb=>by
  rw[tabF]at hb;have:=b8x (b3r h) b hb;rw[length_cons];omega
mutual
def mt:Trm->Trm->Rws->Option Rws
 | .any x,u,r=>match a2m r x with|some v=>if eqb v u=true then some r else none|none=>some (putR r x u)
 | .num a,.num b,r=>if a=b then some r else none
 | .app s ks,.app s' ls,r=>if s=s'/\ks.length=ls.length then mtL ks ls r else none
 | .num _,.any _,_=>none
 | .num _,.app _ _,_=>none
 | .app _ _,.any _,_=>none
 | .app _ _,.num _,_=>none
def mtL:List Trm->List Trm->Rws->Option Rws
 |k::ks,l::ls,r=>(mt k l r).bind (mtL ks ls)
 | [],_,r=>some r
 |_::_,[],r=>some r
end
theorem b2g{r:Rws}{x:Str}{u:Trm}(h:a2m r x=none):mt (.any x) u r=some (putR r x u):=by rw[mt,h]
theorem a9d{r:Rws}{x:Str}{u v:Trm}(h:a2m r x=some v):mt (.any x) u r=if eqb v u=true then some r else none:=by rw[mt,h]
theorem b4u{a b:Trm}{r:Rws}{ks:List Key}(h:keyK a=some ks)(hn:keyK b≠some ks):mt a b r=none:=by
 cases a with
 |any _=>cases h
 |num m=>
  cases h;cases b with
  |any _=>rw[mt]
  |app _ _=>rw[mt]
  |num m'=>
   rw[mt,if_neg (λe=>hn (by rw[e];rfl))]
 |app s ks=>
  cases h;cases b with
  |any _=>rw[mt]
  |num _=>rw[mt]
  |app s' ls=>
   rw[mt,if_neg (λe=>hn (by rw[e.1,e.2];rfl))]
def mtP:List (Trm×Trm)->Rws->Option Rws
 | [],r=>some r
 |p::ps,r=>(mt p.1 p.2 r).bind (mtP ps)
theorem c0y:∀(ks ls:List Trm)(ps:List (Trm×Trm))(r:Rws),ks.length=ls.length->mtP (ks.zip ls++ps) r=(mtL ks ls r).bind (mtP ps)
 | [],[],ps,r,_=>by simp[mtL]
 |k::ks,l::ls,ps,r,h=>by
  simp only[Re,Wk,mtP,mtL,Uz];cases mt k l r with
  |none=>rfl
  |some r'=>exact c0y ks ls ps r' (by simpa using h)
 | [],_::_,_,_,h=>by simp at h
 |_::_,[],_,_,h=>by simp at h
def b0f(p:Trm×Trm):PyData:=.tuple [p.1.data,p.2.data]
theorem c8f{K:W.Frag}{H:Hp}{v:V}{p:Trm×Trm}(h:Den K H v (b0f p)):∃q x y,v=.ref q/\SqT K H q [x,y]/\Den K H x p.1.data/\Den K H y p.2.data:=by
 cases h with
 |tup hs hl=>
  cases hl with
  |cons a r=>
   cases r with
   |cons b z=>
    cases z;exact⟨_,_,_,rfl,hs,a,b⟩
theorem b4v{K:W.Frag}{H:Hp}:∀(qs:List Addr)(xs ys:List V)(ks ls:List Trm),qs.length=xs.length->ys.length=xs.length->a7k H qs xs ys->DenL K H xs (Trm.dataL ks)->DenL K H ys (Trm.dataL ls)->DenL K H (qs.map V.ref) ((ks.zip ls).map b0f)
 | [],[],[],[],[],_,_,_,_,_=>.nil
 |q::qs,x::xs,y::ys,k::ks,l::ls,h1,h2,pr,d1,d2=>by
  simp only[Trm.dataL]at d1 d2;cases d1 with
  |cons a1 r1=>
   cases d2 with
   |cons a2 r2=>
    refine .cons (.tup (SqT.of (pr 0 q x y rfl rfl rfl)) (.cons a1 (.cons a2 .nil))) (b4v qs xs ys ks ls (by simpa using h1) (by simpa using h2) (λj q' x' y' g1 g2 g3=>pr (j+1) q' x' y' (by simpa using g1) (by simpa using g2) (by simpa using g3)) r1 r2)
 | [],_::_,_,_,_,h1,_,_,_,_=>by simp at h1
 |_::_,[],_,_,_,h1,_,_,_,_=>by simp at h1
 |_,[],_::_,_,_,_,h2,_,_,_=>by simp at h2
 |_,_::_,[],_,_,_,h2,_,_,_=>by simp at h2
 |_,[],_,_::_,_,_,_,_,d1,_=>by simp only[Trm.dataL]at d1;cases d1
 |_,_::_,_,[],_,_,_,_,d1,_=>by simp only[Trm.dataL]at d1;cases d1
 |_,_,[],_,_::_,_,_,_,_,d2=>by simp only[Trm.dataL]at d2;cases d2
 |_,_,_::_,_,[],_,_,_,_,d2=>by simp only[Trm.dataL]at d2;cases d2
def a2w(ps:List (Trm×Trm)):Nat:=Trm.sizeL (ps.map (·.1))
theorem a6w(a b:List (Trm×Trm)):a2w (a++b)=a2w a+a2w b:=by
 unfold a2w;rw[Zi,Trm.sizeL_app]
theorem b6j:∀(ks ls:List Trm),ks.length=ls.length->a2w (ks.zip ls).reverse=Trm.sizeL ks
 | [],[],_=>rfl
 |k::ks,l::ls,h=>by
  rw[Re,Xq,a6w,b6j ks ls (by simpa using h)];simp only[a2w,Z2,Xd,Trm.sizeL];omega
 | [],_::_,h=>by simp at h
 |_::_,[],h=>by simp at h
theorem c5s(ps:List (Trm×Trm)):ps.length<=a2w ps:=by
 have:=Trm.len_le (ps.map (·.1));rw[length_map]at this;exact this
structure RwOk(rows:Rws)(n:Nat):Prop where
 len:rows.length<=n
 small:∀r∈rows,r.2.size<=70
theorem RwOk.put{rows:Rws}{n:Nat}(h:RwOk rows n){x:Str}{t:Trm}(ht:t.size<=70):RwOk (putR rows x t) (n+1):=by
 unfold putR
 split
 ·refine⟨by rw[length_map];have:=h.len;omega,λr hr=>?_⟩;obtain⟨q,hq,rfl⟩:=Z4.mp hr
  split
  ·exact ht
  ·exact h.small q hq
 ·refine⟨by rw[Zf,Zq];have:=h.len;omega,λr hr=>?_⟩;rcases Zx.mp hr with z|z
  ·exact h.small r z
  ·rw[Zs.mp z];exact ht
def onM(K:W.Frag)(H:Hp)(Q:VK):Option Rws->Prop
 |none=>∀H',Same H H'->Q .non H'
 |some rows=>∀p H',Same H H'->H p=none->a2l K H' p rows->Q (.ref p) H'
abbrev b0g(K:W.Frag):Sp:=λvs H Q _=>match vs with| [v,v',.ref pd]=>∃(t t':Trm)(rows:Rws),Den K H v t.data/\Den K H v' t'.data/\a2l K H pd rows/\RwOk rows 1000/\t.size<=70/\t'.size<=70/\onM K H Q (mt t t' rows)|_=>False
abbrev a2e:Sp:=λvs H Q _=>match vs with| [.ref st]=>∃i,H st=some (.lst [.int i])/\∀v j,Q (.int v) (upd H st (.lst [.int j]))|_=>False
mutual
theorem mt_ok:∀(t t':Trm)(r r':Rws)(m:Nat),mt t t' r=some r'->RwOk r m->t'.size<=70->RwOk r' (m+t.size)
 | .any x,u,r,r',m,h,o,z=>by
  cases hl:a2m r x with
  |none=>
   rw[b2g hl]at h;cases h;exact o.put z
  |some v=>
   rw[a9d hl]at h;split at h
   ·cases h;exact⟨by have:=o.len;omega,o.small⟩
   ·cases h
 | .num a,.num b,r,r',m,h,o,z=>by
  rw[mt]at h;split at h
  ·cases h;exact⟨by have:=o.len;omega,o.small⟩
  ·cases h
 | .app s ks,.app s' ls,r,r',m,h,o,z=>by
  rw[mt]at h;split at h
  ·have:=c5t ks ls r r' m h o (by simp only[Trm.size]at z;omega);exact⟨by have:=this.len;simp only[Trm.size];omega,this.small⟩
  ·cases h
 | .num _,.any _,r,r',m,h,o,z=>by rw[mt]at h;cases h
 | .num _,.app _ _,r,r',m,h,o,z=>by rw[mt]at h;cases h
 | .app _ _,.any _,r,r',m,h,o,z=>by rw[mt]at h;cases h
 | .app _ _,.num _,r,r',m,h,o,z=>by rw[mt]at h;cases h
theorem c5t:∀(ks ls:List Trm)(r r':Rws)(m:Nat),mtL ks ls r=some r'->RwOk r m->Trm.sizeL ls<=70->RwOk r' (m+Trm.sizeL ks)
 |k::ks,l::ls,r,r',m,h,o,z=>by
  rw[mtL]at h;simp only[Trm.sizeL]at z;cases e:mt k l r with
  |none=>rw[e]at h;cases h
  |some r1=>
   rw[e]at h;have h:mtL ks ls r1=some r':=h;have o1:=mt_ok k l r r1 m e o qo;have o2:=c5t ks ls r1 r' _ h o1 qo;exact⟨by have:=o2.len;simp only[Trm.sizeL];omega,o2.small⟩
 | [],_,r,r',m,h,o,z=>by
  rw[mtL]at h;cases h;exact⟨by have:=o.len;omega,o.small⟩
 |_::_,[],r,r',m,h,o,z=>by
  rw[mtL]at h;cases h;exact⟨by have:=o.len;omega,o.small⟩
end
theorem c5u:∀{r:Rws}{x:Str}{t:Trm},(r.map (·.1)).Nodup->a2m r x=some t->putR r x t=r:=by
 intro r x t hn h;have hm:=a7s h;unfold putR;rw[if_pos (V6.mpr ⟨_,hm,qz⟩)];have:∀q∈r,(if q.1=x then(q.1,t)else q)=q:=λq hq=>by
  split
  ·rename_i e;have hq':(q.1,q.2)∈r:=hq;have:q=(x,t):=by
    have hp:=List.pairwise_map.mp hn
    by_cases hqe:q=(x,t)
    ·exact hqe
    ·exfalso
     obtain⟨i,hi⟩:=Ug.mp hq;obtain⟨j,hj⟩:=Ug.mp hm;have hi1:=(Z3.mp hi);have hj1:=(Z3.mp hj);obtain⟨hi1,hi2⟩:=hi1;obtain⟨hj1,hj2⟩:=hj1;have hpp:=Vu.mp hp;rcases U1 i j with z|z|z
     ·exact hpp i j hi1 hj1 z (by rw[hi2,hj2,e])
     ·subst z;rw[hi2]at hj2;exact hqe hj2
     ·exact hpp j i hj1 hi1 z (by rw[hi2,hj2,e])
   rw[this]
  ·rfl
 rw[Ss this,List.map_id']
theorem b6k{r:Rws}{x:Str}{t:Trm}(hn:(r.map (·.1)).Nodup):((putR r x t).map (·.1)).Nodup:=by
 unfold putR
 split
 ·rw[Y6];have:((λp:Str×Trm=>p.1)∘λq:Str×Trm=>if q.1=x then(q.1,t)else q)=λq=>q.1:=by
   funext q
   show(if q.1=x then(q.1,t)else q).1=q.1
   split<;>rfl
  rw[this];exact hn
 ·rename_i hz;rw[Zi];refine Ws.mpr ⟨hn,qz,λa ha b hb e=>hz ?_⟩;obtain⟨q,hq,rfl⟩:=Z4.mp ha;have hb:b=x:=by simpa using hb
  exact V6.mpr ⟨q,hq,by simp[e,hb]⟩
mutual
theorem b4w:∀(t t':Trm)(r r':Rws),mt t t' r=some r'->(r.map (·.1)).Nodup->(r'.map (·.1)).Nodup
 | .any x,u,r,r',h,o=>by
  cases hl:a2m r x with
  |none=>rw[b2g hl]at h;cases h;exact b6k o
  |some v=>
   rw[a9d hl]at h;split at h
   ·cases h;exact o
   ·cases h
 | .num a,.num b,r,r',h,o=>by
  rw[mt]at h;split at h
  ·cases h;exact o
  ·cases h
 | .app s ks,.app s' ls,r,r',h,o=>by
  rw[mt]at h;split at h
  ·exact c0z ks ls r r' h o
  ·cases h
 | .num _,.any _,r,r',h,o=>by rw[mt]at h;cases h
 | .num _,.app _ _,r,r',h,o=>by rw[mt]at h;cases h
 | .app _ _,.any _,r,r',h,o=>by rw[mt]at h;cases h
 | .app _ _,.num _,r,r',h,o=>by rw[mt]at h;cases h
theorem c0z:∀(ks ls:List Trm)(r r':Rws),mtL ks ls r=some r'->(r.map (·.1)).Nodup->(r'.map (·.1)).Nodup
 |k::ks,l::ls,r,r',h,o=>by
  rw[mtL]at h;cases e:mt k l r with
  |none=>rw[e]at h;cases h
  |some r1=>
   rw[e]at h;exact c0z ks ls r1 r' h (b4w k l r r1 e o)
 | [],_,r,r',h,o=>by rw[mtL]at h;cases h;exact o
 |_::_,[],r,r',h,o=>by rw[mtL]at h;cases h;exact o
end
def onD(K:W.Frag)(H:Hp)(Q:VK):Option Rws->Prop
 |none=>∀H',Same H H'->Q .non H'
 |some rows=>∀p H',Same H H'->a2l K H' p rows->Q (.ref p) H'
abbrev a5l(K:W.Frag)(n:Nat):Sp:=λvs H Q _=>match vs with| [v,v',.ref pd]=>∃(t t':Trm)(rows:Rws)(m:Nat),Den K H v t.data/\Den K H v' t'.data/\a2l K H pd rows/\RwOk rows m/\(rows.map (·.1)).Nodup/\m+t.size<=2000/\t.size<=n/\n<=70/\t'.size<=70/\onD K H Q (mt t t' rows)|_=>False
theorem c8g{K:W.Frag}{H:Hp}{v v':V}{pd:Addr}{R:Trm->Trm->Rws->Prop}(h:∃(t t':Trm)(rows:Rws)(m:Nat),Den K H v t.data/\Den K H v' t'.data/\a2l K H pd rows/\RwOk rows m/\(rows.map (·.1)).Nodup/\m+t.size<=2000/\t.size<=0/\0<=70/\t'.size<=70/\R t t' rows):False:=by
 obtain⟨t,_,_,_,_,_,_,_,_,_,z,_⟩:=h;have:=Trm.size_pos t;omega
def Fr2(d st:Addr)(H H':Hp):Prop:=∀b o,b≠d->b≠st->H b=some o->H' b=some o
theorem Fr2.trans{d st:Addr}{H H1 H2:Hp}(a:Fr2 d st H H1)(b:Fr2 d st H1 H2):Fr2 d st H H2:=λc o h1 h2 h=>b c o h1 h2 (a c o h1 h2 h)
theorem Fr2.of{d st:Addr}{H H':Hp}(s:Same H H'):Fr2 d st H H':=λb o _ _ h=>s b o h
theorem Fr2.tup{K:W.Frag}{d st:Addr}{H H':Hp}{kv:List (Key×V)}{ys:List V}(e:Fr2 d st H H')(hd:H d=some (.dK kv))(hs:H st=some (.lst ys)){a:Addr}{xs:List V}(h:SqT K H a xs):SqT K H' a xs:=by
 rcases h with(h|⟨o,h⟩)|h
 ·exact .inl (.inl (e _ _ (λz=>by rw[z,hd]at h;cases h) (λz=>by rw[z,hs]at h;cases h) h))
 ·exact .inl (.inr ⟨o,e _ _ (λz=>by rw[z,hd]at h;cases h) (λz=>by rw[z,hs]at h;cases h) h⟩)
 ·exact .inr h
theorem But.strs{K:W.Frag}{st:Addr}{H H':Hp}{i:Int}(e:But st H H')(hs:H st=some (.lst [.int i])){a:Addr}{xs:List Str}(h:SqL K H a (xs.map V.str)):SqL K H' a (xs.map V.str):=by
 have nil:¬(xs.map V.str=[V.int i]):=λz=>by
  cases xs with
  |nil=>cases z
  |cons x r=>
   rw[Z2]at z
   injection z with z1 _
   cases z1
 rcases h with(h|⟨o,h⟩)|h
 ·exact .inl (.inl (e _ _ (λz=>by rw[z,hs]at h;injection h with h;injection h with h;exact nil h.symm) h))
 ·exact .inl (.inr ⟨o,e _ _ (λz=>by rw[z,hs]at h;cases h) h⟩)
 ·exact .inr h
structure a1s(K:W.Frag)(H:Hp)(d st:Addr)(rows:Rws)(m:Nat):Prop where
 put:a2l K H d rows
 rw':RwOk rows m
 nod:(rows.map (·.1)).Nodup
 st':∃i,H st=some (.lst [.int i])
theorem a1s.ne{K:W.Frag}{H:Hp}{d st:Addr}{rows:Rws}{m:Nat}(h:a1s K H d st rows m):st≠d:=λz=>by
 obtain⟨i,hi⟩:=h.st';obtain⟨kvs,h1,_⟩:=h.put.ex;rw[z,h1]at hi;cases hi
theorem a1s.more{K:W.Frag}{H:Hp}{d st:Addr}{rows:Rws}{m m':Nat}(h:a1s K H d st rows m)(l:m<=m'):a1s K H d st rows m':=⟨h.put,⟨Yk h.rw'.len l,h.rw'.small⟩,h.nod,h.st'⟩
theorem a1s.same{K:W.Frag}{H H':Hp}{d st:Addr}{rows:Rws}{m:Nat}(h:a1s K H d st rows m)(s:Same H H'):a1s K H' d st rows m:=⟨h.put.mono s,h.rw',h.nod,h.st'.elim λi e=>⟨i,s _ _ e⟩⟩
theorem a1s.turn{K:W.Frag}{H:Hp}{d st:Addr}{rows:Rws}{m:Nat}{j:Int}(h:a1s K H d st rows m):a1s K (upd H st (.lst [.int j])) d st rows m:=by
 obtain⟨i,hi⟩:=h.st';exact⟨h.put.lst hi,h.rw',h.nod,j,a0c⟩
theorem Fr2.den{K:W.Frag}{d st:Addr}{H H':Hp}{rows:Rws}{m:Nat}(e:Fr2 d st H H')(o:a1s K H d st rows m){v:V}{x:PyData}(h:Den K H v x):Den K H' v x:=by
 obtain⟨i,hi⟩:=o.st';obtain⟨kvs,h1,_⟩:=o.put.ex;exact h.monoT λa xs q=>e.tup h1 hi q
theorem Fr2.denL{K:W.Frag}{d st:Addr}{H H':Hp}{rows:Rws}{m:Nat}(e:Fr2 d st H H')(o:a1s K H d st rows m){v:List V}{x:List PyData}(h:DenL K H v x):DenL K H' v x:=by
 obtain⟨i,hi⟩:=o.st';obtain⟨kvs,h1,_⟩:=o.put.ex;exact h.monoT λa xs q=>e.tup h1 hi q
theorem Fr2.sq{K:W.Frag}{d st:Addr}{H H':Hp}{rows:Rws}{m:Nat}(e:Fr2 d st H H')(o:a1s K H d st rows m){a:Addr}{xs:List V}(h:SqT K H a xs):SqT K H' a xs:=by
 obtain⟨i,hi⟩:=o.st';obtain⟨kvs,h1,_⟩:=o.put.ex;exact e.tup h1 hi h
theorem c8h{d st:Addr}{H:Hp}{o:HO}:Fr2 d st H (upd H st o):=λb u _ h2 h=>by rw[a0p h2];exact h
theorem c1a{d st:Addr}{H:Hp}{o:HO}:Fr2 d st H (upd H d o):=λb u h1 _ h=>by rw[a0p h1];exact h
theorem a1s.putR{K:W.Frag}{H:Hp}{d st:Addr}{rows:Rws}{m:Nat}{kvs:List (Key×V)}{x:Str}{v:V}{t:Trm}(h:a1s K H d st rows m)(c1:H d=some (.dK kvs))(c2:a2i K H kvs rows)(dv:Den K H v t.data)(ht:t.size<=70):a1s K (upd H d (.dK (putK kvs (Sum.inr x) v))) d st (L2.putR rows x t) (m+1):=by
 have bb:But d H (upd H d (.dK (putK kvs (Sum.inr x) v))):=λb o hb e=>by rw[a0p hb];exact e
 obtain⟨i,hi⟩:=h.st';refine⟨⟨_,a0c,(c2.put dv).monoT (b0b bb c1)⟩,h.rw'.put ht,b6k h.nod,i,?_⟩;rw[a0p h.ne];exact hi
theorem a6h{K:W.Frag}{H:Hp}{y:V}{d:PyData}(h:Den K H y d):∀{us:List V}{ds:List PyData}(i:Nat),DenL K H us ds->DenL K H (us.set i y) (ds.set i d)
 |_,_,_,.nil=>.nil
 |_,_,0,.cons _ r=>.cons h r
 |_,_,i+1,.cons a r=>.cons a (a6h h i r)
theorem b6l(ks:List Trm)(i:Nat)(t:Trm):(Trm.dataL ks).set i t.data=Trm.dataL (ks.set i t):=by rw[Trm.dataL_map,Trm.dataL_map,Wn]
theorem b6m:∀(ks:List Trm)(i:Nat)(t u:Trm),ks[i]? =some u->t.size<=u.size->Trm.sizeL (ks.set i t)<=Trm.sizeL ks
 | [],_,_,_,h,_=>by simp at h
 |k::ks,0,t,u,h,z=>by
  simp only[Zu,Z1]at h;subst h;simp only[List.set_cons_zero,Trm.sizeL];omega
 |k::ks,i+1,t,u,h,z=>by
  have:=b6m ks i t u (by simpa using h) z;simp only[Rf,Trm.sizeL];omega
abbrev SmR(rows:Rws):Prop:=∀r∈rows,r.2.size<=60
theorem SmR.put{rows:Rws}{x:Str}{t:Trm}(h:SmR rows)(ht:t.size<=60):SmR (L2.putR rows x t):=by
 unfold L2.putR
 split
 ·intro r hr;obtain⟨q,hq,rfl⟩:=Z4.mp hr
  split
  ·exact ht
  ·exact h q hq
 ·intro r hr;rcases Zx.mp hr with z|z
  ·exact h r z
  ·rw[Zs.mp z];exact ht
theorem b9v:(ofString "ABCDEFGHIJKLMNOPQRSTUVWXYZ").cps.toList.Nodup:=by decide+kernel
abbrev b1j(K:W.Frag):Sp:=λvs H Q _=>match vs with| [.ref a]=>∃ns:List Int,SqL K H a (ns.map V.int)/\ns.length<=63/\(∀n∈ns,Builtin.Int.intBits n<=1048576)/\∀H',Q (.bl true) H'|_=>False
abbrev yesS:Str:=ofString "yes"
structure Ro where
 goal:Trm
 n:Int
 kids:List Int
def Ro.data(r:Ro):PyData:=.tuple [.str yesS,r.goal.data,.int r.n,nbD r.kids]
def oR:Option (Trm×List Trm)->PyData
 |some x=>ruE x
 |none=>.none
def oW:Option Ro->PyData
 |some x=>x.data
 |none=>.none
theorem Pr.mono{K:W.Frag}{M N:List Addr}{H H':Hp}(p:Pr K M H H')(h:∀m∈M,m∈N):Pr K N H H':=⟨λa o n e=>p.kp a o (λz=>n (h a z)) e,p.kt⟩
mutual
theorem Dm.less{K:W.Frag}{M N:List Addr}{H:Hp}(h:∀m∈N,m∈M):∀{v:V}{d:PyData},Dm K H M v d->Dm K H N v d
 |_,_,.non=>.non
 |_,_,.bl b=>.bl b
 |_,_,.int i=>.int i
 |_,_,.str x=>.str x
 |_,_,.tup a l=>.tup a (DmL.less h l)
 |_,_,.lst a n l=>.lst a (λz=>n (h _ z)) (DmL.less h l)
theorem DmL.less{K:W.Frag}{M N:List Addr}{H:Hp}(h:∀m∈N,m∈M):∀{v:List V}{d:List PyData},DmL K H M v d->DmL K H N v d
 |_,_,.nil=>.nil
 |_,_,.cons a l=>.cons (Dm.less h a) (DmL.less h l)
end
theorem DmL.get{K:W.Frag}{M:List Addr}{H:Hp}:∀{us:List V}{ds:List PyData}{i:Nat}{u:V},DmL K H M us ds->us[i]? =some u->∃d,ds[i]? =some d/\Dm K H M u d
 |_,_,0,u,.cons a _,e=>⟨_,rfl,by cases e;exact a⟩
 |_,_,i+1,u,.cons _ l,e=>DmL.get (i:=i) l (by simpa using e)
 |_,_,i,u,.nil,e=>by simp at e
theorem DmL.set{K:W.Frag}{M:List Addr}{H:Hp}{y:V}{d:PyData}(h:Dm K H M y d):∀{us:List V}{ds:List PyData}(i:Nat),DmL K H M us ds->DmL K H M (us.set i y) (ds.set i d)
 |_,_,_,.nil=>.nil
 |_,_,0,.cons _ r=>.cons h r
 |_,_,i+1,.cons a r=>.cons a (DmL.set h i r)
theorem dm_ro{K:W.Frag}{M:List Addr}{H:Hp}{v:V}{r:Ro}(h:Dm K H M v r.data):∃a gv kp,v=.ref a/\SqT K H a [.str yesS,gv,.int r.n,.ref kp]/\Den K H gv r.goal.data/\H kp=some (.lst (r.kids.map V.int))/\kp∉M:=by
 cases h with
 |tup h1 h2=>
  cases h2 with
  |cons a b=>
   cases a;cases b with
   |cons c d=>
    cases d with
    |cons e f=>
     cases e;cases f with
     |cons g i=>
      cases i;obtain⟨kp,rfl⟩:=nb_ref g;obtain⟨g1,g2⟩:=nb_list g;exact⟨_,_,kp,rfl,h1,(b1i _).mp c,g1,g2⟩
theorem b2h{K:W.Frag}{M:List Addr}{H:Hp}{a kp:Addr}{gv:V}{r:Ro}(h:SqT K H a [.str yesS,gv,.int r.n,.ref kp])(hg:Den K H gv r.goal.data)(hk:H kp=some (.lst (r.kids.map V.int)))(n:kp∉M):Dm K H M (.ref a) r.data:=
 .tup h (.cons (.str _) (.cons ((b1i _).mpr hg) (.cons (.int _) (.cons (nb_mk hk n) .nil))))
theorem c1b{K:W.Frag}{H:Hp}{u:V}{x:Trm×List Trm}(h:Den K H u (ruE x)):∃a hv gp ug,u=.ref a/\SqT K H a [hv,.ref gp]/\Den K H hv x.1.data/\SqT K H gp ug/\DenL K H ug (Trm.dataL x.2):=by
 cases h with
 |tup c d=>
  cases d with
  |cons e f=>
   cases f with
   |cons g h=>
    cases h;cases g with
    |tup i j=>exact⟨_,_,_,_,rfl,c,e,i,j⟩
theorem b4x{K:W.Frag}{H:Hp}{a gp:Addr}{hv:V}{ug:List V}{x:Trm×List Trm}(h1:SqT K H a [hv,.ref gp])(h2:Den K H hv x.1.data)(h3:SqT K H gp ug)(h4:DenL K H ug (Trm.dataL x.2)):Den K H (.ref a) (ruE x):=
 .tup h1 (.cons h2 (.cons (.tup h3 h4) .nil))
structure b2i(ws:List Str):Prop where
 l:ws.length=4
 w:∀x∈ws,Wd x
 s:∀x∈ws,x.length<=30
def GlOk(ws:List Str)(g:Trm):Prop:=∃s ks,g=.app s ks/\(s∈ws\/(s=eqS/\ks.length=2))/\g.size<=25
def GlW(ws:List Str)(g:Trm):Prop:=∃s ks,g=.app s ks/\s∈ws/\g.size<=25
theorem GlW.ok{ws:List Str}{g:Trm}(h:GlW ws g):GlOk ws g:=by
 obtain⟨s,ks,e,h1,h2⟩:=h;exact⟨s,ks,e,.inl h1,h2⟩
structure RuG(x:Trm×List Trm):Prop where
 ap:∃s ks,x.1=.app s ks
 z1:x.1.size<=25
 z2:∀g∈x.2,g.size<=25
 l:x.2.length<=2
theorem RuG.ok{x:Trm×List Trm}(h:RuG x):RuOk x:=⟨h.ap,by have:=h.z1;omega,λg hg=>by have:=h.z2 g hg;omega,by have:=h.l;omega⟩
structure RoG(ws:List Str)(r:Ro):Prop where
 g:GlOk ws r.goal
 l:r.kids.length<=10
def Oth(ws:List Str)(t t':Trm):Prop:=t'.size<=t.size/\∀s ks,t=.app s ks->∃s' ks',t'=.app s' ks'/\((s'=s/\ks'.length=ks.length)\/(s∈ws/\s'∈ws))
theorem Oth.gl{ws:List Str}{t t':Trm}(h:Oth ws t t')(g:GlOk ws t):GlOk ws t':=by
 obtain⟨s,ks,e,h1,h2⟩:=g;obtain⟨s',ks',e',h3⟩:=h.2 s ks e;refine⟨s',ks',e',?_,Yk h.1 h2⟩;rcases h3 with⟨z1,z2⟩|⟨_,z2⟩
 ·rw[z1,z2];exact h1
 ·exact .inl z2
structure SH(K:W.Frag)(M:List Addr)(H:Hp)(ru rq st:Addr)(rs:List (Option (Trm×List Trm)))(ws:List (Option Ro)):Prop where
 r:∃us,H ru=some (.lst us)/\DenL K H us (rs.map oR)
 w:∃us,H rq=some (.lst us)/\DmL K H M us (ws.map oW)
 s:∃i,H st=some (.lst [.int i])
 n1:ru≠rq
 n2:ru≠st
 n3:rq≠st
 m:ru∈M/\rq∈M/\st∈M
 e:∀m∈M,∃o,H m=some o
section
variable{K:W.Frag}{M:List Addr}{H H':Hp}{ru rq st:Addr}{rs rs':List (Option (Trm×List Trm))}{ws ws':List (Option Ro)}
theorem SH.nM(h:SH K M H ru rq st rs ws){a:Addr}(e:H a=none):a∉M:=λz=>by
 obtain⟨o,e2⟩:=h.e a z;rw[e]at e2;cases e2
theorem SH.pr(h:SH K M H ru rq st rs ws)(p:Pr K M H H')(hr:H' ru=H ru)(hw:H' rq=H rq)(hs:∃i,H' st=some (.lst [.int i]))(e:∀m∈M,∃o,H' m=some o):SH K M H' ru rq st rs ws:=by
 obtain⟨ur,r1,r2⟩:=h.r;obtain⟨uw,w1,w2⟩:=h.w;exact⟨⟨ur,hr.trans r1,r2.monoT p.kt⟩,⟨uw,hw.trans w1,w2.pr p⟩,hs,h.n1,h.n2,h.n3,h.m,e⟩
theorem SH.same(h:SH K M H ru rq st rs ws)(s:Same H H'):SH K M H' ru rq st rs ws:=by
 obtain⟨ur,r1,_⟩:=h.r;obtain⟨uw,w1,_⟩:=h.w;obtain⟨i,s1⟩:=h.s;exact h.pr (.same s) ((s _ _ r1).trans r1.symm) ((s _ _ w1).trans w1.symm) ⟨i,s _ _ s1⟩ λm hm=>let⟨o,e⟩:=h.e m hm;⟨o,s _ _ e⟩
theorem a5g{N:List Addr}{a:Addr}{us:List V}(hl:H a=some (.lst us))(b:But a H H')(hm:a∈N):Pr K N H H':=
 ⟨λc o n e=>b c o (λz=>n (z▸hm)) e,λc xs q=>by
  rcases q with(q|⟨o',q⟩)|q
  ·exact .inl (.inl (b _ _ (a5n q hl (λz=>by cases z)) q))
  ·exact .inl (.inr ⟨o',b _ _ (a5n q hl (λz=>by cases z)) q⟩)
  ·exact .inr q⟩
theorem SH.turn(h:SH K M H ru rq st rs ws)(b:But st H H'){j:Int}(e:H' st=some (.lst [.int j])):SH K M H' ru rq st rs ws/\Pr K [ru,rq,st] H H':=by
 obtain⟨ur,r1,_⟩:=h.r;obtain⟨uw,w1,_⟩:=h.w;obtain⟨i,s1⟩:=h.s;refine⟨h.pr (a5g s1 b h.m.2.2) ((b _ _ h.n2 r1).trans r1.symm) ((b _ _ h.n3 w1).trans w1.symm) ⟨j,e⟩ λm hm=>?_,a5g s1 b qz⟩
 by_cases c:m=st
 ·rw[c];exact⟨_,e⟩
 ·obtain⟨o,q⟩:=h.e m hm;exact⟨o,b _ _ c q⟩
theorem SH.setR(h:SH K M H ru rq st rs ws){us:List V}(d:DenL K H us (rs'.map oR)):SH K M (upd H ru (.lst us)) ru rq st rs' ws/\Pr K [ru,rq,st] H (upd H ru (.lst us)):=by
 obtain⟨ur,r1,_⟩:=h.r;obtain⟨uw,w1,w2⟩:=h.w;obtain⟨i,s1⟩:=h.s;have b:But ru H (upd H ru (.lst us)):=a6g;have p:Pr K M H (upd H ru (.lst us)):=a5g r1 b h.m.1;refine⟨⟨⟨us,a0c,d.monoT p.kt⟩,⟨uw,(b _ _ h.n1.symm w1),w2.pr p⟩,⟨i,b _ _ h.n2.symm s1⟩,h.n1,h.n2,h.n3,h.m,λm hm=>?_⟩,a5g r1 b qz⟩
 by_cases c:m=ru
 ·rw[c];exact⟨_,a0c⟩
 ·obtain⟨o,q⟩:=h.e m hm;exact⟨o,b _ _ c q⟩
theorem SH.setW(h:SH K M H ru rq st rs ws){us:List V}(d:DmL K H M us (ws'.map oW)):SH K M (upd H rq (.lst us)) ru rq st rs ws'/\Pr K [ru,rq,st] H (upd H rq (.lst us)):=by
 obtain⟨ur,r1,r2⟩:=h.r;obtain⟨uw,w1,_⟩:=h.w;obtain⟨i,s1⟩:=h.s;have b:But rq H (upd H rq (.lst us)):=a6g;have p:Pr K M H (upd H rq (.lst us)):=a5g w1 b h.m.2.1;refine⟨⟨⟨ur,b _ _ h.n1 r1,r2.monoT p.kt⟩,⟨us,a0c,d.pr p⟩,⟨i,b _ _ h.n3.symm s1⟩,h.n1,h.n2,h.n3,h.m,λm hm=>?_⟩,a5g w1 b qz⟩
 by_cases c:m=rq
 ·rw[c];exact⟨_,a0c⟩
 ·obtain⟨o,q⟩:=h.e m hm;exact⟨o,b _ _ c q⟩
theorem SH.sub(h:SH K M H ru rq st rs ws):∀m∈[ru,rq,st],m∈M:=λm hm=>by
 simp only[Zp,Z8,Xn]at hm;rcases hm with rfl|rfl|rfl
 ·exact h.m.1
 ·exact h.m.2.1
 ·exact h.m.2.2
end
structure NW(K:W.Frag)(M:List Addr)(H:Hp)(np wp:Addr)(xs wd:List Str):Prop where
 n:H np=some (.lst (xs.map V.str))
 w:H wp=some (.lst (wd.map V.str))
 n9:xs.length=9
 wo:b2i wd
 n1:np∉M
 n2:wp∉M
theorem NW.pr{K:W.Frag}{M:List Addr}{H H':Hp}{np wp:Addr}{xs wd:List Str}(h:NW K M H np wp xs wd)(p:Pr K M H H'):NW K M H' np wp xs wd:=⟨p.kp _ _ h.n1 h.n,p.kp _ _ h.n2 h.w,h.n9,h.wo,h.n1,h.n2⟩
def a4k(at_ len:Nat)(ks:List Int):Bool:=ks.all λk=>decide ((at_:Int)<k)&&decide (k<(len:Int))
def a2o(ws:List Ro)(k:Int):Trm:=((ws[k.toNat]?).map Ro.goal).getD (.num 0)
def a7y(rs:List (Trm×List Trm))(ws:List Ro)(at_:Nat)(r:Ro):Bool:=
 match rs[(r.n-1).toNat]? with
 |none=>false
 |some x=>decide (r.kids.length=x.2.length)&&(a4k at_ ws.length r.kids&&((mt x.1 r.goal []).bind (mtP (x.2.zip (r.kids.map (a2o ws))))).isSome)
def isEq:Trm->Bool
 | .app s _=>decide (s=eqS)
 |_=>false
def b5k:Trm->Bool
 | .app _ [a,b]=>eqb a b
 |_=>false
def a8k(rs:List (Trm×List Trm))(ws:List Ro)(at_:Nat)(r:Ro):Bool:=
 if isEq r.goal=true then decide (r.n=0)&&(r.kids.isEmpty&&b5k r.goal)else decide (1<=r.n)&&a7y rs ws at_ r
def a4w(rs:List (Trm×List Trm))(ws:List Ro)(i:Nat):Bool:=((ws[i]?).map (a8k rs ws i)).getD false
def a7l(rs:List (Trm×List Trm))(ws:List Ro):Bool:=(List.range ws.length).all (a4w rs ws)
structure RD(K:W.Frag)(H:Hp)(ru rq:Addr)(rs:List (Trm×List Trm))(ws:List Ro)(wd:List Str):Prop where
 r:∃us,H ru=some (.lst us)/\DenL K H us (rs.map ruE)
 w:∃us,H rq=some (.lst us)/\DmL K H [] us (ws.map Ro.data)
 ro:∀x∈rs,RuG x
 wo:∀x∈ws,RoG wd x
 wd':b2i wd
 l1:rs.length<=80
 l2:ws.length<=80
theorem RD.same{K:W.Frag}{H H':Hp}{ru rq:Addr}{rs:List (Trm×List Trm)}{ws:List Ro}{wd:List Str}(h:RD K H ru rq rs ws wd)(s:Same H H'):RD K H' ru rq rs ws wd:=by
 obtain⟨ur,r1,r2⟩:=h.r;obtain⟨uw,w1,w2⟩:=h.w;exact⟨⟨ur,s _ _ r1,r2.mono s⟩,⟨uw,s _ _ w1,w2.pr (.same s)⟩,h.ro,h.wo,h.wd',h.l1,h.l2⟩
abbrev lkF(a b c:Addr):List (Str×V):=[(ofString "rules",.ref a),(ofString "worded",.ref b),(ofString "rows",.ref c)]
structure LkAt(K:W.Frag)(C:Addr)(H:Hp)(l:Addr)(rs:List (Trm×List Trm))(ws:List Ro)(wd:List Str):Prop where
 ex:∃dx ru rq wo,H l=some (.ins C dx (lkF ru wo rq))/\RD K H ru rq rs ws wd
theorem LkAt.same{K:W.Frag}{C:Addr}{H H':Hp}{l:Addr}{rs:List (Trm×List Trm)}{ws:List Ro}{wd:List Str}(h:LkAt K C H l rs ws wd)(s:Same H H'):LkAt K C H' l rs ws wd:=by
 obtain⟨dx,ru,rq,wo,e,d⟩:=h.ex;exact⟨dx,ru,rq,wo,s _ _ e,d.same s⟩
abbrev a6i(K:W.Frag)(C:Addr):Sp:=λvs H Q _=>match vs with| [.ref l,.ref ru,.ref rq]=>∃dx rs ws wd,H l=some (.ins C dx [])/\RD K H ru rq rs ws wd/\∀H',But l H H'->LkAt K C H' l rs ws wd->Q .non H'|_=>False
abbrev a5u(K:W.Frag)(C:Addr):Sp:=λvs H Q _=>match vs with| [.ref l,.int i,.int k,.str z]=>∃rs ws wd,LkAt K C H l rs ws wd/\0<=i/\z=yesS/\Q (.bl (decide (i<k)&&decide (k<(ws.length:Int)))) H|_=>False
abbrev a4g(K:W.Frag)(C:Addr):Sp:=λvs H Q _=>match vs with| [.ref l,.int i,g,.int n,.ref kp]=>∃rs ws wd goal kids,LkAt K C H l rs ws wd/\0<=i/\Den K H g goal.data/\goal.size<=25/\H kp=some (.lst (kids.map V.int))/\kids.length<=10/\∀H',Same H H'->Q (.bl (decide (1<=n)&&a7y rs ws i.toNat ⟨goal,n,kids⟩)) H'|_=>False
abbrev a3u(K:W.Frag)(C:Addr):Sp:=λvs H Q _=>match vs with| [.ref l,.int i,g,.int n,.ref kp]=>∃rs ws wd goal kids,LkAt K C H l rs ws wd/\0<=i/\Den K H g goal.data/\GlOk wd goal/\H kp=some (.lst (kids.map V.int))/\kids.length<=10/\∀H',Same H H'->Q (.bl (a8k rs ws i.toNat ⟨goal,n,kids⟩)) H'|_=>False
abbrev a5b(K:W.Frag)(C:Addr):Sp:=λvs H Q _=>match vs with| [.ref l,.int i]=>∃rs ws wd,LkAt K C H l rs ws wd/\0<=i/\i<(ws.length:Int)/\∀H',Same H H'->Q (.bl (a4w rs ws i.toNat)) H'|_=>False
abbrev b3s(K:W.Frag):Sp:=λvs H Q _=>match vs with| [g]=>∃ks,Den K H g (Trm.app eqS ks).data/\ks.length=2/\(Trm.app eqS ks).size<=25/\Q (.bl (b5k (.app eqS ks))) H|_=>False
abbrev b0h(K:W.Frag):Sp:=λvs H Q _=>match vs with| [.ref ru,.ref rq]=>∃rs ws wd,RD K H ru rq rs ws wd/\∀H',Same H H'->Q (.bl (decide (0<ws.length)&&a7l rs ws)) H'|_=>False
abbrev b0i(K:W.Frag):Sp:=λvs H Q _=>match vs with| [.int c,.int m]=>m=4/\∀(p:Addr)(ws:List Str)(H':Hp),Same H H'->H' p=some (.lst (ws.map V.str))->b2i ws->Q (.ref p) H'|_=>False
abbrev a6x(K:W.Frag):Sp:=λvs H Q _=>match vs with| [.ref np,.ref wp,.ref st]=>∃(xs ws:List Str)(i:Int),SqL K H np (xs.map V.str)/\xs.length=9/\SqL K H wp (ws.map V.str)/\b2i ws/\H st=some (.lst [.int i])/\∀(x:V)(t:Trm)(j:Int)(H':Hp),But st H H'->H' st=some (.lst [.int j])->Den K H' x t.data->GlW ws t->Q x H'|_=>False
abbrev a8l(K:W.Frag):Sp:=λvs H Q _=>match vs with| [.ref np,.ref wp,.ref st]=>∃(xs ws:List Str)(i:Int),SqL K H np (xs.map V.str)/\xs.length=9/\SqL K H wp (ws.map V.str)/\b2i ws/\H st=some (.lst [.int i])/\∀(x:V)(t:Trm)(j:Int)(H':Hp),But st H H'->H' st=some (.lst [.int j])->Den K H' x t.data->GlOk ws t->Q x H'|_=>False
abbrev a4x(K:W.Frag)(n:Nat):Sp:=λvs H Q _=>match vs with| [v,.ref dd,.ref np,.ref st,.bl w]=>∃(t:Trm)(rows:Rws)(m:Nat)(xs:List Str),Den K H v t.data/\a1s K H dd st rows m/\SmR rows/\H np=some (.lst (xs.map V.str))/\xs.length=9/\m+t.size<=1000/\t.size<=n/\n<=60/\∀(x:V)(t':Trm)(rows':Rws)(H':Hp),Fr2 dd st H H'->a1s K H' dd st rows' (m+t.size)->SmR rows'->Den K H' x t'.data->t'.size<=t.size->(w=true->∀s ks,t=.app s ks->∃ks',t'=.app s ks')->Q x H'|_=>False
theorem c8i{K:W.Frag}{H:Hp}{v:V}{dd np st:Addr}{R:Trm->Nat->Prop}(h:∃(t:Trm)(rows:Rws)(m:Nat)(xs:List Str),Den K H v t.data/\a1s K H dd st rows m/\SmR rows/\H np=some (.lst (xs.map V.str))/\xs.length=9/\m+t.size<=1000/\t.size<=0/\0<=60/\R t m):False:=by
 obtain⟨t,_,_,_,_,_,_,_,_,_,z,_⟩:=h;have:=Trm.size_pos t;omega
abbrev a3d(K:W.Frag)(n:Nat):Sp:=λvs H Q _=>match vs with| [v,.ref st,.ref np,.ref wp]=>∃(t:Trm)(xs ws:List Str)(i:Int),Den K H v t.data/\H st=some (.lst [.int i])/\SqL K H np (xs.map V.str)/\xs.length=9/\SqL K H wp (ws.map V.str)/\ws.length=4/\t.size<=n/\n<=70/\∀(x:V)(t':Trm)(j:Int)(H':Hp),But st H H'->H' st=some (.lst [.int j])->Den K H' x t'.data->Oth ws t t'->Q x H'|_=>False
theorem c2l{K:W.Frag}{H:Hp}{v:V}{st np wp:Addr}{R:Trm->List Str->Prop}(h:∃(t:Trm)(xs ws:List Str)(i:Int),Den K H v t.data/\H st=some (.lst [.int i])/\SqL K H np (xs.map V.str)/\xs.length=9/\SqL K H wp (ws.map V.str)/\ws.length=4/\t.size<=0/\0<=70/\R t ws):False:=by
 obtain⟨t,_,_,_,_,_,_,_,_,_,z,_⟩:=h;have:=Trm.size_pos t;omega
def cap:Nat->Nat
 |0=>0
 |n+1=>1+2*cap n
abbrev a4y(K:W.Frag)(n:Nat):Sp:=λvs H Q _=>match vs with| [g,.ref ru,.ref rq,.ref np,.ref wp,.ref st,.int d]=>∃(M:List Addr)(goal:Trm)(rs:List (Option (Trm×List Trm)))(ws:List (Option Ro))(xs wd:List Str),SH K M H ru rq st rs ws/\NW K M H np wp xs wd/\Den K H g goal.data/\GlOk wd goal/\0<=d/\d<(n:Int)/\n<=3/\rs.length+2*cap n<=60/\ws.length+cap n<=60/\∀(rs':List (Trm×List Trm))(ws':List Ro)(H':Hp),Pr K [ru,rq,st] H H'->SH K M H' ru rq st (rs++rs'.map some) (ws++ws'.map some)->(∀x∈rs',RuG x)->(∀x∈ws',RoG wd x/\x.kids.length<=4)->rs'.length<=2*cap n->ws'.length<=cap n->1<=ws'.length->(GlW wd goal->1<=rs'.length)->Q (.int (ws.length:Int)) H'|_=>False
theorem c5v{Q:List Addr->Trm->List (Option (Trm×List Trm))->List (Option Ro)->List Str->List Str->Prop}{R:List Addr->Trm->List (Option (Trm×List Trm))->List (Option Ro)->List Str->List Str->Prop}{S:List Addr->Trm->List (Option (Trm×List Trm))->List (Option Ro)->List Str->List Str->Prop}{T:List Addr->Trm->List (Option (Trm×List Trm))->List (Option Ro)->List Str->List Str->Prop}{U:List Addr->Trm->List (Option (Trm×List Trm))->List (Option Ro)->List Str->List Str->Prop}{d:Int}
 (h:∃M goal rs ws xs wd,Q M goal rs ws xs wd/\R M goal rs ws xs wd/\S M goal rs ws xs wd/\T M goal rs ws xs wd/\0<=d/\d<((0:Nat):Int)/\U M goal rs ws xs wd):False:=by
 obtain⟨_,_,_,_,_,_,_,_,_,_,h1,h2,_⟩:=h;omega
abbrev a2z(K:W.Frag)(n:Nat):Sp:=λvs H Q _=>match vs with| [.ref a,.ref f]=>∃(us:List V)(ts:List Trm)(xs:List Str),(SqL K H a us\/SqT K H a us)/\DenL K H us (Trm.dataL ts)/\H f=some (.lst (xs.map V.str))/\Trm.sizeL ts<n/\n<=100/\xs.length+Trm.sizeL ts<=1000/\∀(p:Addr)(H':Hp),Same H H'->H' p=some (.lst ((ordL ts xs).map V.str))->Q (.ref p) H'|_=>False
abbrev a3o(K:W.Frag)(n:Nat):Sp:=λvs H Q _=>match vs with| [v,.str x,.str y]=>∃t:Trm,Den K H v t.data/\t.size<=n/\n<=60/\∀(u:V)(t':Trm)(H':Hp),Same H H'->Den K H' u t'.data->t'.size=t.size->Q u H'|_=>False
theorem b9w{K:W.Frag}{H:Hp}{v:V}{R:Trm->Prop}(h:∃t:Trm,Den K H v t.data/\t.size<=0/\0<=60/\R t):False:=by
 obtain⟨t,_,z,_⟩:=h;have:=Trm.size_pos t;omega
abbrev a7z(K:W.Frag):Sp:=λvs H Q _=>match vs with| [.ref ru,.int _]=>∃(us:List V)(rs:List (Trm×List Trm)),H ru=some (.lst us)/\DenL K H us (rs.map ruE)/\(∀x∈rs,RuG x)/\rs.length<=80/\∀(us':List V)(rs':List (Trm×List Trm))(H':Hp),But ru H H'->H' ru=some (.lst us')->DenL K H' us' (rs'.map ruE)->(∀x∈rs',RuG x)->rs'.length=rs.length->Q .non H'|_=>False
abbrev b1k(K:W.Frag):Sp:=λvs H Q _=>match vs with| [.ref ru,.ref rq,.int i]=>∃rs ws wd,RD K H ru rq rs ws wd/\0<=i/\i<(ws.length:Int)/\∀H',Same H H'->Q (.bl (a4w rs ws i.toNat)) H'|_=>False
abbrev a8a(K:W.Frag):Sp:=λvs H Q _=>match vs with| [.ref ru,.ref rq,.int _,.ref np,.ref wp,.ref st]=>∃(rs:List (Trm×List Trm))(ws:List Ro)(xs wd:List Str),SH K [ru,rq,st] H ru rq st (rs.map some) (ws.map some)/\NW K [ru,rq,st] H np wp xs wd/\(∀x∈rs,RuG x)/\(∀x∈ws,RoG wd x)/\(∀x∈ws,x.kids.length<=4)/\1<=rs.length/\1<=ws.length/\rs.length<=70/\ws.length<=70/\∀(rs':List (Trm×List Trm))(ws':List Ro)(H':Hp),Pr K [ru,rq,st] H H'->SH K [ru,rq,st] H' ru rq st (rs'.map some) (ws'.map some)->(∀x∈rs',RuG x)->(∀x∈ws',RoG wd x)->rs'.length<=80->ws'.length<=80->1<=ws'.length->Q .non H'|_=>False
section
variable{a b c:Addr}
theorem b8y:(lkF a b c).lookup (ofString "rules")=some (.ref a):=b8v (i:=0) (by show[ofString "rules",ofString "worded",ofString "rows"].findIdx? _=_;decide+kernel) rfl
theorem b2j:(lkF a b c).lookup (ofString "rows")=some (.ref c):=b8v (i:=2) (by show[ofString "rules",ofString "worded",ofString "rows"].findIdx? _=_;decide+kernel) rfl
theorem b7c{f:Str}(h:[ofString "rules",ofString "worded",ofString "rows"].all (λg=>!(f==g))=true):(lkF a b c).lookup f=none:=c5q (by show[ofString "rules",ofString "worded",ofString "rows"].all _=_;exact h)
end
theorem RD.row{K:W.Frag}{H:Hp}{ru rq:Addr}{rs:List (Trm×List Trm)}{ws:List Ro}{wd:List Str}(h:RD K H ru rq rs ws wd){k:Nat}(hk:k<ws.length):∃us u a gv kp,H rq=some (.lst us)/\us.length=ws.length/\us[k]? =some u/\u=.ref a/\SqT K H a [.str yesS,gv,.int (ws[k]).n,.ref kp]/\Den K H gv (ws[k]).goal.data/\H kp=some (.lst ((ws[k]).kids.map V.int)):=by
 obtain⟨us,w1,w2⟩:=h.w;have hl:=w2.length;rw[length_map]at hl;have hu:us[k]? =some us[k]:=Za qo
 obtain⟨d,e1,e2⟩:=w2.get hu;rw[Zz,Za hk]at e1;obtain rfl:(ws[k]).data=d:=Zk e1;obtain⟨a,gv,kp,e3,h1,h2,h3,_⟩:=dm_ro e2;exact⟨us,_,a,gv,kp,w1,hl,hu,e3,h1,h2,h3⟩
theorem RD.rule{K:W.Frag}{H:Hp}{ru rq:Addr}{rs:List (Trm×List Trm)}{ws:List Ro}{wd:List Str}(h:RD K H ru rq rs ws wd){k:Nat}(hk:k<rs.length):∃us u a hv gp ug,H ru=some (.lst us)/\us.length=rs.length/\us[k]? =some u/\u=.ref a/\SqT K H a [hv,.ref gp]/\Den K H hv (rs[k]).1.data/\SqT K H gp ug/\DenL K H ug (Trm.dataL (rs[k]).2):=by
 obtain⟨us,w1,w2⟩:=h.r;have hl:=w2.length;rw[length_map]at hl;have hu:us[k]? =some us[k]:=Za qo
 obtain⟨d,e1,e2⟩:=w2.get hu;rw[Zz,Za hk]at e1;obtain rfl:ruE rs[k]=d:=Zk e1;obtain⟨a,hv,gp,ug,e3,h1,h2,h3,h4⟩:=c1b e2;exact⟨us,_,a,hv,gp,ug,w1,hl,hu,e3,h1,h2,h3,h4⟩
theorem a1r{α:Type}{xs:List α}{i:Int}{v:α}(h0:0<=i)(h:xs[i.toNat]? =some v):atI xs i=some v:=by
 have hl:=(Z3.mp h).1;obtain⟨u,e1,e2⟩:=a2c (xs:=xs) h0 qo;rw[e1];rw[h]at e2;exact e2.symm
theorem c5w{α:Type}{ks:List α}(h:ks.length=2):∃a b,ks=[a,b]:=by
 match ks,h with
 | [a,b],_=>exact⟨a,b,rfl⟩
theorem b8z{K:W.Frag}{H:Hp}{us:List V}{k1 k2:Trm}(h:DenL K H us (Trm.dataL [k1,k2])):∃u1 u2,us=[u1,u2]/\Den K H u1 k1.data/\Den K H u2 k2.data:=by
 simp only[Trm.dataL]at h;cases h with
 |cons a r=>
  cases r with
  |cons b z=>
   cases z;exact⟨_,_,rfl,a,b⟩
theorem b9a{l:List Int}{i:Nat}(h:i<l.length):(l.map V.int).getD i .non=.int l[i]:=by
 rw[Zm,Zz,Za h];rfl
def pIs(K:W.Frag)(H:Hp):V->Option Rws->Prop
 |v,none=>v=.non
 |v,some rows=>∃p,v=.ref p/\a2l K H p rows
theorem pIs.same{K:W.Frag}{H H':Hp}(s:Same H H'):∀{v:V}{o:Option Rws},pIs K H v o->pIs K H' v o
 |_,none,h=>h
 |_,some _,⟨p,e,h⟩=>⟨p,e,h.mono s⟩
theorem on_m{K:W.Frag}{H:Hp}{Q:VK}{r:Option Rws}(k:∀w H1,Same H H1->pIs K H1 w r->Q w H1):onM K H Q r:=by
 cases r with
 |none=>exactλH' s=>k _ _ s rfl
 |some rows=>exactλp H' s _ h=>k _ _ s ⟨p,rfl,h⟩
theorem on_d{K:W.Frag}{H:Hp}{Q:VK}{r:Option Rws}(k:∀w H1,Same H H1->pIs K H1 w r->Q w H1):onD K H Q r:=by
 cases r with
 |none=>exactλH' s=>k _ _ s rfl
 |some rows=>exactλp H' s h=>k _ _ s ⟨p,rfl,h⟩
theorem b9b:∀(ps:List (Trm×Trm))(p:Trm×Trm)(r:Rws),mtP (ps++[p]) r=(mtP ps r).bind (mt p.1 p.2)
 | [],p,r=>by
  show(mt p.1 p.2 r).bind (mtP [])=mt p.1 p.2 r
  cases mt p.1 p.2 r<;>rfl
 |q::ps,p,r=>by
  show(mt q.1 q.2 r).bind (mtP (ps++[p]))=((mt q.1 q.2 r).bind (mtP ps)).bind _
  rw[Uz];cases mt q.1 q.2 r with
  |none=>rfl
  |some r'=>exact b9b ps p r'
def stp(x:Trm×List Trm)(g:Trm)(gs:List Trm)(i:Nat):Option Rws:=(mt x.1 g []).bind (mtP ((x.2.zip gs).take i))
theorem b0j{x:Trm×List Trm}{g:Trm}{gs:List Trm}{i:Nat}(h1:i<x.2.length)(h2:i<gs.length):stp x g gs (i+1)=(stp x g gs i).bind (mt x.2[i] gs[i]):=by
 unfold stp;have hz:i<(x.2.zip gs).length:=by rw[List.length_zip];omega
 have e:(x.2.zip gs).take (i+1)=(x.2.zip gs).take i++[(x.2[i],gs[i])]:=by
  rw[Wr,Za hz,List.getElem_zip];rfl
 rw[e,Uz]
 congr 1
 funext r
 exact b9b _ _ _
theorem mt_ok'{t t':Trm}{r r':Rws}{m n:Nat}(h:mt t t' r=some r')(o:RwOk r m)(z:t'.size<=70)(z2:t.size<=n):RwOk r' (m+n):=by
 have:=mt_ok t t' r r' m h o z;exact⟨by have:=this.len;omega,this.small⟩
theorem b9c{x:Trm×List Trm}{g:Trm}{gs:List Trm}(hx:RuG x)(hg:g.size<=25)(hs:∀g∈gs,g.size<=25)(hl:x.2.length=gs.length):∀(i:Nat)(r:Rws),i<=x.2.length->stp x g gs i=some r->RwOk r (25+25*i)/\(r.map (·.1)).Nodup
 |0,r,_,h=>by
  have e:stp x g gs 0=mt x.1 g []:=by
   unfold stp;rw[Xz];cases mt x.1 g []<;>rfl
  rw[e]at h;have o:=mt_ok' (n:=25) h (m:=0) ⟨Yc _,λr hr=>by simp at hr⟩ qo hx.z1;exact⟨⟨by have:=o.len;omega,o.small⟩,b4w _ _ _ _ h qz⟩
 |i+1,r,hi,h=>by
  rw[b0j qo qo]at h;cases e:stp x g gs i with
  |none=>rw[e]at h;cases h
  |some r0=>
   rw[e]at h;have h:mt x.2[i] gs[i] r0=some r:=h;obtain⟨o0,n0⟩:=b9c hx hg hs hl i r0 qo e;have o:=mt_ok' (n:=25) h o0 (by have:=hs gs[i] (Zw _);omega) (hx.z2 _ (Zw _));exact⟨⟨by have:=o.len;omega,o.small⟩,b4w _ _ _ _ h n0⟩
theorem c5x{rs:List (Trm×List Trm)}{ws:List Ro}{at_:Nat}{r:Ro}{k:Nat}(hk:k<rs.length)(e:(r.n-1).toNat=k):a7y rs ws at_ r=(decide (r.kids.length=(rs[k]).2.length)&&(a4k at_ ws.length r.kids&&(stp rs[k] r.goal (r.kids.map (a2o ws)) (rs[k]).2.length).isSome)):=by
 unfold a7y stp;rw[e,Za hk]
 show(decide (r.kids.length=(rs[k]).2.length)&&_)=_
 cases hd:decide (r.kids.length=(rs[k]).2.length)with
 |false=>rw[Yp,Yp]
 |true=>
  have:=Zr hd;rw[Yb (by rw[List.length_zip];omega)]
theorem c1c{rs:List (Trm×List Trm)}{ws:List Ro}{at_:Nat}{r:Ro}(h:(rs.length:Int)<r.n)(h1:1<=r.n):a7y rs ws at_ r=false:=by
 unfold a7y;rw[Wa qo]
theorem c1d{at_ len:Nat}{ks:List Int}(h:a4k at_ len ks=true){k:Int}(hk:k∈ks):(at_:Int)<k/\k<(len:Int):=by
 have:=Y3.mp h k hk;rw[Xl]at this;exact⟨Zr this.1,Zr this.2⟩
theorem b9d{ws:List Ro}{k:Int}(h:k.toNat<ws.length):a2o ws k=(ws[k.toNat]).goal:=by
 unfold a2o;rw[Za h];rfl
theorem b2t{ws:List Ro}{wd:List Str}(h:∀x∈ws,RoG wd x)(k:Int):(a2o ws k).size<=25:=by
 unfold a2o;cases e:ws[k.toNat]? with
 |none=>simp[Trm.size]
 |some r=>
  obtain⟨_,_,_,_,z⟩:=(h r (Xa e)).g;exact z
theorem a8b{K:W.Frag}{H:Hp}{us:List V}{ts:List Trm}(h:DenL K H us (Trm.dataL ts)){i:Nat}(hi:i<ts.length):∃u,us[i]? =some u/\us.getD i .non=u/\Den K H u (ts[i]).data:=by
 have hl:=a2b h;have hu:us[i]? =some us[i]:=Za qo
 obtain⟨d,e1,e2⟩:=h.get hu;rw[Trm.dataL_map,Zz,Za hi]at e1;obtain rfl:(ts[i]).data=d:=Zk e1;exact⟨_,hu,by rw[Zm,hu];rfl,e2⟩
theorem tru_eq{K:W.Frag}{f:Bool->Hp->Prop}{b b':Bool}{H:Hp}(e:b=b')(h:mTru K f (.bl b') H):mTru K f (.bl b) H:=by
 subst e;exact h
theorem RD.kl{K:W.Frag}{H H':Hp}{ru rq:Addr}{rs:List (Trm×List Trm)}{ws:List Ro}{wd:List Str}(h:RD K H ru rq rs ws wd)(k:∀a us,H a=some (.lst us)->H' a=some (.lst us))(kt:KT K H H'):RD K H' ru rq rs ws wd:=by
 obtain⟨ur,r1,r2⟩:=h.r;obtain⟨uw,w1,w2⟩:=h.w;exact⟨⟨ur,k _ _ r1,r2.monoT kt⟩,⟨uw,k _ _ w1,w2.kl (λa us _ e=>k a us e) kt⟩,h.ro,h.wo,h.wd',h.l1,h.l2⟩
theorem RD.ins{K:W.Frag}{H:Hp}{l C dx ru rq:Addr}{fs:List (Str×V)}{o:HO}{rs:List (Trm×List Trm)}{ws:List Ro}{wd:List Str}(h:RD K H ru rq rs ws wd)(e:H l=some (.ins C dx fs)):RD K (upd H l o) ru rq rs ws wd:=
 h.kl (λa us g=>by rw[a0p (a5n g e (λz=>by cases z))];exact g) (KT.upd e (λ_ z=>by cases z) (λ_ _ z=>by cases z))
theorem c8j{K:W.Frag}{a:Addr}{us:List V}{H H0:Hp}(h:SqL K H0 a us\/SqT K H0 a us)(s:Same H0 H){g:TG}{tb:TS}{D:Ends}{σ:L2.St}(k:∀J Ok,Row J us.length (λi=>us.getD i .non) Ok->(∀H',Same H0 H'->Ok H')->ForW J g tb D σ H):(∃xs,SqL K H a xs/\ForW (Itl K a) g tb D σ H)\/∃xs,SqT K H a xs/\ForW (Itt K a) g tb D σ H:=by
 rcases h with h|h
 ·exact .inl ⟨us,s.seq h,k _ _ a3z λH' s=>s.seq h⟩
 ·exact .inr ⟨us,s.tup h,k _ _ b1u λH' s=>s.tup h⟩
theorem c2m(ts:List Trm)(i:Nat):Trm.sizeL (ts.take i)<=Trm.sizeL ts:=by
 have h:=Trm.sizeL_app (ts.take i) (ts.drop i);rw[Uf]at h;omega
theorem b6s{H:Hp}{f:Addr}{R S:List V->List Trm->List Str->Prop}{U:List V->List Trm->List Str->Prop}(h:∃(us:List V)(ts:List Trm)(xs:List Str),R us ts xs/\S us ts xs/\H f=some (.lst (xs.map V.str))/\Trm.sizeL ts<0/\U us ts xs):False:=by
 obtain⟨_,_,_,_,_,_,z,_⟩:=h;omega
theorem a3v{c:Bool}{σ:L2.St}{H:Hp}{T:L2.St->Hp->(Bool->Hp->Prop)->Prop}{K:Bool->Hp->Prop}(hF:K false H)(h:K false H->c=true->T σ H K):if c=true then T σ H K else K false H:=by
 cases c with
 |true=>exact h hF rfl
 |false=>exact hF
theorem Fr2.np{K:W.Frag}{d st:Addr}{H H':Hp}{rows:Rws}{m:Nat}(e:Fr2 d st H H')(o:a1s K H d st rows m){a:Addr}{xs:List Str}(h:H a=some (.lst (xs.map V.str))):H' a=some (.lst (xs.map V.str)):=by
 obtain⟨i,hi⟩:=o.st';obtain⟨kvs,h1,_⟩:=o.put.ex;refine e _ _ (λz=>by rw[z,h1]at h;cases h) (λz=>?_) h;rw[z,hi]at h;cases xs<;>simp at h
theorem ite_or{c:Bool}{σ:L2.St}{H:Hp}{T:L2.St->Hp->(Bool->Hp->Prop)->Prop}{K:Bool->Hp->Prop}(hT:K true H)(h:K true H->c=false->T σ H K):if c=true then K true H else T σ H K:=by
 cases c with
 |true=>exact hT
 |false=>exact h hT rfl
theorem den_tag{K:W.Frag}{H:Hp}{v:V}{t:Trm}(h:Den K H v t.data):∃a tg r,v=.ref a/\SqT K H a (.str tg::r):=by
 cases t with
 |any x=>obtain⟨a,e,hs⟩:=a2h h;exact⟨a,_,_,e,hs⟩
 |num x=>obtain⟨a,e,hs⟩:=a2g h;exact⟨a,_,_,e,hs⟩
 |app s ks=>obtain⟨a,b,us,e,hs,_⟩:=a1l h;exact⟨a,_,_,e,hs⟩
theorem c5y:∀n:Fin 11,(a3b n.val).length<=9:=by decide+kernel
theorem b5l{K:W.Frag}{H:Hp}{us:List V}{ts:List Trm}{u:V}{t:Trm}(h:DenL K H us (Trm.dataL ts))(d:Den K H u t.data):DenL K H (us++[u]) (Trm.dataL (ts++[t])):=by
 rw[a3e];exact h.append (.cons d .nil)
theorem b6n(ts:List Trm)(t:Trm):Trm.sizeL (ts++[t])=Trm.sizeL ts+t.size:=by
 rw[Trm.sizeL_app]
 simp[Trm.sizeL]
theorem But.same{K:W.Frag}{st:Addr}{H H':Hp}(s:Same H H'):But st H H':=λb o _ e=>s b o e
structure NS(K:W.Frag)(H:Hp)(np wp st:Addr)(xs ws:List Str):Prop where
 n:SqL K H np (xs.map V.str)
 w:SqL K H wp (ws.map V.str)
 s:∃i,H st=some (.lst [.int i])
theorem NS.but{K:W.Frag}{H H':Hp}{np wp st:Addr}{xs ws:List Str}(h:NS K H np wp st xs ws)(b:But st H H'){j:Int}(e:H' st=some (.lst [.int j])):NS K H' np wp st xs ws:=by
 obtain⟨i,hi⟩:=h.s;exact⟨My.But.strs b hi h.n,My.But.strs b hi h.w,j,e⟩
theorem NS.same{K:W.Frag}{H H':Hp}{np wp st:Addr}{xs ws:List Str}(h:NS K H np wp st xs ws)(s:Same H H'):NS K H' np wp st xs ws:=by
 obtain⟨i,hi⟩:=h.s;exact⟨s.seq h.n,s.seq h.w,i,s _ _ hi⟩
theorem a3i{st:Addr}{H:Hp}{o:HO}:But st H (upd H st o):=λb u hb e=>by rw[a0p hb];exact e
theorem b5m{K:W.Frag}{H:Hp}{us:List V}{rs:List (Trm×List Trm)}(d:DenL K H us (rs.map ruE)){k:Nat}(hk:k<rs.length):∃u a hv gp ug,us[k]? =some u/\u=.ref a/\SqT K H a [hv,.ref gp]/\Den K H hv (rs[k]).1.data/\SqT K H gp ug/\DenL K H ug (Trm.dataL (rs[k]).2):=by
 have hl:=d.length;rw[length_map]at hl;have hu:us[k]? =some us[k]:=Za qo
 obtain⟨d,e1,e2⟩:=d.get hu;rw[Zz,Za hk]at e1;obtain rfl:ruE rs[k]=d:=Zk e1;obtain⟨a,hv,gp,ug,e3,h1,h2,h3,h4⟩:=c1b e2;exact⟨_,a,hv,gp,ug,hu,e3,h1,h2,h3,h4⟩
theorem pickI{α:Type}{xs:List α}(h:0<xs.length)(t:Int):∃v,atI xs (t%(xs.length:Int))=some v/\v∈xs:=by
 obtain⟨v,e1,_⟩:=a2c (xs:=xs) (i:=t%(xs.length:Int)) (Yw _ qo) (Yj _ qo);exact⟨v,e1,a5m e1⟩
theorem RuG.zz{x:Trm×List Trm}(h:RuG x):Trm.sizeL x.2<=50:=by
 have h1:=b3q h.z2;have h2:=Xo 25 h.l;omega
theorem c1e{K:W.Frag}{H:Hp}{a:Addr}{us:List V}{ks:List Trm}{lo hi:Option Int}{Q:VK}(hs:SqT K H a us)(hl:DenL K H us (Trm.dataL ks))(q:∀p us' H',Same H H'->SqT K H' p us'->DenL K H' us' (Trm.dataL ((ks.drop (HT.sIx ks.length 0 lo)).take (HT.sIx ks.length ks.length hi-HT.sIx ks.length 0 lo)))->Q (.ref p) H'):mSlT K (.ref a) lo hi H Q:=by
 refine c7c hs hl λp H' s d=>?_
 have e:(Trm.dataL ks).length=ks.length:=by rw[Trm.dataL_map,length_map]
 rw[e,b0a,a9z]at d;cases d with
 |tup h1 h2=>exact q p _ H' s h1 h2
theorem c8k{x:Trm×List Trm}{o:Str}(h:o∈ordL x.2 []):∃j,∃hj:j<x.2.length,o∈ordL [x.2[j]] []:=by
 have h:o∈a3j x.2:=((a5j x.2 [] o).mp h).resolve_left qz
 suffices ∀ks:List Trm,o∈a3j ks->∃j,∃hj:j<ks.length,o∈vars ks[j] by
  obtain⟨j,hj,e⟩:=this x.2 h;exact⟨j,hj,(a5j _ [] o).mpr (.inr (by rw[a3j,a3j,Xi];exact e))⟩
 intro ks
 induction ks with
 |nil=>intro h;simp[a3j]at h
 |cons k ks ih=>
  intro h;rw[a3j]at h;rcases Zx.mp h with z|z
  ·exact⟨0,qz,z⟩
  ·obtain⟨j,hj,e⟩:=ih z;exact⟨j+1,by simp only[length_cons];omega,by simpa using e⟩
theorem a9e{α:Type}{xs:List α}{k:Nat}{y x:α}(h:x∈xs.set k y):x∈xs\/x=y:=List.mem_or_eq_of_mem_set h
theorem b9e{x:Trm×List Trm}{g:Trm}{gs:List Trm}(hl:x.2.length=gs.length):∀(n i:Nat),i+n=x.2.length->stp x g gs i=none->stp x g gs x.2.length=none
 |0,i,e,h=>by rw[<-e];exact h
 |n+1,i,e,h=>b9e hl n (i+1) qo (by rw[b0j qo qo,h];rfl)
theorem c8l{at_ len:Nat}{ks:List Int}{k:Int}(hk:k∈ks)(h:¬((at_:Int)<k/\k<(len:Int))):a4k at_ len ks=false:=by
 cases e:a4k at_ len ks with
 |false=>rfl
 |true=>exact absurd (c1d e hk) h
theorem kids_ok{at_ len:Nat}{ks:List Int}(h:∀k∈ks,(at_:Int)<k/\k<(len:Int)):a4k at_ len ks=true:=Y3.mpr λk hk=>by
 rw[Zt (h k hk).1,Zt (h k hk).2];rfl
theorem a1s.but{K:W.Frag}{H H':Hp}{d st:Addr}{rows:Rws}{m:Nat}{j:Int}(h:a1s K H d st rows m)(b:But st H H')(e:H' st=some (.lst [.int j])):a1s K H' d st rows m:=by
 obtain⟨i,hi⟩:=h.st';obtain⟨kvs,h1,h2⟩:=h.put.ex;exact⟨⟨kvs,b _ _ (λz=>h.ne z.symm) h1,h2.monoT λa xs q=>b.tup hi q⟩,h.rw',h.nod,j,e⟩
theorem a1s.lst{K:W.Frag}{H:Hp}{d st p:Addr}{rows:Rws}{m:Nat}{ys zs:List V}(h:a1s K H d st rows m)(g:H p=some (.lst ys))(n:p≠st):a1s K (upd H p (.lst zs)) d st rows m:=by
 obtain⟨i,hi⟩:=h.st';exact⟨h.put.lst g,h.rw',h.nod,i,by rw[a0p n.symm];exact hi⟩
theorem Fr2.but{d st:Addr}{P H H':Hp}(F:Fr2 d st H H')(b:But st P H)(n:P d=none):But st P H':=λa o h e=>F a o (λz=>by rw[z,n]at e;cases e) h (b a o h e)
theorem b5n{st p:Addr}{P H:Hp}{o:HO}(b:But st P H)(n:P p=none):But st P (upd H p o):=λa u h e=>by
 rw[a0p (λz=>by rw[z,n]at e;cases e)];exact b a u h e
theorem Fr2.kt{K:W.Frag}{d st:Addr}{H H':Hp}{rows:Rws}{m:Nat}(e:Fr2 d st H H')(o:a1s K H d st rows m):KT K H H':=λ_ _ q=>e.sq o q
theorem But.kt{K:W.Frag}{p:Addr}{H H':Hp}{ys:List V}(e:But p H H')(hp:H p=some (.lst ys)):KT K H H':=λ_ _ q=>e.tup hp q
theorem kt_lst{K:W.Frag}{H:Hp}{p:Addr}{ys zs:List V}(h:H p=some (.lst ys)):KT K H (upd H p (.lst zs)):=KT.upd h (λ_ z=>by cases z) (λ_ _ z=>by cases z)
section
variable{K:W.Frag}{M:List Addr}{H H':Hp}{ru rq st:Addr}{rs:List (Option (Trm×List Trm))}{ws:List (Option Ro)}
theorem SH.more(h:SH K M H ru rq st rs ws)(b:But st H H'){j:Int}(e:H' st=some (.lst [.int j])){kp:Addr}{o:HO}(n:H kp=none)(k:H' kp=some o):SH K (kp::M) H' ru rq st rs ws:=by
 obtain⟨S,p⟩:=h.turn b e;obtain⟨uw,w1,w2⟩:=h.w;refine⟨S.r,⟨uw,b _ _ h.n3 w1,?_⟩,S.s,h.n1,h.n2,h.n3,⟨Zv _ h.m.1,Zv _ h.m.2.1,Zv _ h.m.2.2⟩,λm hm=>?_⟩
 ·exact(w2.more n).pr (p.mono λm hm=>Zv _ (h.sub m hm))
 ·rcases Zp.mp hm with z|z
  ·exact⟨o,by rw[z];exact k⟩
  ·exact S.e m z
theorem SH.less{kp:Addr}(h:SH K (kp::M) H ru rq st rs ws)(m:ru∈M/\rq∈M/\st∈M):SH K M H ru rq st rs ws:=by
 obtain⟨uw,w1,w2⟩:=h.w;exact⟨h.r,⟨uw,w1,w2.less λm hm=>Zv _ hm⟩,h.s,h.n1,h.n2,h.n3,m,λa ha=>h.e a (Zv _ ha)⟩
theorem SH.own{kp:Addr}{ys zs:List V}(h:SH K (kp::M) H ru rq st rs ws)(k:H kp=some (.lst ys))(n1:ru≠kp)(n2:rq≠kp)(n3:st≠kp):SH K (kp::M) (upd H kp (.lst zs)) ru rq st rs ws:=by
 obtain⟨i,hi⟩:=h.s;refine h.pr (a5g k (λb o hb e=>by rw[a0p hb];exact e) (Ye ..)) (a0p n1) (a0p n2) ⟨i,by rw[a0p n3];exact hi⟩ λm hm=>?_
 by_cases c:m=kp
 ·rw[c];exact⟨_,a0c⟩
 ·obtain⟨o,e⟩:=h.e m hm;exact⟨o,by rw[a0p c];exact e⟩
end
theorem NW.same{K:W.Frag}{M:List Addr}{H H':Hp}{np wp:Addr}{xs wd:List Str}(h:NW K M H np wp xs wd)(s:Same H H'):NW K M H' np wp xs wd:=h.pr (.same s)
theorem NW.more{K:W.Frag}{M:List Addr}{H:Hp}{np wp kp:Addr}{xs wd:List Str}(h:NW K M H np wp xs wd)(n1:np≠kp)(n2:wp≠kp):NW K (kp::M) H np wp xs wd:=⟨h.n,h.w,h.n9,h.wo,λz=>(Zp.mp z).elim n1 h.n1,λz=>(Zp.mp z).elim n2 h.n2⟩
theorem c5z{α:Type}(A B:List α)(x y:α):(A++[x]++B).set A.length y=A++[y]++B:=by
 rw[Xe,Xe]
 induction A with
 |nil=>rfl
 |cons a A ih=>rw[Wk,length_cons,Rf,ih];rfl
theorem c8m(i:Int)(b:Bool):IntMulOk i (if b=true then 1 else 0):=a6l (by cases b<;>decide)
theorem a8c{n a:Nat}(h:a<n):ixN n (a:Int)=some a:=by
 unfold ixN;rw[if_pos qo,if_pos qo]
 simp
theorem no_eqW{wd:List Str}{ks:List Trm}(h:b2i wd)(g:GlW wd (.app eqS ks)):False:=by
 obtain⟨s,ks',e,h1,_⟩:=g;cases e;exact absurd (b8w (h.w _ h1)) qk
theorem b3t{st D:Addr}{P A:Hp}(b:But st P A){o:HO}(h:A st=some o)(n:A D=none):P D=none:=by
 cases e:P D with
 |none=>rfl
 |some u=>
  have:=b D u (λz=>by rw[z,h]at n;cases n) e;rw[this]at n;cases n
theorem pr_sub{K:W.Frag}{P A J:Hp}{kp ru rq st:Addr}(b:But st P A)(t:KT K P A)(n:P kp=none)(p:Pr K [kp,ru,rq,st] A J):Pr K [ru,rq,st] P J:=by
 refine⟨λa o h e=>p.kp a o (λz=>?_) (b a o (λz=>h (by rw[z];simp)) e),t.trans p.kt⟩;rcases Zp.mp z with z|z
 ·rw[z,n]at e;cases e
 ·exact h z
structure Sp7(K:W.Frag)(H:Hp)(ru rq st np wp:Addr)(xs wd:List Str)(J:Hp)(rs:List (Trm×List Trm))(ws:List Ro):Prop where
 s:SH K [ru,rq,st] J ru rq st (rs.map some) (ws.map some)
 p:Pr K [ru,rq,st] H J
 n:NW K [ru,rq,st] J np wp xs wd
 r:∀x∈rs,RuG x
 w:∀x∈ws,RoG wd x
 a1:1<=rs.length
 a2:1<=ws.length
 b1:rs.length<=71
 b2:ws.length<=71
section
variable{K:W.Frag}{H J J':Hp}{ru rq st np wp:Addr}{xs wd:List Str}{rs rs':List (Trm×List Trm)}{ws ws':List Ro}
theorem Sp7.same(h:Sp7 K H ru rq st np wp xs wd J rs ws)(s:Same J J'):Sp7 K H ru rq st np wp xs wd J' rs ws:=
 ⟨h.s.same s,h.p.trans (.same s),h.n.same s,h.r,h.w,h.a1,h.a2,h.b1,h.b2⟩
theorem Sp7.turn(h:Sp7 K H ru rq st np wp xs wd J rs ws)(b:But st J J'){j:Int}(e:J' st=some (.lst [.int j])):Sp7 K H ru rq st np wp xs wd J' rs ws:=
 let t:=h.s.turn b e
 ⟨t.1,h.p.trans t.2,h.n.pr t.2,h.r,h.w,h.a1,h.a2,h.b1,h.b2⟩
theorem Sp7.setR(h:Sp7 K H ru rq st np wp xs wd J rs ws){us:List V}(d:DenL K J us (rs'.map ruE))(r:∀x∈rs',RuG x)(a:1<=rs'.length)(b:rs'.length<=71):Sp7 K H ru rq st np wp xs wd (upd J ru (.lst us)) rs' ws:=
 have e:(rs'.map some).map oR=rs'.map ruE:=by rw[Y6];rfl
 let t:=h.s.setR (us:=us) (rs':=rs'.map some) (by rw[e];exact d)
 ⟨t.1,h.p.trans t.2,h.n.pr t.2,r,h.w,a,h.a2,b,h.b2⟩
theorem Sp7.setW(h:Sp7 K H ru rq st np wp xs wd J rs ws){us:List V}(d:DmL K J [ru,rq,st] us (ws'.map Ro.data))(w:∀x∈ws',RoG wd x)(a:1<=ws'.length)(b:ws'.length<=71):Sp7 K H ru rq st np wp xs wd (upd J rq (.lst us)) rs ws':=
 have e:(ws'.map some).map oW=ws'.map Ro.data:=by rw[Y6];rfl
 let t:=h.s.setW (us:=us) (ws':=ws'.map some) (by rw[e];exact d)
 ⟨t.1,h.p.trans t.2,h.n.pr t.2,h.r,w,h.a1,a,h.b1,b⟩
theorem Sp7.butR(h:Sp7 K H ru rq st np wp xs wd J rs ws)(b:But ru J J'){us:List V}(e:J' ru=some (.lst us))(d:DenL K J' us (rs'.map ruE))(r:∀x∈rs',RuG x)(a:1<=rs'.length)(bb:rs'.length<=71):Sp7 K H ru rq st np wp xs wd J' rs' ws:=by
 obtain⟨ur,r1,_⟩:=h.s.r;obtain⟨uw,w1,w2⟩:=h.s.w;obtain⟨i,hi⟩:=h.s.s;have e2:(rs'.map some).map oR=rs'.map ruE:=by rw[Y6];rfl
 have p:Pr K [ru,rq,st] J J':=a5g r1 b qz
 exact⟨⟨⟨us,e,by rw[e2];exact d⟩,⟨uw,b _ _ h.s.n1.symm w1,w2.pr p⟩,⟨i,b _ _ h.s.n2.symm hi⟩,h.s.n1,h.s.n2,h.s.n3,h.s.m,λm hm=>by
  by_cases c:m=ru
  ·rw[c];exact⟨_,e⟩
  ·obtain⟨o,q⟩:=h.s.e m hm;exact⟨o,b _ _ c q⟩⟩,h.p.trans p,h.n.pr p,r,h.w,a,h.a2,bb,h.b2⟩
theorem Sp7.ul(h:Sp7 K H ru rq st np wp xs wd J rs ws):∃us,J ru=some (.lst us)/\us.length=rs.length/\DenL K J us (rs.map ruE):=by
 obtain⟨us,e,d⟩:=h.s.r;have e2:(rs.map some).map oR=rs.map ruE:=by rw[Y6];rfl
 rw[e2]at d;have:=d.length;rw[length_map]at this;exact⟨us,e,this,d⟩
theorem Sp7.wl(h:Sp7 K H ru rq st np wp xs wd J rs ws):∃us,J rq=some (.lst us)/\us.length=ws.length/\DmL K J [ru,rq,st] us (ws.map Ro.data):=by
 obtain⟨us,e,d⟩:=h.s.w;have e2:(ws.map some).map oW=ws.map Ro.data:=by rw[Y6];rfl
 rw[e2]at d;have:=d.length;rw[length_map]at this;exact⟨us,e,this,d⟩
theorem b2k{M:List Addr}{us:List V}(d:DmL K J M us (ws.map Ro.data)){k:Nat}(hk:k<ws.length):∃a gv kp,us[k]? =some (.ref a)/\SqT K J a [.str yesS,gv,.int (ws[k]).n,.ref kp]/\Den K J gv (ws[k]).goal.data/\J kp=some (.lst ((ws[k]).kids.map V.int))/\kp∉M:=by
 have hl:=d.length;rw[length_map]at hl;have hu:us[k]? =some us[k]:=Za qo
 obtain⟨d,e1,e2⟩:=d.get hu;rw[Zz,Za hk]at e1;obtain rfl:(ws[k]).data=d:=Zk e1;obtain⟨a,gv,kp,e3,h⟩:=dm_ro e2;exact⟨a,gv,kp,by rw[hu,e3],h⟩
end
theorem modN{n:Nat}(h:0<n)(t:Int):∃k:Nat,k<n/\t%(n:Int)=(k:Int):=
 ⟨(t%(n:Int)).toNat,by have:=Yj t (show(0:Int)<n by omega);have:=Yw t (show(n:Int)≠0 by omega);omega,by have:=Yw t (show(n:Int)≠0 by omega);omega⟩
theorem whole3{a b c d:V}(w:b4h [a,b,c,d] (some 1) none):False:=by
 have h1:HT.sIx 4 0 (some 1)=0:=w.1;rw[b8s 4 1 qo]at h1;exact absurd h1 qd
theorem cut3{a b c d:V}:cutV [a,b,c,d] (some 1) none=[b,c,d]:=by rw[a6e _ 1 qo];rfl
theorem b1l{n:Nat}:∀{ds:List PyData},(∀d∈ds,d.depth<=n)->PyData.depthAll ds<=n
 | [],_=>by simp[PyData.depthAll]
 |d::ds,h=>by
  have h1:=h d qz;have h2:=b1l (ds:=ds) λx hx=>h x (by simp[hx])
  unfold PyData.depthAll;omega
theorem c8n{ts:List Trm}(h:∀t∈ts,t.size<=25):PyData.depthAll (Trm.dataL ts)<=60:=b1l λd hd=>by
 rw[Trm.dataL_map]at hd;obtain⟨t,ht,rfl⟩:=Z4.mp hd;have:=Trm.depth_le t;have:=h t ht;omega
theorem dp_ru{x:Trm×List Trm}(h:RuG x):(ruE x).depth<=70:=by
 have h1:=Trm.depth_le x.1;have h2:=h.z1;have h3:=c8n h.z2;unfold ruE;simp only[PyData.depth,PyData.depthAll];omega
theorem dp_ints(l:List Int):PyData.depthAll (l.map PyData.int)<=1:=b1l λd hd=>by
 obtain⟨t,_,rfl⟩:=Z4.mp hd
 simp[PyData.depth]
theorem dp_ro{wd:List Str}{x:Ro}(h:RoG wd x):x.data.depth<=70:=by
 have h1:=Trm.depth_le x.goal;obtain⟨_,_,_,_,z⟩:=h.g;have h2:=dp_ints x.kids;unfold Ro.data nbD;simp only[PyData.depth,PyData.depthAll];omega
theorem dp_both{rs:List (Trm×List Trm)}{ws:List Ro}{wd:List Str}(hr:∀x∈rs,RuG x)(hw:∀x∈ws,RoG wd x):PyData.depthAll [.list (rs.map ruE),.list (ws.map Ro.data)]<=149:=by
 have h1:PyData.depthAll (rs.map ruE)<=70:=b1l λd hd=>by
  obtain⟨x,hx,rfl⟩:=Z4.mp hd;exact dp_ru (hr x hx)
 have h2:PyData.depthAll (ws.map Ro.data)<=70:=b1l λd hd=>by
  obtain⟨x,hx,rfl⟩:=Z4.mp hd;exact dp_ro (hw x hx)
 simp only[PyData.depth,PyData.depthAll];omega
theorem c1f:∀bs:List Bool,(!inV (.bl false) (bs.map V.bl))=bs.all id
 | []=>rfl
 |b::bs=>by
  have ih:=c1f bs;unfold inV at ih ⊢;rw[Z2,Xw,Vh,<-ih];cases b<;>rfl
theorem b9f:∀bs:List Bool,(bs.map V.bl).all a6j=true
 | []=>rfl
 |b::bs=>by rw[Z2,Vh,b9f bs];rfl
theorem seq_frm{K:W.Frag}{M:List Addr}{H H1 H':Hp}(s:Same H H1)(p:Pr K M H1 H')(n:∀m∈M,H m=none){a:Addr}{xs:List V}(h:SqL K H a xs):SqL K H' a xs:=by
 rcases h with(h|⟨o,h⟩)|h
 ·exact .inl (.inl (p.kp _ _ (λz=>by rw[n a z]at h;cases h) (s _ _ h)))
 ·exact .inl (.inr ⟨o,p.kp _ _ (λz=>by rw[n a z]at h;cases h) (s _ _ h)⟩)
 ·exact .inr h
section
variable{P:Program}{w:World}{K:W.Frag}{mg:Str->Option Value}{base:Heap}{t:Ad}
theorem ok_law(T:Txt K mg t)(G_b3:FnOk P w K mg base CX0 1 t.a_b3 t.d_b3 ["_law_cell_here","_law_many","_law_first"] (a7i K))(G_c4:FnOk P w K mg base CX0 2 t.a_c4 t.d_c4 ["_law_cell_here","_law_many"] (b0i K))(G_b0:FnOk P w K mg base CX0 100 t.a_b0 t.d_b0 ["_law_goal_here","_law_rules","_law_rows","_law_names_here","_law_words_here","_law_state","_law_deep"] (a4y K 3))(G_c6:FnOk P w K mg base CX0 84 t.a_c6 t.d_c6 ["_law_rules","_law_rows","_law_way","_law_names_here","_law_words_here","_law_state"] (a8a K))(G_a8:FnOk P w K mg base CX0 1 t.a_a8 t.d_a8 ["_law_script","_law_k"] (b1e K))(G_a6:FnOk P w K mg base CX0 3 t.a_a6 t.d_a6 ["_law_names_here","_law_words_here","_law_state"] (a6x K))(G_b7:FnOk P w K mg base CX0 77 t.a_b7 t.d_b7 ["rules","rows"] (b0h K))(G_c0:FnOk P w K mg base CX0 73 t.a_c0 t.d_c0 ["_law_rules","_law_rows","_law_at"] (b1k K)):FnOk P w K mg base CX0 101 t.a_law t.d_law ["_law_script"] (b1j K):=by
 exists T.F_law.ok a5f,b1j,(a0f (a0s (i:=1) (hs:=a1e) a5f.nd rfl (by nofun) (a0q G_b3 hr.o rfl T.m_b3 T.F_b3.kp T.b_b3 .nil a0v (a0a (a0q G_a8 hr.o rfl T.m_a8 T.F_a8.kp T.b_a8 .nil a0v (a0a (mv 0) (a0a a0b a0d))) (a0a a0b (a0a a0r a0d))))) (a0f (a0s (i:=2) (hs:=a1e) a5f.nd rfl (by nofun) (a0q G_c4 hr.o rfl T.m_c4 T.F_c4.kp T.b_c4 .nil a0v (a0a (a0q G_a8 hr.o rfl T.m_a8 T.F_a8.kp T.b_a8 .nil a0v (a0a (mv 0) (a0a a0b a0d))) (a0a a0b a0d)))) (a0f (a0s (i:=3) (hs:=a6s) a5f.nd rfl (by nofun) (a1i (a0a (a0k a0w (a0k (a1k K rfl) (a0k a4p (a0q G_a8 hr.o rfl T.m_a8 T.F_a8.kp T.b_a8 .nil a0v (a0a (mv 0) (a0a a0b a0d))) a0b) (a0m (kc_sumA K rfl rfl) rfl T.n_f7 boot_sum (a0a (mv 0) a0d))) a0b) a0d))) (a0f (a0s (i:=4) (hs:=a6s) a5f.nd rfl (by nofun) (a1i a0d)) (a0f (a0s (i:=5) (hs:=a6s) a5f.nd rfl (by nofun) (a1i a0d)) (a0f (a2f (a0q G_b0 hr.o rfl T.m_b0 T.F_b0.kp T.b_b0 .nil a0v (a0a (a0q G_a6 hr.o rfl T.m_a6 T.F_a6.kp T.b_a6 .nil a0v (a0a (mv 1) (a0a (mv 2) (a0a (mv 3) a0d)))) (a0a (mv 4) (a0a (mv 5) (a0a (mv 1) (a0a (mv 2) (a0a (mv 3) (a0a a0b a0d))))))))) (a0f (a2f (a0q G_c6 hr.o rfl T.m_c6 T.F_c6.kp T.b_c6 .nil a0v (a0a (mv 4) (a0a (mv 5) (a0a (a0k a0w (a0q G_a8 hr.o rfl T.m_a8 T.F_a8.kp T.b_a8 .nil a0v (a0a (mv 0) (a0a a0b a0d))) a0b) (a0a (mv 1) (a0a (mv 2) (a0a (mv 3) a0d)))))))) (a0f (a0s (i:=6) a5f.nd rfl (by nofun) (a1x (b2b K rfl) a3x (a2n rfl (a1n rfl T.n_d9 (a0a (a0m (a0x K rfl) rfl T.n_a2 Zg (a0a (mv 5) a0d)) a0d)) (a1u (a0n b4o) ["_law_script","_law_names_here","_law_words_here","_law_state","_law_rules","_law_rows","_law_due_here","_law_kept","_law_turn","_law_found"] ["_law_script","_law_names_here","_law_words_here","_law_state","_law_rules","_law_rows","_law_due_here","_law_kept","_law_turn","_law_found"] rfl rfl qk) (λ_ _ _ _ _=>a1y) (λ_ _ _ _ _=>(a0q G_c0 hr.o rfl T.m_c0 T.F_c0.kp T.b_c0 .nil a0v (a0a (mv 5) (a0a (mv 6) (a0a (mv 0) a0d)))))) (by with_unfolding_all rfl))) (a0f (a0s (i:=7) (hs:=a6s) a5f.nd rfl (by nofun) (a1i (a0a (a1g (a5y K rfl) rfl T.n_e1 W7 (a0a (mv 4) a0d)) (a0a (a2n rfl (a4q K rfl (mv 5)) (a1u (a0n b4o) ["_law_script","_law_names_here","_law_words_here","_law_state","_law_rules","_law_rows","_law_due_here","_law_kept","_law_turn","_law_found"] ["_law_script","_law_names_here","_law_words_here","_law_state","_law_rules","_law_rows","_law_due_here","_law_kept","_law_turn","_law_found"] rfl rfl qk) (λ_ _ _ _ _=>a1y) (λ_ _ _ _ _=>(a1d (a0a (a0h (a0g K rfl) (mv 0) a0b (λ_ _=>rfl)) (a0a (a0h (a0g K rfl) (mv 0) a0b (λ_ _=>rfl)) (a0a (a0h (a0g K rfl) (mv 0) a0b (λ_ _=>rfl)) (a0a (a1g (a5y K rfl) rfl T.n_e1 W7 (a0a (a0h (a0g K rfl) (mv 0) a0b (λ_ _=>rfl)) a0d)) a0d))))))) a0d)))) (a0f (a3r Yi rfl (a1n rfl T.n_d9 (a0a a0b a0d)) (a1w (i:=8) a5f.nd rfl (by nofun)) (a0f (a0s (i:=9) (hs:=a1e) a5f.nd rfl (by nofun) (a0q G_b7 hr.o rfl T.m_b7 T.F_b7.kp T.b_b7 .nil a0v (a0a (mv 4) (a0a (mv 5) a0d)))) (a0f (a0y (PW.pt (a7b (a6q (a7q K rfl (a0m (kc_isi K rfl) rfl T.n_f4 boot_isinstance (a0a (mv 9) (a0a (c4g rfl T.n_f8 boot_bool) a0d))))) (a7b (a0o a7d (mv 9) (mv 6) (a0l _)) (a7m (a0o (ko_neX K rfl (a3t hr)) (a1i (a0a (mv 4) (a0a (mv 5) a0d))) (mv 7) (a0l _)))))) (a0i (a0t a3x)) a0u) (a0i (a0y (a0o mo_notB (a0q G_b7 hr.o rfl T.m_b7 T.F_b7.kp T.b_b7 .nil a0v (a0a (mv 4) (a0a (a1i a0d) a0d))) a3x (a0l _)) (a0i (a0t a3x)) a0u))))) (a0i (a0t a3x)))))))))))),H,Q,E,hr,h
 rename_i a;obtain⟨ns,hS,hl,hb,q⟩:=h;ext;refine⟨ns,hS,hb,qo,qo,λc0=>?_⟩;ext;refine⟨qo,qo,qk,b9v,λnp xs H1 hx9 _ _ s1 k1=>?_⟩;have hx9:xs.length=9:=hx9;ext;refine⟨ns,s1.seq hS,hb,qo,qo,λc1=>?_⟩;ext;refine⟨rfl,λwp wd H2 s2 k2 wo=>?_⟩;have s12:=s1.trans s2;ext;refine⟨ns,s12.seq hS,hb,qo,qo,λc2=>?_⟩;ext
 exists a4i (a6l qd)
 refine⟨a,ns,rfl,s12.seq hS,?_⟩;ext;generalize hc:(c2*7919+ns.sum)%2147483629=cs;refine⟨ln (by show 1<=100000;decide),λst hst=>?_⟩;have sst:Same H2 (upd H2 st (.lst [.int cs])):=a0e hst _;have kst:(upd H2 st (.lst [.int cs])) st=some (.lst [.int cs]):=a0c;generalize upd H2 st (.lst [.int cs])=H3 at sst kst ⊢;ext;refine⟨ln (by show 0<=100000;decide),λru hru=>?_⟩;have sru:Same H3 (upd H3 ru (.lst [])):=a0e hru _;have kru:(upd H3 ru (.lst [])) ru=some (.lst []):=a0c;generalize upd H3 ru (.lst [])=H4 at sru kru ⊢;ext;refine⟨ln (by show 0<=100000;decide),λrq hrq=>?_⟩;have srq:Same H4 (upd H4 rq (.lst [])):=a0e hrq _;have krq:(upd H4 rq (.lst [])) rq=some (.lst []):=a0c;generalize upd H4 rq (.lst [])=H5 at srq krq ⊢;ext;have s35:=sru.trans srq;have s25:=sst.trans s35;have nrs:ru≠st:=λz=>by rw[z,kst]at hru;cases hru
 have nws:rq≠st:=λz=>by rw[z,sru _ _ kst]at hrq;cases hrq
 have nwr:rq≠ru:=λz=>by rw[z,kru]at hrq;cases hrq
 have kst5:=s35 _ _ kst;refine⟨xs,wd,cs,SqL.of (s25 _ _ (s2 _ _ k1)),hx9,SqL.of (s25 _ _ k2),wo,kst5,λg t j H6 b6 k6 dg gl=>?_⟩;have al:∀m∈[ru,rq,st],H2 m=none:=λm hm=>by
  simp only[Zp,Z8,Xn]at hm;rcases hm with rfl|rfl|rfl
  ·exact a2j sst hru
  ·exact a2j (sst.trans sru) hrq
  ·exact hst
 have np2:=s2 _ _ k1
 have S6:SH K [ru,rq,st] H6 ru rq st (([]:List (Trm×List Trm)).map some) (([]:List Ro).map some):=⟨⟨[],b6 _ _ nrs (srq _ _ kru),.nil⟩,⟨[],b6 _ _ nws krq,.nil⟩,⟨j,k6⟩,nwr.symm,nrs,nws,⟨qz,qz,qz⟩,λm hm=>by
  simp only[Zp,Z8,Xn]at hm;rcases hm with rfl|rfl|rfl
  ·exact⟨_,b6 _ _ nrs (srq _ _ kru)⟩
  ·exact⟨_,b6 _ _ nws krq⟩
  ·exact⟨_,k6⟩⟩
 have N6:NW K [ru,rq,st] H6 np wp xs wd:=⟨b6 _ _ (λz=>by rw[z,hst]at np2;cases np2) (s25 _ _ np2),b6 _ _ (λz=>by rw[z,hst]at k2;cases k2) (s25 _ _ k2),hx9,wo,λz=>(by rw[al _ z]at np2;cases np2),λz=>(by rw[al _ z]at k2;cases k2)⟩;ext;refine⟨[ru,rq,st],t,[],[],xs,wd,S6,N6,dg,gl.ok,qo,qo,qo,qd,qd,λrs1 ws1 H7 p7 S7 hr1 hw1 m1 m2 m3 m4=>?_⟩;have m1:rs1.length<=14:=m1;have m2:ws1.length<=7:=m2;have m4:=m4 gl;rw[Wp,Wp]at S7;have N7:=N6.pr p7;have P27:Pr K [ru,rq,st] H2 H7:=((Pr.same (M:=[ru,rq,st]) s25).trans (a5g kst5 b6 qz)).trans p7;ext;refine⟨ns,seq_frm s12 P27 (λm hm=>a2j s12 (al m hm)) hS,hb,qo,qo,λc3=>?_⟩;ext;refine⟨rs1,ws1,xs,wd,S7,N7,hr1,λx hx=>(hw1 x hx).1,λx hx=>(hw1 x hx).2,m4,m3,qo,qo,λrs2 ws2 H8 p8 S8 hr2 hw2 l1 l2 l3=>?_⟩;obtain⟨ur,e1,d1⟩:=S8.r;obtain⟨uw,e2,d2⟩:=S8.w;have q1:(rs2.map some).map oR=rs2.map ruE:=by rw[Y6];rfl
 have q2:(ws2.map some).map oW=ws2.map Ro.data:=by rw[Y6];rfl
 rw[q1]at d1;rw[q2]at d2;have R8:RD K H8 ru rq rs2 ws2 wd:=⟨⟨ur,e1,d1⟩,⟨uw,e2,d2.weak⟩,hr2,hw2,wo,l1,l2⟩;have hwl:=d2.length;rw[length_map]at hwl;ext
 exists a1c (SqL.of e2)
 refine⟨_,rfl,qo,qo,λD hD=>?_⟩;refine a1t (a1o 0 (uw.length:Int).toNat) (λi ys J=>Same H8 J/\J D=some (.lst ys)/\ys=((List.range i).map (a4w rs2 ws2)).map V.bl) (ln qo) ⟨a0e hD _,a0c,rfl⟩ (λ_ _ _ _=>trivial) (λi ys J Q' hi hl hP k=>?_) (λys H9 hl hP=>?_)
 ·obtain⟨g1,g2,g3⟩:=hP;ext;refine⟨rs2,ws2,wd,R8.same g1,qo,qo,λJ2 s9=>?_⟩;have g4:=s9 _ _ g2;refine k _ _ g4 ⟨a1f (g1.trans s9) hD,a0c,?_⟩;rw[g3,Xs,Zi,Zi,show(0+(i:Int)).toNat=i by omega];rfl
 obtain⟨s9,g2,g3⟩:=hP;rw[show(uw.length:Int).toNat=ws2.length by omega]at g3;subst g3;ext;refine⟨D,_,rfl,.inl (SqL.of g2),rfl,b9f _,?_⟩;have eg:(if true=true then !inV (.bl false) (((List.range ws2.length).map (a4w rs2 ws2)).map V.bl)else inV (.bl false) (((List.range ws2.length).map (a4w rs2 ws2)).map V.bl))=a7l rs2 ws2:=by
  rw[if_pos rfl,c1f,U2];rfl
 rw[eg];ext;have f1:=s9 _ _ e1;have f2:=s9 _ _ e2;refine b7t (SqL.of f1) (λp1 hp1=>?_);have t1:=a0e hp1 (.lst ur);have kp1:(upd H9 p1 (.lst ur)) p1=some (.lst ur):=a0c;generalize upd H9 p1 (.lst ur)=H10 at t1 kp1 ⊢;have t2:=s9.trans t1;ext;have f2:=t1 _ _ f2;refine⟨rq,rfl,⟨_,SqL.of f2⟩,λD2 hD2=>?_⟩;refine a1t (a3z (xs:=uw)) (λi ys J=>Same H10 J/\J D2=some (.lst ys)/\DmL K J [D2] ys ((ws2.take i).map Ro.data)) (ln qo) ⟨a0e hD2 _,a0c,by rw[Xz];exact .nil⟩ (λi ys J hP=>SqL.of (hP.1 _ _ f2)) (λi ys J Q' hi hl hP k=>?_) (λys H11 hl hP=>?_)
 ·obtain⟨g1,g2,g3⟩:=hP;have hi2:i<ws2.length:=by omega
  obtain⟨a1,gv,kp,h3,h4,h5,h6,_⟩:=b2k (d2.pr (.same (t2.trans g1))) hi2;have hg:uw.getD i .non=.ref a1:=by rw[Zm,h3];rfl
  rw[hg];generalize h0:ws2[i]=r0 at h4 h5 h6;ext
  exists a0j h4 (v:=.str yesS) rfl
  exists a0j h4 (v:=gv) rfl
  exists a0j h4 (v:=.int r0.n) rfl
  exists a0j h4 (v:=.ref kp) rfl
  refine b7t (SqL.of h6) (λp2 hp2=>?_);have t3:=a0e hp2 (.lst (r0.kids.map V.int));have kp2:(upd J p2 (.lst (r0.kids.map V.int))) p2=some (.lst (r0.kids.map V.int)):=a0c;generalize upd J p2 (.lst (r0.kids.map V.int))=J2 at t3 kp2 ⊢;ext;refine⟨ln (by show 4<=100000;decide),λp3 hp3=>?_⟩;have sp3:Same J2 (upd J2 p3 (.tup [.str yesS,gv,.int r0.n,.ref p2])):=a0e hp3 _;have kp3:(upd J2 p3 (.tup [.str yesS,gv,.int r0.n,.ref p2])) p3=some (.tup [.str yesS,gv,.int r0.n,.ref p2]):=a0c;generalize upd J2 p3 (.tup [.str yesS,gv,.int r0.n,.ref p2])=J3 at sp3 kp3 ⊢;ext;have t4:=t3.trans sp3;have g4:=t4 _ _ g2;have nn:p2∉[D2]:=λz=>by rw[Zs.mp z,g2]at hp2;cases hp2
  have pu:Pr K [D2] J3 (upd J3 D2 (.lst (ys++[.ref p3]))):=a5g g4 (λb o hb e=>by rw[a0p hb];exact e) qz;exact k _ _ g4 ⟨a1f (g1.trans t4) hD2,a0c,by rw[take_succ' hi2,Zi,h0];exact((g3.pr (.same t4)).append (.cons (b2h (SqT.of kp3) (h5.mono t4) (sp3 _ _ kp2) nn) .nil)).pr pu⟩
 obtain⟨s11,g4,g5⟩:=hP;rw[Yb qo]at g5;ext;refine⟨ln (by show 2<=100000;decide),λkp hkp=>?_⟩;have skp:Same H11 (upd H11 kp (.lst [.ref p1,.ref D2])):=a0e hkp _;have kkp:(upd H11 kp (.lst [.ref p1,.ref D2])) kp=some (.lst [.ref p1,.ref D2]):=a0c;generalize upd H11 kp (.lst [.ref p1,.ref D2])=H12 at skp kkp ⊢;ext;have t12:=t2.trans (s11.trans skp);have kp12:=(s11.trans skp) _ _ kp1;have kD12:=skp _ _ g4;have dD12:=(g5.pr (.same (M:=[D2]) skp)).dx;have e1':=t12 _ _ e1;have e2':=t12 _ _ e2;have R12:=R8.same t12;have dr12:=(d1.mono t12).dx;have dw12:=(d2.pr (.same (M:=[ru,rq,st]) t12)).dx;have hdp:=dp_both hr2 hw2;clear s1 s2 s9 t1 t2 s11 g4 g5 kp1;refine⟨2,rfl,qo,qo,?_⟩;refine a3s (a1o 0 (2:Int).toNat) (λi σ' J=>∃(o1 o2:Option V),σ'=[some (.ref a),some (.ref np),some (.ref wp),some (.ref st),some (.ref ru),some (.ref rq),some (.bl (a7l rs2 ws2)),some (.ref kp),o1,o2]/\Same H12 J) ⟨none,none,rfl,Same.refl _⟩ (λ_ _ _ _=>trivial) (λi σ' J hi hP=>?_) (λσ' J hP=>?_)
 ·obtain⟨o1,o2,rfl,sJ⟩:=hP;ext;refine⟨rs2,ws2,wd,R12.same sJ,λJ1 s1=>?_⟩;have z1:=sJ.trans s1;have ed:(decide (0<ws2.length)&&a7l rs2 ws2)=a7l rs2 ws2:=by rw[Zt qo,Yr]
  rw[ed];ext;refine mIsi_b ?_;ext;refine iteF ?_;ext;rw[Zt rfl];refine iteF ?_;ext;refine⟨ln (by show 2<=100000;decide),λp4 hp4=>?_⟩;have sp4:Same J1 (upd J1 p4 (.lst [.ref ru,.ref rq])):=a0e hp4 _;have kp4:(upd J1 p4 (.lst [.ref ru,.ref rq])) p4=some (.lst [.ref ru,.ref rq]):=a0c;generalize upd J1 p4 (.lst [.ref ru,.ref rq])=J2 at sp4 kp4 ⊢;ext;have z2:=z1.trans sp4;have w1:DxL K J2 [.ref ru,.ref rq] [.list (rs2.map ruE),.list (ws2.map Ro.data)]:=.cons (.lst (SqL.of (z2 _ _ e1')) (dr12.mono z2)) (.cons (.lst (SqL.of (z2 _ _ e2')) (dw12.mono z2)) .nil);have w2:DxL K J2 [.ref p1,.ref D2] [.list (rs2.map ruE),.list (ws2.map Ro.data)]:=.cons (.lst (SqL.of (z2 _ _ kp12)) (dr12.mono z2)) (.cons (.lst (SqL.of (z2 _ _ kD12)) (dD12.mono z2)) .nil);refine⟨p4,kp,_,_,_,rfl,rfl,.inr ⟨SqL.of kp4,SqL.of (z2 _ _ kkp)⟩,w1,w2,hdp,?_⟩;ext;refine iteF ?_;ext;refine⟨ln (by show 0<=100000;decide),λp5 hp5=>?_⟩;have sp5:Same J2 (upd J2 p5 (.lst [])):=a0e hp5 _;have kp5:(upd J2 p5 (.lst [])) p5=some (.lst []):=a0c;generalize upd J2 p5 (.lst [])=J3 at sp5 kp5 ⊢;ext;have z3:=z2.trans sp5;have R3:=R12.same z3;refine⟨rs2,[],wd,⟨R3.r,⟨[],kp5,.nil⟩,hr2,λx hx=>by simp at hx,wo,l1,Yc _⟩,λJ4 s4=>?_⟩;ext;refine⟨_,_,rfl,rfl,?_⟩;ext;refine iteF ?_;ext;exact⟨_,_,rfl,z3.trans s4⟩
 obtain⟨o1,o2,rfl,sJ⟩:=hP;ext;exact q _
end
section
variable{P:Program}{w:World}{K:W.Frag}{mg:Str->Option Value}{base:Heap}{t:Ad}
theorem b9g(T:Txt K mg t)(G_a0:FnOk P w K mg base CX0 1 t.a_a0 t.d_a0 ["_law_state"] (a2e))(G_a3:FnOk P w K mg base CX0 72 t.a_a3 t.d_a3 ["_law_term_here","_law_state","_law_names_here","_law_words_here"] (a3d K 70))(G_c8:FnOk P w K mg base CX0 83 t.a_c8 t.d_c8 ["_law_rules","_law_turn"] (a7z K))(G_a6:FnOk P w K mg base CX0 3 t.a_a6 t.d_a6 ["_law_names_here","_law_words_here","_law_state"] (a6x K)):FnOk P w K mg base CX0 84 t.a_c6 t.d_c6 ["_law_rules","_law_rows","_law_way","_law_names_here","_law_words_here","_law_state"] (a8a K):=by
 exists T.F_c6.ok a1p,a8a,(a0f (a0s (i:=6) (hs:=a3h) a1p.nd rfl (by nofun) (a0k a0w (a0q G_a0 hr.o rfl T.m_a0 T.F_a0.kp T.b_a0 .nil a0v (a0a (mv 5) a0d)) (a0m (a0x K rfl) rfl T.n_a2 Zg (a0a (mv 1) a0d)))) (a0f (a3q (a2x (b0s K rfl) (a0h (a0g K rfl) (mv 1) (mv 6) (λ_ _=>rfl)) (a3m a0b) a3l) (b2a K rfl rfl (a3y (a1w (i:=7) a1p.nd rfl (by nofun)) (a3y (a1w (i:=8) a1p.nd rfl (by nofun)) (a3y (a1w (i:=9) a1p.nd rfl (by nofun)) b1n))))) (a0f (a0s (i:=10) (hs:=a1e) a1p.nd rfl (by nofun) (a0q G_a0 hr.o rfl T.m_a0 T.F_a0.kp T.b_a0 .nil a0v (a0a (mv 5) a0d))) (a0f (a0y (a0o a1b (mv 2) a0b (a0l _)) (a0i (a0s (i:=8) (hs:=a3h) a1p.nd rfl (by nofun) (a0k a2p (a0k a0w (mv 10) (a0k (a1k K rfl) (a0m (a0x K rfl) rfl T.n_a2 Zg (a0a (mv 0) a0d)) a0b)) a0b))) a0u) (a0f (a0y (a0o a1b (mv 2) a0b (a0l _)) (a0i (a0s (i:=9) (hs:=a4j) a1p.nd rfl (by nofun) (a0h (a0g K rfl) (a1i (a0a (a2x (a5x K rfl) (mv 9) (a3m a0b) a3l) (a0a (a0k (a1k K rfl) (mv 9) (a2x (a5x K rfl) (mv 9) a3l (a3m a0b))) (a0a (a2n rfl (a1n rfl T.n_d9 (a0a (a0m (a0x K rfl) rfl T.n_a2 Zg (a0a (mv 9) a0d)) a0d)) (a1u (a0n a6p) ["_law_rules","_law_rows","_law_way","_law_names_here","_law_words_here","_law_state","_law_at","_law_goal_here","_law_number_here","_law_kids","_law_turn","_law_k","_law_head","_law_goals"] ["_law_rules","_law_rows","_law_way","_law_names_here","_law_words_here","_law_state","_law_at","_law_goal_here","_law_number_here","_law_kids","_law_turn","%_law_k","_law_head","_law_goals"] rfl rfl qk) (λ_ _ _ _ _=>a1y) (λ_ _ _ _ _=>(a0h (a0g K rfl) (mv 10) (a0k a2p (a0k a2p (a0m (a0x K rfl) rfl T.n_a2 Zg (a0a (mv 10) a0d)) a0b) (mv 0)) (λ_ _=>rfl)))) a0d)))) (a0k a0w (mv 10) a0b) (λ_ _=>rfl)))) a0u) (a0f (a0y (PW.pt (a3p (a0o a1b (mv 2) a0b (a0l _)) (a4l (a0o a5h (a0m (a0x K rfl) rfl T.n_a2 Zg (a0a (mv 9) a0d)) a0b (a0l _))))) (a0f (a0s (i:=9) (hs:=a1e) a1p.nd rfl (by nofun) (a1g (a5y K rfl) rfl T.n_e1 W7 (a0a (mv 9) a0d))) (a0i (a3q (a0k a2p (a0k a0w (a0k a1j (mv 10) a0b) (a0k (a1k K rfl) (a0m (a0x K rfl) rfl T.n_a2 Zg (a0a (mv 1) a0d)) a0b)) a0b) (a4n (mv 9) (a0k a0w (mv 10) (a0m (a0x K rfl) rfl T.n_a2 Zg (a0a (mv 9) a0d))) a3g)))) a0u) (a0f (a0y (a0o a1b (mv 2) a0b (a0l _)) (a0i (a0s (i:=7) (hs:=a1e) a1p.nd rfl (by nofun) (a0q G_a3 hr.o rfl T.m_a3 T.F_a3.kp T.b_a3 .nil a0v (a0a (mv 7) (a0a (mv 5) (a0a (mv 3) (a0a (mv 4) a0d))))))) a0u) (a0f (a3q (a1d (a0a a0r (a0a (mv 7) (a0a (mv 8) (a0a (mv 9) a0d))))) (a4n (mv 1) (mv 6) a3g)) (a0f (a0y (a0o a1b (mv 2) a0b (a0l _)) (a0f (a0s (i:=11) (hs:=a3h) a1p.nd rfl (by nofun) (a0k a0w (mv 10) (a0m (a0x K rfl) rfl T.n_a2 Zg (a0a (mv 0) a0d)))) (a0f (a0s (i:=12) (hs:=a4j) a1p.nd rfl (by nofun) (a0h (a0g K rfl) (a0h (a0g K rfl) (mv 0) (mv 11) (λ_ _=>rfl)) a0b (λ_ _=>rfl))) (a0f (a0s (i:=13) (hs:=a1e) a1p.nd rfl (by nofun) (a1g (a5y K rfl) rfl T.n_e1 W7 (a0a (a0h (a0g K rfl) (a0h (a0g K rfl) (mv 0) (mv 11) (λ_ _=>rfl)) a0b (λ_ _=>rfl)) a0d))) (a0f (a0y (PW.pt (a3p (a0o a5h (a0m (a0x K rfl) rfl T.n_a2 Zg (a0a (mv 13) a0d)) a0b (a0l _)) (a4l (a0o a1b (a0k a0w (a0k a1j (mv 10) a0b) a0b) a0b (a0l _))))) (a0i (a3q (a0q G_a3 hr.o rfl T.m_a3 T.F_a3.kp T.b_a3 .nil a0v (a0a (a0h (a0g K rfl) (mv 13) a0b (λ_ _=>rfl)) (a0a (mv 5) (a0a (mv 3) (a0a (mv 4) a0d))))) (a4n (mv 13) a0b a3g))) (a0i (a0s (i:=12) (hs:=a1e) a1p.nd rfl (by nofun) (a0q G_a3 hr.o rfl T.m_a3 T.F_a3.kp T.b_a3 .nil a0v (a0a (mv 12) (a0a (mv 5) (a0a (mv 3) (a0a (mv 4) a0d)))))))) (a0i (a3q (a1d (a0a (mv 12) (a0a (a1g (a4c K rfl) rfl T.n_e2 W5 (a0a (mv 13) a0d)) a0d))) (a4n (mv 0) (mv 11) a3g))))))) a0u) (a0f (a0y (a0o a1b (mv 2) a0b (a0l _)) (a0i (a2f (a0q G_c8 hr.o rfl T.m_c8 T.F_c8.kp T.b_c8 .nil a0v (a0a (mv 0) (a0a (mv 10) a0d))))) a0u) (a0f (a0y (a0o a1b (mv 2) a0b (a0l _)) (a0f (a2f (a4a K rfl Z9 Yq Yy a2t (mv 0) (a0a (a1d (a0a (a0h (a0g K rfl) (a0h (a0g K rfl) (mv 1) a0b (λ_ _=>rfl)) a0b (λ_ _=>rfl)) (a0a (a1d (a0a (a0h (a0g K rfl) (a0h (a0g K rfl) (mv 1) a0b (λ_ _=>rfl)) a0b (λ_ _=>rfl)) a0d)) a0d))) a0d))) (a0i (a3q (a1d (a0a a0r (a0a (a0h (a0g K rfl) (a0h (a0g K rfl) (mv 1) a0b (λ_ _=>rfl)) a0b (λ_ _=>rfl)) (a0a (a0m (a0x K rfl) rfl T.n_a2 Zg (a0a (mv 0) a0d)) (a0a (a1i (a0a (a0h (a0g K rfl) (a1i (a0a a0b (a0a (pe_un b7q (a0m (a0x K rfl) rfl T.n_a2 Zg (a0a (mv 1) a0d))) a0d))) (a0k a0w (mv 10) a0b) (λ_ _=>rfl)) a0d)) a0d))))) (a4n (mv 1) a0b a3g)))) a0u) (a0i (a0y (PW.pt (a3p (a0o a1b (mv 2) a0b (a0l _)) (a4l (a0o a1b (a0k a0w (mv 10) a0b) a0b (a0l _))))) (a0i (a2f (a4a K rfl Z9 Yq Yy a2t (mv 1) (a0a (a1d (a0a a0r (a0a (a0q G_a6 hr.o rfl T.m_a6 T.F_a6.kp T.b_a6 .nil a0v (a0a (mv 3) (a0a (mv 4) (a0a (mv 5) a0d)))) (a0a (a0k a0w (a0k a1j (mv 10) a0b) (a0k (a1k K rfl) (a0m (a0x K rfl) rfl T.n_a2 Zg (a0a (mv 0) a0d)) a0b)) (a0a (a1i a0d) a0d))))) a0d)))) a0u))))))))))))),H,Q,E,hr,h
 rename_i ru rq way np wp st;obtain⟨rs,ws,xs,wd,S,N,hr,hw,hw4,l1,l2,l3,l4,q⟩:=h;have X0:Sp7 K H ru rq st np wp xs wd H rs ws:=⟨S,.refl,N,hr,hw,l1,l2,qo,qo⟩;ext;obtain⟨i0,hi0⟩:=X0.s.s;refine⟨i0,hi0,λt1 j1=>?_⟩;have X1:=X0.turn (J':=upd H st (.lst [.int j1])) a3i a0c;generalize upd H st (.lst [.int j1])=J1 at X1 ⊢;ext;obtain⟨uw,w1,hwl,w2⟩:=X1.wl
 exists a1c (SqL.of w1)
 exists m2_i (show(0:Int)<_ from by omega)
 obtain⟨k0,hk0,he0⟩:=modN (n:=uw.length) qo t1;rw[he0];have hk0:k0<ws.length:=by omega
 obtain⟨a,gv,kp,f3,f4,f5,f6,f7⟩:=b2k w2 hk0;have hwk:=hw _ (Zw hk0);have hw4k:=hw4 _ (Zw hk0);generalize ws[k0]=r0 at f4 f5 f6 hwk hw4k
 exists a1a (SqL.of w1) (a1r qo f3)
 refine⟨a,_,rfl,f4,λw=>(whole3 w).elim,λ_ p1 hp1=>?_⟩;rw[cut3];have s1:=a0e hp1 (.tup [gv,.int r0.n,.ref kp]);have kp1:(upd J1 p1 (.tup [gv,.int r0.n,.ref kp])) p1=some (.tup [gv,.int r0.n,.ref kp]):=a0c;generalize upd J1 p1 (.tup [gv,.int r0.n,.ref kp])=J2 at s1 kp1 ⊢;refine b4k (SqT.of kp1) rfl ?_
 replace X1:=X1.same s1
 replace f5:=f5.mono s1
 replace f6:=s1 _ _ f6
 ext;obtain⟨i3,hi3⟩:=X1.s.s;refine⟨i3,hi3,λt2 j3=>?_⟩;have b3:But st J2 (upd J2 st (.lst [.int j3])):=a3i;have X2:=X1.turn (J':=upd J2 st (.lst [.int j3])) b3 a0c;have dg:=f5.monoT (My.But.kt b3 hi3);have hkp:=b3 _ _ (λz=>f7 (by rw[z];simp)) f6;have gg:=hwk.g;generalize upd J2 st (.lst [.int j3])=J3 at X2 dg hkp ⊢
 (with_reducible refine a7j ?_)
 (with_reducible refine a2y (λσ' J4=>∃(gv:V)(gl:Trm)(num:Int)(kp:Addr)(kids:List Int),σ'=[some (.ref ru),some (.ref rq),some (.int way),some (.ref np),some (.ref wp),some (.ref st),some (.int (k0:Int)),some gv,some (.int num),some (.ref kp),some (.int t2),none,none,none]/\Sp7 K H ru rq st np wp xs wd J4 rs ws/\Den K J4 gv gl.data/\GlOk wd gl/\J4 kp=some (.lst (kids.map V.int))/\kp∉[ru,rq,st]/\kids.length<=4) (λσ' J4 hP=>?_) (λkk=>?_))
 rotate_left
 ·ext
  exists e
  rotate_left
  ·ext;exact kk _ _ ⟨gv,r0.goal,r0.n,kp,r0.kids,rfl,X2,dg,gg,hkp,f7,hw4k⟩
  ext;obtain⟨ur,r1,hrl,r2⟩:=X2.ul
  exists a1c (SqL.of r1)
  exists m2_i (show(0:Int)<_ from by omega)
  exact kk _ _ ⟨gv,r0.goal,_,kp,r0.kids,rfl,X2,dg,gg,hkp,f7,hw4k⟩
 clear X2 dg hkp gg;obtain⟨gv,gl,num,kp,kids,rfl,X2,dg,gg,hkp,nk,lk⟩:=hP
 (with_reducible refine a2y (λσ' J5=>∃(gv:V)(gl:Trm)(num:Int)(kp:Addr)(kids:List Int),σ'=[some (.ref ru),some (.ref rq),some (.int way),some (.ref np),some (.ref wp),some (.ref st),some (.int (k0:Int)),some gv,some (.int num),some (.ref kp),some (.int t2),none,none,none]/\Sp7 K H ru rq st np wp xs wd J5 rs ws/\Den K J5 gv gl.data/\GlOk wd gl/\J5 kp=some (.lst (kids.map V.int))/\kp∉[ru,rq,st]/\kids.length<=5) (λσ' J5 hP=>?_) (λkk=>?_))
 rotate_left
 ·ext
  exists e
  rotate_left
  ·ext;exact kk _ _ ⟨gv,gl,num,kp,kids,rfl,X2,dg,gg,hkp,nk,qo⟩
  ext;have sJ4:Same J4 J4:=Same.refl _;have ck:kids.length<=100000:=by omega
  refine a8y (SqL.of hkp) (λp1 hp1=>?_);rw[a6e _ 1 qo,<-List.map_drop,show(1:Int).toNat=1 from rfl];have sp1:Same J4 (upd J4 p1 (.lst ((kids.drop 1).map V.int))):=a0e hp1 _;have kp1:(upd J4 p1 (.lst ((kids.drop 1).map V.int))) p1=some (.lst ((kids.drop 1).map V.int)):=a0c;generalize upd J4 p1 (.lst ((kids.drop 1).map V.int))=J5 at sp1 kp1 ⊢;have zJ5:=sJ4.trans sp1;ext;refine a8y (SqL.of (zJ5 _ _ hkp)) (λp2 hp2=>?_);rw[b8t _ 1 qo,<-List.map_take,show(1:Int).toNat=1 from rfl];have sp2:Same J5 (upd J5 p2 (.lst ((kids.take 1).map V.int))):=a0e hp2 _;have kp2:(upd J5 p2 (.lst ((kids.take 1).map V.int))) p2=some (.lst ((kids.take 1).map V.int)):=a0c;generalize upd J5 p2 (.lst ((kids.take 1).map V.int))=J6 at sp2 kp2 ⊢;have zJ6:=zJ5.trans sp2;ext;refine a7r (zJ6 _ _ hkp) kp2 (ln (by rw[length_map,length_map,Z7];omega)) (λp3 hp3=>?_);rw[<-Zi];have sp3:Same J6 (upd J6 p3 (.lst ((kids++kids.take 1).map V.int))):=a0e hp3 _;have kp3:(upd J6 p3 (.lst ((kids++kids.take 1).map V.int))) p3=some (.lst ((kids++kids.take 1).map V.int)):=a0c;generalize upd J6 p3 (.lst ((kids++kids.take 1).map V.int))=J7 at sp3 kp3 ⊢;have zJ7:=zJ6.trans sp3;ext
  exists a1c (SqL.of (zJ7 _ _ hkp))
  rw[length_map];refine⟨_,rfl,qo,qo,λp4 hp4=>?_⟩;refine a1t (a1o 0 (kids.length:Int).toNat) (λi ys J=>Same J7 J/\J p4=some (.lst ys)/\∃zs:List Int,ys=zs.map V.int) (ln qo) ⟨a0e hp4 _,a0c,[],rfl⟩ (λ_ _ _ _=>trivial) (λi ys J Q' hi hl hP k=>?_) (λys J8 hl hP=>?_)
  ·obtain⟨g1,g2,zs,rfl⟩:=hP;ext
   exists a1c (SqL.of (g1 _ _ (zJ7 _ _ hkp)))
   rw[length_map];obtain⟨v,e1,e2⟩:=a2c (xs:=kids.map V.int) (i:=(kids.length:Int)-1-(0+(i:Int))) qo (by rw[length_map];omega);obtain⟨z,_,rfl⟩:=Z4.mp (a5m e1);refine a1a (SqL.of (g1 _ _ (zJ7 _ _ hkp))) e1 ?_;exact k _ _ g2 ⟨a1f g1 hp4,a0c,zs++[z],by rw[Zi];rfl⟩
  obtain⟨g1,g2,zs,rfl⟩:=hP;rw[length_map]at hl;have zJ8:=zJ7.trans g1;ext;refine⟨ln (by show 3<=100000;decide),λp5 hp5=>?_⟩;have sp5:Same J8 (upd J8 p5 (.lst [.ref p1,.ref p3,.ref p4])):=a0e hp5 _;have kp5:(upd J8 p5 (.lst [.ref p1,.ref p3,.ref p4])) p5=some (.lst [.ref p1,.ref p3,.ref p4]):=a0c;generalize upd J8 p5 (.lst [.ref p1,.ref p3,.ref p4])=J9 at sp5 kp5 ⊢;have zJ9:=zJ8.trans sp5;ext;have dg9:=dg.mono zJ9;have k19:=(sp2.trans (sp3.trans (g1.trans sp5))) _ _ kp1;have k39:=(g1.trans sp5) _ _ kp3;have k49:=sp5 _ _ g2;have m1:=X2.s.nM hp1;have m3:=X2.s.nM (a2j zJ6 hp3);have m4:=X2.s.nM (a2j zJ7 hp4);rcases(show t2%3=0\/t2%3=1\/t2%3=2 by omega)with e|e|e
  ·rw[e]
   exists a1a (SqL.of kp5) (v:=.ref p1) rfl
   exact kk _ _ ⟨gv,gl,num,p1,kids.drop 1,rfl,X2.same zJ9,dg9,gg,k19,m1,by rw[Xk];omega⟩
  ·rw[e]
   exists a1a (SqL.of kp5) (v:=.ref p3) rfl
   exact kk _ _ ⟨gv,gl,num,p3,kids++kids.take 1,rfl,X2.same zJ9,dg9,gg,k39,m3,by rw[Zf,Z7];omega⟩
  ·rw[e]
   exists a1a (SqL.of kp5) (v:=.ref p4) rfl
   exact kk _ _ ⟨gv,gl,num,p4,zs,rfl,X2.same zJ9,dg9,gg,k49,m4,qo⟩
 clear X2 dg hkp gg nk lk;obtain⟨gv,gl,num,kp,kids,rfl,X2,dg,gg,hkp,nk,lk⟩:=hP
 (with_reducible refine a2y (λσ' J6=>∃(gv:V)(gl:Trm)(num:Int)(kp:Addr)(kids:List Int),σ'=[some (.ref ru),some (.ref rq),some (.int way),some (.ref np),some (.ref wp),some (.ref st),some (.int (k0:Int)),some gv,some (.int num),some (.ref kp),some (.int t2),none,none,none]/\Sp7 K H ru rq st np wp xs wd J6 rs ws/\Den K J6 gv gl.data/\GlOk wd gl/\J6 kp=some (.lst (kids.map V.int))/\kp∉[ru,rq,st]/\kids.length<=5) (λσ' J6 hP=>?_) (λkk=>?_))
 rotate_left
 ·ext;refine a3v ?_ (λhF e=>?_)
  ·refine iteF ?_;ext;exact kk _ _ ⟨gv,gl,num,kp,kids,rfl,X2,dg,gg,hkp,nk,qo⟩
  ext
  exists a1c (SqL.of hkp)
  refine iteB (λe=>?_) (λe=>hF);rw[length_map]at e;have hk0':=Zr e;ext;have sJ5:Same J5 J5:=Same.refl _;refine b7t (SqL.of hkp) (λp1 hp1=>?_);have sp1:Same J5 (upd J5 p1 (.lst (kids.map V.int))):=a0e hp1 _;have kp1:(upd J5 p1 (.lst (kids.map V.int))) p1=some (.lst (kids.map V.int)):=a0c;generalize upd J5 p1 (.lst (kids.map V.int))=J6 at sp1 kp1 ⊢;have zJ6:=sJ5.trans sp1;ext;obtain⟨uw2,w21,hwl2,w22⟩:=X2.wl
  exists a1c (SqL.of (sp1 _ _ w21))
  exists m2_i (show(0:Int)<_ from by omega)
  exists a1c (SqL.of kp1)
  refine m2_i (show(0:Int)<_ from by rw[length_map];omega) ?_;obtain⟨k1,hk1,he1⟩:=modN (n:=(kids.map V.int).length) (by rw[length_map];omega) t2;rw[he1];refine⟨p1,_,_,k1,rfl,rfl,kp1,a8c hk1,?_⟩;rw[<-Wn (f:=V.int)];have s2:Same J5 (upd J6 p1 (.lst ((kids.set k1 (t2/7%((uw2.length:Int)+2)-1)).map V.int))):=a1f sp1 hp1;have kk2:(upd J6 p1 (.lst ((kids.set k1 (t2/7%((uw2.length:Int)+2)-1)).map V.int))) p1=some (.lst ((kids.set k1 (t2/7%((uw2.length:Int)+2)-1)).map V.int)):=a0c;generalize upd J6 p1 (.lst ((kids.set k1 (t2/7%((uw2.length:Int)+2)-1)).map V.int))=J7 at s2 kk2 ⊢;ext;exact kk _ _ ⟨gv,gl,num,p1,_,rfl,X2.same s2,dg.mono s2,gg,kk2,X2.s.nM hp1,by rw[Yo];exact lk⟩
 clear X2 dg hkp gg nk lk;obtain⟨gv,gl,num,kp,kids,rfl,X2,dg,gg,hkp,nk,lk⟩:=hP
 (with_reducible refine a2y (λσ' J7=>∃(gv:V)(gl:Trm)(num:Int)(kp:Addr)(kids:List Int),σ'=[some (.ref ru),some (.ref rq),some (.int way),some (.ref np),some (.ref wp),some (.ref st),some (.int (k0:Int)),some gv,some (.int num),some (.ref kp),some (.int t2),none,none,none]/\Sp7 K H ru rq st np wp xs wd J7 rs ws/\Den K J7 gv gl.data/\GlOk wd gl/\J7 kp=some (.lst (kids.map V.int))/\kp∉[ru,rq,st]/\kids.length<=5) (λσ' J7 hP=>?_) (λkk=>?_))
 rotate_left
 ·ext
  exists e
  rotate_left
  ·ext;exact kk _ _ ⟨gv,gl,num,kp,kids,rfl,X2,dg,gg,hkp,nk,qo⟩
  ext;obtain⟨i6,hi6⟩:=X2.s.s;obtain⟨s0,ks0,e0,_,hz0⟩:=id gg;refine⟨gl,xs,wd,i6,dg,hi6,SqL.of X2.n.n,X2.n.n9,SqL.of X2.n.w,X2.n.wo.l,qo,qo,λx t' j7 J7 b7 k7 dx oth=>?_⟩;ext;exact kk _ _ ⟨x,t',num,kp,kids,rfl,X2.turn b7 k7,dx,oth.gl gg,b7 _ _ (λz=>nk (by rw[z];simp)) hkp,nk,lk⟩
 clear X2 dg hkp gg nk lk;obtain⟨gv,gl,num,kp,kids,rfl,X2,dg,gg,hkp,nk,lk⟩:=hP;ext;refine⟨ln (by show 4<=100000;decide),λp1 hp1=>?_⟩;have sp1:Same J7 (upd J7 p1 (.tup [.str "yes",gv,.int num,.ref kp])):=a0e hp1 _;have kp1:(upd J7 p1 (.tup [.str "yes",gv,.int num,.ref kp])) p1=some (.tup [.str "yes",gv,.int num,.ref kp]):=a0c;generalize upd J7 p1 (.tup [.str "yes",gv,.int num,.ref kp])=J8 at sp1 kp1 ⊢;ext;have X3:=X2.same sp1;obtain⟨uw3,w31,hwl3,w32⟩:=X3.wl;refine⟨rq,uw3,(k0:Int),k0,rfl,rfl,w31,a8c qo,?_⟩;have dw:Dm K J8 [ru,rq,st] (.ref p1) (Ro.data ⟨gl,num,kids⟩):=b2h (SqT.of kp1) (dg.mono sp1) (sp1 _ _ hkp) nk
 have X4:=X3.setW (us:=uw3.set k0 (.ref p1)) (ws':=ws.set k0 ⟨gl,num,kids⟩) (by rw[Wn];exact DmL.set dw k0 w32) (λx hx=>by
  rcases a9e hx with z|z
  ·exact X3.w x z
  ·rw[z];exact⟨gg,by show kids.length<=10;omega⟩) (by rw[Yo];exact l2) (by rw[Yo];omega)
 have hw0:(ws.set k0 ⟨gl,num,kids⟩).length<=70:=by rw[Yo];exact l4
 generalize ws.set k0 ⟨gl,num,kids⟩=ws1 at X4 hw0;generalize upd J8 rq (.lst (uw3.set k0 (.ref p1)))=J9 at X4 ⊢;clear X3 dw w31 w32 dg hkp X2
 (with_reducible refine a2y (λσ' JA=>∃(o7 o8 o9 o11 o12 o13:Option V)(rs1:List (Trm×List Trm))(ws1:List Ro),σ'=[some (.ref ru),some (.ref rq),some (.int way),some (.ref np),some (.ref wp),some (.ref st),some (.int (k0:Int)),o7,o8,o9,some (.int t2),o11,o12,o13]/\Sp7 K H ru rq st np wp xs wd JA rs1 ws1/\rs1.length<=70/\ws1.length<=70) (λσ' JA hP=>?_) (λkk=>?_))
 rotate_left
 ·ext
  exists e
  rotate_left
  ·ext;exact kk _ _ ⟨_,_,_,_,_,_,_,_,rfl,X4,qo,qo⟩
  ext;obtain⟨ur,r1,hrl,r2⟩:=X4.ul
  exists a1c (SqL.of r1)
  exists m2_i (show(0:Int)<_ from by omega)
  obtain⟨k1,hk1,he1⟩:=modN (n:=ur.length) qo t2;rw[he1];have hk1':k1<rs.length:=by omega
  obtain⟨u,a1,hv,gp,ug,g1,rfl,g3,g4,g5,g6⟩:=b5m r2 hk1';have hru:=X4.r _ (Zw hk1');have hgl:=a2b g6;generalize rs[k1]=x at g4 g6 hru hgl;have hll:=hru.l
  exists a1a (SqL.of r1) (a1r qo g1)
  exists a0j g3 (v:=hv) rfl
  exists a1a (SqL.of r1) (a1r qo g1)
  refine a0j g3 (v:=.ref gp) rfl ?_;refine⟨gp,ug,rfl,.inr g5,λD hD=>?_⟩;have sD:=a0e hD (.lst ug);have kD:(upd J9 D (.lst ug)) D=some (.lst ug):=a0c;generalize upd J9 D (.lst ug)=B1 at sD kD ⊢;obtain⟨i9,hi9⟩:=X4.s.s;have nD:D≠st:=λz=>by rw[z,hi9]at hD;cases hD
  have NM:∀{J:Hp},But st J9 J->SqL K J np (xs.map V.str)/\SqL K J wp (wd.map V.str):=λb=>⟨My.But.strs b hi9 (SqL.of X4.n.n),My.But.strs b hi9 (SqL.of X4.n.w)⟩
  have b1:But st J9 B1:=sD.but;have e1:=sD _ _ hi9;have gh:=g4.mono sD;have gg':=g6.mono sD
  (with_reducible refine a7j ?_)
  (with_reducible refine a2y (λσ' B2=>∃(hv2:V)(h2:Trm)(ug2:List V)(gs2:List Trm)(j:Int),σ'=[some (.ref ru),some (.ref rq),some (.int way),some (.ref np),some (.ref wp),some (.ref st),some (.int (k0:Int)),some gv,some (.int num),some (.ref kp),some (.int t2),some (.int (k1:Int)),some hv2,some (.ref D)]/\But st J9 B2/\B2 st=some (.lst [.int j])/\B2 D=some (.lst ug2)/\Den K B2 hv2 h2.data/\DenL K B2 ug2 (Trm.dataL gs2)/\RuG (h2,gs2)) (λσ' B2 hP=>?_) (λk3=>?_))
  rotate_left
  ·ext;have ELSE:∀{Q':Prop},Q'->Q':=λh=>h
   exists a1c (SqL.of kD)
   obtain⟨m1,m2⟩:=NM b1;obtain⟨sh,kh,eh⟩:=hru.ap;refine a3v ?_ (λhF e=>?_)
   ·refine iteF ?_;ext;refine⟨x.1,xs,wd,i9,gh,e1,m1,X4.n.n9,m2,X4.n.wo.l,by have:=hru.z1;omega,qo,λy t' j B3 b3 c3 dy oth=>?_⟩;ext;obtain⟨s',ks',et,_⟩:=oth.2 _ _ eh;exact k3 _ _ ⟨y,t',ug,x.2,j,rfl,b1.trans b3,c3,b3 _ _ nD kD,dy,gg'.monoT (My.But.kt b3 e1),⟨⟨_,_,et⟩,Yk oth.1 hru.z1,hru.z2,hru.l⟩⟩
   have hlg:=Zr e;have hlg:0<ug.length:=by omega
   ext;refine iteB (λe=>?_) (λe=>hF);ext;obtain⟨u0,v1,v2,v3⟩:=a8b gg' (i:=0) qo;have hz0:=hru.z2 _ (Zw (l:=x.2) (n:=0) qo)
   exists a1a (SqL.of kD) (a1r (V0 _) v1)
   refine⟨_,xs,wd,i9,v3,e1,m1,X4.n.n9,m2,X4.n.wo.l,qo,qo,λy t' j B3 b3 c3 dy oth=>?_⟩;ext;have kD3:=b3 _ _ nD kD;refine⟨D,ug,0,0,rfl,rfl,kD3,a8c hlg,?_⟩;ext;refine k3 _ _ ⟨hv,x.1,ug.set 0 y,x.2.set 0 t',j,rfl,b5n (b1.trans b3) hD,by rw[a0p nD.symm];exact c3,a0c,(gh.monoT (My.But.kt b3 e1)).lst kD3,?_,⟨hru.ap,hru.z1,λg hg=>?_,by show(x.2.set 0 t').length<=2;rw[Yo];exact hru.l⟩⟩
   ·rw[<-b6l];exact(a6h dy 0 (gg'.monoT (My.But.kt b3 e1))).lst kD3
   ·rcases a9e hg with z|z
    ·exact hru.z2 g z
    ·rw[z];have:=oth.1;omega
  obtain⟨hv2,h2,ug2,gs2,j,rfl,b2,c2,kD2,dh2,dg2,rg2⟩:=hP;have X5:=X4.turn b2 c2;ext;refine a5p (SqL.of kD2) (λp1 hp1=>?_);have s1:=a0e hp1 (.tup ug2);have kp1:(upd B2 p1 (.tup ug2)) p1=some (.tup ug2):=a0c;generalize upd B2 p1 (.tup ug2)=B3 at s1 kp1 ⊢;ext;refine⟨ln (by show 2<=100000;decide),λp2 hp2=>?_⟩;have sp2:Same B3 (upd B3 p2 (.tup [hv2,.ref p1])):=a0e hp2 _;have kp2:(upd B3 p2 (.tup [hv2,.ref p1])) p2=some (.tup [hv2,.ref p1]):=a0c;generalize upd B3 p2 (.tup [hv2,.ref p1])=B4 at sp2 kp2 ⊢;ext;have X6:=X5.same (s1.trans sp2);obtain⟨ur6,r61,hrl6,r62⟩:=X6.ul;refine⟨ru,ur6,(k1:Int),k1,rfl,rfl,r61,a8c qo,?_⟩;have dr:=b4x (x:=(h2,gs2)) (SqT.of kp2) (dh2.mono (s1.trans sp2)) (SqT.of (sp2 _ _ kp1)) (dg2.mono (s1.trans sp2))
  have X7:=X6.setR (us:=ur6.set k1 (.ref p2)) (rs':=rs.set k1 (h2,gs2)) (by rw[Wn];exact a6h dr k1 r62) (λy hy=>by
   rcases a9e hy with z|z
   ·exact X6.r y z
   ·rw[z];exact rg2) (by rw[Yo];exact l1) (by rw[Yo];omega)
  generalize upd B4 ru (.lst (ur6.set k1 (.ref p2)))=B5 at X7 ⊢;ext;exact kk _ _ ⟨_,_,_,_,_,_,_,_,rfl,X7,by rw[Yo];exact l3,hw0⟩
 clear X4 hw0;obtain⟨o7,o8,o9,o11,o12,o13,rs1,ws1,rfl,X4,hr0,hw0⟩:=hP
 (with_reducible refine a2y (λσ' JB=>∃(o7 o8 o9 o11 o12 o13:Option V)(rs1:List (Trm×List Trm))(ws1:List Ro),σ'=[some (.ref ru),some (.ref rq),some (.int way),some (.ref np),some (.ref wp),some (.ref st),some (.int (k0:Int)),o7,o8,o9,some (.int t2),o11,o12,o13]/\Sp7 K H ru rq st np wp xs wd JB rs1 ws1/\rs1.length<=70/\ws1.length<=70) (λσ' JB hP=>?_) (λkk=>?_))
 rotate_left
 ·ext
  exists e
  rotate_left
  ·ext;exact kk _ _ ⟨_,_,_,_,_,_,_,_,rfl,X4,qo,qo⟩
  ext;obtain⟨ur,r1,hrl,r2⟩:=X4.ul;refine⟨ur,rs1,r1,r2,X4.r,qo,λus' rs' H' b' k' d' g' e'=>?_⟩;have X7:=X4.butR b' k' d' g' (by have:=X4.a1;omega) qo;ext;exact kk _ _ ⟨_,_,_,_,_,_,_,_,rfl,X7,qo,hw0⟩
 clear X4 hr0 hw0;obtain⟨o7,o8,o9,o11,o12,o13,rs1,ws1,rfl,X4,hr0,hw0⟩:=hP
 (with_reducible refine a2y (λσ' JC=>∃(o7 o8 o9 o11 o12 o13:Option V)(rs1:List (Trm×List Trm))(ws1:List Ro),σ'=[some (.ref ru),some (.ref rq),some (.int way),some (.ref np),some (.ref wp),some (.ref st),some (.int (k0:Int)),o7,o8,o9,some (.int t2),o11,o12,o13]/\Sp7 K H ru rq st np wp xs wd JC rs1 ws1/\rs1.length<=71/\ws1.length<=71) (λσ' JC hP=>?_) (λkk=>?_))
 rotate_left
 ·ext
  exists e
  rotate_left
  ·ext;exact kk _ _ ⟨_,_,_,_,_,_,_,_,rfl,X4,qo,qo⟩
  ext;obtain⟨ur,r1,hrl,r2⟩:=X4.ul;obtain⟨uw,w1,hwl,w2⟩:=X4.wl;have h00:0<ws1.length:=X4.a2;obtain⟨a,gv,kp,f3,f4,f5,f6,f7⟩:=b2k w2 h00;have hwk:=X4.w _ (Zw h00);have hap:∃s ks,(ws1[0]).goal=.app s ks:=by obtain⟨s,ks,e,_⟩:=hwk.g;exact⟨s,ks,e⟩
  have hz25:(ws1[0]).goal.size<=25:=by obtain⟨_,_,_,_,z⟩:=hwk.g;exact z
  generalize ws1[0]=r0 at f4 f5 f6 hwk hap hz25;refine⟨.inl ⟨rfl,_,SqL.of r1⟩,?_⟩;ext
  exists a1a (SqL.of w1) (a1r (V0 _) f3)
  exists a0j f4 (v:=gv) rfl
  exists a1a (SqL.of w1) (a1r (V0 _) f3)
  exists a0j f4 (v:=gv) rfl
  refine⟨ln (by show 1<=100000;decide),λp1 hp1=>?_⟩;have sp1:Same JB (upd JB p1 (.tup [gv])):=a0e hp1 _;have kp1:(upd JB p1 (.tup [gv])) p1=some (.tup [gv]):=a0c;generalize upd JB p1 (.tup [gv])=B1 at sp1 kp1 ⊢;ext;refine⟨ln (by show 2<=100000;decide),λp2 hp2=>?_⟩;have sp2:Same B1 (upd B1 p2 (.tup [gv,.ref p1])):=a0e hp2 _;have kp2:(upd B1 p2 (.tup [gv,.ref p1])) p2=some (.tup [gv,.ref p1]):=a0c;generalize upd B1 p2 (.tup [gv,.ref p1])=B2 at sp2 kp2 ⊢;ext;have s12:=sp1.trans sp2;refine a2u (s12 _ _ r1) (ln qo) ?_;have X5:=X4.same s12;have dr:=b4x (x:=(r0.goal,[r0.goal])) (SqT.of kp2) (f5.mono s12) (SqT.of (sp2 _ _ kp1)) (by simp only[Trm.dataL];exact .cons (f5.mono s12) .nil)
  have X6:=X5.setR (us:=ur++[.ref p2]) (rs':=rs1++[(r0.goal,[r0.goal])]) (by rw[Zi];exact(r2.mono s12).append (.cons dr .nil)) (λy hy=>by
   rcases Zx.mp hy with z|z
   ·exact X5.r y z
   ·rw[Zs.mp z];exact⟨hap,hz25,λg hg=>by rw[Zs.mp hg];exact hz25,by show 1<=2;omega⟩) (by rw[Zf];simp) (by rw[Zf,Zq];omega)
  generalize upd B2 ru (.lst (ur++[.ref p2]))=B3 at X6 ⊢;ext;clear f3 f4 f5 f6 w1 w2;obtain⟨uw,w1,hwl,w2⟩:=X6.wl;obtain⟨ur6,r61,hrl6,r62⟩:=X6.ul;obtain⟨a,gv,kp,f3,f4,f5,f6,f7⟩:=b2k w2 h00;have hwk:=X6.w _ (Zw h00);have hgo:=hwk.g;generalize ws1[0]=r1' at f4 f5 f6 hwk hgo
  exists a1a (SqL.of w1) (a1r (V0 _) f3)
  exists a0j f4 (v:=gv) rfl
  exists a1c (SqL.of r61)
  exists a1c (SqL.of w1)
  refine⟨ln (by show 2<=100000;decide),λp3 hp3=>?_⟩;have sp3:Same B3 (upd B3 p3 (.lst [.int 0,.int (-(uw.length:Int))])):=a0e hp3 _;have kp3:(upd B3 p3 (.lst [.int 0,.int (-(uw.length:Int))])) p3=some (.lst [.int 0,.int (-(uw.length:Int))]):=a0c;generalize upd B3 p3 (.lst [.int 0,.int (-(uw.length:Int))])=B4 at sp3 kp3 ⊢;ext;obtain⟨w,hw⟩:∃w,atI [V.int 0,V.int (-(uw.length:Int))] (t2%2)=some (.int w):=by
   rcases(show t2%2=0\/t2%2=1 by omega)with e|e
   ·rw[e];exact⟨_,rfl⟩
   ·rw[e];exact⟨_,rfl⟩
  exists a1a (SqL.of kp3) hw
  refine⟨ln (by show 1<=100000;decide),λp4 hp4=>?_⟩;have sp4:Same B4 (upd B4 p4 (.lst [.int w])):=a0e hp4 _;have kp4:(upd B4 p4 (.lst [.int w])) p4=some (.lst [.int w]):=a0c;generalize upd B4 p4 (.lst [.int w])=B5 at sp4 kp4 ⊢;ext;refine⟨ln (by show 4<=100000;decide),λp5 hp5=>?_⟩;have sp5:Same B5 (upd B5 p5 (.tup [.str "yes",gv,.int (ur6.length:Int),.ref p4])):=a0e hp5 _;have kp5:(upd B5 p5 (.tup [.str "yes",gv,.int (ur6.length:Int),.ref p4])) p5=some (.tup [.str "yes",gv,.int (ur6.length:Int),.ref p4]):=a0c;generalize upd B5 p5 (.tup [.str "yes",gv,.int (ur6.length:Int),.ref p4])=B6 at sp5 kp5 ⊢;ext;have s36:=sp3.trans (sp4.trans sp5);have X7:=X6.same s36;have h01:0<uw.length:=by omega
  refine⟨rq,uw,0,0,rfl,rfl,s36 _ _ w1,a8c h01,?_⟩;have dw:Dm K B6 [ru,rq,st] (.ref p5) (Ro.data ⟨r1'.goal,(ur6.length:Int),[w]⟩):=b2h (SqT.of kp5) (f5.mono s36) (sp5 _ _ kp4) (X6.s.nM (a2j sp3 hp4))
  have X8:=X7.setW (us:=uw.set 0 (.ref p5)) (ws':=ws1.set 0 ⟨r1'.goal,(ur6.length:Int),[w]⟩) (by rw[Wn];exact DmL.set dw 0 (w2.pr (.same s36))) (λx hx=>by
   rcases a9e hx with z|z
   ·exact X7.w x z
   ·rw[z];exact⟨hgo,by show 1<=10;omega⟩) (by rw[Yo];exact h00) (by rw[Yo];omega)
  generalize upd B6 rq (.lst (uw.set 0 (.ref p5)))=B7 at X8 ⊢;ext;exact kk _ _ ⟨_,_,_,_,_,_,_,_,rfl,X8,by rw[Zf,Zq];omega,by rw[Yo];omega⟩
 clear X4 hr0 hw0;obtain⟨o7,o8,o9,o11,o12,o13,rs1,ws1,rfl,X4,hr0,hw0⟩:=hP;have FIN:∀{J rs1 ws1},Sp7 K H ru rq st np wp xs wd J rs1 ws1->Q .non J:=λX=>q _ _ _ X.p X.s X.r X.w (by have:=X.b1;omega) (by have:=X.b2;omega) X.a2
 ext;refine a3v ?_ (λhF e=>?_)
 ·refine iteF ?_;ext;exact FIN X4
 ext;refine iteB (λe=>?_) (λe=>hF);ext;obtain⟨uw,w1,hwl,w2⟩:=X4.wl;refine⟨.inl ⟨rfl,_,SqL.of w1⟩,?_⟩;ext;obtain⟨i9,hi9⟩:=X4.s.s;refine⟨xs,wd,i9,SqL.of X4.n.n,X4.n.n9,SqL.of X4.n.w,X4.n.wo,hi9,λx t j B1 b1 c1 dx gl=>?_⟩;have X5:=X4.turn b1 c1;obtain⟨ur,r1,hrl,r2⟩:=X5.ul;ext
 exists a1c (SqL.of r1)
 exists m2_i (show(0:Int)<_ from by omega)
 refine⟨ln (by show 0<=100000;decide),λp1 hp1=>?_⟩;have sp1:Same B1 (upd B1 p1 (.lst [])):=a0e hp1 _;have kp1:(upd B1 p1 (.lst [])) p1=some (.lst []):=a0c;generalize upd B1 p1 (.lst [])=B2 at sp1 kp1 ⊢;ext;refine⟨ln (by show 4<=100000;decide),λp2 hp2=>?_⟩;have sp2:Same B2 (upd B2 p2 (.tup [.str "yes",x,.int (t2/3%((ur.length:Int)+1)),.ref p1])):=a0e hp2 _;have kp2:(upd B2 p2 (.tup [.str "yes",x,.int (t2/3%((ur.length:Int)+1)),.ref p1])) p2=some (.tup [.str "yes",x,.int (t2/3%((ur.length:Int)+1)),.ref p1]):=a0c;generalize upd B2 p2 (.tup [.str "yes",x,.int (t2/3%((ur.length:Int)+1)),.ref p1])=B3 at sp2 kp2 ⊢;ext;have X6:=X5.same (sp1.trans sp2);obtain⟨uw,w1,hwl,w2⟩:=X6.wl;refine a2u w1 (ln qo) ?_;have dw:Dm K B3 [ru,rq,st] (.ref p2) (Ro.data ⟨t,t2/3%((ur.length:Int)+1),[]⟩):=b2h (SqT.of kp2) (dx.mono (sp1.trans sp2)) (sp2 _ _ kp1) (X5.s.nM hp1)
 have s7:=X6.s.setW (us:=uw++[.ref p2]) (ws':=(ws1++[(⟨t,t2/3%((ur.length:Int)+1),[]⟩:Ro)]).map some) (by
  have e2:((ws1++[(⟨t,t2/3%((ur.length:Int)+1),[]⟩:Ro)]).map some).map oW=(ws1++[(⟨t,t2/3%((ur.length:Int)+1),[]⟩:Ro)]).map Ro.data:=by rw[Y6];rfl
  rw[e2,Zi]
  exact w2.append (.cons dw .nil))
 generalize upd B3 rq (.lst (uw++[.ref p2]))=B4 at s7 ⊢;ext;refine q rs1 _ _ (X6.p.trans s7.2) s7.1 X6.r (λy hy=>?_) (by have:=X6.b1;omega) (by rw[Zf,Zq];have:=X6.b2;omega) (by rw[Zf,Zq];omega);rcases Zx.mp hy with z|z
 ·exact X6.w y z
 ·rw[Zs.mp z];exact⟨gl.ok,Yc _⟩
end
section
variable{P:Program}{w:World}{K:W.Frag}{mg:Str->Option Value}{base:Heap}{t:Ad}
theorem c6a(T:Txt K mg t)(G_a5:FnOk P w K mg base CX0 62 t.a_a5 t.d_a5 ["_law_term_here","_law_parted","_law_names_here","_law_state","_law_within"] (a4x K 60))(G_b5:FnOk P w K mg base CX0 4 t.a_b5 t.d_b5 ["_law_names_here","_law_words_here","_law_state"] (a8l K))(G_a0:FnOk P w K mg base CX0 1 t.a_a0 t.d_a0 ["_law_state"] (a2e))(G_a3:FnOk P w K mg base CX0 72 t.a_a3 t.d_a3 ["_law_term_here","_law_state","_law_names_here","_law_words_here"] (a3d K 70))(n:Nat)(G_b0:FnOk P w K mg base CX0 (n+97) t.a_b0 t.d_b0 ["_law_goal_here","_law_rules","_law_rows","_law_names_here","_law_words_here","_law_state","_law_deep"] (a4y K n)):FnOk P w K mg base CX0 (n+97+1) t.a_b0 t.d_b0 ["_law_goal_here","_law_rules","_law_rows","_law_names_here","_law_words_here","_law_state","_law_deep"] (a4y K (n+1)):=by
 exists T.F_b0.ok (k:=n+97) a2v,a4y,(a0f (a0s (i:=7) (hs:=a1e) a2v.nd rfl (by nofun) (a0m (a0x K rfl) rfl T.n_a2 Zg (a0a (mv 2) a0d))) (a0f (a0y (a0o a1b (a0h (a0g K rfl) (mv 0) a0b (λ_ _=>rfl)) a0r (a0l _)) (a0f (a2f (a4a K rfl Z9 Yq Yy a2t (mv 2) (a0a (a1d (a0a a0r (a0a (mv 0) (a0a a0b (a0a (a1i a0d) a0d))))) a0d))) (a0i (a0t (mv 7)))) a0u) (a0f (a2f (a4a K rfl Z9 Yq Yy a2t (mv 2) (a0a a3n a0d))) (a0f (a0y (a0o a1b (a0k a0w (a0q G_a0 hr.o rfl T.m_a0 T.F_a0.kp T.b_a0 .nil a0v (a0a (mv 5) a0d)) a0b) a0b (a0l _)) (a0i (a2f (a4a K rfl Z9 Yq Yy a2t (mv 1) (a0a (a1d (a0a (a0q G_a3 hr.o rfl T.m_a3 T.F_a3.kp T.b_a3 .nil a0v (a0a (mv 0) (a0a (mv 5) (a0a (mv 3) (a0a (mv 4) a0d))))) (a0a (a1d a0d) a0d))) a0d)))) a0u) (a0f (a0s (i:=8) (hs:=a1e) a2v.nd rfl (by nofun) (a0m (a0x K rfl) rfl T.n_a2 Zg (a0a (mv 1) a0d))) (a0f (a2f (a4a K rfl Z9 Yq Yy a2t (mv 1) (a0a a3n a0d))) (a0f (a0s (i:=9) a2v.nd rfl (by nofun) a7p) (a0f (a0s (i:=10) (hs:=a1e) a2v.nd rfl (by nofun) (a0q G_a5 hr.o rfl T.m_a5 T.F_a5.kp T.b_a5 .nil a0v (a0a (mv 0) (a0a (mv 9) (a0a (mv 3) (a0a (mv 5) (a0a a3x a0d))))))) (a0f (a8w (i:=11) a2v.nd rfl (by nofun) rfl (a1n rfl T.n_d9 (a0a (a0k a4p (a0k a0w (a0q G_a0 hr.o rfl T.m_a0 T.F_a0.kp T.b_a0 .nil a0v (a0a (mv 5) a0d)) a0b) (a1g b4j rfl T.n_e5 Se (a0a (a1x a5h (mv 6) a0b (a0l _)) a0d))) a0d)) (a1u (a0n a6d) ["_law_goal_here","_law_rules","_law_rows","_law_names_here","_law_words_here","_law_state","_law_deep","_law_at","_law_number_here","_law_parted","_law_head","_law_more_here","_law_goals","_law_kids","_law_turned_here","_law_k","_law_place"] ["_law_goal_here","_law_rules","_law_rows","_law_names_here","_law_words_here","_law_state","_law_deep","_law_at","_law_number_here","_law_parted","_law_head","_law_more_here","_law_goals","_law_kids","_law_turned_here","%_law_k","_law_place"] rfl rfl qk) (λ_ _ _ _ _=>a1y) (λ_ _ _ _ _=>(a0q G_b5 hr.o rfl T.m_b5 T.F_b5.kp T.b_b5 .nil a0v (a0a (mv 4) (a0a (mv 5) (a0a (mv 6) a0d)))))) (a0f (a8w (i:=12) a2v.nd rfl (by nofun) rfl (a4q K rfl (mv 11)) (a1u (a0n a6d) ["_law_goal_here","_law_rules","_law_rows","_law_names_here","_law_words_here","_law_state","_law_deep","_law_at","_law_number_here","_law_parted","_law_head","_law_more_here","_law_goals","_law_kids","_law_turned_here","_law_k","_law_place"] ["_law_goal_here","_law_rules","_law_rows","_law_names_here","_law_words_here","_law_state","_law_deep","_law_at","_law_number_here","_law_parted","_law_head","_law_more_here","_law_goals","_law_kids","_law_turned_here","_law_k","_law_place"] rfl rfl qk) (λ_ _ _ _ _=>a1y) (λ_ _ _ _ _=>(a0q G_a5 hr.o rfl T.m_a5 T.F_a5.kp T.b_a5 .nil a0v (a0a (mv 0) (a0a (mv 10) (a0a (mv 4) (a0a (mv 6) (a0a a3x a0d)))))))) (a0f (a8w (i:=13) a2v.nd rfl (by nofun) rfl (a4q K rfl (mv 11)) (a1u (a0n a6d) ["_law_goal_here","_law_rules","_law_rows","_law_names_here","_law_words_here","_law_state","_law_deep","_law_at","_law_number_here","_law_parted","_law_head","_law_more_here","_law_goals","_law_kids","_law_turned_here","_law_k","_law_place"] ["_law_goal_here","_law_rules","_law_rows","_law_names_here","_law_words_here","_law_state","_law_deep","_law_at","_law_number_here","_law_parted","_law_head","_law_more_here","_law_goals","_law_kids","_law_turned_here","_law_k","_law_place"] rfl rfl qk) (λ_ _ _ _ _=>a1y) (λ_ _ _ _ _=>a0b)) (a0f (a0s (i:=14) (hs:=a3h) a2v.nd rfl (by nofun) (a0k a0w (a0q G_a0 hr.o rfl T.m_a0 T.F_a0.kp T.b_a0 .nil a0v (a0a (mv 5) a0d)) a0b)) (a0f (a3r Yi rfl (a1n rfl T.n_d9 (a0a (a0m (a0x K rfl) rfl T.n_a2 Zg (a0a (mv 11) a0d)) a0d)) (a1w (i:=15) a2v.nd rfl (by nofun)) (a0f (a0s (i:=16) a2v.nd rfl (by nofun) (b2v (a0o a1b (mv 14) a0b (a0l _)) (mv 15) (a0k a2p (a0k a2p (a0m (a0x K rfl) rfl T.n_a2 Zg (a0a (mv 11) a0d)) a0b) (mv 15)))) (a0i (a3q (a0q G_b0 hr.o rfl T.m_b0 T.F_b0.kp T.b_b0 .nil a0v (a0a (a0h (a0g K rfl) (mv 11) (mv 16) (λ_ _=>rfl)) (a0a (mv 1) (a0a (mv 2) (a0a (mv 3) (a0a (mv 4) (a0a (mv 5) (a0a (a0k a2p (mv 6) a0b) a0d)))))))) (a4n (mv 13) (mv 16) a3g))))) (a0f (a3q (a1d (a0a (mv 10) (a0a (a1g (a4c K rfl) rfl T.n_e2 W5 (a0a (mv 12) a0d)) a0d))) (a4n (mv 1) (mv 8) a3g)) (a0f (a3q (a1d (a0a a0r (a0a (mv 0) (a0a (a0k (a1k K rfl) (mv 8) a0b) (a0a (mv 13) a0d))))) (a4n (mv 2) (mv 7) a3g)) (a0i (a0t (mv 7)))))))))))))))))),H,Q,E,hr,h
 rename_i g ru rq np wp st d;obtain⟨M,goal,rs,ws,xs,wd,S,N,hg,hgo,hd0,hd1,hn,hb1,hb2,q⟩:=h;have hc:cap (n+1)=1+2*cap n:=rfl;rw[hc]at hb1 hb2 q;obtain⟨uw,w1,w2⟩:=S.w;obtain⟨ur,r1,r2⟩:=S.r;have hwl:=w2.length;rw[length_map]at hwl;have hrl:=r2.length;rw[length_map]at hrl;have n1:=S.n1;have n2:=S.n2;have n3:=S.n3;obtain⟨s0,ks,hgoal,hs,hz⟩:=hgo;obtain⟨a,pa,ua,rfl,hsa,hb,hkk⟩:=a1l (hgoal▸hg);ext
 exists a1c (SqL.of w1)
 exists a0j hsa (v:=.str s0) rfl
 rw[Zy,hwl]
 exists e
 ·have e:s0=eqS:=Zr e;subst e;ext;refine⟨.inl ⟨rfl,_,SqL.of w1⟩,?_⟩;ext;refine⟨ln (by show 0<=100000;decide),λp1 hp1=>?_⟩;have sp1:Same H (upd H p1 (.lst [])):=a0e hp1 _;have kp1:(upd H p1 (.lst [])) p1=some (.lst []):=a0c;generalize upd H p1 (.lst [])=J1 at sp1 kp1 ⊢;ext;refine⟨ln (by show 4<=100000;decide),λp2 hp2=>?_⟩;have sp2:Same J1 (upd J1 p2 (.tup [.str "yes",.ref a,.int 0,.ref p1])):=a0e hp2 _;have kp2:(upd J1 p2 (.tup [.str "yes",.ref a,.int 0,.ref p1])) p2=some (.tup [.str "yes",.ref a,.int 0,.ref p1]):=a0c;generalize upd J1 p2 (.tup [.str "yes",.ref a,.int 0,.ref p1])=J2 at sp2 kp2 ⊢;ext;have z2:=sp1.trans sp2;refine a2u (z2 _ _ w1) (ln qo) ?_;have dr:Dm K J2 M (.ref p2) (oW (some ⟨goal,0,[]⟩)):=b2h (SqT.of kp2) (hg.mono z2) (sp2 _ _ kp1) (S.nM hp1);obtain⟨S3,P3⟩:=(S.same z2).setW (us:=uw++[.ref p2]) (ws':=ws++[some ⟨goal,0,[]⟩]) (by rw[Zi];exact(w2.pr (.same z2)).append (.cons dr .nil));generalize upd J2 rq (.lst (uw++[.ref p2]))=J3 at S3 P3 ⊢;ext;refine q [] [⟨goal,0,[]⟩] _ ((Pr.same z2).trans P3) (by rw[Xd,Xi];exact S3) (λx hx=>by simp at hx) (λx hx=>?_) (Yc _) qz qz (λgw=>(no_eqW N.wo (hgoal▸gw)).elim);rw[Zs.mp hx];exact⟨⟨⟨_,_,hgoal,hs,hz⟩,Yc _⟩,Yc _⟩
 have e:s0≠eqS:=λz=>by rw[z]at e;exact absurd e qk
 have hsw:s0∈wd:=by
  rcases hs with z|z
  ·exact z
  ·exact absurd z.1 e
 ext;refine⟨.inl ⟨rfl,_,SqL.of w1⟩,?_⟩;ext;refine a2u w1 (ln qo) ?_;obtain⟨S1,P1⟩:=S.setW (us:=uw++[.non]) (ws':=ws++[none]) (by rw[Zi];exact w2.append (.cons .non .nil));have N1:=N.pr (P1.mono S.sub);have hg1:=hg.monoT P1.kt;generalize upd H rq (.lst (uw++[.non]))=J1 at S1 P1 N1 hg1 ⊢
 (with_reducible refine a2y (λσ' J=>∃ex:List (Trm×List Trm),σ'=[some (.ref a),some (.ref ru),some (.ref rq),some (.ref np),some (.ref wp),some (.ref st),some (.int d),some (.int (ws.length:Int)),none,none,none,none,none,none,none,none,none]/\ex.length<=1/\(∀x∈ex,RuG x)/\SH K M J ru rq st (rs++ex.map some) (ws++[none])/\Pr K [ru,rq,st] J1 J) (λσ' J hP=>?_) (λkk=>?_))
 rotate_left
 ·ext;obtain⟨i1,hi1⟩:=S1.s;refine⟨i1,hi1,λt1 j1=>?_⟩;have b2:But st J1 (upd J1 st (.lst [.int j1])):=a3i;have k2:(upd J1 st (.lst [.int j1])) st=some (.lst [.int j1]):=a0c;obtain⟨S2,P2⟩:=S1.turn b2 k2;have N2:=N1.pr (P2.mono S1.sub);have hg2:=hg1.monoT P2.kt;generalize upd J1 st (.lst [.int j1])=J2 at k2 S2 P2 N2 hg2 ⊢;ext
  exists e
  rotate_left
  ·ext;exact kk _ _ ⟨[],rfl,Yc _,λx hx=>by simp at hx,by rw[Xd,Xi];exact S2,P2⟩
  ext;obtain⟨ur2,r21,r22⟩:=S2.r;have hrl2:=r22.length;rw[length_map]at hrl2;refine⟨.inl ⟨rfl,_,SqL.of r21⟩,?_⟩;ext;refine⟨goal,xs,wd,j1,hg2,k2,SqL.of N2.n,N2.n9,SqL.of N2.w,N2.wo.l,qo,qo,λx t' j3 J3 b3 k3 dx oth=>?_⟩;obtain⟨S3,P3⟩:=S2.turn b3 k3;obtain⟨ur3,r31,r32⟩:=S3.r;have hrl3:=r32.length;rw[length_map]at hrl3;ext;refine⟨ln (by show 0<=100000;decide),λp1 hp1=>?_⟩;have sp1:Same J3 (upd J3 p1 (.tup [])):=a0e hp1 _;have kp1:(upd J3 p1 (.tup [])) p1=some (.tup []):=a0c;generalize upd J3 p1 (.tup [])=J4 at sp1 kp1 ⊢;ext;refine⟨ln (by show 2<=100000;decide),λp2 hp2=>?_⟩;have sp2:Same J4 (upd J4 p2 (.tup [x,.ref p1])):=a0e hp2 _;have kp2:(upd J4 p2 (.tup [x,.ref p1])) p2=some (.tup [x,.ref p1]):=a0c;generalize upd J4 p2 (.tup [x,.ref p1])=J5 at sp2 kp2 ⊢;ext;have z5:=sp1.trans sp2;refine a2u (z5 _ _ r31) (ln qo) ?_;obtain⟨s',ks',et,_⟩:=oth.2 s0 ks hgoal;have dr:Den K J5 (.ref p2) (oR (some (t',[]))):=b4x (x:=(t',[])) (SqT.of kp2) (dx.mono z5) (SqT.of (sp2 _ _ kp1)) .nil;obtain⟨S6,P6⟩:=(S3.same z5).setR (us:=ur3++[.ref p2]) (rs':=rs++[some (t',[])]) (by rw[Zi];exact(r32.mono z5).append (.cons dr .nil));generalize upd J5 ru (.lst (ur3++[.ref p2]))=J6 at S6 P6 ⊢;ext;refine kk _ _ ⟨[(t',[])],rfl,Zh _,λx hx=>?_,S6,P2.trans (P3.trans ((Pr.same z5).trans P6))⟩;rw[Zs.mp hx];exact⟨⟨_,_,et⟩,Yk oth.1 hz,λg hg=>by simp at hg,Yc _⟩
 obtain⟨ex,rfl,hex1,hex2,S2,P2⟩:=hP;have N2:=N1.pr (P2.mono S1.sub);have hg2:=hg1.monoT P2.kt;obtain⟨ur2,r21,r22⟩:=S2.r;have hrl2:=r22.length;rw[length_map,Zf,length_map]at hrl2;ext
 exists a1c (SqL.of r21)
 refine⟨.inl ⟨rfl,_,SqL.of r21⟩,?_⟩;ext;refine a2u r21 (ln qo) ?_;obtain⟨S3,P3⟩:=S2.setR (us:=ur2++[.non]) (rs':=rs++ex.map some++[none]) (by rw[Zi (l₂:=[none])];exact r22.append (.cons .non .nil));have N3:=N2.pr (P3.mono S2.sub);have hg3:=hg2.monoT P3.kt;generalize upd J ru (.lst (ur2++[.non]))=P at S3 P3 N3 hg3 ⊢;have PP:=P1.trans (P2.trans P3);clear P1 P2 P3 N1 N2 hg1 hg2 S1 S2;rw[show(ur2.length:Int)=((rs.length+ex.length:Nat):Int) by omega];obtain⟨i3,hi3⟩:=S3.s;ext;intro dd hdd;have bA:But st P (upd P dd (.dK [])):=λb o _ e=>(a0e hdd (.dK [])) _ _ e
 have kA:(upd P dd (.dK [])) st=some (.lst [.int i3]):=a0e hdd (.dK []) _ _ hi3;have oA:a1s K (upd P dd (.dK [])) dd st [] 0:=⟨⟨[],a0c,.nil⟩,⟨Zh _,λr hr=>by simp at hr⟩,qz,i3,kA⟩;have tA:KT K P (upd P dd (.dK [])):=KT.same (a0e hdd _);have nA:=a0e hdd (.dK []) _ _ N3.n;generalize upd P dd (.dK [])=A1 at bA kA oA tA nA ⊢;ext;refine⟨goal,[],0,xs,hg3.monoT tA,oA,λr hr=>by simp at hr,nA,N3.n9,qo,qo,qo,λhv ht rA A2 fA oA2 mA dh zh ih=>?_⟩;obtain⟨kh,eh⟩:=ih rfl s0 ks hgoal;have bA2:=fA.but bA hdd;have tA2:=tA.trans (fA.kt oA);clear bA kA tA nA;ext;obtain⟨i4,hi4⟩:=oA2.st';refine⟨i4,hi4,λt2 j2=>?_⟩;have b3:But st A2 (upd A2 st (.lst [.int j2])):=a3i;have k3:(upd A2 st (.lst [.int j2])) st=some (.lst [.int j2]):=a0c;have oA3:=oA2.but b3 k3;have bA3:=bA2.trans b3;have t3:=My.But.kt (K:=K) b3 hi4;have tA3:=tA2.trans t3;have dh3:=dh.monoT t3;generalize upd A2 st (.lst [.int j2])=A3 at k3 oA3 bA3 tA3 dh3 ⊢;clear b3 t3 bA2 tA2;ext
 exists a4i (c8m _ _)
 obtain⟨c,hc0,hc2,hcd,hce⟩:∃c:Int,0<=c/\c<=2/\(0<c->0<d)/\t2%3*(if decide (0<d)=true then 1 else 0)=c:=by
  by_cases hd:0<d
  ·exact⟨t2%3,qo,qo,λ_=>hd,by rw[Zt hd];simp⟩
  ·exact⟨0,qo,qo,λh=>by omega,by rw[Zo hd];simp⟩
 rw[hce];refine⟨_,rfl,qo,qo,λD hD=>?_⟩;have pD:=b3t bA3 k3 hD;have nD:D≠st:=λz=>by rw[z,k3]at hD;cases hD
 have nDd:D≠dd:=λz=>by obtain⟨_,q1,_⟩:=oA3.put.ex;rw[z,q1]at hD;cases hD
 have NM:∀{J:Hp},But st P J->SqL K J np (xs.map V.str)/\SqL K J wp (wd.map V.str)/\J np=some (.lst (xs.map V.str)):=λb=>⟨My.But.strs b hi3 (SqL.of N3.n),My.But.strs b hi3 (SqL.of N3.w),b _ _ (λz=>N3.n1 (by rw[z];exact S3.m.2.2)) N3.n⟩
 refine a1t (a1o 0 c.toNat) (λi ys J=>∃j ts,But st A3 J/\J st=some (.lst [.int j])/\J D=some (.lst ys)/\DenL K J ys (Trm.dataL ts)/\ts.length=i/\(∀t∈ts,GlOk wd t)/\a1s K J dd st rA (0+goal.size)) (ln qo) ⟨j2,[],(a0e hD _).but,(a0e hD _) _ _ k3,a0c,.nil,rfl,λt ht=>by simp at ht,oA3.same (a0e hD _)⟩ (λ_ _ _ _=>trivial) (λi ys J Q' hi hl hP k=>?_) (λum A4 hl hP=>?_)
 ·obtain⟨j,ts,g1,g2,g3,g4,g5,g6,g7⟩:=hP;obtain⟨m1,m2,_⟩:=NM (bA3.trans g1);ext;refine⟨xs,wd,j,m1,N3.n9,m2,N3.wo,g2,λx t j' J' b' k' dx gl=>?_⟩;have g8:=b' _ _ nD g3;refine k _ _ g8 ⟨j',ts++[t],b5n (g1.trans b') hD,by rw[a0p nD.symm];exact k',a0c,?_,by rw[Zf,g5];rfl,λt' ht'=>?_,(g7.but b' k').lst g8 nD⟩
  ·exact(b5l (g4.monoT (My.But.kt b' g2)) dx).lst g8
  ·rcases Zx.mp ht' with z|z
   ·exact g6 t' z
   ·rw[Zs.mp z];exact gl
 obtain⟨j4,tm,g1,k4,kD,dm,lm,gm,oA4⟩:=hP;have bA4:=bA3.trans g1;have t4:=My.But.kt (K:=K) g1 k3;have tA4:=tA3.trans t4;have dh4:=dh3.monoT t4;have hzm:Trm.sizeL tm<=50:=by
  have h1:=b3q (ts:=tm) (B:=25) λt ht=>by obtain⟨_,_,_,_,z⟩:=gm t ht;exact z
  have h2:tm.length<=2:=by omega
  have h3:=Xo 25 h2;omega
 have hlm:=a2b dm;clear t4 g1 bA3 tA3 dh3 k3;ext;refine⟨D,rfl,⟨_,SqL.of kD⟩,λD2 hD2=>?_⟩;have pD2:=b3t bA4 k4 hD2;have nD2:D2≠st:=λz=>by rw[z,k4]at hD2;cases hD2
 have nDd2:D2≠dd:=λz=>by obtain⟨_,q1,_⟩:=oA4.put.ex;rw[z,q1]at hD2;cases hD2
 have nDD2:D≠D2:=λz=>by rw[<-z,kD]at hD2;cases hD2
 have sD2:=a0e hD2 (.lst []);refine a1t (a3z (xs:=um)) (λi ys J=>∃(r:Rws)(ts:List Trm),But st P J/\J D=some (.lst um)/\KT K A4 J/\J D2=some (.lst ys)/\a1s K J dd st r (goal.size+Trm.sizeL (tm.take i))/\SmR r/\DenL K J ys (Trm.dataL ts)/\ts.length=i/\∀t∈ts,t.size<=25) (ln qo) ⟨rA,[],bA4.trans sD2.but,sD2 _ _ kD,KT.same sD2,a0c,(oA4.same sD2).more qo,mA,.nil,rfl,λt ht=>by simp at ht⟩ (λi ys J hP=>by obtain⟨_,_,_,h,_⟩:=hP;exact SqL.of h) (λi ys J Q' hi hl hP k=>?_) (λug A5 hl5 hP=>?_)
 ·obtain⟨r,ts,g1,g2,g3,g4,g5,g6,g7,g8,g9⟩:=hP;have hit:i<tm.length:=by omega
  obtain⟨u,e1,e2,e3⟩:=a8b dm hit;obtain⟨_,_,m3⟩:=NM g1;have z1:=a4v (Za hit);have z4:=take_succ' hit;have z3:=b6n (tm.take i) tm[i];rw[<-z4]at z3;have z6:=a4u tm (i+1);have z7:tm[i].size<=25:=by obtain⟨_,_,_,_,z⟩:=gm _ (Zw hit);exact z
  rw[e2];ext;refine⟨tm[i],r,goal.size+Trm.sizeL (tm.take i),xs,e3.monoT g3,g5,g6,m3,N3.n9,qo,qo,qo,λx t' r' J' F O' M' dx sx _=>?_⟩;have k2:=F _ _ nDd2 nD2 g4;refine k _ _ k2 ⟨r',ts++[t'],b5n (F.but g1 hdd) pD2,by rw[a0p nDD2];exact F _ _ nDd nD g2,(g3.trans (F.kt g5)).trans (kt_lst k2),a0c,(O'.more qo).lst k2 nD2,M',(b5l (g7.monoT (F.kt g5)) dx).lst k2,by rw[Zf,g8];rfl,λt2 ht2=>?_⟩;rcases Zx.mp ht2 with z|z
  ·exact g9 t2 z
  ·rw[Zs.mp z];omega
 obtain⟨rB,tg,bA5,kD5,t45,kG5,oA5,_,dg,lg,zg⟩:=hP;have tA5:=tA4.trans t45;have dh5:=dh4.monoT t45;have dm5:=dm.monoT t45;obtain⟨i5,k5⟩:=oA5.st';clear bA4 tA4 dh4 t45 oA4;ext;refine⟨D,rfl,⟨_,SqL.of kD5⟩,λD3 hD3=>?_⟩;have pD3:=b3t bA5 k5 hD3;refine a1t (a3z (xs:=um)) (λi ys J=>Same A5 J/\J D3=some (.lst ys)/\∃zs:List Int,ys=zs.map V.int/\zs.length=i) (ln qo) ⟨a0e hD3 _,a0c,[],rfl,rfl⟩ (λi ys J hP=>SqL.of (hP.1 _ _ kD5)) (λi ys J Q' hi hl hP k=>?_) (λuz A6 hl6 hP=>?_)
 ·obtain⟨g1,g2,zs,rfl,g3⟩:=hP;ext;exact k _ _ g2 ⟨a1f g1 hD3,a0c,zs++[0],by rw[Zi];rfl,by rw[Zf,g3];rfl⟩
 obtain⟨s6,kZ6,zs,rfl,lz⟩:=hP;ext;have k6:=s6 _ _ k5;refine⟨i5,k6,λt7 j7=>?_⟩;have b7:But st A6 (upd A6 st (.lst [.int j7])):=a3i;have k7:(upd A6 st (.lst [.int j7])) st=some (.lst [.int j7]):=a0c;have nD3:D3≠st:=λz=>by rw[z,k5]at hD3;cases hD3
 have bA7:=(bA5.trans s6.but).trans b7;have t57:=(KT.same (K:=K) s6).trans (My.But.kt b7 k6);have tA7:=tA5.trans t57;have dh7:=dh5.monoT t57;have dm7:=dm5.monoT t57;have dg7:=dg.monoT t57;have kD7:=b7 _ _ nD (s6 _ _ kD5);have kG7:=b7 _ _ nD2 (s6 _ _ kG5);have kZ7:=b7 _ _ nD3 kZ6;generalize upd A6 st (.lst [.int j7])=A7 at k7 bA7 tA7 dh7 dm7 dg7 kD7 kG7 kZ7 ⊢;have nD3D:D≠D3:=λz=>by rw[<-z,kD5]at hD3;cases hD3
 have nG3:D2≠D3:=λz=>by rw[<-z,kG5]at hD3;cases hD3
 clear b7 t57 bA5 tA5 dh5 dm5 dg kD5 kG5 kZ6 s6 k6;have S4:=S3.more bA7 k7 pD3 kZ7;have alP:∀x∈M,x≠D3:=λx hx z=>by obtain⟨o,e⟩:=S3.e x hx;rw[z,pD3]at e;cases e
 have P7:=(S3.turn bA7 k7).2;have N4:NW K (D3::M) A7 np wp xs wd:=(N3.pr (P7.mono S3.sub)).more (λz=>by have:=N3.n;rw[z,pD3]at this;cases this) (λz=>by have:=N3.w;rw[z,pD3]at this;cases this);have q1:=alP _ S3.m.1;have q2:=alP _ S3.m.2.1;have q3:=alP _ S3.m.2.2;have nDr:D≠ru:=λz=>by obtain⟨_,e,_⟩:=S3.r;rw[<-z,pD]at e;cases e
 have nDw:D≠rq:=λz=>by obtain⟨_,e,_⟩:=S3.w;rw[<-z,pD]at e;cases e
 have nGr:D2≠ru:=λz=>by obtain⟨_,e,_⟩:=S3.r;rw[<-z,pD2]at e;cases e
 have nGw:D2≠rq:=λz=>by obtain⟨_,e,_⟩:=S3.w;rw[<-z,pD2]at e;cases e
 have nKD:D∉[D3,ru,rq,st]:=by simp only[Zp,Z8,Xn,not_or];exact⟨nD3D,nDr,nDw,nD⟩
 have nKG:D2∉[D3,ru,rq,st]:=by simp only[Zp,Z8,Xn,not_or];exact⟨nG3,nGr,nGw,nD2⟩
 have nZ:D3∉[ru,rq,st]:=by simp only[Zp,Z8,Xn,not_or];exact⟨q1.symm,q2.symm,q3.symm⟩
 have nSub:∀m∈[D3,ru,rq,st],m∈D3::M:=λm hm=>by
  rcases Zp.mp hm with z|z
  ·rw[z];exact Ye ..
  ·exact Zv _ (S3.sub m z)
 have hcl:(um.length:Int)=c:=by omega
 ext
 exists a1c (SqL.of kD7)
 refine⟨_,rfl,qo,qo,?_⟩;refine a3s (a1o 0 (um.length:Int).toNat) (λi σ' J=>∃(o1 o2:Option V)(rs':List (Trm×List Trm))(ws':List Ro)(zs:List Int),σ'=[some (.ref a),some (.ref ru),some (.ref rq),some (.ref np),some (.ref wp),some (.ref st),some (.int d),some (.int (ws.length:Int)),some (.int ((rs.length+ex.length:Nat):Int)),some (.ref dd),some hv,some (.ref D),some (.ref D2),some (.ref D3),some (.int (t7%2)),o1,o2]/\Pr K [D3,ru,rq,st] A7 J/\SH K (D3::M) J ru rq st (rs++ex.map some++[none]++rs'.map some) (ws++[none]++ws'.map some)/\J D3=some (.lst (zs.map V.int))/\zs.length=um.length/\(∀x∈rs',RuG x)/\(∀x∈ws',RoG wd x/\x.kids.length<=4)/\rs'.length<=i*(2*cap n)/\ws'.length<=i*cap n) ⟨none,none,[],[],zs,rfl,.refl,by rw[Xd,Xi,Xd,Xi];exact S4,kZ7,lz,λx hx=>by simp at hx,λx hx=>by simp at hx,qz,qz⟩ (λ_ _ _ _=>trivial) (λi σ' J hi hP=>?_) (λσ' J hP=>?_)
 ·obtain⟨o1,o2,rs',ws',zs,rfl,pJ,sJ,kZ,lz,hr1,hw1,hr2,hw2⟩:=hP;have hi':i<um.length:=by omega
  (with_reducible refine a7j ?_)
  (with_reducible refine a2y (λσ' J'=>∃pl:Int,0<=pl/\pl<(um.length:Int)/\σ'=[some (.ref a),some (.ref ru),some (.ref rq),some (.ref np),some (.ref wp),some (.ref st),some (.int d),some (.int (ws.length:Int)),some (.int ((rs.length+ex.length:Nat):Int)),some (.ref dd),some hv,some (.ref D),some (.ref D2),some (.ref D3),some (.int (t7%2)),some (.int (0+(i:Int))),some (.int pl)]/\J'=J) (λσ' J' hP=>?_) (λkk=>?_))
  rotate_left
  ·ext
   exists e
   ·ext;exact kk _ _ ⟨_,qo,qo,rfl,rfl⟩
   ·ext
    exists a1c (SqL.of (pJ.kp _ _ nKD kD7))
    exact kk _ _ ⟨_,qo,qo,rfl,rfl⟩
  obtain⟨pl,p0,p1,rfl,hJ⟩:=hP;rw[hJ];have hpl:pl.toNat<tm.length:=by omega
  obtain⟨u,e1,e2,e3⟩:=a8b dm7 hpl;ext
  exists a1a (SqL.of (pJ.kp _ _ nKD kD7)) (a1r p0 e1)
  have hX:(i+1)*cap n=i*cap n+cap n:=T3 _ _;have hX2:(i+1)*(2*cap n)=i*(2*cap n)+2*cap n:=T3 _ _;have hi1:i<=1:=by omega
  have hX3:=Xo (cap n) hi1;have hX4:=Xo (2*cap n) hi1;refine⟨D3::M,tm[pl.toNat],_,_,xs,wd,sJ,N4.pr (pJ.mono nSub),e3.monoT pJ.kt,gm _ (Zw hpl),qo,qo,qo,by simp only[Zf,length_map,Zq];omega,by simp only[Zf,length_map,Zq];omega,λrs2 ws2 J2 p2 S2 h1 h2 h3 h4 _ _=>?_⟩;have kZ2:=p2.kp _ _ nZ kZ;ext;refine⟨D3,_,pl,pl.toNat,rfl,rfl,kZ2,by rw[length_map,lz];unfold ixN;rw[if_pos p0,if_pos p1],?_⟩;have S5:=S2.own (zs:=(zs.map V.int).set pl.toNat (.int ((ws++[none]++ws'.map some).length:Int))) kZ2 q1 q2 q3;have p5:Pr K [D3,ru,rq,st] J (upd J2 D3 (.lst ((zs.map V.int).set pl.toNat (.int ((ws++[none]++ws'.map some).length:Int))))):=(p2.mono λm hm=>Zv _ hm).trans (Pr.upd (Ye ..) kZ2 (λ_ z=>by cases z) (λ_ _ z=>by cases z));refine⟨_,_,rs'++rs2,ws'++ws2,zs.set pl.toNat ((ws++[none]++ws'.map some).length:Int),rfl,pJ.trans p5,?_,by rw[a0c,Wn],by rw[Yo,lz],λx hx=>?_,λx hx=>?_,by rw[Zf];omega,by rw[Zf];omega⟩
  ·rw[Zi,Zi,<-Xe,<-Xe];exact S5
  ·rcases Zx.mp hx with z|z
   ·exact hr1 x z
   ·exact h1 x z
  ·rcases Zx.mp hx with z|z
   ·exact hw1 x z
   ·exact h2 x z
 obtain⟨o1,o2,rs',ws',zs,rfl,pJ,sJ,kZ,lz,hr1,hw1,hr2,hw2⟩:=hP;have hX3:=Xo (cap n) (show(um.length:Int).toNat<=2 by omega);have hX4:=Xo (2*cap n) (show(um.length:Int).toNat<=2 by omega);have SM:=sJ.less S3.m;have PJ:=pr_sub bA7 tA7 pD3 pJ;have kGJ:=pJ.kp _ _ nKG kG7;have dhJ:=dh7.monoT pJ.kt;have dgJ:=dg7.monoT pJ.kt;ext;refine a5p (SqL.of kGJ) (λp1 hp1=>?_);have s1:=a0e hp1 (.tup ug);have kp1:(upd J p1 (.tup ug)) p1=some (.tup ug):=a0c;generalize upd J p1 (.tup ug)=B1 at s1 kp1 ⊢;ext;refine⟨ln (by show 2<=100000;decide),λp2 hp2=>?_⟩;have sp2:Same B1 (upd B1 p2 (.tup [hv,.ref p1])):=a0e hp2 _;have kp2:(upd B1 p2 (.tup [hv,.ref p1])) p2=some (.tup [hv,.ref p1]):=a0c;generalize upd B1 p2 (.tup [hv,.ref p1])=B2 at sp2 kp2 ⊢;ext;have sB:=s1.trans sp2;have SB:=SM.same sB;obtain⟨ur4,r41,r42⟩:=SB.r;have hl4:=r42.length;simp only[Zf,length_map,Zq]at hl4;refine⟨ru,ur4,_,rs.length+ex.length,rfl,rfl,r41,a8c qo,?_⟩;have dr:Den K B2 (.ref p2) (oR (some (ht,tg))):=b4x (x:=(ht,tg)) (SqT.of kp2) (dhJ.mono sB) (SqT.of (sp2 _ _ kp1)) (dgJ.mono sB)
 obtain⟨SC,PC⟩:=SB.setR (us:=ur4.set (rs.length+ex.length) (.ref p2)) (rs':=rs++ex.map some++[some (ht,tg)]++rs'.map some) (by
  have:=a6h dr (rs.length+ex.length) r42;rw[<-Wn,show rs.length+ex.length=(rs++ex.map some).length by rw[Zf,length_map],c5z]at this;rw[show rs.length+ex.length=(rs++ex.map some).length by rw[Zf,length_map]]
  exact this)
 have kZC:=PC.kp _ _ nZ (sB _ _ kZ);have hgC:=hg3.monoT ((PJ.kt.trans (KT.same sB)).trans PC.kt);generalize upd B2 ru (.lst (ur4.set (rs.length+ex.length) (.ref p2)))=B3 at SC PC kZC hgC ⊢;ext;refine⟨ln (by show 4<=100000;decide),λp3 hp3=>?_⟩;have sp3:Same B3 (upd B3 p3 (.tup [.str "yes",.ref a,.int (((rs.length+ex.length:Nat):Int)+1),.ref D3])):=a0e hp3 _;have kp3:(upd B3 p3 (.tup [.str "yes",.ref a,.int (((rs.length+ex.length:Nat):Int)+1),.ref D3])) p3=some (.tup [.str "yes",.ref a,.int (((rs.length+ex.length:Nat):Int)+1),.ref D3]):=a0c;generalize upd B3 p3 (.tup [.str "yes",.ref a,.int (((rs.length+ex.length:Nat):Int)+1),.ref D3])=B4 at sp3 kp3 ⊢;ext;have SD:=SC.same sp3;obtain⟨uw4,w41,w42⟩:=SD.w;have hl5:=w42.length;simp only[Zf,length_map,Zq]at hl5;refine⟨rq,uw4,_,ws.length,rfl,rfl,w41,a8c qo,?_⟩;have dw:Dm K B4 M (.ref p3) (oW (some ⟨goal,((rs.length+ex.length:Nat):Int)+1,zs⟩)):=b2h (SqT.of kp3) (hgC.mono sp3) (sp3 _ _ kZC) (S3.nM pD3)
 obtain⟨SE,PE⟩:=SD.setW (us:=uw4.set ws.length (.ref p3)) (ws':=ws++[some ⟨goal,((rs.length+ex.length:Nat):Int)+1,zs⟩]++ws'.map some) (by
  have:=DmL.set dw ws.length w42;rw[<-Wn,c5z]at this
  exact this)
 generalize upd B4 rq (.lst (uw4.set ws.length (.ref p3)))=B5 at SE PE ⊢;ext;refine q (ex++[(ht,tg)]++rs') ([⟨goal,((rs.length+ex.length:Nat):Int)+1,zs⟩]++ws') _ (PP.trans (PJ.trans ((Pr.same sB).trans (PC.trans ((Pr.same sp3).trans PE))))) ?_ (λx hx=>?_) (λx hx=>?_) ?_ ?_ ?_ (λ_=>?_)
 ·rw[Zi,Zi,Zi,<-Xe,<-Xe,<-Xe];exact SE
 ·rcases Zx.mp hx with z|z
  ·rcases Zx.mp z with z|z
   ·exact hex2 x z
   ·rw[Zs.mp z];exact⟨⟨_,_,eh⟩,Yk zh hz,zg,by show tg.length<=2;omega⟩
  ·exact hr1 x z
 ·rcases Zx.mp hx with z|z
  ·rw[Zs.mp z];exact⟨⟨⟨_,_,hgoal,.inl hsw,hz⟩,by show zs.length<=10;omega⟩,by show zs.length<=4;omega⟩
  ·exact hw1 x z
 ·simp only[Zf,Zq];omega
 ·simp only[Zf,Zq];omega
 ·simp only[Zf,Zq];omega
 ·simp only[Zf,Zq];omega
theorem c6b(T:Txt K mg t)(G_a5:FnOk P w K mg base CX0 62 t.a_a5 t.d_a5 ["_law_term_here","_law_parted","_law_names_here","_law_state","_law_within"] (a4x K 60))(G_b5:FnOk P w K mg base CX0 4 t.a_b5 t.d_b5 ["_law_names_here","_law_words_here","_law_state"] (a8l K))(G_a0:FnOk P w K mg base CX0 1 t.a_a0 t.d_a0 ["_law_state"] (a2e))(G_a3:FnOk P w K mg base CX0 72 t.a_a3 t.d_a3 ["_law_term_here","_law_state","_law_names_here","_law_words_here"] (a3d K 70))(n:Nat):FnOk P w K mg base CX0 (n+97) t.a_b0 t.d_b0 ["_law_goal_here","_law_rules","_law_rows","_law_names_here","_law_words_here","_law_state","_law_deep"] (a4y K n):=by
 induction n with
 |zero=>
  have no:∀vs H Q E,(a4y K 0) vs H Q E->False:=λvs H Q E h=>by
   unfold a4y at h;split at h
   ·exact c5v h
   ·exact h
  exact⟨λvs H Q E h=>(no vs H Q E h).elim,λA outer s H args us vs Q E _ _ _ _ h=>(no vs H Q E h).elim⟩
 |succ n ih=>
  have e:n+1+97=n+97+1:=by omega
  rw[e];exact c6a T G_a5 G_b5 G_a0 G_a3 n ih
end
section
variable{P:Program}{w:World}{K:W.Frag}{mg:Str->Option Value}{base:Heap}{t:Ad}
theorem c6c(T:Txt K mg t)(G_a7:FnOk P w K mg base CX0 72 t.a_a7 t.d_a7 ["_law_pattern","_law_term_here","_law_due_here"] (a5l K 70)):FnOk P w K mg base CX0 73 t.a_c0 t.d_c0 ["_law_rules","_law_rows","_law_at"] (b1k K):=by
 exists T.F_c0.ok a4t,b1k,(a0f (a0s (i:=3) (hs:=a4j) a4t.nd rfl (by nofun) (a0h (a0g K rfl) (a0h (a0g K rfl) (mv 1) (mv 2) (λ_ _=>rfl)) a0b (λ_ _=>rfl))) (a0f (a0s (i:=4) (hs:=a4j) a4t.nd rfl (by nofun) (a0h (a0g K rfl) (a0h (a0g K rfl) (mv 1) (mv 2) (λ_ _=>rfl)) a0b (λ_ _=>rfl))) (a0f (a0s (i:=5) (hs:=a4j) a4t.nd rfl (by nofun) (a0h (a0g K rfl) (a0h (a0g K rfl) (mv 1) (mv 2) (λ_ _=>rfl)) a0b (λ_ _=>rfl))) (a0f (a0y (a0o a1b (a0h (a0g K rfl) (mv 3) a0b (λ_ _=>rfl)) a0r (a0l _)) (a0i (a0t (a6r (a1x a1b (mv 4) a0b (a0l _)) (a6r (a1x (ko_eqE K rfl (a3t hr)) (mv 5) (a1i a0d) (a0l _)) (a7n (a1x (b8g K rfl (a3t hr)) (a0h (a0g K rfl) (a0h (a0g K rfl) (mv 3) a0b (λ_ _=>rfl)) a0b (λ_ _=>rfl)) (a0h (a0g K rfl) (a0h (a0g K rfl) (mv 3) a0b (λ_ _=>rfl)) a0b (λ_ _=>rfl)) (a0l _))))))) a0u) (a0f (a0y (PW.pt (a7b (a6q (a9m b1v b1v a0b (mv 4) (a0m (a0x K rfl) rfl T.n_a2 Zg (a0a (mv 0) a0d)))) (a7m (a0o a7d (a0m (a0x K rfl) rfl T.n_a2 Zg (a0a (mv 5) a0d)) (a0m (a0x K rfl) rfl T.n_a2 Zg (a0a (a0h (a0g K rfl) (a0h (a0g K rfl) (mv 0) (a0k a2p (mv 4) a0b) (λ_ _=>rfl)) a0b (λ_ _=>rfl)) a0d)) (a0l _))))) (a0i (a0t a3x)) a0u) (a0f (a0s (i:=6) (hs:=a1e) a4t.nd rfl (by nofun) (a0q G_a7 hr.o rfl T.m_a7 T.F_a7.kp T.b_a7 .nil a0v (a0a (a0h (a0g K rfl) (a0h (a0g K rfl) (mv 0) (a0k a2p (mv 4) a0b) (λ_ _=>rfl)) a0b (λ_ _=>rfl)) (a0a (mv 3) (a0a a7p a0d))))) (a0f (a3r Yi rfl (a1n rfl T.n_d9 (a0a (a0m (a0x K rfl) rfl T.n_a2 Zg (a0a (mv 5) a0d)) a0d)) (a1w (i:=7) a4t.nd rfl (by nofun)) (a0f (a0y (PW.pt (a7b (a0o c4r (mv 6) a3n (a0l _)) (a7m (a6q (a9m a9l a9l (mv 2) (a0h (a0g K rfl) (mv 5) (mv 7) (λ_ _=>rfl)) (a0m (a0x K rfl) rfl T.n_a2 Zg (a0a (mv 1) a0d))))))) (a0i (a0t a3x)) a0u) (a0i (a0s (i:=6) (hs:=a1e) a4t.nd rfl (by nofun) (a0q G_a7 hr.o rfl T.m_a7 T.F_a7.kp T.b_a7 .nil a0v (a0a (a0h (a0g K rfl) (a0h (a0g K rfl) (a0h (a0g K rfl) (mv 0) (a0k a2p (mv 4) a0b) (λ_ _=>rfl)) a0b (λ_ _=>rfl)) (mv 7) (λ_ _=>rfl)) (a0a (a0h (a0g K rfl) (a0h (a0g K rfl) (mv 1) (a0h (a0g K rfl) (mv 5) (mv 7) (λ_ _=>rfl)) (λ_ _=>rfl)) a0b (λ_ _=>rfl)) (a0a (mv 6) a0d)))))))) (a0i (a0t (a1x b5d (mv 6) a3n (a0l _))))))))))),H,Q,E,hr,h
 rename_i ru rq i;obtain⟨rs,ws,wd,D,h0,h1,q⟩:=h;obtain⟨us,u,a,gv,kp,g1,g2,g3,rfl,g5,g6,g7⟩:=D.row (k:=i.toNat) qo;have hro:=D.wo _ (Zw (l:=ws) (n:=i.toNat) qo);have q:∀H',Same H H'->Q (.bl (a8k rs ws i.toNat (ws[i.toNat]'(by omega)))) H':=λH' s=>by
  have:=q H' s;unfold a4w at this;rw[Za qo]at this;exact this
 generalize ws[i.toNat]'(by omega)=r at g5 g6 g7 hro q;obtain⟨s,ks,hgoal,hs,hz⟩:=hro.g;have hkl:=hro.l;rw[hgoal]at g6;obtain⟨a',pa,ua,rfl,hsa,hb,hkk⟩:=a1l g6;have hz1:=hz;rw[hgoal]at hz1;simp only[Trm.size]at hz1;ext
 exists a1a (SqL.of g1) (a1r h0 g3)
 exists a0j g5 (v:=.ref a') rfl
 exists a1a (SqL.of g1) (a1r h0 g3)
 exists a0j g5 (v:=.int r.n) rfl
 exists a1a (SqL.of g1) (a1r h0 g3)
 exists a0j g5 (v:=.ref kp) rfl
 exists a0j hsa (v:=.str s) rfl
 exists e
 ·have es:s=eqS:=by rw[Zy]at e;exact Zr e
  subst es;have ei:isEq r.goal=true:=by rw[hgoal,isEq];exact Zt rfl
  have h2:ks.length=2:=by
   rcases hs with z|z
   ·exact absurd (b8w (D.wd'.w _ z)) qk
   ·exact z.2
  obtain⟨k1,k2,rfl⟩:=c5w h2;obtain⟨u1,u2,rfl,d1,d2⟩:=b8z hkk;simp only[Trm.sizeL]at hz1;unfold a8k at q;rw[ei,hgoal]at q;have q:∀J,Same H J->Q (.bl (decide (r.n=0)&&(r.kids.isEmpty&&eqb k1 k2))) J:=q;ext;rw[Zy]
  exists e2
  ·rw[e2,Yr]at q;ext;refine⟨ln (by show 0<=100000;decide),λp1 hp1=>?_⟩;have s1:=a0e hp1 (.lst []);have kk1:(upd H p1 (.lst [])) p1=some (.lst []):=a0c;generalize upd H p1 (.lst [])=H1 at s1 kk1 ⊢;ext;refine mEqE_i (SqL.of (s1 _ _ g7)) (SqL.of kk1) ?_;have e5:(r.kids.map V.int).isEmpty=r.kids.isEmpty:=by cases r.kids<;>rfl
   rw[e5];ext
   exists e3
   ·rw[e3,Yr]at q;ext
    exists a0j (s1.tup hsa) (v:=.ref pa) rfl
    exists a0j (s1.tup hb) (v:=u1) rfl
    exists a0j (s1.tup hsa) (v:=.ref pa) rfl
    exists a0j (s1.tup hb) (v:=u2) rfl
    refine a6u (d1.mono s1) (d2.mono s1) qo ?_;rw[Zy];exact q _ s1
   ·rw[e3,Yp]at q;exact q _ s1
  ·rw[e2,Yp]at q;exact q _ (Same.refl _)
 ·have e:decide (s=eqS)=false:=by rw[Zy]at e;exact e
  have ei:isEq r.goal=false:=by rw[hgoal,isEq];exact e
  unfold a8k at q;rw[ei]at q;have q:∀J,Same H J->Q (.bl (decide (1<=r.n)&&a7y rs ws i.toNat r)) J:=q;obtain⟨ur,r1,r2⟩:=D.r;have hur:=r2.length;rw[length_map]at hur;ext
  by_cases n1:1<=r.n
  rotate_left
  ·rw[Zo n1,Yp]at q;rw[Zo n1];refine iteF ?_;ext;refine iteT (iteT ?_);ext;exact q _ (Same.refl _)
  rw[Zt n1];refine iteT ?_;ext
  exists a1c (SqL.of r1)
  by_cases n2:r.n<=(ur.length:Int)
  rotate_left
  ·rw[Zo n2];refine iteT (iteT ?_);ext;rw[c1c qo n1,Vf]at q;exact q _ (Same.refl _)
  rw[Zt n2];refine iteF ?_;ext;have hk1:(r.n-1).toNat<rs.length:=by omega
  obtain⟨us',u',ta,hv,gp,ug,q1,q2,q3,rfl,q5,q6,q7,q8⟩:=D.rule hk1;have hgl:=a2b q8;have hru:=D.ro _ (Zw hk1);rw[Zt n1,c5x hk1 rfl,Yr]at q;generalize rs[(r.n-1).toNat]=x at q q6 q8 hgl hru;have hx2:=hru.l
  exists a1c (SqL.of g7)
  exists a1a (SqL.of q1) (a1r qo q3)
  exists a0j q5 (v:=.ref gp) rfl
  exists a3a q7
  rw[length_map]
  exists e3
  ·have e3:decide (r.kids.length=x.2.length)=false:=Zo (λz=>by rw[hgl,z]at e3;simp at e3);ext;rw[e3,Yp]at q;exact q _ (Same.refl _)
  have e3:r.kids.length=x.2.length:=by
   have:(r.kids.length:Int)=(ug.length:Int):=by simpa using e3
   omega
  rw[Zt e3,Yr]at q;ext
  exists a1a (SqL.of q1) (a1r qo q3)
  exists a0j q5 (v:=hv) rfl
  intro pn hpn;have sn:=a0e hpn (.dK []);have kn:(upd H pn (.dK [])) pn=some (.dK []):=a0c;generalize upd H pn (.dK [])=J1 at sn kn ⊢;have hs25:∀g∈r.kids.map (a2o ws),g.size<=25:=λg hg=>by
   obtain⟨k,_,rfl⟩:=Z4.mp hg;exact b2t D.wo k
  have hlk:x.2.length=(r.kids.map (a2o ws)).length:=by rw[length_map];omega
  have z1:=hru.z1;rw[<-hgoal]at g6;ext;refine⟨x.1,r.goal,[],0,q6.mono sn,g6.mono sn,⟨[],kn,.nil⟩,⟨Yc _,λr hr=>by simp at hr⟩,qz,qo,qo,qo,qo,on_d λw J2 s3 iw=>?_⟩;have s4:=sn.trans s3;ext
  exists a1c (SqL.of (s4 _ _ g7))
  rw[length_map];refine⟨_,rfl,qo,qo,?_⟩;refine a3s (a1o 0 (r.kids.length:Int).toNat) (λj σ' J=>∃(o:Option V)(w:V),σ'=[some (.ref ru),some (.ref rq),some (.int i),some (.ref a'),some (.int r.n),some (.ref kp),some w,o]/\Same H J/\pIs K J w (stp x r.goal (r.kids.map (a2o ws)) j)/\∀j',j'<j->∀h:j'<r.kids.length,(i.toNat:Int)<r.kids[j']/\r.kids[j']<(ws.length:Int)) ⟨none,w,rfl,s4,?_,λj' h=>by omega⟩ (λ_ _ _ _=>trivial) (λj σ' J hj hP=>?_) (λσ' J hP=>?_)
  ·unfold stp;rw[Xz];cases hm:mt x.1 r.goal []<;>(rw[hm]at iw;exact iw)
  ·obtain⟨o,w,rfl,s5,iw,hin⟩:=hP;have hj1:j<x.2.length:=by omega
   have hj2:j<r.kids.length:=by omega
   have hes:=b0j (x:=x) (g:=r.goal) (gs:=r.kids.map (a2o ws)) hj1 (by rw[length_map];exact hj2);have hok:=b9c hru hz hs25 hlk j;cases hst:stp x r.goal (r.kids.map (a2o ws)) j with
   |none=>
    rw[hst]at iw;obtain rfl:w=.non:=iw;rw[b9e hlk (x.2.length-j) j qo hst,Option.isSome_none,Vf]at q;ext;exact q _ s5
   |some rows=>
    rw[hst]at iw hes;obtain⟨pw,rfl,hpw⟩:∃p,w=.ref p/\a2l K J p rows:=iw;have hro:=hok rows qo hst;ext;refine iteF ?_;ext
    exists a1a (SqL.of (s5 _ _ g7)) (v:=.int r.kids[j]) (a1r qo (by rw[show(0+(j:Int)).toNat=j by omega,Zz,Za hj2];rfl))
    have OUT:¬((i.toNat:Int)<r.kids[j]/\r.kids[j]<(ws.length:Int))->Q (.bl false) J:=λz=>by
     rw[c8l (Zw hj2) z,Yp]at q;exact q _ s5
    by_cases b1:i<r.kids[j]
    rotate_left
    ·rw[Zo b1];refine iteF ?_;ext;refine iteT ?_;ext;exact OUT (λz=>b1 qo)
    rw[Zt b1];refine iteT ?_;ext
    exists a1c (SqL.of (s5 _ _ g1))
    by_cases b2:r.kids[j]<(us.length:Int)
    rotate_left
    ·rw[Zo b2];refine iteT ?_;ext;exact OUT (λz=>b2 qo)
    rw[Zt b2];refine iteF ?_;ext;obtain⟨us2,u2,b2',gv2,kp2,f1,f2,f3,rfl,f5,f6,f7⟩:=D.row (k:=(r.kids[j]).toNat) qo;have hgk:(r.kids.map (a2o ws))[j]'(by rw[length_map];exact hj2)=(ws[(r.kids[j]).toNat]'(by omega)).goal:=by rw[List.getElem_map];exact b9d qo
    have hz25:=hs25 _ (Zw (l:=r.kids.map (a2o ws)) (n:=j) (by rw[length_map];exact hj2));rw[hgk]at hes hz25;have hz26:=hru.z2 _ (Zw hj1);obtain⟨uj,v1,v2,v3⟩:=a8b q8 hj1
    exists a1a (SqL.of (s5 _ _ q1)) (a1r qo q3)
    exists a0j (s5.tup q5) (v:=.ref gp) rfl
    exists a0j (s5.tup q7) (a1r qo (by rw[show(0+(j:Int)).toNat=j by omega];exact v1))
    exists a1a (SqL.of (s5 _ _ g7)) (v:=.int r.kids[j]) (a1r qo (by rw[show(0+(j:Int)).toNat=j by omega,Zz,Za hj2];rfl))
    exists a1a (SqL.of (s5 _ _ f1)) (a1r qo f3)
    exists a0j (s5.tup f5) (v:=gv2) rfl
    refine⟨x.2[j],(ws[(r.kids[j]).toNat]'(by omega)).goal,rows,25+25*j,v3.mono s5,f6.mono s5,hpw,hro.1,hro.2,qo,qo,qo,qo,on_d λw' J4 s8 iw'=>?_⟩;ext;refine⟨_,w',rfl,s5.trans s8,by rw[hes];exact iw',λj' hj' h=>?_⟩
    by_cases hjj:j'=j
    ·subst hjj;omega
    ·exact hin j' qo h
  ·obtain⟨o,w,rfl,s5,iw,hin⟩:=hP;rw[show(r.kids.length:Int).toNat=x.2.length by omega]at iw;rw[kids_ok (λk hk=>by obtain⟨j,hj,rfl⟩:=List.mem_iff_getElem.mp hk;exact hin j qo hj),Yr]at q;ext;cases hst:stp x r.goal (r.kids.map (a2o ws)) x.2.length with
   |none=>
    rw[hst]at iw q;obtain rfl:w=.non:=iw;refine⟨rfl,?_⟩
    simpa using q _ s5
   |some rows=>
    rw[hst]at iw q;obtain⟨pw,rfl,hpw⟩:∃p,w=.ref p/\a2l K J p rows:=iw;refine⟨rfl,?_⟩
    simpa using q _ s5
end
section
variable{P:Program}{w:World}{K:W.Frag}{mg:Str->Option Value}{base:Heap}{t:Ad}
theorem b9h(T:Txt K mg t)(G_a4:FnOk P w K mg base CX0 82 t.a_a4 t.d_a4 ["_law_terms","_law_found"] (a2z K 80))(G_b2:FnOk P w K mg base CX0 62 t.a_b2 t.d_b2 ["_law_term_here","_law_one","_law_other_here"] (a3o K 60)):FnOk P w K mg base CX0 83 t.a_c8 t.d_c8 ["_law_rules","_law_turn"] (a7z K):=by
 exists T.F_c8.ok a2d,a7z,(a0f (a8w (i:=2) a2d.nd rfl (by nofun) rfl (a1n rfl T.n_d9 (a0a (a0m (a0x K rfl) rfl T.n_a2 Zg (a0a (mv 0) a0d)) a0d)) (a1u (a0n a5e) ["_law_rules","_law_turn","_law_some","_law_k","_law_head","_law_goals","_law_there","_law_mine","_law_one","_law_other_here","_law_at"] ["_law_rules","_law_turn","_law_some","%_law_k","_law_head","_law_goals","_law_there","_law_mine","_law_one","_law_other_here","_law_at"] rfl rfl qk) (λ_ _ _ _ _=>c0m (a0o (c0s K rfl (a3t hr)) (a0q G_a4 hr.o rfl T.m_a4 T.F_a4.kp T.b_a4 .nil a0v (a0a (a0h (a0g K rfl) (a0h (a0g K rfl) (mv 1) (mv 0) (λ_ _=>rfl)) a0b (λ_ _=>rfl)) (a0a (a1i a0d) a0d))) (a1i a0d) (a0l _)) (λ_ _ z=>z)) (λ_ _ _ _ _=>(mv 0))) (a0i (a0y (a0o (c0s K rfl (a3t hr)) (mv 2) (a1i a0d) (a0l _)) (a0f (a0s (i:=3) (hs:=a4j) a2d.nd rfl (by nofun) (a0h (a0g K rfl) (mv 2) (a0k a0w (mv 1) (a0m (a0x K rfl) rfl T.n_a2 Zg (a0a (mv 2) a0d))) (λ_ _=>rfl))) (a0f (a3q (a0h (a0g K rfl) (mv 0) (mv 3) (λ_ _=>rfl)) (b2a K rfl rfl (a3y (a1w (i:=4) a2d.nd rfl (by nofun)) (a3y (a1w (i:=5) a2d.nd rfl (by nofun)) b1n)))) (a0f (a0s (i:=6) (hs:=a1e) a2d.nd rfl (by nofun) (a0q G_a4 hr.o rfl T.m_a4 T.F_a4.kp T.b_a4 .nil a0v (a0a (a0k (a1k K rfl) (a1i (a0a (mv 4) a0d)) (a1g (a5y K rfl) rfl T.n_e1 W7 (a0a (mv 5) a0d))) (a0a (a1i a0d) a0d)))) (a0f (a0s (i:=7) (hs:=a1e) a2d.nd rfl (by nofun) (a0q G_a4 hr.o rfl T.m_a4 T.F_a4.kp T.b_a4 .nil a0v (a0a (mv 5) (a0a (a1i a0d) a0d)))) (a0f (a0s (i:=8) (hs:=a4j) a2d.nd rfl (by nofun) (a0h (a0g K rfl) (mv 7) (a0k a0w (a0k a1j (mv 1) a0b) (a0m (a0x K rfl) rfl T.n_a2 Zg (a0a (mv 7) a0d))) (λ_ _=>rfl))) (a0f (a0s (i:=9) (hs:=a4j) a2d.nd rfl (by nofun) (a0h (a0g K rfl) (mv 6) (a0k a0w (a0k a1j (mv 1) a0b) (a0m (a0x K rfl) rfl T.n_a2 Zg (a0a (mv 6) a0d))) (λ_ _=>rfl))) (a0f (a0s (i:=10) (hs:=a4j) a2d.nd rfl (by nofun) (a0h (a0g K rfl) (a2n rfl (a1n rfl T.n_d9 (a0a (a0m (a0x K rfl) rfl T.n_a2 Zg (a0a (mv 5) a0d)) a0d)) (a1u (a0n a5e) ["_law_rules","_law_turn","_law_some","_law_k","_law_head","_law_goals","_law_there","_law_mine","_law_one","_law_other_here","_law_at"] ["_law_rules","_law_turn","_law_some","_law_k","_law_head","_law_goals","_law_there","_law_mine","_law_one","_law_other_here","_law_at"] rfl rfl qk) (λ_ _ _ _ _=>c0m (a0o (b4i K rfl) (mv 9) (a0q G_a4 hr.o rfl T.m_a4 T.F_a4.kp T.b_a4 .nil a0v (a0a (a1i (a0a (a0h (a0g K rfl) (mv 6) (mv 0) (λ_ _=>rfl)) a0d)) (a0a (a1i a0d) a0d))) (by with_unfolding_all rfl)) (λ_ _ z=>z)) (λ_ _ _ _ _=>(mv 0))) a0b (λ_ _=>rfl))) (a0i (a3q (a1d (a0a (mv 4) (a0a (a0k (c0q K rfl) (a0k (c0q K rfl) (a2x (b0s K rfl) (mv 5) a3l (a3m (mv 10))) (a1d (a0a (a0q G_b2 hr.o rfl T.m_b2 T.F_b2.kp T.b_b2 .nil a0v (a0a (a0h (a0g K rfl) (mv 5) (mv 10) (λ_ _=>rfl)) (a0a (mv 8) (a0a (mv 9) a0d)))) a0d))) (a2x (b0s K rfl) (mv 5) (a3m (a0k (a1k K rfl) (mv 10) a0b)) a3l)) a0d))) (a4n (mv 0) (mv 3) a3g)))))))))) a0u))),H,Q,E,hr,h
 rename_i ru tn;obtain⟨us,rs,hU,dU,hR,hl,q⟩:=h;have hul:us.length=rs.length:=by have:=dU.length;rw[length_map]at this;exact this
 ext
 exists a1c (SqL.of hU)
 refine⟨_,rfl,qo,qo,λD hD=>?_⟩;refine b4l (a1o 0 (us.length:Int).toNat) (λi ys J=>Same H J/\J D=some (.lst ys)/\∃ks:List Nat,ys=ks.map (λk:Nat=>V.int (0+(k:Int)))/\∀k∈ks,∃hk:k<rs.length,ordL (rs[k]).2 []≠[]) (ln qo) ⟨a0e hD _,a0c,[],rfl,λk hk=>by simp at hk⟩ (λ_ _ _ _=>trivial) (λi ys J0 Q' hi hl2 hP kT kF=>?_) (λys J0 hl2 hP=>?_)
 ·obtain⟨s1,kD,ks,rfl,hk⟩:=hP;have hi1:i<rs.length:=by omega
  obtain⟨u,a,hv,gp,ug,g1,rfl,g3,g4,g5,g6⟩:=b5m dU hi1;have hru:=hR _ (Zw hi1);have hzz:=hru.zz;ext
  exists a1a (SqL.of (s1 _ _ hU)) (a1r qo (by rw[show(0+(i:Int)).toNat=i by omega];exact g1))
  exists a0j (s1.tup g3) (v:=.ref gp) rfl
  refine⟨ln (by show 0<=100000;decide),λp1 hp1=>?_⟩;have sp1:Same J0 (upd J0 p1 (.lst [])):=a0e hp1 _;have kp1:(upd J0 p1 (.lst [])) p1=some (.lst []):=a0c;generalize upd J0 p1 (.lst [])=J1 at sp1 kp1 ⊢;have zJ1:=s1.trans sp1;ext;refine⟨ug,(rs[i]).2,[],.inr (zJ1.tup g5),g6.mono zJ1,kp1,qo,qo,by simp only[length_nil];omega,λp J2 s2 kp=>?_⟩;have zJ2:=zJ1.trans s2;ext;refine⟨ln (by show 0<=100000;decide),λp2 hp2=>?_⟩;have sp2:Same J2 (upd J2 p2 (.lst [])):=a0e hp2 _;have kp2:(upd J2 p2 (.lst [])) p2=some (.lst []):=a0c;generalize upd J2 p2 (.lst [])=J3 at sp2 kp2 ⊢;have zJ3:=zJ2.trans sp2;ext
  exists em_l (SqL.of (sp2 _ _ kp)) (SqL.of kp2)
  have k3:=zJ3;have kD3:J3 D=some (.lst (ks.map (λk:Nat=>V.int (0+(k:Int))))):=sp2 _ _ (s2 _ _ (sp1 _ _ kD))
  by_cases he:ordL (rs[i]).2 []=[]
  ·rw[he];exact kF _ ⟨zJ3,kD3,ks,rfl,hk⟩
  ·have e3:(true^^((ordL (rs[i]).2 []).map V.str).isEmpty)=true:=by
    cases e5:ordL (rs[i]).2 []with
    |nil=>exact absurd e5 he
    |cons _ _=>rfl
   rw[e3];refine kT _ λQ2 k2=>?_
   ext;refine k2 _ _ kD3 ⟨a1f zJ3 hD,a0c,ks++[i],by rw[Zi];rfl,λk hkk=>?_⟩;rcases Zx.mp hkk with z|z
   ·exact hk k z
   ·rw[Zs.mp z];exact⟨hi1,he⟩
 ·obtain⟨s1,kD,ks,rfl,hk⟩:=hP;ext;refine⟨ln (by show 0<=100000;decide),λp0 hp0=>?_⟩;have sp0:Same J0 (upd J0 p0 (.lst [])):=a0e hp0 _;have kp0:(upd J0 p0 (.lst [])) p0=some (.lst []):=a0c;generalize upd J0 p0 (.lst [])=J1 at sp0 kp0 ⊢;have zJ1:=s1.trans sp0;ext
  exists em_l (SqL.of (sp0 _ _ kD)) (SqL.of kp0)
  exists e
  rotate_left
  ·ext;exact q us rs _ zJ1.but (zJ1 _ _ hU) (dU.mono zJ1) hR rfl
  have hkl:0<(ks.map (λk:Nat=>V.int (0+(k:Int)))).length:=by
   cases ks with
   |nil=>cases e
   |cons _ _=>rw[length_map,length_cons];omega
  ext
  exists a1c (SqL.of (sp0 _ _ kD))
  exists m2_i (show(0:Int)<_ from by omega)
  obtain⟨v,e1,e2⟩:=pickI hkl tn;obtain⟨k,hkm,rfl⟩:=Z4.mp e2;obtain⟨hk1,hk2⟩:=hk k hkm
  exists a1a (SqL.of (sp0 _ _ kD)) e1
  obtain⟨u,a,hv,gp,ug,g1,rfl,g3,g4,g5,g6⟩:=b5m dU hk1;have hru:=hR _ (Zw hk1);have hgl:=a2b g6;have hzz:=hru.zz;have hz1:=hru.z1;have hll:=hru.l;generalize hx:rs[k]=x at g4 g6 hk2 hru hgl hzz hz1 hll;refine a1a (SqL.of (zJ1 _ _ hU)) (a1r qo (by rw[show(0+(k:Int)).toNat=k by omega];exact g1)) ?_
  exists b4k (zJ1.tup g3) rfl
  refine⟨ln (by show 1<=100000;decide),λp1 hp1=>?_⟩;have sp1:Same J1 (upd J1 p1 (.lst [hv])):=a0e hp1 _;have kp1:(upd J1 p1 (.lst [hv])) p1=some (.lst [hv]):=a0c;generalize upd J1 p1 (.lst [hv])=J2 at sp1 kp1 ⊢;have zJ2:=zJ1.trans sp1;ext;refine⟨gp,ug,rfl,.inr (zJ2.tup g5),λp2 hp2=>?_⟩;have sp2:Same J2 (upd J2 p2 (.lst ug)):=a0e hp2 _;have kp2:(upd J2 p2 (.lst ug)) p2=some (.lst ug):=a0c;generalize upd J2 p2 (.lst ug)=J3 at sp2 kp2 ⊢;have zJ3:=zJ2.trans sp2;ext;refine a7r (sp2 _ _ kp1) kp2 (ln (by rw[Zq];omega)) (λp3 hp3=>?_);have sp3:Same J3 (upd J3 p3 (.lst ([hv]++ug))):=a0e hp3 _;have kp3:(upd J3 p3 (.lst ([hv]++ug))) p3=some (.lst ([hv]++ug)):=a0c;generalize upd J3 p3 (.lst ([hv]++ug))=J4 at sp3 kp3 ⊢;have zJ4:=zJ3.trans sp3;ext;refine⟨ln (by show 0<=100000;decide),λp4 hp4=>?_⟩;have sp4:Same J4 (upd J4 p4 (.lst [])):=a0e hp4 _;have kp4:(upd J4 p4 (.lst [])) p4=some (.lst []):=a0c;generalize upd J4 p4 (.lst [])=J5 at sp4 kp4 ⊢;have zJ5:=zJ4.trans sp4;ext;refine⟨hv::ug,x.1::x.2,[],.inl (SqL.of (sp4 _ _ kp3)),.cons (g4.mono zJ5) (g6.mono zJ5),kp4,by simp only[Trm.sizeL];omega,qo,by simp only[Trm.sizeL,length_nil];omega,λpt J6 s6 kt=>?_⟩;have zJ6:=zJ5.trans s6;ext;refine⟨ln (by show 0<=100000;decide),λp5 hp5=>?_⟩;have sp5:Same J6 (upd J6 p5 (.lst [])):=a0e hp5 _;have kp5:(upd J6 p5 (.lst [])) p5=some (.lst []):=a0c;generalize upd J6 p5 (.lst [])=J7 at sp5 kp5 ⊢;have zJ7:=zJ6.trans sp5;ext;refine⟨ug,x.2,[],.inr (zJ7.tup g5),g6.mono zJ7,kp5,qo,qo,by simp only[length_nil];omega,λpm J8 s8 km=>?_⟩;have zJ8:=zJ7.trans s8;ext;have kt8:=s8 _ _ (sp5 _ _ kt);have hm0:0<((ordL x.2 []).map V.str).length:=by
   rw[length_map];exact Su.mpr hk2
  have ht0:0<((ordL (x.1::x.2) []).map V.str).length:=by
   rw[length_map];refine Su.mpr λz=>?_
   obtain⟨o,ho⟩:=List.exists_mem_of_ne_nil _ hk2;have h2:o∈ordL (x.1::x.2) []:=(a5j _ [] o).mpr (.inr (by rw[a3j];exact Zx.mpr (.inr (((a5j x.2 [] o).mp ho).resolve_left qz))));rw[z]at h2
   simp at h2
  exists a1c (SqL.of km)
  exists m2_i (show(0:Int)<_ from by omega)
  obtain⟨v1,e3,e4⟩:=pickI hm0 (tn/7);obtain⟨one,hone,rfl⟩:=Z4.mp e4
  exists a1a (SqL.of km) e3
  exists a1c (SqL.of kt8)
  exists m2_i (show(0:Int)<_ from by omega)
  obtain⟨v2,e5,e6⟩:=pickI ht0 (tn/77);obtain⟨oth,hoth,rfl⟩:=Z4.mp e6
  exists a1a (SqL.of kt8) e5
  have g58:=zJ8.tup g5;have g68:=g6.mono zJ8
  exists a3a g58
  refine⟨_,rfl,qo,qo,λD2 hD2=>?_⟩;refine b4l (a1o 0 (ug.length:Int).toNat) (λi ys J=>Same J8 J/\J D2=some (.lst ys)/\∃js:List Nat,ys=js.map (λk:Nat=>V.int (0+(k:Int)))/\(∀j∈js,j<x.2.length)/\∀j,j<i->∀hj:j<x.2.length,one∈ordL [x.2[j]] []->j∈js) (ln qo) ⟨a0e hD2 _,a0c,[],rfl,λk hk=>by simp at hk,λj hj=>by omega⟩ (λ_ _ _ _=>trivial) (λi ys L0 Q' hi hl3 hP kT kF=>?_) (λys L0 hl3 hP=>?_)
  ·obtain⟨r1,rD,js,rfl,hj1,hj2⟩:=hP;have hi1:i<x.2.length:=by omega
   obtain⟨uu,q1,q2,q3⟩:=a8b g68 hi1;have hzi:=a4v (Za hi1);ext
   exists a0j (r1.tup g58) (a1r qo (by rw[show(0+(i:Int)).toNat=i by omega];exact q1))
   refine⟨ln (by show 1<=100000;decide),λp6 hp6=>?_⟩;have sp6:Same L0 (upd L0 p6 (.lst [uu])):=a0e hp6 _;have kp6:(upd L0 p6 (.lst [uu])) p6=some (.lst [uu]):=a0c;generalize upd L0 p6 (.lst [uu])=L1 at sp6 kp6 ⊢;have zL1:=r1.trans sp6;ext;refine⟨ln (by show 0<=100000;decide),λp7 hp7=>?_⟩;have sp7:Same L1 (upd L1 p7 (.lst [])):=a0e hp7 _;have kp7:(upd L1 p7 (.lst [])) p7=some (.lst []):=a0c;generalize upd L1 p7 (.lst [])=L2 at sp7 kp7 ⊢;have zL2:=zL1.trans sp7;ext;refine⟨[uu],[x.2[i]],[],.inl (SqL.of (sp7 _ _ kp6)),by simp only[Trm.dataL];exact .cons (q3.mono zL2) .nil,kp7,by simp only[Trm.sizeL];omega,qo,by simp only[Trm.sizeL,length_nil];omega,λp8 L3 s8 k8=>?_⟩;have zL3:=zL2.trans s8;ext
   exists b2c _ (.inl (SqL.of k8))
   have rD3:L3 D2=some (.lst (js.map (λk:Nat=>V.int (0+(k:Int))))):=s8 _ _ (sp7 _ _ (sp6 _ _ rD))
   by_cases he:one∈ordL [x.2[i]] []
   ·rw[Zt he];refine kT _ λQ2 k2=>?_
    ext;refine k2 _ _ rD3 ⟨a1f zL3 hD2,a0c,js++[i],by rw[Zi];rfl,λk hkk=>?_,λj hj hj' ho=>?_⟩
    ·rcases Zx.mp hkk with z|z
     ·exact hj1 k z
     ·rw[Zs.mp z];exact hi1
    ·by_cases hji:j=i
     ·rw[hji];simp
     ·exact Zx.mpr (.inl (hj2 j qo hj' ho))
   ·rw[Zo he];refine kF _ ⟨zL3,rD3,js,rfl,hj1,λj hj hj' ho=>?_⟩
    by_cases hji:j=i
    ·subst hji;exact absurd ho he
    ·exact hj2 j qo hj' ho
  obtain⟨r1,rD,js,rfl,hj1,hj2⟩:=hP;obtain⟨j0,hj0,ho⟩:=c8k hone;have hjs:=hj2 j0 qo hj0 ho;cases js with
  |nil=>simp at hjs
  |cons j js=>
  have hj:=hj1 j qz;have zL0:=zJ8.trans r1;ext
  exists a1a (SqL.of rD) (v:=.int (0+(j:Int))) (a1r (V0 _) rfl)
  have g59:=r1.tup g58;have g69:=g68.mono r1;obtain⟨uu,q1,q2,q3⟩:=a8b g69 hj;have hzi:=hru.z2 _ (Zw hj);refine c1e g59 g69 λp9 u9 L1 s9 k9 d9=>?_
  have zL1:=zL0.trans s9;ext
  exists a0j (s9.tup g59) (a1r qo (by rw[show(0+(j:Int)).toNat=j by omega];exact q1))
  refine⟨x.2[j],q3.mono s9,qo,qo,λy t' L2 s10 dy zy=>?_⟩;have zL2:=zL1.trans s10;ext;refine⟨ln (by show 1<=100000;decide),λp11 hp11=>?_⟩;have sp11:Same L2 (upd L2 p11 (.tup [y])):=a0e hp11 _;have kp11:(upd L2 p11 (.tup [y])) p11=some (.tup [y]):=a0c;generalize upd L2 p11 (.tup [y])=L3 at sp11 kp11 ⊢;have zL3:=zL2.trans sp11;ext;refine c0r ((s10.trans sp11).tup k9) (SqT.of kp11) (ln (by rw[Zq,a2b d9,Z7,Xk];omega)) (λp12 L4 s12 k12=>?_);have zL4:=zL3.trans s12;ext;refine c1e ((s9.trans (s10.trans (sp11.trans s12))).tup g59) (g69.mono (s9.trans (s10.trans (sp11.trans s12)))) λp13 u13 L5 s13 k13 d13=>?_
  have zL5:=zL4.trans s13;ext;refine c0r (s13.tup k12) k13 (ln (by rw[Zf,Zq,a2b d9,a2b d13,Z7,Z7,Xk,Xk];omega)) (λp14 L6 s14 k14=>?_);have zL6:=zL5.trans s14;ext;refine⟨ln (by show 2<=100000;decide),λp15 hp15=>?_⟩;have sp15:Same L6 (upd L6 p15 (.tup [hv,.ref p14])):=a0e hp15 _;have kp15:(upd L6 p15 (.tup [hv,.ref p14])) p15=some (.tup [hv,.ref p14]):=a0c;generalize upd L6 p15 (.tup [hv,.ref p14])=L7 at sp15 kp15 ⊢;have zL7:=zL6.trans sp15;ext;refine⟨ru,us,0+(k:Int),k,rfl,rfl,zL7 _ _ hU,by unfold ixN;rw[if_pos qo,if_pos qo];congr 1;omega,?_⟩;have dA:DenL K L7 (u9++[y]++u13) (Trm.dataL ((x.2.drop (HT.sIx x.2.length 0 none)).take (HT.sIx x.2.length x.2.length (some (0+(j:Int)))-HT.sIx x.2.length 0 none)++[t']++(x.2.drop (HT.sIx x.2.length 0 (some (0+(j:Int)+1)))).take (HT.sIx x.2.length x.2.length none-HT.sIx x.2.length 0 (some (0+(j:Int)+1))))):=by
   rw[a3e,a3e];exact((d9.mono (s10.trans (sp11.trans (s12.trans (s13.trans (s14.trans sp15)))))).append (.cons (dy.mono (sp11.trans (s12.trans (s13.trans (s14.trans sp15))))) .nil)).append (d13.mono (s14.trans sp15))
  have e20:(x.2.drop (HT.sIx x.2.length 0 none)).take (HT.sIx x.2.length x.2.length (some (0+(j:Int)))-HT.sIx x.2.length 0 none)=x.2.take j:=by
   rw[a9n,b7w _ _ qo,Um,U0,show min (0+(j:Int)).toNat x.2.length=j by omega]
  have e21:(x.2.drop (HT.sIx x.2.length 0 (some (0+(j:Int)+1)))).take (HT.sIx x.2.length x.2.length none-HT.sIx x.2.length 0 (some (0+(j:Int)+1)))=x.2.drop (j+1):=by
   rw[a9n,b8s _ _ qo,show min (0+(j:Int)+1).toNat x.2.length=j+1 by omega,Yb (by rw[Xk];omega)]
  rw[e20,e21]at dA;have dR:=b4x (x:=(x.1,x.2.take j++[t']++x.2.drop (j+1))) (SqT.of kp15) (g4.mono zL7) (sp15.tup k14) dA;have dS:DenL K L7 (us.set k (.ref p15)) ((rs.set k (x.1,x.2.take j++[t']++x.2.drop (j+1))).map ruE):=by
   rw[Wn];exact a6h dR k (dU.mono zL7)
  refine q _ (rs.set k (x.1,x.2.take j++[t']++x.2.drop (j+1))) _ (λb o hb ee=>?_) a0c (dS.lst (zL7 _ _ hU)) (λy' hy'=>?_) (Yo ..)
  ·rw[a0p hb];exact zL7 _ _ ee
  ·rcases a9e hy' with z|z
   ·exact hR _ z
   ·rw[z];refine⟨hru.ap,hru.z1,λg hg=>?_,?_⟩
    ·rcases Zx.mp hg with z|z
     ·rcases Zx.mp z with z|z
      ·exact hru.z2 _ (Si z)
      ·rw[Zs.mp z,zy];exact hzi
     ·exact hru.z2 _ (Sj z)
    ·show(x.2.take j++[t']++x.2.drop (j+1)).length<=2
     rw[Zf,Zf,Z7,Xk,Zq];omega
end
section
variable{P:Program}{w:World}{K:W.Frag}{mg:Str->Option Value}{base:Heap}{t:Ad}
theorem c2n(T:Txt K mg t)(G_a0:FnOk P w K mg base CX0 1 t.a_a0 t.d_a0 ["_law_state"] (a2e))(n:Nat)(G_a3:FnOk P w K mg base CX0 (n+2) t.a_a3 t.d_a3 ["_law_term_here","_law_state","_law_names_here","_law_words_here"] (a3d K n)):FnOk P w K mg base CX0 (n+2+1) t.a_a3 t.d_a3 ["_law_term_here","_law_state","_law_names_here","_law_words_here"] (a3d K (n+1)):=by
 exists T.F_a3.ok (k:=n+2) a7g,a3d,(a0f (a0s (i:=4) (hs:=a1e) a7g.nd rfl (by nofun) (a0q G_a0 hr.o rfl T.m_a0 T.F_a0.kp T.b_a0 .nil a0v (a0a (mv 1) a0d))) (a0f (a0y (PW.pt (a3p (a0o a1b (a0h (a0g K rfl) (mv 0) a0b (λ_ _=>rfl)) a0r (a0l _)) (a3p (a0o a5h (a0m (a0x K rfl) rfl T.n_a2 Zg (a0a (a0h (a0g K rfl) (mv 0) a0b (λ_ _=>rfl)) a0d)) a0b (a0l _)) (a4l (a0o a5h (a0k a0w (mv 4) a0b) a0b (a0l _)))))) (a0f (a0s (i:=5) (hs:=a3h) a7g.nd rfl (by nofun) (a0k a0w (a0k a1j (mv 4) a0b) (a0m (a0x K rfl) rfl T.n_a2 Zg (a0a (a0h (a0g K rfl) (mv 0) a0b (λ_ _=>rfl)) a0d)))) (a0f (a0s (i:=6) (hs:=a1e) a7g.nd rfl (by nofun) (a1g (a5y K rfl) rfl T.n_e1 W7 (a0a (a0h (a0g K rfl) (mv 0) a0b (λ_ _=>rfl)) a0d))) (a0f (a3q (a0q G_a3 hr.o rfl T.m_a3 T.F_a3.kp T.b_a3 .nil a0v (a0a (a0h (a0g K rfl) (mv 6) (mv 5) (λ_ _=>rfl)) (a0a (mv 1) (a0a (mv 2) (a0a (mv 3) a0d))))) (a4n (mv 6) (mv 5) a3g)) (a0i (a0t (a1d (a0a a0r (a0a (a0h (a0g K rfl) (mv 0) a0b (λ_ _=>rfl)) (a0a (a1g (a4c K rfl) rfl T.n_e2 W5 (a0a (mv 6) a0d)) a0d))))))))) a0u) (a0f (a0y (a0o a1b (a0h (a0g K rfl) (mv 0) a0b (λ_ _=>rfl)) a0r (a0l _)) (a0i (a0t (a0h (a0g K rfl) (a1i (a0a (a1d (a0a a0r (a0a (a0k (a1k K rfl) (a0h (a0g K rfl) (mv 0) a0b (λ_ _=>rfl)) (a0h (a0g K rfl) (a1i (a0a a0b (a0a (pe_un b7q a0b) a0d))) (a1g b4j rfl T.n_e5 Se (a0a (a1x a5h (a0h (a0g K rfl) (mv 0) a0b (λ_ _=>rfl)) a0b (a0l _)) a0d)) (λ_ _=>rfl))) a0d))) (a0a (a1d (a0a a0r (a0a (a0h (a0g K rfl) (mv 2) (a0k a0w (mv 4) a0b) (λ_ _=>rfl)) a0d))) a0d))) (a0k a0w (a0k a1j (mv 4) a0b) a0b) (λ_ _=>rfl)))) a0u) (a0f (a0y (a0o a1b (a0h (a0g K rfl) (mv 0) a0b (λ_ _=>rfl)) a0r (a0l _)) (a0i (a0t (a1d (a0a a0r (a0a (a0h (a0g K rfl) (mv 2) (a0k a0w (mv 4) a0b) (λ_ _=>rfl)) a0d))))) a0u) (a0f (a0y (PW.pt (a3p (a0o a1b (a0k a0w (a0k a1j (mv 4) a0b) a0b) a0b (a0l _)) (a3p (a0o a5h (a0m (a0x K rfl) rfl T.n_a2 Zg (a0a (a0h (a0g K rfl) (mv 0) a0b (λ_ _=>rfl)) a0d)) a0b (a0l _)) (a4l (a0o (b4i K rfl) (a0h (a0g K rfl) (mv 0) a0b (λ_ _=>rfl)) (mv 3) (by with_unfolding_all rfl)))))) (a0i (a0t (a1d (a0a a0r (a0a (a0h (a0g K rfl) (mv 0) a0b (λ_ _=>rfl)) (a0a (a2x (b0s K rfl) (a0h (a0g K rfl) (mv 0) a0b (λ_ _=>rfl)) a3l (a3m (pe_un b7q a0b))) a0d)))))) a0u) (a0f (a0y (PW.pt (a3p (a0o a1b (a0k a0w (a0k a1j (mv 4) a0b) a0b) a0b (a0l _)) (a3p (a0o a5h (a0m (a0x K rfl) rfl T.n_a2 Zg (a0a (a0h (a0g K rfl) (mv 0) a0b (λ_ _=>rfl)) a0d)) a0b (a0l _)) (a4l (a0o (b4i K rfl) (a0h (a0g K rfl) (mv 0) a0b (λ_ _=>rfl)) (mv 3) (by with_unfolding_all rfl)))))) (a0i (a0t (a1d (a0a a0r (a0a (a0h (a0g K rfl) (mv 3) (a0k a0w (a0k a1j (mv 4) a0b) a0b) (λ_ _=>rfl)) (a0a (a2x (b0s K rfl) (a0h (a0g K rfl) (mv 0) a0b (λ_ _=>rfl)) (a3m a0b) a3l) a0d)))))) a0u) (a0f (a0y (a0o (b2b K rfl) (a0h (a0g K rfl) (mv 0) a0b (λ_ _=>rfl)) (mv 3) (by with_unfolding_all rfl)) (a0i (a0t (mv 0))) a0u) (a0i (a0t (a1d (a0a a0r (a0a (a0h (a0g K rfl) (mv 3) (a0k a0w (a0k a1j (mv 4) a0b) a0b) (λ_ _=>rfl)) (a0a (a0h (a0g K rfl) (mv 0) a0b (λ_ _=>rfl)) a0d))))))))))))),H,Q,E,hr,h
 rename_i v st np wp;obtain⟨t0,xs,ws,i0,hd,hst,hX,h9,hW,h4,hz,hn,q⟩:=h;have tp:=t0.size_pos;ext;refine⟨i0,hst,λtv j=>?_⟩;have F1:But st H (upd H st (.lst [.int j])):=λb o hb e=>by rw[a0p hb];exact e
 have k1:(upd H st (.lst [.int j])) st=some (.lst [.int j]):=a0c;have hd1:=hd.monoT (λa xs q=>F1.tup hst q);have hX1:=My.But.strs F1 hst hX;have hW1:=My.But.strs F1 hst hW;generalize upd H st (.lst [.int j])=H1 at F1 k1 hd1 hX1 hW1 ⊢
 (with_reducible refine a7j ?_)
 (with_reducible refine a2y (λσ' J=>∃(o1 o2:Option V),σ'=[some v,some (.ref st),some (.ref np),some (.ref wp),some (.int tv),o1,o2]/\J=H1) (λσ' J hP=>?_) (λkk=>?_))
 ·obtain⟨o1,o2,rfl,hJ⟩:=hP;rw[hJ];ext;cases t0 with
  |any nm0=>
   obtain⟨a,rfl,hs⟩:=a2h hd1
   exists a0j hs (v:=.str anyS) rfl
   refine iteB (λe=>absurd e qk) (λe=>?_);ext
   exists a0j hs (v:=.str anyS) rfl
   refine iteB (λe=>?_) (λe=>absurd e qk);ext;obtain⟨v1,e1,e2⟩:=a2c (xs:=xs.map V.str) (i:=tv%9) qo (by rw[length_map,h9];omega);obtain⟨nm,rfl,hnm⟩:=a5a e1
   exists a1a hX1 e1
   refine⟨ln (by show 2<=100000;decide),λp hp=>?_⟩;have sp:=a0e hp (.tup [.str "any",.str nm]);exact q _ (.any nm) j _ (F1.trans sp.but) (sp _ _ k1) (a5z (SqT.of a0c)) ⟨Zh _,λ_ _ e0=>by cases e0⟩
  |num k=>
   obtain⟨a,rfl,hs⟩:=a2g hd1
   exists a0j hs (v:=.str numS) rfl
   refine iteB (λe=>?_) (λe=>absurd e qk);ext
   exists a0j hs (v:=.int k) rfl
   refine⟨ln (by show 2<=100000;decide),λp1 hp1=>?_⟩;have s1:=a0e hp1 (.lst [.int 1,.int (-1)]);have kk1:(upd H1 p1 (.lst [.int 1,.int (-1)])) p1=some (.lst [.int 1,.int (-1)]):=a0c;generalize upd H1 p1 (.lst [.int 1,.int (-1)])=J1 at s1 kk1 ⊢;ext
   exists a0j (s1.tup hs) (v:=.int k) rfl
   obtain⟨w,hw⟩:∃w,atI [V.int 1,V.int (-1)] (if decide (0<k)=true then 1 else 0)=some (.int w):=by
    by_cases hk0:0<k
    ·rw[Zt hk0];exact⟨-1,rfl⟩
    ·rw[Zo hk0];exact⟨1,rfl⟩
   exists a1a (SqL.of kk1) hw
   refine⟨ln (by show 2<=100000;decide),λp2 hp2=>?_⟩;have s2:=a0e hp2 (.tup [.str "num",.int (k+w)]);have kk2:(upd J1 p2 (.tup [.str "num",.int (k+w)])) p2=some (.tup [.str "num",.int (k+w)]):=a0c;generalize upd J1 p2 (.tup [.str "num",.int (k+w)])=J2 at s2 kk2 ⊢;ext;obtain⟨v1,e1,e2⟩:=a2c (xs:=xs.map V.str) (i:=tv%9) qo (by rw[length_map,h9];omega);obtain⟨nm,rfl,hnm⟩:=a5a e1
   exists a1a ((s1.trans s2).seq hX1) e1
   refine⟨ln (by show 2<=100000;decide),λp3 hp3=>?_⟩;have s3:=a0e hp3 (.tup [.str "any",.str nm]);have kk3:(upd J2 p3 (.tup [.str "any",.str nm])) p3=some (.tup [.str "any",.str nm]):=a0c;generalize upd J2 p3 (.tup [.str "any",.str nm])=J3 at s3 kk3 ⊢;ext;refine⟨ln (by show 2<=100000;decide),λp4 hp4=>?_⟩;have s4:=a0e hp4 (.lst [.ref p2,.ref p3]);have kk4:(upd J3 p4 (.lst [.ref p2,.ref p3])) p4=some (.lst [.ref p2,.ref p3]):=a0c;generalize upd J3 p4 (.lst [.ref p2,.ref p3])=J4 at s4 kk4 ⊢;have ss:=s1.trans (s2.trans (s3.trans s4));ext;rcases(show tv/9%2=0\/tv/9%2=1 by omega)with e|e
   ·rw[e]
    exists a1a (SqL.of kk4) (v:=.ref p2) rfl
    exact q _ (.num (k+w)) j _ (F1.trans ss.but) (ss _ _ k1) (b5c (SqT.of ((s3.trans s4) _ _ kk2))) ⟨Zh _,λ_ _ e0=>by cases e0⟩
   ·rw[e]
    exists a1a (SqL.of kk4) (v:=.ref p3) rfl
    exact q _ (.any nm) j _ (F1.trans ss.but) (ss _ _ k1) (a5z (SqT.of (s4 _ _ kk3))) ⟨Zh _,λ_ _ e0=>by cases e0⟩
  |app sg ks=>
   obtain⟨a,b,us,rfl,hs,hb,hk⟩:=a1l hd1;have hkl:=hk.length;rw[Trm.dataL_map,length_map]at hkl;have zl:=Trm.len_le ks;simp only[Trm.size]at hz
   exists a0j hs (v:=.str appS) rfl
   refine iteB (λe=>absurd e qk) (λe=>?_);ext
   exists a0j hs (v:=.str appS) rfl
   refine iteB (λe=>absurd e qk) (λe=>?_);ext;have W:∃w,atI (ws.map V.str) (tv/15%4)=some (.str w)/\w∈ws:=by
    obtain⟨v1,e1,e2⟩:=a2c (xs:=ws.map V.str) (i:=tv/15%4) qo (by rw[length_map,h4];omega);obtain⟨nm,rfl,hnm⟩:=a5a e1;exact⟨nm,e1,hnm⟩
   obtain⟨wd,hwd,hwm⟩:=W;refine a3v ?_ (λhF e=>?_)
   ·refine iteF ?_;ext;refine a3v ?_ (λhF e=>?_)
    ·refine iteF ?_;ext
     exists a0j hs (v:=.str sg) rfl
     exists b3e ws (.inl hW1)
     by_cases hsg:sg∈ws
     ·rw[Zt hsg];refine iteF ?_;ext
      exists a1a hW1 hwd
      exists a0j hs (v:=.ref b) rfl
      refine⟨ln (by show 3<=100000;decide),λp3 hp3=>?_⟩;have s3:=a0e hp3 (.tup [.str "app",.str wd,.ref b]);exact q _ (.app wd ks) j _ (F1.trans s3.but) (s3 _ _ k1) (a3f (SqT.of a0c) (s3.tup hb) (hk.mono s3)) ⟨by simp only[Trm.size];omega,λs0 k0 e0=>by cases e0;exact⟨_,_,rfl,.inr ⟨hsg,hwm⟩⟩⟩
     ·rw[Zo hsg];refine iteT ?_;ext;exact q _ (.app sg ks) j _ F1 k1 hd1 ⟨Zh _,λs0 k0 e0=>by cases e0;exact⟨_,_,rfl,.inl ⟨rfl,rfl⟩⟩⟩
    ·ext
     exists a0j hs (v:=.ref b) rfl
     exists a3a hb
     refine a3v hF (λ_ e2=>?_);ext
     exists a0j hs (v:=.str sg) rfl
     exists b2c ws (.inl hW1)
     refine iteB (λe3=>?_) (λe3=>hF);have hsg:sg∈ws:=Zr e3;ext
     exists a1a hW1 hwd
     exists a0j hs (v:=.ref b) rfl
     refine⟨b,us,rfl,hb,λ_=>?_,λ_ p hp=>?_⟩
     ·ext;refine⟨ln (by show 3<=100000;decide),λp3 hp3=>?_⟩;have s3:=a0e hp3 (.tup [.str "app",.str wd,.ref b]);exact q _ (.app wd ks) j _ (F1.trans s3.but) (s3 _ _ k1) (a3f (SqT.of a0c) (s3.tup hb) (hk.mono s3)) ⟨by simp only[Trm.size];omega,λs0 k0 e0=>by cases e0;exact⟨_,_,rfl,.inr ⟨hsg,hwm⟩⟩⟩
     ·rw[a6e us 1 qo,show(1:Int).toNat=1 from rfl];have s2:=a0e hp (.tup (us.drop 1));have kk2:(upd H1 p (.tup (us.drop 1))) p=some (.tup (us.drop 1)):=a0c;generalize upd H1 p (.tup (us.drop 1))=J2 at s2 kk2 ⊢;ext;refine⟨ln (by show 3<=100000;decide),λp3 hp3=>?_⟩;have s3:=a0e hp3 (.tup [.str "app",.str wd,.ref p]);have ss:=s2.trans s3;have zz:=a4u ks 1;have dcut:DenL K H1 (us.drop 1) (Trm.dataL (ks.drop 1)):=by rw[<-b0a];exact hk.drop 1
      exact q _ (.app wd (ks.drop 1)) j _ (F1.trans ss.but) (ss _ _ k1) (a3f (SqT.of a0c) (SqT.of (s3 _ _ kk2)) (dcut.mono ss)) ⟨by simp only[Trm.size];omega,λs0 k0 e0=>by cases e0;exact⟨_,_,rfl,.inr ⟨hsg,hwm⟩⟩⟩
   ext
   exists a0j hs (v:=.ref b) rfl
   exists a3a hb
   refine a3v hF (λ_ e2=>?_);ext
   exists a0j hs (v:=.str sg) rfl
   exists b2c ws (.inl hW1)
   refine iteB (λe3=>?_) (λe3=>hF);have hsg:sg∈ws:=Zr e3;ext
   exists a0j hs (v:=.str sg) rfl
   exists a0j hs (v:=.ref b) rfl
   refine⟨b,us,rfl,hb,λ_=>?_,λ_ p hp=>?_⟩
   ·ext;refine⟨ln (by show 3<=100000;decide),λp3 hp3=>?_⟩;have s3:=a0e hp3 (.tup [.str "app",.str sg,.ref b]);exact q _ (.app sg ks) j _ (F1.trans s3.but) (s3 _ _ k1) (a3f (SqT.of a0c) (s3.tup hb) (hk.mono s3)) ⟨by simp only[Trm.size];omega,λs0 k0 e0=>by cases e0;exact⟨_,_,rfl,.inr ⟨hsg,hsg⟩⟩⟩
   ·rw[c7j,Sa,hkl];have s2:=a0e hp (.tup (us.take (ks.length-1)));have kk2:(upd H1 p (.tup (us.take (ks.length-1)))) p=some (.tup (us.take (ks.length-1))):=a0c;generalize upd H1 p (.tup (us.take (ks.length-1)))=J2 at s2 kk2 ⊢;ext;refine⟨ln (by show 3<=100000;decide),λp3 hp3=>?_⟩;have s3:=a0e hp3 (.tup [.str "app",.str sg,.ref p]);have ss:=s2.trans s3;have zz:=a4u ks (ks.length-1);have dcut:DenL K H1 (us.take (ks.length-1)) (Trm.dataL (ks.take (ks.length-1))):=by rw[<-a9z];exact hk.take _
    exact q _ (.app sg (ks.take (ks.length-1))) j _ (F1.trans ss.but) (ss _ _ k1) (a3f (SqT.of a0c) (SqT.of (s3 _ _ kk2)) (dcut.mono ss)) ⟨by simp only[Trm.size];omega,λs0 k0 e0=>by cases e0;exact⟨_,_,rfl,.inr ⟨hsg,hsg⟩⟩⟩
 ·ext;cases t0 with
  |any nm0=>
   obtain⟨a,rfl,hs⟩:=a2h hd1
   exists a0j hs (v:=.str anyS) rfl
   refine iteB (λe=>absurd e qk) (λe=>?_);refine iteF ?_;ext;exact kk _ _ ⟨none,none,rfl,rfl⟩
  |num nm0=>
   obtain⟨a,rfl,hs⟩:=a2g hd1
   exists a0j hs (v:=.str numS) rfl
   refine iteB (λe=>absurd e qk) (λe=>?_);refine iteF ?_;ext;exact kk _ _ ⟨none,none,rfl,rfl⟩
  |app sg ks=>
   obtain⟨a,b,us,rfl,hs,hb,hk⟩:=a1l hd1;have hkl:=hk.length;rw[Trm.dataL_map,length_map]at hkl;have zl:=Trm.len_le ks;simp only[Trm.size]at hz
   exists a0j hs (v:=.str appS) rfl
   refine a3v ?_ (λhF e=>?_)
   ·refine iteF ?_;ext;exact kk _ _ ⟨none,none,rfl,rfl⟩
   ext
   exists a0j hs (v:=.ref b) rfl
   exists a3a hb
   refine a3v hF (λ_ e=>?_);have hl0:=Zr e;ext;refine iteB (λe=>?_) (λe=>hF);ext
   exists a0j hs (v:=.ref b) rfl
   exists a3a hb
   exists m2_i (show(0:Int)<(us.length:Int)from hl0)
   exists a0j hs (v:=.ref b) rfl
   refine⟨b,us,rfl,.inr hb,λD hD=>?_⟩;have sD:=a0e hD (.lst us);have kD:(upd H1 D (.lst us)) D=some (.lst us):=a0c;have nD:D≠st:=λz=>by rw[z,k1]at hD;cases hD
   generalize upd H1 D (.lst us)=J1 at sD kD ⊢;ext;obtain⟨x,hx1,hx2⟩:=a2c (xs:=us) (i:=tv/5%(us.length:Int)) (Yw _ qo) (Yj _ hl0);have hxi:=(Z3.mp hx2).1
   exists a1a (SqL.of kD) hx1
   have a0:0<=tv/5%(us.length:Int):=Yw _ qo;have a1:tv/5%(us.length:Int)<us.length:=Yj _ hl0;generalize hat:(tv/5%(us.length:Int))=ai at hx1 hx2 hxi a0 a1 ⊢;have hki:ai.toNat<ks.length:=by omega
   obtain⟨d,e1,e2⟩:=hk.get hx2;rw[Trm.dataL_map,Zz,Za hki]at e1;obtain rfl:ks[ai.toNat].data=d:=Zk e1;have z1:=a4v (Za hki);refine⟨ks[ai.toNat],xs,ws,j,e2.mono sD,sD _ _ k1,sD.seq hX1,h9,sD.seq hW1,h4,qo,qo,λy t' j2 J2 B2 kj dy sy=>?_⟩;have kD2:J2 D=some (.lst us):=B2 _ _ nD kD;ext;refine⟨D,us,ai,ai.toNat,rfl,rfl,kD2,?_,?_⟩
   ·unfold ixN;rw[if_pos a0,if_pos a1]
   have dd:DenL K J2 (us.set ai.toNat y) (Trm.dataL (ks.set ai.toNat t')):=by
    rw[<-b6l];exact a6h dy _ ((hk.mono sD).monoT λa xs q=>B2.tup (sD _ _ k1) q)
   have hs2:=B2.tup (sD _ _ k1) (sD.tup hs);have zz:=b6m ks ai.toNat t' _ (Za hki) sy.1;have m1:DenL K (upd J2 D (.lst (us.set ai.toNat y))) (us.set ai.toNat y) (Trm.dataL (ks.set ai.toNat t')):=dd.lst kD2;have m2:(upd J2 D (.lst (us.set ai.toNat y))) D=some (.lst (us.set ai.toNat y)):=a0c;have m3:(upd J2 D (.lst (us.set ai.toNat y))) st=some (.lst [.int j2]):=by rw[a0p nD.symm];exact kj
   have m4:SqT K (upd J2 D (.lst (us.set ai.toNat y))) a [.str appS,.str sg,.ref b]:=b1x kD2 _ _ hs2;have m5:But st H (upd J2 D (.lst (us.set ai.toNat y))):=λb' o' hb' e'=>by
    have e3:=F1 b' o' hb' e';have nb:b'≠D:=λz=>by rw[z,hD]at e3;cases e3
    rw[a0p nb];exact B2 b' o' hb' (sD _ _ e3)
   generalize upd J2 D (.lst (us.set ai.toNat y))=J3 at m1 m2 m3 m4 m5 ⊢;ext
   exists a0j m4 (v:=.str sg) rfl
   refine a5p (SqL.of m2) (λp2 hp2=>?_);have s2:=a0e hp2 (.tup (us.set ai.toNat y));have kk2:(upd J3 p2 (.tup (us.set ai.toNat y))) p2=some (.tup (us.set ai.toNat y)):=a0c;generalize upd J3 p2 (.tup (us.set ai.toNat y))=J4 at s2 kk2 ⊢;ext;refine⟨ln (by show 3<=100000;decide),λp3 hp3=>?_⟩;have s3:=a0e hp3 (.tup [.str "app",.str sg,.ref p2]);have ss:=s2.trans s3;exact q _ (.app sg (ks.set ai.toNat t')) j2 _ (m5.trans ss.but) (ss _ _ m3) (a3f (SqT.of a0c) (SqT.of (s3 _ _ kk2)) (m1.mono ss)) ⟨by simp only[Trm.size];omega,λs0 k0 e0=>by cases e0;exact⟨_,_,rfl,.inl ⟨rfl,Yo ..⟩⟩⟩
theorem c2o(T:Txt K mg t)(G_a0:FnOk P w K mg base CX0 1 t.a_a0 t.d_a0 ["_law_state"] (a2e))(n:Nat):FnOk P w K mg base CX0 (n+2) t.a_a3 t.d_a3 ["_law_term_here","_law_state","_law_names_here","_law_words_here"] (a3d K n):=by
 induction n with
 |zero=>
  have no:∀vs H Q E,(a3d K 0) vs H Q E->False:=λvs H Q E h=>by
   unfold a3d at h;split at h
   ·exact c2l h
   ·exact h
  exact⟨λvs H Q E h=>(no vs H Q E h).elim,λA outer s H args us vs Q E _ _ _ _ h=>(no vs H Q E h).elim⟩
 |succ n ih=>
  have e:n+1+2=n+2+1:=by omega
  rw[e];exact c2n T G_a0 n ih
end
section
variable{P:Program}{w:World}{K:W.Frag}{mg:Str->Option Value}{base:Heap}{t:Ad}
theorem c8o(T:Txt K mg t)(G_a0:FnOk P w K mg base CX0 1 t.a_a0 t.d_a0 ["_law_state"] (a2e))(n:Nat)(G_a5:FnOk P w K mg base CX0 (n+2) t.a_a5 t.d_a5 ["_law_term_here","_law_parted","_law_names_here","_law_state","_law_within"] (a4x K n)):FnOk P w K mg base CX0 (n+2+1) t.a_a5 t.d_a5 ["_law_term_here","_law_parted","_law_names_here","_law_state","_law_within"] (a4x K (n+1)):=by
 exists T.F_a5.ok (k:=n+2) a9x,a4x,(a0f (a0s (i:=5) (hs:=a1e) a9x.nd rfl (by nofun) (a0q G_a0 hr.o rfl T.m_a0 T.F_a0.kp T.b_a0 .nil a0v (a0a (mv 3) a0d))) (a0f (a0y (PW.pt (a7b (a0o a1b (a0h (a0g K rfl) (mv 0) a0b (λ_ _=>rfl)) a0r (a0l _)) (a7m (PW.pt (a3p (a0o a9l (a0k a0w (mv 5) a0b) a0b (a0l _)) (a4l (a6q (a7q K rfl (mv 4))))))))) (a0i (a3r Yi rfl (a1n rfl T.n_d9 (a0a a0b a0d)) (a1w (i:=6) a9x.nd rfl (by nofun)) (a0f (a0s (i:=7) (hs:=a4j) a9x.nd rfl (by nofun) (a0h (a0g K rfl) (a0k (a1k K rfl) (mv 2) (a2n rfl (a1n rfl T.n_d9 (a0a a0b a0d)) (a1u (a0n a9a) ["_law_term_here","_law_parted","_law_names_here","_law_state","_law_within","_law_turn","_law_k","_law_name"] ["_law_term_here","_law_parted","_law_names_here","_law_state","_law_within","_law_turn","_law_k","_law_name"] rfl rfl qk) (λ_ _ _ _ _=>a1y) (λ_ _ _ _ _=>(a0k (a1k K rfl) a0r (a1g c4o rfl T.n_e7 boot_str (a0a (mv 0) a0d)))))) (a0k a0w (a0k (a1k K rfl) (a0k a0w (a0k a1j (mv 5) a0b) a0b) (mv 6)) a0b) (λ_ _=>rfl))) (a0i (a0y (a0o (b8g K rfl (a3t hr)) (b7m (a9j hr) (mv 1) (mv 7) (mv 0) ⟨rfl,rfl,rfl,rfl⟩) (mv 0) (a0l _)) (a0f (b1s (a9j hr) (mv 1) (mv 7) (mv 0) rfl) (a0i (a0t (a1d (a0a a0r (a0a (mv 7) a0d)))))) a0u))))) a0u) (a0f (a0y (a0o a7d (a0h (a0g K rfl) (mv 0) a0b (λ_ _=>rfl)) a0r (a0l _)) (a0i (a0t (mv 0))) a0u) (a0i (a0t (a1d (a0a a0r (a0a (a0h (a0g K rfl) (mv 0) a0b (λ_ _=>rfl)) (a0a (a1g (a4c K rfl) rfl T.n_e2 W5 (a0a (a2n rfl (b5b K rfl (a0h (a0g K rfl) (mv 0) a0b (λ_ _=>rfl))) (a1u (a0n a9a) ["_law_term_here","_law_parted","_law_names_here","_law_state","_law_within","_law_turn","_law_k","_law_name"] ["_law_term_here","_law_parted","_law_names_here","_law_state","_law_within","_law_turn","_law_k","_law_name"] rfl rfl qk) (λ_ _ _ _ _=>a1y) (λ_ _ _ _ _=>(a0q G_a5 hr.o rfl T.m_a5 T.F_a5.kp T.b_a5 .nil a0v (a0a (mv 0) (a0a (mv 2) (a0a (mv 3) (a0a (mv 4) (a0a a3x a0d)))))))) a0d)) a0d))))))))),H,Q,E,hr,h
 rename_i v dd np st wi;obtain⟨t0,rows,m,xs,hd,hO,hM,hX,h9,hm,hz,hn,q⟩:=h;obtain⟨i0,hst⟩:=hO.st';have tp:=t0.size_pos;ext;refine⟨i0,hst,λtv j=>?_⟩;have O1:=hO.turn (j:=j);have F1:Fr2 dd st H (upd H st (.lst [.int j])):=c8h;have hd1:=F1.den hO hd;have hX1:=F1.np hO hX;generalize upd H st (.lst [.int j])=H1 at O1 F1 hd1 hX1 ⊢
 (with_reducible refine a7j ?_)
 (with_reducible refine a2y (λσ' J=>∃(o1 o2:Option V),σ'=[some v,some (.ref dd),some (.ref np),some (.ref st),some (.bl wi),some (.int tv),o1,o2]/\Same H1 J) (λσ' H2 hP=>?_) (λkk=>?_))
 ·obtain⟨o1,o2,rfl,sJ⟩:=hP
  replace O1:=O1.same sJ
  replace F1:=F1.trans (Fr2.of sJ)
  replace hd1:=hd1.mono sJ
  replace hX1:=sJ _ _ hX1
  clear sJ;ext;cases t0 with
  |any k=>
   obtain⟨a,rfl,hs⟩:=a2h hd1
   exists a0j hs (v:=.str anyS) rfl
   refine iteB (λe=>?_) (λe=>absurd e qk);ext;exact q _ _ rows _ F1 (O1.more qo) hM hd1 (Zh _) (λ_ _ _ e=>by cases e)
  |num k=>
   obtain⟨a,rfl,hs⟩:=a2g hd1
   exists a0j hs (v:=.str numS) rfl
   refine iteB (λe=>?_) (λe=>absurd e qk);ext;exact q _ _ rows _ F1 (O1.more qo) hM hd1 (Zh _) (λ_ _ _ e=>by cases e)
  |app sg ks=>
   obtain⟨a,b,us,rfl,hs,hb,hk⟩:=a1l hd1;have hkl:=hk.length;rw[Trm.dataL_map,length_map]at hkl;have zl:=Trm.len_le ks;simp only[Trm.size]at hz hm
   exists a0j hs (v:=.str appS) rfl
   refine iteB (λe=>absurd e qk) (λe=>?_);ext
   exists a0j hs (v:=.str sg) rfl
   refine a0j hs (v:=.ref b) rfl ?_;refine⟨b,rfl,⟨_,hb⟩,λD hD=>?_⟩;have sD:=a0e hD (.lst []);have nD1:D≠dd:=λz=>by obtain⟨kvs,c1,_⟩:=O1.put.ex;rw[z,c1]at hD;cases hD
   have nD2:D≠st:=λz=>by obtain⟨i,hi⟩:=O1.st';rw[z,hi]at hD;cases hD
   have hmm:∀i,m+Trm.sizeL (ks.take i)<=m+Trm.sizeL ks:=λi=>by
    have:=a4u ks i;omega
   refine a1t (b1u (xs:=us)) (λi ys J=>Fr2 dd st H2 J/\J D=some (.lst ys)/\∃(r:Rws)(ts:List Trm),a1s K J dd st r (m+Trm.sizeL (ks.take i))/\SmR r/\DenL K J ys (Trm.dataL ts)/\Trm.sizeL ts<=Trm.sizeL (ks.take i)) (ln qo) ⟨Fr2.of sD,a0c,rows,[],(O1.same sD).more qo,hM,.nil,by simp[Trm.sizeL]⟩ (λi ys J hP=>hP.1.sq O1 hb) (λi ys J Q' hi' hl' hP k=>?_) (λys J hl' hP=>?_)
   ·obtain⟨g1,g2,r,ts,g3,gM,g4,g5⟩:=hP;have hki:i<ks.length:=by omega
    have hx:us[i]? =some us[i]:=Za hi'
    have hg:us.getD i .non=us[i]:=by rw[Zm,hx];rfl
    obtain⟨d,e1,e2⟩:=hk.get hx;rw[Trm.dataL_map,Zz,Za hki]at e1;obtain rfl:ks[i].data=d:=Zk e1;have z1:=a4v (Za hki);have z4:ks.take (i+1)=ks.take i++[ks[i]]:=by rw[Wr,Za hki];rfl
    have z3:=Trm.sizeL_app (ks.take i) [ks[i]];rw[<-z4]at z3;have z5:Trm.sizeL [ks[i]]=ks[i].size:=by simp[Trm.sizeL]
    have z6:=hmm (i+1);ext;rw[hg];refine⟨ks[i],r,m+Trm.sizeL (ks.take i),xs,g1.den O1 e2,g3,gM,g1.np O1 hX1,h9,qo,qo,qo,λx t' r' J2 F2 O2 M2 dx sx _=>?_⟩;have g6:J2 D=some (.lst ys):=F2 _ _ nD1 nD2 g2;refine k _ _ g6 ⟨?_,a0c,r',ts++[t'],?_,M2,?_,?_⟩
    ·exactλb' o' h1 h2 h=>by
      have hbD:b'≠D:=λz=>by rw[z,hD]at h;cases h
      rw[a0p hbD];exact(g1.trans F2) b' o' h1 h2 h
    ·obtain⟨i3,hi3⟩:=O2.st';refine⟨O2.put.lst g6,⟨by have:=O2.rw'.len;omega,O2.rw'.small⟩,O2.nod,i3,?_⟩;rw[a0p (Ne.symm nD2)];exact hi3
    ·rw[a3e];exact((F2.denL g3 g4).append (.cons dx .nil)).lst g6
    ·rw[Trm.sizeL_app];have:Trm.sizeL [t']=t'.size:=by simp[Trm.sizeL]
     omega
   obtain⟨g1,g2,r,ts,g3,gM,g4,g5⟩:=hP;rw[Yb qo]at g3 g5;ext;refine a5p (SqL.of g2) (λp2 hp2=>?_);have s2:=a0e hp2 (.tup ys);have k2:(upd J p2 (.tup ys)) p2=some (.tup ys):=a0c;generalize upd J p2 (.tup ys)=J2 at s2 k2 ⊢;ext;refine⟨ln (by show 3<=100000;decide),λp3 hp3=>?_⟩;have s3:=a0e hp3 (.tup [.str "app",.str sg,.ref p2]);have ss:=s2.trans s3;exact q _ (.app sg ts) r _ (F1.trans (g1.trans (Fr2.of ss))) ((g3.same ss).more (by simp only[Trm.size];omega)) gM (a3f (SqT.of a0c) (SqT.of (s3 _ _ k2)) (g4.mono ss)) (by simp only[Trm.size];omega) (λ_ s0 k0 e0=>by cases e0;exact⟨_,rfl⟩)
 ·ext
  by_cases hA:wi=true/\∃s ks,t0=.app s ks
  ·obtain⟨rfl,sg,ks,rfl⟩:=hA;obtain⟨a,b,us,rfl,hs,hb,hk⟩:=a1l hd1
   exists a0j hs (v:=.str appS) rfl
   refine iteB (λe=>absurd e qk) (λe=>?_);ext;refine a3v ?_ (λhF e=>?_)
   ·refine iteF ?_;ext;exact kk _ _ ⟨none,none,rfl,Same.refl _⟩
   ·ext;exact hF
  ·obtain⟨a,tg,r,rfl,hs⟩:=den_tag hd1
   exists a0j hs (v:=.str tg) (a1r (V0 _) rfl)
   refine ite_or ?_ (λhT e=>?_)
   ·refine iteT ?_;ext;refine⟨20,rfl,qo,qo,?_⟩;refine a3s (a1o 0 (20:Int).toNat) (λi σ' J=>∃(o1 o2:Option V),σ'=[some (.ref a),some (.ref dd),some (.ref np),some (.ref st),some (.bl wi),some (.int tv),o1,o2]/\Same H1 J) ⟨none,none,rfl,Same.refl _⟩ (λ_ _ _ _=>trivial) (λi σ' J hi hP=>?_) (λσ' J hP=>?_)
    ·obtain⟨o1,o2,rfl,sJ⟩:=hP;ext;refine⟨11,rfl,qo,qo,λD hD=>?_⟩;refine a1t (a1o 0 (11:Int).toNat) (λi ys J'=>Same J J'/\J' D=some (.lst ys)/\∃zs:List Str,ys=zs.map V.str) (ln (by show 11<=100000;decide)) ⟨a0e hD _,a0c,[],rfl⟩ (λ_ _ _ _=>trivial) (λi ys J' Q' hi hl hP k=>?_) (λys J' hl hP=>?_)
     ·obtain⟨g1,g2,zs,rfl⟩:=hP;have hi:i<11:=hi;ext
      exists c4q qo qo
      have e9:(ofString "Spare").length+(⟨(a3b (0+(i:Int)).toNat).toArray⟩:Str).length<=100000:=by
       have e5:(ofString "Spare").length=5:=by decide+kernel
       have e6:=c5y ⟨(0+(i:Int)).toNat,qo⟩;rw[e5,str_len]
       show 5+(a3b (0+(i:Int)).toNat).length<=100000
       have e6:(a3b (0+(i:Int)).toNat).length<=9:=e6;omega
      refine a8x (ln e9) ?_;exact k _ _ g2 ⟨a1f g1 hD,a0c,zs++[ofString "Spare"++⟨(a3b (0+(i:Int)).toNat).toArray⟩],by rw[Zi];rfl⟩
     obtain⟨g1,g2,zs,rfl⟩:=hP;have hl:zs.length=11:=by rw[length_map]at hl;exact hl
     ext;have hX2:=g1 _ _ (sJ _ _ hX1);refine a7r hX2 g2 (ln (by rw[length_map,length_map];omega)) (λd hdn=>?_);rw[<-Zi];have s3:=a0e hdn (.lst ((xs++zs).map V.str));have k3:(upd J' d (.lst ((xs++zs).map V.str))) d=some (.lst ((xs++zs).map V.str)):=a0c;generalize upd J' d (.lst ((xs++zs).map V.str))=J2 at s3 k3 ⊢;have s2:=sJ.trans (g1.trans s3);ext;obtain⟨v1,e1,e2⟩:=a2c (xs:=(xs++zs).map V.str) (i:=(tv/100%9+(0+(i:Int)))%20) qo (by rw[length_map,Zf,h9,hl];omega);obtain⟨nm,rfl,hnm⟩:=a5a e1
     exists a1a (SqL.of k3) e1
     have O2:=O1.same s2;have hd2:=hd1.mono s2;obtain⟨kvs,c1,c2⟩:=O2.put.ex;have hkl:=c2.len;have hrl:=O2.rw'.len;refine⟨dd,rfl,.inl ⟨kvs,.inl c1⟩,?_⟩;ext;rcases O2.put.get nm with⟨l1,l2⟩|⟨tw,w',l1,l2,l3⟩
     ·refine⟨_,l2,?_⟩;ext;refine a6u hd2 hd2 qo ?_;rw[a9o];ext;refine iteB (λe=>?_) (λe=>absurd e qz);ext;refine⟨dd,_,rfl,DPut.k (k:=Sum.inr nm) c1 (by rw[Yh];omega),?_⟩;have O3:=O2.putR (x:=nm) c1 c2 hd2 qo;have F3:Fr2 dd st J2 (upd J2 dd (.dK (putK kvs (Sum.inr nm) (.ref a)))):=c1a;generalize upd J2 dd (.dK (putK kvs (Sum.inr nm) (.ref a)))=J3 at O3 F3 ⊢;ext;refine⟨ln (by show 2<=100000;decide),λp hp=>?_⟩;have sp:=a0e hp (.tup [.str "any",.str nm]);exact q _ (.any nm) _ _ (F1.trans ((Fr2.of s2).trans (F3.trans (Fr2.of sp)))) ((O3.same sp).more qo) (hM.put qo) (a5z (SqT.of a0c)) tp (λhw s0 k0 e0=>(hA ⟨hw,s0,k0,e0⟩).elim)
     ·refine⟨_,l2,?_⟩;ext
      exists a6u l3 hd2 (O2.rw'.small _ (a7s l1))
      cases hq:eqb tw t0 with
      |false=>
       refine iteB (λe=>absurd e qz) (λe=>?_);ext;exact⟨_,_,rfl,s2⟩
      |true=>
       refine iteB (λe=>?_) (λe=>absurd e qz);ext;refine⟨dd,_,rfl,DPut.k (k:=Sum.inr nm) c1 (by rw[Yh];omega),?_⟩;have O3:=O2.putR (x:=nm) c1 c2 hd2 qo;have F3:Fr2 dd st J2 (upd J2 dd (.dK (putK kvs (Sum.inr nm) (.ref a)))):=c1a;generalize upd J2 dd (.dK (putK kvs (Sum.inr nm) (.ref a)))=J3 at O3 F3 ⊢;ext;refine⟨ln (by show 2<=100000;decide),λp hp=>?_⟩;have sp:=a0e hp (.tup [.str "any",.str nm]);exact q _ (.any nm) _ _ (F1.trans ((Fr2.of s2).trans (F3.trans (Fr2.of sp)))) ((O3.same sp).more qo) (hM.put qo) (a5z (SqT.of a0c)) tp (λhw s0 k0 e0=>(hA ⟨hw,s0,k0,e0⟩).elim)
    ·obtain⟨o1,o2,rfl,sJ⟩:=hP;ext;exact kk _ _ ⟨_,_,rfl,sJ⟩
   ·ext;refine a3v ?_ (λhF e=>?_)
    ·refine iteF ?_;ext;exact kk _ _ ⟨none,none,rfl,Same.refl _⟩
    ·ext;cases wi
     ·exact hT
     ·exact hF
theorem c8p(T:Txt K mg t)(G_a0:FnOk P w K mg base CX0 1 t.a_a0 t.d_a0 ["_law_state"] (a2e))(n:Nat):FnOk P w K mg base CX0 (n+2) t.a_a5 t.d_a5 ["_law_term_here","_law_parted","_law_names_here","_law_state","_law_within"] (a4x K n):=by
 induction n with
 |zero=>
  have no:∀vs H Q E,(a4x K 0) vs H Q E->False:=λvs H Q E h=>by
   unfold a4x at h;split at h
   ·exact c8i h
   ·exact h
  exact⟨λvs H Q E h=>(no vs H Q E h).elim,λA outer s H args us vs Q E _ _ _ _ h=>(no vs H Q E h).elim⟩
 |succ n ih=>
  have e:n+1+2=n+2+1:=by omega
  rw[e];exact c8o T G_a0 n ih
end
section
variable{P:Program}{w:World}{K:W.Frag}{mg:Str->Option Value}{base:Heap}{t:Ad}
theorem c6d(T:Txt K mg t)(G_a0:FnOk P w K mg base CX0 1 t.a_a0 t.d_a0 ["_law_state"] (a2e))(G_b4:FnOk P w K mg base CX0 2 t.a_b4 t.d_b4 ["_law_cells","_law_names_here","_law_words_here"] (a8j K)):FnOk P w K mg base CX0 3 t.a_a6 t.d_a6 ["_law_names_here","_law_words_here","_law_state"] (a6x K):=by
 exists T.F_a6.ok a8i,a6x,(a0f (a0s (i:=3) (hs:=a6s) a8i.nd rfl (by nofun) (a1i a0d)) (a0f (a3r Yi rfl (a1n rfl T.n_d9 (a0a (a0k a0w (a0q G_a0 hr.o rfl T.m_a0 T.F_a0.kp T.b_a0 .nil a0v (a0a (mv 2) a0d)) a0b) a0d)) (a1w (i:=4) a8i.nd rfl (by nofun)) (a0f (a8w (i:=5) a8i.nd rfl (by nofun) rfl (a1n rfl T.n_d9 (a0a (a0k a0w (a0q G_a0 hr.o rfl T.m_a0 T.F_a0.kp T.b_a0 .nil a0v (a0a (mv 2) a0d)) a0b) a0d)) (a1u (a0n a9v) ["_law_names_here","_law_words_here","_law_state","_law_kids","_law_k","_law_cells"] ["_law_names_here","_law_words_here","_law_state","_law_kids","_law_k","_law_cells"] rfl rfl qk) (λ_ _ _ _ _=>a1y) (λ_ _ _ _ _=>(a0q G_a0 hr.o rfl T.m_a0 T.F_a0.kp T.b_a0 .nil a0v (a0a (mv 3) a0d)))) (a0i (a2f (a4a K rfl Z9 Yq Yy a2t (mv 3) (a0a (a0q G_b4 hr.o rfl T.m_b4 T.F_b4.kp T.b_b4 .nil a0v (a0a (mv 5) (a0a (mv 0) (a0a (mv 1) a0d)))) a0d)))))) (a0i (a0t (a1d (a0a a0r (a0a (a0h (a0g K rfl) (mv 1) (a0k a0w (a0q G_a0 hr.o rfl T.m_a0 T.F_a0.kp T.b_a0 .nil a0v (a0a (mv 2) a0d)) a0b) (λ_ _=>rfl)) (a0a (a1g (a4c K rfl) rfl T.n_e2 W5 (a0a (mv 3) a0d)) a0d)))))))),H,Q,E,hr,h
 rename_i np wp st;obtain⟨xs,ws,i1,hX,h9,hW,hw,hst,q⟩:=h;have n0:NS K H np wp st xs ws:=⟨hX,hW,i1,hst⟩;ext;refine⟨ln (by show 0<=100000;decide),λkp hkp=>?_⟩;have skp:Same H (upd H kp (.lst [])):=a0e hkp _;have kkp:(upd H kp (.lst [])) kp=some (.lst []):=a0c;generalize upd H kp (.lst [])=H1 at skp kkp ⊢;ext;have nk:kp≠st:=λz=>by rw[z,hst]at hkp;cases hkp
 have n1:=n0.same skp;obtain⟨i0,hi0⟩:=n1.s;refine⟨i0,hi0,λt1 j1=>?_⟩;have bH2:But st H1 (upd H1 st (.lst [.int j1])):=a3i;have kH2:(upd H1 st (.lst [.int j1])) st=some (.lst [.int j1]):=a0c;have nH2:=n1.but bH2 kH2;generalize upd H1 st (.lst [.int j1])=H2 at bH2 kH2 nH2 ⊢;ext;refine⟨t1%4,rfl,qo,qo,?_⟩;refine a3s (a1o 0 (t1%4).toNat) (λi σ' J=>∃(o1 o2:Option V)(us:List V)(ts:List Trm)(j:Int),σ'=[some (.ref np),some (.ref wp),some (.ref st),some (.ref kp),o1,o2]/\But st H J/\J st=some (.lst [.int j])/\J kp=some (.lst us)/\DenL K J us (Trm.dataL ts)/\Trm.sizeL ts<=7*i/\us.length=i) ⟨none,none,[],[],j1,rfl,(My.But.same (K:=K) skp).trans bH2,kH2,bH2 _ _ nk kkp,.nil,by simp[Trm.sizeL],rfl⟩ (λ_ _ _ _=>trivial) (λi σ' J hi hP=>?_) (λσ' J hP=>?_)
 ·obtain⟨o1,o2,us,ts,j,rfl,bJ,kJ,kk,dJ,zJ,lJ⟩:=hP;have nJ:=n0.but bJ kJ;ext;obtain⟨i0,hi0⟩:=nJ.s;refine⟨i0,hi0,λt2 j2=>?_⟩;have bJ1:But st J (upd J st (.lst [.int j2])):=a3i;have kJ1:(upd J st (.lst [.int j2])) st=some (.lst [.int j2]):=a0c;have nJ1:=nJ.but bJ1 kJ1;generalize upd J st (.lst [.int j2])=J1 at bJ1 kJ1 nJ1 ⊢;ext;refine⟨t2%4,rfl,qo,qo,λD hD=>?_⟩;have nD:D≠st:=λz=>by rw[z,kJ1]at hD;cases hD
  refine a1t (a1o 0 (t2%4).toNat) (λi ys J'=>∃j,But st J1 J'/\J' st=some (.lst [.int j])/\J' D=some (.lst ys)/\∃zs:List Int,ys=zs.map V.int) (ln qo) ⟨j2,My.But.same (K:=K) (a0e hD _),a0e hD _ _ _ kJ1,a0c,[],rfl⟩ (λ_ _ _ _=>trivial) (λi ys J' Q' hi hl hP k=>?_) (λys J' hl hP=>?_)
  ·obtain⟨j,g1,g2,g3,zs,rfl⟩:=hP;have nJ':=nJ1.but g1 g2;ext;obtain⟨i0,hi0⟩:=nJ'.s;refine⟨i0,hi0,λt3 j3=>?_⟩;have bJ2:But st J' (upd J' st (.lst [.int j3])):=a3i;have kJ2:(upd J' st (.lst [.int j3])) st=some (.lst [.int j3]):=a0c;have nJ2:=nJ'.but bJ2 kJ2;generalize upd J' st (.lst [.int j3])=J2 at bJ2 kJ2 nJ2 ⊢;ext;have g4:=bJ2 _ _ nD g3;refine k _ _ g4 ⟨j3,λb o hb e=>?_,?_,a0c,zs++[t3],qz⟩
   ·have nb:b≠D:=λz=>by rw[z,hD]at e;cases e
    rw[a0p nb];exact bJ2 _ _ hb (g1 _ _ hb e)
   ·rw[a0p nD.symm];exact kJ2
  obtain⟨j,g1,g2,g3,zs,rfl⟩:=hP;rw[length_map]at hl;have nJ':=nJ1.but g1 g2;have kk2:=g1 _ _ nk (bJ1 _ _ nk kk);have dJ2:DenL K J' us (Trm.dataL ts):=(dJ.monoT λa ys e=>bJ1.tup kJ e).monoT λa ys e=>g1.tup kJ1 e
  ext;refine⟨.inl ⟨rfl,_,SqL.of kk2⟩,?_⟩;ext;refine⟨zs,xs,ws,SqL.of g3,qo,nJ'.n,qo,qo,nJ'.w,by have:=hw.l;omega,by have:=hw.l;omega,hw.s,λu t J3 s3 du _ zu=>?_⟩;ext
  exists a2u (s3 _ _ kk2) (ln qo)
  refine⟨_,_,us++[u],ts++[t],j,rfl,λb o hb e=>?_,?_,a0c,?_,?_,?_⟩
  ·have nb:b≠kp:=λz=>by rw[z,hkp]at e;cases e
   rw[a0p nb];exact s3 _ _ (g1 _ _ hb (bJ1 _ _ hb (bJ _ _ hb e)))
  ·rw[a0p nk.symm];exact s3 _ _ g2
  ·exact(b5l (dJ2.mono s3) du).lst (s3 _ _ kk2)
  ·rw[b6n];omega
  ·rw[Zf];simp[lJ]
 ·obtain⟨o1,o2,us,ts,j,rfl,bJ,kJ,kk,dJ,zJ,lJ⟩:=hP;have nJ:=n0.but bJ kJ;ext;obtain⟨i0,hi0⟩:=nJ.s;refine⟨i0,hi0,λt2 j2=>?_⟩;have bJ1:But st J (upd J st (.lst [.int j2])):=a3i;have kJ1:(upd J st (.lst [.int j2])) st=some (.lst [.int j2]):=a0c;have nJ1:=nJ.but bJ1 kJ1;generalize upd J st (.lst [.int j2])=J1 at bJ1 kJ1 nJ1 ⊢;ext;obtain⟨v1,e1,e2⟩:=a2c (xs:=ws.map V.str) (i:=t2%4) qo (by rw[length_map,hw.l];omega);obtain⟨nm,rfl,hnm⟩:=a5a e1
  exists a1a nJ1.w e1
  have kk2:=bJ1 _ _ nk kk;have dJ2:DenL K J1 us (Trm.dataL ts):=dJ.monoT λa ys e=>bJ1.tup kJ e
  refine a5p (SqL.of kk2) (λp2 hp2=>?_);have s2:=a0e hp2 (.tup us);have k2:(upd J1 p2 (.tup us)) p2=some (.tup us):=a0c;generalize upd J1 p2 (.tup us)=J2 at s2 k2 ⊢;ext;refine⟨ln (by show 3<=100000;decide),λp3 hp3=>?_⟩;have s3:=a0e hp3 (.tup [.str "app",.str nm,.ref p2]);have ss:=s2.trans s3;exact q _ (.app nm ts) j2 _ (λb o hb e=>ss _ _ (bJ1 _ _ hb (bJ _ _ hb e))) (ss _ _ kJ1) (a3f (SqT.of a0c) (SqT.of (s3 _ _ k2)) (dJ2.mono ss)) ⟨nm,ts,rfl,hnm,by simp only[Trm.size];omega⟩
theorem c6e(T:Txt K mg t)(G_b4:FnOk P w K mg base CX0 2 t.a_b4 t.d_b4 ["_law_cells","_law_names_here","_law_words_here"] (a8j K))(G_a6:FnOk P w K mg base CX0 3 t.a_a6 t.d_a6 ["_law_names_here","_law_words_here","_law_state"] (a6x K))(G_a0:FnOk P w K mg base CX0 1 t.a_a0 t.d_a0 ["_law_state"] (a2e)):FnOk P w K mg base CX0 4 t.a_b5 t.d_b5 ["_law_names_here","_law_words_here","_law_state"] (a8l K):=by
 exists T.F_b5.ok b6g,a8l,(a0f (a0y (a0o a5h (a0k a0w (a0q G_a0 hr.o rfl T.m_a0 T.F_a0.kp T.b_a0 .nil a0v (a0a (mv 2) a0d)) a0b) a0b (a0l _)) (a0i (a0t (a0q G_a6 hr.o rfl T.m_a6 T.F_a6.kp T.b_a6 .nil a0v (a0a (mv 0) (a0a (mv 1) (a0a (mv 2) a0d)))))) a0u) (a0f (a0s (i:=3) (hs:=a1e) b6g.nd rfl (by nofun) (a0q G_b4 hr.o rfl T.m_b4 T.F_b4.kp T.b_b4 .nil a0v (a0a (a2n rfl (a1n rfl T.n_d9 (a0a a0b a0d)) (a1u (a0n a9w) ["_law_names_here","_law_words_here","_law_state","_law_one"] ["_law_names_here","_law_words_here","_law_state","_law_one"] rfl rfl qk) (λ_ _ _ _ _=>a1y) (λ_ _ _ _ _=>(a0q G_a0 hr.o rfl T.m_a0 T.F_a0.kp T.b_a0 .nil a0v (a0a (mv 3) a0d)))) (a0a (mv 0) (a0a (mv 1) a0d))))) (a0i (a0t (a1d (a0a a0r (a0a a0r (a0a (a1d (a0a (mv 3) (a0a (mv 3) a0d))) a0d)))))))),H,Q,E,hr,h
 rename_i np wp st;obtain⟨xs,ws,i1,hX,h9,hW,hw,hst,q⟩:=h;have n0:NS K H np wp st xs ws:=⟨hX,hW,i1,hst⟩;ext;obtain⟨i0,hi0⟩:=n0.s;refine⟨i0,hi0,λt1 j1=>?_⟩;have bH2:But st H (upd H st (.lst [.int j1])):=a3i;have kH2:(upd H st (.lst [.int j1])) st=some (.lst [.int j1]):=a0c;have nH2:=n0.but bH2 kH2;generalize upd H st (.lst [.int j1])=H2 at bH2 kH2 nH2 ⊢;ext
 exists e
 ·ext;refine⟨xs,ws,j1,nH2.n,h9,nH2.w,hw,kH2,λx t j H' b' k' d' g'=>?_⟩;exact q x t j H' (bH2.trans b') k' d' g'.ok
 ext;refine⟨3,rfl,qo,qo,λD hD=>?_⟩;have nD:D≠st:=λz=>by rw[z,kH2]at hD;cases hD
 refine a1t (a1o 0 (3:Int).toNat) (λi ys J'=>∃j,But st H2 J'/\J' st=some (.lst [.int j])/\J' D=some (.lst ys)/\∃zs:List Int,ys=zs.map V.int) (ln (by show 3<=100000;decide)) ⟨j1,My.But.same (K:=K) (a0e hD _),a0e hD _ _ _ kH2,a0c,[],rfl⟩ (λ_ _ _ _=>trivial) (λi ys J' Q' hi hl hP k=>?_) (λys J' hl hP=>?_)
 ·obtain⟨j,g1,g2,g3,zs,rfl⟩:=hP;have nJ':=nH2.but g1 g2;ext;obtain⟨i0,hi0⟩:=nJ'.s;refine⟨i0,hi0,λt3 j3=>?_⟩;have bJ2:But st J' (upd J' st (.lst [.int j3])):=a3i;have kJ2:(upd J' st (.lst [.int j3])) st=some (.lst [.int j3]):=a0c;have nJ2:=nJ'.but bJ2 kJ2;generalize upd J' st (.lst [.int j3])=J2 at bJ2 kJ2 nJ2 ⊢;ext;have g4:=bJ2 _ _ nD g3;refine k _ _ g4 ⟨j3,λb o hb e=>?_,?_,a0c,zs++[t3],qz⟩
  ·have nb:b≠D:=λz=>by rw[z,hD]at e;cases e
   rw[a0p nb];exact bJ2 _ _ hb (g1 _ _ hb e)
  ·rw[a0p nD.symm];exact kJ2
 obtain⟨j,g1,g2,g3,zs,rfl⟩:=hP;rw[length_map]at hl;have hl:zs.length=3:=hl;have nJ':=nH2.but g1 g2;ext;refine⟨zs,xs,ws,SqL.of g3,qo,nJ'.n,qo,qo,nJ'.w,by have:=hw.l;omega,by have:=hw.l;omega,hw.s,λu t J3 s3 du _ zu=>?_⟩;ext;refine⟨ln (by show 2<=100000;decide),λp1 hp1=>?_⟩;have s1:=a0e hp1 (.tup [u,u]);have k1:(upd J3 p1 (.tup [u,u])) p1=some (.tup [u,u]):=a0c;generalize upd J3 p1 (.tup [u,u])=J4 at s1 k1 ⊢;ext;refine⟨ln (by show 3<=100000;decide),λp3 hp3=>?_⟩;have s4:=a0e hp3 (.tup [.str "app",.str "=",.ref p1]);have ss:=s1.trans s4;have dd:=du.mono ss;exact q _ (.app eqS [t,t]) j _ (λb o hb e=>ss _ _ (s3 _ _ (g1 _ _ hb (bH2 _ _ hb e)))) (ss _ _ (s3 _ _ g2)) (a3f (SqT.of a0c) (SqT.of (s4 _ _ k1)) (by simp only[Trm.dataL];exact .cons dd (.cons dd .nil))) ⟨eqS,[t,t],rfl,.inr ⟨rfl,rfl⟩,by simp only[Trm.size,Trm.sizeL];omega⟩
end
section
variable{P:Program}{w:World}{K:W.Frag}{mg:Str->Option Value}{base:Heap}{t:Ad}
theorem c8q(T:Txt K mg t)  (n:Nat)(G_a7:FnOk P w K mg base CX0 (n+2) t.a_a7 t.d_a7 ["_law_pattern","_law_term_here","_law_due_here"] (a5l K n)):FnOk P w K mg base CX0 (n+2+1) t.a_a7 t.d_a7 ["_law_pattern","_law_term_here","_law_due_here"] (a5l K (n+1)):=by
 exists T.F_a7.ok (k:=n+2) a9y,a5l,(a0f (a0y (a0o a1b (a0h (a0g K rfl) (mv 0) a0b (λ_ _=>rfl)) a0r (a0l _)) (a0f (a0y (a0o (c4v K rfl (a3t hr)) (b7m (a9j hr) (mv 2) (a0h (a0g K rfl) (mv 0) a0b (λ_ _=>rfl)) (mv 1) ⟨rfl,rfl,rfl,rfl⟩) (mv 1) (a0l _)) (a0i (a0t a3n)) a0u) (a0f (a0s (i:=2) (hs:=a1e) a9y.nd rfl (by nofun) (a1g b8b rfl T.n_f6 boot_dict (a0a (mv 2) a0d))) (a0f (b1s (a9j hr) (mv 2) (a0h (a0g K rfl) (mv 0) a0b (λ_ _=>rfl)) (mv 1) rfl) (a0i (a0t (mv 2)))))) a0u) (a0f (a0y (PW.pt (a7b (a0o a7d (a0h (a0g K rfl) (mv 0) a0b (λ_ _=>rfl)) (a0h (a0g K rfl) (mv 1) a0b (λ_ _=>rfl)) (a0l _)) (a7b (a0o a7d (a0h (a0g K rfl) (mv 0) a0b (λ_ _=>rfl)) (a0h (a0g K rfl) (mv 1) a0b (λ_ _=>rfl)) (a0l _)) (a7m (a0o a7d (a0m (a0x K rfl) rfl T.n_a2 Zg (a0a (mv 0) a0d)) (a0m (a0x K rfl) rfl T.n_a2 Zg (a0a (mv 1) a0d)) (a0l _)))))) (a0i (a0t a3n)) a0u) (a0f (a0y (a0o a1b (a0h (a0g K rfl) (mv 0) a0b (λ_ _=>rfl)) a0r (a0l _)) (a0f (a0y (a0o a7d (a0m (a0x K rfl) rfl T.n_a2 Zg (a0a (a0h (a0g K rfl) (mv 0) a0b (λ_ _=>rfl)) a0d)) (a0m (a0x K rfl) rfl T.n_a2 Zg (a0a (a0h (a0g K rfl) (mv 1) a0b (λ_ _=>rfl)) a0d)) (a0l _)) (a0i (a0t a3n)) a0u) (a0i (a3r Yi rfl (a1n rfl T.n_d9 (a0a (a0m (a0x K rfl) rfl T.n_a2 Zg (a0a (a0h (a0g K rfl) (mv 1) a0b (λ_ _=>rfl)) a0d)) a0d)) (a1w (i:=3) a9y.nd rfl (by nofun)) (a0f (a0s (i:=2) (hs:=a1e) a9y.nd rfl (by nofun) (a0q G_a7 hr.o rfl T.m_a7 T.F_a7.kp T.b_a7 .nil a0v (a0a (a0h (a0g K rfl) (a0h (a0g K rfl) (mv 0) a0b (λ_ _=>rfl)) (mv 3) (λ_ _=>rfl)) (a0a (a0h (a0g K rfl) (a0h (a0g K rfl) (mv 1) a0b (λ_ _=>rfl)) (mv 3) (λ_ _=>rfl)) (a0a (mv 2) a0d))))) (a0i (a0y (a0o c4r (mv 2) a3n (a0l _)) (a0i (a0t a3n)) a0u)))))) a0u) (a0i (a0t (mv 2)))))),H,Q,E,hr,h
 rename_i v v' pd;obtain⟨t0,t1,rows,m,hd,hd',hP,hW,hN,hm,hz,hn,hz',q⟩:=h;have hrl:=hW.len;have tp:=t0.size_pos;ext;cases t0 with
 |any nm=>
  obtain⟨a,rfl,hs⟩:=a2h hd
  exists a0j hs (v:=.str anyS) rfl
  rw[Zy,q3];refine iteT ?_;ext;obtain⟨kvs,c1,c2⟩:=hP.ex;have hkl:=c2.len;have fin:mt (.any nm) t1 rows=some (putR rows nm t1)->∀p,H p=none->Q (.ref p) (upd (upd H p (.dK kvs)) p (.dK (putK kvs (Sum.inr nm) v'))):=λhmt p hp=>by
   rw[hmt]at q;have s1:=a0e hp (.dK kvs);have w1:a2i K (upd H p (.dK kvs)) kvs rows:=c2.mono s1;have bb:But p (upd H p (.dK kvs)) (upd (upd H p (.dK kvs)) p (.dK (putK kvs (Sum.inr nm) v'))):=λb o hb e=>by rw[a0p hb];exact e
   exact q p _ (a1f s1 hp) ⟨_,a0c,(w1.put (hd'.mono s1)).monoT (b0b bb a0c)⟩
  refine⟨pd,rfl,.inl ⟨kvs,.inl c1⟩,?_⟩;ext
  exists a0j hs (v:=.str nm) rfl
  rcases hP.get nm with⟨l1,l2⟩|⟨tw,w',l1,l2,l3⟩
  ·refine⟨_,l2,?_⟩;ext;refine a6u hd' hd' hz' ?_;rw[a9o];ext;refine iteB (λe=>absurd e qz) (λe=>?_);ext;refine⟨pd,kvs,rfl,c1,λp hp=>?_⟩;ext
   exists a0j ((a0e hp _).tup hs) (v:=.str nm) rfl
   refine⟨p,_,rfl,DPut.k (k:=Sum.inr nm) a0c (by rw[Yh];omega),?_⟩;ext;exact fin (b2g l1) p hp
  ·refine⟨_,l2,?_⟩;ext
   exists a6u l3 hd' (hW.small _ (a7s l1))
   cases hq:eqb tw t1 with
   |false=>
    refine iteB (λe=>?_) (λe=>absurd e qz);ext;rw[a9d l1,hq]at q;exact q _ (Same.refl _)
   |true=>
    obtain rfl:=(b2d _ _).mp hq;refine iteB (λe=>absurd e qz) (λe=>?_);ext;refine⟨pd,kvs,rfl,c1,λp hp=>?_⟩;ext
    exists a0j ((a0e hp _).tup hs) (v:=.str nm) rfl
    refine⟨p,_,rfl,DPut.k (k:=Sum.inr nm) a0c (by rw[Yh];omega),?_⟩;ext;exact fin (by rw[a9d l1,hq,c5u hN l1];rfl) p hp
 |num k=>
  obtain⟨a,rfl,hs⟩:=a2g hd
  exists a0j hs (v:=.str numS) rfl
  rw[Zy,q1];refine iteF ?_;ext
  exists a0j hs (v:=.str numS) rfl
  cases t1 with
  |num k'=>
   obtain⟨a',rfl,hs'⟩:=a2g hd'
   exists a0j hs' (v:=.str numS) rfl
   refine iteB (λe=>absurd e qk) (λe=>?_);ext
   exists a0j hs (v:=.int k) rfl
   exists a0j hs' (v:=.int k') rfl
   exists e
   ·ext;rw[mt,if_neg (λz=>by subst z;simp at e)]at q;exact q _ (Same.refl _)
   ·have e:k=k':=by simpa using e
    rw[mt,if_pos e]at q;ext
    exists a3a hs
    exists a3a hs'
    refine iteB (λe=>absurd e qz) (λe=>?_);ext
    exists a0j hs (v:=.str numS) rfl
    refine iteB (λe=>absurd e qk) (λe=>?_);ext;exact q _ _ (Same.refl _) hP
  |any y=>
   obtain⟨a',rfl,hs'⟩:=a2h hd'
   exists a0j hs' (v:=.str anyS) rfl
   refine iteB (λe=>?_) (λe=>absurd e qk);ext;rw[mt]at q;exact q _ (Same.refl _)
  |app s' ls=>
   obtain⟨a',b',us',rfl,hs',hb',hk'⟩:=a1l hd'
   exists a0j hs' (v:=.str appS) rfl
   refine iteB (λe=>?_) (λe=>absurd e qk);ext;rw[mt]at q;exact q _ (Same.refl _)
 |app sg ks=>
  obtain⟨a,b,us,rfl,hs,hb,hk⟩:=a1l hd;have hkl:=hk.length;rw[Trm.dataL_map,length_map]at hkl
  exists a0j hs (v:=.str appS) rfl
  rw[Zy,q2];refine iteF ?_;ext
  exists a0j hs (v:=.str appS) rfl
  cases t1 with
  |num k'=>
   obtain⟨a',rfl,hs'⟩:=a2g hd'
   exists a0j hs' (v:=.str numS) rfl
   refine iteB (λe=>?_) (λe=>absurd e qk);ext;rw[mt]at q;exact q _ (Same.refl _)
  |any y=>
   obtain⟨a',rfl,hs'⟩:=a2h hd'
   exists a0j hs' (v:=.str anyS) rfl
   refine iteB (λe=>?_) (λe=>absurd e qk);ext;rw[mt]at q;exact q _ (Same.refl _)
  |app s' ls=>
   obtain⟨a',b',us',rfl,hs',hb',hk'⟩:=a1l hd';have hkl':=hk'.length;rw[Trm.dataL_map,length_map]at hkl'
   exists a0j hs' (v:=.str appS) rfl
   refine iteB (λe=>absurd e qk) (λe=>?_);ext
   exists a0j hs (v:=.str sg) rfl
   exists a0j hs' (v:=.str s') rfl
   exists e
   ·ext;rw[mt,if_neg (λz=>by rw[z.1]at e;simp at e)]at q;exact q _ (Same.refl _)
   have e:sg=s':=by simpa using e
   subst e;ext
   exists a3a hs
   exists a3a hs'
   refine iteB (λe=>absurd e qz) (λe=>?_);ext
   exists a0j hs (v:=.str appS) rfl
   refine iteB (λe=>?_) (λe=>absurd e qk);ext
   exists a0j hs (v:=.ref b) rfl
   exists a3a hb
   exists a0j hs' (v:=.ref b') rfl
   exists a3a hb'
   exists e
   ·ext;rw[mt,if_neg (λz=>by rw[hkl,hkl',z.2]at e;simp at e)]at q;exact q _ (Same.refl _)
   have hll:ks.length=ls.length:=by
    have:(us.length:Int)=us'.length:=by simpa using e
    omega
   rw[mt,if_pos ⟨rfl,hll⟩]at q;have zl:=Trm.len_le ks;simp only[Trm.size]at hz hz' hm;ext
   exists a0j hs' (v:=.ref b') rfl
   exists a3a hb'
   have hmm:∀i,m+Trm.sizeL (ks.take i)<=2000:=λi=>by
    have:=a4u ks i;omega
   refine⟨_,rfl,qo,qo,?_⟩;refine a3s (a1o 0 (us'.length:Int).toNat) (λi σ' J=>∃(o:Option V)(p:Addr)(r:Rws),σ'=[some (.ref a),some (.ref a'),some (.ref p),o]/\Same H J/\a2l K J p r/\RwOk r (m+Trm.sizeL (ks.take i))/\(r.map (·.1)).Nodup/\mtL (ks.drop i) (ls.drop i) r=mtL ks ls rows) ⟨none,pd,rows,rfl,Same.refl _,hP,⟨qo,hW.small⟩,hN,rfl⟩ (λ_ _ _ _=>trivial) (λi σ' J hi hP2=>?_) (λσ' J hP2=>?_)
   ·obtain⟨o,p,r,rfl,s1,p1,w1,n1,e1⟩:=hP2;have hi1:i<ks.length:=by omega
    have hi2:i<ls.length:=by omega
    obtain⟨x,hx1,hx2⟩:=a2c (xs:=us) (i:=0+(i:Int)) qo qo;obtain⟨y,hy1,hy2⟩:=a2c (xs:=us') (i:=0+(i:Int)) qo qo;rw[show(0+(i:Int)).toNat=i by omega]at hx2 hy2;obtain⟨d,e3,e4⟩:=hk.get hx2;rw[Trm.dataL_map,Zz,Za hi1]at e3;obtain rfl:ks[i].data=d:=Zk e3;obtain⟨d',e5,e6⟩:=hk'.get hy2;rw[Trm.dataL_map,Zz,Za hi2]at e5;obtain rfl:ls[i].data=d':=Zk e5;have z1:=a4v (Za hi1);have z2:=a4v (Za hi2);rw[Vv hi1,Vv hi2,mtL]at e1;have z3:=Trm.sizeL_app (ks.take i) [ks[i]];have z4:ks.take (i+1)=ks.take i++[ks[i]]:=by rw[Wr,Za hi1];rfl
    rw[<-z4]at z3;have z5:Trm.sizeL [ks[i]]=ks[i].size:=by simp[Trm.sizeL]
    have z6:=hmm (i+1);ext
    exists a0j (s1.tup hs) (v:=.ref b) rfl
    exists a0j (s1.tup hb) hx1
    exists a0j (s1.tup hs') (v:=.ref b') rfl
    exists a0j (s1.tup hb') hy1
    refine⟨ks[i],ls[i],r,m+Trm.sizeL (ks.take i),e4.mono s1,e6.mono s1,p1,w1,n1,qo,qo,qo,qo,?_⟩;cases hmt:mt ks[i] ls[i] r with
    |none=>
     intro J2 s2;rw[hmt]at e1;have e1:none=mtL ks ls rows:=e1;ext;refine iteB (λe=>?_) (λe=>absurd e qz);ext;rw[<-e1]at q;exact q _ (s1.trans s2)
    |some r'=>
     intro p' J2 s2 p2;rw[hmt]at e1;have e1:mtL (ks.drop (i+1)) (ls.drop (i+1)) r'=mtL ks ls rows:=e1;have w2:=mt_ok _ _ _ _ _ hmt w1 qo;ext;refine iteB (λe=>absurd e qz) (λe=>?_);ext;exact⟨_,p',r',rfl,s1.trans s2,p2,⟨by have:=w2.len;omega,w2.small⟩,b4w _ _ _ _ hmt n1,e1⟩
   ·obtain⟨o,p,r,rfl,s1,p1,w1,n1,e1⟩:=hP2;rw[T7 qo,mtL]at e1;ext;rw[<-e1]at q;exact q p J s1 p1
theorem c8r(T:Txt K mg t)  (n:Nat):FnOk P w K mg base CX0 (n+2) t.a_a7 t.d_a7 ["_law_pattern","_law_term_here","_law_due_here"] (a5l K n):=by
 induction n with
 |zero=>
  have no:∀vs H Q E,(a5l K 0) vs H Q E->False:=λvs H Q E h=>by
   unfold a5l at h;split at h
   ·exact c8g h
   ·exact h
  exact⟨λvs H Q E h=>(no vs H Q E h).elim,λA outer s H args us vs Q E _ _ _ _ h=>(no vs H Q E h).elim⟩
 |succ n ih=>
  have e:n+1+2=n+2+1:=by omega
  rw[e];exact c8q T  n ih
end
section
variable{P:Program}{w:World}{K:W.Frag}{mg:Str->Option Value}{base:Heap}{t:Ad}
theorem b6t(T:Txt K mg t)  (n:Nat)(G_a4:FnOk P w K mg base CX0 (n+2) t.a_a4 t.d_a4 ["_law_terms","_law_found"] (a2z K n)):FnOk P w K mg base CX0 (n+2+1) t.a_a4 t.d_a4 ["_law_terms","_law_found"] (a2z K (n+1)):=by
 exists T.F_a4.ok (k:=n+2) a5i,a2z,(a0f (a3r Yi rfl (kpi_seq K rfl (mv 0)) (a1w (i:=2) a5i.nd rfl (by nofun)) (a0f (a0y (PW.pt (a3p (a0o a1b (a0h (a0g K rfl) (mv 2) a0b (λ_ _=>rfl)) a0r (a0l _)) (a4l (a0o (b2b K rfl) (a0h (a0g K rfl) (mv 2) a0b (λ_ _=>rfl)) (mv 1) (by with_unfolding_all rfl))))) (a0i (a0s (i:=1) (hs:=a3h) a5i.nd rfl (by nofun) (a0k (a1k K rfl) (mv 1) (a1i (a0a (a0h (a0g K rfl) (mv 2) a0b (λ_ _=>rfl)) a0d))))) a0u) (a0i (a0y (a0o a1b (a0h (a0g K rfl) (mv 2) a0b (λ_ _=>rfl)) a0r (a0l _)) (a0i (a0s (i:=1) (hs:=a1e) a5i.nd rfl (by nofun) (a0q G_a4 hr.o rfl T.m_a4 T.F_a4.kp T.b_a4 .nil a0v (a0a (a0h (a0g K rfl) (mv 2) a0b (λ_ _=>rfl)) (a0a (mv 1) a0d))))) a0u)))) (a0i (a0t (mv 1)))),H,Q,E,hr,h
 rename_i a f;obtain⟨us,ts,acc,hS,hd,hf,hz,hn0,hn,q⟩:=h;have hul:=a2b hd;ext;refine⟨a,rfl,c8j hS (Same.refl _) λJ Ok rowJ hok=>?_⟩;refine a3s rowJ (λi σ' H'=>∃(o1:Option V)(pf:Addr),σ'=[some (.ref a),some (.ref pf),o1]/\Same H H'/\H' pf=some (.lst ((ordL (ts.take i) acc).map V.str))) ⟨none,f,rfl,Same.refl _,by rw[Xz,ordL];exact hf⟩ (λi σ' H' hP=>by obtain⟨_,_,_,s1,_⟩:=hP;exact hok H' s1) (λi σ' H' hi hP=>?_) (λσ' H' hP=>?_)
 ·obtain⟨o1,pf,rfl,s1,k1⟩:=hP;have hti:i<ts.length:=by omega
  obtain⟨hui,dk⟩:=b2e hd hti;have dk:=dk.mono s1;have hord:ordL (ts.take (i+1)) acc=ord ts[i] (ordL (ts.take i) acc):=by rw[take_succ' hti,b3i,c7v]
  have hl1:=a9p (ts.take i) acc;have hl2:=c2m ts (i+1);rw[take_succ' hti,Trm.sizeL_app]at hl2;have hl3:Trm.sizeL [ts[i]]=ts[i].size:=by simp[Trm.sizeL]
  rw[getD_at hui];generalize ts[i]=t1 at dk hord hl2 hl3;generalize ordL (ts.take i) acc=ac at k1 hord hl1;ext;cases t1 with
  |any x=>
   obtain⟨b,e0,hb⟩:=a2h dk;rw[e0]
   exists a0j hb (v:=.str anyS) rfl
   refine iteB (λe=>?_) (λe=>absurd e qk);ext
   exists a0j hb (v:=.str x) rfl
   exists b3e ac (.inl (SqL.of k1))
   rw[ord]at hord
   by_cases hx:x∈ac
   ·rw[Zt hx];refine iteF ?_;rw[if_pos hx]at hord;ext
    exists a0j hb (v:=.str anyS) rfl
    refine iteB (λe=>absurd e qk) (λe=>?_);ext;exact⟨_,pf,rfl,s1,by rw[hord];exact k1⟩
   ·rw[Zo hx];refine iteT ?_;rw[if_neg hx]at hord;ext
    exists a0j hb (v:=.str x) rfl
    refine⟨ln (by show 1<=100000;decide),λp1 hp1=>?_⟩;have sp1:Same H' (upd H' p1 (.lst [.str x])):=a0e hp1 _;have kp1:(upd H' p1 (.lst [.str x])) p1=some (.lst [.str x]):=a0c;generalize upd H' p1 (.lst [.str x])=H2 at sp1 kp1 ⊢;ext;ext;refine a7r (sp1 _ _ k1) kp1 (ln (by rw[length_map];show ac.length+1<=_;omega)) (λd hdn=>?_);have s3:=a0e hdn (.lst (ac.map V.str++[.str x]));have k3:(upd H2 d (.lst (ac.map V.str++[.str x]))) d=some (.lst (ac.map V.str++[.str x])):=a0c;generalize upd H2 d (.lst (ac.map V.str++[.str x]))=H3 at s3 k3 ⊢;have hb:=(sp1.trans s3).tup hb;ext
    exists a0j hb (v:=.str anyS) rfl
    refine iteB (λe=>absurd e qk) (λe=>?_);ext;exact⟨_,d,rfl,s1.trans (sp1.trans s3),by rw[hord,Zi];exact k3⟩
  |num m=>
   obtain⟨b,e0,hb⟩:=a2g dk;rw[e0]
   exists a0j hb (v:=.str numS) rfl
   refine iteB (λe=>absurd e qk) (λe=>?_);refine iteF ?_;ext
   exists a0j hb (v:=.str numS) rfl
   refine iteB (λe=>absurd e qk) (λe=>?_);ext;rw[ord]at hord;exact⟨_,pf,rfl,s1,by rw[hord];exact k1⟩
  |app sg ks=>
   obtain⟨b,c,ku,e0,hb,hc,hk⟩:=a1l dk;rw[e0];simp only[Trm.size]at hl3
   exists a0j hb (v:=.str appS) rfl
   refine iteB (λe=>absurd e qk) (λe=>?_);refine iteF ?_;ext
   exists a0j hb (v:=.str appS) rfl
   refine iteB (λe=>?_) (λe=>absurd e qk);ext
   exists a0j hb (v:=.ref c) rfl
   rw[ord]at hord;refine⟨ku,ks,ac,.inr hc,hk,k1,qo,qo,qo,λp H2 s2 kp=>?_⟩;ext;exact⟨_,p,rfl,s1.trans s2,by rw[hord];exact kp⟩
 obtain⟨o1,pf,rfl,s1,k1⟩:=hP;rw[Yb qo]at k1;ext;exact q pf H' s1 k1
theorem b6u(T:Txt K mg t)  (n:Nat):FnOk P w K mg base CX0 (n+2) t.a_a4 t.d_a4 ["_law_terms","_law_found"] (a2z K n):=by
 induction n with
 |zero=>
  have no:∀vs H Q E,(a2z K 0) vs H Q E->False:=λvs H Q E h=>by
   unfold a2z at h;split at h
   ·exact b6s h
   ·exact h
  exact⟨λvs H Q E h=>(no vs H Q E h).elim,λA outer s H args us vs Q E _ _ _ _ h=>(no vs H Q E h).elim⟩
 |succ n ih=>
  have e:n+1+2=n+2+1:=by omega
  rw[e];exact b6t T  n ih
theorem b9x(T:Txt K mg t)  (n:Nat)(G_b2:FnOk P w K mg base CX0 (n+2) t.a_b2 t.d_b2 ["_law_term_here","_law_one","_law_other_here"] (a3o K n)):FnOk P w K mg base CX0 (n+2+1) t.a_b2 t.d_b2 ["_law_term_here","_law_one","_law_other_here"] (a3o K (n+1)):=by
 exists T.F_b2.ok (k:=n+2) b9u,a3o,(a0f (a0y (a0o a1b (a0h (a0g K rfl) (mv 0) a0b (λ_ _=>rfl)) a0r (a0l _)) (a0i (a0t (a1d (a0a a0r (a0a (a0h (a0g K rfl) (a1i (a0a (a0h (a0g K rfl) (mv 0) a0b (λ_ _=>rfl)) (a0a (mv 2) a0d))) (a1g b4j rfl T.n_e5 Se (a0a (a1x a1b (a0h (a0g K rfl) (mv 0) a0b (λ_ _=>rfl)) (mv 1) (a0l _)) a0d)) (λ_ _=>rfl)) a0d))))) a0u) (a0f (a0y (a0o a1b (a0h (a0g K rfl) (mv 0) a0b (λ_ _=>rfl)) a0r (a0l _)) (a0i (a0t (mv 0))) a0u) (a0i (a0t (a1d (a0a a0r (a0a (a0h (a0g K rfl) (mv 0) a0b (λ_ _=>rfl)) (a0a (a1g (a4c K rfl) rfl T.n_e2 W5 (a0a (a2n rfl (b5b K rfl (a0h (a0g K rfl) (mv 0) a0b (λ_ _=>rfl))) (a1u (a0n a7f) ["_law_term_here","_law_one","_law_other_here"] ["_law_term_here","_law_one","_law_other_here"] rfl rfl qk) (λ_ _ _ _ _=>a1y) (λ_ _ _ _ _=>(a0q G_b2 hr.o rfl T.m_b2 T.F_b2.kp T.b_b2 .nil a0v (a0a (mv 0) (a0a (mv 2) (a0a (mv 3) a0d)))))) a0d)) a0d)))))))),H,Q,E,hr,h
 rename_i v x0 y0;obtain⟨t0,hd,hz,hn,q⟩:=h;ext;cases t0 with
 |any x=>
  obtain⟨a,rfl,hs⟩:=a2h hd
  exists a0j hs (v:=.str anyS) rfl
  refine iteB (λe=>?_) (λe=>absurd e qk);ext
  exists a0j hs (v:=.str x) rfl
  refine⟨ln (by show 2<=100000;decide),λp1 hp1=>?_⟩;have sp1:Same H (upd H p1 (.lst [.str x,.str y0])):=a0e hp1 _;have kp1:(upd H p1 (.lst [.str x,.str y0])) p1=some (.lst [.str x,.str y0]):=a0c;generalize upd H p1 (.lst [.str x,.str y0])=H1 at sp1 kp1 ⊢;ext
  exists a0j (sp1.tup hs) (v:=.str x) rfl
  obtain⟨z,hz1⟩:∃z:Str,atI [V.str x,V.str y0] (if(false^^decide (x=x0))=true then 1 else 0)=some (.str z):=by
   rw[Zy]
   by_cases hk0:x=x0
   ·rw[Zt hk0];exact⟨y0,rfl⟩
   ·rw[Zo hk0];exact⟨x,rfl⟩
  exists a1a (SqL.of kp1) hz1
  refine⟨ln (by show 2<=100000;decide),λp hp=>?_⟩;exact q _ (.any z) _ (sp1.trans (a0e hp _)) (a5z (SqT.of a0c)) rfl
 |num m=>
  obtain⟨a,rfl,hs⟩:=a2g hd
  exists a0j hs (v:=.str numS) rfl
  refine iteB (λe=>absurd e qk) (λe=>?_);ext
  exists a0j hs (v:=.str numS) rfl
  refine iteB (λe=>?_) (λe=>absurd e qk);ext;exact q _ _ H (Same.refl _) hd rfl
 |app sg ks=>
  obtain⟨a,b,us,rfl,hs,hb,hk⟩:=a1l hd;have hkl:=a2b hk;simp only[Trm.size]at hz
  exists a0j hs (v:=.str appS) rfl
  refine iteB (λe=>absurd e qk) (λe=>?_);ext
  exists a0j hs (v:=.str appS) rfl
  refine iteB (λe=>absurd e qk) (λe=>?_);ext
  exists a0j hs (v:=.str sg) rfl
  refine a0j hs (v:=.ref b) rfl ?_;refine⟨b,rfl,⟨_,hb⟩,λD hD'=>?_⟩;have zl:=Trm.len_le ks;refine a1t (b1u (xs:=us)) (λi ys J=>Same H J/\J D=some (.lst ys)/\∃ts:List Trm,DenL K J ys (Trm.dataL ts)/\Trm.sizeL ts=Trm.sizeL (ks.take i)) (ln qo) ⟨a0e hD' _,a0c,[],.nil,by rw[Xz]⟩ (λi ys J hP=>hP.1.tup hb) (λi ys J Q' hi hl' hP k=>?_) (λys J hl' hP=>?_)
  ·obtain⟨g1,g2,ts,g3,g4⟩:=hP;have hki:i<ks.length:=by omega
   obtain⟨hu,dk⟩:=b2e hk hki;have z1:=a4v (Za hki);ext;rw[getD_at hu];refine⟨ks[i],dk.mono g1,qo,qo,λx t1 J2 s2 dx ez=>?_⟩;have g6:J2 D=some (.lst ys):=s2 _ _ g2;refine k _ _ g6 ⟨a1f (g1.trans s2) hD',a0c,ts++[t1],?_,by rw[take_succ' hki,Trm.sizeL_app,Trm.sizeL_app,g4];simp[Trm.sizeL,ez]⟩;rw[a3e];exact((g3.mono s2).append (.cons dx .nil)).lst g6
  obtain⟨g1,g2,ts,g3,g4⟩:=hP;rw[Yb qo]at g4;ext;refine a5p (SqL.of g2) (λp2 hp2=>?_);have s2:=a0e hp2 (.tup ys);have k2:(upd J p2 (.tup ys)) p2=some (.tup ys):=a0c;generalize upd J p2 (.tup ys)=J2 at s2 k2 ⊢;ext;refine⟨ln (by show 3<=100000;decide),λp3 hp3=>?_⟩;have s3:=a0e hp3 (.tup [.str "app",.str sg,.ref p2]);have ss:=s2.trans s3;exact q _ (.app sg ts) _ (g1.trans ss) (a3f (SqT.of a0c) (SqT.of (s3 _ _ k2)) (g3.mono ss)) (by simp only[Trm.size];omega)
theorem b9y(T:Txt K mg t)  (n:Nat):FnOk P w K mg base CX0 (n+2) t.a_b2 t.d_b2 ["_law_term_here","_law_one","_law_other_here"] (a3o K n):=by
 induction n with
 |zero=>
  have no:∀vs H Q E,(a3o K 0) vs H Q E->False:=λvs H Q E h=>by
   unfold a3o at h;split at h
   ·exact b9w h
   ·exact h
  exact⟨λvs H Q E h=>(no vs H Q E h).elim,λA outer s H args us vs Q E _ _ _ _ h=>(no vs H Q E h).elim⟩
 |succ n ih=>
  have e:n+1+2=n+2+1:=by omega
  rw[e];exact b9x T  n ih
end
section
variable{P:Program}{w:World}{K:W.Frag}{mg:Str->Option Value}{base:Heap}{t:Ad}
theorem c6f(T:Txt K mg t)  :FnOk P w K mg base CX0 1 t.a_b9 t.d_b9 ["term"] (b1g K):=by
 exists T.F_b9.ok c5l,b1g,(a0f (a0y (a0o a1b (a0h (a0g K rfl) (mv 0) a0b (λ_ _=>rfl)) a0r (a0l _)) (a0i (a0t (a1d (a0a a0r (a0a (a0h (a0g K rfl) (mv 0) a0b (λ_ _=>rfl)) a0d))))) a0u) (a0f (a0y (a0o a1b (a0h (a0g K rfl) (mv 0) a0b (λ_ _=>rfl)) a0r (a0l _)) (a0i (a0t (a1d (a0a a0r (a0a (a0h (a0g K rfl) (mv 0) a0b (λ_ _=>rfl)) (a0a (a0m (a0x K rfl) rfl T.n_a2 Zg (a0a (a0h (a0g K rfl) (mv 0) a0b (λ_ _=>rfl)) a0d)) a0d)))))) a0u) (a0i (a0t a3n)))),H,Q,E,hr,h
 rename_i v;obtain⟨t0,hd,q⟩:=h;cases t0 with
 |num m=>
  obtain⟨a,rfl,hs⟩:=a2g hd;ext
  exists a0j hs (v:=.str numS) rfl
  rw[Zy,q7];refine iteT ?_;ext
  exists a0j hs (v:=.int m) rfl
  exact⟨ln (by show 2<=100000;decide),λp hp=>q p _ (a0e hp _) a0c⟩
 |any y=>
  obtain⟨a,rfl,hs⟩:=a2h hd;ext
  exists a0j hs (v:=.str anyS) rfl
  refine iteB (λe=>absurd e qk) (λe=>?_);ext
  exists a0j hs (v:=.str anyS) rfl
  refine iteB (λe=>absurd e qk) (λe=>?_);ext;exact q
 |app sg ks=>
  obtain⟨a,b,us,rfl,hs,hb,hk⟩:=a1l hd;have hl:=hk.length;rw[Trm.dataL_map,length_map]at hl;ext
  exists a0j hs (v:=.str appS) rfl
  refine iteB (λe=>absurd e qk) (λe=>?_);ext
  exists a0j hs (v:=.str appS) rfl
  refine iteB (λe=>?_) (λe=>absurd e qk);ext
  exists a0j hs (v:=.str sg) rfl
  exists a0j hs (v:=.ref b) rfl
  exists a3a hb
  refine⟨ln (by show 3<=100000;decide),λp hp=>q p _ (a0e hp _) ?_⟩;rw[hl];exact a0c
theorem b9z(T:Txt K mg t)  :FnOk P w K mg base CX0 1 t.a_a0 t.d_a0 ["_law_state"] (a2e):=by
 exists T.F_a0.ok b9t,a2e,(a0f (a3q (a0k a0w (a0k (a1k K rfl) (a0k a4p (a0h (a0g K rfl) (mv 0) a0b (λ_ _=>rfl)) a0b) a0b) a0b) (a4n (mv 0) a0b a3g)) (a0i (a0t (a0k a1j (a0h (a0g K rfl) (mv 0) a0b (λ_ _=>rfl)) a0b)))),H,Q,E,hr,h
 rename_i st;obtain⟨i,hS,q⟩:=h;ext
 exists a1a (SqL.of hS) (v:=.int i) rfl
 exists a4i (a6l qd)
 refine⟨st,[.int i],0,0,rfl,rfl,hS,rfl,?_⟩;ext
 exists a1a (SqL.of a0c) (v:=.int ((i*48271+11)%2147483647)) rfl
 exact q _ _
theorem c2p(T:Txt K mg t)(G_b9:FnOk P w K mg base CX0 1 t.a_b9 t.d_b9 ["term"] (b1g K)):FnOk P w K mg base CX0 2 t.a_b6 t.d_b6 ["one","other","puts"] (b0g K):=by
 exists T.F_b6.ok a5r,b0g,(@QSs.pss _ _ _ (b3c (qs_of (a0s (i:=3) (hs:=a1e) a5r.nd rfl (by nofun) (a1g b8b rfl T.n_f6 boot_dict (a0a (mv 2) a0d)))) (b3c (qs_set (i:=4) a5r.nd rfl (by nofun) (qe_lst (b7z (qe_tup (b7z (qe_of (mv 0)) (b7z (qe_of (mv 1)) c4u rfl) rfl)) c4u rfl)) a6s (by nofun)) (b3c (qs_of (b2w Yi (a7q K rfl (mv 4)) (a0f (a0s (i:=5) (hs:=a1e) a5r.nd rfl (by nofun) (b7s K rfl Z9 Te F.type_list_pop c4f (mv 4))) (a0i (a0y (a0o a1b (a0h (a0g K rfl) (a0h (a0g K rfl) (mv 5) a0b (λ_ _=>rfl)) a0b (λ_ _=>rfl)) a0r (a0l _)) (a0i (a0y (a0o (c4v K rfl (a3t hr)) (a4a K rfl U3 Vd T8 mm_setd (mv 3) (a0a (a0h (a0g K rfl) (a0h (a0g K rfl) (mv 5) a0b (λ_ _=>rfl)) a0b (λ_ _=>rfl)) (a0a (a0h (a0g K rfl) (mv 5) a0b (λ_ _=>rfl)) a0d))) (a0h (a0g K rfl) (mv 5) a0b (λ_ _=>rfl)) (a0l _)) (a0i (a0t a3n)) a0u)) (a0i (a0y (a0o (ko_neKs K rfl (a3t hr)) (a0q G_b9 hr.o rfl T.m_b9 T.F_b9.kp T.b_b9 .nil a0v (a0a (a0h (a0g K rfl) (mv 5) a0b (λ_ _=>rfl)) a0d)) (a0q G_b9 hr.o rfl T.m_b9 T.F_b9.kp T.b_b9 .nil a0v (a0a (a0h (a0g K rfl) (mv 5) a0b (λ_ _=>rfl)) a0d)) (a0l _)) (a0i (a0t a3n)) (a0i (a0y (a0o a1b (a0h (a0g K rfl) (a0h (a0g K rfl) (mv 5) a0b (λ_ _=>rfl)) a0b (λ_ _=>rfl)) a0r (a0l _)) (a0f (a0s (i:=6) (hs:=a1e) a5r.nd rfl (by nofun) (c1y K rfl rfl rfl T.n_e1 rfl T.n_f3 (a0a (a0h (a0g K rfl) (a0h (a0g K rfl) (mv 5) a0b (λ_ _=>rfl)) a0b (λ_ _=>rfl)) (a0a (a0h (a0g K rfl) (a0h (a0g K rfl) (mv 5) a0b (λ_ _=>rfl)) a0b (λ_ _=>rfl)) a0d)))) (a0f (a2f (b7s K rfl Z9 Sw F.type_list_reverse c1t (mv 6))) (a0i (a2f (a4a K rfl Z9 Vt Ri (b6b K rfl) (mv 4) (a0a (mv 6) a0d)))))) a0u))))))))) (qss_one (qs_of (a0t (mv 3)))))))),H,Q,E,hr,h
 rename_i v v' pd;obtain⟨t0,t1,rows0,hd,hd',hP0,hW,hz,hz',q⟩:=h;obtain⟨kvs0,e0,ok0⟩:=hP0.ex;ext;refine⟨pd,kvs0,rfl,e0,λpn hpn=>?_⟩;have sn:=a0e hpn (.dK kvs0);have kn:(upd H pn (.dK kvs0)) pn=some (.dK kvs0):=a0c;generalize upd H pn (.dK kvs0)=H1 at sn kn ⊢;ext;refine⟨ln (by show 2<=100000;decide),λpp hpp=>?_⟩;have sp2:=a0e hpp (.tup [v,v']);have kp2:(upd H1 pp (.tup [v,v'])) pp=some (.tup [v,v']):=a0c;generalize upd H1 pp (.tup [v,v'])=H2 at sp2 kp2 ⊢;refine⟨ln (by show 1<=100000;decide),λpt hpt=>?_⟩;have s3:=a0e hpt (.lst [.ref pp]);have k3:(upd H2 pt (.lst [.ref pp])) pt=some (.lst [.ref pp]):=a0c;generalize upd H2 pt (.lst [.ref pp])=H3 at s3 k3 ⊢;have s03:Same H H3:=sn.trans (sp2.trans s3);have hpt0:H pt=none:=a2j (sn.trans sp2) hpt;have hnpt:pn≠pt:=λz=>by
  have:=sp2 _ _ kn;rw[z,hpt]at this;cases this
 ext;refine b0t (λn σ' H'=>∃(us:List V)(ps:List (Trm×Trm))(rows:Rws)(o1 o2:Option V),σ'=[some v,some v',some (.ref pd),some (.ref pn),some (.ref pt),o1,o2]/\H' pt=some (.lst us)/\DenL K H' us (ps.map b0f)/\a2l K H' pn rows/\RwOk rows (1000+(70-a2w ps))/\(∀p∈ps,p.2.size<=70)/\mtP ps.reverse rows=mt t0 t1 rows0/\a2w ps<=70/\n=a2w ps/\Same H H') (a2w [(t0,t1)]) ⟨[.ref pp],[(t0,t1)],rows0,none,none,rfl,k3,.cons (.tup (SqT.of (s3 _ _ kp2)) (.cons (hd.mono s03) (.cons (hd'.mono s03) .nil))) .nil,⟨kvs0,(sp2.trans s3) _ _ kn,ok0.mono s03⟩,⟨by have:=hW.len;omega,hW.small⟩,λp hp=>by rw[Zs.mp hp];exact hz',by simp only[Xq,V5,Wp,mtP];cases mt t0 t1 rows0<;>rfl,by simp only[a2w,Z2,Xd,Trm.sizeL];omega,rfl,s03⟩ (λn σ' H' R hP kT kF=>?_);obtain⟨us,ps,rows,o1,o2,rfl,h1,h2,h3,h4,h5,h6,h7,h8,h9⟩:=hP;ext;refine .inl ⟨us,SqL.of h1,?_⟩;rcases nil_or_snoc' ps with rfl|⟨ps',p1,rfl⟩
 ·have e:=h2.nil_inv;subst e
  exists kF H'
  simp only[V5,mtP]at h6;rw[<-h6]at q;exact q pn H' h9 hpn h3
 ·rw[Zi]at h2;obtain⟨us',u,rfl,g1,g2⟩:=DenL.snoc h2;have hul:=g1.length;rw[length_map]at hul;have hpl:=c5s ps';have e:(!(us'++[u]).isEmpty)=true:=by simp
  rw[e];have hsz:a2w (ps'++[p1])=a2w ps'+p1.1.size:=by rw[a6w];simp[a2w,Trm.sizeL]
  rw[hsz]at h4 h7 h8;have typ:=p1.1.size_pos;refine kT H' (λD' e1 e2 hnx hct=>?_);ext;refine⟨.inl ⟨rfl,_,SqL.of h1⟩,?_⟩
  exists c4m h1
  have f1:DenL K (upd H' pt (.lst us')) us' (ps'.map b0f):=g1.lst h1;have f2:Den K (upd H' pt (.lst us')) u (b0f p1):=g2.lst h1;have f3:Same H (upd H' pt (.lst us')):=a1f h9 hpt0;have f4:(upd H' pt (.lst us')) pt=some (.lst us'):=a0c;have f5:a2l K (upd H' pt (.lst us')) pn rows:=h3.lst h1;generalize upd H' pt (.lst us')=J at f1 f2 f3 f4 f5 ⊢;have hp2:=h5 p1 qz;have h5':∀p∈ps',p.2.size<=70:=λp hp=>h5 p (by simp[hp])
  simp only[Vm,Xq,V5,Wp,T9,mtP]at h6;obtain⟨a1,b1⟩:=p1;obtain⟨qa,x,y,rfl,hs,dx,dy⟩:=c8f f2
  dsimp only at dx dy h6 hp2 h4 h7 h8 typ
  exists a0j hs (v:=x) rfl
  cases a1 with
  |any nm=>
   obtain⟨a,rfl,ha⟩:=a2h dx
   exists a0j ha (v:=.str anyS) rfl
   rw[Zy,q3];refine iteT ?_;ext;obtain⟨kvs,c1,c2⟩:=f5.ex;have hkl:=c2.len;have hrl:=h4.len;refine⟨.inr (.inr (.inl ⟨rfl,.inl ⟨_,c1⟩⟩)),?_⟩;ext
   exists a0j hs (v:=.ref a) rfl
   exists a0j ha (v:=.str nm) rfl
   exists a0j hs (v:=y) rfl
   refine mSetd_i (k:=Sum.inr nm) rfl c1 (by rw[Yh];omega) (λw hw=>?_) (λhw=>?_)
   ·rcases c2.get nm with⟨l1,l2⟩|⟨tw,w',l1,l2,l3⟩
    ·rw[l2]at hw;cases hw
    rw[l2]at hw;cases hw;rw[a9d l1]at h6;ext
    exists a0j hs (v:=y) rfl
    refine a6u l3 dy (h4.small _ (a7s l1)) ?_;rw[Ts];cases hq:eqb tw b1 with
    |false=>
     rw[hq]at h6;ext;refine iteB (λe=>?_) (λe=>absurd e qz);ext;have h6:none=mt t0 t1 rows0:=h6;rw[<-h6]at q;rw[e1];exact q J f3
    |true=>
     rw[hq]at h6;ext;refine iteB (λe=>absurd e qz) (λe=>?_);ext;have h6:mtP ps'.reverse rows=mt t0 t1 rows0:=h6;exact hnx _ _ (a2w ps') qo ⟨us',ps',rows,_,_,rfl,f4,f1,f5,⟨by have:=h4.len;omega,h4.small⟩,h5',h6,qo,rfl,f3⟩
   ·rcases c2.get nm with⟨l1,l2⟩|⟨tw,w',l1,l2,l3⟩
    ·rw[b2g l1]at h6;have h6:mtP ps'.reverse (putR rows nm b1)=mt t0 t1 rows0:=h6;have bb:But pn J (upd J pn (.dK (putK kvs (Sum.inr nm) y))):=λb o hb e=>by rw[a0p hb];exact e
     have mT:=b0b (K:=K) bb c1;have w1:a2l K (upd J pn (.dK (putK kvs (Sum.inr nm) y))) pn (putR rows nm b1):=⟨_,a0c,(c2.put dy).monoT mT⟩;have w2:Same H (upd J pn (.dK (putK kvs (Sum.inr nm) y))):=a1f f3 hpn;have w3:(upd J pn (.dK (putK kvs (Sum.inr nm) y))) pt=some (.lst us'):=bb _ _ hnpt.symm f4;have w4:=f1.monoT mT;have w5:=mT _ _ hs;have w6:=dy.monoT mT;generalize upd J pn (.dK (putK kvs (Sum.inr nm) y))=J2 at w1 w2 w3 w4 w5 w6 ⊢;ext
     exists a0j w5 (v:=y) rfl
     refine a6u w6 w6 hp2 ?_;rw[a9o];ext;refine iteB (λe=>absurd e qz) (λe=>?_);ext;have h4':RwOk rows (999+(70-a2w ps')):=⟨by have:=h4.len;simp only[Trm.size]at this h7;omega,h4.small⟩;have h4'':=h4'.put (x:=nm) hp2;exact hnx _ _ (a2w ps') qo ⟨us',ps',_,_,_,rfl,w3,w4,w1,⟨by have:=h4''.len;omega,h4''.small⟩,h5',h6,qo,rfl,w2⟩
    ·rw[l2]at hw;cases hw
  |num m=>
   obtain⟨a,rfl,ha⟩:=a2g dx
   exists a0j ha (v:=.str numS) rfl
   rw[Zy,q1];refine iteF ?_;ext
   exists a0j hs (v:=.ref a) rfl
   refine⟨.num m,dx,λpk J1 sk kk=>?_⟩;ext
   exists a0j (sk.tup hs) (v:=y) rfl
   refine⟨b1,dy.mono sk,?_⟩;cases hkb:keyK b1 with
   |none=>
    rw[b4u (a:=.num m) rfl (by rw[hkb];simp)]at h6;have h6:none=mt t0 t1 rows0:=h6;refine⟨pk,[Sum.inr numS,Sum.inl m],rfl,SqT.of kk,.inl ⟨rfl,?_⟩⟩;ext;refine iteB (λe=>?_) (λe=>absurd e qz);ext;rw[<-h6]at q;rw[e1];exact q _ (f3.trans sk)
   |some kb=>
    intro pk2 J2 sk2 kk2;refine⟨pk,[Sum.inr numS,Sum.inl m],rfl,SqT.of (sk2 _ _ kk),.inr ⟨pk2,kb,rfl,SqT.of kk2,?_⟩⟩;ext
    exists e
    ·have hne:[Sum.inr numS,Sum.inl m]≠kb:=by
      rw[Bool.not_eq_true']at e;exact Y8 e
     rw[b4u (a:=.num m) rfl (by rw[hkb];exactλz=>hne (Zk z).symm)]at h6;have h6:none=mt t0 t1 rows0:=h6;ext;rw[<-h6]at q;rw[e1];exact q _ (f3.trans (sk.trans sk2))
    ·have heq:[Sum.inr numS,Sum.inl m]=kb:=by
      rw[Rm]at e;exact Zr e
     rw[<-heq]at hkb;obtain rfl:=c7z hkb;have e5:mt (.num m) (.num m) rows=some rows:=by rw[mt,if_pos rfl]
     rw[e5]at h6;have h6:mtP ps'.reverse rows=mt t0 t1 rows0:=h6;have ss:=sk.trans sk2;ext
     exists a0j (ss.tup hs) (v:=.ref a) rfl
     exists a0j (ss.tup ha) (v:=.str numS) rfl
     refine iteB (λe=>absurd e qk) (λe=>?_);ext;exact hnx _ _ (a2w ps') qo ⟨us',ps',rows,_,_,rfl,ss _ _ f4,f1.mono ss,f5.mono ss,⟨by have:=h4.len;omega,h4.small⟩,h5',h6,qo,rfl,f3.trans ss⟩
  |app sg ks=>
   obtain⟨a,b,ku,rfl,ha,hb,hk⟩:=a1l dx;have hkl:=hk.length;rw[Trm.dataL_map,length_map]at hkl
   exists a0j ha (v:=.str appS) rfl
   rw[Zy,q2];refine iteF ?_;ext
   exists a0j hs (v:=.ref a) rfl
   refine⟨.app sg ks,dx,λpk J1 sk kk=>?_⟩;ext
   exists a0j (sk.tup hs) (v:=y) rfl
   refine⟨b1,dy.mono sk,?_⟩;cases hkb:keyK b1 with
   |none=>
    rw[b4u (a:=.app sg ks) rfl (by rw[hkb];simp)]at h6;have h6:none=mt t0 t1 rows0:=h6;refine⟨pk,[Sum.inr appS,Sum.inr sg,Sum.inl (ks.length:Int)],rfl,SqT.of kk,.inl ⟨rfl,?_⟩⟩;ext;refine iteB (λe=>?_) (λe=>absurd e qz);ext;rw[<-h6]at q;rw[e1];exact q _ (f3.trans sk)
   |some kb=>
    intro pk2 J2 sk2 kk2;refine⟨pk,[Sum.inr appS,Sum.inr sg,Sum.inl (ks.length:Int)],rfl,SqT.of (sk2 _ _ kk),.inr ⟨pk2,kb,rfl,SqT.of kk2,?_⟩⟩;ext
    exists e
    ·have hne:[Sum.inr appS,Sum.inr sg,Sum.inl (ks.length:Int)]≠kb:=by
      rw[Bool.not_eq_true']at e;exact Y8 e
     rw[b4u (a:=.app sg ks) rfl (by rw[hkb];exactλz=>hne (Zk z).symm)]at h6;have h6:none=mt t0 t1 rows0:=h6;ext;rw[<-h6]at q;rw[e1];exact q _ (f3.trans (sk.trans sk2))
    ·have heq:[Sum.inr appS,Sum.inr sg,Sum.inl (ks.length:Int)]=kb:=by
      rw[Rm]at e;exact Zr e
     rw[<-heq]at hkb;obtain⟨ls,rfl,hll⟩:=c8a hkb;have e5:mt (.app sg ks) (.app sg ls) rows=mtL ks ls rows:=by rw[mt,if_pos ⟨rfl,hll.symm⟩]
     rw[e5]at h6;have ss:=sk.trans sk2;obtain⟨a',b',ku',e6,ha',hb',hk'⟩:=a1l dy;subst e6;have hkl':=hk'.length;rw[Trm.dataL_map,length_map]at hkl';ext
     exists a0j (ss.tup hs) (v:=.ref a) rfl
     exists a0j (ss.tup ha) (v:=.str appS) rfl
     refine iteB (λe=>?_) (λe=>absurd e qk);ext;refine c1z ?_;ext
     exists a0j (ss.tup hs) (v:=.ref a) rfl
     exists a0j (ss.tup ha) (v:=.ref b) rfl
     exists a0j (ss.tup hs) (v:=.ref a') rfl
     exists a0j (ss.tup ha') (v:=.ref b') rfl
     refine⟨b,b',ku,ku',rfl,ss.tup hb,ss.tup hb',qo,λpz J3 qs hpz sz kz lz prz=>?_⟩;have sa:=ss.trans sz;have dz:=b4v qs ku ku' ks ls lz qo prz (hk.mono sa) (hk'.mono sa);have nz:pt≠pz:=λz=>by
      have:=ss _ _ f4;rw[z,hpz]at this;cases this
     ext;refine⟨.inl ⟨rfl,_,SqL.of kz⟩,?_⟩;refine⟨_,kz,?_⟩;have v1:DenL K (upd J3 pz (.lst (qs.map V.ref).reverse)) (qs.map V.ref).reverse ((ks.zip ls).map b0f).reverse:=(DenL.lst kz (My.DenL.rev dz));have v2:DenL K (upd J3 pz (.lst (qs.map V.ref).reverse)) us' (ps'.map b0f):=(f1.mono sa).lst kz;have v3:a2l K (upd J3 pz (.lst (qs.map V.ref).reverse)) pn rows:=(f5.mono sa).lst kz;have v4:(upd J3 pz (.lst (qs.map V.ref).reverse)) pt=some (.lst us'):=by rw[a0p nz];exact sa _ _ f4
     have v5:(upd J3 pz (.lst (qs.map V.ref).reverse)) pz=some (.lst (qs.map V.ref).reverse):=a0c;have v6:Same H (upd J3 pz (.lst (qs.map V.ref).reverse)):=a1f (f3.trans sa) (a2j (f3.trans ss) hpz);generalize upd J3 pz (.lst (qs.map V.ref).reverse)=J4 at v1 v2 v3 v4 v5 v6 ⊢;have hk70:=Trm.len_le ks;simp only[Trm.size]at h4 h7 h8 hp2;ext;refine⟨.inl ⟨rfl,_,SqL.of v4⟩,?_⟩;ext
     exists c4l v4 v5 (ln (by rw[W0,length_map];omega))
     have hzz:=b6j ks ls hll.symm;refine hnx _ _ (a2w (ps'++(ks.zip ls).reverse)) (by rw[a6w,hzz];omega) ⟨_,ps'++(ks.zip ls).reverse,rows,_,_,rfl,a0c,?_,v3.lst v4,⟨by rw[a6w,hzz];have:=h4.len;omega,h4.small⟩,λp hp=>?_,?_,by rw[a6w,hzz];omega,rfl,a1f v6 hpt0⟩
     ·rw[Zi,List.map_reverse];exact(v2.append v1).lst v4
     ·rcases Zx.mp hp with z|z
      ·exact h5' p z
      ·have:=(Uc (List.mem_reverse.mp z)).2;have:=b8e this;omega
     ·rw[Vm,Ul,c0y _ _ _ _ hll.symm];exact h6
end
section
variable{P:Program}{w:World}{K:W.Frag}{mg:Str->Option Value}{base:Heap}{t:Ad}
theorem c2q(T:Txt K mg t)  :FnOk P w K mg base CX0 1 t.a_b8 t.d_b8 ["name"] (a7h K):=by
 exists T.F_b8.ok c2e,a7h,(a0i (a0t (a1d (a0a a0r (a0a (mv 0) a0d))))),H,Q,E,hr,h
 rename_i x;ext;exact⟨ln (by show 2<=100000;decide),λp hp=>h _ _ (a0e hp _) (a5z (SqT.of a0c))⟩
theorem c2r(T:Txt K mg t)(G_b8:FnOk P w K mg base CX0 1 t.a_b8 t.d_b8 ["name"] (a7h K))(G_a9:FnOk P w K mg base CX0 1 t.a_a9 t.d_a9 ["sign","kids"] (b4s K))(n:Nat)(G_b1:FnOk P w K mg base CX0 (n+2) t.a_b1 t.d_b1 ["term","names"] (a4f K n)):FnOk P w K mg base CX0 (n+2+1) t.a_b1 t.d_b1 ["term","names"] (a4f K (n+1)):=by
 exists T.F_b1.ok (k:=n+2) c2g,a4f,(a0f (a0y (a0o a1b (a0h (a0g K rfl) (mv 0) a0b (λ_ _=>rfl)) a0r (a0l _)) (a0i (a0t (a0q G_b8 hr.o rfl T.m_b8 T.F_b8.kp T.b_b8 .nil a0v (a0a (pe_dget (a9j hr) (mv 1) (a0h (a0g K rfl) (mv 0) a0b (λ_ _=>rfl)) (λ_ _=>rfl)) a0d)))) a0u) (a0f (a0y (a0o a1b (a0h (a0g K rfl) (mv 0) a0b (λ_ _=>rfl)) a0r (a0l _)) (a0i (a0t (a0q G_a9 hr.o rfl T.m_a9 T.F_a9.kp T.b_a9 .nil a0v (a0a (a0h (a0g K rfl) (mv 0) a0b (λ_ _=>rfl)) (a0a (a2n rfl (b5b K rfl (a0h (a0g K rfl) (mv 0) a0b (λ_ _=>rfl))) (a1u (a0n a8f) ["term","names"] ["term","names"] rfl rfl qk) (λ_ _ _ _ _=>a1y) (λ_ _ _ _ _=>(a0q G_b1 hr.o rfl T.m_b1 T.F_b1.kp T.b_b1 .nil a0v (a0a (mv 0) (a0a (mv 2) a0d))))) a0d))))) a0u) (a0i (a0t (mv 0))))),H,Q,E,hr,h
 rename_i v d;obtain⟨t0,as,hd,hD,hv,hz,hn,q⟩:=h;ext;cases t0 with
 |any x=>
  obtain⟨a,rfl,hs⟩:=a2h hd
  exists a0j hs (v:=.str anyS) rfl
  rw[Zy,q3];refine iteT ?_;ext
  exists a0j hs (v:=.str x) rfl
  have dg:DGet H d (.str x) (valV (encS as) (Sum.inr x)):=DGet.k (k:=Sum.inr x) hD;rw[val_sub (hv x (by simp[vars]))]at dg;refine⟨d,_,rfl,dg,?_⟩;ext;intro w H' s' dw;exact q w H' s' (by rw[ren];exact dw)
 |num m=>
  obtain⟨a,rfl,hs⟩:=a2g hd
  exists a0j hs (v:=.str numS) rfl
  rw[Zy,q1];refine iteF ?_;ext
  exists a0j hs (v:=.str numS) rfl
  refine iteB (λe=>absurd e qk) (λe=>?_);ext;exact q _ H (Same.refl _) (by rw[ren];exact hd)
 |app sg ks=>
  obtain⟨a,b,us,rfl,hs,hb,hk⟩:=a1l hd;have hkl:=a2b hk;simp only[Trm.size]at hz
  exists a0j hs (v:=.str appS) rfl
  rw[Zy,q2];refine iteF ?_;ext
  exists a0j hs (v:=.str appS) rfl
  refine iteB (λe=>?_) (λe=>absurd e qk);ext
  exists a0j hs (v:=.str sg) rfl
  refine a0j hs (v:=.ref b) rfl ?_;refine⟨b,rfl,⟨_,hb⟩,λD hD'=>?_⟩;have zl:=Trm.len_le ks;refine a1t (b1u (xs:=us)) (λi ys J=>Same H J/\J D=some (.lst ys)/\DenL K J ys (Trm.dataL (renL (sub as) (ks.take i)))) (ln qo) ⟨a0e hD' _,a0c,by rw[Xz,renL];exact .nil⟩ (λi ys J hP=>hP.1.tup hb) (λi ys J Q' hi hl' hP k=>?_) (λys J hl' hP=>?_)
  ·obtain⟨g1,g2,g3⟩:=hP;have hki:i<ks.length:=by omega
   obtain⟨hu,dk⟩:=b2e hk hki;have z1:=a4v (Za hki);ext;rw[getD_at hu];refine⟨ks[i],as,dk.mono g1,g1 _ _ hD,λx hx=>hv x ?_,qo,qo,λx J2 s2 dx=>?_⟩
   ·rw[vars];have:∀(l:List Trm)(i:Nat)(h:i<l.length),x∈vars l[i]->x∈a3j l:=by
     intro l
     induction l with
     |nil=>intro i h;simp at h
     |cons a r ih=>
      intro i h hx;rw[a3j,Zx];cases i with
      |zero=>exact .inl hx
      |succ i=>exact .inr (ih i (by simpa using h) (by simpa using hx))
    exact this ks i hki hx
   ·have g6:J2 D=some (.lst ys):=s2 _ _ g2;refine k _ _ g6 ⟨a1f (g1.trans s2) hD',a0c,?_⟩;rw[take_succ' hki,a6b,Zi,<-a6b,a3e];exact((g3.mono s2).append (.cons dx .nil)).lst g6
  obtain⟨g1,g2,g3⟩:=hP;rw[Yb qo]at g3;ext;refine⟨ys,_,SqL.of g2,g3,λw J2 s2 dw=>?_⟩;exact q (.ref w) J2 (g1.trans s2) (by rw[ren];exact dw)
theorem c2s(T:Txt K mg t)(G_b8:FnOk P w K mg base CX0 1 t.a_b8 t.d_b8 ["name"] (a7h K))(G_a9:FnOk P w K mg base CX0 1 t.a_a9 t.d_a9 ["sign","kids"] (b4s K))(n:Nat):FnOk P w K mg base CX0 (n+2) t.a_b1 t.d_b1 ["term","names"] (a4f K n):=by
 induction n with
 |zero=>
  have no:∀vs H Q E,(a4f K 0) vs H Q E->False:=λvs H Q E h=>by
   unfold a4f at h;split at h
   ·exact c2j h
   ·exact h
  exact⟨λvs H Q E h=>(no vs H Q E h).elim,λA outer s H args us vs Q E _ _ _ _ h=>(no vs H Q E h).elim⟩
 |succ n ih=>
  have e:n+1+2=n+2+1:=by omega
  rw[e];exact c2r T G_b8 G_a9 n ih
theorem b5o(T:Txt K mg t)  :FnOk P w K mg base CX0 1 t.a_c2 t.d_c2 ["terms"] (a6f K):=by
 exists T.F_c2.ok a4z,a6f,(a0f (a0s (i:=1) a4z.nd rfl (by nofun) a7p) (a0f (a0s (i:=2) (hs:=a1e) a4z.nd rfl (by nofun) (b4n K rfl rfl rfl T.n_e1 rfl T.n_f5 (a0a (mv 0) a0d))) (a0f (b2w Yi (a7q K rfl (mv 2)) (a0f (a0s (i:=3) (hs:=a1e) a4z.nd rfl (by nofun) (b7s K rfl Z9 Te F.type_list_pop c4f (mv 2))) (a0i (a0y (a0o a1b (a0h (a0g K rfl) (mv 3) a0b (λ_ _=>rfl)) a0r (a0l _)) (a0i (b1s (a9j hr) (mv 1) (a0h (a0g K rfl) (mv 3) a0b (λ_ _=>rfl)) a3x rfl)) (a0i (a0y (a0o a1b (a0h (a0g K rfl) (mv 3) a0b (λ_ _=>rfl)) a0r (a0l _)) (a0i (a2f (a4a K rfl Z9 Vt Ri (b6b K rfl) (mv 2) (a0a (b4n K rfl rfl rfl T.n_e1 rfl T.n_f5 (a0a (a0h (a0g K rfl) (mv 3) a0b (λ_ _=>rfl)) a0d)) a0d)))) a0u)))))) (a0i (a0t (a1g (c7i rfl) rfl T.n_e1 W7 (a0a (mv 1) a0d))))))),H,Q,E,hr,h
 rename_i a;obtain⟨us,ts,hS,hd,hz,q⟩:=h;have hul:=a2b hd;have tl:=Trm.len_le ts;ext;intro pd hpd;have s1:=a0e hpd (.dK []);have k1:(upd H pd (.dK [])) pd=some (.dK []):=a0c;generalize upd H pd (.dK [])=H1 at s1 k1 ⊢;ext;refine⟨a,us,rfl,.inl (s1.seq hS),qo,λpt hpt=>?_⟩;have s2:=a0e hpt (.lst us.reverse);have k2:(upd H1 pt (.lst us.reverse)) pt=some (.lst us.reverse):=a0c;generalize upd H1 pt (.lst us.reverse)=H2 at s2 k2 ⊢;have hpt0:H pt=none:=a2j s1 hpt;have hne:pd≠pt:=λz=>by rw[z,hpt]at k1;cases k1
 have d2:DenL K H2 us.reverse (Trm.dataL ts.reverse):=by rw[<-b6h];exact My.DenL.rev (hd.mono (s1.trans s2))
 ext;refine b0t (λn σ' H'=>∃(ws:List V)(st:List Trm)(acc:List Str)(o1:Option V),σ'=[some (.ref a),some (.ref pd),some (.ref pt),o1]/\H' pt=some (.lst ws)/\DenL K H' ws (Trm.dataL st)/\H' pd=some (.dK (encB acc))/\acc.length+Trm.sizeL st<=1000/\ordL st.reverse acc=ordL ts []/\n=Trm.sizeL st/\Same H H') (Trm.sizeL ts.reverse) ⟨us.reverse,ts.reverse,[],none,rfl,k2,d2,s2 _ _ k1,by rw[b1h];simpa using hz,by rw[Ul],rfl,s1.trans s2⟩ (λn σ' H' R hP kT kF=>?_);obtain⟨ws,st,acc,o1,rfl,h1,h2,h3,h4,h5,h6,h7⟩:=hP;ext;refine .inl ⟨ws,SqL.of h1,?_⟩;rcases nil_or_snoc' st with rfl|⟨st',t1,rfl⟩
 ·have e:ws=[]:=by have:=a2b h2;simpa using this
  subst e
  exists kF H'
  refine⟨pd,_,rfl,.inl h3,λpr hpr=>?_⟩;rw[c5o];rw[V5,ordL]at h5;rw[h5];exact q pr _ (a1f h7 (a2j h7 hpr)) (a2j h7 hpr) a0c
 ·rw[a3e]at h2;obtain⟨ws',w,rfl,g1,g2⟩:=DenL.snoc h2;have hwl:=a2b g1;have hsl:=Trm.len_le st';have e:(!(ws'++[w]).isEmpty)=true:=by simp
  rw[e];have hsz:=Trm.sizeL_app st' [t1];have hs1:Trm.sizeL [t1]=t1.size:=by simp[Trm.sizeL]
  have tpos:=t1.size_pos;rw[Vm,List.reverse_singleton,T9,ordL]at h5;refine kT H' (λD' e1 e2 hnx hct=>?_);ext;refine⟨.inl ⟨rfl,_,SqL.of h1⟩,?_⟩
  exists c4m h1
  have f1:DenL K (upd H' pt (.lst ws')) ws' (Trm.dataL st'):=g1.lst h1;have f2:Den K (upd H' pt (.lst ws')) w t1.data:=g2.lst h1;have f3:Same H (upd H' pt (.lst ws')):=a1f h7 hpt0;have f4:(upd H' pt (.lst ws')) pt=some (.lst ws'):=a0c;have f5:(upd H' pt (.lst ws')) pd=some (.dK (encB acc)):=by rw[a0p hne];exact h3
  generalize upd H' pt (.lst ws')=J at f1 f2 f3 f4 f5 ⊢;cases t1 with
  |any x=>
   obtain⟨b,rfl,hb⟩:=a2h f2
   exists a0j hb (v:=.str anyS) rfl
   rw[Zy,q3];refine iteT ?_;ext
   exists a0j hb (v:=.str x) rfl
   refine⟨pd,_,rfl,DPut.k (k:=Sum.inr x) f5 (by rw[c8b,Yh];omega),?_⟩;rw[c8d];have bb:But pd J (upd J pd (.dK (encB (ord (.any x) acc)))):=a6g;have ol:=c0t (.any x) acc;refine hnx _ _ (Trm.sizeL st') qo ⟨ws',st',ord (.any x) acc,_,rfl,bb _ _ hne.symm f4,f1.monoT (b0b bb f5),a0c,qo,h5,rfl,c0w f3 bb hpd⟩
  |num m=>
   obtain⟨b,rfl,hb⟩:=a2g f2
   exists a0j hb (v:=.str numS) rfl
   rw[Zy,q1];refine iteF ?_;ext
   exists a0j hb (v:=.str numS) rfl
   refine iteB (λe=>absurd e qk) (λe=>?_);ext;rw[ord]at h5;exact hnx _ _ (Trm.sizeL st') qo ⟨ws',st',acc,_,rfl,f4,f1,f5,qo,h5,rfl,f3⟩
  |app sg ks=>
   obtain⟨b,c,ku,rfl,hb,hc,hk⟩:=a1l f2;have hkl:=a2b hk;have kl:=Trm.len_le ks;simp only[Trm.size]at hs1 tpos
   exists a0j hb (v:=.str appS) rfl
   rw[Zy,q2];refine iteF ?_;ext
   exists a0j hb (v:=.str appS) rfl
   refine iteB (λe=>?_) (λe=>absurd e qk);ext;refine⟨.inl ⟨rfl,_,SqL.of f4⟩,?_⟩;ext
   exists a0j hb (v:=.ref c) rfl
   refine⟨c,ku,rfl,.inr hc,qo,λpr hpr=>?_⟩;have s5:=a0e hpr (.lst ku.reverse);have k5:(upd J pr (.lst ku.reverse)) pr=some (.lst ku.reverse):=a0c;generalize upd J pr (.lst ku.reverse)=J5 at s5 k5 ⊢;ext
   exists c4l (s5 _ _ f4) k5 (ln (by rw[W0];omega))
   rw[ord]at h5;have sz:=Trm.sizeL_app st' ks.reverse;rw[b1h]at sz;have k6:=s5 _ _ f4;refine hnx _ _ (Trm.sizeL (st'++ks.reverse)) qo ⟨ws'++ku.reverse,st'++ks.reverse,acc,_,rfl,a0c,?_,?_,qo,?_,rfl,a1f (f3.trans s5) hpt0⟩
   ·rw[a3e,<-b6h];exact((f1.mono s5).append (My.DenL.rev (hk.mono s5))).lst k6
   ·rw[a0p hne];exact s5 _ _ f5
   ·rw[Vm,Ul,b3i];exact h5
theorem ok_a9(T:Txt K mg t)  :FnOk P w K mg base CX0 1 t.a_a9 t.d_a9 ["sign","kids"] (b4s K):=by
 exists T.F_a9.ok sc_a9,b4s,(a0i (a0t (a1d (a0a a0r (a0a (mv 0) (a0a (a1g (a4c K rfl) rfl T.n_e2 W5 (a0a (mv 1) a0d)) a0d)))))),H,Q,E,hr,h
 rename_i sg p;obtain⟨us,ks,hS,hd,q⟩:=h;ext;refine a5p hS (λp2 hp2=>?_);have s2:=a0e hp2 (.tup us);have k2:(upd H p2 (.tup us)) p2=some (.tup us):=a0c;generalize upd H p2 (.tup us)=H2 at s2 k2 ⊢;ext;refine⟨ln (by show 3<=100000;decide),λp3 hp3=>?_⟩;have s3:=a0e hp3 (.tup [.str "app",.str sg,.ref p2]);exact q _ _ (s2.trans s3) (a3f (SqT.of a0c) (SqT.of (s3 _ _ k2)) (hd.mono (s2.trans s3)))
theorem b9i(T:Txt K mg t)(G_c2:FnOk P w K mg base CX0 1 t.a_c2 t.d_c2 ["terms"] (a6f K))(G_b1:FnOk P w K mg base CX0 72 t.a_b1 t.d_b1 ["term","names"] (a4f K 70)):FnOk P w K mg base CX0 73 t.a_c7 t.d_c7 ["terms"] (a7w K):=by
 exists T.F_c7.ok a5s,a7w,(a0f (a0s (i:=1) a5s.nd rfl (by nofun) a7p) (a0f (a3r Yi rfl (a4q K rfl (a0q G_c2 hr.o rfl T.m_c2 T.F_c2.kp T.b_c2 .nil a0v (a0a (mv 0) a0d))) (a1w (i:=2) a5s.nd rfl (by nofun)) (a0f (a0s (i:=3) (hs:=a3h) a5s.nd rfl (by nofun) (a0k (a1k K rfl) (a0m c3z rfl T.n_a2 Zg (a0a (mv 1) a0d)) a0b)) (a0i (b1s (a9j hr) (mv 1) (mv 2) (pe_f2n (mv 3)) rfl)))) (a0i (a0t (a2n rfl (a4q K rfl (mv 0)) (a1u (a0n a6o) ["terms","names","name","number"] ["terms","names","name","number"] rfl rfl qk) (λ_ _ _ _ _=>a1y) (λ_ _ _ _ _=>(a0q G_b1 hr.o rfl T.m_b1 T.F_b1.kp T.b_b1 .nil a0v (a0a (mv 0) (a0a (mv 2) a0d))))))))),H,Q,E,hr,h
 rename_i a;obtain⟨us,ts,hS,hd,hz,hz70,q⟩:=h;have hul:=a2b hd;have tl:=Trm.len_le ts;ext;intro pd hpd;have s1:=a0e hpd (.dK []);have k1:(upd H pd (.dK [])) pd=some (.dK []):=a0c;generalize upd H pd (.dK [])=H1 at s1 k1 ⊢;ext;refine⟨us,ts,s1.seq hS,hd.mono s1,hz,λp H2 s2 hp kp=>?_⟩;have hu:=nodL ts;have hl:=a9p ts [];have hv:∀x∈a3j ts,x∈ordL ts []:=λx hx=>c7x hx
 have han:anew ts=renL (sub (mkA (λj _=>uS++tn (j+1)) 0 (ordL ts []))) ts:=rfl;generalize ordL ts []=u at hu hl hv kp han;rw[length_nil,Nat.zero_add]at hl;have hne:pd≠p:=λz=>by rw[<-z,k1]at hp;cases hp
 refine⟨p,rfl,⟨_,SqL.of kp⟩,?_⟩;refine a3s (a3z (xs:=u.map V.str)) (λi σ' J=>∃(o1 o2:Option V),σ'=[some (.ref a),some (.ref pd),o1,o2]/\J pd=some (.dK (encS (mkA (λj _=>uS++tn (j+1)) 0 (u.take i))))/\J p=some (.lst (u.map V.str))/\Same H J) ⟨none,none,rfl,by rw[Xz];exact s2 _ _ k1,kp,s1.trans s2⟩ (λi σ' J hP=>by obtain⟨_,_,_,_,h,_⟩:=hP;exact SqL.of h) (λi σ' J hi hP=>?_) (λσ' J hP=>?_)
 ·obtain⟨o1,o2,rfl,g1,g2,g3⟩:=hP;rw[length_map]at hi;rw[c5k hi];ext;refine⟨pd,_,rfl,g1,?_⟩;rw[c0u,c0v,Z7,Ub qo];ext;obtain⟨l1,l2,l3⟩:=fs_int (i:=(i:Int)+1) qo qo;refine⟨_,rfl,l1,l2,?_⟩;rw[l3];ext;refine⟨pd,_,rfl,DPut.k (k:=Sum.inr u[i]) g1 (by rw[c0u,c0v,Z7,Yh];omega),?_⟩;rw[put_mkA (λj _=>uS++tn (j+1)) hu hi (by show ofString "U"++tn ((i:Int)+1).toNat=uS++tn (i+1);rw[show((i:Int)+1).toNat=i+1 by omega];rfl)];have bb:=a6g (p:=pd) (H:=J) (o:=.dK (encS (mkA (λj _=>uS++tn (j+1)) 0 (u.take (i+1)))));exact⟨_,_,rfl,a0c,bb _ _ hne.symm g2,c0w g3 bb hpd⟩
 obtain⟨o1,o2,rfl,g1,g2,g3⟩:=hP;rw[length_map,V4]at g1;ext;refine⟨a,rfl,⟨_,g3.seq hS⟩,λD hD=>?_⟩;refine a1t (a3z (xs:=us)) (λi ys J2=>Same J J2/\J2 D=some (.lst ys)/\DenL K J2 ys (Trm.dataL (renL (sub (mkA (λj _=>uS++tn (j+1)) 0 u)) (ts.take i)))) (ln qo) ⟨a0e hD _,a0c,by rw[Xz,renL];exact .nil⟩ (λi ys J2 hP=>hP.1.seq (g3.seq hS)) (λi ys J2 Q' hi hl' hP k=>?_) (λys J2 hl' hP=>?_)
 ·obtain⟨f1,f2,f3⟩:=hP;have hki:i<ts.length:=by omega
  obtain⟨hui,dk⟩:=b2e hd hki;ext;rw[getD_at hui];refine⟨ts[i],_,(dk.mono g3).mono f1,f1 _ _ g1,λx hx=>?_,hz70 _ (Zw hki),qo,λx J3 s3 dx=>?_⟩
  ·rw[a9q];exact hv x (vars_in (Zw hki) x hx)
  ·have g6:J3 D=some (.lst ys):=s3 _ _ f2;refine k _ _ g6 ⟨a1f (f1.trans s3) hD,a0c,?_⟩;rw[take_succ' hki,a6b,Zi,<-a6b,a3e];exact((f3.mono s3).append (.cons dx .nil)).lst g6
 obtain⟨f1,f2,f3⟩:=hP;rw[Yb qo,<-han]at f3;exact q D ys J2 (g3.trans f1) (a2j g3 hD) f2 f3
end
section
variable{P:Program}{w:World}{K:W.Frag}{mg:Str->Option Value}{base:Heap}{t:Ad}
theorem c0a(T:Txt K mg t)  :FnOk P w K mg base CX0 1 t.a_c3 t.d_c3 ["sign"] (a8o):=by
 exists T.F_c3.ok b9q,a8o,(a0i (a0t (me_or (a1x b4g (mv 0) (a5w rfl T.m_e4) (by with_unfolding_all rfl)) (me_or (a1x b4g (mv 0) (a5w rfl T.m_e8) (by with_unfolding_all rfl)) (a7n (a1x b4g (mv 0) (a5w rfl T.m_e9) (by with_unfolding_all rfl))))))),H,Q,E,hr,h
 rename_i c;ext;have h:Q (.bl (inner c)) H:=h;unfold inner at h
 exists e
 ·rw[Zy]at e;rw[e]at h;exact h
 ·rw[Zy]at e;rw[e,Tu]at h;ext
  exists e
  ·rw[Zy]at e;rw[e]at h;exact h
  ·rw[Zy]at e;rw[e,Tu]at h;ext;rw[Zy];exact h
theorem b9j(T:Txt K mg t)(G_c3:FnOk P w K mg base CX0 1 t.a_c3 t.d_c3 ["sign"] (a8o)):FnOk P w K mg base CX0 2 t.a_d1 t.d_d1 ["text","firsts"] (a7x):=by
 exists T.F_d1.ok b8p,a7x,(a0f (a0y (PW.pt (a7b (a6q (a7q K rfl (a0m (kc_is K rfl) rfl T.n_f4 boot_isinstance (a0a (mv 0) (a0a (c4g rfl T.n_e7 boot_str) a0d))))) (a7m (a6q (a9m b1v b1v a0b (a0m (a0x K rfl) rfl T.n_a2 Zg (a0a (mv 0) a0d)) (pe_gint rfl T.m_f0)))))) (a0i (a0t a3x)) a0u) (a0i (a0t (a6r (a1x b4g (a0h (a0g K rfl) (mv 0) a0b (λ_ _=>rfl)) (mv 1) (by with_unfolding_all rfl)) (a7n (a0m (b7r K rfl rfl) rfl T.n_f1 boot_all (a0a (a2n rfl (pi_str (mv 0)) (a1u (a0n a6n) ["text","firsts"] ["text","firsts"] rfl rfl qk) (λ_ _ _ _ _=>a1y) (λ_ _ _ _ _=>(a0q G_c3 hr.o rfl T.m_c3 T.F_c3.kp T.b_c3 .nil a0v (a0a (mv 0) a0d)))) a0d))))))),H,Q,E,hr,h
 rename_i z f;obtain⟨hz,q⟩:=h;ext;refine iteF ?_;ext
 exists mLen_s (ln qo)
 unfold called at q;have lo:decide ((1:Int)<=z.length)=false\/decide ((1:Int)<=z.length)=true/\decide ((z.length:Int)<=12)=false->Q (.bl false) H:=λc=>by
  have q:=q H (Same.refl H);rcases c with c|⟨c1,c2⟩
  ·rw[c]at q;simpa using q
  ·rw[c1,c2]at q;simpa using q
 exists e
 rotate_left
 ·ext;exact lo (.inl e)
 ext
 exists e2
 ·ext;refine lo (.inr ⟨e,?_⟩);cases d:decide ((z.length:Int)<=12)with
  |false=>rfl
  |true=>rw[d]at e2;cases e2
 have e2:decide ((z.length:Int)<=12)=true:=by
  cases d:decide ((z.length:Int)<=12)with
  |true=>rfl
  |false=>rw[d]at e2;cases e2
 rw[e,e2]at q;simp only[Bool.and_self,Yr]at q;have hp:0<z.length:=by have:=Zr e;omega
 ext
 exists b1w (ln qo) (len_fst hp)
 rw[Zy]
 exists e3
 rotate_left
 ·have e3:inS (fst z) f=false:=e3;rw[e3]at q;exact q H (Same.refl H)
 have e3:inS (fst z) f=true:=e3;rw[e3]at q;simp only[Yr]at q;ext;refine⟨z,rfl,λD hD=>?_⟩;refine a1t (row_str z) (λi ys H'=>Same H H'/\ys=((List.range i).map λk=>inner (one (z.cps.getD k 0))).map V.bl/\H' D=some (.lst ys)) (ln (by unfold Str.length at hz;omega)) ⟨a0e hD _,rfl,a0c⟩ (λ_ _ _ _=>trivial) (λi ys H' Q' hi hl hP k=>?_) (λys H' hl hP=>?_)
 ·obtain⟨h1,h2,h3⟩:=hP;ext;refine k _ _ h3 ⟨a1f h1 hD,?_,a0c⟩;rw[Xs,Zi,Zi,h2];rfl
 ·obtain⟨h1,h2,h3⟩:=hP;ext;refine⟨_,SqL.of (h2▸h3),?_⟩;have:=q H' h1;rw[<-all_get z (λc=>inner (one c))]at this;exact this
theorem c2t(T:Txt K mg t)(G_d1:FnOk P w K mg base CX0 2 t.a_d1 t.d_d1 ["text","firsts"] (a7x)):FnOk P w K mg base CX0 3 t.a_d3 t.d_d3 ["text"] (b0c):=by
 exists T.F_d3.ok c2f,b0c,(a0i (a0t (a0q G_d1 hr.o rfl T.m_d1 T.F_d1.kp T.b_d1 .nil a0v (a0a (mv 0) (a0a (a5w rfl T.m_e4) a0d))))),H,Q,E,hr,h
 rename_i z;ext;exact h
theorem c0b(T:Txt K mg t)(G_d3:FnOk P w K mg base CX0 3 t.a_d3 t.d_d3 ["text"] (b0c)):FnOk P w K mg base CX0 4 t.a_c1 t.d_c1 ["term"] (a8p K):=by
 exists T.F_c1.ok b9r,a8p,(a0i (a0t (a6r (a1x a1b (a0h (a0g K rfl) (mv 0) a0b (λ_ _=>rfl)) a0r (a0l _)) (a6r (a0q G_d3 hr.o rfl T.m_d3 T.F_d3.kp T.b_d3 .nil a0v (a0a (a0h (a0g K rfl) (mv 0) a0b (λ_ _=>rfl)) a0d)) (a7n (a1x (b2b K rfl) (a0h (a0g K rfl) (mv 0) a0b (λ_ _=>rfl)) (a1d (a0a (a5w rfl T.m_e6) (a0a (a5w rfl T.m_e3) a0d))) (by with_unfolding_all rfl))))))),H,Q,E,hr,h
 rename_i v;obtain⟨s,ks,hd,hw,q⟩:=h;obtain⟨a,pa,us,rfl,hs,hb,hk⟩:=a1l hd;ext
 exists a0j hs (v:=.str appS) rfl
 refine iteB (λe=>?_) (λe=>absurd e qk);ext
 exists a0j hs (v:=.str s) rfl
 refine⟨hw,λH1 s1=>?_⟩;ext
 exists e1
 ·ext
  exists a0j (s1.tup hs) (v:=.str s) rfl
  refine⟨ln (by show 2<=100000;decide),λp1 hp1=>?_⟩;refine b3e [keepS,notS] (.inr (SqT.of a0c)) ?_;have:=q _ (s1.trans (a0e hp1 (.tup [.str keepS,.str notS])));rw[nmd,e1,Yr]at this;exact this
 ·have:=q _ s1;rw[nmd,e1,Yp]at this;exact this
theorem c2u(T:Txt K mg t)  :FnOk P w K mg base CX0 1 t.a_d0 t.d_d0 ["goal"] (b0d K):=by
 exists T.F_d0.ok c2h,b0d,(a0i (a0t (a1d (a0a (a0h (a0g K rfl) (mv 0) a0b (λ_ _=>rfl)) (a0a (a0m (a0x K rfl) rfl T.n_a2 Zg (a0a (a0h (a0g K rfl) (mv 0) a0b (λ_ _=>rfl)) a0d)) a0d))))),H,Q,E,hr,h
 rename_i v;obtain⟨s,ks,hd,q⟩:=h;obtain⟨a,pa,us,rfl,hs,hb,hk⟩:=a1l hd;ext
 exists a0j hs (v:=.str s) rfl
 exists a0j hs (v:=.ref pa) rfl
 exists a3a hb
 refine⟨ln (by show 2<=100000;decide),λp hp=>?_⟩;have hl:=hk.length;rw[Trm.dataL_map,length_map]at hl;exact q p _ (a0e hp _) (by rw[a0c,hl];rfl)
end
section
variable{P:Program}{w:World}{K:W.Frag}{mg:Str->Option Value}{base:Heap}{t:Ad}
theorem b4y(T:Txt K mg t)  :FnOk P w K mg base CX0 1 t.a_d7 t.d_d7 ["self","place","number","kind"] (a5u K t.k_a1):=by
 exists T.F_d7.ok b4p,a5u,(a0i (a0t (a6r (c6z a9l a9l (mv 1) (mv 2) (a0m (a0x K rfl) rfl T.n_a2 Zg (a0a (a8s (mv 0) rfl) a0d))) (a7n (a1x a1b (a0h (a0g K rfl) (a0h (a0g K rfl) (a8s (mv 0) rfl) (mv 2) (λ_ _=>rfl)) a0b (λ_ _=>rfl)) (mv 3) (a0l _)))))),H,Q,E,hr,h
 rename_i l i k z;obtain⟨rs,ws,wd,L,h0,rfl,q⟩:=h;obtain⟨dx,ru,rq,wo,eo,D⟩:=L.ex;obtain⟨uw,w1,w2⟩:=D.w;have hul:=w2.length;rw[length_map]at hul;ext
 exists e
 ·ext;refine⟨l,_,dx,_,_,rfl,eo,T.cl_a1,T.no_a1_rows,b2j,?_⟩;ext
  exists a1c (SqL.of w1)
  exists e2
  ·have k1:k<(ws.length:Int):=by have:=Zr e2;omega
   have k0:=Zr e;obtain⟨us,u,a,gv,kp,g1,g2,g3,rfl,g5,g6,g7⟩:=D.row (k:=k.toNat) qo;ext;refine⟨l,_,dx,_,_,rfl,eo,T.cl_a1,T.no_a1_rows,b2j,?_⟩;ext
   exists a1a (SqL.of g1) (a1r qo g3)
   exists a0j g5 (v:=.str yesS) rfl
   rw[e,Zt k1]at q
   simpa using q
  ·have k1:¬k<(ws.length:Int):=by have:=Y8 e2;omega
   ext;rw[Zo k1,Vf]at q;exact q
 ·ext;rw[e,Yp]at q;exact q
theorem c8s(T:Txt K mg t)  :FnOk P w K mg base CX0 1 t.a_d4 t.d_d4 ["goal"] (b3s K):=by
 exists T.F_d4.ok c7y,b3s,(a0f (a0y (a0o a1b (a0h (a0g K rfl) (mv 0) a0b (λ_ _=>rfl)) a0r (a0l _)) (a0i (a0t (a1x (b8g K rfl (a3t hr)) (a0h (a0g K rfl) (a0h (a0g K rfl) (mv 0) a0b (λ_ _=>rfl)) a0b (λ_ _=>rfl)) (a0h (a0g K rfl) (a0h (a0g K rfl) (mv 0) a0b (λ_ _=>rfl)) a0b (λ_ _=>rfl)) (a0l _)))) a0u) (a0f a9g (a0i a9g))),H,Q,E,hr,h
 rename_i g;obtain⟨ks,hd,h2,hz,q⟩:=h;obtain⟨a,pa,us,rfl,hs,hb,hk⟩:=a1l hd;obtain⟨k1,k2,rfl⟩:=c5w h2;obtain⟨u1,u2,rfl,d1,d2⟩:=b8z hk;simp only[Trm.size,Trm.sizeL]at hz;ext
 exists a0j hs (v:=.str eqS) rfl
 refine iteB (λe=>?_) (λe=>absurd e qk);ext
 exists a0j hs (v:=.ref pa) rfl
 exists a0j hb (v:=u1) rfl
 exists a0j hs (v:=.ref pa) rfl
 exists a0j hb (v:=u2) rfl
 refine a6u d1 d2 qo ?_;rw[Zy];exact q
end
section
variable{P:Program}{w:World}{K:W.Frag}{mg:Str->Option Value}{base:Heap}{t:Ad}
theorem b0k(T:Txt K mg t)(G_b6:FnOk P w K mg base CX0 2 t.a_b6 t.d_b6 ["one","other","puts"] (b0g K))(G_d7:FnOk P w K mg base CX0 1 t.a_d7 t.d_d7 ["self","place","number","kind"] (a5u K t.k_a1)):FnOk P w K mg base CX0 3 t.a_d5 t.d_d5 ["self","place","goal","number","kids"] (a4g K t.k_a1):=by
 exists T.F_d5.ok a2a,a4g,(a0f (a0y (a6q (a9m b1v b1v a0b (mv 3) (a0m (a0x K rfl) rfl T.n_a2 Zg (a0a (a8s (mv 0) rfl) a0d)))) (a0i (a0t a3x)) a0u) (a0f (a0s (i:=5) (hs:=a4j) a2a.nd rfl (by nofun) (a0h (a0g K rfl) (a8s (mv 0) rfl) (a0k a2p (mv 3) a0b) (λ_ _=>rfl))) (a0f (a0y (PW.pt (a7b (a0o a7d (a0m (a0x K rfl) rfl T.n_a2 Zg (a0a (mv 4) a0d)) (a0m (a0x K rfl) rfl T.n_a2 Zg (a0a (a0h (a0g K rfl) (mv 5) a0b (λ_ _=>rfl)) a0d)) (a0l _)) (a7m (a6q (a7q K rfl (a0m (b7r K rfl rfl) rfl T.n_f1 boot_all (a0a (a2n rfl (a4q K rfl (mv 4)) (a1u (a0n a3k) ["self","place","goal","number","kids","told","puts","asked","kid"] ["self","place","goal","number","kids","told","puts","asked","%kid"] rfl rfl qk) (λ_ _ _ _ _=>a1y) (λ_ _ _ _ _=>(b1p (mv 1) T.cl_a1 T.me_d7 G_d7 hr.o T.b_d7 .nil a0v (a0a (mv 2) (a0a (mv 0) (a0a a0r a0d)))))) a0d))))))) (a0i (a0t a3x)) a0u) (a0f (a0s (i:=6) (hs:=a1e) a2a.nd rfl (by nofun) (a0q G_b6 hr.o rfl T.m_b6 T.F_b6.kp T.b_b6 .nil a0v (a0a (a0h (a0g K rfl) (mv 5) a0b (λ_ _=>rfl)) (a0a (mv 2) (a0a a7p a0d))))) (a0f (a3r Yi rfl (c7t K rfl rfl T.n_f3 (a0a (a0h (a0g K rfl) (mv 5) a0b (λ_ _=>rfl)) (a0a (mv 4) a0d))) (b2a K rfl rfl (a3y (a1w (i:=7) a2a.nd rfl (by nofun)) (a3y (a1w (i:=8) a2a.nd rfl (by nofun)) b1n))) (a0i (a0y (a0o b5d (mv 6) a3n (a0l _)) (a0i (a0s (i:=6) (hs:=a1e) a2a.nd rfl (by nofun) (a0q G_b6 hr.o rfl T.m_b6 T.F_b6.kp T.b_b6 .nil a0v (a0a (mv 7) (a0a (a0h (a0g K rfl) (a0h (a0g K rfl) (a8s (mv 0) rfl) (mv 8) (λ_ _=>rfl)) a0b (λ_ _=>rfl)) (a0a (mv 6) a0d)))))) a0u))) (a0i (a0t (a1x b5d (mv 6) a3n (a0l _))))))))),H,Q,E,hr,h
 rename_i l i gv n kp;obtain⟨rs,ws,wd,goal,kids,L,h0,hg,hz,hk,hkl,q⟩:=h;obtain⟨dx,ru,rq,wo,eo,D⟩:=L.ex;obtain⟨ur,r1,r2⟩:=D.r;have hur:=r2.length;rw[length_map]at hur;ext
 exists e
 rotate_left
 ·ext;refine iteT ?_;ext;rw[e,Yp]at q;exact q _ (Same.refl _)
 have n1:1<=n:=Zr e;rw[e,Yr]at q;refine⟨l,_,dx,_,_,rfl,eo,T.cl_a1,T.no_a1_rules,b8y,?_⟩;ext
 exists a1c (SqL.of r1)
 exists e2
 ·have n2:¬n<=(ur.length:Int):=λz=>by rw[Zt z]at e2;cases e2
  ext;rw[c1c (by show(rs.length:Int)<n;omega) n1]at q;exact q _ (Same.refl _)
 have n2:n<=(ur.length:Int):=by
  cases d:decide (n<=(ur.length:Int))with
  |true=>exact Zr d
  |false=>rw[d]at e2;cases e2
 have hk1:(n-1).toNat<rs.length:=by omega
 obtain⟨us,u,ta,hv,gp,ug,g1,g2,g3,rfl,g5,g6,g7,g8⟩:=D.rule hk1;have hgl:=a2b g8;have hru:=D.ro _ (Zw hk1);rw[c5x hk1 rfl]at q;generalize rs[(n-1).toNat]=x at q g6 g8 hgl hru;have hx2:=hru.l;ext;refine⟨l,_,dx,_,_,rfl,eo,T.cl_a1,T.no_a1_rules,b8y,?_⟩;ext
 exists a1a (SqL.of g1) (a1r qo g3)
 exists a1c (SqL.of hk)
 exists a0j g5 (v:=.ref gp) rfl
 exists a3a g7
 rw[length_map];have hd:decide (kids.length=x.2.length)=decide ((kids.length:Int)=(ug.length:Int)):=by rw[hgl];exact Xx.mpr qo
 rw[hd]at q
 exists e3
 ·have e3:decide ((kids.length:Int)=(ug.length:Int))=false:=by
   cases d:decide ((kids.length:Int)=(ug.length:Int))with
   |false=>rfl
   |true=>rw[d]at e3;cases e3
  refine iteT ?_;ext;rw[e3,Yp]at q;exact q _ (Same.refl _)
 have e3:decide ((kids.length:Int)=(ug.length:Int))=true:=by
  cases d:decide ((kids.length:Int)=(ug.length:Int))with
  |true=>rfl
  |false=>rw[d]at e3;cases e3
 rw[e3,Yr]at q;have e3:kids.length=ug.length:=by have:=Zr e3;omega
 ext;refine⟨kp,rfl,⟨_,SqL.of hk⟩,λD1 hD1=>?_⟩;refine a1t (a3z (xs:=kids.map V.int)) (λj ys J=>Same H J/\ys=((kids.take j).map λk=>decide (i<k)&&decide (k<(ws.length:Int))).map V.bl/\J D1=some (.lst ys)) (ln (by rw[length_map];omega)) ⟨a0e hD1 _,rfl,a0c⟩ (λj ys J hP=>hP.1.seq (SqL.of hk)) (λj ys J Q' hj hl hP k=>?_) (λys J hl hP=>?_)
 ·obtain⟨s1,h2,h3⟩:=hP;have hj:j<kids.length:=by simpa using hj
  rw[b9a hj];ext;refine⟨l,dx,_,rfl,(s1 _ _ eo),b7c qk,?_⟩;ext;refine⟨rs,ws,wd,L.same s1,h0,rfl,?_⟩;refine k _ _ h3 ⟨a1f s1 hD1,?_,a0c⟩;rw[h2,take_succ' hj,Zi,Zi];rfl
 obtain⟨s1,h2,h3⟩:=hP;have hl':kids.take (kids.map V.int).length=kids:=Yb (by rw[length_map];exact Zh _);have hall:((kids.take (kids.map V.int).length).map λk=>decide (i<k)&&decide (k<(ws.length:Int))).all id=a4k i.toNat ws.length kids:=by
  have ei:((i.toNat:Nat):Int)=i:=by omega
  rw[hl',U2];unfold a4k;rw[ei];rfl
 ext;refine⟨_,SqL.of (h2▸h3),?_⟩
 exists tru_eq hall
 exists e4
 ·have e4:a4k i.toNat ws.length kids=false:=by
   cases d:a4k i.toNat ws.length kids with
   |false=>rfl
   |true=>rw[d]at e4;cases e4
  ext;rw[e4,Yp]at q;exact q _ s1
 have e4:a4k i.toNat ws.length kids=true:=by
  cases d:a4k i.toNat ws.length kids with
  |true=>rfl
  |false=>rw[d]at e4;cases e4
 rw[e4,Yr]at q;ext
 exists a0j (s1.tup g5) (v:=hv) rfl
 intro pn hpn;have sn:=a0e hpn (.dK []);have kn:(upd J pn (.dK [])) pn=some (.dK []):=a0c;generalize upd J pn (.dK [])=J1 at sn kn ⊢;have s2:=s1.trans sn;have hs:∀g∈kids.map (a2o ws),g.size<=25:=λg hg=>by
  obtain⟨k,_,rfl⟩:=Z4.mp hg;exact b2t D.wo k
 have hlk:x.2.length=(kids.map (a2o ws)).length:=by rw[length_map];omega
 have z1:=hru.z1;ext;refine⟨x.1,goal,[],g6.mono s2,hg.mono s2,⟨[],kn,.nil⟩,⟨qz,λr hr=>by simp at hr⟩,qo,qo,on_m λw J2 s3 iw=>?_⟩;have s4:=s2.trans s3;ext
 exists a0j (s4.tup g5) (v:=.ref gp) rfl
 refine⟨gp,kp,ug,kids.map V.int,rfl,s4.tup g7,SqL.of (s4 _ _ hk),by rw[length_map];omega,?_⟩;refine c7u (xs:=ug) (ys:=kids.map V.int) (by rw[length_map];omega) (λj σ' J=>∃(o1 o2:Option V)(w:V),σ'=[some (.ref l),some (.int i),some gv,some (.int n),some (.ref kp),some (.ref ta),some w,o1,o2]/\Same H J/\pIs K J w (stp x goal (kids.map (a2o ws)) j)) ⟨none,none,w,rfl,s4,?_⟩ (λj σ' J hP=>?_) (λj σ' J T' hj hP hT=>?_) (λσ' J hP=>?_)
 ·unfold stp;rw[Xz];cases hm:mt x.1 goal []<;>(rw[hm]at iw;exact iw)
 ·obtain⟨_,_,_,_,s,_⟩:=hP;exact⟨s.tup g7,SqL.of (s _ _ hk)⟩
 ·obtain⟨o1,o2,w,rfl,s5,iw⟩:=hP;have hj1:j<x.2.length:=by omega
  have hj2:j<kids.length:=by omega
  obtain⟨ua,hu1,hu2,hu3⟩:=a8b g8 hj1;rw[hu2,b9a hj2];refine b4k (SqT.of a0c) rfl ?_;have s6:=a0e hT (.tup [ua,.int kids[j]]);generalize upd J T' (.tup [ua,.int kids[j]])=J3 at s6 ⊢;have s7:=s5.trans s6;have iw:=iw.same s6;have hes:=b0j (x:=x) (g:=goal) (gs:=kids.map (a2o ws)) hj1 (by rw[length_map];exact hj2);have hok:=b9c hru hz hs hlk j;cases hst:stp x goal (kids.map (a2o ws)) j with
  |none=>
   rw[hst]at iw hes;obtain rfl:w=.non:=iw;ext;refine iteB (λe=>absurd e qz) (λe=>?_);ext;refine⟨_,_,.non,rfl,s7,?_⟩;rw[hes];rfl
  |some rows=>
   rw[hst]at iw hes;obtain⟨pw,rfl,hpw⟩:∃p,w=.ref p/\a2l K J3 p rows:=iw;have hro:=(hok rows qo hst).1;ext;refine iteB (λe=>?_) (λe=>absurd e qz);obtain⟨b1,b2⟩:=c1d e4 (Zw hj2);obtain⟨us',u',a',gv',kp',q1,q2,q3,rfl,q5,q6,q7⟩:=D.row (k:=kids[j].toNat) qo;have hgk:(kids.map (a2o ws))[j]'(by rw[length_map];exact hj2)=(ws[kids[j].toNat]'(by omega)).goal:=by rw[List.getElem_map];exact b9d qo
   have hz25:=hs _ (Zw (l:=kids.map (a2o ws)) (n:=j) (by rw[length_map];exact hj2));rw[hgk]at hes hz25;have hz26:=hru.z2 _ (Zw hj1);ext;refine⟨l,_,dx,_,_,rfl,(s7 _ _ eo),T.cl_a1,T.no_a1_rows,b2j,?_⟩;ext
   exists a1a (SqL.of (s7 _ _ q1)) (a1r qo q3)
   exists a0j (s7.tup q5) (v:=gv') rfl
   refine⟨x.2[j],(ws[kids[j].toNat]'(by omega)).goal,rows,hu3.mono s7,q6.mono s7,hpw,⟨by have:=hro.len;omega,hro.small⟩,qo,qo,on_m λw' J4 s8 iw'=>?_⟩;ext;refine⟨_,_,w',rfl,s7.trans s8,?_⟩;rw[hes];exact iw'
 obtain⟨o1,o2,w,rfl,s5,iw⟩:=hP;rw[show ug.length=x.2.length from hgl]at iw;ext;have q:=q _ s5;cases hst:stp x goal (kids.map (a2o ws)) x.2.length with
 |none=>
  rw[hst]at iw;obtain rfl:w=.non:=iw;rw[hst]at q;refine⟨rfl,?_⟩
  simpa using q
 |some rows=>
  rw[hst]at iw;obtain⟨pw,rfl,hpw⟩:∃p,w=.ref p/\a2l K J p rows:=iw;rw[hst]at q;refine⟨rfl,?_⟩
  simpa using q
end
section
variable{P:Program}{w:World}{K:W.Frag}{mg:Str->Option Value}{base:Heap}{t:Ad}
theorem c2v(T:Txt K mg t)(G_c7:FnOk P w K mg base CX0 73 t.a_c7 t.d_c7 ["terms"] (a7w K))(G_d0:FnOk P w K mg base CX0 1 t.a_d0 t.d_d0 ["goal"] (b0d K)):FnOk P w K mg base CX0 74 t.a_d2 t.d_d2 ["rules"] (b0e K):=by
 exists T.F_d2.ok a5t,b0e,(a0f (a0s (i:=1) a5t.nd rfl (by nofun) c6w) (a0f (a3r Yi rfl (c7h K rfl rfl T.n_f9 (a0a (mv 0) a0d)) (b2a K rfl rfl (a3y (a1w (i:=2) a5t.nd rfl (by nofun)) (a3y (a1w (i:=3) a5t.nd rfl (by nofun)) b1n))) (a0f (a0s (i:=4) (hs:=a1e) a5t.nd rfl (by nofun) (a0q G_c7 hr.o rfl T.m_c7 T.F_c7.kp T.b_c7 .nil a0v (a0a (a0k (a1k K rfl) (a1i (a0a (a0h (a0g K rfl) (mv 3) a0b (λ_ _=>rfl)) a0d)) (a1g (a5y K rfl) rfl T.n_e1 W7 (a0a (a0h (a0g K rfl) (mv 3) a0b (λ_ _=>rfl)) a0d))) a0d))) (a0i (a2f (a4a K rfl Z9 Yq Yy a2t (a4a K rfl U3 Vd T8 (c7q (a3t hr)) (mv 1) (a0a (a0q G_d0 hr.o rfl T.m_d0 T.F_d0.kp T.b_d0 .nil a0v (a0a (a0h (a0g K rfl) (mv 4) a0b (λ_ _=>rfl)) a0d)) (a0a (a1i a0d) a0d))) (a0a (a1d (a0a (a0k (a1k K rfl) (mv 2) a0b) (a0a (a0h (a0g K rfl) (mv 4) a0b (λ_ _=>rfl)) (a0a (a2x (a5x K rfl) (mv 4) (a3m a0b) a3l) a0d)))) a0d)))))) (a0i (a0t (mv 1))))),H,Q,E,hr,h
 rename_i a;obtain⟨us,rs,hS,hd,hok,hl,q⟩:=h;have hul:=hd.length;rw[length_map]at hul;ext;intro p hp;have s1:Same H (upd H p (.dT [])):=a0e hp _;have k1:(upd H p (.dT [])) p=some (.dT []):=a0c;generalize upd H p (.dT [])=H1 at s1 k1 ⊢;ext;refine⟨a,us,rfl,s1.seq hS,?_⟩;refine c5e (λi σ' J=>∃(o1 o2 o3:Option V)(M:List Addr)(kvs:List (List Key×V)),σ'=[some (.ref a),some (.ref p),o1,o2,o3]/\TabM K H J p M kvs (tabF (rs.take i) 0 [])/\kvs.length<=i) ⟨none,none,none,[],[],rfl,⟨s1,k1,hp,λm hm=>by simp at hm,.nil,qz,λm hm=>by simp at hm⟩,Zh _⟩ (λi σ' J hP=>by obtain⟨_,_,_,_,_,_,tm,_⟩:=hP;exact tm.sm.seq hS) (λi σ' J T' hi hP hT=>?_) (λσ' J hP=>?_)
 ·obtain⟨o1,o2,o3,M,kvs,rfl,tm,hkl⟩:=hP;have hki:i<rs.length:=by omega
  have hx:us[i]? =some us[i]:=Za hi
  obtain⟨d,e1,e2⟩:=hd.get hx;rw[Zz,Za hki]at e1;have e1:ruE rs[i]=d:=Zk e1;subst e1;have hg:us.getD i .non=us[i]:=by rw[Zm,hx];rfl
  rw[hg];have rok:=hok _ (Zw hki);refine b4k (SqT.of a0c) rfl ?_;have sT:=a0e hT (.tup [.int i,us[i]]);have tm1:=tm.same sT;generalize upd J T' (.tup [.int i,us[i]])=J1 at sT tm1 ⊢;have e2:=e2.mono tm1.sm;obtain⟨w1,ks,ehd⟩:=rok.ap;generalize hx0:rs[i]=x0 at e2 rok ehd;generalize us[i]=u0 at e2 ⊢;obtain⟨ta,hv,gp,ug,rfl,hts,hhd,hgp,hgd⟩:∃ta hv gp ug,u0=.ref ta/\SqT K J1 ta [hv,.ref gp]/\Den K J1 hv x0.1.data/\SqT K J1 gp ug/\DenL K J1 ug (Trm.dataL x0.2):=by
   cases e2 with
   |tup c d=>
    cases d with
    |cons e f=>
     cases f with
     |cons g h=>
      cases h;cases g with
      |tup i j=>exact⟨_,_,_,_,rfl,c,e,i,j⟩
  have hgl:=a2b hgd;have hg10:=rok.l;ext
  exists a0j hts (v:=hv) rfl
  refine⟨ln (by show 1<=100000;decide),λp2 hp2=>?_⟩;have sp2:Same J1 (upd J1 p2 (.lst [hv])):=a0e hp2 _;have kp2:(upd J1 p2 (.lst [hv])) p2=some (.lst [hv]):=a0c;generalize upd J1 p2 (.lst [hv])=J2 at sp2 kp2 ⊢;ext
  exists a0j (sp2.tup hts) (v:=.ref gp) rfl
  refine⟨gp,ug,rfl,.inr (sp2.tup hgp),λp3 hp3=>?_⟩;have s3:=a0e hp3 (.lst ug);have k3:(upd J2 p3 (.lst ug)) p3=some (.lst ug):=a0c;generalize upd J2 p3 (.lst ug)=J3 at s3 k3 ⊢;ext;refine a7r (s3 _ _ kp2) k3 (ln (by show 1+ug.length<=_;omega)) λp4 hp4=>?_
  have s4:=a0e hp4 (.lst ([hv]++ug));have k4:(upd J3 p4 (.lst ([hv]++ug))) p4=some (.lst (hv::ug)):=a0c;generalize upd J3 p4 (.lst ([hv]++ug))=J4 at s4 k4 ⊢;have s14:=sp2.trans (s3.trans s4);ext;have hz1:=rok.z1;have hz2:=b3q rok.z2;have hz3:x0.2.length*60<=10*60:=Xo _ hg10;refine⟨hv::ug,x0.1::x0.2,SqL.of k4,.cons (hhd.mono s14) (hgd.mono s14),by rw[Trm.sizeL];omega,λt ht=>?_,λp5 us5 J5 s5 hp5 kp5 d5=>?_⟩
  ·rcases Zp.mp ht with z|z
   ·rw[z];omega
   ·have:=rok.z2 t z;omega
  rw[c5r]at d5;cases d5 with
  | @cons u5 us5 _ _ du5 dus5=>
  have tm5:=tm1.same (s14.trans s5);have tm4:=tm1.same s14;have n5:p5∉M:=tm4.notM hp5;have eR:ren (fAn x0) x0.1=.app w1 (renL (fAn x0) ks):=by rw[ehd,ren]
  have eK:keyT x0.1=nd w1 (renL (fAn x0) ks).length:=by rw[ehd,a6b,length_map];rfl
  ext;refine⟨.inr (.inr (.inl ⟨rfl,.inr ⟨_,tm5.top⟩⟩)),?_⟩;ext
  exists a1a (SqL.of kp5) (c0x _ _)
  refine⟨w1,renL (fAn x0) ks,by rw[<-eR];exact du5,λp6 J6 s6 hp6=>?_⟩;have tm6:=tm5.same s6;ext;refine⟨Yc _,λp7 hp7=>?_⟩;ext;refine tm6.setd hp6 hp7 qo λJ8 m8 M8 kvs8 tab8 tm8 hv8 ha8 hl8 kt8 kl8=>?_
  obtain⟨us8,e8⟩:=tm8.at hv8;obtain⟨k58,n58⟩:=kl8 p5 _ n5 (s6 _ _ kp5);ext;refine⟨.inl ⟨rfl,_,SqL.of e8⟩,?_⟩;ext
  exists a1a (SqL.of k58) (c0x _ _)
  refine⟨p5,_,rfl,SqL.of k58,λp9 hp9=>?_⟩;rw[a6e _ 1 qd,show(u5::us5).drop (1:Int).toNat=us5 from rfl];have s9:Same J8 (upd J8 p9 (.lst us5)):=a0e hp9 _;have k9:(upd J8 p9 (.lst us5)) p9=some (.lst us5):=a0c;generalize upd J8 p9 (.lst us5)=J9 at s9 k9 ⊢;ext;refine⟨ln (by show 3<=100000;decide),λpA hpA=>?_⟩;have sA:Same J9 (upd J9 pA (.tup [.int ((i:Int)+1),u5,.ref p9])):=a0e hpA _;have kA:(upd J9 pA (.tup [.int ((i:Int)+1),u5,.ref p9])) pA=some (.tup [.int ((i+1:Nat):Int),u5,.ref p9]):=a0c;generalize upd J9 pA (.tup [.int ((i:Int)+1),u5,.ref p9])=JA at sA kA ⊢;have tmA:=tm8.same (s9.trans sA);have ktA:KT K J5 JA:=(KT.same s6).trans (kt8.trans (KT.same (s9.trans sA)));have dA:Dm K JA M8 (.ref pA) (mkRl (i+1) x0).data:=.tup (SqT.of kA) (.cons (.int _) (.cons ((b1i _).mpr (du5.monoT ktA)) (.cons (.lst (sA _ _ k9) (tm8.notM hp9) ((a9c _).mpr (dus5.monoT ktA))) .nil)));obtain⟨usA,eA,⟨bA,hbA,hlA⟩,tmB,prB⟩:=tmA.app hv8 dA;rw[ha8,<-eK]at hbA tmB;have hlen:=b3r (n:=i) (λb hb=>by have:=b8x (rs:=rs.take i) (n:=0) (tb:=[]) (λb hb=>by simp at hb) b hb;rw[Z7]at this;omega) bA hbA;ext;refine a2u eA (ln1 qo) ?_;refine⟨_,_,_,M8,kvs8,rfl,?_,qo⟩;rw[take_succ' hki,b6i,Z7,hx0,show 0+min i rs.length+1=i+1 by omega];exact tmB
 obtain⟨o1,o2,o3,M,kvs,rfl,tm,hkl⟩:=hP;rw[Yb qo]at tm;ext;exact q p kvs J tm.sm hp tm.top (Paired.mapP tm.row λ_ _ ⟨e,m,us,e1,e2,e3,e4⟩=>⟨e,by rw[e1];exact .lst e3 qz e4.weak⟩)
end
section
variable{P:Program}{w:World}{K:W.Frag}{mg:Str->Option Value}{base:Heap}{t:Ad}
theorem a9f(T:Txt K mg t)(G_c1:FnOk P w K mg base CX0 4 t.a_c1 t.d_c1 ["term"] (a8p K))(G_d5:FnOk P w K mg base CX0 3 t.a_d5 t.d_d5 ["self","place","goal","number","kids"] (a4g K t.k_a1))(G_d4:FnOk P w K mg base CX0 1 t.a_d4 t.d_d4 ["goal"] (b3s K)):FnOk P w K mg base CX0 5 t.a_d8 t.d_d8 ["self","place","goal","number","kids"] (a3u K t.k_a1):=by
 exists T.F_d8.ok a9b,a3u,(a0f (a0y (a7q K rfl (a0q G_c1 hr.o rfl T.m_c1 T.F_c1.kp T.b_c1 .nil a0v (a0a (mv 2) a0d))) (a0i (a0t (b1p (mv 0) T.cl_a1 T.me_d5 G_d5 hr.o T.b_d5 .nil a0v (a0a (mv 1) (a0a (mv 2) (a0a (mv 3) (a0a (mv 4) a0d))))))) a0u) (a0f (a0y (a0o a7d (mv 3) a0b (a0l _)) (a0i (a0t a3x)) a0u) (a0f (a0y (a0o a1b (a0h (a0g K rfl) (mv 2) a0b (λ_ _=>rfl)) (a5w rfl T.m_e3) (a0l _)) (a0i a9g) a0u) (a0i (a0t (a6r (ke_not K rfl (mv 4)) (a7n (a0q G_d4 hr.o rfl T.m_d4 T.F_d4.kp T.b_d4 .nil a0v (a0a (mv 2) a0d))))))))),H,Q,E,hr,h
 rename_i l i gv n kp;obtain⟨rs,ws,wd,goal,kids,L,h0,hg,hgo,hk,hkl,q⟩:=h;obtain⟨dx,ru,rq,wo,eo,D⟩:=L.ex;obtain⟨s,ks,rfl,hs,hz⟩:=hgo;have hsl:s.length<=1000:=by
  rcases hs with z|⟨z,_⟩
  ·exact(D.wd'.w s z).ln
  ·rw[z];decide+kernel
 ext;refine⟨s,ks,hg,hsl,λH1 s1=>?_⟩;have q:=λJ z=>q J (s1.trans z)
 ext
 exists e
 ·have ne:s≠eqS:=λz=>by rw[z]at e;exact absurd e qk
  have ei:isEq (.app s ks)=false:=Zo ne;ext;refine⟨l,dx,_,rfl,(s1 _ _ eo),b7c qk,?_⟩;ext;refine⟨rs,ws,wd,.app s ks,kids,L.same s1,h0,hg.mono s1,hz,s1 _ _ hk,hkl,λH2 s2=>?_⟩;have q:=q _ s2;unfold a8k at q;rw[ei]at q;exact q
 ·have es:s=eqS/\ks.length=2:=by
   rcases hs with z|z
   ·have:=D.wd'.w s z;rw[b8w this]at e;cases e
   ·exact z
  obtain⟨rfl,h2⟩:=es;have ei:isEq (.app eqS ks)=true:=by rw[isEq];exact Zt rfl
  unfold a8k at q;rw[ei]at q;have q:∀J,Same H1 J->Q (.bl (decide (n=0)&&(kids.isEmpty&&b5k (.app eqS ks)))) J:=q;ext
  exists e2
  ·have e2:decide (n=0)=false:=by
    cases d:decide (n=0)with
    |false=>rfl
    |true=>rw[d]at e2;cases e2
   ext;rw[e2,Yp]at q;exact q _ (Same.refl _)
  have e2:decide (n=0)=true:=by
   cases d:decide (n=0)with
   |true=>rfl
   |false=>rw[d]at e2;cases e2
  rw[e2,Yr]at q;obtain⟨a,pa,us,rfl,hs,hb,hkk⟩:=a1l (hg.mono s1);ext
  exists a0j hs (v:=.str eqS) rfl
  refine iteB (λe3=>absurd e3 qk) (λe3=>?_);ext;refine .inl ⟨_,SqL.of (s1 _ _ hk),?_⟩;ext;have ek:(kids.map V.int).isEmpty=kids.isEmpty:=by cases kids<;>rfl
  rw[ek];cases hke:kids.isEmpty with
  |false=>
   refine iteB (λe4=>absurd e4 qd) (λe4=>?_);ext;rw[hke,Yp]at q;exact q _ (Same.refl _)
  |true=>
   refine iteB (λe4=>?_) (λe4=>absurd e4 qd);rw[hke,Yr]at q;ext;exact⟨ks,hg.mono s1,h2,hz,q _ (Same.refl _)⟩
theorem b2n(T:Txt K mg t)(G_d8:FnOk P w K mg base CX0 5 t.a_d8 t.d_d8 ["self","place","goal","number","kids"] (a3u K t.k_a1)):FnOk P w K mg base CX0 6 t.a_d6 t.d_d6 ["self","place"] (a5b K t.k_a1):=by
 exists T.F_d6.ok a7a,a5b,(a0f (a0s (i:=2) (hs:=a4j) a7a.nd rfl (by nofun) (a0h (a0g K rfl) (a8s (mv 0) rfl) (mv 1) (λ_ _=>rfl))) (a0i (ps_try0 (λ_ _ z=>z) (a0f (a0y (a0o a1b (a0h (a0g K rfl) (mv 2) a0b (λ_ _=>rfl)) a0r (a0l _)) (a0i (a0t (b1p (mv 0) T.cl_a1 T.me_d8 G_d8 hr.o T.b_d8 .nil a0v (a0a (mv 1) (a0a (a0h (a0g K rfl) (mv 2) a0b (λ_ _=>rfl)) (a0a (a0h (a0g K rfl) (mv 2) a0b (λ_ _=>rfl)) (a0a (a0h (a0g K rfl) (mv 2) a0b (λ_ _=>rfl)) a0d))))))) a0u) (a0i a9g))))),H,Q,E,hr,h
 rename_i l i;obtain⟨rs,ws,wd,L,h0,h1,q⟩:=h;obtain⟨dx,ru,rq,wo,eo,D⟩:=L.ex;have hk:i.toNat<ws.length:=by omega
 obtain⟨us,u,a,gv,kp,g1,g2,g3,rfl,g5,g6,g7⟩:=D.row hk;have hwo:=D.wo _ (Zw hk);have e:a4w rs ws i.toNat=a8k rs ws i.toNat ws[i.toNat]:=by
  unfold a4w;rw[Za hk];rfl
 rw[e]at q;ext;refine⟨l,_,dx,_,_,rfl,eo,T.cl_a1,T.no_a1_rows,b2j,?_⟩;ext
 exists a1a (SqL.of g1) (a1r qo g3)
 exists a0j g5 (v:=.str yesS) rfl
 refine iteB (λe=>?_) (λe=>absurd e qk);ext;refine⟨l,dx,_,rfl,eo,b7c qk,?_⟩;ext
 exists a0j g5 (v:=gv) rfl
 exists a0j g5 (v:=.int (ws[i.toNat]).n) rfl
 exists a0j g5 (v:=.ref kp) rfl
 exact⟨rs,ws,wd,(ws[i.toNat]).goal,(ws[i.toNat]).kids,L,h0,g6,hwo.g,g7,hwo.l,q⟩
theorem b5p(T:Txt K mg t)(G_d2:FnOk P w K mg base CX0 74 t.a_d2 t.d_d2 ["rules"] (b0e K)):FnOk P w K mg base CX0 75 t.a_e0 t.d_e0 ["self","rules","rows"] (a6i K t.k_a1):=by
 exists T.F_e0.ok b5j,a6i,(a0f (b7g (mv 0) (mv 1) rfl) (a0f (b7g (mv 0) (a0q G_d2 hr.o rfl T.m_d2 T.F_d2.kp T.b_d2 .nil a0v (a0a (mv 1) a0d)) rfl) (a0i (b7g (mv 0) (mv 2) rfl)))),H,Q,E,hr,h
 rename_i l ru rq;obtain⟨dx,rs,ws,wd,eo,D,q⟩:=h;ext;refine⟨l,_,dx,_,rfl,eo,T.cl_a1,T.no_a1_rules,qz,?_⟩;have D1:=D.ins (o:=.ins t.k_a1 dx (putF (ofString "rules") (.ref ru) [])) eo;have b1:But l H (upd H l (.ins t.k_a1 dx (putF (ofString "rules") (.ref ru) []))):=a6g;have e1:(upd H l (.ins t.k_a1 dx (putF (ofString "rules") (.ref ru) []))) l=some (.ins t.k_a1 dx [(ofString "rules",.ref ru)]):=a0c;generalize upd H l (.ins t.k_a1 dx (putF (ofString "rules") (.ref ru) []))=H1 at D1 b1 e1 ⊢;obtain⟨ur,r1,r2⟩:=D1.r;ext;refine⟨ur,rs,SqL.of r1,r2,λx hx=>(D.ro x hx).ok,by have:=D.l1;omega,λp kvs H2 s2 n2 k2 tb=>?_⟩;have e2:=s2 _ _ e1;have D2:=D1.same s2;ext;refine⟨l,_,dx,_,rfl,e2,T.cl_a1,T.no_a1_worded,qz,?_⟩;have D3:=D2.ins (o:=.ins t.k_a1 dx (putF (ofString "worded") (.ref p) [(ofString "rules",.ref ru)])) e2;have b3:But l H2 (upd H2 l (.ins t.k_a1 dx (putF (ofString "worded") (.ref p) [(ofString "rules",.ref ru)]))):=a6g;have e3:(upd H2 l (.ins t.k_a1 dx (putF (ofString "worded") (.ref p) [(ofString "rules",.ref ru)]))) l=some (.ins t.k_a1 dx [(ofString "rules",.ref ru),(ofString "worded",.ref p)]):=by
  rw[a0c,putF,if_neg qk,putF]
 generalize upd H2 l (.ins t.k_a1 dx (putF (ofString "worded") (.ref p) [(ofString "rules",.ref ru)]))=H3 at D3 b3 e3 ⊢;ext;refine⟨l,_,dx,_,rfl,e3,T.cl_a1,T.no_a1_rows,qz,?_⟩;have D4:=D3.ins (o:=.ins t.k_a1 dx (putF (ofString "rows") (.ref rq) [(ofString "rules",.ref ru),(ofString "worded",.ref p)])) e3;have b4:But l H3 (upd H3 l (.ins t.k_a1 dx (putF (ofString "rows") (.ref rq) [(ofString "rules",.ref ru),(ofString "worded",.ref p)]))):=a6g;have e4:(upd H3 l (.ins t.k_a1 dx (putF (ofString "rows") (.ref rq) [(ofString "rules",.ref ru),(ofString "worded",.ref p)]))) l=some (.ins t.k_a1 dx (lkF ru p rq)):=by
  rw[a0c,putF,if_neg qk,putF,if_neg qk,putF]
 generalize upd H3 l (.ins t.k_a1 dx (putF (ofString "rows") (.ref rq) [(ofString "rules",.ref ru),(ofString "worded",.ref p)]))=H4 at D4 b4 e4 ⊢;ext;exact q _ (λc o hc e=>b4 _ _ hc (b3 _ _ hc (s2 _ _ (b1 _ _ hc e)))) ⟨dx,ru,rq,p,e4,D4⟩
theorem c2w(T:Txt K mg t)(G_e0:FnOk P w K mg base CX0 75 t.a_e0 t.d_e0 ["self","rules","rows"] (a6i K t.k_a1))(G_d6:FnOk P w K mg base CX0 6 t.a_d6 t.d_d6 ["self","place"] (a5b K t.k_a1)):FnOk P w K mg base CX0 77 t.a_b7 t.d_b7 ["rules","rows"] (b0h K):=by
 exists T.F_b7.ok b4q,b0h,(a0f (a0s (i:=2) (hs:=a1e) b4q.nd rfl (by nofun) (pe_make T.mk_a1 G_e0 hr.o rfl T.m_a1 T.b_e0 .nil a0v (a0a (mv 0) (a0a (mv 1) a0d)))) (a0i (a0t (a6r (a1x a5h (a0m (a0x K rfl) rfl T.n_a2 Zg (a0a (mv 1) a0d)) a0b (a0l _)) (a7n (a0m (b7r K rfl rfl) rfl T.n_f1 boot_all (a0a (a2n rfl (a1n rfl T.n_d9 (a0a (a0m (a0x K rfl) rfl T.n_a2 Zg (a0a (mv 1) a0d)) a0d)) (a1u (a0n a8g) ["rules","rows","looker"] ["rules","rows","looker"] rfl rfl qk) (λ_ _ _ _ _=>a1y) (λ_ _ _ _ _=>(b1p (mv 3) T.cl_a1 T.me_d6 G_d6 hr.o T.b_d6 .nil a0v (a0a (mv 0) a0d)))) a0d))))))),H,Q,E,hr,h
 rename_i ru rq;obtain⟨rs,ws,wd,D,q⟩:=h;obtain⟨uw,w1,w2⟩:=D.w;have hul:=w2.length;rw[length_map]at hul;have hl2:=D.l2;ext;refineλl dx hl hd hne=>?_
 have s1:Same H (upd (upd H dx (.own l)) l (.ins t.k_a1 dx [])):=λa o e=>by rw[a0p (a1m e hl),a0p (a1m e hd)];exact e
 refine⟨dx,rs,ws,wd,a0c,D.same s1,λH1 b1 L1=>⟨rfl,?_⟩⟩;have s2:Same H H1:=λa o e=>b1 a o (a1m e hl) (s1 a o e)
 ext
 exists a1c (SqL.of (s2 _ _ w1))
 exists e
 rotate_left
 ·ext;rw[Zo (by have:=Y8 e;omega),Yp]at q;exact q _ s2
 rw[Zt (show 0<ws.length by have:=Zr e;omega),Yr]at q;ext
 exists a1c (SqL.of (s2 _ _ w1))
 refine⟨_,rfl,qo,qo,λD1 hD1=>?_⟩;refine a1t (a1o 0 (uw.length:Int).toNat) (λj ys J=>Same H1 J/\ys=((List.range j).map (a4w rs ws)).map V.bl/\J D1=some (.lst ys)) (ln qo) ⟨a0e hD1 _,rfl,a0c⟩ (λ_ _ _ _=>trivial) (λj ys J Q' hj hl' hP k=>?_) (λys J hl' hP=>?_)
 ·obtain⟨s3,h2,h3⟩:=hP;obtain⟨dx',ru',rw',wo',eo,_⟩:=L1.ex;ext;refine⟨l,dx',_,rfl,s3 _ _ eo,b7c qk,?_⟩;ext;refine⟨rs,ws,wd,L1.same s3,qo,qo,λJ2 s4=>?_⟩;refine k _ _ (s4 _ _ h3) ⟨a1f (s3.trans s4) hD1,?_,a0c⟩;rw[h2,Xs,Zi,Zi,show(0+(j:Int)).toNat=j by omega];rfl
 obtain⟨s3,h2,h3⟩:=hP;have hall:((List.range (uw.length:Int).toNat).map (a4w rs ws)).all id=a7l rs ws:=by
  rw[U2,show(uw.length:Int).toNat=ws.length by omega];rfl
 ext;refine⟨_,SqL.of (h2▸h3),?_⟩;have q:=q _ (s2.trans s3);rw[<-hall]at q;exact q
end
section
variable{P:Program}{w:World}{K:W.Frag}{mg:Str->Option Value}{base:Heap}{t:Ad}
theorem c6g(T:Txt K mg t)  :FnOk P w K mg base CX0 1 t.a_a8 t.d_a8 ["_law_script","_law_k"] (b1e K):=by
 exists T.F_a8.ok b1d,b1e,(a0f (a0y (a0o a9l (mv 1) (a0m (a0x K rfl) rfl T.n_a2 Zg (a0a (mv 0) a0d)) (a0l _)) (a0i (a0t (a0h (a0g K rfl) (mv 0) (mv 1) (λ_ _=>rfl)))) a0u) (a0f (a0s (i:=2) (hs:=a3h) b1d.nd rfl (by nofun) (a0k (a1k K rfl) (a0k a4p a0b (mv 1)) a0b)) (a0f (a0y (a0o a5h (a0m (a0x K rfl) rfl T.n_a2 Zg (a0a (mv 0) a0d)) a0b (a0l _)) (a0i (a0s (i:=2) (hs:=a3h) b1d.nd rfl (by nofun) (a0k (a1k K rfl) (mv 2) (a0k a4p a0b (a0h (a0g K rfl) (mv 0) (a0k a0w (a0k a4p a0b (mv 1)) (a0m (a0x K rfl) rfl T.n_a2 Zg (a0a (mv 0) a0d))) (λ_ _=>rfl)))))) a0u) (a0i (a0t (a0k a0w (a0k a4p (mv 2) (mv 2)) a0b)))))),H,Q,E,hr,h
 rename_i a k;obtain⟨ns,hS,hb,h0,h1,q⟩:=h;ext
 exists a1c hS
 rw[length_map]
 exists e
 ·have hk:=Zr e;ext;obtain⟨v,hv,hv2⟩:=a2c (xs:=ns.map V.int) h0 (by rw[length_map];exact hk);obtain⟨x,rfl⟩:=ints_at hv;refine a1a hS hv ?_;exact q _
 ext
 exists a4i (a4b qd)
 exists a1c hS
 rw[length_map]
 exists e
 ·have hl:=Zr e;ext
  exists a4i (a4b qd)
  exists a1c hS
  rw[length_map]
  exists m2_i (show(0:Int)<(ns.length:Int)from hl)
  have b1:=Yw (5*k) (show(ns.length:Int)≠0 by omega);have b2:=Yj (5*k) hl;obtain⟨v,hv,hv2⟩:=a2c (xs:=ns.map V.int) b1 (by rw[length_map];exact b2);obtain⟨x,hx,rfl⟩:=Z4.mp (a5m hv)
  exists a1a hS hv
  exists a4i (a4b qd)
  have hbx:=bits_lt _ _ (c5n (c:=7919*k+17) (lt_bits x _ (hb x hx)) qo)
  exists a4i (c1v qo)
  exact q _
 ·ext
  exists a4i (a4b qo)
  exact q _
theorem c0c(T:Txt K mg t)  :FnOk P w K mg base CX0 1 t.a_c9 t.d_c9 ["_law_cell_here"] (a6m):=by
 exists T.F_c9.ok b9s,a6m,(a0f (a0y (a0o a1b (a0k a0w (mv 0) a0b) a0b (a0l _)) (a0i (a0t (a0k (a1k K rfl) (a0k a2p (a0k a0w (a0k a4p (a0k a1j (mv 0) a0b) a0b) (a0k a2p (a0k a4p a0b (a0k c4d a0b a0b)) a0b)) (a0k c4d a0b a0b)) a0b))) a0u) (a0i (a0t (a0k a2p (a0k a0w (a0k a1j (mv 0) a0b) a0b) a0b)))),H,Q,E,hr,h
 rename_i c;have q:=h;ext
 exists e
 ·ext
  exists a4i (a6l qd)
  exists m2_i (C:=CPow) ⟨qd,qd,qd⟩
  exists a4i (a4b qd)
  exists m2_i (C:=CPow) ⟨qd,qd,qd⟩
  exact q _
 ·ext;exact q _
theorem c2x(T:Txt K mg t)  :FnOk P w K mg base CX0 1 t.a_b3 t.d_b3 ["_law_cell_here","_law_many","_law_first"] (a7i K):=by
 exists T.F_b3.ok a2r,a7i,(a0f (a0s (i:=3) a2r.nd rfl (by nofun) a0r) (a0f (a0y (a0o a1b (a0k a0w (mv 0) a0b) a0b (a0l _)) (a0i (a0t (a2n rfl (a1n rfl T.n_d9 (a0a (mv 1) a0d)) (a1u (a0n a6v) ["_law_cell_here","_law_many","_law_first","_law_signs","_law_size","_law_at","_law_names_here","_law_j","_law_name","_law_k","_law_place"] ["_law_cell_here","_law_many","_law_first","_law_signs","_law_size","_law_at","_law_names_here","_law_j","_law_name","%_law_k","_law_place"] rfl rfl qk) (λ_ _ _ _ _=>a1y) (λ_ _ _ _ _=>(a0k (a1k K rfl) (a0h (a0g K rfl) (mv 3) a0b (λ_ _=>rfl)) (a1g c4o rfl T.n_e7 boot_str (a0a (a0k (a1k K rfl) a0b (a0k a0w (a0k (a1k K rfl) (mv 0) (a0k a1j (mv 1) a0b)) (mv 2))) a0d))))))) a0u) (a0f (a0y (a0o a1b (a0k a0w (mv 0) a0b) a0b (a0l _)) (a0i (a0t (a2n rfl (a1n rfl T.n_d9 (a0a (mv 1) a0d)) (a1u (a0n a6v) ["_law_cell_here","_law_many","_law_first","_law_signs","_law_size","_law_at","_law_names_here","_law_j","_law_name","_law_k","_law_place"] ["_law_cell_here","_law_many","_law_first","_law_signs","_law_size","_law_at","_law_names_here","_law_j","_law_name","%_law_k","_law_place"] rfl rfl qk) (λ_ _ _ _ _=>a1y) (λ_ _ _ _ _=>(a0k (a1k K rfl) (a0h (a0g K rfl) (mv 3) (a0k a0w (a0k a1j (mv 1) a0b) a0b) (λ_ _=>rfl)) (a0k ko_repS (a0h (a0g K rfl) (mv 4) (a0k a0w (a0k a1j (mv 1) a0b) a0b) (λ_ _=>rfl)) (mv 0))))))) a0u) (a0f (a0s (i:=4) (hs:=a3h) a2r.nd rfl (by nofun) (a0k (a1k K rfl) a0b (a0k a0w (a0k a1j (mv 0) a0b) a0b))) (a0f (a0s (i:=5) (hs:=a3h) a2r.nd rfl (by nofun) (a0k a0w (a0k a1j (mv 0) a0b) (mv 4))) (a0f (a0s (i:=6) (hs:=a6s) a2r.nd rfl (by nofun) (a1i a0d)) (a0f (a3r Yi rfl (a1n rfl T.n_d9 (a0a (mv 1) a0d)) (a1w (i:=7) a2r.nd rfl (by nofun)) (a0f (a0s (i:=8) a2r.nd rfl (by nofun) a0r) (a0f (a3r Yi rfl (a1n rfl T.n_d9 (a0a (mv 4) a0d)) (a1w (i:=9) a2r.nd rfl (by nofun)) (a0f (a0s (i:=10) (hs:=a3h) a2r.nd rfl (by nofun) (a0k (a1k K rfl) (a0k (a1k K rfl) (a0k a1j (mv 0) (a0k (a1k K rfl) (a0k a4p a0b (mv 9)) a0b)) (mv 9)) (a0k a4p (mv 7) (a1g b4j rfl T.n_e5 Se (a0a (a1x a1b (mv 9) (mv 5) (a0l _)) a0d))))) (a0i (a0s (i:=8) (hs:=a3h) a2r.nd rfl (by nofun) (a0k (a1k K rfl) (mv 8) (b2v (a0o a1b (mv 9) a0b (a0l _)) (a0h (a0g K rfl) (mv 2) (a0k a0w (mv 10) a0b) (λ_ _=>rfl)) (a0h (a0g K rfl) (mv 3) (a0k a0w (mv 10) a0b) (λ_ _=>rfl)))))))) (a0i (a2f (a4a K rfl Z9 Yq Yy a2t (mv 6) (a0a (mv 8) a0d))))))) (a0i (a0t (mv 6)))))))))),H,Q,E,hr,h
 rename_i c m first
 obtain⟨h1,h2,hf,hn,q⟩:=h;have fl:first.length<=sizeLine:=ln qo
 have fl':first.cps.toList.length=26:=by rw[<-hf];simp[Str.length]
 have l62:a4d.cps.toList.length=62:=by decide+kernel
 have tl:a4d.length<=sizeLine:=ln (by rw[tl62];decide);ext
 exists e
 ·obtain⟨a0,ha0⟩:=b0r (z:=first) (i:=20) qd qo;ext;refine⟨m,rfl,qo,qo,λD hD=>?_⟩;refine a1t (a1o 0 m.toNat) (λi ys H'=>Same H H'/\ys=(List.range i).map (λk=>V.str ((λk:Nat=>(⟨(a0::a3b (1+(0+(k:Int)+c/4)%m).toNat).toArray⟩:Str)) k))/\H' D=some (.lst ys)) (ln qo) ⟨a0e hD _,rfl,a0c⟩ (λ_ _ _ _=>trivial) (λi ys H' Q' hi hl' hP k=>?_) (λys H' hl' hP=>?_)
  ·obtain⟨g1,g2,g3⟩:=hP;ext
   exists b1w fl ha0
   exists m2_i (show(0:Int)<m by omega)
   have b1:=Yw (0+(i:Int)+c/4) (show m≠0 by omega);have b2:=Yj (0+(i:Int)+c/4) (show 0<m by omega);refine c4q qo qo ?_;have fg:=b1z (n:=(1+(0+(i:Int)+c/4)%m).toNat) qo;refine a8x (ln (by rw[fg];show 1+1<=100000;decide)) ?_;rw[show(⟨#[a0]⟩:Str)++⟨(a3b (1+(0+(i:Int)+c/4)%m).toNat).toArray⟩=⟨(a0::a3b (1+(0+(i:Int)+c/4)%m).toNat).toArray⟩from b1y [a0] _];refine k _ _ g3 ⟨a1f g1 hD,?_,a0c⟩;rw[g2,Xs,Zi];rfl
  ·obtain⟨g1,g2,g3⟩:=hP;refine q D ((List.range m.toNat).map (λk:Nat=>(⟨(a0::a3b (1+(0+(k:Int)+c/4)%m).toNat).toArray⟩:Str))) H' qz (a4m _ λi j hi hj e=>?_) (λx hx=>?_) g1 (by rw[Y6];exact g2▸g3)
   ·have e:=(V3 (st_inj' e)).2;have c1:=Yw (0+(i:Int)+c/4) (show m≠0 by omega);have c2:=Yj (0+(i:Int)+c/4) (show 0<m by omega);have c3:=Yw (0+(j:Int)+c/4) (show m≠0 by omega);have c4:=Yj (0+(j:Int)+c/4) (show 0<m by omega);rw[b1z qo,b1z qo]at e;have e:(0+(i:Int)+c/4)%m=(0+(j:Int)+c/4)%m:=by
     have:=(V3 e).1;omega
    have d:=Int.emod_eq_emod_iff_emod_sub_eq_zero.mp e;obtain⟨w1,hw⟩:=Int.dvd_of_emod_eq_zero d;have hw:(i:Int)-j=m*w1:=by omega
    rcases Int.lt_trichotomy w1 0 with z|z|z
    ·have:m*w1<=m*(-1):=Tb qo qo;omega
    ·subst z;omega
    ·have:m*1<=m*w1:=Tb qo qo;omega
   ·obtain⟨i,hi,rfl⟩:=Z4.mp hx;have hi:=Xc.mp hi;have c1:=Yw (0+(i:Int)+c/4) (show m≠0 by omega);have c2:=Yj (0+(i:Int)+c/4) (show 0<m by omega);rw[b1z qo];refine⟨_,_,rfl,a5m ha0,λy hy=>?_,qz⟩;rw[Zs.mp hy];exact c8e ⟨(1+(0+(i:Int)+c/4)%m).toNat,qo⟩
 ext
 exists e
 ·obtain⟨a0,ha0⟩:=b0r (z:=first) (i:=c/4%26) qo qo;obtain⟨b0,hb0⟩:=b0r (z:=a4d) (i:=c/104%62) qo (by rw[tl62];omega);ext;refine⟨m,rfl,qo,qo,λD hD=>?_⟩;refine a1t (a1o 0 m.toNat) (λi ys H'=>Same H H'/\ys=(List.range i).map (λk=>V.str ((λk:Nat=>(⟨(a0::List.replicate k b0).toArray⟩:Str)) k))/\H' D=some (.lst ys)) (ln qo) ⟨a0e hD _,rfl,a0c⟩ (λ_ _ _ _=>trivial) (λi ys H' Q' hi hl' hP k=>?_) (λys H' hl' hP=>?_)
  ·obtain⟨g1,g2,g3⟩:=hP;ext
   exists b1w fl ha0
   exists b1w tl hb0
   refine mRepS_i qo qo ?_;rw[show(0+(i:Int)).toNat=i by omega];refine a8x (ln (by have e9:=str_len (List.replicate i b0);rw[Uh]at e9;rw[e9];show 1+i<=100000;omega)) ?_;rw[show(⟨#[a0]⟩:Str)++⟨(List.replicate i b0).toArray⟩=⟨(a0::List.replicate i b0).toArray⟩from b1y [a0] _];refine k _ _ g3 ⟨a1f g1 hD,?_,a0c⟩;rw[g2,Xs,Zi];rfl
  ·obtain⟨g1,g2,g3⟩:=hP;refine q D ((List.range m.toNat).map (λk:Nat=>(⟨(a0::List.replicate k b0).toArray⟩:Str))) H' qz (a4m _ λi j hi hj e=>?_) (λx hx=>?_) g1 (by rw[Y6];exact g2▸g3)
   ·have e:=Xj List.length (st_inj' e)
    simpa using e
   ·obtain⟨i,hi,rfl⟩:=Z4.mp hx;have hi:=Xc.mp hi;refine⟨_,_,rfl,a5m ha0,λy hy=>?_,by rw[Uh];omega⟩;rw[(List.mem_replicate.mp hy).2];exact a5m hb0
 ext;have z0:0<=c/4%12/\c/4%12<12:=by omega
 generalize c/4%12=sz at z0 ⊢
 exists m2_i (show(0:Int)<1+sz by omega)
 have a1:=Yw (c/48) (show 1+sz≠0 by omega);have a2:=Yj (c/48) (show 0<1+sz by omega);generalize c/48%(1+sz)=ac at a1 a2 ⊢;obtain⟨at_,rfl⟩:∃n:Nat,ac=(n:Int):=⟨ac.toNat,qo⟩;obtain⟨size,hsz⟩:∃n:Nat,1+sz=(n:Int):=⟨(1+sz).toNat,qo⟩;rw[hsz]at a2 ⊢;have hs12:1<=size/\size<=12:=by omega
 refine⟨ln (by show 0<=100000;decide),λp1 hp1=>?_⟩;have sp1:Same H (upd H p1 (.lst [])):=a0e hp1 _;have kp1:(upd H p1 (.lst [])) p1=some (.lst []):=a0c;generalize upd H p1 (.lst [])=H1 at sp1 kp1 ⊢;ext;refine⟨m,rfl,qo,qo,?_⟩;refine a3s (a1o 0 m.toNat) (λi σ' H'=>∃(o7 o8 o9 o10:Option V),σ'=[some (.int c),some (.int m),some (.str first),some (.str a4d),some (.int size),some (.int at_),some (.ref p1),o7,o8,o9,o10]/\Same H H'/\H' p1=some (.lst (((List.range i).map (nm3 c first.cps.toList at_ size)).map V.str))) ⟨none,none,none,none,rfl,sp1,kp1⟩ (λ_ _ _ _=>trivial) (λi σ' H' hi hP=>?_) (λσ' H' hP=>?_)
 ·obtain⟨o7,o8,o9,o10,rfl,s1,k1⟩:=hP;have hi9:i<9:=by omega
  ext;refine⟨size,rfl,qo,qo,?_⟩;refine a3s (a1o 0 (size:Int).toNat) (λn σ2 H2=>∃(o9 o10:Option V),σ2=[some (.int c),some (.int m),some (.str first),some (.str a4d),some (.int size),some (.int at_),some (.ref p1),some (.int (0+(i:Int))),some (.str ⟨((List.range n).map (chN c first.cps.toList at_ i)).toArray⟩),o9,o10]/\H2=H') ⟨_,_,by rw[show(⟨((List.range 0).map (chN c first.cps.toList at_ i)).toArray⟩:Str)=ofString "" by rw[em_eq];rfl];rfl,rfl⟩ (λ_ _ _ _=>trivial) (λn σ2 H2 hn2 hP=>?_) (λσ2 H2 hP=>?_)
  ·obtain⟨o9,o10,rfl,rfl⟩:=hP;have hn12:n<12:=by omega
   ext
   exists a4i (a4b qd)
   exists m2_i (C:=CDiv) (c4h qo qo)
   have eb:(if(false^^decide ((0+(n:Int))=(at_:Int)))=true then(1:Int)else 0)=if n=at_ then 1 else 0:=by
    by_cases h:n=at_
    ·rw[if_pos h,if_pos (by rw[Zy];exact Zt qo)]
    ·rw[if_neg h,if_neg (by rw[Zy,Zo qo];exact Zn)]
   rw[eb]
   exists a4i (a4b qo)
   have ep:c/(7*(0+(n:Int))+11)+(0+(n:Int))+(0+(i:Int))*(if n=at_ then 1 else 0)=plc c at_ n i:=by
    unfold plc;simp only[Int.zero_add]
   rw[ep];have hadd:∀d:Nat,(⟨((List.range n).map (chN c first.cps.toList at_ i)).toArray⟩:Str).length+(⟨#[d]⟩:Str).length<=sizeLine:=λd=>ln (by rw[str_len,length_map,List.length_range];show n+1<=100000;omega)
   exists e
   ·have hn0:n=0:=by have:=Zr (a7e e);omega
    ext;refine b1w fl (b8r (l:=first.cps.toList) qo (by rw[fl'];omega)) ?_;refine a8x (hadd _) ?_
    rw[show(⟨((List.range n).map (chN c first.cps.toList at_ i)).toArray⟩:Str)++⟨#[first.cps.toList.getD (plc c at_ n i%26).toNat 0]⟩=⟨((List.range (n+1)).map (chN c first.cps.toList at_ i)).toArray⟩ by
     rw[Xs,Zi,<-b1y]
     congr 1
     simp only[Z2,Xd,chN,if_pos hn0]]
    ext;exact⟨_,_,rfl,rfl⟩
   ·have hn0:n≠0:=by have:=Y8 (a7e e);omega
    ext;refine b1w tl (b8r (l:=a4d.cps.toList) qo (by rw[l62];omega)) ?_;refine a8x (hadd _) ?_
    rw[show(⟨((List.range n).map (chN c first.cps.toList at_ i)).toArray⟩:Str)++⟨#[a4d.cps.toList.getD (plc c at_ n i%62).toNat 0]⟩=⟨((List.range (n+1)).map (chN c first.cps.toList at_ i)).toArray⟩ by
     rw[Xs,Zi,<-b1y]
     congr 1
     simp only[Z2,Xd,chN,if_neg hn0]]
    ext;exact⟨_,_,rfl,rfl⟩
  ·obtain⟨o9,o10,rfl,rfl⟩:=hP;ext;refine⟨.inl ⟨rfl,_,SqL.of k1⟩,?_⟩;ext;refine a2u k1 (ln1 (by rw[length_map,length_map,List.length_range];omega)) ?_;refine⟨_,_,_,_,rfl,a1f s1 hp1,?_⟩;rw[a0c,Xs,Zi,Zi];rfl
 ·obtain⟨o7,o8,o9,o10,rfl,s1,k1⟩:=hP;ext;refine q p1 _ H' qz (a4m _ λi j hi hj e=>nm3_inj hn fl' qo qo qo e) (λx hx=>?_) s1 k1;obtain⟨i,hi,rfl⟩:=Z4.mp hx;exact nmd3 fl' hs12.1 hs12.2
theorem c2y(T:Txt K mg t)(G_b3:FnOk P w K mg base CX0 1 t.a_b3 t.d_b3 ["_law_cell_here","_law_many","_law_first"] (a7i K)):FnOk P w K mg base CX0 2 t.a_c4 t.d_c4 ["_law_cell_here","_law_many"] (b0i K):=by
 exists T.F_c4.ok b4r,b0i,(a0f (a0s (i:=2) (hs:=a1e) b4r.nd rfl (by nofun) (a0q G_b3 hr.o rfl T.m_b3 T.F_b3.kp T.b_b3 .nil a0v (a0a (mv 0) (a0a (mv 1) (a0a a0r a0d))))) (a0i (a0t (a2n rfl (a4q K rfl (mv 2)) (a1u (a0n a8h) ["_law_cell_here","_law_many","_law_words_here"] ["_law_cell_here","_law_many","_law_words_here"] rfl rfl qk) (λ_ _ _ _ _=>a1y) (λ_ _ _ _ _=>(b2v (a0o (b4i K rfl) (mv 0) (a1d (a0a a0r (a0a a0r a0d))) (by with_unfolding_all rfl)) (a0k (a1k K rfl) (mv 0) a0r) (mv 0))))))),H,Q,E,hr,h
 rename_i c m;obtain⟨rfl,q⟩:=h;ext;refine⟨qd,qd,qk,qk,λp xs H1 hl hn hx s1 k1=>?_⟩;ext;refine⟨p,rfl,⟨_,SqL.of k1⟩,λD hD=>?_⟩;have hl:xs.length=4:=hl;refine a1t (a3z (xs:=xs.map V.str)) (λi ys J=>∃zs:List Str,ys=zs.map V.str/\Same H1 J/\J D=some (.lst ys)/\zs.length=i/\(∀z∈zs,Wd z)/\∀z∈zs,z.length<=30) (ln (by rw[length_map];omega)) ⟨[],rfl,a0e hD _,a0c,rfl,λz hz=>by simp at hz,λz hz=>by simp at hz⟩ (λi ys J hP=>by obtain⟨_,_,s,_⟩:=hP;exact s.seq (SqL.of k1)) (λi ys J Q' hi hl' hP k=>?_) (λys J hl' hP=>?_)
 ·obtain⟨zs,rfl,s2,kD,hz,hw,hs⟩:=hP;obtain⟨v,hv⟩:∃v,(xs.map V.str)[i]? =some v:=⟨_,Za hi⟩
  obtain⟨x,hxm,rfl⟩:∃x,x∈xs/\V.str x=v:=Z4.mp (Xa hv);have hg:(xs.map V.str).getD i .non=.str x:=by rw[Zm,hv];rfl
  rw[hg];ext;refine⟨ln (by show 2<=100000;decide),λp2 hp2=>?_⟩;have s3:=a0e hp2 (.tup [.str keepS,.str notS]);have k3:(upd J p2 (.tup [.str keepS,.str notS])) p2=some (.tup ([keepS,notS].map V.str)):=a0c;generalize upd J p2 (.tup [.str keepS,.str notS])=J3 at s3 k3 ⊢;refine b2c [keepS,notS] (.inr (SqT.of k3)) ?_
  have fin:∀w:Str,Wd w->w.length<=30->∀Z,Same J Z->Q' (.str w) Z:=λw h1 h2 Z sZ=>k _ _ (sZ _ _ kD) ⟨zs++[w],qz,a1f (s2.trans sZ) hD,a0c,by rw[Zf,hz];rfl,λz hz=>by
   rcases Zx.mp hz with y|y
   ·exact hw z y
   ·rw[Zs.mp y];exact h1,λz hz=>by
   rcases Zx.mp hz with y|y
   ·exact hs z y
   ·rw[Zs.mp y];exact h2⟩
  exists e
  ·ext;have hm:x∈[keepS,notS]:=Zr e;have hk:=(wd_s hm).ln;have l12:=(hx x hxm).len;have l1:(ofString "s").length=1:=by decide+kernel
   refine a8x (ln (by rw[l1];omega)) ?_;exact fin _ (wd_s hm) (by rw[Tn,l1];omega) _ s3
  ·ext;have hm:¬x∈[keepS,notS]:=Y8 e;have l12:=(hx x hxm).len;exact fin x (wd_mk (hx x hxm) (λz=>hm (by rw[z];simp)) λz=>hm (by rw[z];simp)) qo _ s3
 ·obtain⟨zs,rfl,s2,kD,hz,hw,hs⟩:=hP;have hl4:zs.length=4:=by
   have h:(zs.map V.str).length=(xs.map V.str).length:=hl';rw[length_map,length_map]at h;omega
  exact q D zs J (s1.trans s2) kD ⟨hl4,hw,hs⟩
end
section
variable{P:Program}{w:World}{K:W.Frag}{mg:Str->Option Value}{base:Heap}{t:Ad}
theorem c6h(T:Txt K mg t)  :FnOk P w K mg base CX0 1 t.a_c5 t.d_c5 ["_law_cell_here","_law_many","_law_words_here"] (b1f K):=by
 exists T.F_c5.ok c5m,b1f,(a0f (a0y (PW.pt (a3p (a0o a1b (a0k a0w (mv 0) a0b) a0b (a0l _)) (a4l (a0o a1b (mv 1) a0b (a0l _))))) (a0i (a0t (a0h (a0g K rfl) (a1i (a0a a0r (a0a a0r (a0a a0r (a0a a0r (a0a a0r (a0a a0r (a0a a0r (a0a a0r (a0a a0r (a0a a0r a0d))))))))))) (a0k a0w (a0k a1j (mv 0) a0b) a0b) (λ_ _=>rfl)))) a0u) (a0f (a0y (PW.pt (a3p (a0o a1b (a0k a0w (mv 0) a0b) a0b (a0l _)) (a4l (a0o a1b (mv 1) a0b (a0l _))))) (a0i (a0t a0r)) a0u) (a0f (a0y (a0o a1b (a0k a0w (mv 0) a0b) a0b (a0l _)) (a0i (a0t (a0h (a0g K rfl) (a1i (a0a a0r (a0a a0r (a0a a0r (a0a a0r (a0a a0r (a0a a0r a0d))))))) (a0k a0w (a0k a1j (mv 0) a0b) a0b) (λ_ _=>rfl)))) a0u) (a0i (a0t (a0h (a0g K rfl) (mv 2) (a0k a0w (a0k a1j (mv 0) a0b) (a0m (a0x K rfl) rfl T.n_a2 Zg (a0a (mv 2) a0d))) (λ_ _=>rfl))))))),H,Q,E,hr,h
 rename_i c m wp;obtain⟨ws,hW,w1,w2,w3,q⟩:=h;have last:∀J,J=H->(∀x∈ws,Q (.str x) J):=λJ e x hx=>by subst e;exact q x _ (w3 x hx) (Same.refl _)
 ext;have step2:∀(P:Prop),P->P:=λ_ h=>h
 by_cases c0:c%5=0
 ·refine iteB (λe=>?_) (λe=>absurd c0 (Y8 (a7e e)));ext
  exists e
  ·ext;refine⟨ln (by show 10<=100000;decide),λp1 hp1=>?_⟩;have sp1:Same H (upd H p1 (.lst [.str "+",.str "=",.str "[|]",.str "<=",.str "/:",.str ":=",.str "-",.str "*",.str "#",.str "@@@"])):=a0e hp1 _;have kp1:(upd H p1 (.lst [.str "+",.str "=",.str "[|]",.str "<=",.str "/:",.str ":=",.str "-",.str "*",.str "#",.str "@@@"])) p1=some (.lst [.str "+",.str "=",.str "[|]",.str "<=",.str "/:",.str ":=",.str "-",.str "*",.str "#",.str "@@@"]):=a0c;generalize upd H p1 (.lst [.str "+",.str "=",.str "[|]",.str "<=",.str "/:",.str ":=",.str "-",.str "*",.str "#",.str "@@@"])=H1 at sp1 kp1 ⊢;ext;obtain⟨x,hx,hx1⟩:∃x:Str,atI [V.str "+",V.str "=",V.str "[|]",V.str "<=",V.str "/:",V.str ":=",V.str "-",V.str "*",V.str "#",V.str "@@@"] (c/5%10)=some (.str x)/\x.length<=30:=by
    have hi:c/5%10=0\/c/5%10=1\/c/5%10=2\/c/5%10=3\/c/5%10=4\/c/5%10=5\/c/5%10=6\/c/5%10=7\/c/5%10=8\/c/5%10=9:=by omega
    rcases hi with z|z|z|z|z|z|z|z|z|z<;>rw[z]<;>exact⟨_,rfl,qk⟩
   refine a1a (SqL.of kp1) hx ?_;exact q x _ hx1 sp1
  ext;refine iteB (λe=>?_) (λe=>absurd c0 (Y8 (a7e e)));ext
  exists e
  ·ext;exact q _ _ qk (Same.refl _)
  ext;refine iteB (λe=>by have:=Zr (a7e e);omega) (λe=>?_);ext
  exists a1c hW
  rw[length_map]
  exists m2_i (show(0:Int)<(ws.length:Int) by omega)
  have b1:=Yw (c/5) (show(ws.length:Int)≠0 by omega);have b2:=Yj (c/5) (show(0:Int)<(ws.length:Int) by omega);obtain⟨v,hv,_⟩:=a2c (xs:=ws.map V.str) b1 (by rw[length_map];exact b2);obtain⟨x,rfl,hx⟩:=a5a hv;refine a1a hW hv ?_;exact last _ rfl x hx
 refine iteB (λe=>absurd (Zr (a7e e)) c0) (λe=>?_);ext;refine iteF ?_;ext;refine iteB (λe=>absurd (Zr (a7e e)) c0) (λe=>?_);ext;refine iteF ?_;ext
 exists e
 ·ext;refine⟨ln (by show 6<=100000;decide),λp1 hp1=>?_⟩;have sp1:Same H (upd H p1 (.lst [.str "any",.str "num",.str "app",.str "not",.str "keep",.str "a"])):=a0e hp1 _;have kp1:(upd H p1 (.lst [.str "any",.str "num",.str "app",.str "not",.str "keep",.str "a"])) p1=some (.lst [.str "any",.str "num",.str "app",.str "not",.str "keep",.str "a"]):=a0c;generalize upd H p1 (.lst [.str "any",.str "num",.str "app",.str "not",.str "keep",.str "a"])=H1 at sp1 kp1 ⊢;ext;obtain⟨x,hx,hx1⟩:∃x:Str,atI [V.str "any",V.str "num",V.str "app",V.str "not",V.str "keep",V.str "a"] (c/5%6)=some (.str x)/\x.length<=30:=by
   have hi:c/5%6=0\/c/5%6=1\/c/5%6=2\/c/5%6=3\/c/5%6=4\/c/5%6=5:=by omega
   rcases hi with z|z|z|z|z|z<;>rw[z]<;>exact⟨_,rfl,qk⟩
  refine a1a (SqL.of kp1) hx ?_;exact q x _ hx1 sp1
 ext
 exists a1c hW
 rw[length_map]
 exists m2_i (show(0:Int)<(ws.length:Int) by omega)
 have b1:=Yw (c/5) (show(ws.length:Int)≠0 by omega);have b2:=Yj (c/5) (show(0:Int)<(ws.length:Int) by omega);obtain⟨v,hv,_⟩:=a2c (xs:=ws.map V.str) b1 (by rw[length_map];exact b2);obtain⟨x,rfl,hx⟩:=a5a hv;refine a1a hW hv ?_;exact last _ rfl x hx
theorem c6i(T:Txt K mg t)(G_c9:FnOk P w K mg base CX0 1 t.a_c9 t.d_c9 ["_law_cell_here"] (a6m))(G_c5:FnOk P w K mg base CX0 1 t.a_c5 t.d_c5 ["_law_cell_here","_law_many","_law_words_here"] (b1f K)):FnOk P w K mg base CX0 2 t.a_b4 t.d_b4 ["_law_cells","_law_names_here","_law_words_here"] (a8j K):=by
 exists T.F_b4.ok a3w,a8j,(a0f (a0s (i:=3) (hs:=a6s) a3w.nd rfl (by nofun) (a1i a0d)) (a0f (a3r Yi rfl (a4q K rfl (mv 0)) (a1w (i:=4) a3w.nd rfl (by nofun)) (a0i (a0y (a0o a1b (a0k a0w (mv 4) a0b) a0b (a0l _)) (a0i (a2f (a4a K rfl Z9 Yq Yy a2t (mv 3) (a0a (a1d (a0a a0r (a0a (a0q G_c9 hr.o rfl T.m_c9 T.F_c9.kp T.b_c9 .nil a0v (a0a (a0k a1j (mv 4) a0b) a0d)) a0d))) a0d)))) (a0i (a0y (a0o a9l (a0k a0w (mv 4) a0b) a0b (a0l _)) (a0i (a2f (a4a K rfl Z9 Yq Yy a2t (mv 3) (a0a (a1d (a0a a0r (a0a (a0h (a0g K rfl) (mv 1) (a0k a0w (a0k a1j (mv 4) a0b) (a0m (a0x K rfl) rfl T.n_a2 Zg (a0a (mv 1) a0d))) (λ_ _=>rfl)) a0d))) a0d)))) (a0f (a0s (i:=5) (hs:=a1e) a3w.nd rfl (by nofun) (a0m (c4j rfl) rfl T.n_f2 boot_min (a0a (a0k a0w (a0k a1j (mv 4) a0b) a0b) (a0a (a0m (a0x K rfl) rfl T.n_a2 Zg (a0a (mv 3) a0d)) a0d)))) (a0f (a0s (i:=6) (hs:=a1e) a3w.nd rfl (by nofun) (a1g (a4c K rfl) rfl T.n_e2 W5 (a0a (a2x (a5x K rfl) (mv 3) (a3m (a0k a2p (a0m (a0x K rfl) rfl T.n_a2 Zg (a0a (mv 3) a0d)) (mv 5))) a3l) a0d))) (a0i (a0s (i:=3) (hs:=a3h) a3w.nd rfl (by nofun) (a0k (a1k K rfl) (a2x (a5x K rfl) (mv 3) a3l (a3m (a0k a2p (a0m (a0x K rfl) rfl T.n_a2 Zg (a0a (mv 3) a0d)) (mv 5)))) (a1i (a0a (a1d (a0a a0r (a0a (a0q G_c5 hr.o rfl T.m_c5 T.F_c5.kp T.b_c5 .nil a0v (a0a (a0k a1j (mv 4) a0b) (a0a (mv 5) (a0a (mv 2) a0d)))) (a0a (mv 6) a0d)))) a0d)))))))))))) (a0f (b2w Yi (a0o a5h (a0m (a0x K rfl) rfl T.n_a2 Zg (a0a (mv 3) a0d)) a0b (a0l _)) (a0f (a0s (i:=5) (hs:=a1e) a3w.nd rfl (by nofun) (a0m (c4j rfl) rfl T.n_f2 boot_min (a0a a0b (a0a (a0m (a0x K rfl) rfl T.n_a2 Zg (a0a (mv 3) a0d)) a0d)))) (a0i (a0s (i:=3) (hs:=a3h) a3w.nd rfl (by nofun) (a0k (a1k K rfl) (a2x (a5x K rfl) (mv 3) a3l (a3m (a0k a2p (a0m (a0x K rfl) rfl T.n_a2 Zg (a0a (mv 3) a0d)) (mv 5)))) (a1i (a0a (a1d (a0a a0r (a0a (a0h (a0g K rfl) (mv 2) a0b (λ_ _=>rfl)) (a0a (a1g (a4c K rfl) rfl T.n_e2 W5 (a0a (a2x (a5x K rfl) (mv 3) (a3m (a0k a2p (a0m (a0x K rfl) rfl T.n_a2 Zg (a0a (mv 3) a0d)) (mv 5))) a3l) a0d)) a0d)))) a0d))))))) (a0f (a0y (a0o a1b (a0m (a0x K rfl) rfl T.n_a2 Zg (a0a (mv 3) a0d)) a0b (a0l _)) (a0i (a0t (a1d (a0a a0r (a0a a0b a0d))))) a0u) (a0i (a0t (a0h (a0g K rfl) (mv 3) a0b (λ_ _=>rfl)))))))),H,Q,E,hr,h
 rename_i cp np wp;obtain⟨cs,xs,ws,hC,c1,hX,x1,x2,hW,w1,w2,w3,q⟩:=h;ext;refine⟨ln (by show 0<=100000;decide),λp1 hp1=>?_⟩;have sp1:Same H (upd H p1 (.lst [])):=a0e hp1 _;have kp1:(upd H p1 (.lst [])) p1=some (.lst []):=a0c;generalize upd H p1 (.lst [])=H1 at sp1 kp1 ⊢;ext;refine⟨cp,rfl,⟨_,sp1.seq hC⟩,?_⟩;refine a3s (a3z (xs:=cs.map V.int)) (λi σ' H'=>∃(o4 o5 o6:Option V)(p:Addr)(us:List V)(ts:List Trm),σ'=[some (.ref cp),some (.ref np),some (.ref wp),some (.ref p),o4,o5,o6]/\Same H H'/\H p=none/\H' p=some (.lst us)/\a3c K H' us xs ts/\Trm.sizeL ts<=i/\ts.length<=i) ⟨none,none,none,p1,[],[],rfl,sp1,hp1,kp1,⟨.nil,λt ht=>by simp at ht⟩,Zh _,Zh _⟩ (λi σ' H' hP=>by obtain⟨_,_,_,_,_,_,_,s,_⟩:=hP;exact s.seq hC) (λi σ' H' hi hP=>?_) (λσ' H' hP=>?_)
 ·obtain⟨o4,o5,o6,p,us,ts,rfl,s1,hp,kp,lo,z1,z2⟩:=hP;obtain⟨c,hc⟩:=c7e hi;rw[hc];have hi40:i<40:=by rw[length_map]at hi;omega
  have lul:=lo.len;ext
  exists e
  ·ext;refine⟨.inl ⟨rfl,_,SqL.of kp⟩,?_⟩;ext;refineλv=>?_
   ext;refine⟨ln (by show 2<=100000;decide),λp2 hp2=>?_⟩;have sp2:Same H' (upd H' p2 (.tup [.str "num",.int v])):=a0e hp2 _;have kp2:(upd H' p2 (.tup [.str "num",.int v])) p2=some (.tup [.str "num",.int v]):=a0c;generalize upd H' p2 (.tup [.str "num",.int v])=H2 at sp2 kp2 ⊢;ext;refine a2u (sp2 _ _ kp) (ln1 qo) ?_;have lo2:=(lo.mono sp2).snoc (b5c (SqT.of kp2)) (t:=.num v) trivial;refine⟨_,_,_,p,_,ts++[.num v],rfl,a1f (s1.trans sp2) hp,hp,a0c,⟨lo2.den.lst (sp2 _ _ kp),lo2.vs⟩,?_,?_⟩
   ·rw[Trm.sizeL_app];simp only[Trm.sizeL,Trm.size];omega
   ·rw[Zf,Zq];omega
  ext
  exists e
  ·ext;refine⟨.inl ⟨rfl,_,SqL.of kp⟩,?_⟩;ext
   exists a1c (s1.seq hX)
   rw[length_map]
   exists m2_i (show(0:Int)<(xs.length:Int) by omega)
   have b1:=Yw (c/7) (show(xs.length:Int)≠0 by omega);have b2:=Yj (c/7) (show(0:Int)<(xs.length:Int) by omega);obtain⟨v,hv,_⟩:=a2c (xs:=xs.map V.str) b1 (by rw[length_map];exact b2);obtain⟨x,rfl,hx⟩:=a5a hv
   exists a1a (s1.seq hX) hv
   refine⟨ln (by show 2<=100000;decide),λp2 hp2=>?_⟩;have sp2:Same H' (upd H' p2 (.tup [.str "any",.str x])):=a0e hp2 _;have kp2:(upd H' p2 (.tup [.str "any",.str x])) p2=some (.tup [.str "any",.str x]):=a0c;generalize upd H' p2 (.tup [.str "any",.str x])=H2 at sp2 kp2 ⊢;ext;refine a2u (sp2 _ _ kp) (ln1 qo) ?_;have lo2:=(lo.mono sp2).snoc (a5z (SqT.of kp2)) (t:=.any x) (by simpa[vin]using hx);refine⟨_,_,_,p,_,ts++[.any x],rfl,a1f (s1.trans sp2) hp,hp,a0c,⟨lo2.den.lst (sp2 _ _ kp),lo2.vs⟩,?_,?_⟩
   ·rw[Trm.sizeL_app];simp only[Trm.sizeL,Trm.size];omega
   ·rw[Zf,Zq];omega
  ext
  exists a1c (SqL.of kp)
  obtain⟨mn,hmn,hm1⟩:∃mn:Nat,(if(us.length:Int)<c/7%5 then(us.length:Int)else c/7%5)=(mn:Int)/\mn<=us.length:=by
   split
   ·exact⟨us.length,rfl,Zh _⟩
   ·exact⟨(c/7%5).toNat,qo,qo⟩
  rw[hmn]
  exists a1c (SqL.of kp)
  refine a8y (SqL.of kp) (λp2 hp2=>?_);rw[a6e _ _ (show(0:Int)<=(us.length:Int)-mn by omega),show((us.length:Int)-(mn:Int)).toNat=us.length-mn by omega];have s2:=a0e hp2 (.lst (us.drop (us.length-mn)));have k2:(upd H' p2 (.lst (us.drop (us.length-mn)))) p2=some (.lst (us.drop (us.length-mn))):=a0c;generalize upd H' p2 (.lst (us.drop (us.length-mn)))=H2 at s2 k2 ⊢;ext;refine a5p (SqL.of k2) (λp3 hp3=>?_);have s3:=a0e hp3 (.tup (us.drop (us.length-mn)));have k3:(upd H2 p3 (.tup (us.drop (us.length-mn)))) p3=some (.tup (us.drop (us.length-mn))):=a0c;generalize upd H2 p3 (.tup (us.drop (us.length-mn)))=H3 at s3 k3 ⊢;have s13:=s2.trans s3;ext
  exists a1c (SqL.of (s13 _ _ kp))
  refine a8y (SqL.of (s13 _ _ kp)) (λp4 hp4=>?_);rw[b8t _ _ (show(0:Int)<=(us.length:Int)-mn by omega),show((us.length:Int)-(mn:Int)).toNat=us.length-mn by omega];have s4:=a0e hp4 (.lst (us.take (us.length-mn)));have k4:(upd H3 p4 (.lst (us.take (us.length-mn)))) p4=some (.lst (us.take (us.length-mn))):=a0c;generalize upd H3 p4 (.lst (us.take (us.length-mn)))=H4 at s4 k4 ⊢;ext;refine⟨ws,((s1.trans s13).trans s4).seq hW,w1,w2,w3,λsg H5 hsg s5=>?_⟩;ext;refine⟨ln (by show 3<=100000;decide),λp6 hp6=>?_⟩;have sp6:Same H5 (upd H5 p6 (.tup [.str "app",.str sg,.ref p3])):=a0e hp6 _;have kp6:(upd H5 p6 (.tup [.str "app",.str sg,.ref p3])) p6=some (.tup [.str "app",.str sg,.ref p3]):=a0c;generalize upd H5 p6 (.tup [.str "app",.str sg,.ref p3])=H6 at sp6 kp6 ⊢;ext;refine⟨ln (by show 1<=100000;decide),λp7 hp7=>?_⟩;have sp7:Same H6 (upd H6 p7 (.lst [.ref p6])):=a0e hp7 _;have kp7:(upd H6 p7 (.lst [.ref p6])) p7=some (.lst [.ref p6]):=a0c;generalize upd H6 p7 (.lst [.ref p6])=H7 at sp7 kp7 ⊢;ext;have s57:=s5.trans (sp6.trans sp7);refine a7r (s57 _ _ k4) kp7 (ln (by rw[Z7,Zq];omega)) (λp8 hp8=>?_);have s8:=a0e hp8 (.lst (us.take (us.length-mn)++[.ref p6]));have s48:=s4.trans (s57.trans s8);have s18:=s13.trans s48;have lo8:=lo.mono s18;have dapp:Den K (upd H7 p8 (.lst (us.take (us.length-mn)++[.ref p6]))) (.ref p6) (Trm.app sg (ts.drop (us.length-mn))).data:=a3f (SqT.of (s8 _ _ (sp7 _ _ kp6))) (SqT.of (s48 _ _ k3)) (lo8.drop _).den;ext;refine⟨_,_,_,p8,_,ts.take (us.length-mn)++[.app sg (ts.drop (us.length-mn))],rfl,s1.trans s18,a2j (s1.trans (s13.trans (s4.trans s57))) hp8,a0c,(lo8.take _).snoc dapp (by simp only[vin];exact b3p.mpr (lo8.drop _).vs),?_,?_⟩
  ·have:=a4u ts (us.length-mn);rw[Trm.sizeL_app];simp only[Trm.sizeL,Trm.size];omega
  ·rw[Zf,Zq,Z7];omega
 ·obtain⟨o4,o5,o6,p,us,ts,rfl,s1,hp,kp,lo,z1,z2⟩:=hP;rw[length_map]at z1 z2;ext;refine b0t (λn σ' J=>∃(o5:Option V)(p:Addr)(us:List V)(ts:List Trm),σ'=[some (.ref cp),some (.ref np),some (.ref wp),some (.ref p),o4,o5,o6]/\Same H J/\J p=some (.lst us)/\a3c K J us xs ts/\Trm.sizeL ts+ts.length<=2*cs.length/\n=ts.length) ts.length ⟨o5,p,us,ts,rfl,s1,kp,lo,qo,rfl⟩ (λn σ' J R hP kT kF=>?_);obtain⟨o5,p,us,ts,rfl,s1,kp,lo,z1,z2⟩:=hP;have lul:=lo.len;ext
  exists a1c (SqL.of kp)
  by_cases hl:1<us.length
  ·rw[Zt qo];refine kT _ (λD' f1 f2 hnx hct=>?_);ext
   exists a1c (SqL.of kp)
   obtain⟨mn,hmn,hm1,hm2⟩:∃mn:Nat,(if(us.length:Int)<4 then(us.length:Int)else 4)=(mn:Int)/\mn<=us.length/\2<=mn:=by
    split
    ·exact⟨us.length,rfl,Zh _,qo⟩
    ·exact⟨4,rfl,qo,qo⟩
   rw[hmn]
   exists a1c (SqL.of kp)
   refine a8y (SqL.of kp) (λp4 hp4=>?_);rw[b8t _ _ (show(0:Int)<=(us.length:Int)-mn by omega),show((us.length:Int)-(mn:Int)).toNat=us.length-mn by omega];have s4:=a0e hp4 (.lst (us.take (us.length-mn)));have k4:(upd J p4 (.lst (us.take (us.length-mn)))) p4=some (.lst (us.take (us.length-mn))):=a0c;generalize upd J p4 (.lst (us.take (us.length-mn)))=H4 at s4 k4 ⊢;ext;obtain⟨v0,hv0,_⟩:=a2c (xs:=ws.map V.str) (i:=0) qd (by rw[length_map];omega);obtain⟨sg,rfl,hsg⟩:=a5a hv0
   exists a1a ((s1.trans s4).seq hW) hv0
   exists a1c (SqL.of (s4 _ _ kp))
   refine a8y (SqL.of (s4 _ _ kp)) (λp2 hp2=>?_);rw[a6e _ _ (show(0:Int)<=(us.length:Int)-mn by omega),show((us.length:Int)-(mn:Int)).toNat=us.length-mn by omega];have s2:=a0e hp2 (.lst (us.drop (us.length-mn)));have k2:(upd H4 p2 (.lst (us.drop (us.length-mn)))) p2=some (.lst (us.drop (us.length-mn))):=a0c;generalize upd H4 p2 (.lst (us.drop (us.length-mn)))=H2 at s2 k2 ⊢;ext;refine a5p (SqL.of k2) (λp3 hp3=>?_);have s3:=a0e hp3 (.tup (us.drop (us.length-mn)));have k3:(upd H2 p3 (.tup (us.drop (us.length-mn)))) p3=some (.tup (us.drop (us.length-mn))):=a0c;generalize upd H2 p3 (.tup (us.drop (us.length-mn)))=H3 at s3 k3 ⊢;ext;refine⟨ln (by show 3<=100000;decide),λp6 hp6=>?_⟩;have sp6:Same H3 (upd H3 p6 (.tup [.str "app",.str sg,.ref p3])):=a0e hp6 _;have kp6:(upd H3 p6 (.tup [.str "app",.str sg,.ref p3])) p6=some (.tup [.str "app",.str sg,.ref p3]):=a0c;generalize upd H3 p6 (.tup [.str "app",.str sg,.ref p3])=H6 at sp6 kp6 ⊢;ext;refine⟨ln (by show 1<=100000;decide),λp7 hp7=>?_⟩;have sp7:Same H6 (upd H6 p7 (.lst [.ref p6])):=a0e hp7 _;have kp7:(upd H6 p7 (.lst [.ref p6])) p7=some (.lst [.ref p6]):=a0c;generalize upd H6 p7 (.lst [.ref p6])=H7 at sp7 kp7 ⊢;ext;have s37:=sp6.trans sp7;have s27:=s2.trans (s3.trans s37);refine a7r (s27 _ _ k4) kp7 (ln (by rw[Z7,Zq];omega)) (λp8 hp8=>?_);have s8:=a0e hp8 (.lst (us.take (us.length-mn)++[.ref p6]));have s18:=s4.trans (s27.trans s8);have lo8:=lo.mono s18;have dapp:Den K (upd H7 p8 (.lst (us.take (us.length-mn)++[.ref p6]))) (.ref p6) (Trm.app sg (ts.drop (us.length-mn))).data:=a3f (SqT.of (s8 _ _ (sp7 _ _ kp6))) (SqT.of (s8 _ _ (s37 _ _ k3))) (lo8.drop _).den;ext;refine hnx _ _ (ts.length-mn+1) qo ⟨_,p8,_,ts.take (us.length-mn)++[.app sg (ts.drop (us.length-mn))],rfl,s1.trans s18,a0c,(lo8.take _).snoc dapp (by simp only[vin];exact b3p.mpr (lo8.drop _).vs),?_,?_⟩
   ·have:=a4u ts (us.length-mn);rw[Trm.sizeL_app,Zf,Zq,Z7];simp only[Trm.sizeL,Trm.size];omega
   ·rw[Zf,Zq,Z7];omega
  ·rw[Zo qo]
   exists kF _
   exists a1c (SqL.of kp)
   match ts,us,lo,kp,lul,hl,z1 with
   | [],us,lo,kp,lul,hl,z1=>
    refine iteB (λe=>?_) (λe=>by have:=Y8 (a7e e);simp at lul;simp[lul]at this);ext;refine⟨ln (by show 2<=100000;decide),λp9 hp9=>?_⟩;exact q _ (.num 0) _ (s1.trans (a0e hp9 _)) (b5c (SqT.of a0c)) (by simp[vin]) (by simp[Trm.size])
   | [t0],us,lo,kp,lul,hl,z1=>
    match us,lo,kp,lul with
    | [u0],lo,kp,_=>
    refine iteB (λe=>by have:=Zr (a7e e);simp at this) (λe=>?_);ext;refine a1a (SqL.of kp) (v:=u0) rfl ?_;have d0:=lo.den;simp only[Trm.dataL]at d0;cases d0 with
    |cons d1 d2=>
     refine q _ t0 _ s1 d1 (lo.vs t0 qz) ?_;simp only[Trm.sizeL,Zq]at z1;omega
   |_::_::_,us,lo,kp,lul,hl,z1=>
    simp only[length_cons]at lul;omega
end
section
variable{P:Program}{w:World}{K:W.Frag}{mg:Str->Option Value}{base:Heap}{t:Ad}
theorem ok_all(T:Txt K mg t):FnOk P w K mg base CX0 101 t.a_law t.d_law ["_law_script"] (b1j K):=by
 have h_d7:=b4y (P:=P) (w:=w) (base:=base) T;have h_b8:=c2q (P:=P) (w:=w) (base:=base) T;have h_a9:=ok_a9 (P:=P) (w:=w) (base:=base) T;have h_c3:=c0a (P:=P) (w:=w) (base:=base) T;have h_b9:=c6f (P:=P) (w:=w) (base:=base) T;have h_c2:=b5o (P:=P) (w:=w) (base:=base) T;have h_d0:=c2u (P:=P) (w:=w) (base:=base) T;have h_d4:=c8s (P:=P) (w:=w) (base:=base) T;have h_a8:=c6g (P:=P) (w:=w) (base:=base) T;have h_b3:=c2x (P:=P) (w:=w) (base:=base) T;have h_c9:=c0c (P:=P) (w:=w) (base:=base) T;have h_c5:=c6h (P:=P) (w:=w) (base:=base) T;have h_a0:=b9z (P:=P) (w:=w) (base:=base) T;have h_d1:=b9j T h_c3;have h_b6:=c2p T h_b9;have h_c4:=c2y T h_b3;have h_b4:=c6i T h_c9 h_c5;have h_d5:=b0k T h_b6 h_d7;have h_d3:=c2t T h_d1;have h_a6:=c6d T h_a0 h_b4;have h_c1:=c0b T h_d3;have h_b5:=c6e T h_b4 h_a6 h_a0;have h_d8:=a9f T h_c1 h_d5 h_d4;have h_d6:=b2n T h_d8;have h_a5:=c8p T h_a0 60;have h_b2:=b9y (P:=P) (w:=w) (base:=base) T  60;have h_b1:=c2s T h_b8 h_a9 70;have h_a3:=c2o T h_a0 70;have h_a7:=c8r (P:=P) (w:=w) (base:=base) T  70;have h_c7:=b9i T h_c2 h_b1;have h_c0:=c6c T h_a7;have h_d2:=c2v T h_c7 h_d0;have h_e0:=b5p T h_d2;have h_b7:=c2w T h_e0 h_d6;have h_a4:=b6u (P:=P) (w:=w) (base:=base) T  80;have h_c8:=b9h T h_a4 h_b2;have h_c6:=b9g T h_a0 h_a3 h_c8 h_a6;have h_b0:=c6b T h_a5 h_b5 h_a0 h_a3 3;exact ok_law T h_b3 h_c4 h_b0 h_c6 h_a8 h_a6 h_b7 h_c0
end
theorem walk{l:W.OpenLaw}{q:Program}{loose:List Str}{XP:(Str->Option Value)->Heap->Prop}{YP:World->Heap->Prop}{d:DefRec}{K:Params->W.Frag}(hn:l.most=some 63)(hdf:d.params.defaults=[])
  (hY:∀(w:World)(h:Heap),YP w h->(K w.params).In h)
  (F:∀(w:World)(mg:Str->Option Value)(fa:Addr)(h:Heap),(K w.params).In h->h.Ns mainGlobals mg->mg d.name=some (.ref fa)->
   ∃fd:FuncData,(∀(s:Shared)(u:Value),BindsTo s fd ⟨[u],[]⟩ [("_law_script",u)])/\∀base:Heap,(K w.params).In base->base.Ns mainGlobals mg->FnOk l.prog w (K w.params) mg base CX0 101 fa fd ["_law_script"] (b1j (K w.params))):
  W.WalkO q loose XP YP l.row.toRowW d [] (λf vs=>PySem.call f vs):=
 L2.c7k (n:=63) (k:=101) (x:="_law_script") (CX:=λ_=>CX0) (sp:=λw=>b1j (K w.params)) hn qd hdf ⟨rfl,qd,qd,rfl⟩ hY F (λ_ _ a ns hl hb hO hS=>⟨ns,hS,hl,hb,λ_=>rfl⟩) λ_ _ _ _ _ z=>z
end My
open PySem PySem.W PyProof.Rows L2
set_option maxRecDepth 100000 in
set_option maxHeartbeats 0 in
theorem PySem.Challenge.cw_goaltrail_k70_good_yes_rows_holds : PySem.Challenge.rw_goaltrail_k70_good_yes_rows.Holds := by
 w_on;refine W.holds_law My.said1 λsaid=>?_
 refine W.holds_open (q:=My.Q) (loose:=My.loose) (Xt:=My.Xt) (XP:=W.XL My.Q []) (Yf:=λs=>My.ads.map s.heap.get?) (Ya:=λw=>(My.KK w.params).map λ(p:Addr×Obj)=>some p.2) (YP:=W.InK My.KK) (N:=3470) My.left1 (W.InK.of (λ_=>by kernel_rfl)) W.InK.keeps (λs e=>W.xl_of s (Vj.mp e).1) W.XL.keeps (by rfl) (by rfl) (by rfl) (λs e=>W.recFacts_of (Vj.mp e).2) (by rfl) (by assumption) qk ⟨rfl,rfl,rfl,rfl,rfl,qk⟩ ?hw ?hc
 (case hw=>w_witness2)
 k_fill
 refine My.walk (l:=PySem.Challenge.rw_goaltrail_k70_good_yes_rows) rfl rfl (λw h Y=>Y) ?F
 case F=>
  intro w mg fa h KX G hmg;have TT:∃t:My.Ad,My.Txt (L2.KOf KX) mg t/\∀(s:Shared)(u:Value),BindsTo s t.d_law ⟨[u],[]⟩ [("_law_script",u)]:=by
   dsimp only[L2.KOf]
   apply Exists.intro (My.Ad.mk _ _ _ _ _ _ _ _ _ _ _ _ _ _ _ _ _ _ _ _ _ _ _ _ _ _ _ _ _ _ _ _ _ _ _ _ _ _ _ _ _ _ _ _ _ _ _ _ _ _ _ _ _ _ _ _ _ _ _ _ _ _ _ _ _ _ _ _ _ _ _ _ _ _ _ _ _ _ _ _ _ _ _ _ _)
   apply And.intro
   case left=>
    constructor
    all_goals try dsimp only
    all_goals try exact W.mg_of KX G (by k_is)
    all_goals try exact W.mg_none_of KX G (by k_is)
    all_goals first|exact xc_of (by k_is) qz qz qz (by simp)|exact⟨[],qz,rfl⟩|exact⟨[_],qz,rfl⟩|exact XAttr.mk (by k_is) (by k_is) (by k_is)|exact na_of (by k_is)|exact XMk.mk (xc_of (by k_is) qz qz qz qz) (by k_is) (by k_is) (by k_is)|exact XIs.mk (by k_is) (by k_is) (by k_is) (by k_is)|exact XClsM.mk (by k_is) (by k_is) (by k_is) (by k_is)|exact Cls.mk (by k_is) (by k_is) (by k_is) (by k_is)|exact Mk.mk (by k_is) (by k_is) (is_fn (by k_is)) (by k_is)|exact Meth.mk (by k_is) (is_fn (by k_is)) (by k_is)|exact fun_mk (by k_is) (by k_is) (by k_is)|exact funD_mk (by k_is) (by k_is) (by k_is)|exact bi1 λ_=>rfl|exact bi2 λ_ _=>rfl|exact bi3 λ_ _ _=>rfl|exact bi4 λ_ _ _ _=>rfl|exact bi5 λ_ _ _ _ _=>rfl|exact bi6 λ_ _ _ _ _ _=>rfl|exact bi7 λ_ _ _ _ _ _ _=>rfl|kit_is
   exactλs u=>.of_eq rfl
  obtain⟨t,T,e1⟩:=TT;have e0:=hmg.symm.trans T.m_law;cases e0;exact⟨t.d_law,e1,λbase kb nb=>My.ok_all T⟩
