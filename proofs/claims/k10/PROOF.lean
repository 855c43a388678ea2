import PyProof.Rows.All
import PyProof.StrBlock2
import PyProof.Rows.StrIntSpec
import KE.KItemsList
import KE.KDictLaws
import PyProof.SumWalkG
import KE.KRevIter
import PyProof.ListRange
import PyProof.Rows.SortWalk
import KE.KSortedM
import PyProof.Rows.SortStr
import KE.KIntText
import PyProof.Rows.ListMul
import PyProof.ReprHeadsTuple
import Wide.All
import OpenK.AllK
import Wide.FinOn
import Lean
import PyProof.EqAt
import PyProof.EqKinds
import PyProof.TupleCall
import PyProof.NeKinds
import PyProof.DictUpdate
import KE.KDictList
import KE.KEqDict
import PyProof.Draws
import PyProof.Rows.EnumRows
import PyProof.StationsW
import PyProof.ExcClass3
import PyProof.RulesAs
import PyProof.ExcBaseAll.ValueError
import PyProof.InstStoreFacts
import PyProof.ExcArgsOwn
import PyProof.NsDelKeeps
import KE.RegKIsAll
import PyProof.Rows.LoopZipPat
import PyProof.StrLawsRepr
import KE.KDictOf
import PyProof.WalksS
import PyProof.AttrMissHeap
import PySem.Challenge.RW_goaltrail_k10_no_bracket_too_many
set_option Elab.async false
set_option linter.all false
set_option maxRecDepth 100000
set_option genSizeOf false
set_option bootstrap.genMatcherCode false
set_option compiler.extract_closed false
open PySem.Str (ofString)
open PySem.PyData (keyHash)
open List (length_cons length_map length_nil)
section
open PySem PySem.Spec PyProof.Rows
def Za:=@List.length_append
def Zb:=@Nat.le_refl
def Zc:=@List.getElem?_eq_getElem
def Zd:=@decide_eq_false
def Ze:=@of_decide_eq_true
def Zf:=@Heap.get?_push_of_some
def Zg:=@decide_eq_true
def Zh:=@List.size_toArray
def Zi:=@List.mem_cons_of_mem
def Zj:=@List.mem_cons_self
def Zk:=@List.mem_cons
def Zl:=@of_decide_eq_false
def Zm:=@Bool.false_xor
def Zn:=@List.cons_append
def Zo:=@Option.some.inj
def Zp:=@List.map_cons
def Zq:=@List.map_append
def Zr:=@Bool.false_ne_true
def Zs:=@wpAny_bind
def Zt:=@List.getElem?_cons_zero
def Zu:=@F.plainAttrs_list
def Zv:=@Heap.lt_size
def Zw:=@List.mem_singleton
def Zx:=@List.append_assoc
def Zy:=@Nat.lt_of_lt_of_le
def Zz:=@List.not_mem_nil
def Z0:=@PySem.boot_len
def Z1:=@List.mem_append
def Z2:=@Option.some.injEq
def Z3:=@Nat.zero_le
def Z4:=@Heap.get?_push_size
def Z5:=@strLen_append
def Z6:=@F.slot_list_append
def Z7:=@List.length_reverse
def Z8:=@F.type_list_append
def Z9:=@congrArg
def Yb:=@List.reverse_cons
def Yc:=@List.mem_append_right
def Yd:=@List.cons.injEq
def Ye:=@Int.emod_lt_of_pos
def Yg:=@wpAny_loadPart_at
def Yh:=@PassesOwn.never
def Yi:=@Array.getElem?_eq_some_iff
def Yj:=@Nat.ne_of_lt
def Yk:=@List.getElem?_cons_succ
def Yl:=@Int.emod_nonneg
def Ym:=@Nat.le_trans
def Yn:=@PySem.mem_of_lookup
def Yo:=@List.append_nil
def Yp:=@wpAny_pure
def Yq:=@List.getD_eq_getElem?_getD
def Yr:=@List.count_append
def Ys:=@Heap.get?_update_other
def Yt:=@joinParts_cons
def Yu:=@Option.isSome_iff_exists
def Yv:=@List.getElem?_map
def Yw:=@Sum.inr.injEq
def Yx:=@List.mem_map
def Yy:=@List.getElem?_eq_some_iff
def Yz:=@List.length_singleton
def Y0:=@Calls.Constant_str
def Y1:=@List.mem_append_left
def Y2:=@Bool.and_eq_true
def Y3:=@List.map_nil
def Y4:=@wpAny_isSubtype_exc
def Y5:=@beq_eq_false_iff_ne
def Y6:=@List.nil_append
def Y7:=@List.length_drop
def Y8:=@List.contains_cons
def Y9:=@List.map_map
def Xb:=@List.length_eq_zero_iff
def Xe:=@Bool.eq_iff_iff
def Xf:=@List.getElem?_append_right
def Xg:=@List.singleton_append
def Xh:=@Option.map_some
def Xi:=@F.slot_list_pop
def Xj:=@wpAny_truthy_bool
def Xk:=@sizeLine_eq
def Xl:=@or_false
def Xm:=@List.reverse_reverse
def Xn:=@List.mem_of_getElem?
def Xo:=@List.mem_iff_getElem
def Xp:=@Array.getElem?_setIfInBounds_ne
def Xq:=@List.takeWhile_cons
def Xr:=@List.reverse_append
def Xs:=@Array.length_toList
def Xu:=@if_false
def Xv:=@W.kia_one
def Xw:=@List.append_inj'
def Xx:=@List.all_eq_true
def Xy:=@wpAny_mono
def Xz:=@wpAny_Call_Name_kw
def X5:=@wpAny_passesOwn
def X6:=@F.type_list_pop
def X7:=@Heap.get?_update_self
def X8:=@PyProof.Rows.callWith_type1
def X9:=@List.flatten_cons
def Wa:=@Bool.and_false
def Wb:=@decide_eq_decide
def Wc:=@List.lookup_cons
def Wd:=@List.length_take
def We:=@List.append_eq_append_iff
def Wf:=@List.replicate_succ
def Wg:=@Nat.lt_irrefl
def Wh:=@List.cons.inj
def Wi:=@wpAny_execs_nil
def Wj:=@List.find?_cons
def Wk:=@tupleKind_room_in1
def Wm:=@F.slot_list_extend
def Wn:=@decide_eq_true_eq
def Wo:=@PassesOwn.leaving
def Wp:=@Nat.add_zero
def Wq:=@JoinedStr_many
def Wr:=@Obj.isFreed_of_fields
def Wt:=@List.take_append_drop
def Wu:=@List.eq_nil_or_concat
def Wv:=@joinParts_nil
def Ww:=@List.sum_cons
def Wx:=@Bool.true_and
def Wy:=@wpAny_field
def Wz:=@List.dropLast_concat
def W0:=@FormattedValue_plain
def W1:=@F.excBase_ValueError
def W2:=@formatField_str
def W3:=@Nat.min_eq_left
def W4:=@List.nodup_cons
def W5:=@SeqAt.RcNeAt.tuples
def W6:=@List.dropWhile_cons
def W7:=@codeAny_mono
def W8:=@wpAny_setField
def W9:=@decide_eq_true_iff
def Va:=@call_meets
def Vb:=@SeqAt.EqAt.int_str
def Vc:=@PySem.StrLaws.reprText_len
def Vd:=@List.mem_range
def Ve:=@List.count_eq_zero
def Vf:=@List.drop_eq_getElem_cons
def Vg:=@Classical.byContradiction
def Vh:=@List.any_cons
def Vi:=@Option.getD_some
def Vj:=@Nat.add_sub_cancel_left
def Vk:=@List.take_length
def Vl:=@List.mem_reverse
def Vm:=@wpAny_call
def Vn:=@beq_iff_eq
def Vo:=@W.callWith_K
def Vp:=@Option.map_eq_some_iff
def Vq:=@List.take_of_length_le
def Vr:=@List.dropWhile_sublist
def Vs:=@Calls.callWith_builtin
def Vt:=@Bool.or_true
def Vu:=@SeqAt.EqAt.same
def Vv:=@List.foldl_cons
def Vw:=@List.getElem?_eq_none
def Vx:=@Str.ext'
def Vy:=@Nat.pow_le_pow_right
def Vz:=@List.pairwise_append
def V0:=@List.getLastD_concat
def V1:=@List.drop_zero
def V2:=@Heap.size_push
def V3:=@Bool.false_and
def V4:=@List.map_congr_left
def V5:=@List.filterMap_cons
def V6:=@Paired.length
def V7:=@SeqAt.EqAt.str_str
def V8:=@SeqAt.EqAt.str_int
def V9:=@F.type_list_extend
def Ua:=@Calls.spliced_cons
def Ub:=@wpAny_pyIter_list
def Uc:=@wpAny_newObj_type
def Ud:=@PySem.Within.cons
def Ue:=@Option.isSome_map
def Uf:=@Nat.succ.inj
def Ug:=@plainObj_wpAny_Assign_Attribute
def Uh:=@wpAny_lookBehind
def Ui:=@wpAny_execs_cons
def Uj:=@pastItsLine_dict
def Uk:=@Nat.lt_succ_self
def Ul:=@List.getElem_mem
def Um:=@List.drop_length
def Uo:=@W.Fast.te14364793385576792824
def Up:=@W.Fast.te10110043849684766642
def Uq:=@List.drop_append_of_le_length
def Ur:=@W.methodCall_KW
def Us:=@List.of_mem_zip
def Ut:=@F.slot_dict_get
def Uu:=@Array.getD_eq_getD_getElem?
def Uv:=@Nat.not_lt
def Uw:=@List.take_succ
def Ux:=@Calls.Name_function_global
def Uy:=@wpAny_FormattedValue_repr
def Uz:=@List.getElem?_append_left
def U0:=@wpAny_standAt
def U1:=@W.plainGet_of
def U2:=@List.all_cons
def U3:=@List.pairwise_singleton
def U4:=@wpAny_nsSet1
def U5:=@subscriptTail_builtinR
def U6:=@call_meetsIn
def U7:=@Nat.sub_zero
def U8:=@Nat.sub_self
def U9:=@Nat.ne_of_gt
def Ta:=@Nat.le_of_lt
def Tc:=@List.takeWhile_sublist
def Td:=@List.length_eq_one_iff
def Te:=@List.getElem?_set_self
def Tf:=@List.getElem?_toArray
def Tg:=@Array.getElem?_toList
def Th:=@wpAny_pyIter_revIter
def Ti:=@wpAny_loadName_local
def Tj:=@lookup_relabel_local
def Tk:=@codeAny_call_builtin
def Tl:=@boot_str
def Tm:=@W.kitx_list
def Tn:=@Nat.le_succ
def To:=@List.mem_of_mem_drop
def Tp:=@List.getElem?_set_ne
def Tr:=@F.args_list_extend_2
def Ts:=@Calls.evalArgs_plain
def Tt:=@Bool.and_eq_true_iff
def Tu:=@wpAny_loadName_cell
def Tv:=@PySem.wpAt_of_wpAny
def Tw:=@List.toList_toArray
def Tx:=@List.flatten_append
def Ty:=@Heap.get?_update_ne
def Tz:=@F.slot_list_reverse
def T0:=@F.slot_dict_getitem
def T1:=@F.entry_list_extend
def T3:=@wpAny_Name
def T4:=@typeIs_str
def T5:=@typeIs_int
def T6:=@Subscript_
def T7:=@SeqAt.EqAt.of_refs
def T8:=@SeqAt.EqAt.int_int
def T9:=@List.mem_filterMap
def Sa:=@List.map_singleton
def Sb:=@Int.lt_or_eq_of_le
def Sc:=@F.slot_dict_update
def Sd:=@F.args_tuple_add_2
def Se:=@Code.quiet_builtin
end
noncomputable section
namespace L2
open PySem PySem.Spec PyProof.Rows
abbrev Key:=Sum Int Str
def b6u:Key->Value->Bool
 | .inl k,v=>Value.isInt k v
 | .inr x,v=>Value.isStrOf x v
def keyH(w:World):Key->Int
 | .inl k=>hashInt k
 | .inr x=>hashStr w x
theorem a3m:∀{k:Key}{v:Value},b6u k v=true->(∃i t,k=Sum.inl i/\v=Value.int i t)\/(∃x t,k=Sum.inr x/\v=Value.str x t)
 | .inl i,v,h=>by
  obtain⟨t,e⟩:=Value.isInt_shape (k:=i) (v:=v) h
  exact .inl ⟨i,t,rfl,e⟩
 | .inr x,v,h=>by
  obtain⟨t,e⟩:=Value.isStrOf_shape (x:=x) (v:=v) h
  exact .inr ⟨x,t,rfl,e⟩
theorem c9q(i:Int)(t:Tok):b6u (.inl i) (.int i t)=true:=by simp[b6u,Value.isInt]
theorem b5k(x:Str)(t:Tok):b6u (.inr x) (.str x t)=true:=by simp[b6u,Value.isStrOf]
theorem c9r(a b:Int):decide ((Sum.inl a:Key)=Sum.inl b)=(a==b):=by
 by_cases e:a=b
 ·subst e;simp
 ·have h:¬(Sum.inl a:Key)=Sum.inl b:=fun q=>e (Sum.inl.inj q)
  rw[Zd h]
  exact(Y5.mpr e).symm
theorem c9s(a b:Str):decide ((Sum.inr a:Key)=Sum.inr b)=decide (a=b):=by
 by_cases e:a=b
 ·subst e;simp
 ·have h:¬(Sum.inr a:Key)=Sum.inr b:=fun q=>e (Sum.inr.inj q)
  rw[Zd h,Zd e]
theorem c9t(a:Int)(b:Str):decide ((Sum.inl a:Key)=Sum.inr b)=false:=Zd (fun q=>nomatch q)
theorem c9u(a:Str)(b:Int):decide ((Sum.inr a:Key)=Sum.inl b)=false:=Zd (fun q=>nomatch q)
def a1l(prog:Program)(w:World):PySem.KeyKind prog w Key where
 is:=b6u
 hash:=keyH w
 inj:=fun v a b ha hb=>by
  rcases a3m ha with⟨i,t,rfl,rfl⟩|⟨x,t,rfl,rfl⟩
  ·rcases a3m hb with⟨j,u,rfl,e⟩|⟨y,u,rfl,e⟩
   ·injection e with e1 _;rw[e1]
   ·exact nomatch e
  ·rcases a3m hb with⟨j,u,rfl,e⟩|⟨y,u,rfl,e⟩
   ·exact nomatch e
   ·injection e with e1 _;rw[e1]
 byValue:=fun k v h=>by
  rcases a3m h with⟨i,t,rfl,rfl⟩|⟨x,t,rfl,rfl⟩<;>rfl
 pyHash:=fun hv h=>by
  rcases a3m hv with⟨i,t,rfl,rfl⟩|⟨x,t,rfl,rfl⟩
  ·exact wpAny_pyHash_int h
  ·exact wpAny_pyHash_str h
 eqBool:=fun hu hv h=>by
  rcases a3m hu with⟨i,t,rfl,rfl⟩|⟨x,t,rfl,rfl⟩
  ·rcases a3m hv with⟨j,u,rfl,rfl⟩|⟨y,u,rfl,rfl⟩
   ·rw[c9r]at h;exact wpAny_eqBool_int h
   ·rw[c9t]at h;exact Vb i t y u _ _ _ _ h
  ·rcases a3m hv with⟨j,u,rfl,rfl⟩|⟨y,u,rfl,rfl⟩
   ·rw[c9u]at h;exact V8 x t j u _ _ _ _ h
   ·rw[c9s]at h;exact wpAny_eqBool_str h
 «strs»:=fun k x t v h=>by
  rcases a3m h with⟨i,u,rfl,e⟩|⟨y,u,rfl,e⟩
  ·exact nomatch e
  ·injection e with e1 _
   subst e1
   cases v<;>rfl
theorem b3c(prog:Program)(w:World)(i:Int)(t:Tok):(a1l prog w).is (.inl i) (.int i t)=true:=c9q i t
theorem b3d(prog:Program)(w:World)(x:Str)(t:Tok):(a1l prog w).is (.inr x) (.str x t)=true:=b5k x t
inductive V where
 |non|bl(b:Bool)|int(i:Int)|str(x:Str)|byt(b:Array UInt8)|flt(b:UInt64)|ref(a:Addr)|ty(n:String)
 deriving DecidableEq
def RelV:V->Value->Prop
 | .non,u=>u=Value.none
 | .bl b,u=>u=Value.bool b
 | .int i,u=>∃t,u=Value.int i t
 | .str x,u=>∃t,u=Value.str x t
 | .byt b,u=>∃t,u=Value.bytes b t
 | .flt b,u=>∃t,u=Value.float b t
 | .ref a,u=>u=Value.ref a
 | .ty n,u=>u=Value.type n
abbrev Vals:List V->List Value->Prop:=Paired RelV
theorem Vals.length{xs:List V}{us:List Value}(r:Vals xs us):xs.length=us.length:=V6 r
theorem Vals.get:∀{xs:List V}{us:List Value}{i:Nat}{x:V},Vals xs us->xs[i]? =some x->∃u,us[i]? =some u/\RelV x u
 |_,_,_,_,.nil,e=>by simp at e
 |_,_,0,_,.cons r _,e=>by simp at e;subst e;exact⟨_,rfl,r⟩
 |_,_,i+1,x,.cons _ t,e=>by
  obtain⟨u,h1,h2⟩:=Vals.get (i:=i) (x:=x) t (by simpa using e)
  exact⟨u,by simpa using h1,h2⟩
theorem Vals.append:∀{xs ys:List V}{us ws:List Value},Vals xs us->Vals ys ws->Vals (xs++ys) (us++ws)
 |_,_,_,_,.nil,s=>s
 |_,_,_,_,.cons r t,s=>.cons r (Vals.append t s)
theorem Vals.take:∀{xs:List V}{us:List Value}(n:Nat),Vals xs us->Vals (xs.take n) (us.take n)
 |_,_,0,_=>.nil
 |_,_,_+1,.nil=>.nil
 |_,_,n+1,.cons r t=>.cons r (Vals.take n t)
theorem Vals.drop:∀{xs:List V}{us:List Value}(n:Nat),Vals xs us->Vals (xs.drop n) (us.drop n)
 |_,_,0,r=>r
 |_,_,_+1,.nil=>.nil
 |_,_,n+1,.cons _ t=>Vals.drop n t
def RelO:Option V->Option Value->Prop
 |some v,some u=>RelV v u
 |none,none=>True
 |_,_=>False
def KV{κ:Type}:List (κ×V)->List (κ×Value)->Prop:=Paired fun(p:κ×V) (q:κ×Value)=>p.1=q.1/\RelV p.2 q.2
def kV:Key->V
 | .inl i=>.int i
 | .inr x=>.str x
inductive HO where
 |lst(xs:List V)
 |tup(xs:List V)
 |dK(kvs:List (Key×V))|dT(kvs:List (List Key×V))
 |set(S:Int->Bool)(n:Nat)
 |ins(C dx:Addr)(fs:List (Str×V))
 |own(x:Addr)
 |xd(fs:List (Str×V))
 |met(f x:Addr)
 |rng(lo hi:Int)
 |frz(o:Obj)(u:HO)
 |tbl(ps:Array Value)
 |ext(φ:Heap->Prop)
abbrev Hp:=Addr->Option HO
def upd(H:Hp)(a:Addr)(o:HO):Hp:=fun b=>if b=a then some o else H b
theorem a0c{H:Hp}{a:Addr}{o:HO}:upd H a o a=some o:=by unfold upd;rw[if_pos rfl]
theorem a0j{H:Hp}{a b:Addr}{o:HO}(h:b≠a):upd H a o b=H b:=by unfold upd;rw[if_neg h]
theorem b8y{H:Hp}{a b:Addr}{o u:HO}(h:H a=some o)(h':H b=some u)(d:o≠u):a≠b:=by
 intro e;subst e;rw[h]at h';exact d (Zo h')
theorem a1c{H:Hp}{a b:Addr}{o:HO}(h:H a=some o)(h':H b=none):a≠b:=by
 intro e;subst e;rw[h]at h';cases h'
section
variable(P:Program)(w:World)
def a2b(H:Hp)(h:Heap)(a:Addr):HO->Prop
 | .lst xs=>xs.length<=sizeLine/\∃(its:List Value)(n:Nat),Vals xs its/\h.get? a=some { cls:=.type "list",data:=.seq its.toArray n}
 | .tup xs=>xs.length<=sizeLine/\∃its:List Value,Vals xs its/\IsTup h a its.toArray
 | .dK kvs=>kvs.length<=sizeLine/\(a==sysModules)=false/\∃vs,KV kvs vs/\h.DictOf (a1l P w) a vs
 | .dT kvs=>kvs.length<=sizeLine/\(a==sysModules)=false/\∃xs:List (List Key×Addr×Value),
   Paired (fun(p:List Key×V) (q:List Key×Addr×Value)=>p.1=q.1/\H q.2.1=some (.tup (p.1.map kV))/\RelV p.2 q.2.2) kvs xs/\
   ∃o es ep,h.get? a=some o/\o.ExactDict/\o.data=.dict es ep/\es.toList=xs.map (entryOfKey (tupleKind (a1l P w)))/\(xs.map (·.1)).Nodup
 | .set S n=>h.SetOf (intKind P w) a S n
 | .ins C dx fs=>H dx=some (.own a)/\fs.length<=1000/\dx≠a/\h.get? a=some (W.instObj C dx)/\
   ∃mA,h.Ns1 dx mA/\(∀f,RelO (fs.lookup f) (mA f))/\PySem.Within mA (fs.map (·.1))
 | .own _=>∃o,h.get? a=some o
 | .xd fs=>∃mA,h.Ns1 a mA/\∀f,RelO (fs.lookup f) (mA f)
 | .rng lo hi=>∃t u v,h.get? a=some { cls:=.type "range",data:=.fields #[.int lo t,.int hi u,.int 1 v]}
 | .frz o u=>h.get? a=some o/\a2b H h a u
 | .tbl ps=>h.get? a=some { cls:=.none,data:=.fields ps}
 | .met f x=>h.get? a=some (W.methodObj (.ref f) (.ref x))
 | .ext φ=>φ h/\(∃o,h.get? a=some o)/\∀h1 h2:Heap,φ h1->(∀o,h1.get? a=some o->h2.get? a=some o)->φ h2
def HOk(H:Hp)(h:Heap):Prop:=∀a o,H a=some o->a2b P w H h a o
end
section
variable{P:Program}{w:World}{H H':Hp}{h h':Heap}{a:Addr}{o:HO}
theorem a2b.lt(x:a2b P w H h a o):a<h.objs.size:=by
 cases o with
 |lst xs=>obtain⟨_,_,_,_,e⟩:=x;exact Zv e
 |tup xs=>obtain⟨_,_,_,p⟩:=x;exact p.lt
 |dK kvs=>obtain⟨_,_,_,_,o,_,_,e,_⟩:=x;exact Zv e
 |dT kvs=>obtain⟨_,_,_,_,o,_,_,e,_⟩:=x;exact Zv e
 |set S n=>obtain⟨o,_,_,_,e,_⟩:=x;exact Zv e
 |ins C dx fs=>obtain⟨_,_,_,e,_⟩:=x;exact Zv e
 |own y=>obtain⟨_,e⟩:=x;exact Zv e
 |xd fs=>obtain⟨_,⟨_,_,_,e,_⟩,_⟩:=x;exact Zv e
 |rng lo hi=>obtain⟨_,_,_,e⟩:=x;exact Zv e
 |frz ob u=>obtain⟨e,_⟩:=x;exact Zv e
 |tbl ps=>exact Zv (show h.get? a=some _ from x)
 |met f y=>exact Zv (show h.get? a=some _ from x)
 |ext φ=>obtain⟨_,⟨_,e⟩,_⟩:=x;exact Zv e
theorem Paired.mapP{α β:Type}{F G:α->β->Prop}:∀{l₁:List α}{l₂:List β},Paired F l₁ l₂->(∀a b,F a b->G a b)->Paired G l₁ l₂
 |_,_,.nil,_=>.nil
 |_,_,.cons r t,f=>.cons (f _ _ r) (Paired.mapP t f)
theorem a2b.stay(x:a2b P w H h a o)(k:∀b u,(b=a\/H b=some (.own a))->h.get? b=some u->h'.get? b=some u)
  (ho:∀b,H b=some (.own a)->H' b=some (.own a))(ht:∀b xs,H b=some (.tup xs)->H' b=some (.tup xs)):a2b P w H' h' a o:=by
 induction o with
 |lst xs=>obtain⟨z,its,n,r,e⟩:=x;exact⟨z,its,n,r,k _ _ (.inl rfl) e⟩
 |tup xs=>obtain⟨z,its,r,ob,e,c⟩:=x;exact⟨z,its,r,ob,k _ _ (.inl rfl) e,c⟩
 |dK kvs=>obtain⟨z,y,vs,r,ob,es,ep,e,c⟩:=x;exact⟨z,y,vs,r,ob,es,ep,k _ _ (.inl rfl) e,c⟩
 |dT kvs=>
  obtain⟨z,y,xs,r,ob,es,ep,e,c⟩:=x
  exact⟨z,y,xs,Paired.mapP r fun p q z=>⟨z.1,ht _ _ z.2.1,z.2.2⟩,ob,es,ep,k _ _ (.inl rfl) e,c⟩
 |set S n=>obtain⟨ob,es,ep,t,e,c⟩:=x;exact⟨ob,es,ep,t,k _ _ (.inl rfl) e,c⟩
 |ins C dx fs=>
  obtain⟨d,z,ne,e,mA,⟨od,es,ep,e2,c⟩,r⟩:=x
  exact⟨ho _ d,z,ne,k _ _ (.inl rfl) e,mA,⟨od,es,ep,k _ _ (.inr d) e2,c⟩,r⟩
 |own y=>obtain⟨ob,e⟩:=x;exact⟨ob,k _ _ (.inl rfl) e⟩
 |xd fs=>obtain⟨mA,⟨od,es,ep,e,c⟩,r⟩:=x;exact⟨mA,⟨od,es,ep,k _ _ (.inl rfl) e,c⟩,r⟩
 |rng lo hi=>obtain⟨t,u,v,e⟩:=x;exact⟨t,u,v,k _ _ (.inl rfl) e⟩
 |frz ob u ih=>obtain⟨e,q⟩:=x;exact⟨k _ _ (.inl rfl) e,ih q⟩
 |tbl ps=>
  have e:h.get? a=some { cls:=.none,data:=.fields ps}:=x
  show h'.get? a=some { cls:=.none,data:=.fields ps}
  exact k a _ (.inl rfl) e
 |met f y=>
  have e:h.get? a=some (W.methodObj (.ref f) (.ref y)):=x
  show h'.get? a=some (W.methodObj (.ref f) (.ref y))
  exact k a _ (.inl rfl) e
 |ext φ=>obtain⟨p,⟨o,e⟩,st⟩:=x;exact⟨st _ _ p fun o q=>k _ _ (.inl rfl) q,⟨o,k _ _ (.inl rfl) e⟩,st⟩
theorem HOk.lt(x:HOk P w H h)(e:H a=some o):a<h.objs.size:=(x a o e).lt
theorem HOk.fresh(x:HOk P w H h)(e:h.objs.size<=a):H a=none:=by
 cases q:H a with
 |none=>rfl
 |some u=>exact absurd (Zy (x.lt q) e) (Wg _)
theorem HOk.kept(x:HOk P w H h)(k:∀b u,h.get? b=some u->h'.get? b=some u):HOk P w H h':=fun a o e=>
 (x a o e).stay (fun b u _ q=>k b u q) (fun _ q=>q) fun _ _ q=>q
theorem HOk.laid(x:HOk P w H h)(k:∀b u,h.get? b=some u->h'.get? b=some u)(hp:h.objs.size<=a)(new:a2b P w (upd H a o) h' a o):HOk P w (upd H a o) h':=fun b u e=>by
 have hn:=x.fresh hp
 by_cases hb:b=a
 ·subst hb;rw[a0c]at e;cases e;exact new
 ·rw[a0j hb]at e
  exact(x b u e).stay (fun c v _ q=>k c v q) (fun c q=>by rw[a0j (a1c q hn)];exact q) fun c xs q=>by rw[a0j (a1c q hn)];exact q
end
def Rd(H:Hp)(a:Addr)(u:HO):Prop:=H a=some u\/∃o,H a=some (.frz o u)
theorem Rd.ok{P:Program}{w:World}{H:Hp}{h:Heap}{a:Addr}{u:HO}(r:Rd H a u)(x:HOk P w H h):a2b P w H h a u:=by
 rcases r with r|⟨o,r⟩
 ·exact x a u r
 ·obtain⟨_,q⟩:=x a _ r
  exact q
def Mut:Option HO->Prop
 |some (.lst _)=>True
 |some (.dK _)=>True
 |some (.dT _)=>True
 |some (.set _ _)=>True
 |some (.ins _ _ _)=>True
 |some (.ext _)=>True
 |_=>False
section
variable{P:Program}{w:World}{H:Hp}{h h':Heap}{x e:Addr}{o':HO}
theorem HOk.write(ok:HOk P w H h)(mu:Mut (H x))(he:e=x\/H e=some (.own x))(k:∀b u,b≠e->h.get? b=some u->h'.get? b=some u)(heo:∃u,h'.get? e=some u)
  (new:a2b P w (upd H x o') h' x o'):HOk P w (upd H x o') h':=fun b u q=>by
 have nown:∀c y,H c=some (.own y)->c≠x:=fun c y r z=>by subst z;rw[r]at mu;exact mu
 have ntup:∀c xs,H c=some (.tup xs)->c≠x:=fun c xs r z=>by subst z;rw[r]at mu;exact mu
 by_cases hb:b=x
 ·subst hb;rw[a0c]at q;cases q;exact new
 ·rw[a0j hb]at q
  by_cases hbe:b=e
  ·have q':H b=some (.own x):=by
    rcases he with z|z
    ·exact absurd (hbe.trans z) hb
    ·rw[hbe];exact z
   rw[q]at q';cases q'
   obtain⟨v,hv⟩:=heo
   exact⟨v,by rw[hbe];exact hv⟩
  ·refine(ok b u q).stay (fun c v hc r=>k c v ?_ r) (fun c r=>by rw[a0j (nown c b r)];exact r) fun c xs r=>by rw[a0j (ntup c xs r)];exact r
   rcases hc with rfl|hc
   ·exact hbe
   ·rintro rfl
    rcases he with z|z
    ·exact nown c b hc z
    ·rw[hc]at z;cases z;exact hb rfl
end
structure Un(fs ex:List Addr)(H H':Hp)(h h':Heap):Prop where
 keep:∀b o,h.get? b=some o->H b=none->b∉fs->b∉ex->h'.get? b=some o
 slot:∀b o,h.get? b=some o->H b=none->b∈fs->b∉ex->∃sl,h'.get? b=some { o with slots:=sl}
 free:∀b o,h.get? b=some o->H b=none->b∉ex->H' b=none
 there:∀b o,h.get? b=some o->b∉ex->∃o',h'.get? b=some o'
 tups:∀b xs,H b=some (.tup xs)->H' b=some (.tup xs)
 frzs:∀b o u,H b=some (.frz o u)->H' b=some (.frz o u)
 tbls:∀b ps,H b=some (.tbl ps)->∃more,H' b=some (.tbl (ps++more))
section
variable{fs fs' ex ex':List Addr}{H H1 H2:Hp}{h h1 h2 h':Heap}{a x e:Addr}{o:HO}
theorem Un.any(u:Un fs ex H H1 h h1){b:Addr}{ob:Obj}(q:h.get? b=some ob)(n:H b=none)(hx:b∉ex):∃sl,h1.get? b=some { ob with slots:=sl}:=by
 by_cases hb:b∈fs
 ·exact u.slot b ob q n hb hx
 ·exact⟨ob.slots,u.keep b ob q n hb hx⟩
theorem Un.kept(k:∀b u,h.get? b=some u->h'.get? b=some u):Un fs ex H H h h':=
 ⟨fun b ob q _ _ _=>k b ob q,fun b ob q _ _ _=>⟨ob.slots,k b ob q⟩,fun _ _ _ n _=>n,fun b ob q _=>⟨ob,k b ob q⟩,fun _ _ q=>q,fun _ _ _ q=>q,fun _ ps q=>⟨#[],by rw[q];simp⟩⟩
theorem Un.refl:Un fs ex H H h h:=Un.kept fun _ _ q=>q
theorem Un.laid(k:∀b u,h.get? b=some u->h'.get? b=some u)(hp:h.objs.size<=a)(hn:H a=none):Un fs ex H (upd H a o) h h' where
 keep:=fun b u q _ _ _=>k b u q
 slot:=fun b u q _ _ _=>⟨u.slots,k b u q⟩
 free:=fun b u q n _=>by rw[a0j (Yj (Zy (Zv q) hp))];exact n
 there:=fun b u q _=>⟨u,k b u q⟩
 tups:=fun b xs q=>by rw[a0j (a1c q hn)];exact q
 frzs:=fun b u xs q=>by rw[a0j (a1c q hn)];exact q
 tbls:=fun b ps q=>⟨#[],by rw[a0j (a1c q hn),q];simp⟩
theorem Un.write(mu:Mut (H x))(he:e=x\/H e=some (.own x))(k:∀b u,b≠e->h.get? b=some u->h'.get? b=some u)(heo:∃u,h'.get? e=some u):Un fs ex H (upd H x o) h h':=by
 have hx:∀b,H b=none->b≠x:=fun b n z=>by subst z;rw[n]at mu;exact mu
 have hb:∀b,H b=none->b≠e:=fun b n z=>by
  subst z
  rcases he with r|r
  ·exact hx b n r
  ·rw[n]at r;cases r
 have hm:∀b u,H b=some u->¬Mut (some u)->b≠x:=fun b u q nm z=>by subst z;rw[q]at mu;exact nm mu
 refine⟨fun b u q n _ _=>k b u (hb b n) q,fun b u q n _ _=>⟨u.slots,k b u (hb b n) q⟩,fun b u q n _=>by rw[a0j (hx b n)];exact n,fun b u q _=>?_,
  fun b xs q=>by rw[a0j (hm b _ q fun z=>z)];exact q,fun b u xs q=>by rw[a0j (hm b _ q fun z=>z)];exact q,fun b ps q=>⟨#[],by rw[a0j (hm b _ q fun z=>z),q];simp⟩⟩
 by_cases hbe:b=e
 ·subst hbe;exact heo
 ·exact⟨u,k b u hbe q⟩
end
def trk(h:Heap)(H:Hp):List Addr:=(List.range h.objs.size).filter fun a=>(H a).isSome
def hidT(h:Heap)(H:Hp):Heap:=W.hideAll h (trk h H)
theorem c9v(h:Heap)(H:Hp):(hidT h H).objs.size=h.objs.size:=W.hideAll_size _ _
theorem d3o{h:Heap}{H:Hp}{b:Addr}{o:Obj}(e:h.get? b=some o)(n:H b=none):(hidT h H).get? b=some o:=
 W.hideAll_get _ e fun hm=>by
  have q:(H b).isSome=true:=(List.mem_filter.mp hm).2
  rw[n]at q;simp at q
theorem of_hidT{h:Heap}{H:Hp}{b:Addr}{o:Obj}(e:(hidT h H).get? b=some o):h.get? b=some o/\H b=none:=by
 have e':h.get? b=some o:=W.of_hideAll (trk h H) e
 refine⟨e',?_⟩
 cases q:H b with
 |none=>rfl
 |some x=>
  have hm:b∈trk h H:=List.mem_filter.mpr ⟨Vd.mpr (Zv e'),by simp[q]⟩
  have z:(hidT h H).get? b=none:=W.hideAll_none (trk h H) hm
  rw[z]at e;cases e
def allNews(g h:Heap)(L:Addr):List (Addr×Obj):=(List.range h.objs.size).filterMap fun a=>if a=L\/(g.get? a).isSome=true then none else(h.get? a).map fun o=>(a,o)
def rest(g h:Heap)(L d:Addr):List (Addr×Obj):=(allNews g h L).filter fun p=>decide (p.1≠d)
structure Mod(K:W.Frag)(mg:Str->Option Value)(base:Heap):Prop where
 kin:K.In base
 glob:base.Ns mainGlobals mg
 blt:∃mb,base.Ns builtinsNs mb/\∀x:Str,x≠"__name__"->mb x=bootBuiltins x
 nolimit:base.NoLimit
structure Cx where
 prog:Program
 w:World
 K:W.Frag
 mg:Str->Option Value
 base:Heap
 A:Around
 N:List Str
 s₀:Shared
 H₀:Hp
 env:Env
 outer:List Env
 stack:List Env
 ex:List Addr
 fn:Str->Bool
 calm:Bool
 pn:List (Addr×Obj)
 xe:Value->Shared->Prop
def frs(l:List Env):List Addr:=l.filterMap (·.frame)
abbrev Cx.fs(X:Cx):List Addr:=frs X.outer
def Vis(sc:Scope)(x:Str):Prop:=sc.names.lookup x=some .local\/sc.names.lookup x=some .cell\/sc.names.lookup x=some .free
def Loc(sc:Scope)(x:Str):Prop:=sc.names.lookup x=some .local\/sc.names.lookup x=some .cell
def Look(env:Env)(h:Heap)(m:Str->Option Value)(x:Str)(u:Value):Prop:=
 (env.kindOf x=some .local/\m x=some u)\/((env.kindOf x=some .cell\/env.kindOf x=some .free)/\∃c,env.cells.lookup x=some c/\h.IsCell c (some u))
structure Cx.Ok(X:Cx):Prop where
 mod:Mod X.K X.mg X.base
 kind:X.env.scope.kind=.function
 glob:X.env.globals=mainGlobals
 blt:X.env.builtins=builtinsNs
 above:X.s₀.heap.objs.size<=X.env.locals
 inj:∀x y c,X.env.cells.lookup x=some c->X.env.cells.lookup y=some c->x=y
 has:∀x,(X.env.kindOf x=some .cell\/X.env.kindOf x=some .free)->∃c,X.env.cells.lookup x=some c
 cab:∀x c,X.fn x=true->X.env.cells.lookup x=some c->X.s₀.heap.objs.size<=c
 hd:X.calm=true->X.A.handled=none
 frames:X.A.frames=some X.stack
 stk:X.stack=X.outer\/(X.stack=X.env::X.outer/\X.env.frame=some X.env.locals)
 exf:∀b∈X.ex,b≠X.env.locals/\∀x c,X.env.cells.lookup x=some c->c≠b
 bs:∀b o,X.base.get? b=some o->X.s₀.heap.get? b=some o/\X.H₀ b=none
 bsz:X.base.objs.size<=X.s₀.heap.objs.size
 noex:∀b o,X.base.get? b=some o->b∉X.ex
 exfs:∀b∈X.ex,b∉X.fs
 funs:X.s₀.heap.FunFrames X.base X.outer
 frf:∀b∈X.fs,X.H₀ b=none
structure Inv(X:Cx)(pins:List (Addr×Obj))(σ:List (Option V))(H:Hp)(s:Shared):Prop where
 ok:X.Ok
 os:s.os=X.s₀.os
 bare:AllBare s.gens
 base:Un X.fs X.ex X.H₀ H X.s₀.heap s.heap
 loc:∃m,s.heap.Ns X.env.locals m/\∀(i:Nat)(x:Str)(v:V),X.N[i]? =some x->σ[i]? =some (some v)->Vis X.env.scope x->∃u,RelV v u/\Look X.env s.heap m x u
 cell:∀x c,X.env.cells.lookup x=some c->∃v,s.heap.IsCell c v
 free:H X.env.locals=none
 freeC:∀x c,X.env.cells.lookup x=some c->H c=none
 pin:∀p∈X.pn++pins,s.heap.get? p.1=some p.2/\H p.1=none/\p.1≠X.env.locals/\p.1∉X.fs/\∀v,p.2.data≠.cell v
 hok:HOk X.prog X.w H s.heap
 len:σ.length=X.N.length
section
variable{X:Cx}{pins:List (Addr×Obj)}{σ:List (Option V)}{H H':Hp}{s:Shared}{h':Heap}
theorem Cx.Ok.nofr(ok:X.Ok){b:Addr}{o:Obj}(e:X.base.get? b=some o):b∉X.fs:=fun hb=>by
 have:=(ok.funs.mem hb).1
 rw[e]at this;cases this
theorem Inv.bs(I:Inv X pins σ H s):∀b o,X.base.get? b=some o->s.heap.get? b=some o/\H b=none:=fun b o e=>
 ⟨I.base.keep b o (I.ok.bs b o e).1 (I.ok.bs b o e).2 (I.ok.nofr e) (I.ok.noex b o e),I.base.free b o (I.ok.bs b o e).1 (I.ok.bs b o e).2 (I.ok.noex b o e)⟩
theorem Inv.bk(I:Inv X pins σ H s):∀b o,X.base.get? b=some o->s.heap.get? b=some o:=fun b o e=>(I.bs b o e).1
theorem Inv.mod(I:Inv X pins σ H s):Mod X.K X.mg X.base:=I.ok.mod
theorem Inv.kIn(I:Inv X pins σ H s):X.K.In s.heap:=I.ok.mod.kin.keeps I.bk
theorem Inv.fr(I:Inv X pins σ H s):∃m,Fr X.base X.env.locals s.heap m:=
 let⟨m,hn,_⟩:=I.loc
 ⟨m,hn,I.bk,Ym I.ok.bsz I.ok.above⟩
theorem Inv.lt(I:Inv X pins σ H s):X.env.locals<s.heap.objs.size:=let⟨_,hn,_⟩:=I.loc;hn.lt
theorem Inv.sz(I:Inv X pins σ H s):X.s₀.heap.objs.size<=s.heap.objs.size:=Ym I.ok.above (Ta I.lt)
theorem Inv.nofs(I:Inv X pins σ H s){a:Addr}(h:s.heap.objs.size<=a):a∉X.fs:=fun hb=>by
 obtain⟨_,o,ho,_⟩:=I.ok.funs.mem hb
 exact absurd (Zy (Zv ho) (Ym I.sz h)) (Wg _)
theorem Inv.cne(I:Inv X pins σ H s):∀x c,X.env.cells.lookup x=some c->c≠X.env.locals:=fun x c e z=>by
 obtain⟨v,o,ho,hd⟩:=I.cell x c e
 obtain⟨m,⟨o',es,ep,ho',hd',_⟩,_⟩:=I.loc
 rw[z,ho']at ho;cases ho;rw[hd']at hd;cases hd
theorem Inv.funs(I:Inv X pins σ H s):s.heap.FunFrames X.base X.outer:=by
 have all:∀(l:List Env),(∀b∈frs l,b∈X.fs)->X.s₀.heap.FunFrames X.base l->s.heap.FunFrames X.base l:=by
  intro l
  induction l with
  |nil=>intro _ _;trivial
  |cons env r ih=>
   intro hs hl
   obtain⟨hk,⟨L,o,hf,hn,ho,hd⟩,hr⟩:=hl
   have hL:L∈X.fs:=hs L (by unfold frs;rw[V5,hf];exact Zj)
   obtain⟨sl,e⟩:=I.base.slot L o ho (I.ok.frf L hL) hL fun z=>I.ok.exfs L z hL
   exact⟨hk,⟨L,_,hf,hn,e,hd⟩,ih (fun b hb=>hs b (by unfold frs;rw[V5,hf];exact Zi _ hb)) hr⟩
 exact all X.outer (fun _ hb=>hb) I.ok.funs
theorem Inv.stack(I:Inv X pins σ H s):s.heap.FunFrames X.base X.stack:=by
 rcases I.ok.stk with e|⟨e,hf⟩
 ·rw[e];exact I.funs
 ·rw[e]
  obtain⟨m,hn,_⟩:=I.loc
  refine .cons (by rw[I.ok.kind];decide) hf hn ?_ I.funs
  exact Heap.get?_none_of_le (Ym I.ok.bsz I.ok.above)
theorem Inv.stkSub(I:Inv X pins σ H s):∀b∈frs X.stack,b∈X.env.locals::X.fs:=fun b hb=>by
 rcases I.ok.stk with e|⟨e,hf⟩
 ·rw[e]at hb;exact Zi _ hb
 ·rw[e]at hb
  unfold frs at hb
  rw[V5,hf]at hb
  exact hb
theorem Inv.stkFree(I:Inv X pins σ H s):∀b∈frs X.stack,H b=none:=fun b hb=>by
 rcases Zk.mp (I.stkSub b hb)with e|hb
 ·rw[e];exact I.free
 ·obtain⟨_,o,ho,_⟩:=I.ok.funs.mem hb
  exact I.base.free b o ho (I.ok.frf b hb) fun z=>I.ok.exfs b z hb
theorem Inv.step{g':Array GenState}{t':Nat}{d':Drawn}{ch:List Addr}(I:Inv X pins σ H s)
  (hch:∀b∈ch,(b∈X.ex\/X.s₀.heap.objs.size<=b)/\b≠X.env.locals/\(∀x c,X.env.cells.lookup x=some c->c≠b)/\∀p∈X.pn++pins,p.1≠b)
  (keep:∀b o,b≠X.env.locals->b∉X.fs->b∉ch->s.heap.get? b=some o->H b=none->h'.get? b=some o)
  (slot:∀b o,b≠X.env.locals->b∈X.fs->b∉ch->s.heap.get? b=some o->H b=none->∃sl,h'.get? b=some { o with slots:=sl})(free:∀b o,b∉ch->s.heap.get? b=some o->H b=none->H' b=none)
  (there:∀b o,b∉ch->s.heap.get? b=some o->∃o',h'.get? b=some o')
  (tups:∀b xs,H b=some (.tup xs)->H' b=some (.tup xs))(frzs:∀b o u,H b=some (.frz o u)->H' b=some (.frz o u))(tbls:∀b ps,H b=some (.tbl ps)->∃more,H' b=some (.tbl (ps++more)))
  (ns:∀m,s.heap.Ns X.env.locals m->h'.Ns X.env.locals m)(hok:HOk X.prog X.w H' h')(hg:AllBare g'):
  Inv X pins σ H' { s with heap:=h',gens:=g',drawn:=d',toks:=t'}:=by
 have neL:∀b o,X.s₀.heap.get? b=some o->b≠X.env.locals:=fun b o e=>Yj (Zy (Zv e) I.ok.above)
 have neC:∀b o,X.s₀.heap.get? b=some o->b∉X.ex->b∉ch:=fun b o e hx hb=>by
  rcases(hch b hb).1 with z|z
  ·exact hx z
  ·exact absurd (Zy (Zv e) z) (Wg _)
 have cellK:∀x c,X.env.cells.lookup x=some c->∀v,s.heap.IsCell c v->h'.IsCell c v:=fun x c e v ⟨o,ho,hd⟩=>by
  have nch:c∉ch:=fun z=>(hch c z).2.2.1 x c e rfl
  by_cases hc:c∈X.fs
  ·obtain⟨sl,q⟩:=slot c o (I.cne x c e) hc nch ho (I.freeC x c e)
   exact⟨_,q,hd⟩
  ·exact⟨o,keep c o (I.cne x c e) hc nch ho (I.freeC x c e),hd⟩
 refine⟨I.ok,I.os,hg,⟨fun b o e n hb hx=>?_,fun b o e n hb hx=>?_,fun b o e n hx=>?_,fun b o e hx=>?_,fun b xs e=>tups b xs (I.base.tups b xs e),fun b o xs e=>frzs b o xs (I.base.frzs b o xs e),fun b ps e=>?_⟩,?_,fun x c e=>?_,?_,fun x c e=>?_,fun p hp=>?_,hok,I.len⟩
 ·exact keep b o (neL b o e) hb (neC b o e hx) (I.base.keep b o e n hb hx) (I.base.free b o e n hx)
 ·obtain⟨sl,e1⟩:=I.base.slot b o e n hb hx
  obtain⟨sl',e2⟩:=slot b _ (neL b o e) hb (neC b o e hx) e1 (I.base.free b o e n hx)
  exact⟨sl',e2⟩
 ·obtain⟨o',e1⟩:=I.base.there b o e hx
  exact free b o' (neC b o e hx) e1 (I.base.free b o e n hx)
 ·obtain⟨o',e1⟩:=I.base.there b o e hx
  exact there b o' (neC b o e hx) e1
 ·obtain⟨m1,e1⟩:=I.base.tbls b ps e
  obtain⟨m2,e2⟩:=tbls b _ e1
  exact⟨m1++m2,by rw[e2,Array.append_assoc]⟩
 ·obtain⟨m,hn,hl⟩:=I.loc
  refine⟨m,ns m hn,fun i x v e1 e2 e3=>?_⟩
  obtain⟨u,r,l⟩:=hl i x v e1 e2 e3
  refine⟨u,r,?_⟩
  rcases l with l|⟨k,c,e,z⟩
  ·exact .inl l
  ·exact .inr ⟨k,c,e,cellK x c e _ z⟩
 ·obtain⟨v,z⟩:=I.cell x c e
  exact⟨v,cellK x c e v z⟩
 ·obtain⟨m,⟨o,_,_,ho,_⟩,_⟩:=I.loc
  exact free _ o (fun z=>(hch _ z).2.1 rfl) ho I.free
 ·obtain⟨v,o,ho,hd⟩:=I.cell x c e
  exact free c o (fun z=>(hch c z).2.2.1 x c e rfl) ho (I.freeC x c e)
 ·obtain⟨e,n,ne,nf,d⟩:=I.pin p hp
  have nch:p.1∉ch:=fun z=>(hch p.1 z).2.2.2 p hp rfl
  exact⟨keep p.1 p.2 ne nf nch e n,free p.1 p.2 nch e n,ne,nf,d⟩
theorem Inv.un{t':Nat}(I:Inv X pins σ H s)(u:Un X.fs [] H H' s.heap h')(hok:HOk X.prog X.w H' h'):Inv X pins σ H' { s with heap:=h',toks:=t'}:=by
 obtain⟨m,⟨o,es,ep,ho,r⟩,_⟩:=id I.loc
 obtain⟨sl,hL⟩:=u.any ho I.free (by simp)
 exact I.step (g':=s.gens) (d':=s.drawn) (ch:=[]) (fun _ z=>nomatch z) (fun b o _ hb _ e n=>u.keep b o e n hb (by simp)) (fun b o _ hb _ e n=>u.slot b o e n hb (by simp)) (fun b o _ e n=>u.free b o e n (by simp)) (fun b o _ e=>u.there b o e (by simp)) u.tups u.frzs u.tbls (fun m' hm=>by
  obtain⟨o',es',ep',ho',r'⟩:=hm
  rw[ho]at ho';cases ho'
  exact⟨_,es',ep',hL,r'⟩) hok I.bare
theorem Inv.call{g':Array GenState}{t':Nat}{d':Drawn}{ch:List Addr}(I:Inv X pins σ H s)(u:Un (frs X.stack) ch H H' s.heap h')(hok:HOk X.prog X.w H' h')(hg:AllBare g')
  (hch:∀b∈ch,(b∈X.ex\/X.s₀.heap.objs.size<=b)/\b≠X.env.locals/\(∀x c,X.env.cells.lookup x=some c->c≠b)/\∀p∈X.pn++pins,p.1≠b):
  Inv X pins σ H' { s with heap:=h',gens:=g',drawn:=d',toks:=t'}:=by
 obtain⟨m,⟨o,es,ep,ho,r⟩,_⟩:=id I.loc
 obtain⟨sl,hL⟩:=u.any ho I.free fun z=>(hch _ z).2.1 rfl
 exact I.step (ch:=ch) hch (fun b o hL hb hc e n=>u.keep b o e n (fun z=>(Zk.mp (I.stkSub b z)).elim hL hb) hc) (fun b o _ _ hc e n=>u.any e n hc) (fun b o hc e n=>u.free b o e n hc) (fun b o hc e=>u.there b o e hc) u.tups u.frzs u.tbls (fun m' hm=>by
  obtain⟨o',es',ep',ho',r'⟩:=hm
  rw[ho]at ho';cases ho'
  exact⟨_,es',ep',hL,r'⟩) hok hg
theorem Inv.turned{t':Nat}{it:Addr}(I:Inv X pins σ H s)(k:∀b o,b≠it->s.heap.get? b=some o->h'.get? b=some o)(hn:H it=none)(hL:it≠X.env.locals)
  (h1:it∈X.ex\/X.s₀.heap.objs.size<=it)(h2:∀x c,X.env.cells.lookup x=some c->c≠it)(h3:∀p∈X.pn++pins,p.1≠it):Inv X pins σ H { s with heap:=h',toks:=t'}:=by
 have nit:∀b u,H b=some u->b≠it:=fun b u e z=>by rw[z,hn]at e;cases e
 refine I.step (g':=s.gens) (d':=s.drawn) (ch:=[it]) (fun b hb=>?_) (fun b o _ _ hc e _=>k b o (fun z=>hc (by simp[z])) e) (fun b o _ _ hc e _=>⟨o.slots,k b o (fun z=>hc (by simp[z])) e⟩) (fun _ _ _ _ n=>n)
  (fun b o hc e=>⟨o,k b o (fun z=>hc (by simp[z])) e⟩) (fun _ _ e=>e) (fun _ _ _ e=>e) (fun b ps e=>⟨#[],by rw[e];simp⟩) (fun m hm=>?_) (fun b u e=>?_) I.bare
 ·have e:b=it:=by simpa using hb
  subst e
  exact⟨h1,hL,h2,h3⟩
 ·obtain⟨o,es,ep,ho,r⟩:=hm
  exact⟨o,es,ep,k _ o (Ne.symm hL) ho,r⟩
 ·refine(I.hok b u e).stay (fun c v hc q=>k c v ?_ q) (fun _ q=>q) fun _ _ q=>q
  rcases hc with z|z
  ·rw[z];exact nit b u e
  ·exact nit c _ z
theorem Inv.tok(I:Inv X pins σ H s)(t:Nat):Inv X pins σ H { s with toks:=t}:=I.un (h':=s.heap) (t':=t) Un.refl I.hok
theorem Inv.kept{t':Nat}(I:Inv X pins σ H s)(k:∀b u,s.heap.get? b=some u->h'.get? b=some u):Inv X pins σ H { s with heap:=h',toks:=t'}:=I.un (Un.kept k) (I.hok.kept k)
theorem Inv.laid{a:Addr}{o:HO}{t':Nat}(I:Inv X pins σ H s)(k:∀b u,s.heap.get? b=some u->h'.get? b=some u)(hp:s.heap.objs.size<=a)(new:a2b X.prog X.w (upd H a o) h' a o):
  Inv X pins σ (upd H a o) { s with heap:=h',toks:=t'}:=I.un (Un.laid k hp (I.hok.fresh hp)) (I.hok.laid k hp new)
theorem Inv.write{x e:Addr}{o:HO}{t':Nat}(I:Inv X pins σ H s)(mu:Mut (H x))(he:e=x\/H e=some (.own x))(k:∀b u,b≠e->s.heap.get? b=some u->h'.get? b=some u)(heo:∃u,h'.get? e=some u)
  (new:a2b X.prog X.w (upd H x o) h' x o):Inv X pins σ (upd H x o) { s with heap:=h',toks:=t'}:=I.un (Un.write mu he k heo) (I.hok.write mu he k heo new)
theorem Inv.pins_of{pins':List (Addr×Obj)}(I:Inv X pins σ H s)(h:∀p∈pins',s.heap.get? p.1=some p.2/\H p.1=none/\p.1≠X.env.locals/\p.1∉X.fs/\∀v,p.2.data≠.cell v):Inv X pins' σ H s:=
 ⟨I.ok,I.os,I.bare,I.base,I.loc,I.cell,I.free,I.freeC,fun p hp=>(Z1.mp hp).elim (fun z=>I.pin p (Y1 _ z)) (h p),I.hok,I.len⟩
theorem c3n{N:List Str}(hN:N.Nodup){i j:Nat}{x:Str}(a:N[i]? =some x)(b:N[j]? =some x):i=j:=by
 obtain⟨h1,e1⟩:=Yy.mp a
 obtain⟨h2,e2⟩:=Yy.mp b
 exact(List.getElem_inj hN).mp (e1.trans e2.symm)
theorem c9w{M:Model}{A:Around}{E:Value->Shared->Prop}{i:Nat}{x:Str}{v:V}{u:Value}{Q:Unit->Shared->Prop}(I:Inv X pins σ H s)(hN:X.N.Nodup)(hi:X.N[i]? =some x)(hx:Loc X.env.scope x)(r:RelV v u)
  (h:∀s',Inv X pins (σ.set i (some v)) H s'->(∃a,Heap.SameBut a s.heap s'.heap/\(a=X.env.locals\/X.env.cells.lookup x=some a))->Q () s')(hf:X.fn x=true\/X.env.scope.names.lookup x=some .local:=by first|exact .inl rfl|exact .inr rfl|assumption):wpAny M A (storeName X.env x u) Q E s:=by
 obtain⟨m,hn,hl⟩:=id I.loc
 have hcls:(X.env.scope.kind==.class|| (X.env.scope.kind==.module&&X.env.locals !=X.env.globals))=false:=by rw[I.ok.kind];rfl
 have hiσ:i<σ.length:=by rw[I.len];exact(Yy.mp hi).1
 have cne:=I.cne
 have tracked:∀{a:Addr}{h':Heap},(∃o,s.heap.get? a=some o/\H a=none)->Heap.SameBut a s.heap h'->HOk X.prog X.w H h':=fun{a h'} ha hs b ob e=>by
  obtain⟨_,_,hfree⟩:=ha
  refine(I.hok b ob e).stay (fun c w' hc q=>(hs.2 c ?_).trans q) (fun _ q=>q) fun _ _ q=>q
  rintro rfl
  rcases hc with rfl|hc
  ·rw[hfree]at e;cases e
  ·rw[hfree]at hc;cases hc
 rcases hx with hk|hk
 ·refine wpAny_storeName_local hk hn (fun h' hn' hs=>?_) hcls
  obtain⟨oL,_,_,hoL,_⟩:=id hn
  refine h _ ⟨I.ok,I.os,I.bare,⟨fun b o e n hb hx=>?_,fun b o e n hb hx=>?_,I.base.free,fun b o e hx=>?_,I.base.tups,I.base.frzs,I.base.tbls⟩,⟨_,hn',fun j y v' e1 e2 e3=>?_⟩,fun y c e=>?_,I.free,I.freeC,fun p hp=>?_,tracked ⟨oL,hoL,I.free⟩ hs,by simpa using I.len⟩ ⟨_,hs,.inl rfl⟩
  ·exact(hs.2 b (Yj (Zy (Zv e) I.ok.above))).trans (I.base.keep b o e n hb hx)
  ·obtain⟨sl,e1⟩:=I.base.slot b o e n hb hx
   exact⟨sl,(hs.2 b (Yj (Zy (Zv e) I.ok.above))).trans e1⟩
  ·obtain⟨o',e1⟩:=I.base.there b o e hx
   exact⟨o',(hs.2 b (Yj (Zy (Zv e) I.ok.above))).trans e1⟩
  ·by_cases hj:j=i
   ·subst hj
    rw[hi]at e1;cases e1
    rw[Te hiσ]at e2
    cases e2
    exact⟨u,r,.inl ⟨hk,by simp⟩⟩
   ·rw[Tp (Ne.symm hj)]at e2
    obtain⟨u',r',q⟩:=hl j y v' e1 e2 e3
    refine⟨u',r',?_⟩
    rcases q with⟨k,e⟩|⟨k,c,e,z⟩
    ·refine .inl ⟨k,?_⟩
     have:y≠x:=fun e=>hj (c3n hN e1 (e▸hi))
     simp[this,e]
    ·exact .inr ⟨k,c,e,z.sameBut hs (cne y c e)⟩
  ·obtain⟨w',z⟩:=I.cell y c e
   exact⟨w',z.sameBut hs (cne y c e)⟩
  ·obtain⟨e,n,ne,nf,d⟩:=I.pin p hp
   exact⟨(hs.2 p.1 ne).trans e,n,ne,nf,d⟩
 ·have hfn:X.fn x=true:=by
   rcases hf with z|z
   ·exact z
   ·rw[z]at hk;cases hk
  obtain⟨c,hc⟩:=I.ok.has x (.inl hk)
  obtain⟨w',z⟩:=I.cell x c hc
  refine wpAny_storeName_cell I.ok.kind hk hc z (fun h' hc' hs=>?_)
  obtain⟨oc,hoc,hocd⟩:=id z
  refine h { s with heap:=h'} ⟨I.ok,I.os,I.bare,⟨fun b o e n hb hx=>?_,fun b o e n hb hx=>?_,I.base.free,fun b o e hx=>?_,I.base.tups,I.base.frzs,I.base.tbls⟩,⟨m,hn.sameBut hs (Ne.symm (cne x c hc)),fun j y v' e1 e2 e3=>?_⟩,fun y c' e=>?_,I.free,I.freeC,fun p hp=>?_,tracked ⟨oc,hoc,I.freeC x c hc⟩ hs,by simpa using I.len⟩ ⟨c,hs,.inr hc⟩
  ·exact(hs.2 b (Yj (Zy (Zv e) (I.ok.cab x c hfn hc)))).trans (I.base.keep b o e n hb hx)
  ·obtain⟨sl,e1⟩:=I.base.slot b o e n hb hx
   exact⟨sl,(hs.2 b (Yj (Zy (Zv e) (I.ok.cab x c hfn hc)))).trans e1⟩
  ·obtain⟨o',e1⟩:=I.base.there b o e hx
   exact⟨o',(hs.2 b (Yj (Zy (Zv e) (I.ok.cab x c hfn hc)))).trans e1⟩
  ·by_cases hj:j=i
   ·subst hj
    rw[hi]at e1;cases e1
    rw[Te hiσ]at e2
    cases e2
    exact⟨u,r,.inr ⟨.inl hk,c,hc,hc'⟩⟩
   ·rw[Tp (Ne.symm hj)]at e2
    obtain⟨u',r',q⟩:=hl j y v' e1 e2 e3
    refine⟨u',r',?_⟩
    rcases q with q|⟨k,c',e,z'⟩
    ·exact .inl q
    ·refine .inr ⟨k,c',e,z'.sameBut hs ?_⟩
     rintro rfl
     exact hj (c3n hN e1 (I.ok.inj _ _ _ e hc▸hi))
  ·by_cases hcc:c'=c
   ·subst hcc;exact⟨_,hc'⟩
   ·obtain⟨w2,z2⟩:=I.cell y c' e
    exact⟨w2,z2.sameBut hs hcc⟩
  ·obtain⟨e,n,ne,nf,d⟩:=I.pin p hp
   refine⟨(hs.2 p.1 ?_).trans e,n,ne,nf,d⟩
   intro q
   rw[q,hoc]at e
   have q':oc=p.2:=Zo e
   exact d w' (by rw[<-q'];exact hocd)
theorem b1j{M:Model}{A:Around}{E:Value->Shared->Prop}{i:Nat}{x:Str}{v:V}{u:Value}{Q:Unit->Shared->Prop}(I:Inv X pins σ H s)(hN:X.N.Nodup)(hi:X.N[i]? =some x)(hx:Loc X.env.scope x)(r:RelV v u)
  (h:∀s',Inv X pins (σ.set i (some v)) H s'->Q () s')(hf:X.fn x=true\/X.env.scope.names.lookup x=some .local:=by first|exact .inl rfl|exact .inr rfl|assumption):wpAny M A (storeName X.env x u) Q E s:=
 c9w I hN hi hx r (fun s' I' _=>h s' I') hf
theorem Inv.call'{s':Shared}{ch:List Addr}(I:Inv X pins σ H s)(ho:s'.os=s.os)(u:Un (frs X.stack) ch H H' s.heap s'.heap)(hok:HOk X.prog X.w H' s'.heap)(hg:AllBare s'.gens)
  (hch:∀b∈ch,(b∈X.ex\/X.s₀.heap.objs.size<=b)/\b≠X.env.locals/\(∀x c,X.env.cells.lookup x=some c->c≠b)/\∀p∈X.pn++pins,p.1≠b):Inv X pins σ H' s':=by
 obtain⟨h',g',d',t',o'⟩:=s'
 have e:o'=s.os:=ho
 subst e
 exact I.call (g':=g') (t':=t') (d':=d') u hok hg hch
end
abbrev XK:=Value->Option Addr->Hp->Prop
abbrev St:=List (Option V)
abbrev VK:=V->Hp->Prop
abbrev TE:=St->Hp->VK->Prop
abbrev TT:=St->Hp->(Bool->Hp->Prop)->Prop
abbrev TA:=St->Hp->(List V->Hp->Prop)->Prop
structure Ends where
 nx:St->Hp->Prop
 rt:VK
 bk:St->Hp->Prop:=fun _ _=>False
 ct:St->Hp->Prop:=fun _ _=>False
abbrev TS:=Ends->St->Hp->Prop
def EP(X:Cx)(pins:List (Addr×Obj))(σ:St)(Q:VK)(u:Value)(s':Shared):Prop:=∃v H',Inv X pins σ H' s'/\RelV v u/\Q v H'
def TP(X:Cx)(pins:List (Addr×Obj))(σ:St)(Q:Bool->Hp->Prop)(b:Bool)(s':Shared):Prop:=∃H',Inv X pins σ H' s'/\Q b H'
def AP(X:Cx)(pins:List (Addr×Obj))(σ:St)(Q:List V->Hp->Prop)(us:List Value)(s':Shared):Prop:=∃vs H',Inv X pins σ H' s'/\Vals vs us/\Q vs H'
def SP(X:Cx)(pins:List (Addr×Obj))(D:Ends)(f:Flow)(s':Shared):Prop:=
 match f with
 | .next=>∃σ' H',Inv X pins σ' H' s'/\D.nx σ' H'
 | .brk=>∃σ' H',Inv X pins σ' H' s'/\D.bk σ' H'
 | .cont=>∃σ' H',Inv X pins σ' H' s'/\D.ct σ' H'
 | .ret u=>∃v σ' H',Inv X pins σ' H' s'/\RelV v u/\D.rt v H'
def PE(X:Cx)(e:Expr)(t:TE):Prop:=
 ∀(pins:List (Addr×Obj))(s:Shared)(σ:St)(H:Hp)(Q:VK),Inv X pins σ H s->t σ H Q->wpAny (model X.prog X.w) X.A (eval e X.env) (EP X pins σ Q) X.xe s
def PT(X:Cx)(e:Expr)(t:TT):Prop:=
 ∀(pins:List (Addr×Obj))(s:Shared)(σ:St)(H:Hp)(Q:Bool->Hp->Prop),Inv X pins σ H s->t σ H Q->wpAny (model X.prog X.w) X.A (isTrue e X.env (eval e X.env)) (TP X pins σ Q) X.xe s
def PW(X:Cx)(e:Expr)(t:TT):Prop:=
 ∀(whole:Sem Value)(pins:List (Addr×Obj))(s:Shared)(σ:St)(H:Hp)(Q:Bool->Hp->Prop),Inv X pins σ H s->t σ H Q->wpAny (model X.prog X.w) X.A (isTrue e X.env whole) (TP X pins σ Q) X.xe s
theorem PW.pt{X:Cx}{e:Expr}{t:TT}(h:PW X e t):PT X e t:=h _
def PA(X:Cx)(es:List Expr)(t:TA):Prop:=
 ∀(pos:Pos)(pins:List (Addr×Obj))(s:Shared)(σ:St)(H:Hp)(Q:List V->Hp->Prop),Inv X pins σ H s->t σ H Q->wpAny (model X.prog X.w) X.A (spliced (backTo pos (starEach es X.env))) (AP X pins σ Q) X.xe s
def PS(X:Cx)(st:Stmt)(t:TS):Prop:=
 ∀(pins:List (Addr×Obj))(s:Shared)(σ:St)(H:Hp)(D:Ends),Inv X pins σ H s->t D σ H->wpAny (model X.prog X.w) X.A (exec st X.env) (SP X pins D) X.xe s
def PSs(X:Cx)(st:List Stmt)(t:TS):Prop:=
 ∀(pins:List (Addr×Obj))(s:Shared)(σ:St)(H:Hp)(D:Ends),Inv X pins σ H s->t D σ H->wpAny (model X.prog X.w) X.A (execs st X.env) (SP X pins D) X.xe s
theorem thn{α:Type}{t:Sem α}{Q Q':α->Shared->Prop}{M:Model}{A:Around}{E:Value->Shared->Prop}{s:Shared}(h:wpAny M A t Q E s)(hQ:∀a s,Q a s->Q' a s):wpAny M A t Q' E s:=Xy h hQ fun _ _ x=>x
section
variable{X:Cx}
def tVar(i:Nat):TE:=fun σ H Q=>∃v,σ[i]? =some (some v)/\Q v H
def tC(v:V):TE:=fun _ H Q=>Q v H
theorem pe_var{i:Nat}{x:Str}{pos:Pos}(hN:X.N[i]? =some x)(hv:Vis X.env.scope x)(hd:(x==("__debug__":Str))=false:=by decide)(hcd:(x==("__classdict__":Str))=false:=by decide):PE X (.Name x pos) (tVar i):=by
 intro pins s σ H Q I h
 obtain⟨v,e,h⟩:=h
 obtain⟨m,hn,hl⟩:=I.loc
 obtain⟨u,r,l⟩:=hl i x v hN e hv
 have fin:EP X pins σ Q u s:=⟨v,H,I,r,h⟩
 rcases l with⟨hk,hm⟩|⟨hk,c,hc,hcell⟩
 ·exact T3 (Ti I.ok.kind hk hn hm fin) hd
 ·rcases hk with hk|hk
  ·exact T3 (Tu I.ok.kind hk hc hcell fin) hd
  ·exact T3 (wpAny_loadName_free I.ok.kind hk hc hcell fin hcd) hd
theorem a0d{i j pos}:PE X (.Constant (.int i) j pos) (tC (.int i)):=fun _ _ _ H _ I h=>wpAny_Constant_int ⟨.int i,H,I.tok _,⟨_,rfl⟩,h⟩
theorem b2h{b j pos}:PE X (.Constant (.bool b) j pos) (tC (.bl b)):=fun _ _ _ H _ I h=>Constant_bool ⟨.bl b,H,I,rfl,h⟩
theorem c9x{j pos}:PE X (.Constant .none j pos) (tC .non):=fun _ _ _ H _ I h=>Constant_none ⟨.non,H,I,rfl,h⟩
theorem a0i{x j pos}:PE X (.Constant (.str x) j pos) (tC (.str x)):=fun _ _ _ H _ I h=>Y0 ⟨.str x,H,I.tok _,⟨_,rfl⟩,h⟩
def Gl(X:Cx)(x:Str):Prop:=X.env.kindOf x=some .globalImplicit
theorem b1a{E:Value->Shared->Prop}{pins:List (Addr×Obj)}{s:Shared}{σ:St}{H:Hp}{x:Str}{u:Value}{pos:Pos}{Q:Value->Shared->Prop}(I:Inv X pins σ H s)(hg:Gl X x)(hm:X.mg x=some u)(h:Q u s)
  (hd:(x==("__debug__":Str))=false:=by decide):wpAny (model X.prog X.w) X.A (eval (.Name x pos) X.env) Q E s:=
 Ux I.ok.kind hg (Calls.loadGlobal_global (by rw[I.ok.glob];exact I.mod.glob.keeps I.bk) hm h) hd
theorem b3m{E:Value->Shared->Prop}{pins:List (Addr×Obj)}{s:Shared}{σ:St}{H:Hp}{x:Str}{u:Value}{pos:Pos}{Q:Value->Shared->Prop}(I:Inv X pins σ H s)(hg:Gl X x)(hm:X.mg x=none)(hv:bootBuiltins x=some u)(h:Q u s)
  (hn:x≠"__name__":=by decide)(hd:(x==("__debug__":Str))=false:=by decide):wpAny (model X.prog X.w) X.A (eval (.Name x pos) X.env) Q E s:=by
 obtain⟨mb,h1,h2⟩:=I.mod.blt
 exact Ux I.ok.kind hg (Calls.loadGlobal_builtin (by rw[I.ok.glob];exact I.mod.glob.keeps I.bk) hm (by rw[I.ok.blt];exact h1.keeps I.bk) ((h2 x hn).trans hv) h) hd
theorem a7v{x:Str}{v:V}{u:Value}{pos:Pos}(hg:Gl X x)(hm:X.mg x=some u)(r:RelV v u)(hd:(x==("__debug__":Str))=false:=by decide):PE X (.Name x pos) (tC v):=
 fun _ _ _ H _ I h=>b1a I hg hm ⟨v,H,I,r,h⟩ hd
theorem pe_bltn{x:Str}{v:V}{u:Value}{pos:Pos}(hg:Gl X x)(hm:X.mg x=none)(hv:bootBuiltins x=some u)(r:RelV v u)(hn:x≠"__name__":=by decide)(hd:(x==("__debug__":Str))=false:=by decide):PE X (.Name x pos) (tC v):=
 fun _ _ _ H _ I h=>b3m I hg hm hv ⟨v,H,I,r,h⟩ hn hd
variable{a b:Expr}{ta tb:TE}{pos:Pos}
def PC(X:Cx)(op:CmpOp)(a b:Expr)(t:TE):Prop:=
 ∀(pins:List (Addr×Obj))(s:Shared)(σ:St)(H:Hp)(Q:VK),Inv X pins σ H s->t σ H Q->
  wpAny (model X.prog X.w) X.A (eval a X.env) (fun v s₁=>wpAny (model X.prog X.w) X.A (eval b X.env) (fun u s₂=>wpAny (model X.prog X.w) X.A (compareOp op v u) (EP X pins σ Q) X.xe s₂) X.xe s₁) X.xe s
variable{tA tB':TT}{rest:List Expr}
def tAnd(t u:TT):TT:=fun σ H Q=>t σ H fun c H1=>if c=true then u σ H1 Q else Q false H1
def tOr(t u:TT):TT:=fun σ H Q=>t σ H fun c H1=>if c=true then Q true H1 else u σ H1 Q
def tNot(t:TT):TT:=fun σ H Q=>t σ H fun c H1=>Q (!c) H1
theorem a4f(ha:PT X a tA):PW X (.BoolOp .And [a] pos) tA:=by
 intro wh pins s σ H Q I h
 refine isTrue_and (thn (ha pins s σ H Q I h) fun c s1 e=>?_)
 cases c with
 |true=>exact isTrue_and_nil e
 |false=>exact e
theorem b3n(ha:PT X a tA):PW X (.BoolOp .Or [a] pos) tA:=by
 intro wh pins s σ H Q I h
 refine isTrue_or (thn (ha pins s σ H Q I h) fun c s1 e=>?_)
 cases c with
 |false=>exact isTrue_or_nil e
 |true=>exact e
theorem a5d(ha:PT X a tA)(hb:PW X (.BoolOp .And (b::rest) pos) tB'):PW X (.BoolOp .And (a::b::rest) pos) (tAnd tA tB'):=by
 intro wh pins s σ H Q I h
 refine isTrue_and (thn (ha pins s σ H _ I h) fun c s1 ⟨H1,I1,q1⟩=>?_)
 cases c with
 |true=>exact hb wh pins s1 σ H1 Q I1 q1
 |false=>exact⟨H1,I1,q1⟩
theorem b6v(ha:PT X a tA)(hb:PW X (.BoolOp .Or (b::rest) pos) tB'):PW X (.BoolOp .Or (a::b::rest) pos) (tOr tA tB'):=by
 intro wh pins s σ H Q I h
 refine isTrue_or (thn (ha pins s σ H _ I h) fun c s1 ⟨H1,I1,q1⟩=>?_)
 cases c with
 |true=>exact⟨H1,I1,q1⟩
 |false=>exact hb wh pins s1 σ H1 Q I1 q1
theorem a9t(ha:PT X a tA):PT X (.UnaryOp .Not a pos) (tNot tA):=by
 intro pins s σ H Q I h
 exact isTrue_not (ha pins s σ H (fun c H1=>Q (!c) H1) I h)
def tAndV(ta tb:TE):TE:=fun σ H Q=>ta σ H fun x H1=>∃c,x=.bl c/\if c=true then tb σ H1 Q else Q (.bl false) H1
def tOrV(ta tb:TE):TE:=fun σ H Q=>ta σ H fun x H1=>∃c,x=.bl c/\if c=true then Q (.bl true) H1 else tb σ H1 Q
theorem b8z{op}{t:TE}(h:PE X a t):PE X (.BoolOp op [a] pos) t:=fun pins s σ H Q I hw=>BoolOp_one (h pins s σ H Q I hw)
theorem pe_and(ha:PE X a ta)(hb:PE X (.BoolOp .And (b::rest) pos) tb):PE X (.BoolOp .And (a::b::rest) pos) (tAndV ta tb):=by
 intro pins s σ H Q I h
 refine BoolOp_and (thn (ha pins s σ H _ I h) fun v s1 ⟨x,H1,I1,r1,q1⟩=>?_)
 obtain⟨c,rfl,q1⟩:=q1
 cases r1
 refine Xj ?_
 cases c with
 |true=>exact hb pins s1 σ H1 Q I1 q1
 |false=>exact⟨.bl false,H1,I1,rfl,q1⟩
theorem pe_or(ha:PE X a ta)(hb:PE X (.BoolOp .Or (b::rest) pos) tb):PE X (.BoolOp .Or (a::b::rest) pos) (tOrV ta tb):=by
 intro pins s σ H Q I h
 refine BoolOp_or (thn (ha pins s σ H _ I h) fun v s1 ⟨x,H1,I1,r1,q1⟩=>?_)
 obtain⟨c,rfl,q1⟩:=q1
 cases r1
 refine Xj ?_
 cases c with
 |false=>exact hb pins s1 σ H1 Q I1 q1
 |true=>exact⟨.bl true,H1,I1,rfl,q1⟩
def tIf(t:TT)(ta tb:TE):TE:=fun σ H Q=>t σ H fun c H1=>if c=true then ta σ H1 Q else tb σ H1 Q
theorem b7s{c:Expr}(hc:PT X c tA)(ha:PE X a ta)(hb:PE X b tb):PE X (.IfExp c a b pos) (tIf tA ta tb):=by
 intro pins s σ H Q I h
 refine wpAny_IfExp (thn (hc pins s σ H _ I h) fun d s1 ⟨H1,I1,q1⟩=>?_)
 cases d with
 |true=>exact ha pins s1 σ H1 Q I1 q1
 |false=>exact hb pins s1 σ H1 Q I1 q1
end
def SqL(K:W.Frag)(H:Hp)(a:Addr)(xs:List V):Prop:=
 Rd H a (.lst xs)\/
  ∃(o:Obj)(its:Array Value)(n:Nat),K.lookup a=some o/\o.cls=.type "list"/\o.dict=none/\o.data=.seq its n/\its.size<=sizeLine/\Vals xs its.toList
def SqT(K:W.Frag)(H:Hp)(a:Addr)(xs:List V):Prop:=
 Rd H a (.tup xs)\/
  ∃(o:Obj)(its:Array Value)(n:Nat),K.lookup a=some o/\o.cls=.type "tuple"/\o.data=.seq its n/\its.size<=sizeLine/\Vals xs its.toList
def absV:Value->Option V
 | .none=>some .non
 | .bool b=>some (.bl b)
 | .int i _=>some (.int i)
 | .str x _=>some (.str x)
 | .bytes b _=>some (.byt b)
 | .float b _=>some (.flt b)
 | .ref a=>some (.ref a)
 | .type n=>some (.ty n)
 |_=>none
theorem RelV.abs{x:V}{u:Value}(r:RelV x u):absV u=some x:=by
 cases x with
 |non=>cases r;rfl
 |bl _=>cases r;rfl
 |int _=>obtain⟨t,rfl⟩:=r;rfl
 |str _=>obtain⟨t,rfl⟩:=r;rfl
 |byt _=>obtain⟨t,rfl⟩:=r;rfl
 |flt _=>obtain⟨t,rfl⟩:=r;rfl
 |ref _=>cases r;rfl
 |ty _=>cases r;rfl
theorem RelV.inj{x y:V}{u:Value}(r:RelV x u)(q:RelV y u):x=y:=Zo (r.abs.symm.trans q.abs)
theorem Vals.inj:∀{xs ys:List V}{us:List Value},Vals xs us->Vals ys us->xs=ys
 |_,_,_,.nil,.nil=>rfl
 |_,_,_,.cons r t,.cons r' t'=>by rw[r.inj r',Vals.inj t t']
section
variable{X:Cx}{pins:List (Addr×Obj)}{σ:St}{H:Hp}{s:Shared}{a:Addr}{xs ys:List V}
theorem SqL.of{K:W.Frag}(h:H a=some (.lst xs)):SqL K H a xs:=.inl (.inl h)
theorem SqT.of{K:W.Frag}(h:H a=some (.tup xs)):SqT K H a xs:=.inl (.inl h)
theorem Inv.list(I:Inv X pins σ H s)(h:SqL X.K H a xs):∃its:List Value,Vals xs its/\PlainL s.heap a its.toArray/\xs.length<=sizeLine:=by
 rcases h with h|⟨o,its,n,hk,hc,hd,hs,hz,r⟩
 ·obtain⟨z,its,n,r,e⟩:=h.ok I.hok
  exact⟨its,r,⟨_,n,e,rfl,rfl,rfl⟩,z⟩
 ·refine⟨its.toList,r,⟨o,n,I.kIn a o hk,hc,hd,by simpa using hs⟩,?_⟩
  have e:=r.length
  simp only[Xs]at e
  omega
theorem Inv.tuple(I:Inv X pins σ H s)(h:SqT X.K H a xs):∃its:List Value,Vals xs its/\IsTup s.heap a its.toArray/\xs.length<=sizeLine:=by
 rcases h with h|⟨o,its,n,hk,hc,hs,hz,r⟩
 ·obtain⟨z,its,r,p⟩:=h.ok I.hok
  exact⟨its,r,p,z⟩
 ·refine⟨its.toList,r,⟨o,I.kIn a o hk,hc,n,by simpa using hs⟩,?_⟩
  have e:=r.length
  simp only[Xs]at e
  omega
theorem Inv.list_inj(I:Inv X pins σ H s)(h:SqL X.K H a xs)(h':SqL X.K H a ys):xs=ys:=by
 obtain⟨its,r,⟨o,n,e,_,_,d⟩,_⟩:=I.list h
 obtain⟨its',r',⟨o',n',e',_,_,d'⟩,_⟩:=I.list h'
 rw[e]at e';cases e'
 rw[d]at d'
 injection d' with d1 _
 have:its=its':=by simpa using Z9 Array.toList d1
 subst this
 exact r.inj r'
theorem Inv.tuple_inj(I:Inv X pins σ H s)(h:SqT X.K H a xs)(h':SqT X.K H a ys):xs=ys:=by
 obtain⟨its,r,⟨o,e,_,n,d⟩,_⟩:=I.tuple h
 obtain⟨its',r',⟨o',e',_,n',d'⟩,_⟩:=I.tuple h'
 rw[e]at e';cases e'
 rw[d]at d'
 injection d' with d1 _
 have:its=its':=by simpa using Z9 Array.toList d1
 subst this
 exact r.inj r'
end
abbrev Cx.wish(X:Cx)(E:Value->Shared->Prop):Cx:={ X with xe:=E}
abbrev Cx.nox(X:Cx):Cx:=X.wish fun _ _=>False
theorem Cx.Ok.wish{X:Cx}(ok:X.Ok)(E:Value->Shared->Prop):(X.wish E).Ok:=
 ⟨ok.mod,ok.kind,ok.glob,ok.blt,ok.above,ok.inj,ok.has,ok.cab,ok.hd,ok.frames,ok.stk,ok.exf,ok.bs,ok.bsz,ok.noex,ok.exfs,ok.funs,ok.frf⟩
theorem Cx.Ok.unwish{X:Cx}{E:Value->Shared->Prop}(ok:(X.wish E).Ok):X.Ok:=
 ⟨ok.mod,ok.kind,ok.glob,ok.blt,ok.above,ok.inj,ok.has,ok.cab,ok.hd,ok.frames,ok.stk,ok.exf,ok.bs,ok.bsz,ok.noex,ok.exfs,ok.funs,ok.frf⟩
section
variable{X:Cx}{pins:List (Addr×Obj)}{σ:St}{H:Hp}{s:Shared}{E:Value->Shared->Prop}
theorem Inv.wish(I:Inv X pins σ H s)(E:Value->Shared->Prop):Inv (X.wish E) pins σ H s:=⟨I.ok.wish E,I.os,I.bare,I.base,I.loc,I.cell,I.free,I.freeC,I.pin,I.hok,I.len⟩
theorem Inv.unwish(I:Inv (X.wish E) pins σ H s):Inv X pins σ H s:=⟨I.ok.unwish,I.os,I.bare,I.base,I.loc,I.cell,I.free,I.freeC,I.pin,I.hok,I.len⟩
theorem SP.unwish{D:Ends}{f:Flow}{s':Shared}(h:SP (X.wish E) pins D f s'):SP X pins D f s':=by
 cases f with
 |next=>obtain⟨σ',H',I,q⟩:=h;exact⟨σ',H',I.unwish,q⟩
 |brk=>obtain⟨σ',H',I,q⟩:=h;exact⟨σ',H',I.unwish,q⟩
 |cont=>obtain⟨σ',H',I,q⟩:=h;exact⟨σ',H',I.unwish,q⟩
 |ret u=>obtain⟨v,σ',H',I,r,q⟩:=h;exact⟨v,σ',H',I.unwish,r,q⟩
theorem PSs.nox{st:List Stmt}{t:TS}(h:PSs X.nox st t):PSs X st t:=fun pins s σ H D I hw=>
 Xy (h pins s σ H D (I.wish _) hw) (fun _ _ q=>q.unwish) fun _ _ z=>False.elim z
end
section
variable{X:Cx}{st:Stmt}{rest:List Stmt}{t u:TS}{e:Expr}{te:TE}{pos:Pos}
def tNext:TS:=fun D σ H=>D.nx σ H
def tSeq(t u:TS):TS:=fun D σ H=>t { D with nx:=u D} σ H
theorem a0u:PSs X [] tNext:=fun _ _ σ H _ I h=>Wi ⟨σ,H,I,h⟩
theorem a0e(h1:PS X st t)(h2:PSs X rest u):PSs X (st::rest) (tSeq t u):=by
 intro pins s σ H D I h
 refine Ui (thn (h1 pins s σ H { D with nx:=u D} I h) fun f s1 q=>?_)
 cases f with
 |next=>
  obtain⟨σ',H',I',q⟩:=q
  exact h2 pins s1 σ' H' D I' q
 |ret v=>exact q
 |brk=>exact q
 |cont=>exact q
theorem a0g(h1:PS X st t):PSs X [st] t:=by
 intro pins s σ H D I h
 refine Ui (thn (h1 pins s σ H D I h) fun f s1 q=>?_)
 cases f with
 |next=>exact Wi q
 |ret v=>exact q
 |brk=>exact q
 |cont=>exact q
theorem Inv.quiet{pins:List (Addr×Obj)}{σ:St}{H:Hp}{s:Shared}(I:Inv X pins σ H s):interactive X.env=false:=by simp[interactive,I.ok.kind]
def tDrop(te:TE):TS:=fun D σ H=>te σ H fun _ H1=>D.nx σ H1
theorem a1a(he:PE X e te)(hs:swapsWith e none pos.line X.env=pure false:=by rfl):PS X (.Expr e pos) (tDrop te):=by
 intro pins s σ H D I h
 exact wpAny_Expr_any (thn (he pins s σ H _ I h) fun v s1 ⟨x,H1,I1,r1,q1⟩=>⟨σ,H1,I1,q1⟩) I.quiet hs
def tRet(te:TE):TS:=fun D σ H=>te σ H D.rt
theorem a0m(he:PE X e te):PS X (.Return (some e) pos) (tRet te):=by
 intro pins s σ H D I h
 exact wpAny_Return_some (thn (he pins s σ H _ I h) fun v s1 ⟨x,H1,I1,r1,q1⟩=>⟨x,σ,H1,I1,r1,q1⟩)
def tIfS(c:TT)(t u:TS):TS:=fun D σ H=>c σ H fun b H1=>if b=true then t D σ H1 else u D σ H1
theorem a0v{c:Expr}{a b:List Stmt}{tc:TT}(hc:PT X c tc)(ha:PSs X a t)(hb:PSs X b u):PS X (.If c a b pos) (tIfS tc t u):=by
 intro pins s σ H D I h
 refine wpAny_If (thn (hc pins s σ H _ I h) fun d s1 ⟨H1,I1,q1⟩=>?_)
 cases d with
 |true=>exact ha pins s1 σ H1 D I1 q1
 |false=>exact hb pins s1 σ H1 D I1 q1
def tNever:TS:=fun _ _ _=>False
theorem d3p:PS X st tNever:=fun _ _ _ _ _ _ h=>h.elim
end
abbrev TG:=V->St->Hp->(St->Hp->Prop)->Prop
def PG(X:Cx)(target:Expr)(t:TG):Prop:=
 ∀(pins:List (Addr×Obj))(s:Shared)(σ:St)(H:Hp)(v:V)(u:Value)(Q:St->Hp->Prop),Inv X pins σ H s->RelV v u->t v σ H Q->
  wpAny (model X.prog X.w) X.A (assign target X.env u) (fun _ s'=>∃σ' H',Inv X pins σ' H' s'/\Q σ' H') X.xe s
abbrev TIp:=V->V->Hp->VK->Prop
def PIp(X:Cx)(op:Operator)(t:TIp):Prop:=
 ∀(pins:List (Addr×Obj))(s:Shared)(σ:St)(H:Hp)(x y:V)(v u:Value)(Q:VK),Inv X pins σ H s->RelV x v->RelV y u->t x y H Q->
  wpAny (model X.prog X.w) X.A (inplaceOp op v u) (EP X pins σ Q) X.xe s
section
variable{X:Cx}{pos:Pos}
def c2v(i:Nat):TG:=fun v σ H Q=>Q (σ.set i (some v)) H
theorem a6w{i:Nat}{x:Str}(hN:X.N.Nodup)(hi:X.N[i]? =some x)(hx:Loc X.env.scope x)(hf:X.fn x=true\/X.env.scope.names.lookup x=some .local:=by first|exact .inl rfl|exact .inr rfl|assumption):PG X (.Name x pos) (c2v i):=by
 intro pins s σ H v u Q I r h
 exact wpAny_assign_Name (b1j I hN hi hx r (fun s' I'=>⟨_,H,I',h⟩) hf)
def tAsg(te:TE)(g:TG):TS:=fun D σ H=>te σ H fun x H1=>g x σ H1 D.nx
theorem a0q{i:Nat}{x:Str}{e:Expr}{te:TE}{pos':Pos}(hN:X.N.Nodup)(hi:X.N[i]? =some x)(hx:Loc X.env.scope x)(he:PE X e te)(hs:swapsWith e (some (.Name x pos')) pos.line X.env=pure false:=by rfl)(hf:X.fn x=true\/X.env.scope.names.lookup x=some .local:=by first|exact .inl rfl|exact .inr rfl|assumption):
  PS X (.Assign [.Name x pos'] e pos) (tAsg te (c2v i)):=by
 intro pins s σ H D I h
 refine wpAny_Assign_Name (thn (he pins s σ H _ I h) fun v s1 ⟨y,H1,I1,r1,q1⟩=>?_) hs
 exact b1j I1 hN hi hx r1 (fun s2 I2=>⟨_,H1,I2,q1⟩) hf
def tAug(i:Nat)(te:TE)(ti:TIp):TS:=fun D σ H=>∃x,σ[i]? =some (some x)/\te σ H fun y H1=>ti x y H1 fun z H2=>D.nx (σ.set i (some z)) H2
theorem ps_aug{i:Nat}{x:Str}{e:Expr}{te:TE}{op:Operator}{ti:TIp}{pos':Pos}(hN:X.N.Nodup)(hi:X.N[i]? =some x)(hx:Loc X.env.scope x)(he:PE X e te)(ho:PIp X op ti)(hf:X.fn x=true\/X.env.scope.names.lookup x=some .local:=by first|exact .inl rfl|exact .inr rfl|assumption):
  PS X (.AugAssign (.Name x pos') op e pos) (tAug i te ti):=by
 intro pins s σ H D I h
 obtain⟨v,e1,h⟩:=h
 obtain⟨m,hn,hl⟩:=I.loc
 have vis:Vis X.env.scope x:=by rcases hx with k|k;exact .inl k;exact .inr (.inl k)
 obtain⟨u,r,l⟩:=hl i x v hi e1 vis
 refine wpAny_AugAssign_Name ?_
 have go:wpAny (model X.prog X.w) X.A (eval e X.env) (fun w s₂=>wpAny (model X.prog X.w) X.A (inplaceOp op u w) (fun r s₃=>wpAny (model X.prog X.w) X.A (storeName X.env x r) (fun _=>SP X pins D .next) X.xe s₃) X.xe s₂) X.xe s:=by
  refine thn (he pins s σ H _ I h) fun w s1 ⟨y,H1,I1,r1,q1⟩=>?_
  refine thn (ho pins s1 σ H1 v y u w _ I1 r r1 q1) fun z s2 ⟨zv,H2,I2,r2,q2⟩=>?_
  exact b1j I2 hN hi hx r2 (fun s3 I3=>⟨_,H2,I3,q2⟩) hf
 rcases l with⟨hk,hm⟩|⟨hk,c,hc,hcell⟩
 ·exact Ti I.ok.kind hk hn hm go
 ·rcases hk with hk|hk
  ·exact Tu I.ok.kind hk hc hcell go
  ·rcases hx with k|k
   ·have:X.env.scope.names.lookup x=some .free:=hk
    rw[k]at this;cases this
   ·have:X.env.scope.names.lookup x=some .free:=hk
    rw[k]at this;cases this
end
section
variable{X:Cx}{pos:Pos}
def c3o(c:TT)(tb:TS):TS:=fun D σ H=>∃W:Nat->St->Hp->Prop,(∃m,W m σ H)/\∀m σ H,W m σ H->
 c σ H fun b H1=>if b=true then ∃N:St->Hp->Prop,(∀σ' H',N σ' H'->∃m',m'<m/\W m' σ' H')/\tb { D with nx:=N,ct:=N,bk:=D.nx} σ H1 else D.nx σ H1
theorem a3x{c:Expr}{body:List Stmt}{tc:TT}{tb:TS}(hp:PassesOwn (model X.prog X.w) X.A X.env X.xe)(hc:PT X c tc)(hb:PSs X body tb):PS X (.While c body [] pos) (c3o tc tb):=by
 intro pins s σ H D I h
 obtain⟨W,⟨m0,w0⟩,turn⟩:=h
 refine wpAny_While (codeAny_whileLoop (fun n s'=>∃σ' H',Inv X pins σ' H' s'/\W n σ' H') ?_ m0 ⟨σ,H,I,w0⟩)
 rintro n s1 ⟨σ1,H1,I1,w1⟩
 refine X5 hp (thn (hc pins s1 σ1 H1 _ I1 (turn n σ1 H1 w1)) fun b s2 ⟨H2,I2,q2⟩=>?_)
 cases b with
 |true=>
  obtain⟨N,hN,q2⟩:=q2
  rw[if_pos rfl]
  refine X5 hp (thn (hb pins s2 σ1 H2 _ I2 q2) fun f s3 q3=>?_)
  cases f with
  |next=>
   obtain⟨σ3,H3,I3,n3⟩:=q3
   obtain⟨m',hm,w3⟩:=hN σ3 H3 n3
   exact⟨m',hm,σ3,H3,I3,w3⟩
  |cont=>
   obtain⟨σ3,H3,I3,n3⟩:=q3
   obtain⟨m',hm,w3⟩:=hN σ3 H3 n3
   exact⟨m',hm,σ3,H3,I3,w3⟩
  |brk=>exact q3
  |ret v=>exact q3
 |false=>
  rw[if_neg Zr]
  exact Wi ⟨σ1,H2,I2,q2⟩
end
structure It where
 go:Nat->Hp->Prop
 yld:Nat->Hp->V->Hp->Prop
 stop:Nat->Hp->Prop
def FpOk(X:Cx)(pins:List (Addr×Obj))(H:Hp)(b:Addr):Prop:=
 H b=none/\b≠X.env.locals/\b∉X.fs/\(b∈X.ex\/X.s₀.heap.objs.size<=b)/\(∀x c,X.env.cells.lookup x=some c->c≠b)/\∀p∈X.pn++pins,p.1≠b
theorem Inv.fpOk{X:Cx}{pins:List (Addr×Obj)}{σ:St}{H H':Hp}{s:Shared}{b:Addr}(I:Inv X pins σ H s)(hb:s.heap.objs.size<=b)(hn:H' b=none):FpOk X pins H' b:=by
 refine⟨hn,U9 (Zy I.lt hb),I.nofs hb,.inr (Ym I.sz hb),fun x c e z=>?_,fun p hp z=>?_⟩
 ·obtain⟨v,q⟩:=I.cell x c e
  exact absurd (Zy q.lt (by rw[z];exact hb)) (Wg _)
 ·exact absurd (Zy (Zv (I.pin p hp).1) (by rw[z];exact hb)) (Wg _)
structure Turn(P:Program)(w:World)(K:W.Frag)(tg:Expr)(J:It)(fp:List Addr)(it:Addr)(tn:Nat->Heap->Prop):Prop where
 mem:it∈fp
 obj:∀i h,tn i h->∀b∈fp,∃o,h.get? b=some o/\∀v,o.data≠.cell v
 keep:∀i h h',tn i h->(∀b∈fp,∀o,h.get? b=some o->h'.get? b=some o)->tn i h'
 item:∀(X:Cx),X.prog=P->X.w=w->X.K=K->X.calm=true->∀(i:Nat)(pins:List (Addr×Obj))(s:Shared)(σ:St)(H:Hp)(E:Value->Shared->Prop),Inv X pins σ H s->(∀b∈fp,FpOk X pins H b)->tn i s.heap->J.go i H->
  wpAny (model P w) X.A (pyNext (.ref it)) (fun r s1=>∃u,r=some u/\
   wpAny (model P w) X.A (letOwnedTupleGo tg (.ref it) u) (fun _ s2=>∃x H',Inv X pins σ H' s2/\RelV x u/\J.yld i H x H'/\tn (i+1) s2.heap/\∀b∈fp,H' b=none) E s1) E s
 done:∀(X:Cx),X.prog=P->X.w=w->X.K=K->X.calm=true->∀(i:Nat)(pins:List (Addr×Obj))(s:Shared)(σ:St)(H:Hp)(E:Value->Shared->Prop),Inv X pins σ H s->(∀b∈fp,FpOk X pins H b)->tn i s.heap->J.stop i H->
  wpAny (model P w) X.A (pyNext (.ref it)) (fun r s1=>r=none/\Inv X pins σ H s1) E s
 self:∀(A:Around)(i:Nat)(s:Shared)(Q:Value->Shared->Prop)(E:Value->Shared->Prop),tn i s.heap->Q (.ref it) s->wpAny (model P w) A (pyIter (.ref it)) Q E s
abbrev TI:=St->Hp->(It->Hp->Prop)->Prop
def PIE(X:Cx)(pins:List (Addr×Obj))(σ:St)(tg:Expr)(R:It->Hp->Prop)(itv:Value)(s2:Shared):Prop:=
 ∃(it:Addr)(fp:List Addr)(tn:Nat->Heap->Prop)(J:It)(H':Hp),itv=.ref it/\Inv X pins σ H' s2/\Turn X.prog X.w X.K tg J fp it tn/\tn 0 s2.heap/\(∀b∈fp,FpOk X pins H' b)/\R J H'
def PI(X:Cx)(tg iter:Expr)(wi:TI):Prop:=
 ∀(pins:List (Addr×Obj))(s:Shared)(σ:St)(H:Hp)(R:It->Hp->Prop),Inv X pins σ H s->wi σ H R->
  wpAny (model X.prog X.w) X.A (eval iter X.env) (fun v s1=>wpAny (model X.prog X.w) X.A (pyIter v) (PIE X pins σ tg R) X.xe s1) X.xe s
theorem b9a{M:Model}{A:Around}{E:Value->Shared->Prop}{s:Shared}{tg:Expr}{it:Addr}{u:Value}{o:Obj}{n:String}{vs:Array Value}{Q:Unit->Shared->Prop}(ho:s.heap.get? it=some o)(hc:o.cls=.type n)(hd:o.data=.fields vs)
  (hn:["enumerate","zip","dict_itemiterator","dict_reverseitemiterator","odict_iterator","itertools.zip_longest","itertools.pairwise"].contains n=false)(hQ:Q () s):wpAny M A (letOwnedTupleGo tg (.ref it) u) Q E s:=by
 unfold letOwnedTupleGo
 cases tg<;>first
  |exact Yp hQ
  | (cases u<;>first
    |exact Yp hQ
    | (refine Zs (wpAny_load ho ?_)
       rw[hc,hd]
       show wpAny M A (if(["enumerate","zip","dict_itemiterator","dict_reverseitemiterator","odict_iterator","itertools.zip_longest","itertools.pairwise"].contains n&&vs[0]? ==some (rawInt _))=true then _ else _) Q E s
       rw[if_neg (by intro h;rw[hn,V3]at h;cases h)]
       exact Yp hQ))
def Itl(K:W.Frag)(a:Addr):It:=
 ⟨fun i H=>∃xs x,SqL K H a xs/\xs[i]? =some x,fun i H x H'=>H'=H/\∀xs,SqL K H a xs->xs[i]? =some x,fun i H=>∃xs,SqL K H a xs/\xs.length<=i⟩
def Itt(K:W.Frag)(a:Addr):It:=
 ⟨fun i H=>∃xs x,SqT K H a xs/\xs[i]? =some x,fun i H x H'=>H'=H/\∀xs,SqT K H a xs->xs[i]? =some x,fun i H=>∃xs,SqT K H a xs/\xs.length<=i⟩
def Itr(lo:Int)(n:Nat):It:=⟨fun i _=>i<n,fun i H x H'=>H'=H/\x=.int (lo+i),fun i _=>n<=i⟩
theorem c1t{P:Program}{w:World}{K:W.Frag}{tg:Expr}(a it:Addr):Turn P w K tg (Itl K a) [it] it (fun i h=>h.IsListIter it a i) where
 mem:=by simp
 obj:=fun i h st b hb=>by
  have e:b=it:=by simpa using hb
  subst e
  obtain⟨o,e,c,d⟩:=st
  exact⟨o,e,fun v z=>by rw[d]at z;cases z⟩
 keep:=fun i h h' st k=>st.at fun o e=>k it (by simp) o e
 item:=by
  intro X hP hw hK hc i pins s σ H E I hf st hg
  subst hP hw hK
  obtain⟨xs,x,hq,hx⟩:=hg
  obtain⟨its,rv,p,hz⟩:=I.list hq
  obtain⟨u,hu,ru⟩:=rv.get hx
  obtain⟨f0,f1,f2,f3,f4,f5⟩:=hf it (by simp)
  refine wpAny_pyNext_list_item st p.isList (x:=u) (by simpa using hu) fun h' st' sb=>?_
  have I1:Inv X pins σ H { s with heap:=h'}:=I.turned (t':=s.toks) (fun b o hb e=>(sb.2 b hb).trans e) f0 f1 f3 f4 f5
  obtain⟨o,e,c,d⟩:=id st'
  exact⟨u,rfl,b9a (s:={ s with heap:=h'}) e c d (by decide) ⟨x,H,I1,ru,⟨rfl,fun ys hy=>by rw[I.list_inj hy hq];exact hx⟩,st',fun b hb=>(hf b hb).1⟩⟩
 done:=by
  intro X hP hw hK hc i pins s σ H E I hf st hg
  subst hP hw hK
  obtain⟨xs,hq,hx⟩:=hg
  obtain⟨its,rv,p,hz⟩:=I.list hq
  obtain⟨f0,f1,f2,f3,f4,f5⟩:=hf it (by simp)
  have hl:=rv.length
  exact wpAny_pyNext_list_end (I.ok.hd hc) st p.isList (by simp;omega) fun h' eb=>⟨rfl,I.turned (t':=s.toks) (fun b o hb e=>eb b o hb e) f0 f1 f3 f4 f5⟩
 self:=fun _ _ _ _ _ st h=>wpAny_pyIter_listiter st h
theorem c8f{P:Program}{w:World}{K:W.Frag}{tg:Expr}(a it:Addr):Turn P w K tg (Itt K a) [it] it (fun i h=>h.IsTupleIter it a i) where
 mem:=by simp
 obj:=fun i h st b hb=>by
  have e:b=it:=by simpa using hb
  subst e
  obtain⟨o,e,c,d⟩:=st
  exact⟨o,e,fun v z=>by rw[d]at z;cases z⟩
 keep:=fun i h h' st k=>st.at fun o e=>k it (by simp) o e
 item:=by
  intro X hP hw hK hc i pins s σ H E I hf st hg
  subst hP hw hK
  obtain⟨xs,x,hq,hx⟩:=hg
  obtain⟨its,rv,p,hz⟩:=I.tuple hq
  obtain⟨u,hu,ru⟩:=rv.get hx
  obtain⟨f0,f1,f2,f3,f4,f5⟩:=hf it (by simp)
  refine wpAny_pyNext_tuple_item st (show s.heap.IsTuple a its.toArray from p) (x:=u) (by simpa using hu) fun h' st' sb=>?_
  have I1:Inv X pins σ H { s with heap:=h'}:=I.turned (t':=s.toks) (fun b o hb e=>(sb.2 b hb).trans e) f0 f1 f3 f4 f5
  obtain⟨o,e,c,d⟩:=id st'
  exact⟨u,rfl,b9a (s:={ s with heap:=h'}) e c d (by decide) ⟨x,H,I1,ru,⟨rfl,fun ys hy=>by rw[I.tuple_inj hy hq];exact hx⟩,st',fun b hb=>(hf b hb).1⟩⟩
 done:=by
  intro X hP hw hK hc i pins s σ H E I hf st hg
  subst hP hw hK
  obtain⟨xs,hq,hx⟩:=hg
  obtain⟨its,rv,p,hz⟩:=I.tuple hq
  obtain⟨f0,f1,f2,f3,f4,f5⟩:=hf it (by simp)
  have hl:=rv.length
  exact wpAny_pyNext_tuple_end (I.ok.hd hc) st (show s.heap.IsTuple a its.toArray from p) (by simp;omega) fun h' eb=>⟨rfl,I.turned (t':=s.toks) (fun b o hb e=>eb b o hb e) f0 f1 f3 f4 f5⟩
 self:=fun _ _ _ _ _ st h=>wpAny_pyIter_tupleiter st h
theorem c8g{P:Program}{w:World}{K:W.Frag}{tg:Expr}(it:Addr)(lo:Int)(n:Nat):Turn P w K tg (Itr lo n) [it] it (fun i h=>IsRangeIter h it (lo+(i:Nat)*1) ((n:Int)-(i:Nat)) 1) where
 mem:=by simp
 obj:=fun i h st b hb=>by
  have e:b=it:=by simpa using hb
  subst e
  exact⟨_,st,fun v z=>by
   have z':Data.fields _=Data.cell v:=z
   cases z'⟩
 keep:=fun i h h' st k=>k it (by simp) _ st
 item:=by
  intro X hP hw hK hc i pins s σ H E I hf st hg
  subst hP hw hK
  obtain⟨f0,f1,f2,f3,f4,f5⟩:=hf it (by simp)
  have W:=Walks.range (prog:=X.prog) (w:=X.w) (I.ok.hd hc) it lo 1 n
  refine W.item i s _ _ hg st fun v h' tk hv st' kk=>?_
  obtain⟨t,rfl⟩:=hv
  have I1:Inv X pins σ H { s with heap:=h',toks:=tk}:=I.turned (fun b o hb e=>kk b o (by simpa using hb) e) f0 f1 f3 f4 f5
  refine⟨_,rfl,b9a (s:={ s with heap:=h',toks:=tk}) (n:="range_iterator") st' rfl rfl (by decide) ⟨.int (lo+i),H,I1,⟨t,?_⟩,⟨rfl,rfl⟩,st',fun b hb=>(hf b hb).1⟩⟩
  rw[Int.mul_one]
 done:=by
  intro X hP hw hK hc i pins s σ H E I hf st hg
  subst hP hw hK
  obtain⟨f0,f1,f2,f3,f4,f5⟩:=hf it (by simp)
  exact wpAny_pyNext_range_end (I.ok.hd hc) st (by have:n<=i:=hg;omega) fun h' eb=>⟨rfl,I.turned (t':=s.toks) (fun b o hb e=>eb b o hb e) f0 f1 f3 f4 f5⟩
 self:=fun _ _ _ _ _ st h=>wpAny_pyIter_rangeiter st h
section
variable{X:Cx}{tg:Expr}
def iList(K:W.Frag)(tl:TE):TI:=fun σ H R=>tl σ H fun x H1=>∃a,x=.ref a/\(∃xs,SqL K H1 a xs)/\R (Itl K a) H1
theorem pi_list{l:Expr}{tl:TE}(hl:PE X l tl):PI X tg l (iList X.K tl):=by
 intro pins s σ H R I h
 refine thn (hl pins s σ H _ I h) fun v s1 ⟨x,H1,I1,r1,q1⟩=>?_
 obtain⟨a,e,⟨xs,hq⟩,q⟩:=q1
 subst e
 cases r1
 obtain⟨its,rv,p,hz⟩:=I1.list hq
 refine Ub p.isList ?_
 refine⟨s1.heap.objs.size,[s1.heap.objs.size],_,_,H1,rfl,I1.kept (t':=s1.toks) fun b o e=>Zf _ e,c1t a _,⟨_,Z4 _ rfl,rfl,rfl⟩,fun b hb=>?_,q⟩
 have e:b=s1.heap.objs.size:=by simpa using hb
 subst e
 exact I1.fpOk (Zb _) (I1.hok.fresh (Zb _))
theorem c3p{pins:List (Addr×Obj)}{σ:St}{H:Hp}{s:Shared}{R:It->Hp->Prop}{E:Value->Shared->Prop}{lo hi:Int}{t u v:Tok}{tk:Nat}(I:Inv X pins σ H s)(h1:-(2^62)<=lo)(h2:lo<2^62)(h3:-(2^62)<=hi)(h4:hi<2^62)
  (q:R (Itr lo (hi-lo).toNat) H):wpAny (model X.prog X.w) X.A (pyIter (.ref s.heap.objs.size)) (PIE X pins σ tg R) E { s with heap:=s.heap.push { cls:=.type "range",data:=.fields #[.int lo t,.int hi u,.int 1 v]},toks:=tk}:=by
 refine wpAny_pyIter_range (IsRange.new ..) (small_one h1 h2 h3 h4) ?_
 have I1:Inv X pins σ H { s with heap:=s.heap.push { cls:=.type "range",data:=.fields #[.int lo t,.int hi u,.int 1 v]},toks:=tk}:=I.kept fun b o e=>Zf _ e
 refine⟨(s.heap.push { cls:=.type "range",data:=.fields #[.int lo t,.int hi u,.int 1 v]}).objs.size,[(s.heap.push { cls:=.type "range",data:=.fields #[.int lo t,.int hi u,.int 1 v]}).objs.size],_,_,H,rfl,
  I1.kept (t':=tk) fun b o e=>Zf _ e,c8g _ lo (hi-lo).toNat,?_,fun b hb=>?_,q⟩
 ·have e1:lo+((0:Nat):Int)*1=lo:=by simp
  have e2:(((hi-lo).toNat:Nat):Int)-((0:Nat):Int)=Builtin.Range.rangeSize lo hi 1:=by rw[rangeSize_one];split<;>omega
  show IsRangeIter _ _ (lo+((0:Nat):Int)*1) ((((hi-lo).toNat:Nat):Int)-((0:Nat):Int)) 1
  rw[e1,e2]
  exact Z4 _ rfl
 ·have e:b=(s.heap.push { cls:=.type "range",data:=.fields #[.int lo t,.int hi u,.int 1 v]}).objs.size:=by simpa using hb
  subst e
  exact I1.fpOk (Zb _) (I1.hok.fresh (Zb _))
def iRng1(ta:TA):TI:=fun σ H R=>ta σ H fun vs H1=>∃j:Int,vs=[.int j]/\-(2^62)<=j/\j<2^62/\R (Itr 0 j.toNat) H1
def iRng2(ta:TA):TI:=fun σ H R=>ta σ H fun vs H1=>∃i j:Int,vs=[.int i,.int j]/\(-(2^62)<=i/\i<2^62/\-(2^62)<=j/\j<2^62)/\R (Itr i (j-i).toNat) H1
theorem b2i{a:Expr}{ta:TA}{p pos:Pos}(hg:Gl X "range")(hm:X.mg "range"=none)(ha:PA X [a] ta)(hs:starEach [a] X.env=[(false,eval a X.env)]:=by rfl):PI X tg (.Call (.Name "range" p) [a] [] pos) (iRng1 ta):=by
 intro pins s σ H R I h
 refine Call_ (b3m I hg hm boot_range (X8 (thn (ha pos pins s σ H _ I h) fun us s1 ⟨vs,H1,I1,r1,q1⟩=>?_) hs rfl))
 obtain⟨j,e,q1,q2,q⟩:=q1
 subst e
 cases r1 with
 |cons r rr=>
  cases rr
  obtain⟨t,rfl⟩:=r
  exact call_range_1 (c3p I1 (by omega) (by omega) q1 q2 (by simpa using q))
theorem c1u{a b:Expr}{ta:TA}{p pos:Pos}(hg:Gl X "range")(hm:X.mg "range"=none)(ha:PA X [a,b] ta)(hs:starEach [a,b] X.env=[(false,eval a X.env),(false,eval b X.env)]:=by rfl)(hs2:starEach [b] X.env=[(false,eval b X.env)]:=by rfl):
  PI X tg (.Call (.Name "range" p) [a,b] [] pos) (iRng2 ta):=by
 intro pins s σ H R I h
 refine Call_ (b3m I hg hm boot_range (X8 (thn (ha pos pins s σ H _ I h) fun us s1 ⟨vs,H1,I1,r1,q1⟩=>?_) (by rw[hs,hs2]) (by rw[hs2];rfl)))
 obtain⟨i,j,e,⟨q1,q2,q3,q4⟩,q⟩:=q1
 subst e
 cases r1 with
 |cons r rr=>
  cases rr with
  |cons r' rr=>
   cases rr
   obtain⟨t,rfl⟩:=r
   obtain⟨t',rfl⟩:=r'
   exact call_range_2 (c3p I1 q1 q2 q3 q4 q)
def tFor(wi:TI)(g:TG)(tb:TS):TS:=fun D σ H=>wi σ H fun J H1=>∃W:Nat->Nat->St->Hp->Prop,(∃m,W 0 m σ H1)/\∀i m σ H,W i m σ H->
 (J.stop i H/\D.nx σ H)\/(J.go i H/\∃N:St->Hp->Prop,(∀σ' H',N σ' H'->∃m',m'<m/\W (i+1) m' σ' H')/\∀x H',J.yld i H x H'->g x σ H' fun σ2 H2=>tb { D with nx:=N,ct:=N,bk:=D.nx} σ2 H2)
def b3o(fp:List Addr)(h:Heap):List (Addr×Obj):=fp.filterMap fun b=>(h.get? b).map fun o=>(b,o)
theorem b0j{fp:List Addr}{h:Heap}{b:Addr}{o:Obj}(hb:b∈fp)(e:h.get? b=some o):(b,o)∈b3o fp h:=T9.mpr ⟨b,hb,by rw[e];rfl⟩
theorem c9y{fp:List Addr}{h:Heap}{p:Addr×Obj}(hp:p∈b3o fp h):p.1∈fp/\h.get? p.1=some p.2:=by
 obtain⟨b,hb,e⟩:=T9.mp hp
 cases q:h.get? b with
 |none=>rw[q]at e;cases e
 |some o=>
  rw[q]at e
  have e':(b,o)=p:=Zo e
  subst e'
  exact⟨hb,q⟩
theorem Inv.pinned{pins:List (Addr×Obj)}{σ:St}{H:Hp}{s:Shared}{fp:List Addr}(I:Inv X pins σ H s)(hf:∀b∈fp,FpOk X pins H b)(ho:∀b∈fp,∃o,s.heap.get? b=some o/\∀v,o.data≠.cell v):Inv X (pins++b3o fp s.heap) σ H s:=
 I.pins_of fun p hp=>(Z1.mp hp).elim (fun z=>I.pin p (Yc _ z)) fun z=>by
  obtain⟨hb,e⟩:=c9y z
  obtain⟨f0,f1,f2,_⟩:=hf p.1 hb
  obtain⟨o,e',d⟩:=ho p.1 hb
  rw[e]at e';cases e'
  exact⟨e,f0,f1,f2,d⟩
theorem Inv.unpinned{pins pl:List (Addr×Obj)}{σ:St}{H:Hp}{s:Shared}(I:Inv X (pins++pl) σ H s):Inv X pins σ H s:=I.pins_of fun p hp=>I.pin p (Yc _ (Y1 _ hp))
theorem a8g{iter:Expr}{body:List Stmt}{wi:TI}{g:TG}{tb:TS}{pos:Pos}(hp:PassesOwn (model X.prog X.w) X.A X.env X.xe)(hc:X.calm=true)(hi:PI X tg iter wi)(hg:PG X tg g)(hb:PSs X body tb)
  (hs:∀x,foldedSetIterable iter X.env x=pure x:=by intro _;rfl):PS X (.For tg iter body [] pos) (tFor wi g tb):=by
 intro pins s σ H D I h
 refine wpAny_For (thn (hi pins s σ H _ I h) fun v s1 h1=>thn h1 fun itv s2 h2=>?_) hs
 obtain⟨it,fp,tn,J,H2,e,I2,T,st2,f2,W,⟨m0,w0⟩,turn⟩:=h2
 subst e
 have stat:∀{H':Hp},(∀b∈fp,H' b=none)->∀b∈fp,FpOk X pins H' b:=fun hn b hb=>⟨hn b hb,(f2 b hb).2⟩
 refine codeAny_forLoop_any (fun n s'=>∃i σ' H',Inv X pins σ' H' s'/\tn i s'.heap/\(∀b∈fp,H' b=none)/\W i n σ' H') ?_ m0 ⟨0,σ,H2,I2,st2,fun b hb=>(f2 b hb).1,w0⟩
 rintro n s3 ⟨i,σ3,H3,I3,st3,fr3,w3⟩
 rcases turn i n σ3 H3 w3 with⟨stop,qn⟩|⟨go,N,hN,step⟩
 ·refine X5 hp (thn (T.done X rfl rfl rfl hc i pins s3 σ3 H3 X.xe I3 (stat fr3) st3 stop) fun r s4 ⟨hr,I4⟩=>?_)
  subst hr
  exact Wi ⟨σ3,H3,I4,qn⟩
 ·refine X5 hp (thn (T.item X rfl rfl rfl hc i pins s3 σ3 H3 X.xe I3 (stat fr3) st3 go) fun r s4 ⟨u,hr,h4⟩=>?_)
  subst hr
  refine X5 hp (thn h4 fun _ s5 ⟨x,H5,I5,r5,y5,st5,fr5⟩=>?_)
  have I5':=I5.pinned (stat fr5) (T.obj _ _ st5)
  refine X5 hp (thn (hg _ s5 σ3 H5 x u _ I5' r5 (step x H5 y5)) fun _ s6 ⟨σ6,H6,I6,q6⟩=>?_)
  refine X5 hp (thn (hb _ s6 σ6 H6 _ I6 q6) fun f s7 q7=>?_)
  have again:∀{σ7:St}{H7:Hp},Inv X (pins++b3o fp s5.heap) σ7 H7 s7->N σ7 H7->∃m,m<n/\∃i σ' H',Inv X pins σ' H' s7/\tn i s7.heap/\(∀b∈fp,H' b=none)/\W i m σ' H':=fun{σ7 H7} I7 n7=>by
   obtain⟨m',hm,w7⟩:=hN σ7 H7 n7
   refine⟨m',hm,i+1,σ7,H7,I7.unpinned,T.keep _ _ _ st5 fun b hb o e=>(I7.pin (b,o) (Yc _ (Yc _ (b0j hb e)))).1,fun b hb=>?_,w7⟩
   obtain⟨o,e,d⟩:=T.obj _ _ st5 b hb
   exact(I7.pin (b,o) (Yc _ (Yc _ (b0j hb e)))).2.1
  cases f with
  |next=>obtain⟨σ7,H7,I7,n7⟩:=q7;exact again I7 n7
  |cont=>obtain⟨σ7,H7,I7,n7⟩:=q7;exact again I7 n7
  |brk=>obtain⟨σ7,H7,I7,q7⟩:=q7;exact⟨σ7,H7,I7.unpinned,q7⟩
  |ret v=>obtain⟨x7,σ7,H7,I7,r7,q7⟩:=q7;exact⟨x7,σ7,H7,I7.unpinned,r7,q7⟩
end
abbrev R2:=V->V->Hp->VK->Prop
def OpR(X:Cx)(f:Value->Value->Sem Value)(r:R2):Prop:=
 ∀(pins:List (Addr×Obj))(s:Shared)(σ:St)(H:Hp)(x y:V)(v u:Value)(Q:VK),Inv X pins σ H s->RelV x v->RelV y u->r x y H Q->
  wpAny (model X.prog X.w) X.A (f v u) (EP X pins σ Q) X.xe s
def UnR(X:Cx)(f:Value->Sem Value)(r:V->Hp->VK->Prop):Prop:=
 ∀(pins:List (Addr×Obj))(s:Shared)(σ:St)(H:Hp)(x:V)(v:Value)(Q:VK),Inv X pins σ H s->RelV x v->r x H Q->
  wpAny (model X.prog X.w) X.A (f v) (EP X pins σ Q) X.xe s
def a5c(X:Cx)(f:Value)(r:List V->Hp->VK->Prop):Prop:=
 ∀(pins:List (Addr×Obj))(s:Shared)(σ:St)(H:Hp)(xs:List V)(us:List Value)(Q:VK),Inv X pins σ H s->Vals xs us->r xs H Q->
  wpAny (model X.prog X.w) X.A (call f us) (EP X pins σ Q) X.xe s
def TruR(X:Cx)(r:V->Hp->(Bool->Hp->Prop)->Prop):Prop:=
 ∀(pins:List (Addr×Obj))(s:Shared)(σ:St)(H:Hp)(x:V)(v:Value)(Q:Bool->Hp->Prop),Inv X pins σ H s->RelV x v->r x H Q->
  wpAny (model X.prog X.w) X.A (truthy v) (TP X pins σ Q) X.xe s
def tOp(r:R2)(ta tb:TE):TE:=fun σ H Q=>ta σ H fun x H1=>tb σ H1 fun y H2=>r x y H2 Q
def tUn(r:V->Hp->VK->Prop)(ta:TE):TE:=fun σ H Q=>ta σ H fun x H1=>r x H1 Q
def rI(C:Int->Int->Prop)(g:Int->Int->V):R2:=fun x y H Q=>∃i j,x=.int i/\y=.int j/\C i j/\Q (g i j) H
def rI0(g:Int->Int->V):R2:=fun x y H Q=>∃i j,x=.int i/\y=.int j/\Q (g i j) H
def rU(g:Int->V):V->Hp->VK->Prop:=fun x H Q=>∃i,x=.int i/\Q (g i) H
section
variable{X:Cx}{a b c:Expr}{ta tb tc:TE}{pos:Pos}
theorem binT(ha:PE X a ta)(hb:PE X b tb){pins:List (Addr×Obj)}{s:Shared}{σ:St}{H:Hp}{R:V->V->Hp->Prop}(I:Inv X pins σ H s)
  (h:ta σ H fun x H1=>tb σ H1 fun y H2=>R x y H2){Q:Value->Shared->Prop}{f:Value->Value->Sem Value}
  (hf:∀v u s2 x y H2,Inv X pins σ H2 s2->RelV x v->RelV y u->R x y H2->wpAny (model X.prog X.w) X.A (f v u) Q X.xe s2):
  wpAny (model X.prog X.w) X.A (eval a X.env) (fun v s₁=>wpAny (model X.prog X.w) X.A (eval b X.env) (fun u s₂=>wpAny (model X.prog X.w) X.A (f v u) Q X.xe s₂) X.xe s₁) X.xe s:=by
 refine thn (ha pins s σ H _ I h) fun v s1 ⟨x,H1,I1,r1,q1⟩=>?_
 refine thn (hb pins s1 σ H1 _ I1 q1) fun u s2 ⟨y,H2,I2,r2,q2⟩=>?_
 exact hf v u s2 x y H2 I2 r1 r2 q2
theorem a0n{op:Operator}{r:R2}(ho:OpR X (binaryOp op) r)(ha:PE X a ta)(hb:PE X b tb):PE X (.BinOp a op b pos) (tOp r ta tb):=by
 intro pins s σ H Q I h
 exact wpAny_BinOp (binT ha hb I h fun v u s2 x y H2 I2 rx ry q=>ho pins s2 σ H2 x y v u Q I2 rx ry q)
theorem a6b{op:UnaryOp}{r:V->Hp->VK->Prop}(ho:UnR X (unaryOp op) r)(ha:PE X a ta):PE X (.UnaryOp op a pos) (tUn r ta):=by
 intro pins s σ H Q I h
 exact UnaryOp_ (thn (ha pins s σ H _ I h) fun v s1 ⟨x,H1,I1,r1,q1⟩=>ho pins s1 σ H1 x v Q I1 r1 q1)
theorem opI{f:Value->Value->Sem Value}{C:Int->Int->Prop}{g:Int->Int->Int}
  (rule:∀(i j:Int)(t u:Tok)(s:Shared)(Q:Value->Shared->Prop)(E:Value->Shared->Prop),C i j->Q (.int (g i j) s.toks) { s with toks:=s.toks+1}->wpAny (model X.prog X.w) X.A (f (.int i t) (.int j u)) Q E s):
  OpR X f (rI C fun i j=>.int (g i j)):=by
 intro pins s σ H x y v u Q I rx ry h
 obtain⟨i,j,rfl,rfl,hc,q⟩:=h
 obtain⟨t,rfl⟩:=rx
 obtain⟨t',rfl⟩:=ry
 exact rule i j t t' s _ _ hc ⟨.int (g i j),H,I.tok _,⟨_,rfl⟩,q⟩
theorem opI0{f:Value->Value->Sem Value}{g:Int->Int->Int}
  (rule:∀(i j:Int)(t u:Tok)(s:Shared)(Q:Value->Shared->Prop)(E:Value->Shared->Prop),Q (.int (g i j) s.toks) { s with toks:=s.toks+1}->wpAny (model X.prog X.w) X.A (f (.int i t) (.int j u)) Q E s):
  OpR X f (rI0 fun i j=>.int (g i j)):=by
 intro pins s σ H x y v u Q I rx ry h
 obtain⟨i,j,rfl,rfl,q⟩:=h
 obtain⟨t,rfl⟩:=rx
 obtain⟨t',rfl⟩:=ry
 exact rule i j t t' s _ _ ⟨.int (g i j),H,I.tok _,⟨_,rfl⟩,q⟩
theorem opB0{f:Value->Value->Sem Value}{g:Int->Int->Bool}
  (rule:∀(i j:Int)(t u:Tok)(s:Shared)(Q:Value->Shared->Prop)(E:Value->Shared->Prop),Q (.bool (g i j)) s->wpAny (model X.prog X.w) X.A (f (.int i t) (.int j u)) Q E s):
  OpR X f (rI0 fun i j=>.bl (g i j)):=by
 intro pins s σ H x y v u Q I rx ry h
 obtain⟨i,j,rfl,rfl,q⟩:=h
 obtain⟨t,rfl⟩:=rx
 obtain⟨t',rfl⟩:=ry
 exact rule i j t t' s _ _ ⟨.bl (g i j),H,I,rfl,q⟩
def CDiv(i j:Int):Prop:=0<j/\j<1073741824
def CPow(i j:Int):Prop:=0<=j/\j<=1000000/\i.natAbs<2^64
def CMul(i j:Int):Prop:=(-(2^64)<i/\i<2^64)\/(-(2^64)<j/\j<2^64)
theorem CMul.ok{i j:Int}(h:CMul i j):IntMulOk i j:=by
 rcases h with⟨h1,h2⟩|⟨h1,h2⟩
 ·exact .of_left (intBits_le_64 h1 h2)
 ·exact .of_right (intBits_le_64 h1 h2)
theorem op_add:OpR X (binaryOp .Add) (rI0 fun i j=>.int (i+j)):=opI0 fun _ _ _ _ _ _ _ q=>add_int q
theorem op_sub:OpR X (binaryOp .Sub) (rI0 fun i j=>.int (i-j)):=opI0 fun _ _ _ _ _ _ _ q=>sub_int q
theorem op_fdiv:OpR X (binaryOp .FloorDiv) (rI CDiv fun i j=>.int (i/j)):=opI fun i j _ _ _ _ _ hc q=>by
 have h1:(0:Int)<j:=hc.1
 have h2:j<1073741824:=hc.2
 exact floordiv_int (by omega) (by rw[Int.fdiv_eq_ediv_of_nonneg i (by omega)];exact q) (.inl (PyProof.noPylong_small (by omega)))
theorem op_mod:OpR X (binaryOp .Mod) (rI (fun _ j=>0<j) fun i j=>.int (i%j)):=opI fun i j _ _ _ _ _ hc q=>by
 have h1:(0:Int)<j:=hc
 exact mod_int' (by omega) (by rw[Int.fmod_eq_emod_of_nonneg i (by omega)];exact q)
theorem op_pow:OpR X (binaryOp .Pow) (rI CPow fun i j=>.int (i^j.toNat)):=opI fun _ _ _ _ _ _ _ hc q=>pow_int_small hc.1 hc.2.1 hc.2.2 q
theorem iop_add:OpR X (inplaceOp .Add) (rI0 fun i j=>.int (i+j)):=opI0 fun _ _ _ _ _ _ _ q=>iadd_int q
theorem unI{f:Value->Sem Value}{g:Int->Int}
  (rule:∀(i:Int)(t:Tok)(s:Shared)(Q:Value->Shared->Prop)(E:Value->Shared->Prop),Q (.int (g i) s.toks) { s with toks:=s.toks+1}->wpAny (model X.prog X.w) X.A (f (.int i t)) Q E s):
  UnR X f (rU fun i=>.int (g i)):=by
 intro pins s σ H x v Q I rx h
 obtain⟨i,rfl,q⟩:=h
 obtain⟨t,rfl⟩:=rx
 exact rule i t s _ _ ⟨.int (g i),H,I.tok _,⟨_,rfl⟩,q⟩
theorem un_neg:UnR X (unaryOp .USub) (rU fun i=>.int (-i)):=unI fun _ _ _ _ _ q=>neg_int q
end
def scal:V->V->Bool
 | .non,.non=>true| .non,.int _=>true| .int _,.non=>true| .non,.bl _=>true| .bl _,.non=>true| .non,.str _=>true| .str _,.non=>true
 | .int _,.int _=>true| .bl _,.bl _=>true| .str _,.str _=>true| .byt _,.byt _=>true
 | .int _,.str _=>true| .str _,.int _=>true| .bl _,.str _=>true| .str _,.bl _=>true
 |_,_=>false
def rEq:R2:=fun x y H Q=>scal x y=true/\Q (.bl (decide (x=y))) H
def rNe:R2:=fun x y H Q=>scal x y=true/\Q (.bl (!decide (x=y))) H
theorem c6w{i j:Int}:decide (V.int i=V.int j)=(i==j):=by
 rw[Xe]
 simp
theorem c9z{i j:Bool}:decide (V.bl i=V.bl j)=(i==j):=by
 rw[Xe]
 simp
theorem c6x{i j:Str}:decide (V.str i=V.str j)=(i==j):=by
 rw[Xe]
 simp
theorem c6y{i j:Array UInt8}:decide (V.byt i=V.byt j)=(i.toList==j.toList):=by
 rw[Xe]
 cases i
 cases j
 simp
section
variable{X:Cx}{a b c:Expr}{ta tb tc:TE}{pos:Pos}
theorem a1q{pins:List (Addr×Obj)}{σ:St}{H:Hp}{s:Shared}{Q:VK}{k k':Bool}(I:Inv X pins σ H s)(q:Q (.bl k) H)(e:k=k'):EP X pins σ Q (.bool k') s:=by
 subst e
 exact⟨.bl k,H,I,rfl,q⟩
theorem op_eq:OpR X (compareOp .Eq) rEq:=by
 intro pins s σ H x y v u Q I rx ry h
 obtain⟨hs,q⟩:=h
 cases x with
 |non=>
  cases rx
  cases y with
  |non=>cases ry;exact PySem.EqNone.eq_none_none (a1q I q (by simp))
  |bl j=>cases ry;exact PySem.EqNone.eq_none_bool (a1q I q (by simp))
  |int j=>obtain⟨t',rfl⟩:=ry;exact PySem.EqNone.eq_none_int (a1q I q (by simp))
  |str j=>obtain⟨t',rfl⟩:=ry;exact PySem.EqNone.eq_none_str (a1q I q (by simp))
  |_=>exact absurd (show false=true from hs) Zr
 |bl i=>
  cases rx
  cases y with
  |non=>cases ry;exact PySem.EqNone.eq_bool_none (a1q I q (by simp))
  |bl j=>cases ry;exact eq_bool (a1q I q c9z)
  |str j=>obtain⟨t',rfl⟩:=ry;exact PySem.EqMixed.eq_bool_str (a1q I q (by simp))
  |_=>exact absurd (show false=true from hs) Zr
 |int i=>
  obtain⟨t,rfl⟩:=rx
  cases y with
  |non=>cases ry;exact PySem.EqNone.eq_int_none (a1q I q (by simp))
  |int j=>obtain⟨t',rfl⟩:=ry;exact eq_int (a1q I q c6w)
  |str j=>obtain⟨t',rfl⟩:=ry;exact PySem.EqMixed.eq_int_str (a1q I q (by simp))
  |_=>exact absurd (show false=true from hs) Zr
 |str i=>
  obtain⟨t,rfl⟩:=rx
  cases y with
  |non=>cases ry;exact PySem.EqNone.eq_str_none (a1q I q (by simp))
  |bl j=>cases ry;exact PySem.EqMixed.eq_str_bool (a1q I q (by simp))
  |int j=>obtain⟨t',rfl⟩:=ry;exact PySem.EqMixed.eq_str_int (a1q I q (by simp))
  |str j=>obtain⟨t',rfl⟩:=ry;exact eq_str (a1q I q c6x)
  |_=>exact absurd (show false=true from hs) Zr
 |byt i=>
  obtain⟨t,rfl⟩:=rx
  cases y with
  |byt j=>obtain⟨t',rfl⟩:=ry;exact W.eq_bytes (a1q I q c6y)
  |_=>exact absurd (show false=true from hs) Zr
 |_=>cases y<;>exact absurd (show false=true from hs) Zr
theorem op_ne:OpR X (compareOp .NotEq) rNe:=by
 intro pins s σ H x y v u Q I rx ry h
 obtain⟨hs,q⟩:=h
 cases x with
 |non=>
  cases rx
  cases y with
  |non=>cases ry;exact PySem.EqNone.ne_none_none (a1q I q (by simp))
  |bl j=>cases ry;exact PySem.EqNone.ne_none_bool (a1q I q (by simp))
  |int j=>obtain⟨t',rfl⟩:=ry;exact PySem.EqNone.ne_none_int (a1q I q (by simp))
  |str j=>obtain⟨t',rfl⟩:=ry;exact PySem.EqNone.ne_none_str (a1q I q (by simp))
  |_=>exact absurd (show false=true from hs) Zr
 |bl i=>
  cases rx
  cases y with
  |non=>cases ry;exact PySem.EqNone.ne_bool_none (a1q I q (by simp))
  |bl j=>cases ry;exact ne_bool (a1q I q (Z9 not c9z))
  |str j=>obtain⟨t',rfl⟩:=ry;exact PySem.EqMixed.ne_bool_str (a1q I q (by simp))
  |_=>exact absurd (show false=true from hs) Zr
 |int i=>
  obtain⟨t,rfl⟩:=rx
  cases y with
  |non=>cases ry;exact PySem.EqNone.ne_int_none (a1q I q (by simp))
  |int j=>obtain⟨t',rfl⟩:=ry;exact ne_int (a1q I q (Z9 not c6w))
  |str j=>obtain⟨t',rfl⟩:=ry;exact PySem.EqMixed.ne_int_str (a1q I q (by simp))
  |_=>exact absurd (show false=true from hs) Zr
 |str i=>
  obtain⟨t,rfl⟩:=rx
  cases y with
  |non=>cases ry;exact PySem.EqNone.ne_str_none (a1q I q (by simp))
  |bl j=>cases ry;exact PySem.EqMixed.ne_str_bool (a1q I q (by simp))
  |int j=>obtain⟨t',rfl⟩:=ry;exact PySem.EqMixed.ne_str_int (a1q I q (by simp))
  |str j=>obtain⟨t',rfl⟩:=ry;exact ne_str (a1q I q (Z9 not c6x))
  |_=>exact absurd (show false=true from hs) Zr
 |byt i=>
  obtain⟨t,rfl⟩:=rx
  cases y with
  |byt j=>obtain⟨t',rfl⟩:=ry;exact W.ne_bytes (a1q I q (Z9 not c6y))
  |_=>exact absurd (show false=true from hs) Zr
 |_=>cases y<;>exact absurd (show false=true from hs) Zr
theorem op_lt:OpR X (compareOp .Lt) (rI0 fun i j=>.bl (decide (i<j))):=opB0 fun _ _ _ _ _ _ _ q=>lt_int q
theorem op_le:OpR X (compareOp .LtE) (rI0 fun i j=>.bl (decide (i<=j))):=opB0 fun _ _ _ _ _ _ _ q=>le_int q
theorem op_gt:OpR X (compareOp .Gt) (rI0 fun i j=>.bl (decide (j<i))):=opB0 fun _ _ _ _ _ _ _ q=>gt_int q
theorem op_ge:OpR X (compareOp .GtE) (rI0 fun i j=>.bl (decide (j<=i))):=opB0 fun _ _ _ _ _ _ _ q=>ge_int q
theorem d0a:OpR X (compareOp .In) (fun x y H Q=>∃i j,x=.str i/\y=.str j/\Q (.bl (!(Builtin.Str.occurrences j i 0 j.length 1).isEmpty)) H):=by
 intro pins s σ H x y v u Q I rx ry h
 obtain⟨i,j,rfl,rfl,q⟩:=h
 obtain⟨t,rfl⟩:=rx
 obtain⟨t',rfl⟩:=ry
 exact in_str (a1q I q rfl)
theorem OpR.or{f:Value->Value->Sem Value}{r r':R2}(h:OpR X f r)(h':OpR X f r'):OpR X f (fun x y H Q=>r x y H Q\/r' x y H Q):=by
 intro pins s σ H x y v u Q I rx ry q
 rcases q with q|q
 ·exact h pins s σ H x y v u Q I rx ry q
 ·exact h' pins s σ H x y v u Q I rx ry q
theorem a0t(b:Expr){op:CmpOp}(h:op≠.In:=by decide)(h2:op≠.NotIn:=by decide):behindInMarks op b=false:=by
 have e1:(op==CmpOp.In)=false:=by cases op<;>first|rfl|exact absurd rfl h
 have e2:(op==CmpOp.NotIn)=false:=by cases op<;>first|rfl|exact absurd rfl h2
 cases b<;>simp[behindInMarks,e1,e2]
theorem a3s{op:CmpOp}{r:R2}(ho:OpR X (compareOp op) r)(ha:PE X a ta)(hb:PE X b tb)(hm:behindInMarks op b=false):PE X (.Compare a [op] [b] pos) (tOp r ta tb):=by
 intro pins s σ H Q I h
 exact wpAny_Compare1 (binT ha hb I h fun v u s2 x y H2 I2 rx ry q=>ho pins s2 σ H2 x y v u Q I2 rx ry q) hm
def tTest(t:TE):TT:=fun σ H Q=>t σ H fun x H'=>∃k,x=.bl k/\Q k H'
theorem pt_cmpR{op:CmpOp}{r:R2}(ho:OpR X (compareOp op) r)(ha:PE X a ta)(hb:PE X b tb)(hm:behindInMarks op b=false):PT X (.Compare a [op] [b] pos) (tTest (tOp r ta tb)):=by
 intro pins s σ H Q I h
 refine wpAny_isTrue_Compare1 (thn (ha pins s σ H _ I h) fun v s1 ⟨x,H1,I1,r1,q1⟩=>thn (hb pins s1 σ H1 _ I1 q1) fun u s2 ⟨y,H2,I2,r2,q2⟩=>
  thn (ho pins s2 σ H2 x y v u _ I2 r1 r2 q2) fun c s3 ⟨z,H3,I3,r3,k,e,q3⟩=>?_) hm
 subst e
 cases r3
 exact Xj ⟨H3,I3,q3⟩
def c3q(r r':R2)(ta tb tc:TE):TE:=fun σ H Q=>ta σ H fun x H1=>tb σ H1 fun y H2=>r x y H2 fun z H3=>∃k,z=.bl k/\
 (if k=true then tc σ H3 fun w' H4=>r' y w' H4 Q else Q (.bl false) H3)
theorem d3q{op op':CmpOp}{r r':R2}(ho:OpR X (compareOp op) r)(ho':OpR X (compareOp op') r')(ha:PE X a ta)(hb:PE X b tb)(hc:PE X c tc)
  (hm:lastMarks [op,op'] [b,c]=false:=by with_unfolding_all rfl):PT X (.Compare a [op,op'] [b,c] pos) (tTest (c3q r r' ta tb tc)):=by
 intro pins s σ H Q I h
 refine isTrue_chain (thn (ha pins s σ H _ I h) fun v s1 ⟨x,H1,I1,r1,q1⟩=>test_link (thn (hb pins s1 σ H1 _ I1 q1) fun u s2 ⟨y,H2,I2,r2,q2⟩=>
  thn (ho pins s2 σ H2 x y v u _ I2 r1 r2 q2) fun d s3 ⟨z,H3,I3,r3,k,e,q3⟩=>?_)) hm
 subst e
 cases r3
 refine Xj ?_
 cases k with
 |false=>
  obtain⟨k',e',q'⟩:=q3
  cases e'
  exact ite_ff ⟨H3,I3,q'⟩
 |true=>
  refine ite_tt (test_last (thn (hc pins s3 σ H3 _ I3 q3) fun w' s4 ⟨z',H4,I4,r4,q4⟩=>thn (ho' pins s4 σ H4 y z' u w' _ I4 r2 r4 q4) fun d' s5 ⟨z2,H5,I5,r5,k2,e2,q5⟩=>?_))
  subst e2
  cases r5
  exact Xj ⟨H5,I5,q5⟩
def TruV(K:W.Frag)(x:V)(H:Hp)(k:Bool):Prop:=
 match x with
 | .non=>k=false
 | .bl b=>k=b
 | .int i=>k=(i !=0)
 | .str y=>y.length<=sizeLine/\k=((y.length:Int) !=0)
 | .byt y=>y.size<=sizeLine/\k=((y.size:Int) !=0)
 | .ref p=>(∃xs,SqL K H p xs/\k= !xs.isEmpty)\/(∃xs,SqT K H p xs/\k= !xs.isEmpty)\/∃kvs,H p=some (.dK kvs)/\k= !kvs.isEmpty
 |_=>False
theorem c8h{κ:Type}{kvs:List (κ×V)}{vs:List (κ×Value)}(r:KV kvs vs):(!vs.isEmpty)= !kvs.isEmpty:=by
 cases r<;>rfl
theorem b9b{xs:List V}{its:List Value}(r:Vals xs its):(!its.toArray.isEmpty)= !xs.isEmpty:=by
 cases r<;>simp
theorem b5l:(sizeLine:Nat)<2^63:=by rw[Xk];decide
theorem tru_ok:TruR X (fun x H Q=>∃k,TruV X.K x H k/\Q k H):=by
 intro pins s σ H x v Q I rx h
 obtain⟨k,e,q⟩:=h
 have hl:=b5l
 have hs:sizeLine=16777216:=Xk
 cases x with
 |non=>
  cases rx
  have e':k=false:=e
  subst e'
  exact truthy_none ⟨H,I,q⟩
 |bl b=>
  cases rx
  have e':k=b:=e
  subst e'
  exact Xj ⟨H,I,q⟩
 |int i=>
  obtain⟨t,rfl⟩:=rx
  have e':k=(i !=0):=e
  subst e'
  exact PySem.P.truthy_int ⟨H,I,q⟩
 |str y=>
  obtain⟨t,rfl⟩:=rx
  obtain⟨hy,e'⟩:y.length<=sizeLine/\k=((y.length:Int) !=0):=e
  subst e'
  exact PySem.P.truthy_str (by omega) ⟨H,I.tok _,q⟩
 |byt y=>
  obtain⟨t,rfl⟩:=rx
  obtain⟨hy,e'⟩:y.size<=sizeLine/\k=((y.size:Int) !=0):=e
  subst e'
  exact W.truthy_bytes (by omega) ⟨H,I.tok _,q⟩
 |ref p=>
  cases rx
  have e':(∃xs,SqL X.K H p xs/\k= !xs.isEmpty)\/(∃xs,SqT X.K H p xs/\k= !xs.isEmpty)\/∃kvs,H p=some (.dK kvs)/\k= !kvs.isEmpty:=e
  rcases e' with⟨xs,hx,e'⟩|⟨xs,hx,e'⟩|⟨kvs,hx,e'⟩
  ·subst e'
   obtain⟨its,r,pl,hz⟩:=I.list hx
   have hlen:=r.length
   exact wpAny_truthy_list pl.isList (by simp only[Zh];omega) ⟨H,I.tok _,by rw[b9b r];exact q⟩
  ·subst e'
   obtain⟨its,r,pl,hz⟩:=I.tuple hx
   have hlen:=r.length
   exact truthy_tuple pl (by simp only[Zh];omega) ⟨H,I.tok _,by rw[b9b r];exact q⟩
  ·subst e'
   obtain⟨hz,hS,vs,r,m⟩:kvs.length<=sizeLine/\(p==sysModules)=false/\∃vs,KV kvs vs/\s.heap.DictOf (a1l X.prog X.w) p vs:=I.hok p _ hx
   have hlen:kvs.length=vs.length:=V6 r
   exact wpAny_truthy_dict hS m (by omega) ⟨H,I.tok _,by rw[c8h r];exact q⟩
 |_=>exact(show False from e).elim
theorem c8i:OpR X (binaryOp .Add) (fun x y H Q=>∃i j,x=.str i/\y=.str j/\i.length+j.length<=sizeLine/\Q (.str (i++j)) H):=by
 intro pins s σ H x y v u Q I rx ry h
 obtain⟨i,j,rfl,rfl,hz,q⟩:=h
 obtain⟨t,rfl⟩:=rx
 obtain⟨t',rfl⟩:=ry
 exact add_str (fun t' tk=>⟨.str (i++j),H,I.tok _,⟨_,rfl⟩,q⟩) hz
theorem c6e:OpR X (inplaceOp .Add) (fun x y H Q=>∃i j,x=.str i/\y=.str j/\i.length+j.length<=sizeLine/\Q (.str (i++j)) H):=by
 intro pins s σ H x y v u Q I rx ry h
 obtain⟨i,j,rfl,rfl,hz,q⟩:=h
 obtain⟨t,rfl⟩:=rx
 obtain⟨t',rfl⟩:=ry
 exact iadd_str (fun t' tk=>⟨.str (i++j),H,I.tok _,⟨_,rfl⟩,q⟩) hz
theorem vals1{x:V}{us:List Value}(r:Vals [x] us):∃u,us=[u]/\RelV x u:=by
 cases r with
 |cons r1 r2=>cases r2;exact⟨_,rfl,r1⟩
theorem vals2{x y:V}{us:List Value}(r:Vals [x,y] us):∃u w',us=[u,w']/\RelV x u/\RelV y w':=by
 cases r with
 |cons r1 r2=>
  cases r2 with
  |cons r3 r4=>cases r4;exact⟨_,_,rfl,r1,r3⟩
theorem d0b(hc:X.calm=true):a5c X (.builtin "min") (fun xs H Q=>∃i j,xs=[.int i,.int j]/\Q (.int (if j<i then j else i)) H):=by
 intro pins s σ H xs us Q I r h
 obtain⟨i,j,rfl,q⟩:=h
 obtain⟨u,w',rfl,⟨t,rfl⟩,⟨t',rfl⟩⟩:=vals2 r
 refine min_two_ints (I.ok.hd hc) fun h' tk k=>⟨_,H,I.kept k,?_,q⟩
 by_cases hj:j<i
 ·rw[if_pos hj,if_pos hj];exact⟨_,rfl⟩
 ·rw[if_neg hj,if_neg hj];exact⟨_,rfl⟩
theorem c3r:a5c X (.type "str") (fun xs H Q=>∃i,xs=[.int i]/\i.natAbs.log2<1920/\Q (.str (toString i)) H):=by
 intro pins s σ H xs us Q I r h
 obtain⟨i,rfl,hz,q⟩:=h
 obtain⟨u,rfl,t,rfl⟩:=vals1 r
 exact PySem.P.str_of_int hz ⟨.str _,H,I.tok _,⟨_,rfl⟩,q⟩
def LenV(K:W.Frag)(x:V)(H:Hp)(n:Nat):Prop:=
 match x with
 | .str y=>y.length<=sizeLine/\n=y.length
 | .byt y=>y.size<=sizeLine/\n=y.size
 | .ref p=>(∃xs,SqL K H p xs/\n=xs.length)\/∃xs,SqT K H p xs/\n=xs.length
 |_=>False
theorem d3r:a5c X (.builtin "len") (fun xs H Q=>∃x n,xs=[x]/\LenV X.K x H n/\Q (.int n) H):=by
 intro pins s σ H xs us Q I r h
 obtain⟨x,n,rfl,e,q⟩:=h
 obtain⟨u,rfl,rx⟩:=vals1 r
 have hl:=b5l
 have hs:sizeLine=16777216:=Xk
 cases x with
 |str y=>
  obtain⟨t,rfl⟩:=rx
  obtain⟨hy,e'⟩:y.length<=sizeLine/\n=y.length:=e
  subst e'
  exact len_str (by omega) ⟨.int _,H,I.tok _,⟨_,rfl⟩,q⟩
 |byt y=>
  obtain⟨t,rfl⟩:=rx
  obtain⟨hy,e'⟩:y.size<=sizeLine/\n=y.size:=e
  subst e'
  exact W.len_bytes (by omega) ⟨.int _,H,I.tok _,⟨_,rfl⟩,q⟩
 |ref p=>
  cases rx
  have e':(∃xs,SqL X.K H p xs/\n=xs.length)\/∃xs,SqT X.K H p xs/\n=xs.length:=e
  rcases e' with⟨xs,hx,e'⟩|⟨xs,hx,e'⟩
  ·subst e'
   obtain⟨its,r',pl,hz⟩:=I.list hx
   have hlen:=r'.length
   exact Calls.call_len_list pl.isList (by simp only[Zh];omega) ⟨.int xs.length,H,I.tok _,⟨_,by simp only[Zh];rw[hlen]⟩,q⟩
  ·subst e'
   obtain⟨its,r',pl,hz⟩:=I.tuple hx
   have hlen:=r'.length
   exact len_tuple pl (by simp only[Zh];omega) ⟨.int xs.length,H,I.tok _,⟨_,by simp only[Zh];rw[hlen]⟩,q⟩
 |_=>exact(show False from e).elim
end
structure ObjM(h:Heap)(x dx C:Addr)(mA:Str->Option Value):Prop where
 obj:h.get? x=some (W.instObj C dx)
 ns:h.Ns1 dx mA
 ne:dx≠x
theorem d0c{h:Heap}{dx:Addr}{mA:Str->Option Value}(n:h.Ns1 dx mA):∃od,h.get? dx=some od/\∀name,W.lookIn name od=some (mA name):=by
 obtain⟨o,es,ep,ho,hd,hk,_,hm⟩:=n
 refine⟨o,ho,fun name=>?_⟩
 have e:=hm name
 unfold nsFind findBy at e
 rw[<-Array.find?_toList]at e
 unfold W.lookIn
 rw[hd]
 dsimp only
 split
 ·rename_i y q
  rw[q]at e
  exact Z9 some e
 ·rename_i q
  rw[q]at e
  have a:es.toList.any (·.refKey)=false:=by
   rw[List.any_eq_false]
   intro y hy
   obtain⟨z,t,hkey⟩:=hk y (Array.mem_toList_iff.mp hy)
   simp[DictEntry.refKey,hkey]
  have a':¬es.toList.any (·.refKey)=true:=by rw[a];exact Zr
  rw[if_neg a']
  exact Z9 some e
theorem ObjM.look{h:Heap}{x dx C:Addr}{mA:Str->Option Value}(I:ObjM h x dx C mA):∃od,W.InstAt h x (W.instObj C dx) C (some od)/\∀name,W.lookIn name od=some (mA name):=
 let⟨od,ho,hl⟩:=d0c I.ns
 ⟨od,⟨I.obj,rfl,rfl,ho⟩,hl⟩
section
variable{prog:Program}{w:World}{A:Around}{E:Value->Shared->Prop}{s:Shared}{K:W.Frag}{x dx C f:Addr}{mA:Str->Option Value}{name:Str}{v:Value}
theorem get_map{expr:Bool}{Q:Value->Shared->Prop}(X:K.In s.heap)(I:ObjM s.heap x dx C mA)(hg:W.plainGet K C name=true)(hh:W.hasDictIn K C=true)
  (ha:W.findIn K (.ref C) name=some none)(hv:mA name=some v)(hv':W.handedIn v=true)(h:Q v { s with toks:=s.toks+1}):
  wpAny (model prog w) A (getAttr (.ref x) name expr) Q E s:=by
 obtain⟨od,J,hl⟩:=I.look
 exact W.get_value X J (U1 hg).1 (W.findObj_own hh ha rfl (by rw[hl,hv])) hv' h
theorem d3s{pl:Sem Bool}{Q:Value×List Value->Shared->Prop}(X:K.In s.heap)(I:ObjM s.heap x dx C mA)(hg:W.plainGet K C name=true)
  (hf:W.findIn K (.ref C) name=some (some (.ref f)))(ht:W.isFn K (.ref f)=true)(hv:mA name=none)(h:Q (.ref f,[.ref x]) s):
  wpAny (model prog w) A (getMethod (.ref x) name pl) Q E s:=by
 obtain⟨od,J,hl⟩:=I.look
 exact W.method_fn X J (U1 hg).1 (U1 hg).2 hf (Vn.mp ht) (by show(W.lookIn name od).map (·.isSome)=some false;rw[hl,hv];rfl) h
theorem set_map{ns:List Str}{Q:Unit->Shared->Prop}(X:K.In s.heap)(I:ObjM s.heap x dx C mA)
  (hs:W.findIn K (.ref C) "__setattr__"=some (some (.builtin "object.__setattr__")))(hp:W.plainOver K C=true)(ht:W.takerIn K C name=some none)(hh:W.hasDictIn K C=true)
  (hw:PySem.Within mA ns)(hsz:ns.length<=sizeLine)
  (h:∀h',ObjM h' x dx C (fun y=>if y=name then some v else mA y)->Heap.SameBut dx s.heap h'->Q () { s with heap:=h',toks:=s.toks+2}):
  wpAny (model prog w) A (setAttr (.ref x) name v) Q E s:=by
 obtain⟨od,J,hl⟩:=I.look
 refine W.set_plain X J hs (W.osa_open (s:={ s with toks:=s.toks+1}) (r:=none) X J hp ht fun b=>?_)
 obtain⟨cd,hc,hd'⟩:=W.any_some hh
 have hx:s.heap.get? x=some ⟨.ref C,some dx,.plain,#[]⟩:=I.obj
 refine Zs (Yp (Zs (Zs (wpAny_loadPart hx (Zs (W.Looks.here (s:={ s with toks:=s.toks+1}) (W.looks_clsIn X hc) ?_))))))
 rw[hd']
 refine Yp (a:=some dx) (Zs (Yp (Zs ?_)))
 refine U4 (s:={ s with toks:=s.toks+1}) I.ns fun h' hn2 hs2=>?_
 obtain⟨oD,esD,epD,hoD,hdD,hcD⟩:=hn2.count (Ud name v hw)
 refine Zs (Uh hoD (by rw[hdD];exact Uj (Ym hcD (by rw[length_cons];omega))) ?_)
 exact Yp (h _ ⟨(hs2.2 _ (Ne.symm I.ne)).trans I.obj,hn2,I.ne⟩ hs2)
theorem d3t{R:Result->Shared->Prop}{vs:List Value}{kw:List (Str×Value)}(X:K.In s.heap)(hm:W.makesIn K C=true)
  (hi:W.findIn K (.ref C) "__init__"=some (some (.ref f)))(hf:W.typeIn K (.ref f)=some (.type "function"))
  (h:codeAny (model prog w) (A.under (.builtin "type.__call__" ⟨.ref C::vs,kw⟩)) (.call (.ref f) ⟨.ref (s.heap.objs.size+1)::vs,kw⟩) (W.InitBack (s.heap.objs.size+1) R)
   { s with heap:=(s.heap.push W.emptyDict).push (W.instObj C s.heap.objs.size)}):
  codeAny (model prog w) A (.call (.ref C) ⟨vs,kw⟩) R s:=by
 obtain⟨hh,g,d,t,os⟩:=s
 exact W.make_core (W.makes_of X hm) (W.looks_findIn X hi) (fun self=>W.bind_fn X self hf) (.inl rfl) h
end
def putF(f:Str)(v:V):List (Str×V)->List (Str×V)
 | []=>[(f,v)]
 | (g,x)::r=>if g=f then(g,v)::r else(g,x)::putF f v r
theorem b3e(f g:Str)(v:V):∀fs:List (Str×V),(putF f v fs).lookup g=if g=f then some v else fs.lookup g
 | []=>by
  show List.lookup g [(f,v)]=_
  by_cases h:g=f
  ·have hb:(g==f)=true:=Vn.mpr h
   simp only[List.lookup,hb,if_pos h]
  ·have hb:(g==f)=false:=Y5.mpr h
   simp only[List.lookup,hb,if_neg h]
 | (k,x)::r=>by
  have ih:=b3e f g v r
  rw[show putF f v ((k,x)::r)=(if k=f then(k,v)::r else(k,x)::putF f v r)from rfl]
  by_cases hk:k=f
  ·rw[if_pos hk]
   by_cases h:g=k
   ·have hb:(g==k)=true:=Vn.mpr h
    simp only[List.lookup,hb,if_pos (h.trans hk)]
   ·have hb:(g==k)=false:=Y5.mpr h
    simp only[List.lookup,hb,if_neg (fun e:g=f=>h (e.trans hk.symm))]
  ·rw[if_neg hk]
   by_cases h:g=k
   ·have hb:(g==k)=true:=Vn.mpr h
    simp only[List.lookup,hb,if_neg (fun e:g=f=>hk (h.symm.trans e))]
   ·have hb:(g==k)=false:=Y5.mpr h
    simp only[List.lookup,hb]
    exact ih
theorem b5m(f:Str)(v:V):∀fs:List (Str×V),f∈(putF f v fs).map (·.1)/\∀g,g∈fs.map (·.1)->g∈(putF f v fs).map (·.1)
 | []=>⟨by simp[putF],fun g h=>by simp at h⟩
 | (k,x)::r=>by
  obtain⟨i1,i2⟩:=b5m f v r
  rw[show putF f v ((k,x)::r)=(if k=f then(k,v)::r else(k,x)::putF f v r)from rfl]
  by_cases hk:k=f
  ·rw[if_pos hk]
   subst hk
   exact⟨by simp,fun g h=>by simpa using h⟩
  ·rw[if_neg hk]
   refine⟨?_,fun g h=>?_⟩
   ·rw[Zp]
    exact Zi _ i1
   ·rw[Zp]at h ⊢
    rcases Zk.mp h with e|e
    ·exact Zk.mpr (.inl e)
    ·exact Zi _ (i2 g e)
theorem b7l(f:Str)(v:V):∀fs:List (Str×V),(putF f v fs).length<=fs.length+1
 | []=>by simp[putF]
 | (k,x)::r=>by
  have ih:=b7l f v r
  rw[show putF f v ((k,x)::r)=(if k=f then(k,v)::r else(k,x)::putF f v r)from rfl]
  by_cases hk:k=f
  ·rw[if_pos hk,length_cons,length_cons];omega
  ·rw[if_neg hk,length_cons,length_cons];omega
theorem RelO.some_of{v:V}{o:Option Value}(r:RelO (some v) o):∃u,o=some u/\RelV v u:=by
 cases o with
 |none=>exact(show False from r).elim
 |some u=>exact⟨u,rfl,r⟩
theorem RelO.none_of{o:Option Value}(r:RelO none o):o=none:=by
 cases o with
 |none=>rfl
 |some u=>exact(show False from r).elim
theorem d0d{v:V}{u:Value}(r:RelV v u):W.handedIn u=true:=by
 cases v with
 |non=>cases(show u=Value.none from r);rfl
 |bl b=>cases(show u=Value.bool b from r);rfl
 |int i=>obtain⟨t,e⟩:=(show ∃t,u=Value.int i t from r);cases e;rfl
 |str x=>obtain⟨t,e⟩:=(show ∃t,u=Value.str x t from r);cases e;rfl
 |byt b=>obtain⟨t,e⟩:=(show ∃t,u=Value.bytes b t from r);cases e;rfl
 |flt b=>obtain⟨t,e⟩:=(show ∃t,u=Value.float b t from r);cases e;rfl
 |ref a=>cases(show u=Value.ref a from r);rfl
 |ty n=>cases(show u=Value.type n from r);rfl
section
variable{P:Program}{w:World}{H H':Hp}{h h':Heap}{a C dx:Addr}{fs fs':List (Str×V)}
theorem b6w(hok:HOk P w H h)(e:H a=some (.ins C dx fs)):∃mA,ObjM h a dx C mA/\(∀f,RelO (fs.lookup f) (mA f))/\PySem.Within mA (fs.map (·.1))/\fs.length<=1000/\H dx=some (.own a):=by
 obtain⟨d,z,ne,ob,mA,n,r,q⟩:=(show a2b P w H h a (.ins C dx fs)from hok a _ e)
 exact⟨mA,⟨ob,n,ne⟩,r,q,z,d⟩
end
structure Cls(K:W.Frag)(C:Addr):Prop where
 pg:W.plainGet K C Str.empty=true
 hd:W.hasDictIn K C=true
 po:W.plainOver K C=true
 sa:W.findIn K (.ref C) "__setattr__"=some (some (.builtin "object.__setattr__"))
theorem Cls.get{K:W.Frag}{C:Addr}(c:Cls K C)(f:Str):W.plainGet K C f=true:=c.pg
def a2a(K:W.Frag)(C:Addr)(f:Str):Prop:=W.findIn K (.ref C) f=some none
theorem a2a.taker{K:W.Frag}{C:Addr}{f:Str}(n:a2a K C f):W.takerIn K C f=some none:=by
 unfold W.takerIn
 rw[show W.findIn K (.ref C) f=some none from n]
 rfl
structure Meth(K:W.Frag)(C:Addr)(m:Str)(f:Addr):Prop where
 at_:W.findIn K (.ref C) m=some (some (.ref f))
 fn:W.isFn K (.ref f)=true
 kp:W.keepIn K (.ref f)=true
section
variable{X:Cx}{pins:List (Addr×Obj)}{σ:St}{H:Hp}{s:Shared}{a C dx:Addr}{fs:List (Str×V)}{f:Str}{v:V}{A:Around}{E:Value->Shared->Prop}
theorem b9c{b:Bool}{Q:Value->Shared->Prop}(I:Inv X pins σ H s)(e:H a=some (.ins C dx fs))(c:Cls X.K C)(n:a2a X.K C f)(l:fs.lookup f=some v)
  (h:∀u s',Inv X pins σ H s'->RelV v u->Q u s'):wpAny (model X.prog X.w) A (getAttr (.ref a) f b) Q E s:=by
 obtain⟨mA,O,r,_,_,_⟩:=b6w I.hok e
 obtain⟨u,hu,ru⟩:=RelO.some_of (v:=v) (o:=mA f) (by rw[<-l];exact r f)
 exact get_map I.kIn O (c.get f) c.hd n hu (d0d ru) (h u _ (I.tok _) ru)
theorem b9d{m:Str}{g:Addr}{pl:Sem Bool}{Q:Value×List Value->Shared->Prop}(I:Inv X pins σ H s)(e:H a=some (.ins C dx fs))(c:Cls X.K C)(k:Meth X.K C m g)(l:fs.lookup m=none)
  (h:Q (.ref g,[.ref a]) s):wpAny (model X.prog X.w) A (getMethod (.ref a) m pl) Q E s:=by
 obtain⟨mA,O,r,_,_,_⟩:=b6w I.hok e
 have hn:mA m=none:=RelO.none_of (by rw[<-l];exact r m)
 exact d3s I.kIn O (c.get m) k.at_ k.fn hn h
theorem b9e{y:V}{u:Value}{Q:Unit->Shared->Prop}(I:Inv X pins σ H s)(e:H a=some (.ins C dx fs))(c:Cls X.K C)(n:a2a X.K C f)(hl:fs.length<1000)(ry:RelV y u)
  (h:∀s',Inv X pins σ (upd H a (.ins C dx (putF f y fs))) s'->Q () s'):wpAny (model X.prog X.w) A (setAttr (.ref a) f u) Q E s:=by
 obtain⟨mA,O,r,wi,_,ho⟩:=b6w I.hok e
 have hz:(fs.map (·.1)).length<=sizeLine:=by rw[length_map,Xk];omega
 refine set_map I.kIn O c.sa c.po n.taker c.hd wi hz fun h' O' sb=>h _ ?_
 have hd:∃o,h'.get? dx=some o:=let⟨o,_,_,e',_⟩:=O'.ns;⟨o,e'⟩
 refine I.write (x:=a) (e:=dx) (by rw[e];exact True.intro) (.inr ho) (fun b q hb z=>(sb.2 b hb).trans z) hd ?_
 refine⟨by rw[a0j O.ne];exact ho,?_,O.ne,O'.obj,_,O'.ns,fun g=>?_,fun g hg=>?_⟩
 ·have:=b7l f y fs;omega
 ·show RelO ((putF f y fs).lookup g) (if g=f then some u else mA g)
  rw[b3e]
  by_cases q:g=f
  ·rw[if_pos q,if_pos q];exact ry
  ·rw[if_neg q,if_neg q];exact r g
 ·by_cases q:g=f
  ·rw[q];exact(b5m f y fs).1
  ·refine(b5m f y fs).2 g (wi g fun z=>hg ?_)
   show(if g=f then some u else mA g)=none
   rw[if_neg q];exact z
theorem Inv.made(I:Inv X pins σ H s):Inv X pins σ (upd (upd H s.heap.objs.size (.own (s.heap.objs.size+1))) (s.heap.objs.size+1) (.ins C s.heap.objs.size []))
  { s with heap:=(s.heap.push W.emptyDict).push (W.instObj C s.heap.objs.size)}:=by
 have e1:(s.heap.push W.emptyDict).get? s.heap.objs.size=some W.emptyDict:=Z4 s.heap rfl
 have e2:((s.heap.push W.emptyDict).push (W.instObj C s.heap.objs.size)).get? (s.heap.objs.size+1)=some (W.instObj C s.heap.objs.size):=by
  have:=Z4 (s.heap.push W.emptyDict) (o:=W.instObj C s.heap.objs.size) rfl
  rwa[V2]at this
 have e3:(s.heap.push W.emptyDict).Ns s.heap.objs.size (fun _=>none):=⟨W.emptyDict,#[],_,e1,rfl,(fun e he=>absurd he (by simp)),fun _=>rfl⟩
 have I1:=I.laid (a:=s.heap.objs.size) (o:=.own (s.heap.objs.size+1)) (h':=s.heap.push W.emptyDict) (t':=s.toks) (fun b u q=>Zf _ q) (Zb _) ⟨_,e1⟩
 refine I1.laid (a:=s.heap.objs.size+1) (o:=.ins C s.heap.objs.size []) (t':=s.toks) (fun b u q=>Zf _ q) (Nat.le_of_eq (V2 _ _)) ?_
 have ne:s.heap.objs.size≠s.heap.objs.size+1:=Yj (Uk _)
 refine⟨by rw[a0j ne,a0c],Z3 _,ne,e2,fun _=>none,(Heap.Ns1.of_empty e3).at fun o q=>Zf _ q,fun _=>True.intro,fun y hy=>absurd rfl hy⟩
theorem attr_of{prog:Program}{w:World}{env:Env}{e:Expr}{f:Str}{pos:Pos}{s:Shared}{Q:Value->Shared->Prop}(hb:attributeBase e f env (eval e env)=eval e env)
  (h:wpAny (model prog w) A (eval e env) (fun o s₁=>wpAny (model prog w) A (getAttr o f true) Q E s₁) E s):wpAny (model prog w) A (eval (.Attribute e f pos) env) Q E s:=
 Attribute_any_ h (by rw[arm_eval_Attribute,hb])
end
def tFld(K:W.Frag)(ta:TE)(f:Str):TE:=fun σ H Q=>ta σ H fun x H1=>∃a C dx fs v,x=.ref a/\H1 a=some (.ins C dx fs)/\Cls K C/\a2a K C f/\fs.lookup f=some v/\Q v H1
def sFld(K:W.Frag)(ta tv:TE)(f:Str):TS:=fun D σ H=>tv σ H fun y H1=>ta σ H1 fun x H2=>∃a C dx fs,x=.ref a/\H2 a=some (.ins C dx fs)/\Cls K C/\a2a K C f/\fs.length<1000/\
 D.nx σ (upd H2 a (.ins C dx (putF f y fs)))
def InOp(X:Cx)(op:Operator)(rd:V->V->Hp->VK->Prop):Prop:=
 ∀(pins:List (Addr×Obj))(s:Shared)(σ:St)(H:Hp)(x y:V)(u v:Value)(Q:VK),Inv X pins σ H s->RelV x u->RelV y v->rd x y H Q->wpAny (model X.prog X.w) X.A (inplaceOp op u v) (EP X pins σ Q) X.xe s
def c6z(K:W.Frag)(ta tv:TE)(rd:V->V->Hp->VK->Prop)(f:Str):TS:=fun D σ H=>ta σ H fun x H1=>∃a C dx fs v,x=.ref a/\H1 a=some (.ins C dx fs)/\Cls K C/\a2a K C f/\fs.lookup f=some v/\
 tv σ H1 fun y H2=>rd v y H2 fun z H3=>∃dx' fs',H3 a=some (.ins C dx' fs')/\fs'.length<1000/\D.nx σ (upd H3 a (.ins C dx' (putF f z fs')))
section
variable{X:Cx}{o e value:Expr}{f:Str}{pos pos' tpos:Pos}{ta tv:TE}
theorem a1d(he:PE X e ta)(hb:attributeBase e f X.env (eval e X.env)=eval e X.env):PE X (.Attribute e f pos) (tFld X.K ta f):=by
 intro pins s σ H Q I h
 refine attr_of hb (thn (he pins s σ H _ I h) fun u s1 ⟨x,H1,I1,rx,a,C,dx,fs,v,ex,ea,c,n,l,q⟩=>?_)
 subst ex
 obtain rfl:u=Value.ref a:=rx
 exact b9c I1 ea c n l fun u' s2 I2 ru=>⟨v,H1,I2,ru,q⟩
theorem a6g(ha:PE X o ta)(hv:PE X value tv)(hs:swapsWith value (some (.Attribute o f pos')) pos.line X.env=pure false):PS X (.Assign [.Attribute o f pos'] value pos) (sFld X.K ta tv f):=by
 intro pins s σ H D I h
 refine Ug (thn (hv pins s σ H _ I h) fun u s1 ⟨y,H1,I1,ry,q⟩=>thn (ha pins s1 σ H1 _ I1 q) fun ov s2 ⟨x,H2,I2,rx,a,C,dx,fs,ex,ea,c,n,l,q2⟩=>?_) hs
 subst ex
 obtain rfl:ov=Value.ref a:=rx
 exact b9e I2 ea c n l ry fun s3 I3=>⟨σ,_,I3,q2⟩
theorem a9u{op:Operator}{rd:V->V->Hp->VK->Prop}(ha:PE X o ta)(hv:PE X value tv)(hop:InOp X op rd):PS X (.AugAssign (.Attribute o f tpos) op value pos) (c6z X.K ta tv rd f):=by
 intro pins s σ H D I h
 refine wpAny_AugAssign_AttributeAny (thn (ha pins s σ H _ I h) fun ov s1 ⟨x,H1,I1,rx,a,C,dx,fs,v,ex,ea,c,n,l,q⟩=>?_)
 subst ex
 obtain rfl:ov=Value.ref a:=rx
 refine b9c I1 ea c n l fun u s2 I2 ru=>thn (hv pins s2 σ H1 _ I2 q) fun w3 s3 ⟨y,H2,I3,ry,q3⟩=>thn (hop pins s3 σ H2 v y u w3 _ I3 ru ry q3) fun w4 s4 ⟨z,H3,I4,rz,dx',fs',ea',l',q4⟩=>?_
 exact b9e I4 ea' c n l' rz fun s5 I5=>⟨σ,_,I5,q4⟩
end
section
variable{X:Cx}{pins:List (Addr×Obj)}{σ:St}{H:Hp}{s:Shared}{A:Around}{E:Value->Shared->Prop}{Q:Value->Shared->Prop}{c:Value}{b:Bool}
inductive TyOf(K:W.Frag)(H:Hp):V->Value->Prop where
 |non:TyOf K H .non (.type "NoneType")
 |bl (x:Bool):TyOf K H (.bl x) (.type "bool")
 |int (i:Int):TyOf K H (.int i) (.type "int")
 |str (x:Str):TyOf K H (.str x) (.type "str")
 |flt (x:UInt64):TyOf K H (.flt x) (.type "float")
 |lst {a:Addr} {xs:List V} (e:H a=some (.lst xs)):TyOf K H (.ref a) (.type "list")
 |frz {a:Addr} {o:Obj} {xs:List V} (e:H a=some (.frz o (.lst xs))):TyOf K H (.ref a) (.type "list")
 |tup {a:Addr} {xs:List V} (e:H a=some (.tup xs)):TyOf K H (.ref a) (.type "tuple")
 |dK {a:Addr} {kvs:List (Key×V)} (e:H a=some (.dK kvs)):TyOf K H (.ref a) (.type "dict")
 |dT {a:Addr} {kvs:List (List Key×V)} (e:H a=some (.dT kvs)):TyOf K H (.ref a) (.type "dict")
 |ins {a C dx:Addr} {fs:List (Str×V)} (e:H a=some (.ins C dx fs)) (cl:Cls K C) (ha:W.findIn K (.ref C) "__class__"=some (some (.builtin "object.__class__")))
   (hn:W.specialIn K (.builtin "object.__class__") "__get__"=some (some (.builtin "getset_descriptor.__get__"))) (htk:W.takesIn K (.builtin "object.__class__")=some true)
   (hm:W.mroIn K C (.type "object")=some true):TyOf K H (.ref a) (.ref C)
theorem a9v{x:V}{u t:Value}(I:Inv X pins σ H s)(rx:RelV x u)(ty:TyOf X.K H x t)(e:W.kitOne X.K t c=some b)(h:∀tk,Q (.bool b) { s with toks:=tk}):
  wpAny (model X.prog X.w) A (call (.builtin "isinstance") [u,c]) Q E s:=by
 cases ty with
 |non=>cases(show u=Value.none from rx);exact Xv W.kitx_none I.kIn True.intro e (fun z=>nomatch z) h
 |bl y=>cases(show u=Value.bool y from rx);exact Xv W.kitx_bool I.kIn True.intro e (fun z=>nomatch z) h
 |int i=>obtain⟨t,q⟩:=(show ∃t,u=Value.int i t from rx);cases q;exact Xv W.kitx_int I.kIn True.intro e (fun z=>nomatch z) h
 |str y=>obtain⟨t,q⟩:=(show ∃t,u=Value.str y t from rx);cases q;exact Xv W.kitx_str I.kIn True.intro e (fun z=>nomatch z) h
 |flt y=>obtain⟨t,q⟩:=(show ∃t,u=Value.float y t from rx);cases q;exact Xv W.kitx_float I.kIn True.intro e (fun z=>nomatch z) h
 | @lst a xs ea=>
  cases(show u=Value.ref a from rx)
  obtain⟨_,_,n,_,h1⟩:=(show a2b X.prog X.w H s.heap a (.lst xs)from I.hok a _ ea)
  exact Xv Tm I.kIn ⟨_,h1,rfl⟩ e (fun z=>nomatch z) h
 | @frz a ob xs ea=>
  cases(show u=Value.ref a from rx)
  obtain⟨_,_,_,n,_,h1⟩:=(show a2b X.prog X.w H s.heap a (.frz ob (.lst xs))from I.hok a _ ea)
  exact Xv Tm I.kIn ⟨_,h1,rfl⟩ e (fun z=>nomatch z) h
 | @tup a xs ea=>
  cases(show u=Value.ref a from rx)
  obtain⟨_,_,_,p⟩:=(show a2b X.prog X.w H s.heap a (.tup xs)from I.hok a _ ea)
  obtain⟨o,h1,h2,_⟩:=p
  exact Xv W.kitx_tuple I.kIn ⟨o,h1,h2⟩ e (fun z=>nomatch z) h
 | @dK a kvs ea=>
  cases(show u=Value.ref a from rx)
  obtain⟨_,_,vs,_,p⟩:=(show a2b X.prog X.w H s.heap a (.dK kvs)from I.hok a _ ea)
  obtain⟨o,es,ep,h1,h2,_⟩:=p
  exact Xv W.kitx_dict I.kIn ⟨o,h1,h2.1⟩ e (fun z=>nomatch z) h
 | @dT a kvs ea=>
  cases(show u=Value.ref a from rx)
  obtain⟨_,_,xs,_,o,es,ep,h1,h2,_⟩:=(show a2b X.prog X.w H s.heap a (.dT kvs)from I.hok a _ ea)
  exact Xv W.kitx_dict I.kIn ⟨o,h1,h2.1⟩ e (fun z=>nomatch z) h
 | @ins a C dx fs ea cl ha hn htk hm=>
  cases(show u=Value.ref a from rx)
  obtain⟨mA,O,_⟩:=b6w I.hok ea
  obtain⟨od,J,_⟩:=O.look
  exact Xv (W.kitx_own (cl.get _) cl.hd ha hn htk hm) I.kIn J e (fun z=>nomatch z) h
end
structure Room(k:Nat)(A:Around):Prop where
 hd:A.handled=none
 dp:A.depth+3*k+5<recursionLimit
 un:A.units+16*k+200<cLine
 gd:A.guards=some []
theorem Room.mono{j k:Nat}{A:Around}(r:Room k A)(h:j<=k):Room j A:=⟨r.hd,by have:=r.dp;omega,by have:=r.un;omega,r.gd⟩
theorem Room.deeper{k:Nat}{A:Around}(r:Room (k+1) A)(env:Env):Room k (A.deeper env):=
 ⟨r.hd,by have:=r.dp;show A.depth+1+3*k+5<_;omega,by have:=r.un;show A.units+3+16*k+200<_;omega,r.gd⟩
theorem c8j{A:Around}{C:Addr}{us:List Value}{kw:List (Str×Value)}:(A.under (.builtin "type.__call__" ⟨.ref C::us,kw⟩)).depth=A.depth+1:=by
 first|rfl|simp[Around.under,Code.weight,Code.isCreation,Code.isGuard,Code.isCaller,Code.frames,Code.isFrame,guardIds]
theorem c8k{A:Around}{C:Addr}{us:List Value}{kw:List (Str×Value)}:(A.under (.builtin "type.__call__" ⟨.ref C::us,kw⟩)).units=A.units+1:=by
 first|rfl|simp[Around.under,Code.cUnits,Code.frames,Code.isFrame]
theorem c6f{A:Around}{C:Addr}{us:List Value}{kw:List (Str×Value)}:(A.under (.builtin "type.__call__" ⟨.ref C::us,kw⟩)).guards=A.guards:=by
 first|rfl|simp[Around.under,Code.guards,Code.isGuard,guardIds,pushGuards]
theorem Room.make{k:Nat}{A:Around}(r:Room (k+1) A)(C:Addr)(us:List Value)(kw:List (Str×Value)):Room k (A.under (.builtin "type.__call__" ⟨.ref C::us,kw⟩)):=
 ⟨r.hd,by have:=r.dp;rw[c8j];omega,by have:=r.un;rw[c8k];omega,c6f.trans r.gd⟩
theorem Room.depth{k:Nat}{A:Around}(r:Room k A):A.depth<recursionLimit:=by have:=r.dp;omega
theorem Room.units{k:Nat}{A:Around}(r:Room k A):A.units+64<cLine:=by have:=r.un;omega
def tNil:TA:=fun _ H Q=>Q [] H
def c2w(ta:TE)(tr:TA):TA:=fun σ H Q=>ta σ H fun x H1=>tr σ H1 fun xs H2=>Q (x::xs) H2
section
variable{X:Cx}{e:Expr}{es:List Expr}{te:TE}{t:TA}{pos:Pos}
theorem a0b:PA X [] tNil:=fun _ _ _ _ H Q I h=>Calls.spliced_nil ⟨[],H,I,.nil,h⟩
theorem a2g(ha:PE X e te)(hr:PA X es t)(hs:starEach (e::es) X.env=(false,eval e X.env)::starEach es X.env:=by rfl):PA X (e::es) (c2w te t):=by
 intro pos pins s σ H Q I h
 rw[hs]
 show wpAny _ _ (spliced ((false,eval e X.env)::backTo pos (starEach es X.env))) _ _ s
 refine Ua (thn (ha pins s σ H _ I h) fun u s1 ⟨x,H1,I1,r1,q1⟩=>?_)
 exact thn (hr pos pins s1 σ H1 _ I1 q1) fun us s2 ⟨xs,H2,I2,r2,q2⟩=>⟨x::xs,H2,I2,.cons r1 r2,q2⟩
def tTup(t:TA):TE:=fun σ H Q=>t σ H fun xs H1=>xs.length<=sizeLine/\∀p,H1 p=none->Q (.ref p) (upd H1 p (.tup xs))
def tLst(t:TA):TE:=fun σ H Q=>t σ H fun xs H1=>xs.length<=sizeLine/\∀p,H1 p=none->Q (.ref p) (upd H1 p (.lst xs))
theorem a1g{x1}(h:PA X es t):PE X (.Tuple es x1 pos) (tTup t):=by
 intro pins s σ H Q I hq
 refine wpAny_Tuple_spliced (thn (h pos pins s σ H _ I hq) fun us s1 ⟨xs,H1,I1,r,z,q⟩=>⟨by rw[<-r.length];exact z,?_⟩)
 have hf:H1 s1.heap.objs.size=none:=I1.hok.fresh (Zb _)
 refine⟨.ref s1.heap.objs.size,upd H1 s1.heap.objs.size (.tup xs),I1.laid (t':=s1.toks) (fun b u e=>Zf _ e) (Zb _) ?_,rfl,q _ hf⟩
 exact⟨z,us,r,⟨_,Z4 _ rfl,rfl,_,rfl⟩⟩
theorem a1j(h:PA X es t):PE X (.List es pos) (tLst t):=by
 intro pins s σ H Q I hq
 refine wpAny_List_spliced (thn (h pos pins s σ H _ I hq) fun us s1 ⟨xs,H1,I1,r,z,q⟩=>⟨by rw[<-r.length];exact z,?_⟩)
 have hf:H1 s1.heap.objs.size=none:=I1.hok.fresh (Zb _)
 refine⟨.ref s1.heap.objs.size,upd H1 s1.heap.objs.size (.lst xs),I1.laid (t':=s1.toks) (fun b u e=>Zf _ e) (Zb _) ?_,rfl,q _ hf⟩
 exact⟨z,us,0,r,Z4 _ rfl⟩
end
abbrev Sp:=List V->Hp->VK->XK->Prop
abbrev CXT:=List Env->Hp->Shared->XK->Value->Shared->Prop
structure Env0(P:Program)(w:World)(K:W.Frag)(mg:Str->Option Value)(base:Heap)(A:Around)(outer:List Env)(s:Shared)(H:Hp):Prop where
 frames:A.frames=some outer
 mod:Mod K mg base
 bs:∀b o,base.get? b=some o->s.heap.get? b=some o/\H b=none
 bsz:base.objs.size<=s.heap.objs.size
 funs:s.heap.FunFrames base outer
 frf:∀b∈frs outer,H b=none
 hok:HOk P w H s.heap
 bare:AllBare s.gens
def CE(outer:List Env)(P:Program)(w:World)(H:Hp)(s:Shared)(Q:VK)(u:Value)(s':Shared):Prop:=
 ∃v H',s'.os=s.os/\AllBare s'.gens/\Un (frs outer) [] H H' s.heap s'.heap/\HOk P w H' s'.heap/\RelV v u/\Q v H'
def CR(CX:CXT)(outer:List Env)(P:Program)(w:World)(H:Hp)(s:Shared)(Q:VK)(E:XK)(r:Result)(s':Shared):Prop:=
 match r with
 | .ok (.ret u)=>CE outer P w H s Q u s'
 | .ok _=>False
 | .error e=>CX outer H s E e s'
structure FnOk(P:Program)(w:World)(K:W.Frag)(mg:Str->Option Value)(base:Heap)(CX:CXT)(k:Nat)(f:Addr)(fd:FuncData)(ps:List Str)(sp:Sp):Prop where
 len:∀vs H Q E,sp vs H Q E->vs.length=ps.length
 run:∀(A:Around)(outer:List Env)(s:Shared)(H:Hp)(args:Args)(us:List Value)(vs:List V)(Q:VK)(E:XK),Room k A->Env0 P w K mg base A outer s H->BindsTo s fd args (ps.zip us)->Vals vs us->sp vs H Q E->
  codeAny (model P w) A (.call (.ref f) args) (CR CX outer P w H s Q E) s
theorem Env0.make{P:Program}{w:World}{K:W.Frag}{mg:Str->Option Value}{base:Heap}{A:Around}{outer:List Env}{s:Shared}{H:Hp}(e:Env0 P w K mg base A outer s H)(C:Addr)(us:List Value)(kw:List (Str×Value)):
  Env0 P w K mg base (A.under (.builtin "type.__call__" ⟨.ref C::us,kw⟩)) outer s H:=⟨by first|exact e.frames| (simpa[Around.under,Code.envs,Code.isFrame,pushEnvs]using e.frames),e.mod,e.bs,e.bsz,e.funs,e.frf,e.hok,e.bare⟩
section
variable{X:Cx}{pins:List (Addr×Obj)}{σ:St}{H:Hp}{s s':Shared}
theorem Inv.env0(I:Inv X pins σ H s):Env0 X.prog X.w X.K X.mg X.base X.A X.stack s H:=
 ⟨I.ok.frames,I.ok.mod,I.bs,Ym I.ok.bsz I.sz,I.stack,I.stkFree,I.hok,I.bare⟩
theorem Inv.after{Q:VK}{u:Value}(I:Inv X pins σ H s)(h:CE X.stack X.prog X.w H s Q u s'):EP X pins σ Q u s':=by
 obtain⟨v,H',os,bare,un,hok,r,q⟩:=h
 obtain⟨hh,g,d,t,os'⟩:=s'
 obtain rfl:os'=s.os:=os
 exact⟨v,H',I.call (h':=hh) (g':=g) (d':=d) (t':=t) (ch:=[]) un hok bare (fun b z=>absurd z (by simp)),r,q⟩
end
def tCall(sp:Sp)(dvs:List V)(E:XK)(t:TA):TE:=fun σ H Q=>t σ H fun vs H1=>sp (vs++dvs) H1 Q E
def tMeth(C:Addr)(m:Str)(sp:Sp)(dvs:List V)(E:XK)(ta:TE)(t:TA):TE:=fun σ H Q=>ta σ H fun x H1=>∃a dx fs,x=.ref a/\H1 a=some (.ins C dx fs)/\fs.lookup m=none/\
 t σ H1 fun vs H2=>sp (x::(vs++dvs)) H2 Q E
def tMake(C:Addr)(sp:Sp)(dvs:List V)(E:XK)(t:TA):TE:=fun σ H Q=>t σ H fun vs H1=>∀x dx,H1 x=none->H1 dx=none->dx≠x->
 sp (.ref x::(vs++dvs)) (upd (upd H1 dx (.own x)) x (.ins C dx [])) (fun v H2=>v=.non/\Q (.ref x) H2) E
def Binds(K:W.Frag)(fd:FuncData)(ps:List Str)(ds:List Value):Prop:=
 ∀(s:Shared)(us:List Value),K.In s.heap->(us++ds).length=ps.length->BindsTo s fd ⟨us,[]⟩ (ps.zip (us++ds))
theorem Binds.all{K:W.Frag}{fd:FuncData}{ps:List Str}(h:∀us:List Value,us.length=ps.length->bindArgs fd ⟨us,[]⟩=pure (ps.zip us)):Binds K fd ps []:=fun s us _ hl=>by
 rw[Yo]at hl ⊢
 exact .of_eq (h us hl)
def a7m(CX:CXT)(X:Cx)(E:XK):Prop:=∀(pins:List (Addr×Obj))(σ:St)(H:Hp)(s:Shared)(e:Value)(s':Shared),Inv X pins σ H s->CX X.stack H s E e s'->X.xe e s'
section
variable{X:Cx}{CX:CXT}{k:Nat}{f C:Addr}{fd:FuncData}{ps:List Str}{sp:Sp}{dvs:List V}{ds:List Value}{E:XK}{x m:Str}{p pos apos:Pos}{e o:Expr}{es:List Expr}{ta:TE}{t:TA}
theorem c3s{pins:List (Addr×Obj)}{σ:St}{H:Hp}{s:Shared}{Q:VK}{us:List Value}{vs:List V}(F:FnOk X.prog X.w X.K X.mg X.base CX k f fd ps sp)(hr:Room k X.A)(hb:Binds X.K fd ps ds)(hd:Vals dvs ds)(hx:a7m CX X E)
  (I:Inv X pins σ H s)(r:Vals vs us)(h:sp (vs++dvs) H Q E):wpAny (model X.prog X.w) X.A (call (.ref f) us) (EP X pins σ Q) X.xe s:=by
 have r2:Vals (vs++dvs) (us++ds):=r.append hd
 have hl:(us++ds).length=ps.length:=by rw[<-r2.length];exact F.len _ _ _ _ h
 refine Vm (W7 (F.run X.A X.stack s H ⟨us,[]⟩ (us++ds) (vs++dvs) Q E hr I.env0 (hb s us I.kIn hl) r2 h) fun r s' hq=>?_)
 cases r with
 |error e=>exact hx pins σ H s e s' I hq
 |ok fl=>
  cases fl with
  |ret u=>exact I.after hq
  |next=>exact False.elim hq
  |brk=>exact False.elim hq
  |cont=>exact False.elim hq
theorem a0l(F:FnOk X.prog X.w X.K X.mg X.base CX k f fd ps sp)(hr:Room k X.A)(hg:Gl X x)(hm:X.mg x=some (.ref f))(hk:W.keepIn X.K (.ref f)=true)(hb:Binds X.K fd ps ds)(hd:Vals dvs ds)(hx:a7m CX X E)
  (ha:PA X (e::es) t)(hdb:(x==("__debug__":Str))=false:=by decide)(he:starEach (e::es) X.env=(false,eval e X.env)::starEach es X.env:=by rfl)(hpl:(backTo pos (starEach es X.env)).any (·.1)=false:=by rfl):
  PE X (.Call (.Name x p) (e::es) [] pos) (tCall sp dvs E t):=by
 intro pins s σ H Q I h
 refine Xz (b1a I hg hm ?_ hdb)
 refine Vo (h₀:=X.base) I.ok.mod.kin hk (thn (ha pos pins s σ H _ I h) fun us s1 ⟨vs,H1,I1,r,q⟩=>⟨I1.kIn,?_⟩) he hpl
 exact c3s F hr hb hd hx I1 r q
theorem a3b{pl:Sem Bool}(he:PE X o ta)(c:Cls X.K C)(hm:Meth X.K C m f)(F:FnOk X.prog X.w X.K X.mg X.base CX k f fd ps sp)(hr:Room k X.A)(hb:Binds X.K fd ps ds)(hd:Vals dvs ds)(hx:a7m CX X E)(ha:PA X (e::es) t)
  (hst:starEach (e::es) X.env=(false,eval e X.env)::starEach es X.env:=by rfl)(hpl:(backTo pos (starEach es X.env)).any (·.1)=false:=by rfl)
  (ht:eval (.Call (.Attribute o m apos) (e::es) [] pos) X.env=(do
   let ov <-eval o X.env
   standAt apos.atName
   let(f,first) <-holding [ov] (getMethod ov m pl)
   callWith pos f first (backTo pos (starEach (e::es) X.env)) (backToKw pos (keywordEach [] X.env))):=by rfl):
  PE X (.Call (.Attribute o m apos) (e::es) [] pos) (tMeth C m sp dvs E ta t):=by
 intro pins s σ H Q I h
 refine Ur (pl:=pl) (thn (he pins s σ H _ I h) fun u s1 ⟨x,H1,I1,rx,a,dx,fs,ex,ea,l,q⟩=>?_) ht
 subst ex
 obtain rfl:u=Value.ref a:=rx
 refine b9d I1 ea c hm l ?_
 refine Vo (first:=[.ref a]) (h₀:=X.base) I.ok.mod.kin hm.kp (thn (ha pos pins s1 σ H1 _ I1 q) fun us s2 ⟨vs,H2,I2,r,q2⟩=>⟨I2.kIn,?_⟩) hst hpl
 exact c3s (us:=.ref a::us) (vs:=.ref a::vs) F hr hb hd hx I2 (.cons rfl r) q2
theorem a8r{pl:Sem Bool}(he:PE X o ta)(c:Cls X.K C)(hm:Meth X.K C m f)(F:FnOk X.prog X.w X.K X.mg X.base CX k f fd ps sp)(hr:Room k X.A)(hb:Binds X.K fd ps ds)(hd:Vals dvs ds)(hx:a7m CX X E)
  (ht:eval (.Call (.Attribute o m apos) [] [] pos) X.env=(do
   let ov <-eval o X.env
   standAt apos.atName
   let(f,first) <-holding [ov] (getMethod ov m pl)
   callWith pos f first (backTo pos (starEach [] X.env)) (backToKw pos (keywordEach [] X.env))):=by rfl):
  PE X (.Call (.Attribute o m apos) [] [] pos) (tMeth C m sp dvs E ta tNil):=by
 intro pins s σ H Q I h
 refine Ur (pl:=pl) (thn (he pins s σ H _ I h) fun u s1 ⟨x,H1,I1,rx,a,dx,fs,ex,ea,l,q⟩=>?_) ht
 subst ex
 obtain rfl:u=Value.ref a:=rx
 refine b9d I1 ea c hm l ?_
 exact W.callWith_K0 (first:=[.ref a]) I1.kIn hm.kp (c3s (us:=[.ref a]) (vs:=[.ref a]) F hr hb hd hx I1 (.cons rfl .nil) q)
structure Mk(K:W.Frag)(C f:Addr):Prop where
 makes:W.makesIn K C=true
 init:W.findIn K (.ref C) "__init__"=some (some (.ref f))
 fn:W.isFn K (.ref f)=true
 kp:W.keepIn K (.ref C)=true
theorem d3u{pins:List (Addr×Obj)}{σ:St}{H:Hp}{s:Shared}{Q:VK}{us:List Value}{vs:List V}(M:Mk X.K C f)(F:FnOk X.prog X.w X.K X.mg X.base CX k f fd ps sp)(hr:Room (k+1) X.A)(hb:Binds X.K fd ps ds)(hd:Vals dvs ds)
  (hx:a7m CX X E)(I:Inv X pins σ H s)(r:Vals vs us)
  (h:∀x dx,H x=none->H dx=none->dx≠x->sp (.ref x::(vs++dvs)) (upd (upd H dx (.own x)) x (.ins C dx [])) (fun v H2=>v=.non/\Q (.ref x) H2) E):
  wpAny (model X.prog X.w) X.A (call (.ref C) us) (EP X pins σ Q) X.xe s:=by
 have hq:=h (s.heap.objs.size+1) s.heap.objs.size (I.hok.fresh (Tn _)) (I.hok.fresh (Zb _)) (Yj (Uk _))
 have I2:=Inv.made (C:=C) I
 have r2:Vals (V.ref (s.heap.objs.size+1)::(vs++dvs)) (Value.ref (s.heap.objs.size+1)::(us++ds)):=.cons rfl (r.append hd)
 have hl:(Value.ref (s.heap.objs.size+1)::us++ds).length=ps.length:=by
  have e:=r2.length
  rw[F.len _ _ _ _ hq]at e
  exact e.symm
 refine Vm (d3t (f:=f) I.kIn M.makes M.init (Vn.mp M.fn) (W7 (F.run _ X.stack _ _ ⟨Value.ref (s.heap.objs.size+1)::us,[]⟩ (Value.ref (s.heap.objs.size+1)::(us++ds)) _ _ E (hr.make C us [])
  (I2.env0.make C us []) (hb _ (Value.ref (s.heap.objs.size+1)::us) I2.kIn hl) r2 hq) fun r s' hq'=>?_))
 cases r with
 |error e=>exact hx pins σ _ _ e s' I2 hq'
 |ok fl=>
  cases fl with
  |ret u=>
   obtain⟨v,H',I3,rv,ev,q3⟩:=I2.after hq'
   subst ev
   exact⟨rv,⟨V.ref (s.heap.objs.size+1),H',I3,rfl,q3⟩⟩
  |next=>exact False.elim hq'
  |brk=>exact False.elim hq'
  |cont=>exact False.elim hq'
theorem c0h(M:Mk X.K C f)(F:FnOk X.prog X.w X.K X.mg X.base CX k f fd ps sp)(hr:Room (k+1) X.A)(hg:Gl X x)(hm:X.mg x=some (.ref C))(hb:Binds X.K fd ps ds)(hd:Vals dvs ds)(hx:a7m CX X E)
  (ha:PA X (e::es) t)(hdb:(x==("__debug__":Str))=false:=by decide)(he:starEach (e::es) X.env=(false,eval e X.env)::starEach es X.env:=by rfl)(hpl:(backTo pos (starEach es X.env)).any (·.1)=false:=by rfl):
  PE X (.Call (.Name x p) (e::es) [] pos) (tMake C sp dvs E t):=by
 intro pins s σ H Q I h
 refine Xz (b1a I hg hm ?_ hdb)
 refine Vo (h₀:=X.base) I.ok.mod.kin M.kp (thn (ha pos pins s σ H _ I h) fun us s1 ⟨vs,H1,I1,r,q⟩=>⟨I1.kIn,?_⟩) he hpl
 exact d3u M F hr hb hd hx I1 r q
end
structure a0o(N P:List Str)(sc:Scope):Prop where
 kind:sc.kind=.function
 co:sc.isCoroutine=false
 gen:sc.isGenerator=false
 nd:N.Nodup
 pre:N.take P.length=P
 par:∀x∈P,sc.names.lookup x=some .local\/sc.names.lookup x=some .cell
 nofree:∀y∈sc.names,y.2≠.free
theorem c1v{kindOf:Str->Option NameKind}{x:Str}:∀{binds:List (Str×Value)}{m:Str->Option Value},(∀v,(x,v)∉binds)->bindL kindOf binds m x=m x
 | [],_,_=>rfl
 | (n,v)::r,m,h=>by
  unfold bindL
  rw[c1v fun w hw=>h w (Zi _ hw)]
  split
  ·have:x≠n:=by rintro rfl;exact h v Zj
   simp[this]
  ·rfl
theorem c1w{kindOf:Str->Option NameKind}{x:Str}:∀{binds:List (Str×Value)}{m:Str->Option Value},(∀v,(x,v)∉binds)->bindC kindOf binds m x=m x
 | [],_,_=>rfl
 | (n,v)::r,m,h=>by
  unfold bindC
  rw[c1w fun w hw=>h w (Zi _ hw)]
  split
  ·rfl
  ·have:x≠n:=by rintro rfl;exact h v Zj
   simp[this]
theorem c1x{kindOf:Str->Option NameKind}{x:Str}{v:Value}:∀{P:List Str}{vs:List Value}{i:Nat}{m:Str->Option Value},P.Nodup->P[i]? =some x->vs[i]? =some v->kindOf x=some .local->
  bindL kindOf (P.zip vs) m x=some v
 | [],_,_,_,_,h,_,_=>by simp at h
 |_::_,[],_,_,_,_,h,_=>by simp at h
 |p::P,w::vs,0,m,nd,h1,h2,hk=>by
  simp at h1 h2;subst h1;subst h2
  show bindL kindOf ((p,w)::P.zip vs) m p=_
  unfold bindL
  rw[c1v fun v hv=>(W4.mp nd).1 (Us hv).1,if_pos hk]
  simp
 |p::P,w::vs,i+1,m,nd,h1,h2,hk=>by
  show bindL kindOf ((p,w)::P.zip vs) m x=_
  unfold bindL
  exact c1x (i:=i) (W4.mp nd).2 (by simpa using h1) (by simpa using h2) hk
theorem c1y{kindOf:Str->Option NameKind}{x:Str}{v:Value}:∀{P:List Str}{vs:List Value}{i:Nat}{m:Str->Option Value},P.Nodup->P[i]? =some x->vs[i]? =some v->kindOf x≠some .local->
  bindC kindOf (P.zip vs) m x=some v
 | [],_,_,_,_,h,_,_=>by simp at h
 |_::_,[],_,_,_,_,h,_=>by simp at h
 |p::P,w::vs,0,m,nd,h1,h2,hk=>by
  simp at h1 h2;subst h1;subst h2
  show bindC kindOf ((p,w)::P.zip vs) m p=_
  unfold bindC
  rw[c1w fun v hv=>(W4.mp nd).1 (Us hv).1,if_neg hk]
  simp
 |p::P,w::vs,i+1,m,nd,h1,h2,hk=>by
  show bindC kindOf ((p,w)::P.zip vs) m x=_
  unfold bindC
  exact c1y (i:=i) (W4.mp nd).2 (by simpa using h1) (by simpa using h2) hk
def start(N:List Str)(vs:List V):St:=vs.map some++List.replicate (N.length-vs.length) none
def cxOf(CX:CXT)(P:Program)(w:World)(K:W.Frag)(mg:Str->Option Value)(base:Heap)(N:List Str)(qual:Str)(scope:Scope)(f:Addr)(cd:Value)(A:Around)(outer:List Env)(s:Shared)(H:Hp)(E:XK):Cx where
 prog:=P
 w:=w
 K:=K
 mg:=mg
 base:=base
 A:=A.deeper (envOfC qual scope s.heap.objs.size f cd)
 N:=N
 s₀:=s
 H₀:=H
 env:=envOfC qual scope s.heap.objs.size f cd
 outer:=outer
 stack:=envOfC qual scope s.heap.objs.size f cd::outer
 ex:=[]
 calm:=true
 fn:=fun _=>true
 pn:=[]
 xe:=fun e s'=>wpAny (model P w) (A.deeper (envOfC qual scope s.heap.objs.size f cd)) (leaving (envOfC qual scope s.heap.objs.size f cd) e) (fun _ s''=>CX outer H s E e s'') (fun e' s''=>CX outer H s E e' s'') s'
theorem c3t{sc:Scope}{n:Nat}{x:Str}(h:sc.names.lookup x=some .cell):∃c,(cellsFrom n sc.names []).lookup x=some c:=by
 have q:=W.cellsFrom_some sc.names n [] (.inl h)
 exact Yu.mp q
theorem d0e{CX:CXT}{P:Program}{w:World}{K:W.Frag}{mg:Str->Option Value}{base:Heap}{N ps:List Str}{qual:Str}{scope:Scope}{f:Addr}{cd:Value}{A:Around}{outer:List Env}{s s1:Shared}{H:Hp}{E:XK}{us:List Value}{vs:List V}
  (S:a0o N ps scope)(hd:A.handled=none)(e0:Env0 P w K mg base A outer s H)(hl:vs.length=ps.length)(r:Vals vs us)
  (x:InCallC s s.heap.objs.size (bindL (envOfC qual scope s.heap.objs.size f cd).kindOf (ps.zip us) fun _=>none) (cellsFrom (s.heap.objs.size+1) scope.names []) (bindC (envOfC qual scope s.heap.objs.size f cd).kindOf (ps.zip us) fun _=>none) s1):
  Inv (cxOf CX P w K mg base N qual scope f cd A outer s H E) [] (start N vs) H s1:=by
 have hpl:ps.length<=N.length:=by have:=Z9 List.length S.pre;rw[Wd]at this;omega
 obtain⟨h1,tk,rfl,hk⟩:=x.done
 have noA:∀b:Addr,b∉(cxOf CX P w K mg base N qual scope f cd A outer s H E).ex:=fun b z=>absurd (show b∈([]:List Addr)from z) (by simp)
 refine⟨⟨e0.mod,S.kind,rfl,rfl,Zb _,fun y z c h1 h2=>?_,fun y hy=>?_,fun y c _ h=>?_,fun _=>hd,Around.frames_deeper e0.frames,.inr ⟨rfl,rfl⟩,fun b z=>absurd z (noA b),e0.bs,e0.bsz,fun b _ _=>noA b,fun b z=>absurd z (noA b),e0.funs,e0.frf⟩,
  rfl,e0.bare,Un.kept hk,⟨_,x.toInCall.ns,fun i y v h1 h2 h3=>?_⟩,fun y c h=>⟨_,x.cell y c h⟩,e0.hok.fresh (Zb _),fun y c h=>?_,fun p hp=>absurd (show p∈([]:List (Addr×Obj))from hp) (by simp),e0.hok.kept hk,?_⟩
 ·exact name_of_addr x.apart (Yn h1) (Yn h2)
 ·have hy:scope.names.lookup y=some .cell\/scope.names.lookup y=some .free:=hy
  rcases hy with hy|hy
  ·exact c3t hy
  ·exact absurd rfl (S.nofree _ (Yn hy))
 ·exact Ta (x.above y c (Yn h))
 ·have hi:i<vs.length:=by
   unfold start at h2
   by_cases hi:i<vs.length
   ·exact hi
   ·rw[Xf (by simpa using hi)]at h2
    rw[List.getElem?_replicate]at h2
    split at h2<;>cases h2
  have ha:vs[i]? =some v:=by
   unfold start at h2
   rw[Uz (by simpa using hi),Yv]at h2
   cases e:vs[i]? with
   |none=>rw[e]at h2;cases h2
   |some a=>rw[e]at h2;cases h2;rfl
  obtain⟨u,hu,rv⟩:=r.get ha
  have hp:ps[i]? =some y:=by
   rw[<-S.pre,List.getElem?_take_of_lt (by omega)];exact h1
  have ndP:ps.Nodup:=by rw[<-S.pre];exact S.nd.sublist (List.take_sublist _ _)
  refine⟨u,rv,?_⟩
  rcases S.par y (Xn hp)with k|k
  ·exact .inl ⟨k,c1x ndP hp hu k⟩
  ·obtain⟨c,e⟩:=c3t (n:=s.heap.objs.size+1) k
   refine .inr ⟨.inl k,c,e,?_⟩
   have q:=x.cell y c e
   rw[c1y ndP hp hu (by show scope.names.lookup y≠_;rw[k];decide)]at q
   exact q
 ·exact e0.hok.fresh (Ta (x.above y c (Yn h)))
 ·unfold start
  show _=N.length
  rw[Za,length_map,List.length_replicate]
  omega
theorem fn_of{CX:CXT}{P:Program}{w:World}{K:W.Frag}{mg:Str->Option Value}{base:Heap}{k:Nat}{f:Addr}{name qual:Str}{params:Arguments}{body:List Stmt}{scope:Scope}{dV kV doc pm cdv ct oc:Value}{an od:Option Addr}
  {osl:Array (Option Value)}{N ps:List Str}{sp:Sp}(lk:K.lookup f=some ⟨oc,od,.func (W.fnOf name qual params body scope dV kV doc pm an cdv ct),osl⟩)(hcd:W.codeIn K cdv qual=true)(S:a0o N ps scope)
  (len:∀vs H Q E,sp vs H Q E->vs.length=ps.length)
  (hbody:∀(A:Around)(outer:List Env)(s:Shared)(H:Hp)(vs:List V)(Q:VK)(E:XK),Room k (A.deeper (envOfC qual scope s.heap.objs.size f cdv))->sp vs H Q E->
   ∃t,PSs (cxOf CX P w K mg base N qual scope f cdv A outer s H E) body t/\t { nx:=fun _ H'=>Q .non H',rt:=Q} (start N vs) H):
  FnOk P w K mg base CX (k+1) f (W.fnOf name qual params body scope dV kV doc pm an cdv ct) ps sp:=by
 refine⟨len,fun A outer s H args us vs Q E hr e0 hb r hsp=>?_⟩
 have hl:=len _ _ _ _ hsp
 have KX:K.In s.heap:=e0.mod.kin.keeps fun b o e=>(e0.bs b o e).1
 have lim:s.heap.NoLimit:=e0.mod.nolimit.keeps fun b o e=>(e0.bs b o e).1
 have hkind:∀y∈ps.zip us,scope.names.lookup y.1=some .local\/(scope.names.lookup y.1=some .cell/\((cellsFrom (s.heap.objs.size+1) scope.names []).lookup y.1).isSome=true):=fun⟨n,v⟩ hy=>by
  rcases S.par n (Us hy).1 with q|q
  ·exact .inl q
  ·exact .inr ⟨q,W.cellsFrom_some _ _ _ (.inl q)⟩
 refine codeAny_call_function hr.depth (KX _ _ lk) rfl S.co S.gen rfl (W.codeRec_of KX hcd) (hb _ _ _ _ ?_)
 refine wpAny_newFunctionEnv_cells S.kind hkind fun env he s1 x=>?_
 subst he
 refine⟨lim.keeps x.toInCall.keep,codeAny_func ?_⟩
 obtain⟨t,ht,hq⟩:=hbody A outer s H vs Q E (hr.deeper _) hsp
 have I:Inv (cxOf CX P w K mg base N qual scope f cdv A outer s H E) [] (start N vs) H s1:=d0e S hr.hd e0 hl r x
 refine Xy (ht [] s1 (start N vs) H _ I hq) (fun fl s' hs=>?_) fun e s' hs=>hs
 have fin:∀{σ':St}{H':Hp}{v:V}{u:Value},Inv (cxOf CX P w K mg base N qual scope f cdv A outer s H E) [] σ' H' s'->RelV v u->Q v H'->CE outer P w H s Q u s':=
  fun{σ' H' v u} J rv q=>⟨v,H',J.os,J.bare,J.base,J.hok,rv,q⟩
 cases fl with
 |ret u=>
  obtain⟨v,σ',H',J,rv,q⟩:=hs
  exact fin J rv q
 |next=>
  obtain⟨σ',H',J,q⟩:=hs
  exact fin (v:=V.non) (u:=Value.none) J rfl q
 |brk=>
  obtain⟨_,_,_,q⟩:=hs
  exact False.elim q
 |cont=>
  obtain⟨_,_,_,q⟩:=hs
  exact False.elim q
section
variable{X:Cx}{x:Str}{p pos:Pos}{e:Expr}{es:List Expr}{t:TA}{id T:String}{r:List V->Hp->VK->Prop}
def tCB(r:List V->Hp->VK->Prop)(t:TA):TE:=fun σ H Q=>t σ H fun vs H1=>r vs H1 Q
theorem a0z(hc:a5c X (.builtin id) r)(hg:Gl X x)(hm:X.mg x=none)(hv:bootBuiltins x=some (.builtin id))(ha:PA X (e::es) t)(hn:x≠"__name__":=by decide)(hdb:(x==("__debug__":Str))=false:=by decide)
  (he:starEach (e::es) X.env=(false,eval e X.env)::starEach es X.env:=by rfl)(hpl:(backTo pos (starEach es X.env)).any (·.1)=false:=by rfl):PE X (.Call (.Name x p) (e::es) [] pos) (tCB r t):=by
 intro pins s σ H Q I h
 refine Xz (b3m I hg hm hv ?_ hn hdb)
 exact PyProof.Rows.callWith_builtin1 (thn (ha pos pins s σ H _ I h) fun us s1 ⟨vs,H1,I1,r1,q1⟩=>hc pins s1 σ H1 vs us Q I1 r1 q1) he hpl
theorem a6h(hc:a5c X (.type T) r)(hg:Gl X x)(hm:X.mg x=none)(hv:bootBuiltins x=some (.type T))(ha:PA X (e::es) t)(hn:x≠"__name__":=by decide)(hdb:(x==("__debug__":Str))=false:=by decide)
  (he:starEach (e::es) X.env=(false,eval e X.env)::starEach es X.env:=by rfl)(hpl:(backTo pos (starEach es X.env)).any (·.1)=false:=by rfl):PE X (.Call (.Name x p) (e::es) [] pos) (tCB r t):=by
 intro pins s σ H Q I h
 refine Xz (b3m I hg hm hv ?_ hn hdb)
 exact X8 (thn (ha pos pins s σ H _ I h) fun us s1 ⟨vs,H1,I1,r1,q1⟩=>hc pins s1 σ H1 vs us Q I1 r1 q1) he hpl
end
end L2
namespace HT
open PySem PyProof.Rows
section
open PySem.SeqAt
open PySem.AutoSeq1 (wpAny_loadPart')
open PySem.MeetsSeq PySem.MeetsSeq2 PySem.MeetsSeq3
end
section
variable{prog:Program}{w:World}{A:Around}{E:Value->Shared->Prop}{s:Shared}
theorem cat_tup{t b:Addr}{vs ws:List Value}{Q:Value->Shared->Prop}(ht:IsTup s.heap t vs.toArray)(hb:IsTup s.heap b ws.toArray)(hv:vs≠[])
  (h1:ws=[]->Q (.ref t) s)(h2:ws≠[]->Q (.ref s.heap.objs.size) { s with heap:=s.heap.push { cls:=.type "tuple",data:=.seq (vs++ws).toArray}})
  (hsz:vs.length+ws.length<=sizeLine):wpAny (model prog w) A (binaryOp .Add (.ref t) (.ref b)) Q E s:=by
 obtain⟨⟨cls,dd,data,sl⟩,ho,hc,n,hd⟩:=id ht
 obtain⟨⟨cls2,dd2,data2,sl2⟩,ho2,hc2,n2,hd2⟩:=id hb
 simp only at hc hd hc2 hd2
 subst hc hd hc2 hd2
 have e:vs.toArray++ws.toArray=(vs++ws).toArray:=by simp
 by_cases hw:ws=[]
 ·exact concat_meets ⟨_,ho,rfl⟩ ⟨_,ho2,rfl⟩ noFill_tuple_add seq_tuple_add F.slot_tuple_add F.entry_tuple_add (Sd _ _)
   (tuple_addW1 t b vs.toArray ws.toArray n n2 dd dd2 sl sl2 (by simpa using hv) (by simp[hw])) ⟨ho,ho2,h1 hw⟩
 ·refine concat_meets ⟨_,ho,rfl⟩ ⟨_,ho2,rfl⟩ noFill_tuple_add seq_tuple_add F.slot_tuple_add F.entry_tuple_add (Sd _ _)
   (tuple_addW2 t b vs.toArray ws.toArray n n2 dd dd2 sl sl2 (by simpa using hv) (by simpa using hw) (by rw[Zh,Zh];exact hsz)) ⟨ho,ho2,?_⟩
  rw[e]
  exact h2 hw
def sIx(n d:Nat):Option Int->Nat
 |none=>d
 |some v=>if v<0 then(v+(n:Int)).toNat else min v.toNat n
theorem sIx_nat(n d k:Nat):sIx n d (some (k:Int))=min k n:=by
 show(if(k:Int)<0 then((k:Int)+(n:Int)).toNat else min (k:Int).toNat n)=min k n
 rw[if_neg (by omega),Int.toNat_natCast]
theorem sIx_le(n d:Nat)(hd:d<=n)(o:Option Int):sIx n d o<=n:=by
 cases o with
 |none=>exact hd
 |some v=>
  show(if v<0 then(v+(n:Int)).toNat else min v.toNat n)<=n
  by_cases hv:v<0
  ·rw[if_pos hv];omega
  ·rw[if_neg hv];exact Nat.min_le_right _ _
end
end HT
namespace L2
open PySem PySem.Spec PyProof.Rows
abbrev TO:=St->Hp->(Option Int->Hp->Prop)->Prop
def PO(X:Cx)(e:Option Expr)(t:TO):Prop:=
 ∀(pins:List (Addr×Obj))(s:Shared)(σ:St)(H:Hp)(Q:Option Int->Hp->Prop),Inv X pins σ H s->t σ H Q->
  wpAny (model X.prog X.w) X.A (evalPart e X.env) (fun u s'=>∃o H',Inv X pins σ H' s'/\IsPart u o/\Q o H') X.xe s
def c7a:TO:=fun _ H Q=>Q none H
def tPart(t:TE):TO:=fun σ H Q=>t σ H fun x H1=>∃i,x=.int i/\Q (some i) H1
section
variable{X:Cx}{e:Expr}{te:TE}{lo hi:Option Expr}{tl th:TO}{pos p2:Pos}
theorem a6x:PO X none c7a:=by
 intro pins s σ H Q I h
 rw[evalPart_none]
 exact Yp ⟨none,H,I,.none,h⟩
theorem po_some(h:PE X e te):PO X (some e) (tPart te):=by
 intro pins s σ H Q I hw
 rw[evalPart_some]
 refine thn (h pins s σ H _ I hw) fun u s1 ⟨x,H1,I1,r1,q1⟩=>?_
 obtain⟨i,rfl,q⟩:=q1
 obtain⟨t,rfl⟩:=r1
 exact⟨some i,H1,I1,.int i t,q⟩
def SlR(X:Cx)(r:V->Option Int->Option Int->Hp->VK->Prop):Prop:=
 ∀(pins:List (Addr×Obj))(s:Shared)(σ:St)(H:Hp)(x:V)(v vl vu:Value)(lo hi:Option Int)(sl:Addr)(Q:VK),Inv X pins σ H s->RelV x v->s.heap.IsSliceOf sl vl vu .none->IsPart vl lo->IsPart vu hi->r x lo hi H Q->
  ∃T id,typeLookup (.type T) "__getitem__"=pure (some (.builtin id))/\s.TypeIs v T/\wpAny (model X.prog X.w) X.A (getItem v (.ref sl)) (EP X pins σ Q) X.xe s
def tSl(r:V->Option Int->Option Int->Hp->VK->Prop)(te:TE)(tl th:TO):TE:=fun σ H Q=>te σ H fun x H1=>tl σ H1 fun l H2=>th σ H2 fun u H3=>r x l u H3 Q
theorem a3y{r:V->Option Int->Option Int->Hp->VK->Prop}(hr:SlR X r)(he:PE X e te)(hl:PO X lo tl)(hu:PO X hi th):PE X (.Subscript e (.Slice lo hi none p2) pos) (tSl r te tl th):=by
 intro pins s σ H Q I h
 refine T6 (thn (he pins s σ H _ I h) fun v s1 ⟨x,H1,I1,r1,q1⟩=>?_)
 refine wpAny_Slice (thn (hl pins s1 σ H1 _ I1 q1) fun vl s2 ⟨l,H2,I2,pl,q2⟩=>thn (hu pins s2 σ H2 _ I2 q2) fun vu s3 ⟨u,H3,I3,pu,q3⟩=>?_)
 rw[evalPart_none]
 refine Yp ?_
 have I4:Inv X pins σ H3 { s3 with heap:=s3.heap.push { cls:=.type "slice",data:=.fields #[vl,vu,.none]}}:=I3.kept (t':=s3.toks) fun b ob q=>Zf _ q
 obtain⟨T,id,hT,ht,hg⟩:=hr pins { s3 with heap:=s3.heap.push { cls:=.type "slice",data:=.fields #[vl,vu,.none]}} σ H3 x v vl vu l u s3.heap.objs.size Q I4 r1 (Heap.IsSliceOf.new ..) pl pu q3
 show wpAny (model X.prog X.w) X.A (subscriptTail e (.Slice lo hi none p2) v (.ref s3.heap.objs.size)) (EP X pins σ Q) X.xe { s3 with heap:=s3.heap.push { cls:=.type "slice",data:=.fields #[vl,vu,.none]}}
 exact tail_any (ops:=[.ref s3.heap.objs.size,v]) ht hT hg (by with_unfolding_all rfl)
def cutV(xs:List V)(lo hi:Option Int):List V:=(xs.drop (HT.sIx xs.length 0 lo)).take (HT.sIx xs.length xs.length hi-HT.sIx xs.length 0 lo)
theorem c6g(xs:List V)(lo hi:Option Int):(cutV xs lo hi).length<=xs.length:=by
 unfold cutV
 rw[Wd,Y7]
 omega
def rCatT(K:W.Frag):R2:=fun x y H Q=>∃a b xs ys,x=.ref a/\y=.ref b/\SqT K H a xs/\SqT K H b ys/\xs≠[]/\xs.length+ys.length<=sizeLine/\
 (ys=[]->Q (.ref a) H)/\(ys≠[]->∀p,H p=none->Q (.ref p) (upd H p (.tup (xs++ys))))
theorem Vals.nil_iff{xs:List V}{us:List Value}(r:Vals xs us):us=[]↔xs=[]:=by
 cases r with
 |nil=>simp
 |cons _ _=>simp
theorem op_catT:OpR X (binaryOp .Add) (rCatT X.K):=by
 intro pins s σ H x y v u Q I rx ry h
 obtain⟨a,b,xs,ys,rfl,rfl,ha,hb,hx,hz,q1,q2⟩:=h
 cases rx
 cases ry
 obtain⟨its,r1,p1,_⟩:=I.tuple ha
 obtain⟨its2,r2,p2,_⟩:=I.tuple hb
 refine HT.cat_tup p1 p2 (fun z=>hx (r1.nil_iff.mp z)) (fun z=>⟨.ref a,H,I,rfl,q1 (r2.nil_iff.mp z)⟩) (fun z=>?_) (by rw[<-r1.length,<-r2.length];exact hz)
 refine⟨.ref s.heap.objs.size,_,I.laid (t':=s.toks) (o:=.tup (xs++ys)) (fun b ob q=>Zf _ q) (Zb _) ?_,rfl,q2 (fun w=>z (r2.nil_iff.mpr w)) _ (I.hok.fresh (Zb _))⟩
 exact⟨by rw[Za];exact hz,_,r1.append r2,IsTup.new _ _⟩
end
def ixN(n:Nat)(i:Int):Option Nat:=if 0<=i then(if i<n then some i.toNat else none)else if -(n:Int)<=i then some (i+n).toNat else none
def atI{α:Type}(xs:List α)(i:Int):Option α:=(ixN xs.length i).bind fun j=>xs[j]?
theorem ixN_seq{n:Nat}{i:Int}{j:Nat}(h:ixN n i=some j):seqIndex? i n=some j/\j<n/\-(n:Int)<=i/\i<n:=by
 unfold ixN at h
 by_cases h0:0<=i
 ·rw[if_pos h0]at h
  by_cases h1:i<n
  ·rw[if_pos h1]at h
   have e:i.toNat=j:=Zo h
   exact⟨by rw[seqIndex_of h0 h1,e],by omega,by omega,h1⟩
  ·rw[if_neg h1]at h;cases h
 ·rw[if_neg h0]at h
  by_cases h1:-(n:Int)<=i
  ·rw[if_pos h1]at h
   have e:(i+n).toNat=j:=Zo h
   exact⟨by rw[seqIndex_neg (by omega) h1,e],by omega,h1,by omega⟩
  ·rw[if_neg h1]at h;cases h
theorem b6x{α:Type}{xs:List α}{i:Int}{v:α}(h:atI xs i=some v):∃j,seqIndex? i xs.length=some j/\xs[j]? =some v/\j<xs.length/\-(xs.length:Int)<=i/\i<xs.length:=by
 unfold atI at h
 cases e:ixN xs.length i with
 |none=>rw[e]at h;cases h
 |some j=>
  rw[e]at h
  obtain⟨h1,h2,h3,h4⟩:=ixN_seq e
  exact⟨j,h1,h,h2,h3,h4⟩
theorem a6y{α:Type}{xs:List α}{j:Nat}{v:α}(h:xs[j]? =some v):atI xs (j:Int)=some v:=by
 have hj:j<xs.length:=(Yy.mp h).1
 have e:ixN xs.length (j:Int)=some j:=by
  unfold ixN
  rw[if_pos (by omega),if_pos (by omega)];simp
 unfold atI;rw[e];exact h
theorem c3u{α:Type}(xs:List α)(v:α):atI (xs++[v]) (-1)=some v:=by
 have hl:(xs++[v]).length=xs.length+1:=by simp
 have e:ixN (xs++[v]).length (-1)=some xs.length:=by
  unfold ixN
  rw[hl,if_neg (by decide),if_pos (by omega)]
  congr 1
  omega
 unfold atI
 rw[e]
 show(xs++[v])[xs.length]? =some v
 simp
def PlainIx(b:Expr):Prop:=∀o i,subscripted b false o i=operate [o,i] (getItem o i)
def IxR(X:Cx)(r:R2):Prop:=
 ∀(value slice:Expr)(pins:List (Addr×Obj))(s:Shared)(σ:St)(H:Hp)(x y:V)(v u:Value)(Q:VK),Inv X pins σ H s->RelV x v->RelV y u->r x y H Q->
  subscripted slice false v u=operate [v,u] (getItem v u)->wpAny (model X.prog X.w) X.A (subscriptTail value slice v u) (EP X pins σ Q) X.xe s
def MtR(X:Cx)(id:String)(r:V->List V->Hp->VK->Prop):Prop:=
 ∀(pins:List (Addr×Obj))(s:Shared)(σ:St)(H:Hp)(x:V)(xs:List V)(v:Value)(us:List Value)(Q:VK),Inv X pins σ H s->RelV x v->Vals xs us->r x xs H Q->
  wpAny (model X.prog X.w) X.A (call (.builtin id) (v::us)) (EP X pins σ Q) X.xe s
section
variable{X:Cx}{a b:Expr}{ta tb:TE}{pos:Pos}
theorem IxR.or{r r':R2}(h:IxR X r)(h':IxR X r'):IxR X (fun x y H Q=>r x y H Q\/r' x y H Q):=by
 intro value slice pins s σ H x y v u Q I rx ry q hs
 rcases q with q|q
 ·exact h value slice pins s σ H x y v u Q I rx ry q hs
 ·exact h' value slice pins s σ H x y v u Q I rx ry q hs
theorem a0r{r:R2}(hr:IxR X r)(ha:PE X a ta)(hb:PE X b tb)(hs:PlainIx b):PE X (.Subscript a b pos) (tOp r ta tb):=by
 intro pins s σ H Q I h
 exact T6 (binT ha hb I h fun v u s2 x y H2 I2 rx ry q=>hr a b pins s2 σ H2 x y v u Q I2 rx ry q (hs _ _))
def rIxL(K:W.Frag):R2:=fun x y H Q=>∃p xs i v,x=.ref p/\y=.int i/\SqL K H p xs/\atI xs i=some v/\Q v H
def rIxT(K:W.Frag):R2:=fun x y H Q=>∃p xs i v,x=.ref p/\y=.int i/\SqT K H p xs/\atI xs i=some v/\Q v H
def rIxS:R2:=fun x y H Q=>∃z i c,x=.str z/\y=.int i/\z.length<=sizeLine/\atI z.cps.toList i=some c/\Q (.str ⟨#[c]⟩) H
theorem ix_list:IxR X (rIxL X.K):=by
 intro value slice pins s σ H x y v u Q I rx ry h hs
 obtain⟨p,xs,i,z,rfl,rfl,hq,he,q⟩:=h
 cases rx
 obtain⟨t,rfl⟩:=ry
 obtain⟨its,r,pl,hz⟩:=I.list hq
 obtain⟨j,h1,h2,h3,h4,h5⟩:=b6x he
 obtain⟨w,ew,rw'⟩:=r.get h2
 have hl:=r.length
 have hn:=b5l
 have fin:EP X pins σ Q w s:=⟨z,H,I,rw',q⟩
 by_cases h0:0<=i
 ·have hj:i.toNat=j:=by
   rw[seqIndex_of h0 h5]at h1
   exact Zo h1
  exact item_listR pl.isList h0 (by omega) (by rw[hj];simpa using ew) fin hs
 ·have hj:(i+(its.toArray.size:Int)).toNat=j:=by
   rw[seqIndex_neg (by omega) h4]at h1
   rw[Zh,<-hl]
   exact Zo h1
  exact U5 (x:=w) pl.isList.typeIs slot_list_getitem.lookup
   (wpAny_getItem_list_neg (Q:=fun r s'=>r=w/\EP X pins σ Q r s') pl.isList (by omega) (by rw[Zh]<;>omega) (by omega) (by rw[hj];simpa using ew) ⟨rfl,fin⟩) hs
theorem ix_tup:IxR X (rIxT X.K):=by
 intro value slice pins s σ H x y v u Q I rx ry h hs
 obtain⟨p,xs,i,z,rfl,rfl,hq,he,q⟩:=h
 cases rx
 obtain⟨t,rfl⟩:=ry
 obtain⟨its,r,pl,hz⟩:=I.tuple hq
 obtain⟨j,h1,h2,h3,h4,h5⟩:=b6x he
 obtain⟨w,ew,rw'⟩:=r.get h2
 have hl:=r.length
 have hn:=b5l
 have fin:EP X pins σ Q w s:=⟨z,H,I,rw',q⟩
 exact U5 (x:=w) pl.typeIs slot_tuple_getitem.lookup
  (getItem_tuple (j:=j) (Q:=fun r s'=>r=w/\EP X pins σ Q r s') pl (by omega) (by omega) (by rw[Zh,<-hl];exact h1) (by simpa using ew) ⟨rfl,fin⟩) hs
theorem ix_str:IxR X rIxS:=by
 intro value slice pins s σ H x y v u Q I rx ry h hs
 obtain⟨z,i,c,rfl,rfl,hz,he,q⟩:=h
 obtain⟨t,rfl⟩:=rx
 obtain⟨t',rfl⟩:=ry
 obtain⟨j,h1,h2,h3,h4,h5⟩:=b6x he
 have hl:z.cps.toList.length=z.length:=by simp[Str.length]
 rw[hl]at h1 h4 h5
 have hn:=b5l
 exact tail_any (T4 s z t) slot_str_getitem.lookup (getItem_str (c:=c) (by
  have e1:decide (i< -(2^63:Int))=false:=Zd (by omega)
  have e2:decide (i>=2^63)=false:=Zd (by omega)
  rw[e1,e2,Bool.or_false]) (by rw[h1];simpa using h2) ⟨.str ⟨#[c]⟩,H,I.tok _,⟨_,rfl⟩,q⟩) hs
def rIx(K:W.Frag):R2:=fun x y H Q=>rIxL K x y H Q\/rIxT K x y H Q\/rIxS x y H Q
theorem ix_seq:IxR X (rIx X.K):=ix_list.or (ix_tup.or ix_str)
theorem b5n(lo hi:Option Int)(n:Nat):(sliceBounds lo hi none n).1=((HT.sIx n 0 lo:Nat):Int)/\(sliceBounds lo hi none n).2.1=((HT.sIx n n hi:Nat):Int)/\(sliceBounds lo hi none n).2.2=1:=by
 refine⟨?_,?_,rfl⟩
 ·cases lo with
  |none=>simp[sliceBounds,HT.sIx]
  |some i=>
   simp only[sliceBounds,HT.sIx,Option.getD_none,show(1:Int)>0 by decide,if_true]
   by_cases h:i<0
   ·simp only[h,if_true]<;>omega
   ·simp only[h,Xu]<;>omega
 ·cases hi with
  |none=>simp[sliceBounds,HT.sIx]
  |some i=>
   simp only[sliceBounds,HT.sIx,Option.getD_none,show(1:Int)>0 by decide,if_true]
   by_cases h:i<0
   ·simp only[h,if_true]<;>omega
   ·simp only[h,Xu]<;>omega
theorem c2o(its:List Value)(lo hi:Option Int):slicePick its.toArray lo hi none=((its.drop (HT.sIx its.length 0 lo)).take (HT.sIx its.length its.length hi-HT.sIx its.length 0 lo)).toArray:=by
 obtain⟨h1,h2,h3⟩:=b5n lo hi its.toArray.size
 unfold slicePick
 rw[h1,h2,h3]
 simp only[sliceRange_one,pick_run,Zh]<;>rfl
def rSlL(K:W.Frag):V->Option Int->Option Int->Hp->VK->Prop:=fun x lo hi H Q=>∃a xs,x=.ref a/\SqL K H a xs/\∀p,H p=none->Q (.ref p) (upd H p (.lst (cutV xs lo hi)))
theorem sl_list:SlR X (rSlL X.K):=by
 intro pins s σ H x v vl vu lo hi sl Q I rx hs pl pu h
 obtain⟨a,xs,rfl,hx,q⟩:=h
 cases rx
 obtain⟨its,r,ht,hz⟩:=I.list hx
 have hlen:=r.length
 refine⟨"list",_,slot_list_getitem.lookup,ht.isList.typeIs,?_⟩
 refine wpAny_getItem_list_slice ht.isList hs pl pu .none (by simp) ?_ (by rw[Zh]<;>omega)
 rw[c2o,<-hlen]
 refine⟨.ref s.heap.objs.size,_,I.laid (t':=s.toks) (o:=.lst (cutV xs lo hi)) (fun b ob q=>Zf _ q) (Zb _) ?_,rfl,q _ (I.hok.fresh (Zb _))⟩
 exact⟨Ym (c6g xs lo hi) hz,_,0,(r.drop (HT.sIx xs.length 0 lo)).take (HT.sIx xs.length xs.length hi-HT.sIx xs.length 0 lo),Z4 _ rfl⟩
def b2j:V->Bool
 | .non=>true
 | .bl _=>true
 | .int _=>true
 | .str _=>true
 |_=>false
def eqV:V->V->Bool
 | .non,.non=>true
 | .bl a,.bl b=>a==b
 | .bl a,.int b=>(if a then 1 else 0)==b
 | .int a,.bl b=>a==(if b then 1 else 0)
 | .int a,.int b=>a==b
 | .str a,.str b=>a==b
 |_,_=>false
theorem eqAt_V{A:Around}{s:Shared}{y x:V}{u v:Value}(ry:RelV y u)(rx:RelV x v)(fy:b2j y=true)(fx:b2j x=true):SeqAt.EqAt A s u v (eqV y x):=by
 cases y with
 |non=>
  cases ry
  cases x with
  |non=>cases rx;exact Vu _
  |bl b=>cases rx;exact SeqAt.EqAt.none_bool b
  |int b=>obtain⟨t,rfl⟩:=rx;exact SeqAt.EqAt.none_int b t
  |str b=>obtain⟨t,rfl⟩:=rx;exact SeqAt.EqAt.none_str b t
  |_=>exact absurd (show false=true from fx) Zr
 |bl a=>
  cases ry
  cases x with
  |non=>cases rx;exact SeqAt.EqAt.bool_none a
  |bl b=>cases rx;exact SeqAt.EqAt.bool_bool a b
  |int b=>obtain⟨t,rfl⟩:=rx;exact SeqAt.EqAt.bool_int a b t
  |str b=>obtain⟨t,rfl⟩:=rx;exact SeqAt.EqAt.bool_str a b t
  |_=>exact absurd (show false=true from fx) Zr
 |int a=>
  obtain⟨t',rfl⟩:=ry
  cases x with
  |non=>cases rx;exact SeqAt.EqAt.int_none a t'
  |bl b=>cases rx;exact SeqAt.EqAt.int_bool a t' b
  |int b=>obtain⟨t,rfl⟩:=rx;exact T8 a t' b t
  |str b=>obtain⟨t,rfl⟩:=rx;exact Vb a t' b t
  |_=>exact absurd (show false=true from fx) Zr
 |str a=>
  obtain⟨t',rfl⟩:=ry
  cases x with
  |non=>cases rx;exact SeqAt.EqAt.str_none a t'
  |bl b=>cases rx;exact SeqAt.EqAt.str_bool a t' b
  |int b=>obtain⟨t,rfl⟩:=rx;exact V8 a t' b t
  |str b=>obtain⟨t,rfl⟩:=rx;exact V7 a t' b t
  |_=>exact absurd (show false=true from fx) Zr
 |_=>exact absurd (show false=true from fy) Zr
def eqU(x:V)(u:Value):Bool:=match u with
 | .none=>eqV .non x
 | .bool b=>eqV (.bl b) x
 | .int i _=>eqV (.int i) x
 | .str z _=>eqV (.str z) x
 |_=>false
theorem d0f{x y:V}{u:Value}(r:RelV y u)(f:b2j y=true):eqU x u=eqV y x:=by
 cases y with
 |non=>cases r;rfl
 |bl b=>cases r;rfl
 |int i=>obtain⟨t,rfl⟩:=r;rfl
 |str z=>obtain⟨t,rfl⟩:=r;rfl
 |_=>exact absurd (show false=true from f) Zr
theorem c0i{x:V}:∀{xs:List V}{us:List Value},Vals xs us->xs.all b2j=true->us.any (eqU x)=xs.any fun y=>eqV y x
 |_,_,.nil,_=>rfl
 |y::xs,u::us,.cons r t,f=>by
  rw[U2,Y2]at f
  rw[Vh,Vh,d0f r f.1,c0i t f.2]
theorem b7t{A:Around}{s:Shared}{x:V}{v:Value}(rx:RelV x v)(fx:b2j x=true):∀{xs:List V}{us:List Value},Vals xs us->xs.all b2j=true->∀u∈us,SeqAt.EqAt A s u v (eqU x u)
 |_,_,.nil,_=>fun u hu=>by cases hu
 |y::xs,u::us,.cons r t,f=>fun u' hu=>by
  rw[U2,Y2]at f
  rcases Zk.mp hu with rfl|hu
  ·rw[d0f r f.1];exact eqAt_V r rx f.1 fx
  ·exact b7t rx fx t f.2 u' hu
def inV(x:V)(xs:List V):Bool:=xs.any fun y=>eqV y x
def rIn(K:W.Frag)(neg:Bool):R2:=fun x y H Q=>∃p xs,y=.ref p/\(SqL K H p xs\/SqT K H p xs)/\b2j x=true/\xs.all b2j=true/\Q (.bl (if neg then !inV x xs else inV x xs)) H
theorem d0g:OpR X (compareOp .In) (rIn X.K false):=by
 intro pins s σ H x y v u Q I rx ry h
 obtain⟨p,xs,rfl,hq,fx,fs,q⟩:=h
 cases ry
 rcases hq with hq|hq
 ·obtain⟨its,r,pl,hz⟩:=I.list hq
  refine SeqAt.in_listAt (eqU x) pl.isList (fun w hw=>b7t rx fx r fs w (by simpa using hw)) ⟨.bl _,H,I,rfl,?_⟩
  rw[show its.toArray.any (eqU x)=its.any (eqU x) by simp,c0i r fs]
  exact q
 ·obtain⟨its,r,pl,hz⟩:=I.tuple hq
  refine SeqAt.in_tupleAt (eqU x) pl (fun w hw=>b7t rx fx r fs w (by simpa using hw)) ⟨.bl _,H,I,rfl,?_⟩
  rw[show its.toArray.any (eqU x)=its.any (eqU x) by simp,c0i r fs]
  exact q
theorem c2p:a5c X (.type "tuple") (fun xs H Q=>∃p ys,xs=[.ref p]/\((SqL X.K H p ys/\∀l,H l=none->Q (.ref l) (upd H l (.tup ys)))\/(SqT X.K H p ys/\Q (.ref p) H))):=by
 intro pins s σ H xs us Q I r h
 obtain⟨p,ys,rfl,h⟩:=h
 obtain⟨u,rfl,rx⟩:=vals1 r
 cases rx
 rcases h with⟨hq,q⟩|⟨hq,q⟩
 ·obtain⟨its,r',pl,hz⟩:=I.list hq
  have hlen:=r'.length
  refine call_tuple_list pl.isList (fun h' kp=>?_) (by simp only[Zh]<;>omega)
  have I1:Inv X pins σ H { s with heap:=h'}:=I.kept (t':=s.toks) kp
  have I2:Inv X pins σ (upd H h'.objs.size (.tup ys)) { s with heap:=h'.push { cls:=.type "tuple",data:=.seq its.toArray}}:=
   I1.laid (t':=s.toks) (fun b o e=>Zf _ e) (Zb _) (show a2b X.prog X.w _ _ _ (.tup ys)from⟨hz,its,r',IsTup.new _ _⟩)
  exact⟨.ref h'.objs.size,_,I2,rfl,q _ (I1.hok.fresh (Zb _))⟩
 ·obtain⟨its,r',pl,hz⟩:=I.tuple hq
  exact call_tuple_same pl ⟨.ref p,H,I,rfl,q⟩
def tyV(K:W.Frag)(T:String)(x:V)(H:Hp):Prop:=match x with
 | .str _=>T="str"
 | .int _=>T="int"
 | .ref p=>(T="list"/\∃xs,SqL K H p xs)\/(T="tuple"/\∃o,K.lookup p=some o/\o.cls=.type "tuple"/\o.dict=none)\/
   (T="dict"/\((∃kvs,H p=some (.dK kvs))\/∃kvs,H p=some (.dT kvs)))\/(T="set"/\∃S n,H p=some (.set S n))
 |_=>False
theorem d0h{pins:List (Addr×Obj)}{σ:St}{H:Hp}{s:Shared}{T:String}{x:V}{v:Value}(I:Inv X pins σ H s)(r:RelV x v)(ty:tyV X.K T x H):
  s.TypeIs v T/\∀a,v=.ref a->∃ob,s.heap.get? a=some ob/\ob.dict=none:=by
 cases x with
 |str z=>
  obtain⟨t,rfl⟩:=r
  cases(show T="str" from ty)
  exact⟨T4 s z t,fun _ e=>nomatch e⟩
 |int i=>
  obtain⟨t,rfl⟩:=r
  cases(show T="int" from ty)
  exact⟨T5 s i t,fun _ e=>nomatch e⟩
 |ref p=>
  cases r
  rcases ty with⟨rfl,xs,hq⟩|⟨rfl,o,hk,hc,hd⟩|⟨rfl,hk⟩|⟨rfl,S,n,hk⟩
  ·obtain⟨its,_,pl,_⟩:=I.list hq
   refine⟨pl.isList.typeIs,fun a e=>?_⟩
   cases e
   obtain⟨o,n,e,c,hd,_⟩:=pl
   exact⟨o,e,hd⟩
  ·refine⟨⟨o,I.kIn p o hk,hc⟩,fun a e=>?_⟩
   cases e
   exact⟨o,I.kIn _ o hk,hd⟩
  ·have z:∃o,s.heap.get? p=some o/\o.ExactDict:=by
    rcases hk with⟨kvs,hk⟩|⟨kvs,hk⟩
    ·obtain⟨_,_,_,_,o,_,_,e,ex,_⟩:=I.hok p _ hk
     exact⟨o,e,ex⟩
    ·obtain⟨_,_,_,_,o,_,_,e,ex,_⟩:=I.hok p _ hk
     exact⟨o,e,ex⟩
   obtain⟨o,e,ex⟩:=z
   refine⟨⟨o,e,ex.1⟩,fun a e2=>?_⟩
   cases e2
   exact⟨o,e,ex.2.1⟩
  ·obtain⟨o,_,_,_,e,ex,_⟩:=I.hok p _ hk
   refine⟨⟨o,e,ex.1⟩,fun a e2=>?_⟩
   cases e2
   exact⟨o,e,ex.2.1⟩
 |_=>exact False.elim ty
def tBM0(K:W.Frag)(T:String)(r:V->List V->Hp->VK->Prop)(to:TE):TE:=fun σ H Q=>to σ H fun x H1=>tyV K T x H1/\r x [] H1 Q
def tBM(K:W.Frag)(T:String)(r:V->List V->Hp->VK->Prop)(to:TE)(t:TA):TE:=fun σ H Q=>to σ H fun x H1=>tyV K T x H1/\t σ H1 fun xs H2=>r x xs H2 Q
variable{o e:Expr}{es:List Expr}{to:TE}{t:TA}{name:Str}{apos cpos:Pos}{T id:String}{r:V->List V->Hp->VK->Prop}
theorem pe_bm0(pa:PlainAttrs T)(slot:Slot T name id)(hty:typeOf (.builtin id)=pure (.type "method_descriptor"))(hm:MtR X id r)(ho:PE X o to)
  (hbase:attributeBase o name X.env (eval o X.env)=eval o X.env:=by rfl)(hline:(apos.endLine==cpos.line)=true:=by rfl):PE X (.Call (.Attribute o name apos) [] [] cpos) (tBM0 X.K T r to):=by
 intro pins s σ H Q I h
 refine wpAny_Call_method0_late hbase hline (thn (ho pins s σ H _ I h) fun v s1 ⟨x,H1,I1,r1,ty,q1⟩=>?_)
 obtain⟨h1,h2⟩:=d0h I1 r1 ty
 exact⟨T,id,pa,slot,hty,h1,h2,Vs rfl (PySem.evalArgs_none (hm pins s1 σ H1 x [] v [] Q I1 r1 .nil q1))⟩
theorem pe_bm(pa:PlainAttrs T)(slot:Slot T name id)(hty:typeOf (.builtin id)=pure (.type "method_descriptor"))(hm:MtR X id r)(ho:PE X o to)(ha:PA X (e::es) t)
  (hbase:attributeBase o name X.env (eval o X.env)=eval o X.env:=by rfl)
  (hfew:((backTo cpos (starEach (e::es) X.env)).all (fun x=>!x.1)&&(backToKw cpos (keywordEach [] X.env)).all (fun x=>x.1.isSome)
   &&decide ((e::es).length+([]:List Keyword).length+(if([]:List Keyword).isEmpty then 0 else 1)<30))=true:=by rfl)
  (hline:(apos.endLine==cpos.line)=true:=by rfl)(hs:starEach (e::es) X.env=(false,eval e X.env)::starEach es X.env:=by rfl)(hplain:(backTo cpos (starEach es X.env)).any (·.1)=false:=by rfl):
  PE X (.Call (.Attribute o name apos) (e::es) [] cpos) (tBM X.K T r to t):=by
 intro pins s σ H Q I h
 refine wpAny_Call_method_late hbase hfew hline rfl (thn (ho pins s σ H _ I h) fun v s1 ⟨x,H1,I1,r1,ty,q1⟩=>?_)
 obtain⟨h1,h2⟩:=d0h I1 r1 ty
 refine⟨T,id,pa,slot,hty,h1,h2,?_⟩
 have hA:=ha cpos pins s1 σ H1 _ I1 q1
 rw[hs]at hA ⊢
 refine Vs (by show(false|| (backTo cpos (starEach es X.env)).any (·.1))=false;rw[hplain]<;>rfl) (Ts ?_)
 exact thn hA fun us s2 ⟨vs,H2,I2,r2,q2⟩=>hm pins s2 σ H2 x vs v us Q I2 r1 r2 q2
end
def MtM(X:Cx)(id:String)(r:V->List V->Hp->VK->Prop):Prop:=
 ∀(pins:List (Addr×Obj))(s:Shared)(σ:St)(H:Hp)(x:V)(xs:List V)(v:Value)(us:List Value)(Q:VK),Inv X pins σ H s->RelV x v->Vals xs us->r x xs H Q->
  wpAny (model X.prog X.w) X.A (call (.builtin id) (v::us)) (EP X pins σ Q) X.xe s
theorem Vals.one:∀{x:V}{us:List Value},Vals [x] us->∃u,us=[u]/\RelV x u
 |_,_,.cons r .nil=>⟨_,rfl,r⟩
theorem Vals.zero:∀{us:List Value},Vals [] us->us=[]
 |_,.nil=>rfl
theorem Vals.dropLast{xs:List V}{us:List Value}(h:Vals xs us):Vals xs.dropLast us.dropLast:=by
 induction h with
 |nil=>exact .nil
 |cons r t ih=>
  cases t with
  |nil=>exact .nil
  |cons q t'=>exact .cons r ih
theorem Vals.reverse{xs:List V}{us:List Value}(h:Vals xs us):Vals xs.reverse us.reverse:=by
 induction h with
 |nil=>exact .nil
 |cons r t ih=>rw[Yb,Yb];exact Vals.append ih (.cons r .nil)
theorem Vals.rep{xs:List V}{us:List Value}(h:Vals xs us):∀k:Nat,Vals (List.replicate k xs).flatten (List.replicate k us).flatten
 |0=>.nil
 |k+1=>by
  rw[Wf,Wf,X9,X9]
  exact Vals.append h (Vals.rep h k)
theorem c8l{α:Type}(l:List α):l.eraseIdx (l.length-1)=l.dropLast:=by
 induction l with
 |nil=>rfl
 |cons a r ih=>
  cases r with
  |nil=>rfl
  |cons b r=>
   have e:(a::b::r).length-1=((b::r).length-1)+1:=by
    have h1:(a::b::r).length=r.length+2:=rfl
    have h2:(b::r).length=r.length+1:=rfl
    omega
   rw[e,List.eraseIdx_cons_succ,ih]
   all_goals rfl
theorem foldl_rep(its:List Value):∀(k:Nat)(acc:List Value),
  List.foldl (fun x1 x2=>x1++x2) acc.toArray (List.replicate k its.toArray)=(acc++(List.replicate k its).flatten).toArray
 |0,acc=>by simp
 |k+1,acc=>by
  have e:acc.toArray++its.toArray=(acc++its).toArray:=by simp
  have e2:(acc++its)++(List.replicate k its).flatten=acc++(List.replicate (k+1) its).flatten:=by
   rw[Wf,X9,Zx]
  rw[<-e2,<-foldl_rep its k (acc++its),<-e,Wf,Vv]
section
variable{X:Cx}{pins:List (Addr×Obj)}{σ:St}{H:Hp}{s:Shared}{l b:Addr}{xs ys zs:List V}
theorem Inv.lset{its its':List Value}{n:Nat}{f:Array Value->Array Value}{t':Nat}(I:Inv X pins σ H s)(hH:H l=some (.lst xs))
  (e:s.heap.get? l=some { cls:=.type "list",data:=.seq its.toArray n})(hf:f its.toArray=its'.toArray)(hv:Vals ys its')(hz:ys.length<=sizeLine):
  Inv X pins σ (upd H l (.lst ys)) { s with heap:=s.heap.update l (Obj.mapSeq f),toks:=t'}:=by
 have q:=PySem.IsL.update e f
 rw[hf]at q
 refine I.write (x:=l) (e:=l) (by rw[hH];exact trivial) (.inl rfl) (fun b' u hb hu=>(Ys s.heap (Obj.mapSeq f) (Ne.symm hb)).trans hu) ⟨_,q⟩ ?_
 exact⟨hz,its',_,hv,q⟩
theorem Inv.lnew{its:List Value}{t':Nat}(I:Inv X pins σ H s)(hv:Vals ys its)(hz:ys.length<=sizeLine):
  Inv X pins σ (upd H s.heap.objs.size (.lst ys)) { s with heap:=s.heap.push { cls:=.type "list",data:=.seq its.toArray},toks:=t'}:=
 I.laid (fun _ _ q=>Zf _ q) (Zb _) ⟨hz,its,0,hv,Z4 _ rfl⟩
theorem Inv.fresh(I:Inv X pins σ H s):H s.heap.objs.size=none:=I.hok.fresh (Zb _)
theorem Inv.lstM(I:Inv X pins σ H s)(hH:H l=some (.lst xs)):xs.length<=sizeLine/\∃(its:List Value)(n:Nat),Vals xs its/\xs.length=its.length/\s.heap.get? l=some { cls:=.type "list",data:=.seq its.toArray n}:=by
 obtain⟨z,its,n,r,e⟩:=I.hok l _ hH
 exact⟨z,its,n,r,r.length,e⟩
theorem b7u{n:Nat}(h:n<=sizeLine):Builtin.List.listTooLong n=false:=by
 unfold Builtin.List.listTooLong
 exact Zd (by omega)
end
section
variable{X:Cx}
def rAppend:V->List V->Hp->VK->Prop:=fun x vs H Q=>∃l xs y,x=.ref l/\vs=[y]/\H l=some (.lst xs)/\xs.length<sizeLine/\Q .non (upd H l (.lst (xs++[y])))
theorem c1z:MtM X "list.append" rAppend:=by
 intro pins s σ H x vs v us Q I rx rv h
 obtain⟨l,xs,y,rfl,rfl,hH,hz,q⟩:=h
 cases rx
 obtain⟨u,rfl,ru⟩:=rv.one
 obtain⟨z,its,n,r,hl,e⟩:=I.lstM hH
 refine Va Z6 ⟨_,e,rfl⟩ F.entry_list_append (F.args_list_append_2 _ _) (PySem.list_append l its.toArray n u (by rw[Zh];omega)) ⟨e,?_⟩
 refine⟨.non,_,I.lset (its':=its++[u]) hH e (by simp) (r.append (.cons ru .nil)) ?_,rfl,q⟩
 rw[Za,Yz]
 omega
def rExtend:V->List V->Hp->VK->Prop:=fun x vs H Q=>∃l b xs zs,x=.ref l/\vs=[.ref b]/\H l=some (.lst xs)/\H b=some (.lst zs)/\xs.length+zs.length<=sizeLine/\Q .non (upd H l (.lst (xs++zs)))
theorem d0i:MtM X "list.extend" rExtend:=by
 intro pins s σ H x vs v us Q I rx rv h
 obtain⟨l,b,xs,zs,rfl,rfl,hH,hB,hz,q⟩:=h
 cases rx
 obtain⟨u,rfl,ru⟩:=rv.one
 cases ru
 obtain⟨z,its,n,r,hl,e⟩:=I.lstM hH
 obtain⟨z2,its2,n2,r2,hl2,e2⟩:=I.lstM hB
 have hsz:its.toArray.size+its2.toArray.size<=sizeLine:=by rw[Zh,Zh];omega
 have hlong:¬(!its.toArray.isEmpty&&Builtin.List.listTooLong (its.toArray.size+its2.toArray.size))=true:=by
  rw[b7u hsz,Wa]
  exact Zr
 refine Va Wm ⟨_,e,rfl⟩ T1 (Tr _ _)
  (AutoSeq1.list_extend_list_list_0 l its.toArray n b its2.toArray n2 hlong (by rw[Zh];omega) (by omega)) ⟨e,e2,?_⟩
 refine⟨.non,_,I.lset (its':=its++its2) hH e (by simp) (r.append r2) ?_,rfl,q⟩
 rw[Za]
 omega
def rPop:V->List V->Hp->VK->Prop:=fun x vs H Q=>∃l xs y,x=.ref l/\vs=[]/\H l=some (.lst xs)/\xs[xs.length-1]? =some y/\Q y (upd H l (.lst xs.dropLast))
theorem mt_pop:MtM X "list.pop" rPop:=by
 intro pins s σ H x vs v us Q I rx rv h
 obtain⟨l,xs,y,rfl,rfl,hH,hy,q⟩:=h
 cases rx
 have hus:=rv.zero
 subst hus
 obtain⟨z,its,n,r,hl,e⟩:=I.lstM hH
 obtain⟨u,hu,ru⟩:=r.get hy
 have hy':its.toArray[its.toArray.size-1]? =some u:=by
  show its.toArray[its.length-1]? =some u
  rw[<-Tg,<-hl]
  exact hu
 refine Va Xi ⟨_,e,rfl⟩ F.entry_list_pop (F.args_list_pop_1 _) (MeetsSeq.list_pop_last l its.toArray n u hy' (by rw[Zh];omega)) ⟨e,?_⟩
 refine⟨y,_,I.lset (its':=its.dropLast) hH e ?_ r.dropLast ?_,ru,q⟩
 ·show its.toArray.eraseIdxIfInBounds (its.toArray.size-1)=its.dropLast.toArray
  rw[Zh,List.eraseIdxIfInBounds_toArray,c8l]
 ·rw[List.length_dropLast]
  omega
def d3v:V->List V->Hp->VK->Prop:=fun x vs H Q=>∃l xs,x=.ref l/\vs=[]/\H l=some (.lst xs)/\Q .non (upd H l (.lst xs.reverse))
theorem c8m:MtM X "list.reverse" d3v:=by
 intro pins s σ H x vs v us Q I rx rv h
 obtain⟨l,xs,rfl,rfl,hH,q⟩:=h
 cases rx
 have hus:=rv.zero
 subst hus
 obtain⟨z,its,n,r,hl,e⟩:=I.lstM hH
 refine Va Tz ⟨_,e,rfl⟩ F.entry_list_reverse (F.args_list_reverse_1 _) (AutoSeq1.list_reverse_list_0 l its.toArray n (by rw[Zh];omega)) ⟨e,?_⟩
 refine⟨.non,_,I.lset (its':=its.reverse) hH e (by simp) r.reverse ?_,rfl,q⟩
 rw[Z7]
 omega
def rCat:R2:=fun x y H Q=>∃l b xs zs,x=.ref l/\y=.ref b/\H l=some (.lst xs)/\H b=some (.lst zs)/\xs.length+zs.length<=sizeLine/\∀p,H p=none->Q (.ref p) (upd H p (.lst (xs++zs)))
theorem op_cat:OpR X (binaryOp .Add) rCat:=by
 intro pins s σ H x y v u Q I rx ry h
 obtain⟨l,b,xs,zs,rfl,rfl,hH,hB,hz,q⟩:=h
 cases rx
 cases ry
 obtain⟨z,its,n,r,hl,e⟩:=I.lstM hH
 obtain⟨z2,its2,n2,r2,hl2,e2⟩:=I.lstM hB
 refine PySem.P.add_list e e2 ?_ (by rw[Zh,Zh];omega)
 have ea:its.toArray++its2.toArray=(its++its2).toArray:=by simp
 rw[ea]
 exact⟨.ref _,_,I.lnew (t':=s.toks) (r.append r2) (by rw[Za];omega),rfl,q _ I.fresh⟩
def rRep:R2:=fun x y H Q=>∃l k xs,x=.ref l/\y=.int k/\H l=some (.lst xs)/\-(2^63)<=k/\k<2^63/\xs.length*k.toNat<=sizeLine/\
 ∀p,H p=none->Q (.ref p) (upd H p (.lst (List.replicate k.toNat xs).flatten))
theorem len_rep{α:Type}(xs:List α)(k:Nat):(List.replicate k xs).flatten.length=k*xs.length:=by
 induction k with
 |zero=>simp
 |succ k ih=>rw[Wf,X9,Za,ih,Nat.succ_mul,Nat.add_comm]
theorem op_rep:OpR X (binaryOp .Mult) rRep:=by
 intro pins s σ H x y v u Q I rx ry h
 obtain⟨l,k,xs,rfl,rfl,hH,h1,h2,hz,q⟩:=h
 cases rx
 obtain⟨t,rfl⟩:=ry
 obtain⟨z,its,n,r,hl,e⟩:=I.lstM hH
 have hlen:its.toArray.size*k.toNat<=sizeLine:=by rw[Zh,<-hl];exact hz
 have hcap:¬its.toArray.size*k.toNat>(2^63-1)/8:=by
  have:(sizeLine:Nat)<=(2^63-1)/8:=by decide
  omega
 have hfit:¬(!Builtin.List.listFitsIndex k)=true:=by
  rw[fitsIndex_both h1 h2]
  exact Zr
 have hlong:¬Builtin.List.listTooLong (its.toArray.size*k.toNat)=true:=by
  rw[b7u hlen]
  exact Zr
 have hnew:List.foldl (fun x1 x2=>x1++x2) #[] (List.replicate (if its.toArray.isEmpty=true then 0 else k.toNat) its.toArray)=(List.replicate k.toNat its).flatten.toArray:=by
  have f0:∀m:Nat,List.foldl (fun x1 x2=>x1++x2) #[] (List.replicate m its.toArray)=(List.replicate m its).flatten.toArray:=fun m=>by
   have:=foldl_rep its m []
   rw[Y6]at this
   exact this
  rw[f0]
  cases its with
  |nil=>simp
  |cons a r'=>rw[if_neg (by simp)]
 refine wpAny_binaryOp_repeat_ref (T:="list") (U:="int") (by decide) ⟨_,e,rfl⟩ (fun s'=>T5 s' k t) noFill_list_mul F.fills_int_mul F.slot_int_rmul repeat_list F.slot_int_index.lookup
  (Va F.slot_int_rmul (T5 s k t) F.entry_int_rmul (F.args_int_rmul_2 _ _) (int___rmul___int_list k t l its.toArray n)
   ⟨e,rfl,⟨_,e,rfl⟩,Va F.slot_list_mul ⟨_,e,rfl⟩ F.entry_list_mul (F.args_list_mul_2 _ _) (AutoListH.list___mul___list_int_3 l its.toArray n k t hfit hcap hlong) ⟨e,?_⟩⟩)
 rw[hnew]
 exact⟨.ref _,_,I.lnew (t':=s.toks) (r.rep k.toNat) (by rw[len_rep,Nat.mul_comm];exact hz),rfl,q _ I.fresh⟩
end
section
variable{κ:Type}[DecidableEq κ]
def valV(kvs:List (κ×V))(k:κ):Option V:=(kvs.find? fun kv=>decide (kv.1=k)).map (·.2)
def putK(kvs:List (κ×V))(k:κ)(v:V):List (κ×V):=
 if(kvs.any fun kv=>decide (kv.1=k))=true then kvs.map (fun kv=>if kv.1=k then(kv.1,v)else kv)else kvs++[(k,v)]
theorem a3z{p:κ×V}{r:List (κ×V)}{k:κ}(e:p.1=k):valV (p::r) k=some p.2:=by simp[valV,Wj,e]
theorem a3k{p:κ×V}{r:List (κ×V)}{k:κ}(e:¬p.1=k):valV (p::r) k=valV r k:=by simp[valV,Wj,e]
theorem b1k(k:κ):∀kvs:List (κ×V),(kvs.any fun kv=>decide (kv.1=k))=(valV kvs k).isSome
 | []=>rfl
 |p::r=>by
  rw[Vh]
  by_cases e:p.1=k
  ·simp only[a3z e,Zg e,Bool.true_or,Option.isSome_some]
  ·rw[a3k e,Zd e,Bool.false_or];exact b1k k r
theorem c3v(k j:κ)(y:V):∀kvs:List (κ×V),valV (kvs.map fun kv=>if kv.1=k then(kv.1,y)else kv) j=(valV kvs j).map fun x=>if j=k then y else x
 | []=>rfl
 |p::r=>by
  have ih:=c3v k j y r
  rw[Zp]
  by_cases h:p.1=k
  ·rw[if_pos h]
   by_cases e:p.1=j
   ·rw[a3z (p:=(p.1,y)) e,a3z e,Xh,if_pos (e.symm.trans h)]
   ·rw[a3k (p:=(p.1,y)) e,a3k e,ih]
  ·rw[if_neg h]
   by_cases e:p.1=j
   ·rw[a3z (p:=p) e,a3z e,Xh,if_neg (fun z=>h (e.trans z))]
   ·rw[a3k (p:=p) e,a3k e,ih]
theorem c2a(k j:κ)(y:V):∀kvs:List (κ×V),valV kvs k=none->valV (kvs++[(k,y)]) j=if j=k then some y else valV kvs j
 | [],_=>by
  by_cases e:k=j
  ·rw[if_pos e.symm];exact a3z (p:=(k,y)) e
  ·rw[if_neg (fun z=>e z.symm)];exact a3k (p:=(k,y)) e
 |p::r,hn=>by
  rw[Zn]
  have hk:¬p.1=k:=fun z=>by rw[a3z z]at hn;cases hn
  rw[a3k hk]at hn
  have ih:=c2a k j y r hn
  by_cases e:p.1=j
  ·rw[a3z e,a3z e,if_neg (fun z=>hk (e.trans z))]
  ·rw[a3k e,a3k e,ih]
theorem b4e(kvs:List (κ×V))(k j:κ)(y:V):valV (putK kvs k y) j=if j=k then some y else valV kvs j:=by
 unfold putK
 by_cases a:(kvs.any fun kv=>decide (kv.1=k))=true
 ·rw[if_pos a,c3v]
  rw[b1k]at a
  by_cases e:j=k
  ·obtain⟨x,hx⟩:=Yu.mp a
   rw[if_pos e,e,hx,Xh,if_pos rfl]
  ·rw[if_neg e]
   cases valV kvs j with
   |none=>rfl
   |some x=>rw[Xh,if_neg e]
 ·rw[if_neg a]
  refine c2a k j y kvs ?_
  rw[b1k]at a
  cases q:valV kvs k with
  |none=>rfl
  |some x=>rw[q]at a;exact(a rfl).elim
theorem a9h(kvs:List (κ×V))(k:κ)(v:V):(putK kvs k v).length<=kvs.length+1:=by
 unfold putK
 split
 ·rw[length_map];omega
 ·rw[Za,length_cons,length_nil];omega
theorem c3w{kvs:List (κ×V)}{k:κ}(v:V)(h:valV kvs k=none):putK kvs k v=kvs++[(k,v)]:=by
 unfold putK
 rw[b1k,h]
 exact if_neg (by decide)
theorem RelO.isSome_eq{o:Option V}{u:Option Value}(r:RelO o u):o.isSome=u.isSome:=by
 cases o with
 |none=>cases u with
  |none=>rfl
  |some _=>exact(show False from r).elim
 |some _=>cases u with
  |none=>exact(show False from r).elim
  |some _=>rfl
theorem RelO.getD{o:Option V}{u:Option Value}{d:V}{d':Value}(r:RelO o u)(rd:RelV d d'):RelV (o.getD d) (u.getD d'):=by
 cases o with
 |none=>cases u with
  |none=>exact rd
  |some _=>exact(show False from r).elim
 |some _=>cases u with
  |none=>exact(show False from r).elim
  |some _=>exact r
theorem KV.val{kvs:List (κ×V)}{vs:List (κ×Value)}(r:KV kvs vs)(k:κ):RelO (valV kvs k) (valueAt vs k):=by
 unfold KV at r
 induction r with
 |nil=>exact True.intro
 | @cons p q ps qs h t ih=>
  obtain⟨h1,h2⟩:=h
  by_cases e:p.1=k
  ·have e':q.1=k:=h1.symm.trans e
   have b:valueAt (q::qs) k=some q.2:=by simp[valueAt,Wj,e']
   rw[a3z e,b];exact h2
  ·have e':¬q.1=k:=fun z=>e (h1.trans z)
   have b:valueAt (q::qs) k=valueAt qs k:=by simp[valueAt,Wj,e']
   rw[a3k e,b];exact ih
theorem KV.any{kvs:List (κ×V)}{vs:List (κ×Value)}(r:KV kvs vs)(k:κ):(kvs.any fun kv=>decide (kv.1=k))=vs.any fun kv=>decide (kv.1=k):=by
 unfold KV at r
 induction r with
 |nil=>rfl
 |cons h t ih=>rw[Vh,Vh,ih,h.1]
theorem KV.repl{kvs:List (κ×V)}{vs:List (κ×Value)}(r:KV kvs vs)(k:κ){y:V}{u:Value}(ry:RelV y u):
  KV (kvs.map fun kv=>if kv.1=k then(kv.1,y)else kv) (vs.map fun kv=>if kv.1=k then(kv.1,u)else kv):=by
 unfold KV at r ⊢
 induction r with
 |nil=>exact .nil
 | @cons p q ps qs h t ih=>
  rw[Zp,Zp]
  refine .cons ?_ ih
  obtain⟨h1,h2⟩:=h
  by_cases e:p.1=k
  ·rw[if_pos e,if_pos (h1.symm.trans e)];exact⟨h1,ry⟩
  ·rw[if_neg e,if_neg (fun z=>e (h1.trans z))];exact⟨h1,h2⟩
theorem KV.put{kvs:List (κ×V)}{vs:List (κ×Value)}(r:KV kvs vs)(k:κ){y:V}{u:Value}(ry:RelV y u):KV (putK kvs k y) (stored vs k u):=by
 unfold putK stored
 rw[r.any k]
 by_cases e:(vs.any fun kv=>decide (kv.1=k))=true
 ·rw[if_pos e,if_pos e];exact r.repl k ry
 ·rw[if_neg e,if_neg e];exact Paired.snoc r ⟨rfl,ry⟩
theorem KV.length{kvs:List (κ×V)}{vs:List (κ×Value)}(r:KV kvs vs):kvs.length=vs.length:=V6 r
end
theorem b2k{P:Program}{w:World}{k:Key}{u:Value}(r:RelV (kV k) u):(a1l P w).is k u=true:=by
 cases k with
 |inl i=>obtain⟨t,e⟩:=(show ∃t,u=Value.int i t from r);subst e;exact b3c P w i t
 |inr x=>obtain⟨t,e⟩:=(show ∃t,u=Value.str x t from r);subst e;exact b3d P w x t
theorem c2b{P:Program}{w:World}:∀{ks:List Key}{us:List Value},Vals (ks.map kV) us->ItemsAre (a1l P w) ks us
 | [],_,r=>by rw[Y3]at r;cases r;exact .nil
 |k::ks,_,r=>by
  rw[Zp]at r
  cases r with
  |cons h t=>exact .cons (b2k h) (c2b t)
abbrev KT(H:Hp):List (List Key×V)->List (List Key×Addr×Value)->Prop:=Paired fun p q=>p.1=q.1/\H q.2.1=some (.tup (p.1.map kV))/\RelV p.2 q.2.2
theorem KT.val{H:Hp}{kvs:List (List Key×V)}{xs:List (List Key×Addr×Value)}(r:KT H kvs xs)(k:List Key):RelO (valV kvs k) ((atKey xs k).map (·.2)):=by
 induction r with
 |nil=>exact True.intro
 | @cons p q ps qs h t ih=>
  obtain⟨h1,_,h2⟩:=h
  by_cases e:p.1=k
  ·have e':q.1=k:=h1.symm.trans e
   have b:atKey (q::qs) k=some q.2:=by simp[atKey,Wj,e']
   rw[a3z e,b];exact h2
  ·have e':¬q.1=k:=fun z=>e (h1.trans z)
   have b:atKey (q::qs) k=atKey qs k:=by simp[atKey,Wj,e']
   rw[a3k e,b];exact ih
theorem KT.repl{H:Hp}{kvs:List (List Key×V)}{xs:List (List Key×Addr×Value)}(r:KT H kvs xs)(k:List Key){y:V}{u:Value}(ry:RelV y u):
  KT H (kvs.map fun kv=>if kv.1=k then(kv.1,y)else kv) (xs.map (putAt k u)):=by
 induction r with
 |nil=>exact .nil
 | @cons p q ps qs h t ih=>
  rw[Zp,Zp]
  refine .cons ?_ ih
  obtain⟨h1,h2,h3⟩:=h
  unfold putAt
  by_cases e:p.1=k
  ·rw[if_pos e,if_pos (h1.symm.trans e)];exact⟨h1,h2,ry⟩
  ·rw[if_neg e,if_neg (fun z=>e (h1.trans z))];exact⟨h1,h2,h3⟩
theorem KT.put{H:Hp}{kvs:List (List Key×V)}{xs:List (List Key×Addr×Value)}(r:KT H kvs xs)(k:List Key){b:Addr}{y:V}{u:Value}(hb:H b=some (.tup (k.map kV)))(ry:RelV y u):
  KT H (putK kvs k y) (storedH xs k b u):=by
 have e:(kvs.any fun kv=>decide (kv.1=k))=(atKey xs k).isSome:=by
  rw[b1k,(r.val k).isSome_eq,Ue]
 unfold putK storedH
 rw[e]
 by_cases q:(atKey xs k).isSome=true
 ·rw[if_pos q,if_pos q];exact r.repl k ry
 ·rw[if_neg q,if_neg q];exact Paired.snoc r ⟨rfl,hb,ry⟩
theorem KT.keeps{H H':Hp}{kvs:List (List Key×V)}{xs:List (List Key×Addr×Value)}(r:KT H kvs xs)(ht:∀b ys,H b=some (.tup ys)->H' b=some (.tup ys)):KT H' kvs xs:=
 Paired.mapP r fun _ _ z=>⟨z.1,ht _ _ z.2.1,z.2.2⟩
section
variable{P:Program}{w:World}{H:Hp}{h:Heap}{a:Addr}
theorem rd_of{u:HO}(ok:HOk P w H h)(e:Rd H a u):a2b P w H h a u:=e.ok ok
theorem b2l{kvs:List (Key×V)}(ok:HOk P w H h)(e:Rd H a (.dK kvs)):kvs.length<=sizeLine/\(a==sysModules)=false/\∃vs,KV kvs vs/\h.DictOf (a1l P w) a vs:=
 show a2b P w H h a (.dK kvs)from rd_of ok e
theorem c2x{kvs:List (Key×V)}(ok:HOk P w H h)(e:H a=some (.dK kvs)):kvs.length<=sizeLine/\(a==sysModules)=false/\∃vs,KV kvs vs/\h.DictOf (a1l P w) a vs:=b2l ok (.inl e)
theorem b3p{ks:List Key}(ok:HOk P w H h)(e:H a=some (.tup (ks.map kV))):(tupleKind (a1l P w)).is h ks a:=by
 obtain⟨_,its,r,o,h1,h2,n,h3⟩:=(show a2b P w H h a (.tup (ks.map kV))from ok a _ e)
 exact⟨o,its.toArray,n,h1,h2,h3,by simpa using c2b r⟩
theorem b4f{kvs:List (List Key×V)}(ok:HOk P w H h)(e:Rd H a (.dT kvs)):kvs.length<=sizeLine/\(a==sysModules)=false/\
  ∃xs,KT H kvs xs/\h.DictOfH (tupleKind (a1l P w)) a xs:=by
 obtain⟨z,y,xs,r,o,es,ep,h1,h2,h3,h4,h5⟩:=(show a2b P w H h a (.dT kvs)from rd_of ok e)
 refine⟨z,y,xs,r,o,es,ep,h1,h2,h3,h4,fun x hx=>?_,h5⟩
 have all:∀{l:List (List Key×V)}{m:List (List Key×Addr×Value)},KT H l m->∀x∈m,(tupleKind (a1l P w)).is h x.1 x.2.1:=by
  intro l m q
  induction q with
  |nil=>intro x hx;exact nomatch hx
  | @cons p q ps qs hq t ih=>
   intro x hx
   rcases Zk.mp hx with e|hx
   ·subst e
    exact b3p ok (by rw[<-hq.1];exact hq.2.1)
   ·exact ih x hx
 exact all r x hx
theorem dt_of{kvs:List (List Key×V)}(ok:HOk P w H h)(e:H a=some (.dT kvs)):kvs.length<=sizeLine/\(a==sysModules)=false/\
  ∃xs,KT H kvs xs/\h.DictOfH (tupleKind (a1l P w)) a xs:=b4f ok (.inl e)
end
def DGet(H:Hp)(a:Addr)(y:V)(r:Option V):Prop:=
 (∃kvs k,Rd H a (.dK kvs)/\y=kV k/\r=valV kvs k)\/∃kvs k b,Rd H a (.dT kvs)/\y=.ref b/\H b=some (.tup (k.map kV))/\r=valV kvs k
def DPut(H:Hp)(a:Addr)(y v:V)(H':Hp):Prop:=
 (∃kvs k,H a=some (.dK kvs)/\y=kV k/\kvs.length<sizeLine/\H'=upd H a (.dK (putK kvs k v)))\/
 ∃kvs k b,H a=some (.dT kvs)/\y=.ref b/\H b=some (.tup (k.map kV))/\kvs.length<sizeLine/\H'=upd H a (.dT (putK kvs k v))
theorem DGet.k{H:Hp}{a:Addr}{kvs:List (Key×V)}{k:Key}(e:H a=some (.dK kvs)):DGet H a (kV k) (valV kvs k):=.inl ⟨kvs,k,.inl e,rfl,rfl⟩
theorem DPut.k{H:Hp}{a:Addr}{kvs:List (Key×V)}{k:Key}{v:V}(e:H a=some (.dK kvs))(hl:kvs.length<sizeLine):DPut H a (kV k) v (upd H a (.dK (putK kvs k v))):=.inl ⟨kvs,k,e,rfl,hl,rfl⟩
section
variable{X:Cx}{pins:List (Addr×Obj)}{σ:St}{H:Hp}{s:Shared}{a:Addr}{y v:V}{u r:Value}{o:Option V}{A:Around}{E:Value->Shared->Prop}
theorem Inv.big(I:Inv X pins σ H s):sysModules<s.heap.objs.size:=by
 have h:mainGlobals<s.heap.objs.size:=(I.mod.glob.keeps I.bk).lt
 exact Nat.lt_trans (by decide) h
theorem d0j{Q:Value->Shared->Prop}(hu:A.units+1<cLine)(I:Inv X pins σ H s)(g:DGet H a y (some v))(ry:RelV y u)(h:∀w' s',Inv X pins σ H s'->RelV v w'->Q w' s'):
  wpAny (model X.prog X.w) A (getItem (.ref a) u) Q E s:=by
 rcases g with⟨kvs,k,e,ey,l⟩|⟨kvs,k,b,e,ey,eb,l⟩
 ·subst ey
  obtain⟨z,hd,vs,rel,dd⟩:=b2l I.hok e
  obtain⟨w',hw,rw'⟩:=RelO.some_of (v:=v) (o:=valueAt vs k) (by rw[l];exact rel.val k)
  exact wpAny_getItem_of (b2k ry) dd.mapOf hw (h w' _ (I.tok _) rw')
 ·subst ey
  cases(show u=Value.ref b from ry)
  obtain⟨z,hd,xs,rel,dd⟩:=b4f I.hok e
  obtain⟨w',hw,rw'⟩:=RelO.some_of (v:=v) (o:=(atKey xs k).map (·.2)) (by rw[l];exact rel.val k)
  obtain⟨p,hp,hp2⟩:=Vp.mp hw
  refine wpAny_getItem_heap (Wk hu) (b3p I.hok eb) dd hp ?_
  rw[hp2]
  exact h w' _ (I.tok _) rw'
theorem d_in{Q:Value->Shared->Prop}(hu:A.units+1<cLine)(I:Inv X pins σ H s)(g:DGet H a y o)(ry:RelV y u)(h:∀s',Inv X pins σ H s'->Q (.bool o.isSome) s'):
  wpAny (model X.prog X.w) A (compareOp .In u (.ref a)) Q E s:=by
 rcases g with⟨kvs,k,e,ey,l⟩|⟨kvs,k,b,e,ey,eb,l⟩
 ·subst ey
  obtain⟨z,hd,vs,rel,dd⟩:=b2l I.hok e
  refine wpAny_in_of (b2k ry) hd dd.mapOf ?_
  rw[<-(rel.val k).isSome_eq,<-l]
  exact h _ (I.tok _)
 ·subst ey
  cases(show u=Value.ref b from ry)
  obtain⟨z,hd,xs,rel,dd⟩:=b4f I.hok e
  refine wpAny_in_heap (Wk hu) (b3p I.hok eb) hd dd ?_
  have q:=(rel.val k).isSome_eq
  rw[Ue]at q
  rw[<-q,<-l]
  exact h _ (I.tok _)
theorem d_notIn{Q:Value->Shared->Prop}(hu:A.units+1<cLine)(I:Inv X pins σ H s)(g:DGet H a y o)(ry:RelV y u)(h:∀s',Inv X pins σ H s'->Q (.bool (!o.isSome)) s'):
  wpAny (model X.prog X.w) A (compareOp .NotIn u (.ref a)) Q E s:=by
 rcases g with⟨kvs,k,e,ey,l⟩|⟨kvs,k,b,e,ey,eb,l⟩
 ·subst ey
  obtain⟨z,hd,vs,rel,dd⟩:=b2l I.hok e
  refine wpAny_notIn_of (b2k ry) hd dd.mapOf ?_
  rw[<-(rel.val k).isSome_eq,<-l]
  exact h _ (I.tok _)
 ·subst ey
  cases(show u=Value.ref b from ry)
  obtain⟨z,hd,xs,rel,dd⟩:=b4f I.hok e
  refine wpAny_notIn_heap (Wk hu) (b3p I.hok eb) hd dd ?_
  have q:=(rel.val k).isSome_eq
  rw[Ue]at q
  rw[<-q,<-l]
  exact h _ (I.tok _)
theorem b6y{h':Heap}{t':Nat}{ob:HO}(I:Inv X pins σ H s)(mu:Mut (H a))(hs:Heap.SameBut a s.heap h')(he:∃q,h'.get? a=some q)(new:a2b X.prog X.w (upd H a ob) h' a ob):
  Inv X pins σ (upd H a ob) { s with heap:=h',toks:=t'}:=
 I.write (x:=a) (e:=a) mu (.inl rfl) (fun b q hb z=>(hs.2 b hb).trans z) he new
theorem c3x{P:Program}{w:World}{H':Hp}{h':Heap}{kvs:List (Key×V)}{vs:List (Key×Value)}(z:kvs.length<=sizeLine)(hd:(a==sysModules)=false)(rel:KV kvs vs)(dd:h'.DictOf (a1l P w) a vs):
  a2b P w H' h' a (.dK kvs):=⟨z,hd,vs,rel,dd⟩
theorem d0k{H':Hp}{Q:Unit->Shared->Prop}(hu:A.units+1<cLine)(I:Inv X pins σ H s)(g:DPut H a y v H')(ry:RelV y u)(rv:RelV v r)(h:∀s',Inv X pins σ H' s'->Q () s'):
  wpAny (model X.prog X.w) A (setItem (.ref a) u r) Q E s:=by
 rcases g with⟨kvs,k,e,ey,l,eH⟩|⟨kvs,k,b,e,ey,eb,l,eH⟩
 ·subst ey eH
  obtain⟨z,hd,vs,rel,dd⟩:=c2x I.hok e
  have hz:vs.length<=sizeLine:=by rw[<-rel.length];exact z
  have hl:(putK kvs k v).length<=sizeLine:=by have:=a9h kvs k v;omega
  refine wpAny_setItem_pairs (hsz:=hz) (b2k ry) dd fun h' dd' hs=>h _ ?_
  have he:∃q,h'.get? a=some q:=let⟨q,_,_,hq,_⟩:=dd';⟨q,hq⟩
  exact b6y I (by rw[e];exact True.intro) hs he (c3x hl hd (rel.put k rv) dd')
 ·subst ey eH
  cases(show u=Value.ref b from ry)
  obtain⟨z,hd,xs,rel,dd⟩:=dt_of I.hok e
  have hz:xs.length<=sizeLine:=by rw[<-V6 rel];exact z
  have hl:(putK kvs k v).length<=sizeLine:=by have:=a9h kvs k v;omega
  refine wpAny_setItem_heap (hsz:=hz) (Wk hu) (b3p I.hok eb) dd fun h' dd' hs=>h _ ?_
  obtain⟨q,es,ep,hq,h2,h3,h4,_,h5⟩:=dd'
  refine b6y I (by rw[e];exact True.intro) hs ⟨q,hq⟩ ⟨hl,hd,_,(rel.put k eb rv).keeps fun c ys ec=>?_,q,es,ep,hq,h2,h3,h4,h5⟩
  rw[a0j (b8y ec e (fun z=>nomatch z))]
  exact ec
end
def NoSl(i:Expr):Prop:=∀ov iv,subscripted i false ov iv=operate [ov,iv] (getItem ov iv)
theorem c7b{prog:Program}{w:World}{A:Around}{E:Value->Shared->Prop}{s:Shared}{env:Env}{value slice:Expr}{pos:Pos}{T id:String}{Q:Value->Shared->Prop}
  (hl:typeLookup (.type T) "__getitem__"=pure (some (.builtin id)))(hs:NoSl slice)
  (h:wpAny (model prog w) A (eval value env) (fun o s₁=>wpAny (model prog w) A (eval slice env) (fun i s₂=>s₂.TypeIs o T/\wpAny (model prog w) A (getItem o i) Q E s₂) E s₁) E s):
  wpAny (model prog w) A (eval (.Subscript value slice pos) env) Q E s:=by
 refine T6 (Xy h (fun o s₁ h₁=>Xy h₁ (fun i s₂ h₂=>?_) fun _ _ x=>x) fun _ _ x=>x)
 obtain⟨hT,h₂⟩:=h₂
 unfold subscriptTail
 refine Zs ?_
 rw[getitemInPython_of_ne hT.not_modules]
 refine Zs (wpAny_specialOf hT hl ?_)
 have fin:wpAny (model prog w) A (subscripted slice false o i) (fun r s₃=>wpAny (model prog w) A (letTemporaryGo value o r>>=fun _=>pure r) Q E s₃) E s₂:=by
  rw[hs o i]
  exact wpAny_operating (Xy h₂ (fun r s₃ h₃=>Zs (wpAny_letTemporaryGo (Yp h₃))) fun _ _ x=>x)
 first
  |exact Yp (Zs fin)
  |exact Zs (Yp (Zs fin))
  |exact Zs fin
theorem c6h{X:Cx}{pins:List (Addr×Obj)}{σ:St}{H:Hp}{s:Shared}{a:Addr}{y:V}{o:Option V}(I:Inv X pins σ H s)(g:DGet H a y o):s.TypeIs (.ref a) "dict":=by
 rcases g with⟨kvs,k,e,_,_⟩|⟨kvs,k,b,e,_,_,_⟩
 ·obtain⟨_,_,vs,_,dd⟩:=b2l I.hok e
  exact dd.typeIs
 ·obtain⟨_,_,xs,_,dd⟩:=b4f I.hok e
  exact dd.typeIs
def tDGet(td ty:TE):TE:=fun σ H Q=>td σ H fun x H1=>ty σ H1 fun y H2=>∃a v,x=.ref a/\DGet H2 a y (some v)/\Q v H2
def sDPut(td ty tv:TE):TS:=fun D σ H=>tv σ H fun v H1=>td σ H1 fun x H2=>ty σ H2 fun y H3=>∃a H4,x=.ref a/\DPut H3 a y v H4/\D.nx σ H4
section
variable{X:Cx}{o i e value:Expr}{pos pos' tpos:Pos}{td ty tv:TE}
theorem b3q(hu:X.A.units+1<cLine)(ho:PE X o td)(hi:PE X i ty)(hs:NoSl i):PE X (.Subscript o i pos) (tDGet td ty):=by
 intro pins s σ H Q I h
 refine c7b T0.lookup hs (thn (ho pins s σ H _ I h) fun u s1 ⟨x,H1,I1,rx,q1⟩=>thn (hi pins s1 σ H1 _ I1 q1) fun iv s2 ⟨y,H2,I2,ry,a,v,ex,g,q2⟩=>?_)
 subst ex
 obtain rfl:u=Value.ref a:=rx
 exact⟨c6h I2 g,d0j hu I2 g ry fun w' s3 I3 rw'=>⟨v,H2,I3,rw',q2⟩⟩
theorem c7c(hu:X.A.units+1<cLine)(ho:PE X o td)(hi:PE X i ty)(hv:PE X value tv)(hs:swapsWith value (some (.Subscript o i pos')) pos.line X.env=pure false):
  PS X (.Assign [.Subscript o i pos'] value pos) (sDPut td ty tv):=by
 intro pins s σ H D I h
 refine wpAny_Assign_Subscript (thn (hv pins s σ H _ I h) fun r s1 ⟨v,H1,I1,rv,q1⟩=>thn (ho pins s1 σ H1 _ I1 q1) fun u s2 ⟨x,H2,I2,rx,q2⟩=>thn (hi pins s2 σ H2 _ I2 q2) fun iv s3 ⟨y,H3,I3,ry,a,H4,ex,g,q3⟩=>?_) hs
 subst ex
 obtain rfl:u=Value.ref a:=rx
 exact d0k hu I3 g ry rv fun s4 I4=>⟨σ,H4,I4,q3⟩
end
theorem d3w{P:Program}{w:World}{H:Hp}(h:Heap)(hb:sysModules<h.objs.size):a2b P w H (h.push { cls:=.type "dict",data:=.dict #[]}) h.objs.size (.dK []):=
 ⟨Z3 _,Y5.mpr (Ne.symm (Yj hb)),[],.nil,Heap.DictOf.new h⟩
def b1l:List (TE×TE)->St->Hp->(List (V×V)->Hp->Prop)->Prop
 | [],_,H,Q=>Q [] H
 | (tk,tv)::r,σ,H,Q=>tk σ H fun x H1=>tv σ H1 fun y H2=>b1l r σ H2 fun ps H3=>Q ((x,y)::ps) H3
abbrev VV:List (V×V)->List (Value×Value)->Prop:=Paired fun p q=>RelV p.1 q.1/\RelV p.2 q.2
def PPs(X:Cx)(pos:Pos)(keys:List (Option Expr))(values:List Expr)(trs:List (TE×TE)):Prop:=
 ∀(pins:List (Addr×Obj))(s:Shared)(σ:St)(H:Hp)(Q:List (V×V)->Hp->Prop),Inv X pins σ H s->b1l trs σ H Q->
  wpAny (model X.prog X.w) X.A (evalPairs (pairTrees keys values X.env pos)) (fun vs s'=>∃ps H',Inv X pins σ H' s'/\VV ps vs/\Q ps H') X.xe s
theorem pps_nil{X:Cx}{pos:Pos}:PPs X pos [] [] []:=fun pins s σ H Q I h=>pairTrees_nil_walk ⟨[],H,I,.nil,h⟩
theorem d3x{X:Cx}{pos:Pos}{k v:Expr}{ks:List (Option Expr)}{vs:List Expr}{tk tv:TE}{trs:List (TE×TE)}(hk:PE X k tk)(hv:PE X v tv)(hr:PPs X pos ks vs trs):
  PPs X pos (some k::ks) (v::vs) ((tk,tv)::trs):=fun pins s σ H Q I h=>
 pairTrees_cons_walk (thn (hk pins s σ H _ I h) fun u s1 ⟨x,H1,I1,rx,q1⟩=>thn (hv pins s1 σ H1 _ I1 q1) fun w2 s2 ⟨y,H2,I2,ry,q2⟩=>
  thn (hr pins s2 σ H2 _ I2 q2) fun ws s3 ⟨ps,H3,I3,rel,q3⟩=>⟨(x,y)::ps,H3,I3,.cons ⟨rx,ry⟩ rel,q3⟩)
def a4j(kvs more:List (Key×V)):List (Key×V):=more.foldl (fun acc kv=>putK acc kv.1 kv.2) kvs
theorem KV.merge:∀{more:List (Key×V)}{rs:List (Key×Value)}{kvs:List (Key×V)}{vs:List (Key×Value)},KV more rs->KV kvs vs->KV (a4j kvs more) (merged vs rs):=by
 intro more rs kvs vs r
 unfold KV at r
 induction r generalizing kvs vs with
 |nil=>intro q;exact q
 | @cons p q ps qs h t ih=>
  intro r0
  have e:KV (putK kvs p.1 p.2) (stored vs q.1 q.2):=by
   have:=r0.put p.1 h.2
   rw[<-h.1];exact this
  exact ih e
theorem b0c:∀(more kvs:List (Key×V)),(a4j kvs more).length<=kvs.length+more.length
 | [],kvs=>by show kvs.length<=kvs.length+0;omega
 |p::r,kvs=>by
  have h1:=b0c r (putK kvs p.1 p.2)
  have h2:=a9h kvs p.1 p.2
  show(a4j (putK kvs p.1 p.2) r).length<=_
  rw[length_cons];omega
theorem b9f{P:Program}{w:World}:∀{kvs:List (Key×V)}{ws:List (Value×Value)},VV (kvs.map fun kv=>(kV kv.1,kv.2)) ws->∃rs,Carries (a1l P w) ws rs/\KV kvs rs
 | [],_,r=>by rw[Y3]at r;cases r;exact⟨[],True.intro,.nil⟩
 |p::kvs,_,r=>by
  rw[Zp]at r
  cases r with
  | @cons a b as bs h t=>
   obtain⟨rs,c,q⟩:=b9f (P:=P) (w:=w) t
   obtain⟨b1,b2⟩:=b
   exact⟨(p.1,b2)::rs,⟨b2k h.1,rfl,c⟩,.cons ⟨rfl,h.2⟩ q⟩
def tDisp(trs:List (TE×TE)):TE:=fun σ H Q=>∀p,H p=none->b1l trs σ (upd H p (.dK [])) fun ps H2=>H2 p=some (.dK [])/\∃kvs:List (Key×V),ps=kvs.map (fun kv=>(kV kv.1,kv.2))/\kvs.length<=15/\Q (.ref p) (upd H2 p (.dK (a4j [] kvs)))
theorem pe_disp{X:Cx}{pos:Pos}{keys:List (Option Expr)}{values:List Expr}{trs:List (TE×TE)}(h:PPs X pos keys values trs)(hall:keys.all (·.isSome)=true)(hl:keys.length=values.length)(h0:keys≠[])
  (h15:keys.length<=15):PE X (.Dict keys values pos) (tDisp trs):=by
 intro pins s σ H Q I q
 have hn:=I.hok.fresh (Zb s.heap.objs.size)
 have I1:=I.laid (a:=s.heap.objs.size) (o:=.dK []) (h':=s.heap.push { cls:=.type "dict",data:=.dict #[]}) (t':=s.toks) (fun _ _ q=>Zf _ q) (Zb _) (d3w s.heap I.big)
 refine wpAny_Dict_walk (knd:=a1l X.prog X.w) hall hl h0 h15 (thn (h pins _ σ _ _ I1 (q _ hn)) fun ws s2 ⟨ps,H2,I2,rel,e,kvs,ep,lk,q2⟩=>?_)
 subst ep
 obtain⟨rs,c,rk⟩:=b9f (P:=X.prog) (w:=X.w) rel
 obtain⟨z,hd,vs0,r0,dd⟩:=c2x I2.hok e
 cases r0
 refine⟨rs,c,dd,fun h' dd' hs=>⟨.ref s.heap.objs.size,_,?_,rfl,q2⟩⟩
 have hz:(a4j [] kvs).length<=sizeLine:=by
  have h1:=b0c kvs []
  rw[length_nil]at h1
  rw[Xk];omega
 have he:∃q,h'.get? s.heap.objs.size=some q:=let⟨q,_,_,hq,_⟩:=dd';⟨q,hq⟩
 exact b6y I2 (by rw[e];exact True.intro) hs he (c3x hz hd (rk.merge .nil) dd')
structure M2(X:Cx)(o:Expr)(m:Str)(apos:Pos)(e f:Expr)(cpos:Pos):Prop where
 base:attributeBase o m X.env (eval o X.env)=eval o X.env
 few:((backTo cpos (starEach [e,f] X.env)).all (fun x=>!x.1)&&(backToKw cpos (keywordEach [] X.env)).all (fun x=>x.1.isSome)
  &&decide (([e,f]:List Expr).length+([]:List Keyword).length+(if([]:List Keyword).isEmpty then 0 else 1)<30))=true
 line:(apos.endLine==cpos.line)=true
 trees:backTo cpos (starEach [e,f] X.env)=[(false,eval e X.env),(false,eval f X.env)]
def IsD(H:Hp)(a:Addr):Prop:=(∃kvs,Rd H a (.dK kvs))\/∃kvs,Rd H a (.dT kvs)
theorem isD_at{X:Cx}{pins:List (Addr×Obj)}{σ:St}{H:Hp}{s:Shared}{a:Addr}(I:Inv X pins σ H s)(d:IsD H a):
  s.TypeIs (.ref a) "dict"/\(∀b,Value.ref a=.ref b->∃ob,s.heap.get? b=some ob/\ob.dict=none)/\(a==sysModules)=false:=by
 rcases d with⟨kvs,e⟩|⟨kvs,e⟩
 ·obtain⟨_,hd,vs,_,dd⟩:=b2l I.hok e
  refine⟨dd.typeIs,fun b q=>?_,hd⟩
  cases q
  obtain⟨ob,_,_,h1,h2,_⟩:=dd
  exact⟨ob,h1,h2.2.1⟩
 ·obtain⟨_,hd,xs,_,dd⟩:=b4f I.hok e
  refine⟨dd.typeIs,fun b q=>?_,hd⟩
  cases q
  obtain⟨ob,_,_,h1,h2,_⟩:=dd
  exact⟨ob,h1,h2.2.1⟩
section
variable{X:Cx}{pins:List (Addr×Obj)}{σ:St}{H:Hp}{s:Shared}{a:Addr}{y d:V}{u r:Value}{o:Option V}{A:Around}{E:Value->Shared->Prop}
theorem d_get2{Q:Value->Shared->Prop}(hu:A.units+1<cLine)(I:Inv X pins σ H s)(g:DGet H a y o)(ry:RelV y u)(rd:RelV d r)(h:∀w' s',Inv X pins σ H s'->RelV (o.getD d) w'->Q w' s'):
  wpAny (model X.prog X.w) A (call (.builtin "dict.get") [.ref a,u,r]) Q E s:=by
 rcases g with⟨kvs,k,e,ey,l⟩|⟨kvs,k,b,e,ey,eb,l⟩
 ·subst ey
  obtain⟨z,hd,vs,rel,dd⟩:=b2l I.hok e
  refine U6 Ut dd.typeIs F.entry_dict_get (F.args_dict_get_3 _ _ _) (meets_dict_get_default (a1l X.prog X.w) a (b2k ry) hd r) ⟨_,dd.mapOf,h _ _ (I.tok _) ?_⟩
  rw[l]
  exact(rel.val k).getD rd
 ·subst ey
  cases(show u=Value.ref b from ry)
  obtain⟨z,hd,xs,rel,dd⟩:=b4f I.hok e
  refine U6 Ut dd.typeIs F.entry_dict_get (F.args_dict_get_3 _ _ _) (meetsH_dict_get_default (tupleKind (a1l X.prog X.w)) a b hd r) ⟨Wk hu,k,xs,b3p I.hok eb,dd,h _ _ (I.tok _) ?_⟩
  rw[l]
  exact(rel.val k).getD rd
end
def d0l(td ty tx:TE):TE:=fun σ H Q=>td σ H fun x H1=>∃a,x=.ref a/\IsD H1 a/\ty σ H1 fun y H2=>tx σ H2 fun z H3=>∃o,DGet H3 a y o/\Q (o.getD z) H3
section
variable{X:Cx}{o e f:Expr}{apos cpos:Pos}{td ty tx:TE}
theorem d3y(hu:X.A.units+1<cLine)(ho:PE X o td)(he:PE X e ty)(hf:PE X f tx)(m:M2 X o "get" apos e f cpos):PE X (.Call (.Attribute o "get" apos) [e,f] [] cpos) (d0l td ty tx):=by
 intro pins s σ H Q I h
 refine wpAny_Call_method m.base m.few m.line F.plainAttrs_dict Ut F.type_dict_get (thn (ho pins s σ H _ I h) fun u s1 ⟨x,H1,I1,rx,a,ex,d,q1⟩=>?_)
 subst ex
 obtain rfl:u=Value.ref a:=rx
 obtain⟨t1,t2,_⟩:=isD_at I1 d
 refine⟨t1,t2,?_⟩
 rw[m.trees]
 refine Vs rfl (Ts (Ua (thn (he pins s1 σ H1 _ I1 q1) fun iv s2 ⟨y,H2,I2,ry,q2⟩=>
  Ua (thn (hf pins s2 σ H2 _ I2 q2) fun fv s3 ⟨z,H3,I3,rz,ov,g,q3⟩=>Calls.spliced_nil ?_))))
 exact d_get2 hu I3 g ry rz fun w' s4 I4 rw'=>⟨_,H3,I4,rw',q3⟩
end
end L2
namespace Att
open PySem PySem.W PySem.Calls PyProof.Rows
theorem b9g{P:Params}{h:Heap}:∀(ns:List Int)(vs:List Value),WellAll P h vs (ns.map WData.int)->IntsAre vs ns:=by
 intro ns
 induction ns with
 |nil=>
  intro vs w
  rw[Y3]at w
  cases w
  exact .nil
 |cons n ns ih=>
  intro vs w
  rw[Zp]at w
  cases w with
  |cons a b=>
   cases a
   exact .cons _ _ (ih _ b)
theorem d0m{l:OpenLaw}{n:Nat}(hn:l.most=some n){P:Params}{h:Heap}{args:List WData}{vals:List Value}
  (hpre:l.row.toRowW.claim.pre args=true)(hwl:WellAll P h vals args):
  ∃a vs ns,vals=[Value.ref a]/\args=[WData.list (ns.map WData.int)]/\h.get? a=some { cls:=.type "list",data:=.seq vs.toArray}/\IntsAre vs ns/\ns.length<=n:=by
 have hsh:WShape.hasAll [] args [.list .int]=true:=(pre_splitW hpre).1
 have hc:l.pre.holds [] { args:=args}=true:=(pre_splitW hpre).2
 obtain⟨d,r,rfl,h1,h2⟩:=hasAllW_cons hsh
 obtain rfl:=hasAllW_nil h2
 obtain⟨xs,rfl,h3⟩:=hasW_list h1
 obtain⟨ns,rfl⟩:=items_int h3
 have hlen:ns.length<=n:=by
  unfold OpenLaw.pre at hc
  have h4:(WTm.not (.lt (.lit (.int (n:Int))) (.len (.arg 0)))).holds [] { args:=[.list (ns.map .int)]}=true:=by
   have h4:=(holds_andW hc).1
   rw[hn]at h4
   exact h4
  have h5:=condW_of h4 (w_not (w_lt w_lit (w_len_list (w_arg rfl))))
  rw[length_map]at h5
  refine Nat.le_of_not_lt fun q=>?_
  have q':(n:Int)<((ns.length:Nat):Int):=by omega
  first
   | (rw[Zg q']at h5;exact absurd h5 (by decide))
   | (simp at h5;omega)
 cases hwl with
 |cons w1 w2=>
  cases w2
  cases w1 with
  |list ho hall=>exact⟨_,_,ns,rfl,rfl,ho,b9g ns _ hall,hlen⟩
theorem d0n(l:OpenLaw)(args:List WData):l.row.toRowW.claim.post args (.bool true) args=true:=
 postW_of (r:=l.row.toRowW) (X:=(true==true))
  (show WShape.has [] (.bool true) .bool=true by first|rfl|decide|simp[WShape.has,WShape.arms,WShape.armsAll])
  (show(WTm.eq .res (.lit (.bool true))).value [] { args:=args,res:=some (.bool true),after:=args}=some (.bool (true==true))from w_eq_bool (w_res rfl) w_lit) rfl
theorem attach_call{l:OpenLaw}{n:Nat}{q:Program}{loose:List Str}{XP:(Str->Option Value)->Heap->Prop}{YP:World->Heap->Prop}{d:DefRec}
  (hn:l.most=some n)(hdf:d.params.defaults=[])
  (call:∀(w:World)(s₀ s₁:Shared)(mg mb:Str->Option Value)(fa:Addr)(o:Obj)(pm cd doc:Value)(a:Addr)(vs:List Value)(ns:List Int),
   Ground q loose [] XP w s₀ mg mb s₁.heap->YP w s₁.heap->
   s₁.heap.get? fa=some o->o.data=.func (docDef d.name d.params d.body d.scope pm cd doc)->s₁.heap.CodeRec cd d.name->mg d.name=some (.ref fa)->
   s₁.heap.get? a=some { cls:=.type "list",data:=.seq vs.toArray}->IntsAre vs ns->ns.length<=n->s₁.gens= #[]->
   codeAny (model l.prog w) callerA (.call (.ref fa) ⟨[.ref a],[]⟩) (fun r s'=>r=.ok (.ret (.bool true))/\OldK s₁.heap s'.heap/\s'.os=s₁.os/\AllBare s'.gens) s₁):
  WalkO q loose XP YP l.row.toRowW d [] (fun f vs=>PySem.call f vs):=by
 intro w s₀ s₁ mg mb G Y fa o pm cd doc dV kV ho hd hcd hD hmg hg args vals as hpre hlay hrd hwl hlo
 obtain rfl:dV=.none:=Dflts.none hD hdf
 obtain rfl:kV=.none:=Dflts.noKw hD
 obtain⟨a,vs,ns,rfl,rfl,hobj,hints,hlen⟩:=d0m hn hpre hwl
 refine enter_call (W7 (call w s₀ s₁ mg mb fa o pm cd doc a vs ns G Y ho (fd_plain hd) hcd hmg hobj hints hlen hg) fun r s' hq=>?_)
 obtain⟨rfl,h2,h3,h4⟩:=hq
 exact⟨.inl ⟨.bool true,.bool true,[],rfl,fun _=>rfl,.bool true,d0n l _,fun _=>⟨List.Pairwise.nil,fun _ hm=>(nomatch hm)⟩⟩,h2,h3,h4⟩
end Att
namespace L2
open PySem PySem.Spec PyProof.Rows
theorem c2c:∀{vs:List Value}{ns:List Int},IntsAre vs ns->Vals (ns.map V.int) vs
 |_,_,.nil=>.nil
 |_,_,.cons n t h=>.cons ⟨t,rfl⟩ (c2c h)
def Only(H:Hp):Prop:=∀b,H b=none\/∃o xs,H b=some (.frz o (.lst xs))
theorem d3z{P:Program}{w:World}{K:W.Frag}{mg mb:Str->Option Value}{CX:CXT}{k:Nat}{fa a:Addr}{fd:FuncData}{x:Str}{sp:Sp}{s₁:Shared}{vs:List Value}{ns:List Int}
  (KX:K.In s₁.heap)(hns:s₁.heap.Ns mainGlobals mg)(hb:s₁.heap.Ns builtinsNs mb)(hbb:∀x:Str,x≠"__name__"->mb x=bootBuiltins x)(hlim:s₁.heap.NoLimit)(hg:s₁.gens= #[])
  (ha:s₁.heap.get? a=some { cls:=.type "list",data:=.seq vs.toArray})(hi:IntsAre vs ns)(hl:ns.length<=sizeLine)(hr:Room k callerA)
  (F:∀base:Heap,K.In base->base.Ns mainGlobals mg->FnOk P w K mg base CX k fa fd [x] sp)(hbind:∀(s:Shared)(u:Value),BindsTo s fd ⟨[u],[]⟩ [(x,u)])
  (hsp:∀H:Hp,Only H->SqL K H a (ns.map V.int)->sp [.ref a] H (fun v _=>v=.bl true) fun _ _ _=>False)
  (hCX:∀H e s',CX [] H s₁ (fun _ _ _=>False) e s'->False):
  codeAny (model P w) callerA (.call (.ref fa) ⟨[.ref a],[]⟩) (fun r s'=>r=.ok (.ret (.bool true))/\OldK s₁.heap s'.heap/\s'.os=s₁.os/\AllBare s'.gens) s₁:=by
 have rv:=c2c hi
 have lenV:=hi.length
 have core:∀H:Hp,Only H->SqL K H a (ns.map V.int)->HOk P w H s₁.heap->(∀b,H b≠none->b=a)->(H a≠none->K.lookup a=none)->
   codeAny (model P w) callerA (.call (.ref fa) ⟨[.ref a],[]⟩) (fun r s'=>r=.ok (.ret (.bool true))/\OldK s₁.heap s'.heap/\s'.os=s₁.os/\AllBare s'.gens) s₁:=by
  intro H hO hS hok hA hK
  have base_of:∀{b:Addr}{o:Obj},s₁.heap.get? b=some o->H b=none->(hidT s₁.heap H).get? b=some o:=fun e n=>d3o e n
  have noA:∀{b:Addr}{o:Obj}{es:Array DictEntry}{ep:Nat},s₁.heap.get? b=some o->o.data=.dict es ep->H b=none:=fun{b o es ep} e d=>by
   cases q:H b with
   |none=>rfl
   |some u=>
    have e':b=a:=hA b (by rw[q];simp)
    subst e'
    rw[ha]at e;cases e
    have d':Data.seq vs.toArray _=Data.dict es ep:=d
    cases d'
  have nsK:∀{b:Addr}{m:Str->Option Value},s₁.heap.Ns b m->(hidT s₁.heap H).Ns b m:=fun{b m} ⟨o,es,ep,e,d,r⟩=>⟨o,es,ep,base_of e (noA e d),d,r⟩
  have hKb:K.In (hidT s₁.heap H):=fun b o e=>base_of (KX b o e) (by
   cases q:H b with
   |none=>rfl
   |some u=>
    have e':b=a:=hA b (by rw[q];simp)
    subst e'
    rw[hK (by rw[q];simp)]at e;cases e)
  have hM:Mod K mg (hidT s₁.heap H):=⟨hKb,nsK hns,⟨mb,nsK hb,hbb⟩,let⟨mc,h1,h2⟩:=hlim;⟨mc,nsK h1,h2⟩⟩
  have e0:Env0 P w K mg (hidT s₁.heap H) callerA [] s₁ H:=⟨rfl,hM,fun b o e=>of_hidT e,Nat.le_of_eq (c9v _ _),trivial,fun b hb=>absurd (show b∈([]:List Addr)from hb) (by simp),hok,.of_eq hg⟩
  refine W7 ((F _ hKb (nsK hns)).run callerA [] s₁ H ⟨[.ref a],[]⟩ [.ref a] [.ref a] _ _ hr e0 (hbind s₁ (.ref a)) (.cons rfl .nil) (hsp H hO hS)) fun r s' h=>?_
  cases r with
  |error e=>exact(hCX H e s' h).elim
  |ok fl=>
   cases fl with
   |next=>exact False.elim h
   |brk=>exact False.elim h
   |cont=>exact False.elim h
   |ret u=>
    obtain⟨v,H',os,bare,un,hok',r',q⟩:=h
    have q':v=.bl true:=q
    subst q'
    obtain rfl:u=Value.bool true:=r'
    refine⟨rfl,OldK.of_keep fun b o e=>?_,os,bare⟩
    cases q:H b with
    |none=>exact un.keep b o e q (by intro z;exact absurd (show b∈([]:List Addr)from z) (by simp)) (by simp)
    |some u=>
     rcases hO b with z|⟨ob,xs,z⟩
     ·rw[q]at z;cases z
     ·have z2:=un.frzs b ob _ z
      obtain⟨e1,_⟩:=hok b _ z
      obtain⟨e2,_⟩:=hok' b _ z2
      rw[e]at e1;cases e1
      exact e2
 cases hk:K.lookup a with
 |some o=>
  have e:=KX a o hk
  rw[ha]at e
  cases e
  refine core (fun _=>none) (fun _=>.inl rfl) (.inr ⟨_,vs.toArray,_,hk,rfl,rfl,rfl,by rw[Zh,lenV];exact hl,by simpa using rv⟩) (fun b u z=>by have z':(none:Option HO)=some u:=z;cases z') (fun b z=>absurd rfl z) fun z=>absurd rfl z
 |none=>
  refine core (fun b=>if b=a then some (.frz { cls:=.type "list",data:=.seq vs.toArray} (.lst (ns.map V.int)))else none) (fun b=>?_) (.inl (.inr ⟨{ cls:=.type "list",data:=.seq vs.toArray},if_pos rfl⟩)) (fun b u z=>?_) (fun b z=>?_) fun _=>hk
  ·by_cases hb:b=a
   ·exact .inr ⟨_,_,if_pos hb⟩
   ·exact .inl (if_neg hb)
  ·by_cases hb:b=a
   ·have z':=(if_pos hb).symm.trans z
    cases z'
    subst hb
    exact⟨ha,by rw[length_map];exact hl,vs,_,rv,ha⟩
   ·have z':=(if_neg hb).symm.trans z
    cases z'
  ·by_cases hb:b=a
   ·exact hb
   ·exact absurd (if_neg hb) z
abbrev KOf{K:W.Frag}{h:Heap}(_:K.In h):W.Frag:=K
theorem walk_of{l:W.OpenLaw}{n k:Nat}{q:Program}{loose:List Str}{XP:(Str->Option Value)->Heap->Prop}{YP:World->Heap->Prop}{d:DefRec}{K:Params->W.Frag}{CX:World->CXT}{sp:World->Sp}{x:Str}
  (hn:l.most=some n)(hn2:n<=sizeLine)(hdf:d.params.defaults=[])(hr:Room k callerA)
  (hY:∀(w:World)(h:Heap),YP w h->(K w.params).In h)
  (F:∀(w:World)(mg:Str->Option Value)(fa:Addr)(h:Heap),(K w.params).In h->h.Ns mainGlobals mg->mg d.name=some (.ref fa)->
   ∃fd:FuncData,(∀(s:Shared)(u:Value),BindsTo s fd ⟨[u],[]⟩ [(x,u)])/\
    ∀base:Heap,(K w.params).In base->base.Ns mainGlobals mg->FnOk l.prog w (K w.params) mg base (CX w) k fa fd [x] (sp w))
  (hsp:∀(w:World)(H:Hp)(a:Addr)(ns:List Int),ns.length<=n->Only H->SqL (K w.params) H a (ns.map V.int)->sp w [.ref a] H (fun v _=>v=.bl true) fun _ _ _=>False)
  (hCX:∀(w:World)(H:Hp)(s:Shared)(e:Value)(s':Shared),CX w [] H s (fun _ _ _=>False) e s'->False):
  W.WalkO q loose XP YP l.row.toRowW d [] (fun f vs=>PySem.call f vs):=by
 refine Att.attach_call hn hdf fun w s₀ s₁ mg mb fa o pm cd doc a vs ns G Y ho hd hcd hmg hobj hints hlen hg=>?_
 have KX:=hY w _ Y
 obtain⟨fd,hb,hF⟩:=F w mg fa _ KX G.T.g hmg
 exact d3z KX G.T.g G.T.b G.T.builtins G.T.nolimit hg hobj hints (Ym hlen hn2) hr hF hb (fun H hO hS=>hsp w H a ns hlen hO hS) fun H e s'=>hCX w H s₁ e s'
noncomputable def inClass(s:Stmt)(j:Nat):Stmt:=match s with
 | .ClassDef _ _ _ body _ _ _ _ _ _ _=>body.getD j (.Pass ⟨0,0,0,0⟩)
 |_=>.Pass ⟨0,0,0,0⟩
def a7w(s:Stmt):Arguments:=match s with
 | .FunctionDef _ a _ _ _ _ _ _ _ _=>a
 |_=>{ posonlyargs:=[],args:=[],vararg:=none,kwonlyargs:=[],kw_defaults:=[],kwarg:=none,defaults:=[]}
def a5e(s:Stmt):List Stmt:=match s with
 | .FunctionDef _ _ b _ _ _ _ _ _ _=>b
 |_=>[]
def a0h(s:Stmt):Scope:=match s with
 | .FunctionDef _ _ _ _ _ _ sc _ _ _=>sc
 |_=>{ kind:=.function,names:=[],isGenerator:=false,isCoroutine:=false}
abbrev CX0:CXT:=fun _ _ _ _ _ _=>False
abbrev E0:XK:=fun _ _ _=>False
theorem a0p{X:Cx}:a7m CX0 X E0:=fun _ _ _ _ _ _ _ h=>h.elim
structure Fun(K:W.Frag)(x qual:Str)(st:Stmt)(f:Addr)(fd:FuncData):Prop where
 ex:∃(oc:Value)(od:Option Addr)(kV doc pm:Value)(an:Option Addr)(cdv ct:Value)(osl:Array (Option Value)),
  fd=W.fnOf x qual (a7w st) (a5e st) (a0h st) .none kV doc pm an cdv ct/\K.lookup f=some ⟨oc,od,.func fd,osl⟩/\W.codeIn K cdv qual=true
 kp:W.keepIn K (.ref f)=true
section
variable{P:Program}{w:World}{K:W.Frag}{mg:Str->Option Value}{base:Heap}
theorem Fun.ok{x qual:Str}{st:Stmt}{f:Addr}{fd:FuncData}{N ps:List Str}{k:Nat}{sp:Sp}(F:Fun K x qual st f fd)(S:a0o N ps (a0h st))(len:∀vs H Q E,sp vs H Q E->vs.length=ps.length)
  (hbody:∀(cdv:Value)(A:Around)(outer:List Env)(s:Shared)(H:Hp)(vs:List V)(Q:VK)(E:XK),Room k (A.deeper (envOfC qual (a0h st) s.heap.objs.size f cdv))->sp vs H Q E->
   ∃t,PSs (cxOf CX0 P w K mg base N qual (a0h st) f cdv A outer s H E).nox (a5e st) t/\t { nx:=fun _ H'=>Q .non H',rt:=Q} (start N vs) H):FnOk P w K mg base CX0 (k+1) f fd ps sp:=by
 obtain⟨oc,od,kV,doc,pm,an,cdv,ct,osl,rfl,lk,hcd⟩:=F.ex
 refine fn_of lk hcd S len fun A outer s H vs Q E hr hsp=>?_
 obtain⟨t,h,q⟩:=hbody cdv A outer s H vs Q E hr hsp
 exact⟨t,h.nox,q⟩
theorem fun_mk{x qual:Str}{st:Stmt}{f:Addr}{oc:Value}{od an:Option Addr}{osl:Array (Option Value)}{kV doc pm cdv ct:Value}(l:K.lookup f=some ⟨oc,od,.func (W.fnOf x qual (a7w st) (a5e st) (a0h st) .none kV doc pm an cdv ct),osl⟩)
  (c:W.codeIn K cdv qual=true)(k:W.keepIn K (.ref f)=true):Fun K x qual st f (W.fnOf x qual (a7w st) (a5e st) (a0h st) .none kV doc pm an cdv ct):=⟨⟨oc,od,kV,doc,pm,an,cdv,ct,osl,rfl,l,c⟩,k⟩
end
theorem a7r{A:Around}{k:Nat}(hr:Room k A):A.units+1<cLine:=Nat.lt_of_le_of_lt (Nat.add_le_add_left (by decide:1<=64) _) hr.units
theorem iteF{A B:Prop}(h:B):if false=true then A else B:=by
 rw[if_neg Zr]
 exact h
theorem iteT{A B:Prop}(h:A):if true=true then A else B:=by
 rw[if_pos rfl]
 exact h
def Same(H H':Hp):Prop:=∀b o,H b=some o->H' b=some o
theorem Same.refl(H:Hp):Same H H:=fun _ _ h=>h
theorem Same.trans{H H1 H2:Hp}(a:Same H H1)(b:Same H1 H2):Same H H2:=fun c o h=>b c o (a c o h)
theorem Same.free{H H':Hp}(e:Same H H'){l:Addr}(h:H' l=Option.none):H l=Option.none:=by
 cases q:H l with
 |none=>rfl
 |some o=>
  rw[e l o q]at h
  cases h
theorem Same.seq{K:W.Frag}{H H':Hp}{a:Addr}{xs:List V}(e:Same H H')(h:SqL K H a xs):SqL K H' a xs:=by
 rcases h with(h|⟨o,h⟩)|h
 ·exact .inl (.inl (e _ _ h))
 ·exact .inl (.inr ⟨o,e _ _ h⟩)
 ·exact .inr h
end L2
set_option maxHeartbeats 4000000
namespace My
open PySem PySem.W PySem.Calls PyProof.Rows
theorem b9h{tb:String->Option Builtin}{p:Program}{w:World}{n₀:Nat}{ann:Option Value}:∀{n:Nat}{s s':Shared}{t:Thread}{f:Flow}{c:Code}{q:Pos},segRun tb p w n₀ ann 0 n s t=some (f,s',c,q)->topRun tb p w n₀ ann n s t=some s'
 |0,_,_,_,_,_,_,h=>by cases h
 |n+1,s,s',t,f,c,q,h=>by
  unfold segRun at h
  unfold topRun
  cases he:endAt 0 t with
  |some x=>
   rw[he]at h
   cases h
   have:through t=true:=by
    unfold endAt at he
    unfold through
    obtain⟨cur,code,pos,st⟩:=t
    cases st with
    |nil=>split at he<;>simp_all
    |cons a b=>simp at he
   rw[this]
  |none=>
   have:through t=false:=by
    unfold endAt at he
    unfold through
    obtain⟨cur,code,pos,st⟩:=t
    cases st with
    |nil=>
     dsimp only at he ⊢
     split at he
     ·cases he
     ·rename_i h1
      simp only[List.isEmpty_nil,Wx]
      split
      ·exact(h1 _ rfl rfl).elim
      ·rfl
    |cons a b=>rfl
   rw[he]at h
   rw[this]
   cases hk:stepOk n₀ ann t with
   |false=>rw[hk]at h;cases h
   |true=>
    rw[hk]at h
    cases hs:step (denote tb) p w s t with
    |halt o x=>rw[hs]at h;cases h
    |go s₂ t₂=>rw[hs]at h;exact b9h h
noncomputable def bootT(P:Params):BT:=.node (boot_o_0 P) (.node (boot_o_1 P) (.node (boot_o_3 P) (.node (boot_o_7 P) .nil .nil) .nil) (.node (boot_o_5 P) (.node (boot_o_9 P) .nil .nil) .nil)) (.node (boot_o_2 P) (.node (boot_o_4 P) (.node (boot_o_8 P) .nil .nil) .nil) (.node (boot_o_6 P) (.node (boot_o_10 P) .nil .nil) .nil))
theorem boot_abs(P:Params):absHeap (bootT P) 11 {}=boot_heap P:=by kernel_rfl
noncomputable def bootS(w:World)(os:OsState):SharedT:=⟨bootT w.params,11,{},#[],boot_drawn,boot_toks,os⟩
noncomputable def looks{α:Type}(p q:Program)(loose:List Str)(Xt:Shared->Bool)(Yf:Shared->α)(g0:Bool)(h₀:Heap)(s:Shared):=
 ((staticsOk (importedModules p.main.body) h₀ s.heap&&namesBound p s.heap&&gensDone s&&laidKept h₀ s.heap),openSeen q loose (importedModules p.main.body) Xt g0 s,Yf s)
theorem left_of{p q:Program}{loose:List Str}{Xt:Shared->Bool}{α:Type}{Yf:Shared->α}{Ya:World->α}{N M:Nat}{g0:Bool}
  (e:opening p=plainProg p.main.scope.names)(hN:Nat.ble 600 N=true)(f:∀s,fenceModules? p s=some s)
  (size:∀w:World,((boot_heap w.params).isNs mainGlobals,(boot_heap w.params).nsMap mainGlobals "__annotations__")=(true,some (.ref 6)))
  (le:Nat.ble M N=true)
  (run:∀w:World,(fun os=>(segRunT treeTable p w 11 (some (.ref 6)) 0 M (bootS w os) (topStub p)).map fun r=>looks p q loose Xt Yf g0 (boot_heap w.params) r.2.1.abs)=fun _=>some (true,openGood q loose,Ya w)):
  LeftO p q loose Xt Yf Ya N g0:=fun w=>by
 obtain⟨⟨h,gs,d,k,os⟩,e1,e2⟩:=Vp.mp (boot_open e hN f w)
 obtain⟨rfl,rfl,rfl,rfl⟩:h=boot_heap w.params/\gs= #[]/\d=boot_drawn/\k=boot_toks:=by simpa using e2
 obtain⟨z1,z3⟩:_/\_:=by simpa only[Prod.mk.injEq]using size w
 obtain⟨⟨fl,s,c,ps⟩,r1,r2⟩:=Vp.mp (congrFun (run w) os)
 obtain⟨l1,l2,l3⟩:_/\_/\_:=by simpa only[looks,Prod.mk.injEq]using r2
 have r:=topRun_mono (N-M) _ _ _ _ (b9h (segRun_of r1))
 rw[show M+(N-M)=N by have:=Nat.le_of_ble_eq_true le;omega]at r
 have t:topFrom treeTable p w N ⟨boot_heap w.params,#[],boot_drawn,boot_toks,os⟩=some s.abs:=by
  unfold topFrom
  dsimp only
  rw[z1]
  show(topRun treeTable p w 11 _ N ⟨boot_heap w.params,#[],boot_drawn,boot_toks,os⟩ (topStub p)).bind _=_
  rw[z3]
  have r':topRun treeTable p w 11 (some (.ref 6)) N ⟨boot_heap w.params,#[],boot_drawn,boot_toks,os⟩ (topStub p)=some s.abs:=by
   rw[<-boot_abs];exact r
  rw[r']
  show(match staticsOk (importedModules p.main.body) (boot_heap w.params) s.abs.heap&&namesBound p s.abs.heap&&gensDone s.abs&&laidKept (boot_heap w.params) s.abs.heap with|true=>some s.abs|false=>none)=some s.abs
  rw[l1]
 unfold openEnds
 rw[e1]
 show((topFrom treeTable p w N ⟨boot_heap w.params,#[],boot_drawn,boot_toks,os⟩).map _)=_
 rw[t]
 exact Z9 some (by dsimp only;rw[l2,l3])
theorem d0o(w:World):((boot_heap w.params).isNs mainGlobals,(boot_heap w.params).nsMap mainGlobals "__annotations__")=(true,some (.ref 6)):=by kernel_rfl
end My
lay_quick PySem.W.topStub PySem.W.openGood PySem.W.SharedT.abs PySem.W.xlAt PySem.W.recOk PySem.W.view My.looks
namespace L2
open PySem PySem.Spec PyProof.Rows
def clOf(env:Env):List (Str×NameKind)->List (Str×Addr)->List (Str×Addr)
 | [],acc=>acc
 | (n,k)::r,acc=>if k=.free then clOf env r ((n,(env.cells.lookup n).getD 0)::acc)else clOf env r acc
theorem b7v{env:Env}(f:(Str×NameKind)->List (Str×Addr)->Sem (ForInStep (List (Str×Addr))))
  (h1:∀n r c,env.cells.lookup n=some c->f (n,.free) r=pure (.yield ((n,c)::r)))(h2:∀n k r,k≠.free->f (n,k) r=pure (.yield r)):
  ∀(l:List (Str×NameKind))(acc:List (Str×Addr)),(∀y∈l,y.2=.free->∃c,env.cells.lookup y.1=some c)->forIn l acc f=pure (clOf env l acc)
 | [],acc,_=>by rw[List.forIn_nil];rfl
 | (n,k)::r,acc,h=>by
  have hr:∀y∈r,y.2=.free->∃c,env.cells.lookup y.1=some c:=fun y hy=>h y (Zi _ hy)
  rw[List.forIn_cons]
  by_cases hk:k=.free
  ·subst hk
   obtain⟨c,hc⟩:=h _ Zj rfl
   have hc:env.cells.lookup n=some c:=hc
   rw[h1 n acc c hc]
   have ih:=b7v f h1 h2 r ((n,c)::acc) hr
   show(forIn r ((n,c)::acc) f)=_
   rw[ih]
   unfold clOf
   rw[if_pos rfl,hc]
   rw[<-clOf.eq_def]
   rfl
  ·rw[h2 n k acc hk]
   have ih:=b7v f h1 h2 r acc hr
   show(forIn r acc f)=_
   rw[ih]
   conv=>rhs;unfold clOf
   rw[if_neg hk]
theorem c8n{scope:Scope}{env:Env}(h:∀y∈scope.names,y.2=.free->∃c,env.cells.lookup y.1=some c):closureFor scope env=pure (clOf env scope.names []):=by
 unfold closureFor
 have e:=b7v (env:=env) (fun x r=>if x.2==NameKind.free then do let c <-cellOf env x.1;pure (ForInStep.yield ((x.1,c)::r))else pure (ForInStep.yield r))
  (fun n r c hc=>by
   have e:cellOf env n=pure c:=by unfold cellOf;rw[hc]
   show(if(NameKind.free==NameKind.free)=true then _ else _)=_
   rw[if_pos (by decide),e]
   rfl)
  (fun n k r hk=>by
   show(if(k==NameKind.free)=true then _ else _)=_
   rw[if_neg (by intro z;exact hk (eq_of_beq z))]) scope.names [] h
 exact(Z9 (fun m=>m>>=fun cs=>(pure cs:Sem (List (Str×Addr)))) e)
theorem b7w{env:Env}:∀(l:List (Str×NameKind))(acc:List (Str×Addr))(y:Str)(c:Addr),(∀y∈l,y.2=.free->∃c,env.cells.lookup y.1=some c)->(∀y c,acc.lookup y=some c->env.cells.lookup y=some c)->
  (clOf env l acc).lookup y=some c->env.cells.lookup y=some c
 | [],acc,y,c,_,ha,e=>ha y c e
 | (n,k)::r,acc,y,c,h,ha,e=>by
  have hr:∀y∈r,y.2=.free->∃c,env.cells.lookup y.1=some c:=fun y hy=>h y (Zi _ hy)
  unfold clOf at e
  by_cases hk:k=.free
  ·rw[if_pos hk]at e
   refine b7w r _ y c hr (fun z d q=>?_) e
   rw[Wc]at q
   cases hz:z==n with
   |true=>
    rw[hz]at q
    have q':(env.cells.lookup n).getD 0=d:=Zo q
    obtain⟨c',hc'⟩:=h _ Zj hk
    have hc':env.cells.lookup n=some c':=hc'
    rw[hc']at q'
    have q':c'=d:=q'
    rw[eq_of_beq hz,hc',q']
   |false=>
    rw[hz]at q
    exact ha z d q
  ·rw[if_neg hk]at e
   exact b7w r acc y c hr ha e
theorem b7x{env:Env}:∀(l:List (Str×NameKind))(acc:List (Str×Addr))(y:Str),(∃c,acc.lookup y=some c)->∃c,(clOf env l acc).lookup y=some c
 | [],_,_,h=>h
 | (n,k)::r,acc,y,h=>by
  unfold clOf
  by_cases hk:k=.free
  ·rw[if_pos hk]
   refine b7x r _ y ?_
   rw[Wc]
   cases hz:y==n with
   |true=>exact⟨_,rfl⟩
   |false=>exact h
  ·rw[if_neg hk]
   exact b7x r acc y h
theorem b4g{env:Env}:∀(l:List (Str×NameKind))(acc:List (Str×Addr))(y:Str),(y,NameKind.free)∈l->∃c,(clOf env l acc).lookup y=some c
 | [],_,_,h=>by simp at h
 | (n,k)::r,acc,y,h=>by
  unfold clOf
  by_cases hk:k=.free
  ·rw[if_pos hk]
   rcases Zk.mp h with e|e
   ·refine b7x r _ y ?_
    have e1:y=n:=Z9 Prod.fst e
    rw[Wc,e1]
    simp
   ·exact b4g r _ y e
  ·rw[if_neg hk]
   rcases Zk.mp h with e|e
   ·exact absurd (Z9 Prod.snd e).symm hk
   ·exact b4g r acc y e
theorem a8s(scope:Scope)(env:Env)(y:Str):(relabel scope env).names.lookup y=(scope.names.lookup y).map fun k=>if(k==NameKind.free&&env.scope.kind==.function&&env.kindOf y==some .cell)=true then .cell else k:=by
 show(scope.names.map _).lookup y=_
 induction scope.names with
 |nil=>rfl
 |cons p r ih=>
  obtain⟨n,k⟩:=p
  rw[Zp,Wc (a:=y) (k:=n) (b:=k)]
  cases hz:y==n with
  |true=>
   have e:y=n:=eq_of_beq hz
   subst e
   show List.lookup y ((if(k==NameKind.free&&env.scope.kind==.function&&env.kindOf y==some .cell)=true then(y,NameKind.cell)else(y,k))::_)=some (if _ then _ else _)
   by_cases hc:(k==NameKind.free&&env.scope.kind==.function&&env.kindOf y==some .cell)=true
   ·rw[if_pos hc,if_pos hc];simp
   ·rw[if_neg hc,if_neg hc];simp
  |false=>
   show List.lookup y ((if(k==NameKind.free&&env.scope.kind==.function&&env.kindOf n==some .cell)=true then(n,NameKind.cell)else(n,k))::_)=_
   by_cases hc:(k==NameKind.free&&env.scope.kind==.function&&env.kindOf n==some .cell)=true
   ·rw[if_pos hc,Wc,hz];exact ih
   ·rw[if_neg hc,Wc,hz];exact ih
def a4k(X:Cx)(scope:Scope)(x:Str)(N':List Str)(C:Addr)(s:Shared)(H:Hp)(fp:List Addr)(pn:List (Addr×Obj)):Cx where
 prog:=X.prog
 w:=X.w
 K:=X.K
 mg:=X.mg
 base:=X.base
 A:=X.A
 N:=x::N'
 s₀:=s
 H₀:=H
 env:=compEnvC scope (clOf X.env scope.names []) C X.env
 outer:=X.stack
 stack:=X.stack
 ex:=fp
 fn:=fun _=>false
 calm:=X.calm
 pn:=pn
 xe:=fun _ _=>False
section
variable{X:Cx}{pins:List (Addr×Obj)}{σ:St}{H:Hp}{s:Shared}
structure b9i(X:Cx)(scope:Scope)(x:Str)(N':List Str):Prop where
 loc:scope.names.lookup x=some .local
 nocell:∀y∈scope.names,y.2≠.cell
 kind:scope.kind=.function
 names:∀y∈scope.names,y.2=.local->scope.names.lookup y.1=some .local
 free:∀y∈scope.names,y.2=.free->X.env.kindOf y.1=some .cell\/X.env.kindOf y.1=some .free
 nin:x∉N'
 nd:N'.Nodup
 len:N'.length=X.N.length
 sub:∀(i:Nat)(y:Str),N'[i]? =some y->X.N[i]? =some y\/scope.names.lookup y=none
 only:∀y∈scope.names,y.2=.local->y.1=x\/y.1∉N'
theorem Inv.compIn{scope:Scope}{x:Str}{N':List Str}{fp:List Addr}{h1:Heap}{tk:Nat}{m:Str->Option Value}(S:b9i X scope x N')(I:Inv X pins σ H s)(hf:∀b∈fp,FpOk X pins H b)(hfl:∀b∈fp,b<s.heap.objs.size)
  (hn:h1.Ns s.heap.objs.size m)(hsb:∀b o,s.heap.get? b=some o->h1.get? b=some o):
  Inv (a4k X scope x N' s.heap.objs.size s H fp (X.pn++pins)) [] (none::σ) H { s with heap:=h1,toks:=tk}:=by
 have hcells:∀y∈scope.names,y.2=.free->∃c,X.env.cells.lookup y.1=some c:=fun y hy hk=>I.ok.has y.1 (S.free y hy hk)
 have sub:∀y c,(clOf X.env scope.names []).lookup y=some c->X.env.cells.lookup y=some c:=fun y c e=>b7w _ _ y c hcells (fun z d q=>by simp at q) e
 have lk:∀(y:Str)(k:NameKind),(relabel scope X.env).names.lookup y=some k->k=.cell\/k=.free->scope.names.lookup y=some .free:=fun y k e hk=>by
  rw[a8s]at e
  cases q:scope.names.lookup y with
  |none=>rw[q]at e;cases e
  |some k0=>
   rw[q]at e
   have e':(if(k0==NameKind.free&&X.env.scope.kind==.function&&X.env.kindOf y==some .cell)=true then NameKind.cell else k0)=k:=Zo e
   by_cases hc:(k0==NameKind.free&&X.env.scope.kind==.function&&X.env.kindOf y==some .cell)=true
   ·simp only[Y2]at hc
    rw[eq_of_beq hc.1.1]
   ·rw[if_neg hc]at e'
    subst e'
    rcases hk with hk|hk
    ·exact absurd hk (S.nocell _ (Yn q))
    ·rw[hk]
 have lt:∀{b:Addr}{o:Obj},s.heap.get? b=some o->b≠s.heap.objs.size:=fun e=>Yj (Zv e)
 refine⟨⟨I.ok.mod,by show(relabel scope X.env).kind=_;exact S.kind,I.ok.glob,I.ok.blt,Zb _,fun y z c e1 e2=>I.ok.inj y z c (sub y c e1) (sub z c e2),fun y hy=>?_,fun y c hz=>(by cases hz),I.ok.hd,I.ok.frames,.inl rfl,
  fun b hb=>⟨Yj (hfl b hb),fun y c e=>(hf b hb).2.2.2.2.1 y c (sub y c e)⟩,I.bs,Ym I.ok.bsz I.sz,fun b o e hb=>?_,fun b hb hz=>?_,I.stack,I.stkFree⟩,
  rfl,I.bare,Un.kept hsb,⟨m,hn,fun i y v h1 h2 h3=>?_⟩,fun y c e=>?_,I.hok.fresh (Zb _),fun y c e=>I.freeC y c (sub y c e),fun p hp=>?_,I.hok.kept hsb,?_⟩
 ·have hy:(relabel scope X.env).names.lookup y=some .cell\/(relabel scope X.env).names.lookup y=some .free:=hy
  have q:scope.names.lookup y=some .free:=hy.elim (fun z=>lk y _ z (.inl rfl)) fun z=>lk y _ z (.inr rfl)
  exact b4g _ _ y (Yn q)
 ·obtain⟨_,_,_,f3,_,_⟩:=hf b hb
  rcases f3 with f3|f3
  ·exact I.ok.noex b o e f3
  ·exact absurd (Zy (Zv e) (Ym I.ok.bsz f3)) (Wg _)
 ·have hz:b∈frs X.stack:=hz
  obtain⟨_,f1,f2,_⟩:=hf b hb
  rcases Zk.mp (I.stkSub b hz)with z|z
  ·exact f1 z
  ·exact f2 z
 ·cases i with
  |zero=>simp at h2
  |succ i=>
   have h1:N'[i]? =some y:=by simpa[a4k]using h1
   have h2:σ[i]? =some (some v):=by simpa using h2
   have hne:N'[i]? ≠some x:=fun z=>S.nin (Xn z)
   have h3:Vis (relabel scope X.env) y:=h3
   obtain⟨m',hn',hl'⟩:=I.loc
   have q:scope.names.lookup y=some .free:=by
    rcases h3 with z|z|z
    ·exfalso
     rw[a8s]at z
     cases q:scope.names.lookup y with
     |none=>rw[q]at z;cases z
     |some k0=>
      rw[q]at z
      have e':(if(k0==NameKind.free&&X.env.scope.kind==.function&&X.env.kindOf y==some .cell)=true then NameKind.cell else k0)=.local:=Zo z
      by_cases hc:(k0==NameKind.free&&X.env.scope.kind==.function&&X.env.kindOf y==some .cell)=true
      ·rw[if_pos hc]at e';cases e'
      ·rw[if_neg hc]at e'
       subst e'
       rcases S.only _ (Yn q) rfl with w|w
       ·exact hne (by rw[h1];exact Z9 some w)
       ·exact w (Xn h1)
    ·exact lk y _ z (.inl rfl)
    ·exact lk y _ z (.inr rfl)
   obtain⟨c,hc⟩:=b4g (env:=X.env) scope.names [] y (Yn q)
   have hk:X.env.kindOf y=some .cell\/X.env.kindOf y=some .free:=S.free _ (Yn q) rfl
   have h1':X.N[i]? =some y:=(S.sub i y h1).resolve_right fun z=>by rw[q]at z;cases z
   obtain⟨u,r,l⟩:=hl' i y v h1' h2 (.inr hk)
   refine⟨u,r,?_⟩
   have kd:(compEnvC scope (clOf X.env scope.names []) s.heap.objs.size X.env).kindOf y=some .cell\/(compEnvC scope (clOf X.env scope.names []) s.heap.objs.size X.env).kindOf y=some .free:=by
    rcases h3 with z|z|z
    ·exfalso
     rw[a8s,q]at z
     have e':(if(NameKind.free==NameKind.free&&X.env.scope.kind==.function&&X.env.kindOf y==some .cell)=true then NameKind.cell else NameKind.free)=.local:=Zo z
     by_cases hc:(NameKind.free==NameKind.free&&X.env.scope.kind==.function&&X.env.kindOf y==some .cell)=true
     ·rw[if_pos hc]at e';cases e'
     ·rw[if_neg hc]at e';cases e'
    ·exact .inl z
    ·exact .inr z
   rcases l with⟨a,_⟩|⟨_,c',hc',ic⟩
   ·rcases hk with k|k<;>(rw[k]at a;cases a)
   ·have e:X.env.cells.lookup y=some c:=sub y c hc
    rw[e]at hc'
    cases hc'
    obtain⟨o,ho,hd⟩:=ic
    exact .inr ⟨kd,c,hc,⟨o,hsb _ _ ho,hd⟩⟩
 ·obtain⟨v,o,ho,hd⟩:=I.cell y c (sub y c e)
  exact⟨v,o,hsb _ _ ho,hd⟩
 ·have hp:p∈X.pn++pins:=by
   have hp:p∈(X.pn++pins)++[]:=hp
   rwa[Yo]at hp
  obtain⟨e,n,ne,nf,d⟩:=I.pin p hp
  refine⟨hsb _ _ e,n,lt e,fun hz=>?_,d⟩
  have hz:p.1∈frs X.stack:=hz
  rcases Zk.mp (I.stkSub _ hz)with z|z
  ·exact ne z
  ·exact nf z
 ·show(none::σ).length=(x::N').length
  rw[length_cons,length_cons,I.len,S.len]
def PTs(X:Cx)(ifs:List Expr)(t:TT):Prop:=
 ∀(pins:List (Addr×Obj))(s:Shared)(σ:St)(H:Hp)(Q:Bool->Hp->Prop)(E:Value->Shared->Prop),Inv X pins σ H s->t σ H Q->
  wpAny (model X.prog X.w) X.A (forIn ifs true fun c r=>if r=true then do let ok <-isTrue c X.env (eval c X.env);pure (ForInStep.yield ok)else pure (ForInStep.yield r)) (TP X pins σ Q) E s
def tYes:TT:=fun _ H Q=>Q true H
theorem c0j:PTs X [] tYes:=fun _ _ _ H _ _ I h=>wpAny_tests_nil ⟨H,I,h⟩
theorem d0p{prog:Program}{w:World}{A:Around}{R:Result->Shared->Prop}{s:Shared}{elt target iter:Expr}{ifs:List Expr}{scope:Scope}{pos:Pos}{it acc:Value}{env:Env}(J:Nat->Shared->Prop)
  (turn:∀n s,J n s->wpAny (model prog w) A (pyNext it) (fun r s1=>match r with
   |none=>R (.ok .next) s1
   |some v=>wpAny (model prog w) A (letOwnedTupleGo target it v) (fun _ s2=>wpAny (model prog w) A (assign target env v) (fun _ s3=>
     wpAny (model prog w) A (forIn ifs true fun c r=>if r=true then do let ok <-isTrue c env (eval c env);pure (ForInStep.yield ok)else pure (ForInStep.yield r)) (fun ok s4=>
      if ok=true then wpAny (model prog w) A (eval elt env) (fun y s5=>wpAny (model prog w) A (call (.builtin "list.append") [acc,y]) (fun _ s6=>∃m,m<n/\J m s6) (fun _ _=>False) s5) (fun _ _=>False) s4
      else ∃m,m<n/\J m s4) (fun _ _=>False) s3) (fun _ _=>False) s2) (fun _ _=>False) s1) (fun _ _=>False) s)
  (n:Nat)(h:J n s):codeAny (model prog w) A (.compLoop (.ListComp elt [⟨target,iter,ifs,0⟩] scope pos) 0 it acc env) R s:=by
 have no:∀{α:Type}{t:Sem α}{Q:α->Shared->Prop}{E:Value->Shared->Prop}{s:Shared},wpAny (model prog w) A t Q (fun _ _=>False) s->wpAny (model prog w) A t Q E s:=
  fun q=>Xy q (fun _ _ z=>z) fun _ _ z=>z.elim
 refine codeAny_loop rfl J (fun n s hJ=>?_) n h
 refine wpAny_noted (m:=compTurn (.ListComp elt [⟨target,iter,ifs,0⟩] scope pos) 0 it acc env) ?_
 rw[compTurn_list]
 refine Zs (U0 (Zs (no (thn (turn n s hJ) fun r s1 q1=>?_))))
 cases r with
 |none=>exact Yp q1
 |some v=>
  refine no ?_
  refine Zs (thn q1 fun _ s2 q2=>Zs (thn q2 fun _ s3 q3=>Zs (thn q3 fun ok s4 q4=>?_)))
  cases ok with
  |false=>exact Yp ⟨rfl,q4⟩
  |true=>exact Zs (Zs (thn q4 fun y s5 q5=>Zs (thn q5 fun _ s6 q6=>Yp (Yp ⟨rfl,q6⟩))))
def c2y(J:It)(tt:TT)(te:TE)(σ:St)(Q:VK)(D:Addr)(H1:Hp):Prop:=∃W:Nat->Nat->List V->Hp->Prop,(∃m,W 0 m [] (upd H1 D (.lst [])))/\
 ∀i m ys H',W i m ys H'->(J.stop i H'/\Q (.ref D) H')\/(J.go i H'/\∀v H2,J.yld i H' v H2->tt (some v::σ) H2 fun b H3=>
  if b=true then te (some v::σ) H3 fun y H4=>H4 D=some (.lst ys)/\ys.length<sizeLine/\∃m',m'<m/\W (i+1) m' (ys++[y]) (upd H4 D (.lst (ys++[y])))
  else ∃m',m'<m/\W (i+1) m' ys H3)
def tComp(wi:TI)(tt:TT)(te:TE):TE:=fun σ H Q=>wi σ H fun J H1=>∀D,H1 D=none->c2y J tt te σ Q D H1
theorem d0q{elt iter:Expr}{x:Str}{N':List Str}{px:Pos}{ifs:List Expr}{scope:Scope}{pos:Pos}{tt:TT}{te:TE}(hc:X.calm=true)(S:b9i X scope x N')
  (ht:∀C s H fp pn,PTs (a4k X scope x N' C s H fp pn) ifs tt)(he:∀C s H fp pn,PE (a4k X scope x N' C s H fp pn) elt te){Q:VK}{itv:Value}{s2:Shared}{RR:Value->Addr->Result->Shared->Prop}
  (h2:PIE X pins σ (.Name x px) (fun J H1=>∀D,H1 D=none->c2y J tt te σ Q D H1) itv s2)
  (hend:∀(D C:Addr)(H6:Hp)(s7:Shared)(m7:Str->Option Value),Inv X pins σ H6 s7->s7.heap.Ns C m7->FpOk X pins H6 C->Q (.ref D) H6->RR (.ref D) C (.ok .next) s7):
  wpAny (model X.prog X.w) X.A (newList []) (fun acc s3=>wpAny (model X.prog X.w) X.A (newFunctionEnv scope X.env.globals (clOf X.env scope.names []) [] X.env.qual none .none (some X.env)) (fun cenv s4=>
   codeAny (model X.prog X.w) X.A (.compStart (.ListComp elt [⟨.Name x px,iter,ifs,0⟩] scope pos) 0 itv acc { cenv with scope:=relabel scope X.env}) (RR acc cenv.locals) s4) X.xe s3) X.xe s2:=by
 obtain⟨it,fp,tn,J,H2,e,I2,T,st2,f2,hW⟩:=h2
 subst e
 have hlt:∀b∈fp,b<s2.heap.objs.size:=fun b hb=>by
  obtain⟨o,ho,_⟩:=T.obj _ _ st2 b hb
  exact Zv ho
 obtain⟨W,⟨m0,w0⟩,hturn⟩:=hW s2.heap.objs.size (I2.hok.fresh (Zb _))
 refine Uc ?_ (by show 0<=sizeLine;exact Z3 _)
 have I3:Inv X pins σ (upd H2 s2.heap.objs.size (.lst [])) { s2 with heap:=s2.heap.push { cls:=.type "list",data:=.seq ([]:List Value).toArray}}:=I2.lnew (t':=s2.toks) .nil (Z3 _)
 have f3:∀b∈fp,FpOk X pins (upd H2 s2.heap.objs.size (.lst [])) b:=fun b hb=>by
  obtain⟨g0,g⟩:=f2 b hb
  exact⟨by rw[a0j (Yj (hlt b hb))];exact g0,g⟩
 have st3:tn 0 (s2.heap.push { cls:=.type "list",data:=.seq ([]:List Value).toArray}):=T.keep _ _ _ st2 fun b _ o e=>Zf _ e
 have hlt3:∀b∈fp,b<(s2.heap.push { cls:=.type "list",data:=.seq ([]:List Value).toArray}).objs.size:=fun b hb=>by rw[V2];exact Nat.lt_succ_of_lt (hlt b hb)
 generalize hs3:({ s2 with heap:=s2.heap.push { cls:=.type "list",data:=.seq ([]:List Value).toArray}}:Shared)=s3 at I3
 have eh:s3.heap=s2.heap.push { cls:=.type "list",data:=.seq ([]:List Value).toArray}:=by rw[<-hs3]
 rw[<-eh]at st3 hlt3
 show wpAny _ _ (newFunctionEnv scope X.env.globals (clOf X.env scope.names []) [] X.env.qual none .none (some X.env)) _ _ _
 refine wpAny_newFunctionEnv S.nocell (by intro y hy;simp at hy) (fun h4 hns4 hsb4=>?_) S.kind
 have hk4:∀b o,s3.heap.get? b=some o->h4.get? b=some o:=fun b o e=>(hsb4.2 b (Yj (Zv e))).trans (Zf _ e)
 have I4:=Inv.compIn (tk:=s3.toks+([]:List (Str×Value)).length) S I3 f3 hlt3 hns4 hk4
 have st4:tn 0 h4:=T.keep _ _ _ st3 fun b _ o e=>hk4 b o e
 have fx:∀{H':Hp},(∀b∈fp,H' b=none)->∀b∈fp,FpOk (a4k X scope x N' s3.heap.objs.size s3 (upd H2 s2.heap.objs.size (.lst [])) fp (X.pn++pins)) [] H' b:=fun{H'} hn b hb=>by
  obtain⟨_,g1,g2,g3,g4,g5⟩:=f3 b hb
  refine⟨hn b hb,Yj (hlt3 b hb),I4.ok.exfs b hb,.inl hb,fun y c e=>(I4.ok.exf b hb).2 y c e,fun p hp=>g5 p ?_⟩
  have hp:p∈(X.pn++pins)++[]:=hp
  rwa[Yo]at hp
 have loop:∀s5:Shared,(∃(i n:Nat)(o:Option V)(ys:List V)(H5:Hp),Inv (a4k X scope x N' s3.heap.objs.size s3 (upd H2 s2.heap.objs.size (.lst [])) fp (X.pn++pins)) [] (o::σ) H5 s5/\tn i s5.heap/\(∀b∈fp,H5 b=none)/\W i n ys H5)->
   codeAny (model X.prog X.w) X.A (.compLoop (.ListComp elt [⟨.Name x px,iter,ifs,0⟩] scope pos) 0 (.ref it) (.ref s2.heap.objs.size) (compEnvC scope (clOf X.env scope.names []) s3.heap.objs.size X.env))
    (RR (.ref s2.heap.objs.size) s3.heap.objs.size) s5:=by
  rintro s5 ⟨i5,n5,o5,ys5,H5,I5,st5,fr5,w5⟩
  refine d0p (fun n s'=>∃(i:Nat)(o:Option V)(ys:List V)(H5:Hp),Inv (a4k X scope x N' s3.heap.objs.size s3 (upd H2 s2.heap.objs.size (.lst [])) fp (X.pn++pins)) [] (o::σ) H5 s'/\tn i s'.heap/\(∀b∈fp,H5 b=none)/\W i n ys H5) ?_ n5 ⟨i5,o5,ys5,H5,I5,st5,fr5,w5⟩
  rintro n s6 ⟨i,o,ys,H6,I6,st6,fr6,w6⟩
  rcases hturn i n ys H6 w6 with⟨stop,qn⟩|⟨go,step⟩
  ·refine thn (T.done (a4k X scope x N' s3.heap.objs.size s3 (upd H2 s2.heap.objs.size (.lst [])) fp (X.pn++pins)) rfl rfl rfl hc i [] s6 _ H6 _ I6 (fx fr6) st6 stop) fun r s7 ⟨hr,I7⟩=>?_
   subst hr
   obtain⟨m7,hn7,_⟩:=id I7.loc
   have I8:Inv X pins σ H6 s7:=I3.call' I7.os I7.base I7.hok I7.bare fun b hb=>by
    obtain⟨_,g1,g2,g3,g4,g5⟩:=f3 b hb
    exact⟨g3,g1,g4,g5⟩
   have f8:FpOk X pins H6 s3.heap.objs.size:=I3.fpOk (Zb _) I7.free
   exact hend _ _ H6 s7 m7 I8 hn7 f8 qn
  ·refine thn (T.item (a4k X scope x N' s3.heap.objs.size s3 (upd H2 s2.heap.objs.size (.lst [])) fp (X.pn++pins)) rfl rfl rfl hc i [] s6 _ H6 _ I6 (fx fr6) st6 go) fun r s7 ⟨u,hr,h7⟩=>?_
   subst hr
   refine thn h7 fun _ s8 ⟨v,H8,I8,r8,y8,st8,fr8⟩=>?_
   have I8':=I8.pinned (fx fr8) (T.obj _ _ st8)
   refine wpAny_assign_Name (b1j I8' (i:=0) (W4.mpr ⟨S.nin,S.nd⟩) rfl (.inl (Tj S.loc)) r8 (fun s9 I9=>?_) (.inr (Tj S.loc)))
   have I9:Inv (a4k X scope x N' s3.heap.objs.size s3 (upd H2 s2.heap.objs.size (.lst [])) fp (X.pn++pins)) ([]++b3o fp s8.heap) (some v::σ) H8 s9:=I9
   refine thn (ht _ _ _ _ _ _ s9 (some v::σ) H8 _ _ I9 (step v H8 y8)) fun b s10 ⟨H10,I10,q10⟩=>?_
   have back:∀{s':Shared}{H':Hp}{ys':List V}{m':Nat},Inv (a4k X scope x N' s3.heap.objs.size s3 (upd H2 s2.heap.objs.size (.lst [])) fp (X.pn++pins)) ([]++b3o fp s8.heap) (some v::σ) H' s'->W (i+1) m' ys' H'->
     ∃(i:Nat)(o:Option V)(ys:List V)(H5:Hp),Inv (a4k X scope x N' s3.heap.objs.size s3 (upd H2 s2.heap.objs.size (.lst [])) fp (X.pn++pins)) [] (o::σ) H5 s'/\tn i s'.heap/\(∀b∈fp,H5 b=none)/\W i m' ys H5:=fun{s' H' ys' m'} I' w'=>by
    refine⟨i+1,some v,ys',H',I'.unpinned,T.keep _ _ _ st8 fun b hb o e=>(I'.pin (b,o) (Yc _ (Yc _ (b0j hb e)))).1,fun b hb=>?_,w'⟩
    obtain⟨o,e,d⟩:=T.obj _ _ st8 b hb
    exact(I'.pin (b,o) (Yc _ (Yc _ (b0j hb e)))).2.1
   cases b with
   |false=>
    rw[if_neg Zr]at q10 ⊢
    obtain⟨m',hm,w'⟩:=q10
    exact⟨m',hm,back I10 w'⟩
   |true=>
    rw[if_pos rfl]at q10 ⊢
    refine thn (he _ _ _ _ _ _ s10 (some v::σ) H10 _ I10 q10) fun y s11 ⟨yv,H11,I11,r11,hD,hz,m',hm,w'⟩=>?_
    have ap:=c1z (X:=a4k X scope x N' s3.heap.objs.size s3 (upd H2 s2.heap.objs.size (.lst [])) fp (X.pn++pins)) _ s11 (some v::σ) H11 (.ref s2.heap.objs.size) [yv] (.ref s2.heap.objs.size) [y] (fun _ H'=>W (i+1) m' (ys++[yv]) H') I11 rfl (.cons r11 .nil) ⟨_,ys,yv,rfl,rfl,hD,hz,w'⟩
    exact thn ap fun _ s12 ⟨_,H12,I12,_,w12⟩=>⟨m',hm,back I12 w12⟩
 have l4:=loop { s3 with heap:=h4,toks:=s3.toks+([]:List (Str×Value)).length} ⟨0,m0,none,[],_,I4,st4,fun b hb=>(f3 b hb).1,w0⟩
 exact codeAny_compStart_list l4 (T.self _ _ _ _ _ st4 l4)
theorem c0k{elt iter:Expr}{x:Str}{N':List Str}{px:Pos}{ifs:List Expr}{scope:Scope}{pos:Pos}{wi:TI}{tt:TT}{te:TE}(hc:X.calm=true)(hi:PI X (.Name x px) iter wi)(S:b9i X scope x N')
  (ht:∀C s H fp pn,PTs (a4k X scope x N' C s H fp pn) ifs tt)(he:∀C s H fp pn,PE (a4k X scope x N' C s H fp pn) elt te)(hs:∀x,foldedSetIterable iter X.env x=pure x:=by intro _;rfl):
  PE X (.ListComp elt [⟨.Name x px,iter,ifs,0⟩] scope pos) (tComp wi tt te):=by
 intro pins s σ H Q I h
 have hcells:∀y∈scope.names,y.2=.free->∃c,X.env.cells.lookup y.1=some c:=fun y hy hk=>I.ok.has y.1 (S.free y hy hk)
 rw[eval_ListComp]
 refine wpAny_comprehension_free (use:=none) rfl hs (c8n hcells) S.kind S.names (thn (hi pins s σ H _ I h) fun xv s1 h1=>thn h1 fun itv s2 h2=>?_)
 refine d0q (RR:=fun acc C=>compPost (model X.prog X.w) X.A X.xe none (EP X pins σ Q) acc C) hc S ht he h2 fun D C H6 s7 m7 I8 hn7 f8 qn=>?_
 refine⟨m7,hn7,fun h' hs'=>?_⟩
 obtain⟨g0,g1,g2,g3,g4,g5⟩:=f8
 exact⟨.ref D,H6,I8.turned (t':=s7.toks) (fun b o hb e=>(hs'.2 b hb).trans e) g0 g1 g3 g4 g5,rfl,qn⟩
end
def d0r(sc scope:Scope)(N N':List Str)(x:Str):Bool:=
 decide (scope.names.lookup x=some .local)&&scope.names.all (fun y=>decide (y.2≠.cell))&&decide (scope.kind=.function)&&scope.names.all (fun y=>decide (y.2=.local->scope.names.lookup y.1=some .local))&&
 scope.names.all (fun y=>decide (y.2=.free->sc.names.lookup y.1=some .cell\/sc.names.lookup y.1=some .free))&&decide (x∉N')&&decide N'.Nodup&&decide (N'.length=N.length)&&
 (List.range N'.length).all (fun i=>match N'[i]? with|some y=>decide (N[i]? =some y\/scope.names.lookup y=none)|none=>true)&&scope.names.all (fun y=>decide (y.2=.local->y.1=x\/y.1∉N'))
theorem c0l{X:Cx}{scope:Scope}{x:Str}(sc:Scope)(N N':List Str)(hsc:X.env.scope=sc)(hN:X.N=N)(h:d0r sc scope N N' x=true):b9i X scope x N':=by
 subst hsc hN
 unfold d0r at h
 simp only[Y2,Xx,Wn]at h
 obtain⟨⟨⟨⟨⟨⟨⟨⟨⟨h1,h2⟩,h3⟩,h4⟩,h5⟩,h6⟩,h7⟩,h7'⟩,h8'⟩,h8⟩:=h
 refine⟨h1,h2,h3,h4,h5,h6,h7,h7',fun i y e=>?_,h8⟩
 have hi:i<N'.length:=(Yy.mp e).1
 have z:=h8' i (Vd.mpr hi)
 rw[e]at z
 exact Ze z
def Its(x:Str):It:=⟨fun i _=>i<x.cps.size,fun i H v H'=>H'=H/\∃c,x.cps[i]? =some c/\v=.str ⟨#[c]⟩,fun i _=>x.cps.size=i⟩
theorem c3y{P:Program}{w:World}{K:W.Frag}{tg:Expr}{it:Addr}{x:Str}{t:Tok}{ty:String}
  (hty:["enumerate","zip","dict_itemiterator","dict_reverseitemiterator","odict_iterator","itertools.zip_longest","itertools.pairwise"].contains ty=false)
  (hW:∀A':Around,A'.handled=none->Walks P w A' it [it] [it] x.cps.size (SignAt x) (fun i h=>h.IsStrIter it ty x t i))
  (hself:∀(A:Around)(i:Nat)(s:Shared)(Q:Value->Shared->Prop)(E:Value->Shared->Prop),s.heap.IsStrIter it ty x t i->Q (.ref it) s->wpAny (model P w) A (pyIter (.ref it)) Q E s):
  Turn P w K tg (Its x) [it] it (fun i h=>h.IsStrIter it ty x t i) where
 mem:=by simp
 obj:=fun i h st b hb=>by
  have e:b=it:=by simpa using hb
  subst e
  obtain⟨o,e,c,d⟩:=st
  exact⟨o,e,fun v z=>by rw[d]at z;cases z⟩
 keep:=fun i h h' st k=>by
  obtain⟨o,e,r⟩:=st
  exact⟨o,k it (by simp) o e,r⟩
 item:=by
  intro X hP hw hK hc i pins s σ H E I hf st hg
  subst hP hw hK
  obtain⟨f0,f1,f2,f3,f4,f5⟩:=hf it (by simp)
  refine(hW X.A (I.ok.hd hc)).item i s _ _ hg st fun v h' tk hv st' kk=>?_
  obtain⟨c,u,hx,rfl⟩:=hv
  have I1:Inv X pins σ H { s with heap:=h',toks:=tk}:=I.turned (fun b o hb e=>kk b o (by simpa using hb) e) f0 f1 f3 f4 f5
  obtain⟨o,e,c',d⟩:=id st'
  exact⟨_,rfl,b9a (s:={ s with heap:=h',toks:=tk}) e c' d hty ⟨.str ⟨#[c]⟩,H,I1,⟨u,rfl⟩,⟨rfl,c,hx,rfl⟩,st',fun b hb=>(hf b hb).1⟩⟩
 done:=by
  intro X hP hw hK hc i pins s σ H E I hf st hg
  subst hP hw hK
  obtain⟨f0,f1,f2,f3,f4,f5⟩:=hf it (by simp)
  have hg:x.cps.size=i:=hg
  subst hg
  exact(hW X.A (I.ok.hd hc)).done s _ _ st fun h' tk kk=>⟨rfl,I.turned (fun b o hb e=>kk b o (by simpa using hb) e) f0 f1 f3 f4 f5⟩
 self:=hself
section
variable{X:Cx}{tg:Expr}
def iStr(tl:TE):TI:=fun σ H R=>tl σ H fun v H1=>∃x,v=.str x/\R (Its x) H1
theorem d0s{l:Expr}{tl:TE}(hl:PE X l tl):PI X tg l (iStr tl):=by
 intro pins s σ H R I h
 refine thn (hl pins s σ H _ I h) fun v s1 ⟨z,H1,I1,r1,q1⟩=>?_
 obtain⟨x,e,q⟩:=q1
 subst e
 obtain⟨t,rfl⟩:=r1
 have fp:∀b∈[s1.heap.objs.size],FpOk X pins H1 b:=fun b hb=>by
  have e:b=s1.heap.objs.size:=by simpa using hb
  subst e
  exact I1.fpOk (Zb _) (I1.hok.fresh (Zb _))
 cases ha:x.cps.all (· <128)
 ·refine wpAny_pyIter_wide ha ?_
  exact⟨s1.heap.objs.size,[s1.heap.objs.size],_,_,H1,rfl,I1.kept (t':=s1.toks) fun b o e=>Zf _ e,c3y (ty:="str_iterator") (t:=t) (by decide) (fun A' hA=>Walks.strWide hA _ x t) (fun _ _ _ _ _ st hq=>wpAny_pyIter_striter_wide st hq),⟨_,Z4 _ rfl,rfl,rfl⟩,fp,q⟩
 ·refine wpAny_pyIter_ascii ha ?_
  exact⟨s1.heap.objs.size,[s1.heap.objs.size],_,_,H1,rfl,I1.kept (t':=s1.toks) fun b o e=>Zf _ e,c3y (ty:="str_ascii_iterator") (t:=t) (by decide) (fun A' hA=>Walks.strAscii hA _ x t) (fun _ _ _ _ _ st hq=>wpAny_pyIter_striter_ascii st hq),⟨_,Z4 _ rfl,rfl,rfl⟩,fp,q⟩
end
structure Row(J:It)(n:Nat)(vs:Nat->V)(Ok:Hp->Prop):Prop where
 go:∀i H,i<n->Ok H->J.go i H
 yld:∀i H v H',i<n->Ok H->J.yld i H v H'->H'=H/\v=vs i
 stop:∀H,Ok H->J.stop n H
theorem a7x(lo:Int)(n:Nat):Row (Itr lo n) n (fun i=>.int (lo+i)) (fun _=>True):=⟨fun i H h _=>h,fun i H v H' _ _ h=>h,fun H _=>Zb n⟩
theorem c7d(x:Str):Row (Its x) x.cps.size (fun i=>.str ⟨#[x.cps.getD i 0]⟩) (fun _=>True):=⟨fun i H h _=>h,fun i H v H' hi _ h=>by
 obtain⟨e,c,hc,rfl⟩:=h
 refine⟨e,?_⟩
 have:x.cps.getD i 0=c:=by rw[Uu,hc];rfl
 rw[this],fun H _=>rfl⟩
theorem b7y{K:W.Frag}{a:Addr}{xs:List V}:Row (Itl K a) xs.length (fun i=>xs.getD i .non) (fun H=>SqL K H a xs):=⟨fun i H h q=>⟨xs,xs[i],q,by simp[h]⟩,fun i H v H' hi q h=>by
 obtain⟨e,y⟩:=h
 refine⟨e,?_⟩
 have:=y xs q
 rw[Yq,this];rfl,fun H q=>⟨xs,q,Zb _⟩⟩
theorem row_tup{K:W.Frag}{a:Addr}{xs:List V}:Row (Itt K a) xs.length (fun i=>xs.getD i .non) (fun H=>SqT K H a xs):=⟨fun i H h q=>⟨xs,xs[i],q,by simp[h]⟩,fun i H v H' hi q h=>by
 obtain⟨e,y⟩:=h
 refine⟨e,?_⟩
 have:=y xs q
 rw[Yq,this];rfl,fun H q=>⟨xs,q,Zb _⟩⟩
def ForW(J:It)(g:TG)(tb:TS)(D:Ends)(σ:St)(H:Hp):Prop:=∃W:Nat->Nat->St->Hp->Prop,(∃m,W 0 m σ H)/\∀i m σ H,W i m σ H->
   (J.stop i H/\D.nx σ H)\/(J.go i H/\∃N:St->Hp->Prop,(∀σ' H',N σ' H'->∃m',m'<m/\W (i+1) m' σ' H')/\∀x H',J.yld i H x H'->g x σ H' fun σ2 H2=>tb { D with nx:=N,ct:=N,bk:=D.nx} σ2 H2)
theorem a6z{J:It}{n:Nat}{vs:Nat->V}{Ok:Hp->Prop}(R:Row J n vs Ok){g:TG}{tb:TS}{D:Ends}{σ:St}{H:Hp}(Pv:Nat->St->Hp->Prop)(h0:Pv 0 σ H)(hok:∀i σ H,Pv i σ H->Ok H)
  (hs:∀i σ H,i<n->Pv i σ H->g (vs i) σ H fun σ2 H2=>tb { D with nx:=Pv (i+1),ct:=Pv (i+1),bk:=D.nx} σ2 H2)(hd:∀σ H,Pv n σ H->D.nx σ H):
  ForW J g tb D σ H:=by
 refine⟨fun i m σ H=>m=n-i/\i<=n/\Pv i σ H,⟨n,by simp,Z3 _,h0⟩,?_⟩
 rintro i m σ H ⟨rfl,hi,p⟩
 by_cases hlt:i<n
 ·refine .inr ⟨R.go i H hlt (hok i σ H p),Pv (i+1),fun σ' H' p'=>⟨n-(i+1),by omega,rfl,hlt,p'⟩,fun x H' y=>?_⟩
  obtain⟨e1,e2⟩:=R.yld i H x H' hlt (hok i σ H p) y
  subst e1 e2
  exact hs i σ _ hlt p
 ·have e:i=n:=by omega
  subst e
  exact .inl ⟨R.stop H (hok i σ H p),hd σ H p⟩
theorem b7z{J:It}{n:Nat}{vs:Nat->V}{Ok:Hp->Prop}(R:Row J n vs Ok){te:TE}{Q:VK}{σ:St}{H1:Hp}{D:Addr}(Pv:Nat->List V->Hp->Prop)(hn:n<=sizeLine)(h0:Pv 0 [] (upd H1 D (.lst [])))(hok:∀i ys H,Pv i ys H->Ok H)
  (hs:∀i ys H (Q':VK),i<n->ys.length=i->Pv i ys H->(∀y H4,H4 D=some (.lst ys)->Pv (i+1) (ys++[y]) (upd H4 D (.lst (ys++[y])))->Q' y H4)->te (some (vs i)::σ) H Q')
  (hd:∀ys H,ys.length=n->Pv n ys H->Q (.ref D) H):
  c2y J tYes te σ Q D H1:=by
 refine⟨fun i m ys H=>m=n-i/\i<=n/\ys.length=i/\Pv i ys H,⟨n,by simp,Z3 _,rfl,h0⟩,?_⟩
 rintro i m ys H ⟨rfl,hi,hl,p⟩
 by_cases hlt:i<n
 ·refine .inr ⟨R.go i H hlt (hok i ys H p),fun v H2 y=>?_⟩
  obtain⟨e1,e2⟩:=R.yld i H v H2 hlt (hok i ys H p) y
  subst e1 e2
  exact hs i ys _ _ hlt hl p fun v H4 q1 q2=>⟨q1,by omega,n-(i+1),by omega,rfl,hlt,by simp[hl],q2⟩
 ·have e:i=n:=by omega
  subst e
  exact .inl ⟨R.stop H (hok _ ys H p),hd ys H hl p⟩
def cutS(z:Str)(lo hi:Option Int):Str:=⟨((z.cps.toList.drop (HT.sIx z.length 0 lo)).take (HT.sIx z.length z.length hi-HT.sIx z.length 0 lo)).toArray⟩
theorem c3z(lo hi:Option Int)(n:Nat):Builtin.Str.strSliceIndices lo hi 1 n=(List.range (HT.sIx n n hi-HT.sIx n 0 lo)).map (fun k=>HT.sIx n 0 lo+k):=by
 obtain⟨h1,h2,h3⟩:=b5n lo hi n
 have e:Builtin.Str.strSliceIndices lo hi 1 n=Builtin.Str.strSliceIndices (some (sliceBounds lo hi none n).1) (some (sliceBounds lo hi none n).2.1) 1 n:=by
  have a:(0:Int)<=(sliceBounds lo hi none n).1/\(sliceBounds lo hi none n).1<=n:=by
   rw[h1];have:=HT.sIx_le n 0 (Z3 _) lo;omega
  have b:(0:Int)<=(sliceBounds lo hi none n).2.1/\(sliceBounds lo hi none n).2.1<=n:=by
   rw[h2];have:=HT.sIx_le n n (Zb _) hi;omega
  have c:∀v:Int,0<=v/\v<=n->max (0:Int) (min (if v<0 then v+n else v) n)=v:=fun v hv=>by
   rw[if_neg (by omega)];omega
  show Builtin.Str.strSliceIndices lo hi 1 n=sliceRange (max (0:Int) (min (if(sliceBounds lo hi none n).1<0 then(sliceBounds lo hi none n).1+n else(sliceBounds lo hi none n).1) n)) (max (0:Int) (min (if(sliceBounds lo hi none n).2.1<0 then(sliceBounds lo hi none n).2.1+n else(sliceBounds lo hi none n).2.1) n)) 1
  rw[c _ a,c _ b]
  cases lo<;>cases hi<;>rfl
 rw[e,h1,h2]
 by_cases hab:HT.sIx n 0 lo<=HT.sIx n n hi
 ·exact PySem.StrLaws.strSliceIndices_plain hab (HT.sIx_le n n (Zb _) hi)
 ·have z:HT.sIx n n hi-HT.sIx n 0 lo=0:=by omega
  rw[z]
  have la:=HT.sIx_le n 0 (Z3 _) lo
  have lb:=HT.sIx_le n n (Zb _) hi
  show sliceRange (max (0:Int) (min (if((HT.sIx n 0 lo:Nat):Int)<0 then((HT.sIx n 0 lo:Nat):Int)+n else((HT.sIx n 0 lo:Nat):Int)) n)) (max (0:Int) (min (if((HT.sIx n n hi:Nat):Int)<0 then((HT.sIx n n hi:Nat):Int)+n else((HT.sIx n n hi:Nat):Int)) n)) 1=[]
  have e1:max (0:Int) (min (if((HT.sIx n 0 lo:Nat):Int)<0 then((HT.sIx n 0 lo:Nat):Int)+n else((HT.sIx n 0 lo:Nat):Int)) n)=((HT.sIx n 0 lo:Nat):Int):=by rw[if_neg (by omega)];omega
  have e2:max (0:Int) (min (if((HT.sIx n n hi:Nat):Int)<0 then((HT.sIx n n hi:Nat):Int)+n else((HT.sIx n n hi:Nat):Int)) n)=((HT.sIx n n hi:Nat):Int):=by rw[if_neg (by omega)];omega
  rw[e1,e2]
  unfold sliceRange
  have hlt:¬((HT.sIx n 0 lo:Nat):Int)<((HT.sIx n n hi:Nat):Int):=by omega
  simp[hlt]
theorem c8o(z:Str)(lo hi:Option Int):(⟨((Builtin.Str.strSliceIndices lo hi 1 z.length).filterMap (z.cps[·]?)).toArray⟩:Str)=cutS z lo hi:=by
 rw[c3z]
 unfold cutS
 congr 2
 have la:=HT.sIx_le z.length 0 (Z3 _) lo
 have lb:=HT.sIx_le z.length z.length (Zb _) hi
 by_cases hab:HT.sIx z.length 0 lo<=HT.sIx z.length z.length hi
 ·have h:=PySem.StrLaws.picks z.cps.toList (HT.sIx z.length z.length hi-HT.sIx z.length 0 lo) (HT.sIx z.length 0 lo) (by simp only[Xs];unfold Str.length at lb ⊢;unfold Str.length at hab;omega)
  simpa using h
 ·have e:HT.sIx z.length z.length hi-HT.sIx z.length 0 lo=0:=by omega
  rw[e];simp
theorem d4a(z:Str)(lo hi:Option Int):(cutS z lo hi).length=min (HT.sIx z.length z.length hi-HT.sIx z.length 0 lo) (z.length-HT.sIx z.length 0 lo):=by
 unfold cutS Str.length
 simp
theorem sl_str{X:Cx}:SlR X (fun x lo hi H Q=>∃z,x=.str z/\z.length<=sizeLine/\Q (.str (cutS z lo hi)) H):=by
 intro pins s σ H x v vl vu lo hi sl Q I rx hs pl pu h
 obtain⟨z,rfl,hz,q⟩:=h
 obtain⟨t,rfl⟩:=rx
 refine⟨"str",_,F.slot_str_getitem.lookup,T4 _ _ _,?_⟩
 obtain⟨l,el,e1⟩:∃l:Option (Int×Tok),vl=partValue l/\l.map (·.1)=lo:=by
  cases pl with
  |none=>exact⟨none,rfl,rfl⟩
  |int i t=>exact⟨some (i,t),rfl,rfl⟩
 obtain⟨u,eu,e2⟩:∃u:Option (Int×Tok),vu=partValue u/\u.map (·.1)=hi:=by
  cases pu with
  |none=>exact⟨none,rfl,rfl⟩
  |int i t=>exact⟨some (i,t),rfl,rfl⟩
 subst el eu e1 e2
 refine wpAny_getItem_str_slice (l:=l) (u:=u) (st:=none) (by obtain⟨o,ho,hc,hd⟩:=hs;exact⟨o,ho,hc,hd⟩) rfl ?_
 have pk:(slicePicked z l u none)=Builtin.Str.strSliceIndices (l.map (·.1)) (u.map (·.1)) 1 z.length:=rfl
 unfold sliceMade
 rw[pk]
 by_cases hw:((((none:Option (Int×Tok)).map (·.1)).getD 1==1)&&(Builtin.Str.strSliceIndices (l.map (·.1)) (u.map (·.1)) 1 z.length).length==z.length)=true
 ·rw[if_pos hw]
  have hl:(Builtin.Str.strSliceIndices (l.map (·.1)) (u.map (·.1)) 1 z.length).length=z.length:=by
   rw[Y2]at hw
   exact eq_of_beq hw.2
  rw[c3z,length_map,List.length_range]at hl
  have la:=HT.sIx_le z.length 0 (Z3 _) (l.map (·.1))
  have lb:=HT.sIx_le z.length z.length (Zb _) (u.map (·.1))
  have e:cutS z (l.map (·.1)) (u.map (·.1))=z:=by
   by_cases hz0:z.length=0
   ·have hn:z.cps.toList=[]:=by
     apply List.eq_nil_of_length_eq_zero
     simpa[Str.length]using hz0
    unfold cutS
    rw[hn]
    obtain⟨cps⟩:=z
    have:cps= #[]:=by simpa using hn
    subst this
    simp
   ·have a0:HT.sIx z.length 0 (l.map (·.1))=0:=by omega
    have b0:HT.sIx z.length z.length (u.map (·.1))=z.length:=by omega
    unfold cutS
    rw[a0,b0,U7,V1]
    obtain⟨cps⟩:=z
    show(⟨(List.take cps.size cps.toList).toArray⟩:Str)=⟨cps⟩
    rw[<-Xs,Vk]
  show EP X pins σ Q (.str z t) s
  refine⟨.str z,H,I,⟨t,rfl⟩,?_⟩
  rw[e]at q
  exact q
 ·rw[if_neg hw,c8o]
  refine⟨?_,.str _,H,I.tok _,⟨_,rfl⟩,q⟩
  rw[d4a]
  omega
def mVar(i:Nat):TE:=fun σ H Q=>match σ[i]? with|some (some v)=>Q v H|_=>False
def mB(Q:Bool->Hp->Prop):VK:=fun z H'=>match z with| .bl k=>Q k H'|_=>False
theorem c2z(Q:Bool->Hp->Prop):mB Q=fun z H'=>∃k,z=.bl k/\Q k H':=by
 funext z H'
 cases z<;>simp[mB]
section
variable{X:Cx}{a b c e:Expr}{ta tb tc te:TE}{pos:Pos}
theorem mv(i:Nat){x:Str}{pos:Pos}(hN:X.N[i]? =some x:=by rfl)(hv:Vis X.env.scope x:=by first|exact Or.inl rfl|exact Or.inr (Or.inl rfl)|exact Or.inr (Or.inr rfl))(hd:(x==("__debug__":Str))=false:=by decide)
  (hcd:(x==("__classdict__":Str))=false:=by decide):PE X (.Name x pos) (mVar i):=by
 intro pins s σ H Q I h
 refine pe_var hN hv hd hcd pins s σ H Q I ?_
 unfold mVar at h
 split at h
 ·rename_i v q;exact⟨v,q,h⟩
 ·exact h.elim
def m2(C:Int->Int->Prop)(g:Int->Int->V):R2:=fun x y H Q=>match x,y with
 | .int i,.int j=>C i j/\Q (g i j) H
 |_,_=>False
def m20(g:Int->Int->V):R2:=fun x y H Q=>match x,y with
 | .int i,.int j=>Q (g i j) H
 |_,_=>False
theorem m2_to{C:Int->Int->Prop}{g:Int->Int->V}{x y:V}{H:Hp}{Q:VK}(h:m2 C g x y H Q):rI C g x y H Q:=by
 cases x<;>cases y<;>first|exact(show False from h).elim|exact⟨_,_,rfl,rfl,h⟩
theorem b5o{g:Int->Int->V}{x y:V}{H:Hp}{Q:VK}(h:m20 g x y H Q):rI0 g x y H Q:=by
 cases x<;>cases y<;>first|exact(show False from h).elim|exact⟨_,_,rfl,rfl,h⟩
theorem OpR.imp{f:Value->Value->Sem Value}{r r':R2}(h:OpR X f r)(k:∀x y H Q,r' x y H Q->r x y H Q):OpR X f r':=fun pins s σ H x y v u Q I rx ry q=>h pins s σ H x y v u Q I rx ry (k x y H Q q)
def mAdd(K:W.Frag):R2:=fun x y H Q=>match x,y with
 | .int i,.int j=>Q (.int (i+j)) H
 | .str i,.str j=>i.length+j.length<=sizeLine/\Q (.str (i++j)) H
 | .ref p,.ref q=>(∃xs ys,H p=some (.lst xs)/\H q=some (.lst ys)/\xs.length+ys.length<=sizeLine/\∀d,H d=none->Q (.ref d) (upd H d (.lst (xs++ys))))\/
   ∃xs ys,SqT K H p xs/\SqT K H q ys/\xs≠[]/\xs.length+ys.length<=sizeLine/\(ys=[]->Q (.ref p) H)/\(ys≠[]->∀d,H d=none->Q (.ref d) (upd H d (.tup (xs++ys))))
 |_,_=>False
theorem mo_add:OpR X (binaryOp .Add) (mAdd X.K):=by
 refine(op_add.or (c8i.or (op_cat.or op_catT))).imp fun x y H Q h=>?_
 cases x<;>cases y<;>first
  |exact(show False from h).elim
  |exact .inl ⟨_,_,rfl,rfl,h⟩
  |exact .inr (.inl ⟨_,_,rfl,rfl,h⟩)
  | (rcases h with⟨xs,ys,h1,h2,h3,h4⟩|⟨xs,ys,h1,h2,h3,h4,h5⟩
     ·exact .inr (.inr (.inl ⟨_,_,xs,ys,rfl,rfl,h1,h2,h3,h4⟩))
     ·exact .inr (.inr (.inr ⟨_,_,xs,ys,rfl,rfl,h1,h2,h3,h4,h5⟩)))
theorem b5p:OpR X (binaryOp .Sub) (m20 fun i j=>.int (i-j)):=op_sub.imp fun _ _ _ _ h=>b5o h
def mMul:R2:=fun x y H Q=>match x,y with
 | .int i,.int j=>IntMulOk i j/\Q (.int (i*j)) H
 | .ref l,.int k=>∃xs,H l=some (.lst xs)/\-(2^63)<=k/\k<2^63/\xs.length*k.toNat<=sizeLine/\∀p,H p=none->Q (.ref p) (upd H p (.lst (List.replicate k.toNat xs).flatten))
 |_,_=>False
theorem op_mulW:OpR X (binaryOp .Mult) (rI (fun i j=>IntMulOk i j) fun i j=>.int (i*j)):=opI fun _ _ _ _ _ _ _ hc q=>mul_int q hc
theorem b5q:OpR X (binaryOp .Mult) mMul:=by
 refine(op_mulW.or op_rep).imp fun x y H Q h=>?_
 cases x<;>cases y<;>first
  |exact(show False from h).elim
  |exact .inl ⟨_,_,rfl,rfl,h⟩
  | (obtain⟨xs,h1,h2,h3,h4,h5⟩:=h;exact .inr ⟨_,_,xs,rfl,rfl,h1,h2,h3,h4,h5⟩)
theorem a1y:OpR X (binaryOp .FloorDiv) (m2 CDiv fun i j=>.int (i/j)):=op_fdiv.imp fun _ _ _ _ h=>m2_to h
theorem a1m:OpR X (binaryOp .Mod) (m2 (fun _ j=>0<j) fun i j=>.int (i%j)):=op_mod.imp fun _ _ _ _ h=>m2_to h
theorem d0t:OpR X (binaryOp .Pow) (m2 CPow fun i j=>.int (i^j.toNat)):=op_pow.imp fun _ _ _ _ h=>m2_to h
theorem a9i:OpR X (compareOp .Lt) (m20 fun i j=>.bl (decide (i<j))):=op_lt.imp fun _ _ _ _ h=>b5o h
theorem c3a:OpR X (compareOp .LtE) (m20 fun i j=>.bl (decide (i<=j))):=op_le.imp fun _ _ _ _ h=>b5o h
theorem c3b:OpR X (compareOp .Gt) (m20 fun i j=>.bl (decide (j<i))):=op_gt.imp fun _ _ _ _ h=>b5o h
theorem mo_ge:OpR X (compareOp .GtE) (m20 fun i j=>.bl (decide (j<=i))):=op_ge.imp fun _ _ _ _ h=>b5o h
def mEq(n:Bool):R2:=fun x y H Q=>match x,y with
 | .int i,.int j=>Q (.bl (n^^decide (i=j))) H
 | .str i,.str j=>Q (.bl (n^^decide (i=j))) H
 | .bl i,.bl j=>Q (.bl (n^^decide (i=j))) H
 | .non,.non=>Q (.bl (n^^true)) H
 | .non,.int _=>Q (.bl n) H
 | .non,.str _=>Q (.bl n) H
 | .non,.bl _=>Q (.bl n) H
 | .int _,.non=>Q (.bl n) H
 | .str _,.non=>Q (.bl n) H
 | .bl _,.non=>Q (.bl n) H
 | .int _,.str _=>Q (.bl n) H
 | .str _,.int _=>Q (.bl n) H
 | .bl _,.str _=>Q (.bl n) H
 | .str _,.bl _=>Q (.bl n) H
 |_,_=>False
theorem a1e:OpR X (compareOp .Eq) (mEq false):=by
 refine op_eq.imp fun x y H Q h=>?_
 cases x<;>cases y<;>first
  |exact(show False from h).elim
  |exact⟨rfl,by simpa[mEq]using h⟩
theorem mo_ne:OpR X (compareOp .NotEq) (mEq true):=by
 refine op_ne.imp fun x y H Q h=>?_
 cases x<;>cases y<;>first
  |exact(show False from h).elim
  |exact⟨rfl,by simpa[mEq]using h⟩
def c3c(t:TE):TT:=fun σ H Q=>t σ H (mB Q)
theorem c4a(t:TE):c3c t=tTest t:=by
 funext σ H Q
 show t σ H (mB Q)=t σ H _
 rw[c2z]
theorem a0s{op:CmpOp}{r:R2}(ho:OpR X (compareOp op) r)(ha:PE X a ta)(hb:PE X b tb)(hm:behindInMarks op b=false):PT X (.Compare a [op] [b] pos) (c3c (tOp r ta tb)):=by
 rw[c4a];exact pt_cmpR ho ha hb hm
def b9j(r r':R2)(ta tb tc:TE):TE:=fun σ H Q=>ta σ H fun x H1=>tb σ H1 fun y H2=>r x y H2 (mB fun k H3=>if k=true then tc σ H3 fun w' H4=>r' y w' H4 Q else Q (.bl false) H3)
theorem d0u(r r':R2)(ta tb tc:TE):b9j r r' ta tb tc=c3q r r' ta tb tc:=by
 funext σ H Q
 unfold b9j c3q
 simp only[c2z]
theorem b8a{op op':CmpOp}{r r':R2}(ho:OpR X (compareOp op) r)(ho':OpR X (compareOp op') r')(ha:PE X a ta)(hb:PE X b tb)(hc:PE X c tc)
  (hm:lastMarks [op,op'] [b,c]=false:=by with_unfolding_all rfl):PT X (.Compare a [op,op'] [b,c] pos) (c3c (b9j r r' ta tb tc)):=by
 rw[c4a,d0u];exact d3q ho ho' ha hb hc hm
def mTru(K:W.Frag)(Q:Bool->Hp->Prop):VK:=fun x H=>match x with
 | .non=>Q false H
 | .bl b=>Q b H
 | .int i=>Q (decide (i≠0)) H
 | .str y=>y.length<=sizeLine/\Q (decide (y.length≠0)) H
 | .ref p=>(∃xs,SqL K H p xs/\Q (!xs.isEmpty) H)\/(∃xs,SqT K H p xs/\Q (!xs.isEmpty) H)\/∃kvs,H p=some (.dK kvs)/\Q (!kvs.isEmpty) H
 |_=>False
theorem mTru_to{K:W.Frag}{Q:Bool->Hp->Prop}{x:V}{H:Hp}(h:mTru K Q x H):∃k,TruV K x H k/\Q k H:=by
 cases x with
 |non=>exact⟨_,rfl,h⟩
 |bl b=>exact⟨_,rfl,h⟩
 |int i=>
  have h:Q (decide (i≠0)) H:=h
  refine⟨i !=0,rfl,?_⟩
  have e:(i !=0)=decide (i≠0):=by
   rw[Xe];simp
  rw[e];exact h
 |str y=>
  obtain⟨h1,h⟩:y.length<=sizeLine/\Q (decide (y.length≠0)) H:=h
  refine⟨((y.length:Int) !=0),⟨h1,rfl⟩,?_⟩
  have e:((y.length:Int) !=0)=decide (y.length≠0):=by
   rw[Xe];simp
  rw[e];exact h
 |ref p=>
  rcases h with⟨xs,h1,h2⟩|⟨xs,h1,h2⟩|⟨xs,h1,h2⟩
  ·exact⟨_,.inl ⟨xs,h1,rfl⟩,h2⟩
  ·exact⟨_,.inr (.inl ⟨xs,h1,rfl⟩),h2⟩
  ·exact⟨_,.inr (.inr ⟨xs,h1,rfl⟩),h2⟩
 |_=>exact(show False from h).elim
def mTrue(K:W.Frag)(ta:TE):TT:=fun σ H Q=>ta σ H (mTru K Q)
theorem mt_tru(ha:PE X a ta)(he:∀whole,isTrue a X.env whole=(do let v <-whole;standAt a.pos;holding [v] (truthy v)):=by intro _;rfl):PT X a (mTrue X.K ta):=by
 intro pins s σ H Q I h
 exact isTrue_plain (thn (ha pins s σ H _ I h) fun v s1 ⟨x,H1,I1,r1,q1⟩=>tru_ok pins s1 σ H1 x v Q I1 r1 (mTru_to q1)) (he _)
def c3d(ta tb:TE):TE:=fun σ H Q=>ta σ H (mB fun c H1=>if c=true then tb σ H1 Q else Q (.bl false) H1)
def mOrV(ta tb:TE):TE:=fun σ H Q=>ta σ H (mB fun c H1=>if c=true then Q (.bl true) H1 else tb σ H1 Q)
variable{rest:List Expr}
theorem c4b(ha:PE X a ta)(hb:PE X (.BoolOp .And (b::rest) pos) tb):PE X (.BoolOp .And (a::b::rest) pos) (c3d ta tb):=by
 have e:c3d ta tb=tAndV ta tb:=by funext σ H Q;unfold c3d tAndV;rw[c2z]
 rw[e];exact pe_and ha hb
theorem me_or(ha:PE X a ta)(hb:PE X (.BoolOp .Or (b::rest) pos) tb):PE X (.BoolOp .Or (a::b::rest) pos) (mOrV ta tb):=by
 have e:mOrV ta tb=tOrV ta tb:=by funext σ H Q;unfold mOrV tOrV;rw[c2z]
 rw[e];exact pe_or ha hb
def mIx(K:W.Frag):R2:=fun x y H Q=>match x,y with
 | .ref p,.int i=>(∃xs v,SqL K H p xs/\atI xs i=some v/\Q v H)\/∃xs v,SqT K H p xs/\atI xs i=some v/\Q v H
 | .str z,.int i=>z.length<=sizeLine/\∃c,atI z.cps.toList i=some c/\Q (.str ⟨#[c]⟩) H
 |_,_=>False
theorem mi_seq:IxR X (mIx X.K):=by
 intro value slice pins s σ H x y v u Q I rx ry h hs
 refine ix_seq value slice pins s σ H x y v u Q I rx ry ?_ hs
 cases x<;>cases y<;>first
  |exact(show False from h).elim
  | (rcases h with⟨xs,v,h1,h2,h3⟩|⟨xs,v,h1,h2,h3⟩
     ·exact .inl ⟨_,xs,_,v,rfl,rfl,h1,h2,h3⟩
     ·exact .inr (.inl ⟨_,xs,_,v,rfl,rfl,h1,h2,h3⟩))
  | (obtain⟨h1,c,h2,h3⟩:=h;exact .inr (.inr ⟨_,_,c,rfl,rfl,h1,h2,h3⟩))
def inS(i j:Str):Bool:=!(Builtin.Str.occurrences j i 0 j.length 1).isEmpty
def mInS(n:Bool):R2:=fun x y H Q=>match x,y with
 | .str i,.str j=>Q (.bl (n^^inS i j)) H
 |_,_=>False
theorem a6i:OpR X (compareOp .In) (mInS false):=d0a.imp fun x y H Q h=>by
 cases x<;>cases y<;>first|exact(show False from h).elim|exact⟨_,_,rfl,rfl,by simpa[mInS,inS]using h⟩
def mSlS:V->Option Int->Option Int->Hp->VK->Prop:=fun x lo hi H Q=>match x with
 | .str z=>z.length<=sizeLine/\Q (.str (cutS z lo hi)) H
 |_=>False
theorem b1m:SlR X mSlS:=by
 intro pins s σ H x v vl vu lo hi sl Q I rx hs pl pu h
 refine sl_str pins s σ H x v vl vu lo hi sl Q I rx hs pl pu ?_
 cases x<;>first|exact(show False from h).elim|exact⟨_,rfl,h.1,h.2⟩
def mI(R:Option Int->Hp->Prop):VK:=fun x H1=>match x with| .int i=>R (some i) H1|_=>False
def c3e(t:TE):TO:=fun σ H Q=>t σ H (mI Q)
theorem a3l(h:PE X e te):PO X (some e) (c3e te):=by
 have q:c3e te=tPart te:=by
  funext σ H Q
  unfold c3e tPart
  congr 1
  funext x H1
  cases x<;>simp[mI]
 rw[q];exact po_some h
def mLen(K:W.Frag):List V->Hp->VK->Prop:=fun vs H Q=>match vs with
 | [.str y]=>y.length<=sizeLine/\Q (.int y.length) H
 | [.ref p]=>(∃xs,SqL K H p xs/\Q (.int xs.length) H)\/∃xs,SqT K H p xs/\Q (.int xs.length) H
 |_=>False
theorem mc_len:a5c X (.builtin "len") (mLen X.K):=by
 intro pins s σ H xs us Q I r h
 refine d3r pins s σ H xs us Q I r ?_
 unfold mLen at h
 split at h
 ·exact⟨_,_,rfl,⟨h.1,rfl⟩,h.2⟩
 ·rcases h with⟨ys,h1,h2⟩|⟨ys,h1,h2⟩
  ·exact⟨_,_,rfl,.inl ⟨ys,h1,rfl⟩,h2⟩
  ·exact⟨_,_,rfl,.inr ⟨ys,h1,rfl⟩,h2⟩
 ·exact h.elim
theorem d4b(K:W.Frag)(t:Value):W.kitOne K t t=some true:=by
 unfold W.kitOne
 rw[if_pos (by simp)]
theorem c7e:∀{bs:List Bool}{us:List Value},Vals (bs.map V.bl) us->us=bs.map Value.bool
 | [],_,.nil=>rfl
 |b::bs,_,.cons r t=>by
  have r:_=Value.bool b:=r
  rw[Zp,r,c7e t]
theorem all_range(bs:List Bool):((List.range bs.length).all fun i=>bs.getD i true)=bs.all id:=by
 rw[Xe,Xx,Xx]
 constructor
 ·intro h x hx
  obtain⟨i,hi,e⟩:=List.getElem_of_mem hx
  have:=h i (Vd.mpr hi)
  rw[Yq,Zc hi]at this
  simpa[e]using this
 ·intro h i hi
  have hi:=Vd.mp hi
  rw[Yq,Zc hi]
  exact h _ (Ul hi)
def mAll(K:W.Frag)(f:List Bool->Bool):List V->Hp->VK->Prop:=fun vs H Q=>match vs with
 | [.ref p]=>∃bs:List Bool,SqL K H p (bs.map V.bl)/\Q (.bl (f bs)) H
 |_=>False
theorem d0v{pins:List (Addr×Obj)}{s:Shared}{σ:St}{H:Hp}{p:Addr}{bs:List Bool}{Q:VK}(hc:X.calm=true)(I:Inv X pins σ H s)(hs:SqL X.K H p (bs.map V.bl))(f:(Nat->Bool)->Nat->Bool)(q:Q (.bl (f (fun i=>bs.getD i true) bs.length)) H){E:Value->Shared->Prop}:
  wpAny (model X.prog X.w) X.A.in1 (pyIter (.ref p)) (fun it s2=>∃J fp wr n P St tr,it=.ref J/\Walks X.prog X.w X.A.in1 J fp wr n P St/\St 0 s2.heap/\TruthOf X.prog X.w X.A.in1 P tr/\
   ∀h' tk,(∀b o,b∉wr->s2.heap.get? b=some o->h'.get? b=some o)->EP X pins σ Q (.bool (f tr n)) { s2 with heap:=h',toks:=tk}) E s:=by
 obtain⟨its,r,pl,hz⟩:=I.list hs
 have e:=c7e r
 subst e
 have hl:p<s.heap.objs.size:=by
  obtain⟨o,n,h1,_⟩:=pl
  exact Zv h1
 refine Ub pl.isList ?_
 refine⟨s.heap.objs.size,[s.heap.objs.size,p],[s.heap.objs.size],(bs.map Value.bool).toArray.size,_,_,fun i=>bs.getD i true,rfl,Walks.list (A:=X.A.in1) (show X.A.in1.handled=none from I.ok.hd hc) s.heap.objs.size p (Yj hl) (bs.map Value.bool).toArray,
  ⟨⟨_,Z4 _ rfl,rfl,rfl⟩,pl.isList.at fun o e=>Zf _ e⟩,fun i v s' Q' E' hv hq=>?_,fun h' tk hk=>?_⟩
 ·have hv:(bs.map Value.bool).toArray[i]? =some v:=hv
  rw[Tf,Yv]at hv
  cases e:bs[i]? with
  |none=>rw[e]at hv;cases hv
  |some b=>
   rw[e]at hv
   have hv:Value.bool b=v:=Zo hv
   subst hv
   have hq:Q' (bs.getD i true) s':=hq
   rw[Yq,e]at hq
   exact Xj hq
 ·refine⟨.bl _,H,I.kept (fun b o e=>hk b o ?_ (Zf _ e)),rfl,by simpa using q⟩
  intro z
  have z:b=s.heap.objs.size:=by simpa using z
  exact absurd (Zv e) (by rw[z];exact Wg _)
theorem mc_all(hc:X.calm=true):a5c X (.builtin "all") (mAll X.K fun bs=>bs.all id):=by
 intro pins s σ H xs us Q I r h
 unfold mAll at h
 split at h
 ·obtain⟨u,rfl,r1⟩:=vals1 r
  cases r1
  obtain⟨bs,hs,q⟩:=h
  exact call_all_walk (d0v hc I hs (fun tr n=>(List.range n).all tr) (by rw[all_range];exact q))
 ·exact h.elim
theorem strs_of{ys:List Str}:∀{us:List Value},Vals (ys.map V.str) us->StrsAre us ys:=by
 induction ys with
 |nil=>intro us r;rw[Y3]at r;cases r;exact .nil
 |cons n ns ih=>
  intro us r
  rw[Zp]at r
  cases r with
  |cons r1 r2=>
   obtain⟨t,e⟩:=r1
   subst e
   exact .cons n t (ih r2)
def mJoin(K:W.Frag):V->List V->Hp->VK->Prop:=fun x vs H Q=>match x,vs with
 | .str sep,[.ref p]=>∃ys:List Str,SqL K H p (ys.map V.str)/\(ys.map (·.length)).sum+ys.length*sep.length<=16777216/\Q (.str (Txt.join sep ys)) H
 |_,_=>False
theorem mm_join:MtR X "str.join" (mJoin X.K):=by
 intro pins s σ H x xs v us Q I rx rs h
 unfold mJoin at h
 split at h
 ·obtain⟨t,rfl⟩:=rx
  obtain⟨u,rfl,r1⟩:=vals1 rs
  cases r1
  obtain⟨ys,hs,hz,q⟩:=h
  obtain⟨its,r,pl,_⟩:=I.list hs
  exact PyProof.Rows.join_list pl.isList (by simpa using strs_of r) hz fun t' k=>⟨.str _,H,I.tok _,⟨_,rfl⟩,q⟩
 ·exact h.elim
end
section
variable{X:Cx}{a b c e:Expr}{ta tb tc te:TE}{pos:Pos}
def c0m:V->List V->Hp->VK->Prop:=fun x vs H Q=>match x,vs with
 | .ref l,[y]=>∃xs,H l=some (.lst xs)/\xs.length<sizeLine/\Q .non (upd H l (.lst (xs++[y])))
 |_,_=>False
theorem a2j:MtR X "list.append" c0m:=by
 intro pins s σ H x xs v us Q I rx rs h
 refine c1z pins s σ H x xs v us Q I rx rs ?_
 unfold c0m at h
 split at h
 ·obtain⟨ys,h1,h2,h3⟩:=h
  exact⟨_,ys,_,rfl,rfl,h1,h2,h3⟩
 ·exact h.elim
def mPop:V->List V->Hp->VK->Prop:=fun x vs H Q=>match x,vs with
 | .ref l,[]=>∃xs y,H l=some (.lst (xs++[y]))/\Q y (upd H l (.lst xs))
 |_,_=>False
theorem b1n:MtR X "list.pop" mPop:=by
 intro pins s σ H x xs v us Q I rx rs h
 refine mt_pop pins s σ H x xs v us Q I rx rs ?_
 unfold mPop at h
 split at h
 ·obtain⟨ys,y,h1,h2⟩:=h
  exact⟨_,_,y,rfl,rfl,h1,by simp,by rw[Wz];exact h2⟩
 ·exact h.elim
def mRev:V->List V->Hp->VK->Prop:=fun x vs H Q=>match x,vs with
 | .ref l,[]=>∃xs,H l=some (.lst xs)/\Q .non (upd H l (.lst xs.reverse))
 |_,_=>False
theorem c8p:MtR X "list.reverse" mRev:=by
 intro pins s σ H x xs v us Q I rx rs h
 refine c8m pins s σ H x xs v us Q I rx rs ?_
 unfold mRev at h
 split at h
 ·obtain⟨ys,h1,h2⟩:=h
  exact⟨_,_,rfl,rfl,h1,h2⟩
 ·exact h.elim
def mUn(g:Int->Int):V->Hp->VK->Prop:=fun x H Q=>match x with| .int i=>Q (.int (g i)) H|_=>False
theorem a4v:UnR X (unaryOp .USub) (mUn fun i=>-i):=by
 intro pins s σ H x v Q I rx h
 refine un_neg pins s σ H x v Q I rx ?_
 cases x<;>first|exact(show False from h).elim|exact⟨_,rfl,h⟩
end
section
variable{X:Cx}
theorem a2p{x:Str}{z:Str}{tk:Tok}{pos:Pos}(hg:Gl X x)(hm:X.mg x=some (.str z tk))(hd:(x==("__debug__":Str))=false:=by decide):PE X (.Name x pos) (tC (.str z)):=a7v hg hm ⟨tk,rfl⟩ hd
theorem b1b{x:Str}{z:Int}{tk:Tok}{pos:Pos}(hg:Gl X x)(hm:X.mg x=some (.int z tk))(hd:(x==("__debug__":Str))=false:=by decide):PE X (.Name x pos) (tC (.int z)):=a7v hg hm ⟨tk,rfl⟩ hd
end
section
variable{X:Cx}{a b c e o:Expr}{es:List Expr}{ta tb tc te to:TE}{t:TA}{pos:Pos}{tg l:Expr}{tl:TE}
theorem c4c{x:Str}{n:String}{pos:Pos}(hg:Gl X x)(hm:X.mg x=none)(hv:bootBuiltins x=some (.type n))(hn:x≠"__name__":=by decide)(hd:(x==("__debug__":Str))=false:=by decide):PE X (.Name x pos) (tC (.ty n)):=pe_bltn hg hm hv rfl hn hd
theorem a1h(K:W.Frag)(h:X.K=K):OpR X (binaryOp .Add) (mAdd K):=h▸mo_add
theorem a1w(K:W.Frag)(h:X.K=K)(ha:PE X a ta)(he:∀whole,isTrue a X.env whole=(do let v <-whole;standAt a.pos;holding [v] (truthy v)):=by intro _;rfl):PT X a (mTrue K ta):=h▸mt_tru ha he
theorem a0k(K:W.Frag)(h:X.K=K):IxR X (mIx K):=h▸mi_seq
theorem a2d(K:W.Frag)(h:X.K=K):a5c X (.builtin "len") (mLen K):=h▸mc_len
theorem d0w(K:W.Frag)(h:X.K=K)(hc:X.calm=true):a5c X (.builtin "all") (mAll K fun bs=>bs.all id):=h▸mc_all hc
theorem km_join(K:W.Frag)(h:X.K=K):MtR X "str.join" (mJoin K):=h▸mm_join
theorem c4d(K:W.Frag)(h:X.K=K)(hl:PE X l tl):PI X tg l (iList K tl):=h▸pi_list hl
theorem a9w(K:W.Frag)(h:X.K=K){name:Str}{apos cpos:Pos}{T id:String}{r:V->List V->Hp->VK->Prop}(pa:PlainAttrs T)(slot:Slot T name id)(hty:typeOf (.builtin id)=pure (.type "method_descriptor"))(hm:MtR X id r)(ho:PE X o to)
  (hbase:attributeBase o name X.env (eval o X.env)=eval o X.env:=by rfl)(hline:(apos.endLine==cpos.line)=true:=by rfl):PE X (.Call (.Attribute o name apos) [] [] cpos) (tBM0 K T r to):=h▸pe_bm0 pa slot hty hm ho hbase hline
theorem a3t(K:W.Frag)(h:X.K=K){name:Str}{apos cpos:Pos}{T id:String}{r:V->List V->Hp->VK->Prop}(pa:PlainAttrs T)(slot:Slot T name id)(hty:typeOf (.builtin id)=pure (.type "method_descriptor"))(hm:MtR X id r)(ho:PE X o to)(ha:PA X (e::es) t)
  (hbase:attributeBase o name X.env (eval o X.env)=eval o X.env:=by rfl)
  (hfew:((backTo cpos (starEach (e::es) X.env)).all (fun x=>!x.1)&&(backToKw cpos (keywordEach [] X.env)).all (fun x=>x.1.isSome)
   &&decide ((e::es).length+([]:List Keyword).length+(if([]:List Keyword).isEmpty then 0 else 1)<30))=true:=by rfl)
  (hline:(apos.endLine==cpos.line)=true:=by rfl)(hs:starEach (e::es) X.env=(false,eval e X.env)::starEach es X.env:=by rfl)(hplain:(backTo cpos (starEach es X.env)).any (·.1)=false:=by rfl):
  PE X (.Call (.Attribute o name apos) (e::es) [] cpos) (tBM K T r to t):=h▸pe_bm pa slot hty hm ho ha hbase hfew hline hs hplain
theorem a4c{b c:Bool}(h:(false^^b)=c):b=c:=by cases b<;>exact h
end
theorem a2r(c:Nat)(j:Str):inS ⟨#[c]⟩ j=decide (c∈j.cps.toList):=PySem.StrLaws.found_one j c
theorem a9x{α:Type}{xs:List α}{i:Int}(h0:0<=i)(h1:i<(xs.length:Int)):∃v,atI xs i=some v/\xs[i.toNat]? =some v:=by
 have hk:i.toNat<xs.length:=by omega
 have ek:i=((i.toNat:Nat):Int):=by omega
 have q:xs[i.toNat]? =some xs[i.toNat]:=Zc hk
 refine⟨xs[i.toNat],?_,q⟩
 have:=a6y q
 rw[<-ek]at this
 exact this
theorem a0f{H:Hp}{p:Addr}(h:H p=none)(o:HO):Same H (upd H p o):=fun b u q=>by rw[a0j (a1c q h)];exact q
theorem a1n{H H':Hp}{p:Addr}{o:HO}(e:Same H H')(h:H p=none):Same H (upd H' p o):=fun b u q=>by rw[a0j (a1c q h)];exact e b u q
theorem Same.tup{K:W.Frag}{H H':Hp}{a:Addr}{xs:List V}(e:Same H H')(h:SqT K H a xs):SqT K H' a xs:=by
 rcases h with(h|⟨o,h⟩)|h
 ·exact .inl (.inl (e _ _ h))
 ·exact .inl (.inr ⟨o,e _ _ h⟩)
 ·exact .inr h
theorem cdiv_i{i j:Int}(h1:0<j)(h2:j<1073741824):CDiv i j:=⟨h1,h2⟩
theorem b3f{i j:Int}(h:-(2^64)<j/\j<2^64):IntMulOk i j:=CMul.ok (.inr h)
theorem b9k{i j:Int}(h:-(2^64)<i/\i<2^64):IntMulOk i j:=CMul.ok (.inl h)
section
variable{K:W.Frag}{σ:St}{H:Hp}{Q:VK}{D:Ends}{ta tb tc te:TE}{t u:TS}{A B:TT}{P:Bool->Hp->Prop}{v x y:V}{i j:Int}{n:Nat}{b:Bool}{p q:Str}
theorem mVar_i(h:σ[n]? =some (some v))(k:Q v H):mVar n σ H Q:=by unfold mVar;rw[h];exact k
theorem tC_i(k:Q v H):tC v σ H Q:=k
theorem tOp_i{r:R2}(k:ta σ H fun x H1=>tb σ H1 fun y H2=>r x y H2 Q):tOp r ta tb σ H Q:=k
theorem tUn_i{r:V->Hp->VK->Prop}(k:ta σ H fun x H1=>r x H1 Q):tUn r ta σ H Q:=k
theorem mUn_i{g:Int->Int}(k:Q (.int (g i)) H):mUn g (.int i) H Q:=k
theorem m20_i{g:Int->Int->V}(k:Q (g i j) H):m20 g (.int i) (.int j) H Q:=k
theorem m2_i{C:Int->Int->Prop}{g:Int->Int->V}(c:C i j)(k:Q (g i j) H):m2 C g (.int i) (.int j) H Q:=⟨c,k⟩
theorem mAdd_i(k:Q (.int (i+j)) H):mAdd K (.int i) (.int j) H Q:=k
theorem a8h(c:p.length+q.length<=sizeLine)(k:Q (.str (p++q)) H):mAdd K (.str p) (.str q) H Q:=⟨c,k⟩
theorem b5r(c:IntMulOk i j)(k:Q (.int (i*j)) H):mMul (.int i) (.int j) H Q:=⟨c,k⟩
theorem mEq_i(k:Q (.bl (b^^decide (i=j))) H):mEq b (.int i) (.int j) H Q:=k
theorem mEq_s(k:Q (.bl (b^^decide (p=q))) H):mEq b (.str p) (.str q) H Q:=k
theorem mInS_i(k:Q (.bl (b^^inS p q)) H):mInS b (.str p) (.str q) H Q:=k
theorem mB_i(k:P b H):mB P (.bl b) H:=k
theorem mTest_i(k:ta σ H (mB P)):c3c ta σ H P:=k
theorem mTrue_i(k:ta σ H (mTru K P)):mTrue K ta σ H P:=k
theorem mTru_b(k:P b H):mTru K P (.bl b) H:=k
theorem d4c{r r':R2}(k:ta σ H fun x H1=>tb σ H1 fun y H2=>r x y H2 (mB fun k H3=>if k=true then tc σ H3 fun w' H4=>r' y w' H4 Q else Q (.bl false) H3)):b9j r r' ta tb tc σ H Q:=k
theorem mAndV_i(k:ta σ H (mB fun c H1=>if c=true then tb σ H1 Q else Q (.bl false) H1)):c3d ta tb σ H Q:=k
theorem mOrV_i(k:ta σ H (mB fun c H1=>if c=true then Q (.bl true) H1 else tb σ H1 Q)):mOrV ta tb σ H Q:=k
theorem tIf_i(k:A σ H fun c H1=>if c=true then ta σ H1 Q else tb σ H1 Q):tIf A ta tb σ H Q:=k
theorem tAnd_i(k:A σ H fun c H1=>if c=true then B σ H1 P else P false H1):tAnd A B σ H P:=k
theorem tOr_i(k:A σ H fun c H1=>if c=true then P true H1 else B σ H1 P):tOr A B σ H P:=k
theorem tNot_i(k:A σ H fun c H1=>P (!c) H1):tNot A σ H P:=k
theorem c4e(k:t { D with nx:=u D} σ H):tSeq t u D σ H:=k
theorem tNext_i(k:D.nx σ H):tNext D σ H:=k
theorem tRet_i(k:te σ H D.rt):tRet te D σ H:=k
theorem tIfS_i(k:A σ H fun b H1=>if b=true then t D σ H1 else u D σ H1):tIfS A t u D σ H:=k
theorem tAsg_i{g:TG}(k:te σ H fun x H1=>g x σ H1 D.nx):tAsg te g D σ H:=k
theorem tDrop_i(k:te σ H fun _ H1=>D.nx σ H1):tDrop te D σ H:=k
theorem gName_i{N:St->Hp->Prop}(k:N (σ.set n (some v)) H):c2v n v σ H N:=k
theorem tCB_i{r:List V->Hp->VK->Prop}{a:TA}(k:a σ H fun vs H1=>r vs H1 Q):tCB r a σ H Q:=k
theorem tCons_i{a:TA}{R:List V->Hp->Prop}(k:ta σ H fun x H1=>a σ H1 fun xs H2=>R (x::xs) H2):c2w ta a σ H R:=k
theorem tNil_i{R:List V->Hp->Prop}(k:R [] H):tNil σ H R:=k
theorem tBM_i{T:String}{r:V->List V->Hp->VK->Prop}{a:TA}(k:ta σ H fun x H1=>tyV K T x H1/\a σ H1 fun xs H2=>r x xs H2 Q):tBM K T r ta a σ H Q:=k
theorem tBM0_i{T:String}{r:V->List V->Hp->VK->Prop}(k:ta σ H fun x H1=>tyV K T x H1/\r x [] H1 Q):tBM0 K T r ta σ H Q:=k
theorem tTup_i{a:TA}(k:a σ H fun xs H1=>xs.length<=sizeLine/\∀p,H1 p=none->Q (.ref p) (upd H1 p (.tup xs))):tTup a σ H Q:=k
theorem tLst_i{a:TA}(k:a σ H fun xs H1=>xs.length<=sizeLine/\∀p,H1 p=none->Q (.ref p) (upd H1 p (.lst xs))):tLst a σ H Q:=k
theorem tSl_i{r:V->Option Int->Option Int->Hp->VK->Prop}{tl th:TO}(k:te σ H fun x H1=>tl σ H1 fun l H2=>th σ H2 fun u H3=>r x l u H3 Q):tSl r te tl th σ H Q:=k
theorem d0x{R:Option Int->Hp->Prop}(k:R none H):c7a σ H R:=k
theorem mPart_i{R:Option Int->Hp->Prop}(k:te σ H (mI R)):c3e te σ H R:=k
theorem mI_i{R:Option Int->Hp->Prop}(k:R (some i) H):mI R (.int i) H:=k
theorem b1o{lo hi:Option Int}(c:p.length<=sizeLine)(k:Q (.str (cutS p lo hi)) H):mSlS (.str p) lo hi H Q:=⟨c,k⟩
theorem a9y(c:p.length<=sizeLine)(k:Q (.int p.length) H):mLen K [.str p] H Q:=⟨c,k⟩
theorem a4l{a:Addr}{xs:List V}(c:SqL K H a xs)(k:Q (.int xs.length) H):mLen K [.ref a] H Q:=.inl ⟨xs,c,k⟩
theorem mLen_t{a:Addr}{xs:List V}(c:SqT K H a xs)(k:Q (.int xs.length) H):mLen K [.ref a] H Q:=.inr ⟨xs,c,k⟩
theorem a2e{a:Addr}{xs:List V}(c:SqL K H a xs)(e:atI xs i=some v)(k:Q v H):mIx K (.ref a) (.int i) H Q:=.inl ⟨xs,v,c,e,k⟩
theorem a0w{a:Addr}{xs:List V}(c:SqT K H a xs)(e:atI xs i=some v)(k:Q v H):mIx K (.ref a) (.int i) H Q:=.inr ⟨xs,v,c,e,k⟩
theorem a3d{c:Nat}(z:p.length<=sizeLine)(e:atI p.cps.toList i=some c)(k:Q (.str ⟨#[c]⟩) H):mIx K (.str p) (.int i) H Q:=⟨z,c,e,k⟩
theorem a1u{a:Addr}{xs:List V}(e:H a=some (.lst xs))(c:xs.length<sizeLine)(k:Q .non (upd H a (.lst (xs++[v])))):c0m (.ref a) [v] H Q:=⟨xs,e,c,k⟩
theorem iteB{c d:Prop}(h1:b=true->c)(h2:b=false->d):if b=true then c else d:=by
 cases b with
 |true=>exact h1 rfl
 |false=>exact h2 rfl
theorem d4d{sp:Sp}{E:XK}{a:TA}(k:a σ H fun vs H1=>sp vs H1 Q E):tCall sp [] E a σ H Q:=by
 unfold tCall
 have e:(fun(vs:List V) (H1:Hp)=>sp (vs++[]) H1 Q E)=fun vs H1=>sp vs H1 Q E:=by funext vs H1;rw[Yo]
 rw[e];exact k
theorem tFor_i{wi:TI}{g:TG}(k:wi σ H fun J H1=>ForW J g t D σ H1):tFor wi g t D σ H:=k
theorem iStr_i{R:It->Hp->Prop}(k:ta σ H fun v H1=>∃x,v=.str x/\R (Its x) H1):iStr ta σ H R:=k
theorem iList_i{R:It->Hp->Prop}(k:ta σ H fun x H1=>∃a,x=.ref a/\(∃xs,SqL K H1 a xs)/\R (Itl K a) H1):iList K ta σ H R:=k
theorem iRng1_i{a:TA}{R:It->Hp->Prop}(k:a σ H fun vs H1=>∃j:Int,vs=[.int j]/\-(2^62)<=j/\j<2^62/\R (Itr 0 j.toNat) H1):iRng1 a σ H R:=k
theorem tComp_i{wi:TI}{tt:TT}(k:wi σ H fun J H1=>∀D,H1 D=none->c2y J tt te σ Q D H1):tComp wi tt te σ H Q:=k
theorem b5s{z:Str}{i:Int}(h0:0<=i)(h1:i<(z.length:Int)):∃c,atI z.cps.toList i=some c:=by
 obtain⟨c,hc,_⟩:=a9x (xs:=z.cps.toList) h0 (by simp only[Xs];exact h1)
 exact⟨c,hc⟩
end
mutual
inductive Den(K:W.Frag)(H:Hp):V->PyData->Prop
 |non:Den K H .non .none
 |bl (b:Bool):Den K H (.bl b) (.bool b)
 |int (i:Int):Den K H (.int i) (.int i)
 |str (x:Str):Den K H (.str x) (.str x)
 |tup {a:Addr} {us:List V} {ds:List PyData}:SqT K H a us->DenL K H us ds->Den K H (.ref a) (.tuple ds)
inductive DenL(K:W.Frag)(H:Hp):List V->List PyData->Prop
 |nil:DenL K H [] []
 |cons {u:V} {us:List V} {d:PyData} {ds:List PyData}:Den K H u d->DenL K H us ds->DenL K H (u::us) (d::ds)
end
mutual
theorem Den.monoT{K:W.Frag}{H H':Hp}(e:∀a xs,SqT K H a xs->SqT K H' a xs):∀{v:V}{d:PyData},Den K H v d->Den K H' v d
 |_,_,.non=>.non
 |_,_,.bl b=>.bl b
 |_,_,.int i=>.int i
 |_,_,.str x=>.str x
 |_,_,.tup h l=>.tup (e _ _ h) (DenL.monoT e l)
theorem DenL.monoT{K:W.Frag}{H H':Hp}(e:∀a xs,SqT K H a xs->SqT K H' a xs):∀{v:List V}{d:List PyData},DenL K H v d->DenL K H' v d
 |_,_,.nil=>.nil
 |_,_,.cons h l=>.cons (Den.monoT e h) (DenL.monoT e l)
end
theorem Den.mono{K:W.Frag}{H H':Hp}(e:Same H H'){v:V}{d:PyData}(h:Den K H v d):Den K H' v d:=h.monoT fun _ _ q=>e.tup q
theorem DenL.mono{K:W.Frag}{H H':Hp}(e:Same H H'){v:List V}{d:List PyData}(h:DenL K H v d):DenL K H' v d:=h.monoT fun _ _ q=>e.tup q
theorem a8t{K:W.Frag}{H:Hp}{p:Addr}{ys:List V}{o:HO}(h:H p=some (.lst ys)):∀a xs,SqT K H a xs->SqT K (upd H p o) a xs:=fun a xs q=>by
 rcases q with(q|⟨o',q⟩)|q
 ·exact .inl (.inl (by rw[a0j (b8y q h (fun z=>by cases z))];exact q))
 ·exact .inl (.inr ⟨o',by rw[a0j (b8y q h (fun z=>by cases z))];exact q⟩)
 ·exact .inr q
theorem Den.lst{K:W.Frag}{H:Hp}{p:Addr}{ys:List V}{o:HO}(h:H p=some (.lst ys)){v:V}{d:PyData}(q:Den K H v d):Den K (upd H p o) v d:=q.monoT (a8t h)
theorem DenL.lst{K:W.Frag}{H:Hp}{p:Addr}{ys:List V}{o:HO}(h:H p=some (.lst ys)){v:List V}{d:List PyData}(q:DenL K H v d):DenL K (upd H p o) v d:=q.monoT (a8t h)
section
variable{K:W.Frag}{H:Hp}
theorem DenL.length:∀{us:List V}{ds:List PyData},DenL K H us ds->us.length=ds.length
 |_,_,.nil=>rfl
 |_,_,.cons _ l=>by rw[length_cons,length_cons,DenL.length l]
theorem DenL.get:∀{us:List V}{ds:List PyData}{i:Nat}{u:V},DenL K H us ds->us[i]? =some u->∃d,ds[i]? =some d/\Den K H u d
 |_,_,_,_,.nil,e=>by simp at e
 |_,_,0,_,.cons h _,e=>by simp at e;subst e;exact⟨_,rfl,h⟩
 |_,_,i+1,u,.cons _ l,e=>by
  obtain⟨d,h1,h2⟩:=DenL.get (i:=i) (u:=u) l (by simpa using e)
  exact⟨d,by simpa using h1,h2⟩
theorem DenL.append:∀{us vs:List V}{ds es:List PyData},DenL K H us ds->DenL K H vs es->DenL K H (us++vs) (ds++es)
 |_,_,_,_,.nil,l=>l
 |_,_,_,_,.cons h t,l=>.cons h (DenL.append t l)
theorem DenL.take:∀{us:List V}{ds:List PyData}(n:Nat),DenL K H us ds->DenL K H (us.take n) (ds.take n)
 |_,_,0,_=>.nil
 |_,_,_+1,.nil=>.nil
 |_,_,n+1,.cons h t=>.cons h (DenL.take n t)
theorem DenL.drop:∀{us:List V}{ds:List PyData}(n:Nat),DenL K H us ds->DenL K H (us.drop n) (ds.drop n)
 |_,_,0,l=>l
 |_,_,_+1,.nil=>.nil
 |_,_,n+1,.cons _ t=>DenL.drop n t
end
section
variable{X:Cx}{a b c e:Expr}{ta tb tc te:TE}{pos:Pos}{tg l:Expr}{tl:TE}
theorem a7y{k:Nat}{A:Around}(hr:Room k A):A.units+150<cLine:=by have:=hr.un;omega
def mSlL(K:W.Frag):V->Option Int->Option Int->Hp->VK->Prop:=fun x lo hi H Q=>∃a xs,x=.ref a/\SqL K H a xs/\∀p,H p=none->Q (.ref p) (upd H p (.lst (cutV xs lo hi)))
theorem b3r(K:W.Frag)(h:X.K=K):SlR X (mSlL K):=h▸sl_list
def mTup(K:W.Frag):List V->Hp->VK->Prop:=fun vs H Q=>∃p ys,vs=[.ref p]/\((SqL K H p ys/\∀l,H l=none->Q (.ref l) (upd H l (.tup ys)))\/(SqT K H p ys/\Q (.ref p) H))
theorem c4f(K:W.Frag)(h:X.K=K):a5c X (.type "tuple") (mTup K):=h▸c2p
def mMin:List V->Hp->VK->Prop:=fun vs H Q=>∃i j,vs=[.int i,.int j]/\Q (.int (if j<i then j else i)) H
theorem c4g(hc:X.calm=true):a5c X (.builtin "min") mMin:=d0b hc
end
open PySem.AutoSeq1 in
open PySem.MeetsSeq PySem.MeetsSeq2 PySem.MeetsSeq3 in
theorem c8q(l:Addr)(items:Array Value)(n:Nat)(b:Addr)(items2:Array Value)(n2:Nat)(dd:Option Addr)(sl:Array (Option Value))(hs0:¬(!items.isEmpty&&Builtin.List.listTooLong (items.size+items2.size))=true)(hs1:items.size<=sizeLine)(hs2:items.size+items2.size<=sizeLine+1):
  Meets (Builtin.«list.extend» ⟨[.ref l,.ref b],[]⟩) (fun _ R s=>s.heap.get? l=some { cls:=.type "list",dict:=none,data:=.seq items n,slots:=#[]}/\s.heap.get? b=some { cls:=.type "tuple",dict:=dd,data:=.seq items2 n2,slots:=sl}/\
   R (.ok (.ret Value.none)) { s with heap:=s.heap.update l (Obj.mapSeq fun x=>x++items2),toks:=s.toks}):=
 .of_wp fun prog w A R s h=>by
  obtain⟨hp,g,d,tk,os⟩:=s
  obtain⟨hl,hb,h⟩:=h
  have f1:=idx_int
  have f2:=PySem.AutoSeq1.sub_tuple_tuple
  have f3:=PySem.AutoSeq1.sub_list_list
  have f4:=PySem.AutoSeq1.sub_tuple_list
  have f5:=PySem.AutoSeq1.sub_list_tuple
  have hz':(items++items2).size<=sizeLine+1:=by rw[Array.size_append];exact hs2
  wp_walk using(wpAny_updateSeq hl rfl (hz:=hs1) (_hz':=hz')),wpAny_loadPart' hl,wpAny_loadPart' hb
  exact⟨_,rfl,h⟩
section
variable{X:Cx}
def mExt(K:W.Frag):V->List V->Hp->VK->Prop:=fun x vs H Q=>∃l b xs zs,x=.ref l/\vs=[.ref b]/\H l=some (.lst xs)/\(H b=some (.lst zs)\/SqT K H b zs)/\xs.length+zs.length<=sizeLine/\Q .non (upd H l (.lst (xs++zs)))
theorem b5t(K:W.Frag)(hK:X.K=K):MtR X "list.extend" (mExt K):=by
 subst hK
 intro pins s σ H x vs v us Q I rx rv h
 obtain⟨l,b,xs,zs,e1,e2,hH,hB,hz,q⟩:=h
 rcases hB with hB|hB
 ·exact d0i pins s σ H x vs v us Q I rx rv ⟨l,b,xs,zs,e1,e2,hH,hB,hz,q⟩
 ·subst e1 e2
  cases rx
  obtain⟨u,rfl,ru⟩:=rv.one
  cases ru
  obtain⟨z,its,n,r,hl,e⟩:=I.lstM hH
  obtain⟨its2,r2,pl,z2⟩:=I.tuple hB
  obtain⟨⟨cls,dd,data,sl⟩,ho,hc,n2,hd⟩:=pl
  simp only at hc hd
  subst hc hd
  have hl2:=r2.length
  have hsz:its.toArray.size+its2.toArray.size<=sizeLine:=by rw[Zh,Zh];omega
  have hlong:¬(!its.toArray.isEmpty&&Builtin.List.listTooLong (its.toArray.size+its2.toArray.size))=true:=by
   rw[b7u hsz,Wa]
   exact Zr
  refine Va Wm ⟨_,e,rfl⟩ T1 (Tr _ _) (c8q l its.toArray n b its2.toArray n2 dd sl hlong (by rw[Zh];omega) (by omega)) ⟨e,ho,?_⟩
  refine⟨.non,_,I.lset (its':=its++its2) hH e (by simp) (r.append r2) ?_,rfl,q⟩
  rw[Za]
  omega
end
section
variable{σ:St}{H:Hp}{D:Ends}{t:TS}{c:TT}
def d0y(c:TT)(t:TS)(D:Ends)(σ:St)(H:Hp):Prop:=c3o c t D σ H
theorem d4e(k:d0y c t D σ H):c3o c t D σ H:=k
theorem a3c(Pv:Nat->St->Hp->Prop)(n:Nat)(h0:Pv n σ H)
  (hs:∀n σ H (R:Bool->Hp->Prop),Pv n σ H->(∀H1,(∀(D':Ends),D'.rt=D.rt->D'.bk=D.nx->(∀σ' H' m,m<n->Pv m σ' H'->D'.nx σ' H')->(∀σ' H' m,m<n->Pv m σ' H'->D'.ct σ' H')->t D' σ H1)->R true H1)->(∀H1,D.nx σ H1->R false H1)->c σ H R):d0y c t D σ H:=by
 refine⟨Pv,⟨n,h0⟩,fun m σ H p=>?_⟩
 refine hs m σ H _ p (fun H1 k=>?_) (fun H1 k=>k)
 exact⟨fun σ' H'=>∃m',m'<m/\Pv m' σ' H',fun _ _ h=>h,k _ rfl rfl (fun _ _ m' hm hp=>⟨m',hm,hp⟩) (fun _ _ m' hm hp=>⟨m',hm,hp⟩)⟩
end
theorem kit_ty{K:W.Frag}{T n:String}{b:Bool}(h:(if(Value.type T==Value.type n)=true then some true else if W.kitMeta n=true then(fastBuiltinMro T).map (·.contains (.type n))else none)=some b):W.kitOne K (.type T) (.type n)=some b:=h
section
variable{X:Cx}{a:Expr}{ta:TE}
def tyN(K:W.Frag)(H:Hp):V->String->Prop
 | .non,T=>T="NoneType"
 | .bl _,T=>T="bool"
 | .int _,T=>T="int"
 | .str _,T=>T="str"
 | .ref p,T=>(T="list"/\∃xs,SqL K H p xs)\/(T="tuple"/\∃xs,SqT K H p xs)\/(T="dict"/\∃kvs,H p=some (.dK kvs))
 |_,_=>False
def mIs(K:W.Frag):List V->Hp->VK->Prop:=fun vs H Q=>∃x n T b,vs=[x,.ty n]/\tyN K H x T/\(∀K':W.Frag,W.kitOne K' (.type T) (.type n)=some b)/\Q (.bl b) H
theorem kc_is(K:W.Frag)(hK:X.K=K):a5c X (.builtin "isinstance") (mIs K):=by
 subst hK
 intro pins s σ H xs us Q I r h
 obtain⟨x,n,T,b,rfl,ht,hk,q⟩:=h
 obtain⟨u,w',rfl,r1,r2⟩:=vals2 r
 cases r2
 have fin:∀tk,EP X pins σ Q (.bool b) { s with toks:=tk}:=fun tk=>⟨.bl b,H,I.tok _,rfl,q⟩
 cases x with
 |non=>cases ht;exact a9v I r1 .non (hk _) fin
 |bl y=>cases ht;exact a9v I r1 (.bl y) (hk _) fin
 |int i=>cases ht;exact a9v I r1 (.int i) (hk _) fin
 |str z=>cases ht;exact a9v I r1 (.str z) (hk _) fin
 |ref p=>
  cases r1
  rcases ht with⟨rfl,xs,hs⟩|⟨rfl,xs,hs⟩|⟨rfl,kvs,hs⟩
  ·obtain⟨its,_,⟨o,n',h1,h2,_⟩,_⟩:=I.list hs
   exact Xv Tm I.kIn ⟨o,h1,h2⟩ (hk _) (fun z=>nomatch z) fin
  ·obtain⟨its,_,⟨o,h1,h2,_⟩,_⟩:=I.tuple hs
   exact Xv W.kitx_tuple I.kIn ⟨o,h1,h2⟩ (hk _) (fun z=>nomatch z) fin
  ·exact a9v (x:=.ref p) I rfl (.dK hs) (hk _) fin
 |_=>exact(show False from ht).elim
end
section
variable{K:W.Frag}{H:Hp}{Q:VK}{i:Int}{p:Str}{b:Bool}{a:Addr}{xs:List V}
theorem is_str(k:Q (.bl true) H):mIs K [.str p,.ty "str"] H Q:=⟨_,_,_,true,rfl,rfl,fun _=>d4b _ _,k⟩
theorem a5v{α:Type}{xs:List α}{i:Int}{v:α}(h:atI xs i=some v):v∈xs:=by
 obtain⟨j,_,e,_⟩:=b6x h
 exact Xn e
theorem a5f(l m:List Nat):(⟨l.toArray⟩:Str)++⟨m.toArray⟩=⟨(l++m).toArray⟩:=by
 apply Vx
 show l.toArray++m.toArray=(l++m).toArray
 simp
theorem str_len(l:List Nat):(⟨l.toArray⟩:Str).length=l.length:=by simp[Str.length]
theorem ints_at{ns:List Int}{i:Int}{v:V}(h:atI (ns.map V.int) i=some v):∃n,v=.int n:=by
 have:=a5v h
 obtain⟨n,_,e⟩:=Yx.mp this
 exact⟨n,e.symm⟩
theorem c4h{ns:List Int}{i:Nat}(h:i<(ns.map V.int).length):∃n,(ns.map V.int).getD i .non=.int n:=by
 rw[length_map]at h
 rw[Yq,Yv,Zc h]
 exact⟨_,rfl⟩
theorem b5u{lo hi:Option Int}(c:SqL K H a xs)(k:∀p,H p=none->Q (.ref p) (upd H p (.lst (cutV xs lo hi)))):mSlL K (.ref a) lo hi H Q:=⟨a,xs,rfl,c,k⟩
theorem d0z(c:SqL K H a xs)(k:∀l,H l=none->Q (.ref l) (upd H l (.tup xs))):mTup K [.ref a] H Q:=⟨a,xs,rfl,.inl ⟨c,k⟩⟩
theorem mMin_i{j:Int}(k:Q (.int (if j<i then j else i)) H):mMin [.int i,.int j] H Q:=⟨i,j,rfl,k⟩
theorem mExt_t{zs:List V}{l:Addr}(e:H l=some (.lst xs))(c:SqT K H a zs)(z:xs.length+zs.length<=sizeLine)(k:Q .non (upd H l (.lst (xs++zs)))):mExt K (.ref l) [.ref a] H Q:=⟨l,a,xs,zs,rfl,rfl,e,.inr c,z,k⟩
theorem d1a{zs:List V}{l:Addr}(e:H l=some (.lst xs))(c:H a=some (.lst zs))(z:xs.length+zs.length<=sizeLine)(k:Q .non (upd H l (.lst (xs++zs)))):mExt K (.ref l) [.ref a] H Q:=⟨l,a,xs,zs,rfl,rfl,e,.inl c,z,k⟩
theorem b1p{l:Addr}{v:V}(e:H l=some (.lst (xs++[v])))(k:Q v (upd H l (.lst xs))):mPop (.ref l) [] H Q:=⟨xs,v,e,k⟩
theorem a6j{q:Addr}{ys:List V}(e1:H a=some (.lst xs))(e2:H q=some (.lst ys))(z:xs.length+ys.length<=sizeLine)(k:∀d,H d=none->Q (.ref d) (upd H d (.lst (xs++ys)))):mAdd K (.ref a) (.ref q) H Q:=.inl ⟨xs,ys,e1,e2,z,k⟩
theorem iRng2_i{σ:St}{ta:TA}{R:It->Hp->Prop}(k:ta σ H fun vs H1=>∃i j:Int,vs=[.int i,.int j]/\(-(2^62)<=i/\i<2^62/\-(2^62)<=j/\j<2^62)/\R (Itr i (j-i).toNat) H1):iRng2 ta σ H R:=k
end
abbrev a2k:Str:=ofString "abcdefghijklmnopqrstuvwxyz"
abbrev a2v:Str:=ofString "ABCDEFGHIJKLMNOPQRSTUVWXYZ"
abbrev figS:Str:=ofString "0123456789"
abbrev a6c:Str:=ofString "+-*/:<=>&^?@#!;$"
abbrev b0k:Str:=ofString "abcdefghijklmnopqrstuvwxyzABCDEFGHIJKLMNOPQRSTUVWXYZ0123456789"
abbrev one(c:Nat):Str:=⟨#[c]⟩
abbrev a6k(K:W.Frag):Sp:=fun vs H Q _=>match vs with| [.ref a,.int k]=>∃ns:List Int,SqL K H a (ns.map V.int)/\0<=k/\k<=1000/\∀v,Q (.int v) H|_=>False
abbrev a5w:Sp:=fun vs H Q _=>match vs with| [.int c,.int m]=>0<=m/\m<=100/\∀(p:Addr)(ns:List Int)(H':Hp),ns.length=m.toNat->Same H H'->H' p=some (.lst (ns.map V.int))->Q (.ref p) H'|_=>False
abbrev b0l(K:W.Frag):Sp:=fun vs H Q _=>match vs with
 | [.ref a,.int at_,.int m]=>∃ns:List Int,SqL K H a (ns.map V.int)/\ns.length<=63/\0<=at_/\at_<=100/\0<=m/\m<=100/\∀(p:Addr)(cs:List Int)(H':Hp),cs.length<=m.toNat->Same H H'->H' p=some (.lst (cs.map V.int))->Q (.ref p) H'
 |_=>False
abbrev a9j:Sp:=fun vs H Q _=>match vs with| [.int c]=>∀(n:Int)(H':Hp),-(10^30)<n->n<10^30->Same H H'->Q (.int n) H'|_=>False
abbrev a6l:Sp:=fun vs H Q _=>match vs with| [.int c,.str heads]=>heads.length=26/\∀(x:Nat)(r:List Nat),x∈heads.cps.toList->r.length<=11->(∀y∈r,y∈b0k.cps.toList)->Q (.str ⟨(x::r).toArray⟩) H|_=>False
abbrev b2m:Sp:=fun vs H Q _=>match vs with| [.int c]=>∀z:List Nat,1<=z.length->z.length<=3->(∀y∈z,y∈a6c.cps.toList)->z≠[60,45]->Q (.str ⟨z.toArray⟩) H|_=>False
theorem ln{n:Nat}(h:n<=100000):n<=sizeLine:=by rw[Xk];omega
theorem ln1{n:Nat}(h:n<100000):n<sizeLine:=by rw[Xk];omega
theorem b8b:ofString "<-"=⟨[60,45].toArray⟩:=by decide+kernel
theorem back_eq:ofString "->"=⟨[45,62].toArray⟩:=by decide+kernel
theorem tl62:b0k.length=62:=by decide+kernel
theorem mk16:a6c.length=16:=by decide+kernel
section
variable{X:Cx}{e:Expr}{te:TE}{pos:Pos}
def mAug(i:Nat)(te:TE)(ti:TIp):TS:=fun D σ H=>∃x,σ[i]? =some (some x)/\te σ H fun y H1=>ti x y H1 fun z H2=>D.nx (σ.set i (some z)) H2
theorem b3s{i:Nat}{x:Str}{op:Operator}{ti:TIp}{pos':Pos}(hN:X.N.Nodup)(hi:X.N[i]? =some x)(hx:Loc X.env.scope x)(he:PE X e te)(ho:PIp X op ti)(hf:X.fn x=true\/X.env.scope.names.lookup x=some .local:=by first|exact .inl rfl|exact .inr rfl|assumption):
  PS X (.AugAssign (.Name x pos') op e pos) (mAug i te ti):=ps_aug hN hi hx he ho hf
def mIAdd:TIp:=fun x y H Q=>match x,y with
 | .int i,.int j=>Q (.int (i+j)) H
 | .str i,.str j=>i.length+j.length<=sizeLine/\Q (.str (i++j)) H
 |_,_=>False
theorem a7n:PIp X .Add mIAdd:=by
 intro pins s σ H x y v u Q I rx ry h
 refine(OpR.or iop_add c6e) pins s σ H x y v u Q I rx ry ?_
 cases x<;>cases y<;>first
  |exact(show False from h).elim
  |exact .inl ⟨_,_,rfl,rfl,h⟩
  |exact .inr ⟨_,_,rfl,rfl,h.1,h.2⟩
end
section
variable{σ:St}{H:Hp}{Q:VK}{D:Ends}{te:TE}{n:Nat}{v:V}{i j:Int}
theorem mAug_i{ti:TIp}(h:σ[n]? =some (some v))(k:te σ H fun y H1=>ti v y H1 fun z H2=>D.nx (σ.set n (some z)) H2):mAug n te ti D σ H:=⟨v,h,k⟩
theorem mIAdd_i(k:Q (.int (i+j)) H):mIAdd (.int i) (.int j) H Q:=k
end
inductive Trm where
 |num(n:Int)
 |any(x:Str)
 |app(sg:Str)(ks:List Trm)
abbrev numS:Str:=ofString "num"
abbrev anyS:Str:=ofString "any"
abbrev appS:Str:=ofString "app"
mutual
def Trm.data:Trm->PyData
 | .num n=>.tuple [.str numS,.int n]
 | .any x=>.tuple [.str anyS,.str x]
 | .app sg ks=>.tuple [.str appS,.str sg,.tuple (Trm.dataL ks)]
def Trm.dataL:List Trm->List PyData
 | []=>[]
 |t::r=>t.data::Trm.dataL r
end
mutual
def Trm.size:Trm->Nat
 | .num _=>1
 | .any _=>1
 | .app _ ks=>1+Trm.sizeL ks
def Trm.sizeL:List Trm->Nat
 | []=>0
 |t::r=>t.size+Trm.sizeL r
end
theorem Trm.size_pos:∀t:Trm,1<=t.size
 | .num _=>Zb 1
 | .any _=>Zb 1
 | .app _ ks=>by unfold Trm.size;omega
theorem Trm.dataL_map:∀ts:List Trm,Trm.dataL ts=ts.map Trm.data
 | []=>rfl
 |t::r=>by rw[Trm.dataL,Trm.dataL_map r,Zp]
theorem Trm.sizeL_map:∀ts:List Trm,Trm.sizeL ts=(ts.map Trm.size).sum
 | []=>rfl
 |t::r=>by rw[Trm.sizeL,Trm.sizeL_map r,Zp,Ww]
theorem Trm.sizeL_app(a b:List Trm):Trm.sizeL (a++b)=Trm.sizeL a+Trm.sizeL b:=by
 rw[Trm.sizeL_map,Trm.sizeL_map,Trm.sizeL_map,Zq,List.sum_append]
theorem Trm.len_le(ts:List Trm):ts.length<=Trm.sizeL ts:=by
 induction ts with
 |nil=>simp
 |cons t r ih=>
  have:=t.size_pos
  rw[Trm.sizeL,length_cons];omega
section
variable{K:W.Frag}{H:Hp}{v:V}
theorem a5x{n:Int}(h:Den K H v (Trm.num n).data):∃a,v=.ref a/\SqT K H a [.str numS,.int n]:=by
 unfold Trm.data at h
 cases h with
 |tup hs hl=>
  cases hl with
  |cons h1 hl=>
   cases hl with
   |cons h2 hl=>
    cases hl
    cases h1
    cases h2
    exact⟨_,rfl,hs⟩
theorem a5y{x:Str}(h:Den K H v (Trm.any x).data):∃a,v=.ref a/\SqT K H a [.str anyS,.str x]:=by
 unfold Trm.data at h
 cases h with
 |tup hs hl=>
  cases hl with
  |cons h1 hl=>
   cases hl with
   |cons h2 hl=>
    cases hl
    cases h1
    cases h2
    exact⟨_,rfl,hs⟩
theorem a4g{sg:Str}{ks:List Trm}(h:Den K H v (Trm.app sg ks).data):∃a b us,v=.ref a/\SqT K H a [.str appS,.str sg,.ref b]/\SqT K H b us/\DenL K H us (Trm.dataL ks):=by
 unfold Trm.data at h
 cases h with
 |tup hs hl=>
  cases hl with
  |cons h1 hl=>
   cases hl with
   |cons h2 hl=>
    cases hl with
    |cons h3 hl=>
     cases hl
     cases h1
     cases h2
     cases h3 with
     |tup hb hk=>exact⟨_,_,_,rfl,hs,hb,hk⟩
theorem b1c{a b:Addr}{sg:Str}{ks:List Trm}{us:List V}(h:SqT K H a [.str appS,.str sg,.ref b])(hb:SqT K H b us)(hk:DenL K H us (Trm.dataL ks)):Den K H (.ref a) (Trm.app sg ks).data:=by
 unfold Trm.data
 exact .tup h (.cons (.str _) (.cons (.str _) (.cons (.tup hb hk) .nil)))
theorem b4h{t:Trm}(h:Den K H v t.data):∃a us ds,v=.ref a/\SqT K H a us/\DenL K H us ds/\t.data=.tuple ds:=by
 cases t with
 |num n=>unfold Trm.data at h ⊢;cases h with|tup hs hl=>exact⟨_,_,_,rfl,hs,hl,rfl⟩
 |any x=>unfold Trm.data at h ⊢;cases h with|tup hs hl=>exact⟨_,_,_,rfl,hs,hl,rfl⟩
 |app sg ks=>unfold Trm.data at h ⊢;cases h with|tup hs hl=>exact⟨_,_,_,rfl,hs,hl,rfl⟩
theorem DenL.snoc{us:List V}{ds:List PyData}{d:PyData}(h:DenL K H us (ds++[d])):∃us' u,us=us'++[u]/\DenL K H us' ds/\Den K H u d:=by
 induction ds generalizing us with
 |nil=>
  cases h with
  |cons h1 h2=>
   cases h2
   exact⟨[],_,rfl,.nil,h1⟩
 |cons x r ih=>
  cases h with
  |cons h1 h2=>
   obtain⟨us',u,rfl,a,b⟩:=ih h2
   exact⟨_::us',u,rfl,.cons h1 a,b⟩
theorem DenL.nil_inv{us:List V}(h:DenL K H us []):us=[]:=by cases h;rfl
end
def Itv(K:W.Frag)(a:Addr)(n:Nat):It:=⟨fun i H=>∃xs,SqL K H a xs/\xs.length=n/\i<n,fun i H x H'=>H'=H/\∀xs,SqL K H a xs->xs[n-1-i]? =some x,fun i _=>i=n⟩
theorem d4f{P:Program}{w:World}{K:W.Frag}{tg:Expr}(a it:Addr)(n:Nat):Turn P w K tg (Itv K a n) [it] it (fun i h=>h.IsRevIter it a ((n:Int)-1-(i:Nat))) where
 mem:=by simp
 obj:=fun i h st b hb=>by
  have e:b=it:=by simpa using hb
  subst e
  obtain⟨o,e,c,d⟩:=st
  exact⟨o,e,fun v z=>by rw[d]at z;cases z⟩
 keep:=fun i h h' st k=>st.at fun o e=>k it (by simp) o e
 item:=by
  intro X hP hw hK hc i pins s σ H E I hf st hg
  subst hP hw hK
  obtain⟨xs,hq,hn,hi⟩:=hg
  obtain⟨its,rv,p,hz⟩:=I.list hq
  have hj:n-1-i<xs.length:=by omega
  obtain⟨u,hu,ru⟩:=rv.get (Zc hj)
  obtain⟨f0,f1,f2,f3,f4,f5⟩:=hf it (by simp)
  have e1:(n:Int)-1-(i:Nat)=((n-1-i:Nat):Int):=by omega
  rw[e1]at st
  refine wpAny_pyNext_rev_item st p.isList (x:=u) (by simpa using hu) fun h' st' sb=>?_
  have I1:Inv X pins σ H { s with heap:=h'}:=I.turned (t':=s.toks) (fun b o hb e=>(sb.2 b hb).trans e) f0 f1 f3 f4 f5
  obtain⟨o,e,c,d⟩:=id st'
  have e2:((n-1-i:Nat):Int)-1=(n:Int)-1-((i+1:Nat):Int):=by omega
  rw[e2]at st'
  exact⟨u,rfl,b9a (s:={ s with heap:=h'}) e c d (by decide) ⟨xs[n-1-i],H,I1,ru,⟨rfl,fun ys hy=>by rw[I.list_inj hy hq];exact Zc hj⟩,st',fun b hb=>(hf b hb).1⟩⟩
 done:=by
  intro X hP hw hK hc i pins s σ H E I hf st hg
  subst hP hw hK
  obtain⟨f0,f1,f2,f3,f4,f5⟩:=hf it (by simp)
  have hg:i=n:=hg
  subst hg
  have e1:(i:Int)-1-(i:Nat)= -1:=by omega
  rw[e1]at st
  exact wpAny_pyNext_rev_end (I.ok.hd hc) st fun h' eb=>⟨rfl,I.turned (t':=s.toks) (fun b o hb e=>eb b o hb e) f0 f1 f3 f4 f5⟩
 self:=fun _ _ _ _ _ st h=>Th st h
section
variable{X:Cx}{tg:Expr}
def iRev(K:W.Frag)(ta:TA):TI:=fun σ H R=>ta σ H fun vs H1=>∃a xs,vs=[.ref a]/\SqL K H1 a xs/\R (Itv K a xs.length) H1
theorem kpi_rev(K:W.Frag)(hK:X.K=K){a:Expr}{ta:TA}{p pos:Pos}(hg:Gl X "reversed")(hm:X.mg "reversed"=none)(ha:PA X [a] ta)(hs:starEach [a] X.env=[(false,eval a X.env)]:=by rfl):PI X tg (.Call (.Name "reversed" p) [a] [] pos) (iRev K ta):=by
 subst hK
 intro pins s σ H R I h
 refine Call_ (b3m I hg hm boot_reversed (X8 (thn (ha pos pins s σ H _ I h) fun us s1 ⟨vs,H1,I1,r1,q1⟩=>?_) hs rfl))
 obtain⟨l,xs,e,hq,q⟩:=q1
 subst e
 cases r1 with
 |cons r rr=>
  cases rr
  cases r
  obtain⟨its,rv,pl,hz⟩:=I1.list hq
  have hlen:=rv.length
  refine call_reversed_list pl.isList (Th (l:=l) (i:=(its.toArray.size:Int)-1) ⟨_,Z4 _ rfl,rfl,rfl⟩ ?_)
  refine⟨s1.heap.objs.size,[s1.heap.objs.size],_,_,H1,rfl,I1.kept (t':=s1.toks) fun b o e=>Zf _ e,d4f l _ xs.length,?_,fun b hb=>?_,q⟩
  ·have e1:(xs.length:Int)-1-((0:Nat):Int)=(its.toArray.size:Int)-1:=by simp only[Zh];omega
   show Heap.IsRevIter _ _ _ ((xs.length:Int)-1-((0:Nat):Int))
   rw[e1]
   exact⟨_,Z4 _ rfl,rfl,rfl⟩
  ·have e:b=s1.heap.objs.size:=by simpa using hb
   subst e
   exact I1.fpOk (Zb _) (I1.hok.fresh (Zb _))
end
theorem row_rev{K:W.Frag}{a:Addr}{xs:List V}:Row (Itv K a xs.length) xs.length (fun i=>xs.getD (xs.length-1-i) .non) (fun H=>SqL K H a xs):=⟨fun i H h q=>⟨xs,q,rfl,h⟩,fun i H v H' hi q h=>by
 obtain⟨e,y⟩:=h
 refine⟨e,?_⟩
 have:=y xs q
 rw[Yq,this];rfl,fun H q=>rfl⟩
theorem iRev_i{K:W.Frag}{σ:St}{H:Hp}{ta:TA}{R:It->Hp->Prop}(k:ta σ H fun vs H1=>∃a xs,vs=[.ref a]/\SqL K H1 a xs/\R (Itv K a xs.length) H1):iRev K ta σ H R:=k
abbrev pairS:Str:=ofString "[|]"
abbrev emptyS:Str:=ofString "[]"
def Trm.isPair:Trm->Bool
 | .app sg ks=>decide (sg=pairS)&&decide (ks.length=2)
 |_=>false
def mkL:List Trm->Trm->Trm
 | [],r=>r
 |a::l,r=>.app pairS [a,mkL l r]
theorem c7f(k:Nat)(h:k<10):(Nat.digitChar k).toNat=48+k:=by
 have:k=0\/k=1\/k=2\/k=3\/k=4\/k=5\/k=6\/k=7\/k=8\/k=9:=by omega
 rcases this with rfl|rfl|rfl|rfl|rfl|rfl|rfl|rfl|rfl|rfl<;>rfl
def a1k(n:Nat):List Nat:=(Nat.toDigits 10 n).map Char.toNat
theorem b1d{n:Nat}(h:n<10):a1k n=[48+n]:=by
 unfold a1k
 rw[Nat.toDigits_of_lt_base h,Zp,Y3,c7f n h]
theorem b1e{n:Nat}(h:10<=n):a1k n=a1k (n/10)++[48+n%10]:=by
 unfold a1k
 rw[Nat.toDigits_of_base_le (by decide) h,Zq,Zp,Y3,c7f _ (Nat.mod_lt _ (by decide))]
theorem b1f:∀n:Nat,(∀y∈a1k n,48<=y/\y<=57)/\∃x r,a1k n=x::r/\(n≠0->x≠48):=by
 intro n
 induction n using Nat.strongRecOn with
 |ind n ih=>
  by_cases h:n<10
  ·rw[b1d h]
   refine⟨fun y hy=>?_,_,[],rfl,fun h0=>by omega⟩
   rw[Zw.mp hy];omega
  ·have h:10<=n:=by omega
   rw[b1e h]
   obtain⟨h1,x,r,h2,h3⟩:=ih (n/10) (by omega)
   refine⟨fun y hy=>?_,x,r++[48+n%10],by rw[h2];rfl,fun _=>h3 (by omega)⟩
   rcases Z1.mp hy with hy|hy
   ·exact h1 y hy
   ·rw[Zw.mp hy];omega
theorem b1q{n k:Nat}(hk:1<=k)(h:n<10^k):(a1k n).length<=k:=by
 unfold a1k
 rw[length_map]
 exact digits10_le hk h
theorem c4i(n:Nat):((toString (n:Int):String):Str)=⟨(a1k n).toArray⟩:=text_ofNat n
section
variable{X:Cx}
def mStr:List V->Hp->VK->Prop:=fun vs H Q=>match vs with
 | [.int i]=>i.natAbs.log2<1920/\Q (.str (toString i)) H
 |_=>False
theorem d1b:a5c X (.type "str") mStr:=by
 intro pins s σ H xs us Q I r h
 refine c3r pins s σ H xs us Q I r ?_
 unfold mStr at h
 split at h
 ·exact⟨_,rfl,h.1,h.2⟩
 ·exact h.elim
theorem d1c{i:Int}(h0:0<=i)(h1:i<10^30):i.natAbs.log2<1920:=by
 by_cases h:i.natAbs=0
 ·rw[h];decide
 ·refine(Nat.log2_lt h).mpr ?_
  refine Zy (m:=10^30) (by omega) ?_
  refine Ym (m:=2^100) (by decide+kernel) (Vy (by decide) (by decide))
theorem d1d{i:Int}{H:Hp}{Q:VK}(h0:0<=i)(h1:i<10^30)(k:Q (.str ⟨(a1k i.toNat).toArray⟩) H):mStr [.int i] H Q:=by
 refine⟨d1c h0 h1,?_⟩
 obtain⟨n,rfl⟩:=Int.eq_ofNat_of_zero_le h0
 have e:=c4i n
 rw[Int.toNat_natCast]at k
 rw[<-e]at k
 exact k
theorem ko_inV(K:W.Frag)(h:X.K=K):OpR X (compareOp .In) (rIn K false):=h▸d0g
end
theorem c4j{pre:List Nat}{x:Nat}{r:List Nat}:atI (pre++x::r) (pre.length:Int)=some x:=by
 refine a6y ?_
 rw[Xf (Zb _),U8]
 rfl
theorem b6z(pre z r:List Nat):cutS ⟨(pre++z++r).toArray⟩ (some (pre.length:Int)) (some ((pre.length+z.length:Nat):Int))=⟨z.toArray⟩:=by
 unfold cutS
 have e:(⟨(pre++z++r).toArray⟩:Str).length=pre.length+z.length+r.length:=by rw[str_len,Za,Za]
 rw[e,HT.sIx_nat,HT.sIx_nat,W3 (by omega),W3 (by omega)]
 show(⟨(((pre++z++r).toArray.toList.drop pre.length).take (pre.length+z.length-pre.length)).toArray⟩:Str)=_
 rw[Tw,Zx,Uq (Zb _),Um,Y6,Vj,List.take_append_of_le_length (Zb _),Vk]
section
variable{X:Cx}
def mUpd:V->List V->Hp->VK->Prop:=fun x vs H Q=>∃(a b:Addr)(kvs more:List (Key×V)),x=.ref a/\vs=[.ref b]/\a≠b/\H a=some (.dK kvs)/\H b=some (.dK more)/\kvs.length+more.length<=sizeLine/\Q .non (upd H a (.dK (a4j kvs more)))
theorem d1e:MtR X "dict.update" mUpd:=by
 intro pins s σ H x vs v us Q I rx rv h
 obtain⟨a,b,kvs,more,rfl,rfl,hab,ha,hb,hz,q⟩:=h
 cases rx
 obtain⟨u,rfl,ru⟩:=rv.one
 cases ru
 obtain⟨z1,d1,vs1,r1,dd1⟩:=c2x I.hok ha
 obtain⟨z2,d2,vs2,r2,dd2⟩:=c2x I.hok hb
 have hl:=b0c more kvs
 refine U6 Sc dd1.typeIs F.entry_dict_update (F.args_dict_update_2 _ _) (meets_dict_update (a1l X.prog X.w) a b hab d2) ⟨vs1,vs2,dd1,dd2,by rw[<-r1.length,<-r2.length];exact hz,fun h' g1 g2 hs=>?_⟩
 refine⟨.non,_,?_,rfl,q⟩
 have he:∃q,h'.get? a=some q:=let⟨q,_,_,hq,_⟩:=g1;⟨q,hq⟩
 exact b6y I (by rw[ha];exact True.intro) hs he (c3x (by omega) d1 (r2.merge r1) g1)
theorem mUpd_i{a b:Addr}{kvs more:List (Key×V)}{H:Hp}{Q:VK}(hab:a≠b)(ha:H a=some (.dK kvs))(hb:H b=some (.dK more))(hz:kvs.length+more.length<=sizeLine)(k:Q .non (upd H a (.dK (a4j kvs more)))):mUpd (.ref a) [.ref b] H Q:=⟨a,b,kvs,more,rfl,rfl,hab,ha,hb,hz,k⟩
end
section
variable{X:Cx}
def rDIn(n:Bool):R2:=fun x y H Q=>∃a o,y=.ref a/\DGet H a x o/\Q (.bl (n^^o.isSome)) H
theorem d1f(hu:X.A.units+1<cLine):OpR X (compareOp .In) (rDIn false):=by
 intro pins s σ H x y v u Q I rx ry h
 obtain⟨a,o,rfl,g,q⟩:=h
 cases ry
 exact d_in hu I g rx fun s3 I3=>⟨.bl _,H,I3,rfl,by simpa using q⟩
theorem c7g(hu:X.A.units+1<cLine):OpR X (compareOp .NotIn) (rDIn true):=by
 intro pins s σ H x y v u Q I rx ry h
 obtain⟨a,o,rfl,g,q⟩:=h
 cases ry
 exact d_notIn hu I g rx fun s3 I3=>⟨.bl _,H,I3,rfl,by simpa using q⟩
end
section
variable{σ:St}{H:Hp}{Q:VK}{D:Ends}{td ty tx tv:TE}
theorem tDGet_i(k:td σ H fun x H1=>ty σ H1 fun y H2=>∃a v,x=.ref a/\DGet H2 a y (some v)/\Q v H2):tDGet td ty σ H Q:=k
theorem d4g(k:td σ H fun x H1=>∃a,x=.ref a/\IsD H1 a/\ty σ H1 fun y H2=>tx σ H2 fun z H3=>∃o,DGet H3 a y o/\Q (o.getD z) H3):d0l td ty tx σ H Q:=k
theorem sDPut_i(k:tv σ H fun v H1=>td σ H1 fun x H2=>ty σ H2 fun y H3=>∃a H4,x=.ref a/\DPut H3 a y v H4/\D.nx σ H4):sDPut td ty tv D σ H:=k
theorem tDisp_i{trs:List (TE×TE)}(k:∀p,H p=none->b1l trs σ (upd H p (.dK [])) fun ps H2=>H2 p=some (.dK [])/\∃kvs:List (Key×V),ps=kvs.map (fun kv=>(kV kv.1,kv.2))/\kvs.length<=15/\Q (.ref p) (upd H2 p (.dK (a4j [] kvs)))):tDisp trs σ H Q:=k
theorem d4h{tk tv:TE}{r:List (TE×TE)}{R:List (V×V)->Hp->Prop}(k:tk σ H fun x H1=>tv σ H1 fun y H2=>b1l r σ H2 fun ps H3=>R ((x,y)::ps) H3):b1l ((tk,tv)::r) σ H R:=k
theorem d4i{R:List (V×V)->Hp->Prop}(k:R [] H):b1l [] σ H R:=k
end
def But(p:Addr)(H H':Hp):Prop:=∀b o,b≠p->H b=some o->H' b=some o
theorem a7a{p:Addr}{H:Hp}(o:HO):But p H (upd H p o):=fun b u n h=>by rw[a0j n];exact h
open PySem PySem.Spec PyProof.Rows PySem.W
section
variable{X:Cx}
theorem b7m{α β:Type}{R:α->β->Prop}:∀{xs:List α}{ys:List β},Paired R xs ys->∀(i:Nat)(y:β),ys[i]? =some y->∃x,xs[i]? =some x/\R x y
 |_,_,.nil,i,x,h=>by simp at h
 |_,_,.cons r t,0,x,h=>by simp at h;subst h;exact⟨_,rfl,r⟩
 |_,_,.cons r t,i+1,x,h=>by simpa using b7m t i x (by simpa using h)
theorem kV_rel{P:Program}{w:World}{k:Key}{u:Value}(h:(a1l P w).is k u=true):RelV (kV k) u:=by
 cases u with
 |int i t=>
  cases k with
  |inl j=>
   have e:(Sum.inl i:Key)=Sum.inl j:=(a1l P w).inj _ _ _ (b3c P w i t) h
   cases e
   exact⟨t,rfl⟩
  |inr x=>exact nomatch (show(Sum.inl i:Key)=Sum.inr x from(a1l P w).inj _ _ _ (b3c P w i t) h)
 |str x t=>
  cases k with
  |inr j=>
   have e:(Sum.inr x:Key)=Sum.inr j:=(a1l P w).inj _ _ _ (b3d P w x t) h
   cases e
   exact⟨t,rfl⟩
  |inl i=>exact nomatch (show(Sum.inr x:Key)=Sum.inl i from(a1l P w).inj _ _ _ (b3d P w x t) h)
 |_=>cases k<;>exact absurd (show false=true from h) Zr
def mLstK:List V->Hp->VK->Prop:=fun vs H Q=>∃a kvs,vs=[.ref a]/\Rd H a (.dK kvs)/\∀p:Addr,H p=none->Q (.ref p) (upd H p (.lst (kvs.map fun kv=>kV kv.1)))
theorem b7n:∀{xs:List V}{us:List Value},us.length=xs.length->(∀(j:Nat)(v:Value),us[j]? =some v->∃x,xs[j]? =some x/\RelV x v)->Vals xs us
 | [],[],_,_=>.nil
 |x::r,u::t,hl,h=>by
  obtain⟨y,h1,h2⟩:=h 0 u rfl
  simp at h1
  subst h1
  exact .cons h2 (b7n (by simpa using hl) fun j v e=>by simpa using h (j+1) v (by simpa using e))
 | [],_::_,hl,_=>by simp at hl
 |_::_,[],hl,_=>by simp at hl
theorem d4j(hc:X.calm=true):a5c X (.type "list") mLstK:=by
 intro pins s σ H vs us Q I r h
 obtain⟨a,kvs,rfl,ha,q⟩:=h
 obtain⟨u,rfl,r1⟩:=vals1 r
 cases r1
 obtain⟨z,lo,xs,rel,dd⟩:=b2l I.hok ha
 obtain⟨ep,dd⟩:=dd.dictAt
 have hlx:=rel.length
 refine kdl_call (kdl_dict (knd:=a1l X.prog X.w) lo) (I.ok.hd hc) dd (by omega) fun h' tk acc c hk hS hacc=>?_
 refine⟨.ref s.heap.objs.size,_,I.laid (a:=s.heap.objs.size) (o:=.lst (kvs.map fun kv=>kV kv.1)) (t':=tk) hk (Zb _) ⟨by simp;omega,acc.toList,c,?_,by simpa using hS⟩,rfl,q _ (I.hok.fresh (Zb _))⟩
 refine b7n (by rw[Xs,hacc.1,length_map,hlx]) fun j v e=>?_
 obtain⟨k,x,h1,h2⟩:=hacc.2 j v (by rw[<-Tg];exact e)
 obtain⟨kv,h3,h4,h5⟩:=b7m rel j (k,x) h1
 refine⟨kV k,by rw[Yv,h3];exact Z9 (fun z=>some (kV z)) h4,?_⟩
 exact kV_rel h2
end
open PySem.AutoSeq1 (wpAny_loadPart')
section
variable{X:Cx}
theorem a2h{A:Around}{s:Shared}{a b:Key}{u v:Value}(ra:RelV (kV a) u)(rb:RelV (kV b) v):SeqAt.EqAt A s u v (decide (a=b)):=by
 cases a with
 |inl i=>
  obtain⟨t,rfl⟩:=ra
  cases b with
  |inl j=>
   obtain⟨t',rfl⟩:=rb
   rw[c9r]
   have:=T8 (A:=A) (s:=s) i t j t'
   simpa[PyData.eqv]using this
  |inr y=>
   obtain⟨t',rfl⟩:=rb
   rw[c9t]
   exact Vb i t y t'
 |inr x=>
  obtain⟨t,rfl⟩:=ra
  cases b with
  |inl j=>
   obtain⟨t',rfl⟩:=rb
   rw[c9u]
   exact V8 x t j t'
  |inr y=>
   obtain⟨t',rfl⟩:=rb
   rw[c9s]
   have:=V7 (A:=A) (s:=s) x t y t'
   have e:(x==y)=decide (x=y):=by
    by_cases h:x=y
    ·subst h;simp
    ·rw[Zd h];exact Y5.mpr h
   rw[<-e]
   simpa[PyData.eqv]using this
theorem d1g(k1 k2:List Key):((List.range (min k1.length k2.length)).all (fun j=>decide (k1[j]? =k2[j]?))&&(k1.length==k2.length))=decide (k1=k2):=by
 by_cases h:k1=k2
 ·subst h
  simp
 ·rw[Zd h]
  cases hl:(k1.length==k2.length)with
  |false=>rw[Wa]
  |true=>
   have hl:k1.length=k2.length:=eq_of_beq hl
   rw[Bool.and_true]
   refine Bool.eq_false_iff.mpr fun z=>h ?_
   apply List.ext_getElem?
   intro j
   by_cases hj:j<k1.length
   ·exact Ze (Xx.mp z j (Vd.mpr (by omega)))
   ·rw[Vw (by omega),Vw (by omega)]
def mEqKs(K:W.Frag):R2:=fun x y H Q=>∃(p q:Addr)(k1 k2:List Key),x=.ref p/\y=.ref q/\SqT K H p (k1.map kV)/\SqT K H q (k2.map kV)/\Q (.bl (decide (k1=k2))) H
theorem c7h(K:W.Frag)(hK:X.K=K)(hu:X.A.units+150<cLine):OpR X (compareOp .Eq) (mEqKs K):=by
 subst hK
 intro pins s σ H x y v u Q I rx ry h
 obtain⟨p,q,k1,k2,rfl,rfl,hp,hq,k⟩:=h
 cases rx
 cases ry
 obtain⟨its,rv,p1,_⟩:=I.tuple hp
 obtain⟨its',rv',p2,_⟩:=I.tuple hq
 have l1:=rv.length
 have l2:=rv'.length
 rw[length_map]at l1 l2
 refine SeqAt.eq_tupleAt (e:=fun j=>decide (k1[j]? =k2[j]?)) (show s.heap.IsTuple p its.toArray from p1) (show s.heap.IsTuple q its'.toArray from p2) (by omega) (fun j h1 h2=>?_) ?_
 ·have g1:j<its.length:=by simpa using h1
  have g2:j<its'.length:=by simpa using h2
  have j1:j<k1.length:=by omega
  have j2:j<k2.length:=by omega
  obtain⟨w1,y1,z1⟩:=rv.get (show(k1.map kV)[j]? =some (kV k1[j]) by rw[Yv,Zc j1];rfl)
  obtain⟨w2,y2,z2⟩:=rv'.get (show(k2.map kV)[j]? =some (kV k2[j]) by rw[Yv,Zc j2];rfl)
  have q1:its.toArray[j]=w1:=by
   have:=Zc g1
   rw[y1]at this
   simpa using(Zo this).symm
  have q2:its'.toArray[j]=w2:=by
   have:=Zc g2
   rw[y2]at this
   simpa using(Zo this).symm
  rw[q1,q2]
  have:=a2h (A:=X.A.in1) (s:=s) z1 z2
  rw[show decide (k1[j]? =k2[j]?)=decide (k1[j]=k2[j]) by rw[Zc j1,Zc j2];simp]
  exact this
 ·have e:((List.range (min its.toArray.size its'.toArray.size)).all (fun j=>decide (k1[j]? =k2[j]?))&&(its.toArray.size==its'.toArray.size))=decide (k1=k2):=by
   rw[Zh,Zh,<-l1,<-l2]
   exact d1g k1 k2
  rw[e]
  exact⟨.bl _,H,I,rfl,k⟩
end
structure QE(X:Cx)(e:Expr)(t:TE):Prop where
 pe:PE X e t
structure QP(X:Cx)(pos:Pos)(keys:List (Option Expr))(values:List Expr)(trs:List (TE×TE)):Prop where
 pp:PPs X pos keys values trs
structure QS(X:Cx)(st:Stmt)(t:TS):Prop where
 ps:PS X st t
structure QSs(X:Cx)(l:List Stmt)(t:TS):Prop where
 pss:PSs X l t
section
variable{X:Cx}{pos pos':Pos}{e k v:Expr}{te tk tv:TE}{st:Stmt}{rest:List Stmt}{t u:TS}
theorem c4k:QP X pos [] [] []:=⟨pps_nil⟩
theorem a4t{ks:List (Option Expr)}{vs:List Expr}{trs:List (TE×TE)}(hk:PE X k tk)(hv:PE X v tv)(hr:QP X pos ks vs trs):QP X pos (some k::ks) (v::vs) ((tk,tv)::trs):=⟨d3x hk hv hr.pp⟩
theorem c0n{keys:List (Option Expr)}{values:List Expr}{trs:List (TE×TE)}(h:QP X pos keys values trs)(hall:keys.all (·.isSome)=true)(hl:keys.length=values.length)(h0:keys≠[])(h15:keys.length<=15):QE X (.Dict keys values pos) (tDisp trs):=⟨pe_disp h.pp hall hl h0 h15⟩
theorem d1h{i:Nat}{x:Str}(hN:X.N.Nodup)(hi:X.N[i]? =some x)(hx:Loc X.env.scope x)(he:QE X e te)(hs:swapsWith e (some (.Name x pos')) pos.line X.env=pure false)(hf:X.fn x=true\/X.env.scope.names.lookup x=some .local):QS X (.Assign [.Name x pos'] e pos) (tAsg te (c2v i)):=⟨a0q hN hi hx he.pe hs hf⟩
theorem qs_upd(K:W.Frag)(hK:X.K=K){o:Expr}{to:TE}{apos cpos:Pos}(ho:PE X o to)(he:QE X e te)
  (hbase:attributeBase o "update" X.env (eval o X.env)=eval o X.env)
  (hfew:((backTo cpos (starEach [e] X.env)).all (fun x=>!x.1)&&(backToKw cpos (keywordEach [] X.env)).all (fun x=>x.1.isSome)&&decide (([e]:List Expr).length+([]:List Keyword).length+(if([]:List Keyword).isEmpty then 0 else 1)<30))=true)
  (hline:(apos.endLine==cpos.line)=true)(hs:starEach [e] X.env=(false,eval e X.env)::starEach [] X.env)(hplain:(backTo cpos (starEach [] X.env)).any (·.1)=false)(hsw:swapsWith (.Call (.Attribute o "update" apos) [e] [] cpos) none pos.line X.env=pure false):
  QS X (.Expr (.Call (.Attribute o "update" apos) [e] [] cpos) pos) (tDrop (tBM K "dict" mUpd to (c2w te tNil))):=
 ⟨a1a (a3t K hK F.plainAttrs_dict Sc F.type_dict_update d1e ho (a2g he.pe a0b hs) hbase hfew hline hs hplain) hsw⟩
theorem b8c(h1:QS X st t)(h2:QSs X rest u):QSs X (st::rest) (tSeq t u):=⟨a0e h1.ps h2.pss⟩
end
section
variable{X:Cx}{pos:Pos}{e:Expr}{te:TE}
def tF3(a b:Str)(te:TE):TE:=fun σ H Q=>a.length<=sizeLine/\te σ H fun x H1=>∃y,x=.str y/\a.length+y.length+b.length<=sizeLine/\Q (.str (a++y++b)) H1
theorem pe_f3{a b:Str}{j1 j2 p1 p2 p3}(he:PE X e te):PE X (.JoinedStr [.Constant (.str a) j1 p1,.FormattedValue e (-1) none p2,.Constant (.str b) j2 p3] pos) (tF3 a b te):=by
 intro pins s σ H Q I h
 refine Wq (Yt (Y0 ?_))
 have hz:∀{x:Str},x.length<=sizeLine->(Str.empty++x).length<=sizeLine:=fun{x} q=>by rw[Z5];show 0+x.length<=_;omega
 have ea:∀x:Str,Str.empty++x=x:=fun x=>by apply Vx;show(#[]:Array Nat)++x.cps=x.cps;simp
 obtain⟨ha,h⟩:=h
 ·refine⟨hz ha,Yt (W0 (thn (he pins _ σ H _ (I.tok _) h) fun v s1 ⟨x,H1,I1,r1,q1⟩=>?_))⟩
  obtain⟨y,rfl,hl,q⟩:=q1
  obtain⟨t,rfl⟩:=r1
  refine W2 (fun t' tk=>?_) (by omega)
  rw[ea]
  refine⟨by rw[Z5];omega,?_⟩
  show wpAny _ _ (joinParts (a++y) [eval (.Constant (.str b) j2 p3) X.env]) _ _ _
  refine Yt (Y0 ⟨by rw[Z5,Z5];omega,Wv ?_ (by rw[Z5,Z5];omega)⟩)
  exact⟨.str (a++y++b),H1,(I1.tok _).tok _,⟨_,rfl⟩,q⟩
end
section
variable{X:Cx}{tg:Expr}
def iSeq(K:W.Frag)(tl:TE):TI:=fun σ H R=>tl σ H fun x H1=>∃a,x=.ref a/\((∃xs,SqL K H1 a xs/\R (Itl K a) H1)\/∃xs,SqT K H1 a xs/\R (Itt K a) H1)
theorem kpi_seq(K:W.Frag)(hK:X.K=K){l:Expr}{tl:TE}(hl:PE X l tl):PI X tg l (iSeq K tl):=by
 subst hK
 intro pins s σ H R I h
 refine thn (hl pins s σ H _ I h) fun v s1 ⟨x,H1,I1,r1,q1⟩=>?_
 obtain⟨a,e,q1⟩:=q1
 subst e
 cases r1
 rcases q1 with⟨xs,hq,q⟩|⟨xs,hq,q⟩
 ·obtain⟨its,rv,p,hz⟩:=I1.list hq
  refine Ub p.isList ?_
  refine⟨s1.heap.objs.size,[s1.heap.objs.size],_,_,H1,rfl,I1.kept (t':=s1.toks) fun b o e=>Zf _ e,c1t a _,⟨_,Z4 _ rfl,rfl,rfl⟩,fun b hb=>?_,q⟩
  have e:b=s1.heap.objs.size:=by simpa using hb
  subst e
  exact I1.fpOk (Zb _) (I1.hok.fresh (Zb _))
 ·obtain⟨its,rv,p,hz⟩:=I1.tuple hq
  refine wpAny_pyIter_tuple (show s1.heap.IsTuple a its.toArray from p) ?_
  refine⟨s1.heap.objs.size,[s1.heap.objs.size],_,_,H1,rfl,I1.kept (t':=s1.toks) fun b o e=>Zf _ e,c8f a _,⟨_,Z4 _ rfl,rfl,rfl⟩,fun b hb=>?_,q⟩
  have e:b=s1.heap.objs.size:=by simpa using hb
  subst e
  exact I1.fpOk (Zb _) (I1.hok.fresh (Zb _))
theorem d1i{K:W.Frag}{σ:St}{H:Hp}{ta:TE}{R:It->Hp->Prop}(k:ta σ H fun x H1=>∃a,x=.ref a/\((∃xs,SqL K H1 a xs/\R (Itl K a) H1)\/∃xs,SqT K H1 a xs/\R (Itt K a) H1)):iSeq K ta σ H R:=k
def mNeE(K:W.Frag)(z:Str):R2:=fun x y H Q=>∃(p q c:Addr)(t:Trm),x=.ref p/\y=.ref q/\Den K H x t.data/\SqT K H q [.str appS,.str z,.ref c]/\SqT K H c []/\(∀b:Bool,(b=false↔t=.app z [])->Q (.bl b) H)
theorem kids_eq{pins:List (Addr×Obj)}{σ:St}{H:Hp}{s:Shared}(I:Inv X pins σ H s){A:Around}(hu:A.units+10<cLine){b c:Addr}{us:List V}(hb:SqT X.K H b us)(hc:SqT X.K H c []):SeqAt.EqAt A s (.ref b) (.ref c) (decide (us=[])):=by
 by_cases e:b=c
 ·subst e
  have:us=[]:=I.tuple_inj hb hc
  rw[Zg this]
  exact Vu _
 ·obtain⟨its,rv,p1,_⟩:=I.tuple hb
  obtain⟨its',rv',p2,_⟩:=I.tuple hc
  cases rv'
  have key:=SeqAt.RcAt.tuples (A:=A) (s:=s) (e:=fun _=>true) (show s.heap.IsTuple b its.toArray from p1) (show s.heap.IsTuple c ([]:List Value).toArray from p2) (by omega) (fun j h1 h2=>absurd h2 (by simp))
  have hl:=rv.length
  have e4:((List.range (min its.toArray.size ([]:List Value).toArray.size)).all (fun _=>true)&&its.toArray.size==([]:List Value).toArray.size)=decide (us=[]):=by
   cases us with
   |nil=>cases rv;rfl
   |cons y r=>
    rw[Zd (by simp)]
    have:(its.toArray.size==([]:List Value).toArray.size)=false:=by
     rw[Zh,<-hl]
     simp
    rw[this,Wa]
  rw[e4]at key
  exact T7 e key
theorem ko_neE(K:W.Frag)(hK:X.K=K)(z:Str)(hu:X.A.units+150<cLine):OpR X (compareOp .NotEq) (mNeE K z):=by
 subst hK
 intro pins s σ H x y v u Q I rx ry h
 obtain⟨p,q,c,t,rfl,rfl,hx,hq,hc,k⟩:=h
 cases rx
 cases ry
 obtain⟨its',rv',p2,_⟩:=I.tuple hq
 have ss:∀(x y:Str)(t t':Tok),SeqAt.EqAt X.A.in1 s (.str x t) (.str y t') (decide (x=y)):=fun x y t t'=>by
  have h:=V7 (A:=X.A.in1) (s:=s) x t y t'
  have e:(x==y)=decide (x=y):=by
   by_cases h:x=y
   ·subst h;simp
   ·rw[Zd h];exact Y5.mpr h
  rw[<-e]
  simpa[PyData.eqv]using h
 cases rv' with
 |cons a0 rv'=>cases rv' with
  |cons a1 rv'=>cases rv' with
   |cons a2 rv'=>
    cases rv'
    obtain⟨t0,rfl⟩:=a0
    obtain⟨t1,rfl⟩:=a1
    cases a2
    cases t with
    |num n=>
     obtain⟨a,e,hs⟩:=a5x hx
     cases e
     obtain⟨its,rv,p1,_⟩:=I.tuple hs
     cases rv with
     |cons b0 rv=>cases rv with
      |cons b1 rv=>
       cases rv
       obtain⟨w0,rfl⟩:=b0
       obtain⟨w1,rfl⟩:=b1
       refine W5 (e:=fun j=>if j=0 then decide (numS=appS)else false) (show s.heap.IsTuple p _ from p1) (show s.heap.IsTuple q _ from p2) (by omega) (fun j h1 h2=>?_) X.prog X.w _ _ ⟨.bl true,H,I,by simp[RelV],k true (by simp)⟩
       have hj:j=0\/j=1:=by simp at h1;omega
       rcases hj with rfl|rfl
       ·exact ss _ _ _ _
       ·exact Vb n w1 z t1
    |any x=>
     obtain⟨a,e,hs⟩:=a5y hx
     cases e
     obtain⟨its,rv,p1,_⟩:=I.tuple hs
     cases rv with
     |cons b0 rv=>cases rv with
      |cons b1 rv=>
       cases rv
       obtain⟨w0,rfl⟩:=b0
       obtain⟨w1,rfl⟩:=b1
       refine W5 (e:=fun j=>if j=0 then decide (anyS=appS)else decide (x=z)) (show s.heap.IsTuple p _ from p1) (show s.heap.IsTuple q _ from p2) (by omega) (fun j h1 h2=>?_) X.prog X.w _ _ ⟨.bl true,H,I,by simp[RelV],k true (by simp)⟩
       have hj:j=0\/j=1:=by simp at h1;omega
       rcases hj with rfl|rfl
       ·exact ss _ _ _ _
       ·exact ss _ _ _ _
    |app sg ks=>
     obtain⟨a,b,us,e,hs,hb,hk⟩:=a4g hx
     cases e
     obtain⟨its,rv,p1,_⟩:=I.tuple hs
     cases rv with
     |cons b0 rv=>cases rv with
      |cons b1 rv=>cases rv with
       |cons b2 rv=>
        cases rv
        obtain⟨w0,rfl⟩:=b0
        obtain⟨w1,rfl⟩:=b1
        cases b2
        refine W5 (e:=fun j=>if j=0 then true else if j=1 then decide (sg=z)else decide (us=[])) (show s.heap.IsTuple p _ from p1) (show s.heap.IsTuple q _ from p2) (by omega) (fun j h1 h2=>?_) X.prog X.w _ _ ⟨.bl (!(decide (sg=z)&&decide (us=[]))),H,I,?_,k _ ?_⟩
        ·have hj:j=0\/j=1\/j=2:=by simp at h1;omega
         rcases hj with rfl|rfl|rfl
         ·have:=ss appS appS w0 t0
          rw[Zg rfl]at this
          exact this
         ·exact ss _ _ _ _
         ·exact kids_eq I (by show X.A.units+1+10<cLine;omega) hb hc
        ·show _=Value.bool _
         congr 1
         simp[List.range_succ]
        ·have hl:=hk.length
         rw[Trm.dataL_map,length_map]at hl
         have hnil:us=[]↔ks=[]:=by
          constructor
          ·intro e;subst e;exact Xb.mp hl.symm
          ·intro e;subst e;exact Xb.mp hl
         simp only[Bool.not_eq_false',Y2,Wn,Trm.app.injEq,hnil]
end
def TbIs(h:Heap)(T:Addr):Prop:=∃oT ts,h.get? T=some oT/\oT.data=.fields ts/\ts[3]? =some Value.none
structure Left(fs:List Addr)(ea:Addr)(o:Obj)(ok:Addr->Prop)(h h':Heap):Prop where
 keep:∀b u,b≠ea->¬ok b->b∉fs->h.get? b=some u->h'.get? b=some u
 slot:∀b u,b≠ea->¬ok b->h.get? b=some u->∃sl,h'.get? b=some { u with slots:=sl}
 there:∀b u,h.get? b=some u->∃u',h'.get? b=some u'
 tb:∃T,h.objs.size<=T/\TbIs h' T/\h'.get? ea=some (o.mapFields (·.setIfInBounds 1 (.ref T)))
theorem a7z{o:Obj}{vs:Array Value}(f:Array Value->Array Value)(h:o.data=.fields vs):(o.mapFields f).data=.fields (f vs):=Obj.data_mapFields h f
theorem c7i(o:Obj)(f:Array Value->Array Value):(o.mapFields f).dict=o.dict:=by
 unfold Obj.mapFields
 split<;>rfl
section
variable{M:Model}{A:Around}{E:Value->Shared->Prop}
theorem b7o{s:Shared}{base:Heap}{env:Env}{outer:List Env}{L ea:Addr}{o:Obj}{vs:Array Value}{hd0:Value}{had:Bool}{Q:Unit->Shared->Prop}
  (fr:A.frames=some (env::outer))(ff:s.heap.FunFrames base (env::outer))(fe:env.frame=some L)(ge:s.heap.get? ea=some o)(gd:o.data=.fields vs)(g1:1<vs.size)
  (q:∀h',Left (frs (env::outer)) ea o (fun _=>False) s.heap h'->Q () { s with heap:=h'}):
  wpAny M A (do let a <-frameOf env;let pl <-entryPlaceOf L had;let b <-EntryCells.newEntry hd0 a .none (rawInt L) .none pl;setField (.ref ea) 1 b) (fun _ s1=>wpAny M A (setFlight (.ref ea) none) Q E s1) E s:=by
 have nea:ea∉frs (env::outer):=fun z=>by
  obtain⟨_,u,hu,hn⟩:=ff.mem z
  rw[ge]at hu
  cases hu
  exact hn vs gd
 refine Zs (wpAny_frameOf_fun fr ff fe fun hA sA=>?_)
 refine Zs (wpAny_entryPlaceOf fun pl hpl=>?_)
 unfold EntryCells.newEntry newFields
 refine Zs (Uc ?_ (hpl.sizeOk5 _ _ _ _ _))
 generalize hob:({ cls:=.type "traceback",dict:=none,data:=.fields ([hd0,.ref L,.none,rawInt L,.none]++(if pl.isEmpty then List.replicate 6 Value.none else pl)).toArray}:Obj)=ob
 have obd:ob.data=.fields ([hd0,.ref L,.none,rawInt L,.none]++(if pl.isEmpty then List.replicate 6 Value.none else pl)).toArray:=by rw[<-hob]
 have eA:hA.get? ea=some o:=(sA.2.1 ea nea).trans ge
 have eB:=Zf (h:=hA) ob eA
 have nT:hA.objs.size≠ea:=U9 (Zv eA)
 refine W8 eB gd g1 ?_
 have dC:=a7z (·.setIfInBounds 1 (Value.ref hA.objs.size)) gd
 have eC:=X7 (Obj.mapFields (·.setIfInBounds 1 (Value.ref hA.objs.size))) eB (Wr dC)
 have tC:=(Ys (hA.push ob) (Obj.mapFields (·.setIfInBounds 1 (Value.ref hA.objs.size))) (Ne.symm nT)).trans (Z4 hA (by cases ob;cases hob;rfl))
 have sz3:3<([hd0,.ref L,.none,rawInt L,.none]++(if pl.isEmpty then List.replicate 6 Value.none else pl)).toArray.size:=by
  simp only[Zh,Za,length_cons,length_nil]
  omega
 unfold setFlight
 refine Zs (Wy eC dC (x:=.ref hA.objs.size) (by simp[g1]) ?_)
 rw[if_pos (show(Value.ref hA.objs.size !=Value.none)=true from by simp)]
 refine W8 tC obd sz3 (q _ ?_)
 have kept:∀b u,b≠ea->hA.get? b=some u->(((hA.push ob).update ea (Obj.mapFields (·.setIfInBounds 1 (Value.ref hA.objs.size)))).update hA.objs.size (Obj.mapFields (·.setIfInBounds 3 ((none:Option Addr).elim Value.none fun f=>rawInt f)))).get? b=some u:=fun b u hb hu=>by
  rw[Ys _ _ (U9 (Zv hu)),Ys _ _ (Ne.symm hb)]
  exact Zf _ hu
 refine⟨fun b u hb _ hf hu=>kept b u hb ((sA.2.1 b hf).trans hu),fun b u hb _ hu=>?_,fun b u hu=>?_,hA.objs.size,?_,?_,?_⟩
 ·obtain⟨sl,e⟩:=sA.2.2 b u hu
  exact⟨sl,kept b _ hb e⟩
 ·by_cases hb:b=ea
  ·subst hb
   exact⟨_,by rw[Ys _ _ nT];exact eC⟩
  ·obtain⟨sl,e⟩:=sA.2.2 b u hu
   exact⟨_,kept b _ hb e⟩
 ·rw[sA.1]
  exact Zb _
 ·exact⟨_,_,X7 _ tC (Wr (a7z _ obd)),a7z _ obd,by simp[sz3]⟩
 ·rw[Ys _ _ nT]
  exact eC
theorem b5v{s:Shared}{base:Heap}{env:Env}{outer:List Env}{L ea:Addr}{o:Obj}{vs:Array Value}{ok:Addr->Prop}{Q:Unit->Shared->Prop}
  (fr:A.frames=some (env::outer))(ff:s.heap.FunFrames base (env::outer))(fe:env.frame=some L)(ge:s.heap.get? ea=some o)(gd:o.data=.fields vs)
  (tb:vs[1]? =some .none\/∃T,vs[1]? =some (.ref T)/\T≠ea/\ok T/\TbIs s.heap T)
  (q:∀h',Left (frs (env::outer)) ea o ok s.heap h'->Q () { s with heap:=h'}):wpAny M A (noteFrame (.ref ea) env) (fun _ s1=>wpAny M A (setFlight (.ref ea) none) Q E s1) E s:=by
 unfold noteFrame
 simp only[fe]
 rcases tb with g|⟨T,g,nT,kT,oT,ts,hT,dT,t3⟩
 ·refine Zs (Wy ge gd g ?_)
  rw[if_neg (by decide)]
  refine b7o fr ff fe ge gd (Yi.mp g).1 fun h' l=>q h' ⟨fun b u hb _=>l.keep b u hb id,fun b u hb _=>l.slot b u hb id,l.there,l.tb⟩
 ·refine Zs (Wy ge gd g ?_)
  rw[if_pos (show(Value.ref T !=Value.none)=true from by simp)]
  refine Zs (Wy hT dT t3 ?_)
  rw[if_neg (show ¬((Value.none==rawInt L)=true)from by simp[rawInt])]
  refine Zs (W8 hT dT (Yi.mp t3).1 ?_)
  have oth:∀b,b≠T->(s.heap.update T (Obj.mapFields (·.setIfInBounds 3 Value.none))).get? b=s.heap.get? b:=fun b hb=>Ys _ _ (Ne.symm hb)
  have self:=X7 (Obj.mapFields (·.setIfInBounds 3 Value.none)) hT (Wr (a7z _ dT))
  have nrec:∀b u,s.heap.get? b=some u->(∀ws,u.data≠.fields ws)->b≠T:=fun b u hu hn z=>by
   subst z
   rw[hT]at hu
   cases hu
   exact hn ts dT
  refine b7o fr (ff.of_keeps fun b u hu hn=>⟨u,(oth b (nrec b u hu hn)).trans hu,rfl⟩) fe ((oth ea (Ne.symm nT)).trans ge) gd (Yi.mp g).1 fun h' l=>q h' ⟨fun b u hb hk hf hu=>l.keep b u hb id hf ((oth b (fun z=>hk (z▸kT))).trans hu),fun b u hb hk hu=>l.slot b u hb id ((oth b (fun z=>hk (z▸kT))).trans hu),fun b u hu=>?_,?_⟩
  ·by_cases hb:b=T
   ·subst hb
    exact l.there b _ self
   ·exact l.there b u ((oth b hb).trans hu)
  ·obtain⟨T2,h1,h2,h3⟩:=l.tb
   exact⟨T2,by rw[Heap.size_after_update]at h1;exact h1,h2,h3⟩
end
open PySem PySem.W
abbrev newS:String:="ValueError.__new__"
structure XCls(K:Frag)(C:Addr)(bm:List Value):Prop where
 obj:∃nm q N bs sn sub ab col dd k0 k1 k2 k3 k5,K.lookup C=some (excClassObj nm q C N bs bm true sn sub ab col dd k0 k1 k2 k3 k5 newS)
 hasV:bm.contains (.type "ValueError")=true
 hasB:bm.contains (.type "BaseException")=true
 noA:bm.contains (.type "AttributeError")=false
 noN:bm.contains (.type "NameError")=false
section
variable{prog:Program}{w:World}{A:Around}{E:Value->Shared->Prop}{R:Result->Shared->Prop}{h:Heap}{g:Array GenState}{d:Drawn}{t:Nat}{os:OsState}
variable{nm q:Str}{C N:Addr}{bs bm:List Value}{sn:List Str}{sub:List Value}{ab:Bool}{col:Option Bool}{dd:Option Addr}{k0 k1 k2 k3 k5:Option Value}
theorem x_check(hV:bm.contains (.type "ValueError")=true){rest:List Value}{Q:Unit->Shared->Prop}(hC:h.get? C=some (excClassObj nm q C N bs bm true sn sub ab col dd k0 k1 k2 k3 k5 newS))(hq:Q () ⟨h,g,d,t,os⟩):
  wpAny (model prog w) A (checkBuiltinCall newS ⟨.ref C::rest,[]⟩) Q E ⟨h,g,d,t,os⟩:=by
 have F:=W1
 have hc:(Value.ref C::bm).contains (.type "ValueError")=true:=by rw[Y8,hV,Vt]
 have hs:=F.noStar
 simp only[checkBuiltinCall,F.newKind,F.newSplit,F.newRow]
 repeat (first|refine Yg hC ?_| (refine Y4 hC ?_;rw[hc])|refine wpAny_staticBase_exc hC ?_|refine wpAny_madeBy_exc hC ?_|simp only[bne_self_eq_false,Bool.false_eq_true,Xu]|wp_step)
 exact hq
theorem x_new(hV:bm.contains (.type "ValueError")=true)(hA:bm.contains (.type "AttributeError")=false)(hN:bm.contains (.type "NameError")=false){rest:List Value}(hC:h.get? C=some (excClassObj nm q C N bs bm true sn sub ab col dd k0 k1 k2 k3 k5 newS))
  (hq:R (.ok (.ret (.ref (h.objs.size+1)))) ⟨(h.push { cls:=.type "tuple",data:=.seq rest.toArray}).push { cls:=.ref C,data:=.fields #[.ref h.objs.size,.none,.none,.none,.bool false,.none]},g,d,t,os⟩)(hl:rest.length<=sizeLine):
  codeAny (model prog w) A (.builtin newS ⟨.ref C::rest,[]⟩) R ⟨h,g,d,t,os⟩:=by
 have F:=W1
 have he:=F.ends
 have c1:(Value.ref C::bm).contains (.type "ValueError")=true:=by rw[Y8,hV,Vt]
 have c2:(Value.ref C::bm).contains (.type "AttributeError")=false:=by rw[Y8,hA];rfl
 have c3:(Value.ref C::bm).contains (.type "NameError")=false:=by rw[Y8,hN];rfl
 refine codeAny_builtinAt F.entry ?_
 unfold Builtin.«BaseException.__new__»
 refine PySem.wpAt_bind ?_
 show PySem.wpAt _ _ _ (stack>>=_) _ _ _
 refine PySem.wpAt_bind (PySem.wpAt_stack fun p below=>Tv ?_)
 wp_walk
 refine Tv ?_
 rw[F.owner]
 repeat (first|with_reducible refine wpAny_madeHere_exc F.canon hC ?_|with_reducible refine Yg hC ?_| (with_reducible refine Y4 hC ?_;first|rw[c1]|rw[c2]|rw[c3])|wp_step)
 show R _ _
 rw[V2]
 exact hq
theorem x_tcall{K:Frag}{fI:Addr}(KX:K.In h)(X:XCls K C bm)(hI:findIn K (.ref C) "__init__"=some (some (.ref fI)))(hf:typeIn K (.ref fI)=some (.type "function")){rest:List Value}{Q:PySem.Fin->Shared->Prop}(hl:rest.length<=sizeLine)
  (hq:wpAny (model prog w) A (call (.ref fI) (.ref (h.objs.size+1)::rest)) (fun r s'=>r=.none/\Q (.done (.ret (.ref (h.objs.size+1)))) s') E ⟨((h.push { cls:=.type "tuple",data:=.seq rest.toArray}).push { cls:=.ref C,data:=.fields #[.ref h.objs.size,.none,.none,.none,.bool false,.none]}),g,d,t,os⟩):
  wpAny (model prog w) A (Builtin.«type.__call__» ⟨.ref C::rest,[]⟩) Q E ⟨h,g,d,t,os⟩:=by
 obtain⟨nm,q,N,bs,sn,sub,ab,col,dd,k0,k1,k2,k3,k5,hC'⟩:=X.obj
 have hC:=KX _ _ hC'
 have F:=W1
 repeat (first|with_reducible refine Yg hC ?_|with_reducible refine wpAny_madeBy_exc hC ?_|wp_step)
 refine codeAny_call_builtin_code (Se _ F.quiet) (x_check X.hasV hC ?_)
 refine x_new X.hasV X.noA X.noN hC ?_ hl
 show wpAny _ _ _ _ _ _
 have kp:∀b o,h.get? b=some o->((h.push { cls:=.type "tuple",data:=.seq rest.toArray}).push { cls:=.ref C,data:=.fields #[.ref h.objs.size,.none,.none,.none,.bool false,.none]}).get? b=some o:=fun b o e=>Zf _ (Zf _ e)
 have hC2:=kp _ _ hC
 have KX2:K.In ((h.push { cls:=.type "tuple",data:=.seq rest.toArray}).push { cls:=.ref C,data:=.fields #[.ref h.objs.size,.none,.none,.none,.bool false,.none]}):=KX.keeps kp
 have hget:((h.push { cls:=.type "tuple",data:=.seq rest.toArray}).push { cls:=.ref C,data:=.fields #[.ref h.objs.size,.none,.none,.none,.bool false,.none]}).get? (h.objs.size+1)=some { cls:=.ref C,data:=.fields #[.ref h.objs.size,.none,.none,.none,.bool false,.none]}:=by heap_get
 have cC:(Value.ref C::bm).contains (.ref C)=true:=by simp
 unfold isInstance
 repeat (first|with_reducible refine Yg hget ?_| (with_reducible refine Y4 hC2 ?_;rw[cC])|wp_step)
 show wpAny _ _ (typeLookup (.ref C) _) _ _ _
 refine(looks_findIn KX2 hI).here ?_
 refine wpAny_holding (Zs ((bind_fn KX2 _ hf).here ?_))
 refine Zs (Xy hq (fun r s' hr=>?_) fun _ _ x=>x)
 obtain⟨rfl,hQ⟩:=hr
 wp_walk
 exact hQ
theorem x_call{K:Frag}{fI:Addr}(KX:K.In h)(X:XCls K C bm)(hI:findIn K (.ref C) "__init__"=some (some (.ref fI)))(hf:typeIn K (.ref fI)=some (.type "function")){rest:List Value}{Q:Value->Shared->Prop}(hl:rest.length<=sizeLine)
  (hq:wpAny (model prog w) (A.under (.builtin "type.__call__" ⟨.ref C::rest,[]⟩)) (call (.ref fI) (.ref (h.objs.size+1)::rest)) (fun r s'=>r=.none/\Q (.ref (h.objs.size+1)) s') E ⟨((h.push { cls:=.type "tuple",data:=.seq rest.toArray}).push { cls:=.ref C,data:=.fields #[.ref h.objs.size,.none,.none,.none,.bool false,.none]}),g,d,t,os⟩):
  wpAny (model prog w) A (call (.ref C) rest) Q E ⟨h,g,d,t,os⟩:=by
 obtain⟨nm,q,N,bs,sn,sub,ab,col,dd,k0,k1,k2,k3,k5,hC'⟩:=X.obj
 have hC:=KX _ _ hC'
 have f1:=tc_lookup
 have f2:=tc_bind (.ref C)
 have hT:(⟨h,g,d,t,os⟩:Shared).TypeIs (.ref C) "type":=⟨_,hC,rfl⟩
 refine Vm (codeAny_of_tree ?_)
 show wpAny _ _ (callAny (.ref C) _) _ _ _
 repeat (any_goals (first|assumption|with_reducible refine Yg hC ?_|wp_step))
 refine⟨rfl,?_⟩
 exact codeAny_call_builtin_at (Se _ (by decide+kernel)) entry_typeCall (wpAny_check_type_call_sub hC (x_tcall KX X hI hf hl hq))
end
section
variable{prog:Program}{w:World}{A:Around}{E:Value->Shared->Prop}{R:Result->Shared->Prop}{h:Heap}{g:Array GenState}{d:Drawn}{t:Nat}{os:OsState}{K:Frag}{C e:Addr}{bm:List Value}{o:Obj}{vs:Array Value}
theorem x_init(KX:K.In h)(X:XCls K C bm)(he:h.get? e=some o)(hc:o.cls=.ref C)(hd:o.data=.fields vs){t0:Addr}(h0:vs[0]? =some (.ref t0)){v:Value}{Q:Value->Shared->Prop}
  (hq:Q .none ⟨(h.push { cls:=.type "tuple",data:=.seq [v].toArray}).update e (Obj.mapFields (·.setIfInBounds 0 (.ref h.objs.size))),g,d,t,os⟩):
  wpAny (model prog w) A (call (.builtin "ValueError.__init__") [.ref e,v]) Q E ⟨h,g,d,t,os⟩:=by
 obtain⟨nm,q,N,bs,sn,sub,ab,col,dd,k0,k1,k2,k3,k5,hC'⟩:=X.obj
 have hC:=KX _ _ hC'
 have F:=W1
 have c1:(Value.ref C::bm).contains (.type "ValueError")=true:=by rw[Y8,X.hasV,Vt]
 have hs:=F.noStar
 have ck:∀Q':Unit->Shared->Prop,Q' () ⟨h,g,d,t,os⟩->∀A' E',wpAny (model prog w) A' (checkBuiltinCall "ValueError.__init__" ⟨[.ref e,v],[]⟩) Q' E' ⟨h,g,d,t,os⟩:=by
  intro Q' hq' A' E'
  simp only[checkBuiltinCall,F.initKind,F.initSplit,F.initRow]
  repeat (first| (with_reducible refine Yg he ?_;rw[hc])|with_reducible refine Yg hC ?_| (with_reducible refine Y4 hC ?_;rw[c1])|wp_step)
  exact hq'
 refine Vm (Tk F.init.plain F.initEntry (ck _ ?_ _ _))
 unfold Builtin.«BaseException.__init__»
 dsimp only
 rw[if_neg (by simp)]
 unfold newTuple Builtin.BaseException.bexcPut
 have hz:0<vs.size:=(Yi.mp h0).1
 have he1:=Zf (h:=h) { cls:=.type "tuple",data:=.seq [v].toArray} he
 refine Zs (Uc (Zs (Zs (Wy he1 hd h0 (Zs (W8 he1 hd hz ?_))))) (by show[v].toArray.size<=sizeLine;rw[Zh,Xk];simp))
 exact wpAny_letGo (Yp hq)
theorem x_raise{M:Model}{env:Env}{s:Shared}{x:Sem Value}{Q:Flow->Shared->Prop}(hh:A.handled=none)
  (hx:wpAny M A x (fun v s1=>∃e o vs C bm,v=.ref e/\XCls K C bm/\K.In s1.heap/\s1.heap.get? e=some o/\o.cls=.ref C/\o.data=.fields vs/\vs[1]? =some .none/\E (.ref e) s1) E s):
  wpAny M A (raiseStmt env (some x) none) Q E s:=by
 unfold raiseStmt
 refine Zs (Xy hx (fun v s1 h1=>?_) fun _ _ x=>x)
 obtain⟨e,o,vs,C,bm,rfl,X,KX,he,hc,hd,h1,hE⟩:=h1
 obtain⟨hp,g,d,tk,os⟩:=s1
 obtain⟨nm,q,N,bs,sn,sub,ab,col,dd,k0,k1,k2,k3,k5,hC'⟩:=X.obj
 have hC:=KX _ _ hC'
 have cB:(Value.ref C::bm).contains (.type "BaseException")=true:=by rw[Y8,X.hasB,Vt]
 obtain⟨oc,od,odt,osl⟩:=o
 dsimp only at hc hd
 subst hc hd
 repeat (first|with_reducible refine Yg he ?_|with_reducible refine Yg hC ?_| (with_reducible refine Y4 hC ?_;rw[cB])| (with_reducible refine Wy he rfl h1 ?_)|wp_step)
 exact wpAny_raiseNew_none hh hE
theorem c4l(self:Value)(what:Str):∀l:List Value,(∀v∈l,∃a,v=Value.ref a)->∀r,refuseLoop self what (l++r)=refuseLoop self what r
 | [],_,_=>rfl
 |v::l,h,r=>by
  obtain⟨a,rfl⟩:=h v Zj
  rw[Zn,refuseLoop_ref,c4l self what l (fun v hv=>h v (Zi _ hv)) r]
def XUp(bm:List Value):Prop:=∃l:List Value,(∀v∈l,∃a,v=Value.ref a)/\bm=l++[.type "ValueError",.type "Exception",.type "BaseException",.type "object"]
theorem x_set(KX:K.In h)(X:XCls K C bm)(U:XUp bm)(sa:findIn K (.ref C) "__setattr__"=some (some (.builtin "object.__setattr__"))){name:Str}(hn:findIn K (.ref C) name=some none)
  (he:h.get? e=some o)(hc:o.cls=.ref C)(hd:o.data=.fields vs){mA:Str->Option Value}{ns:List Str}(hw:PySem.Within mA ns)(hz:ns.length<=1000)(hm:(o.dict=none/\∀n,mA n=none)\/∃dx,o.dict=some dx/\dx≠e/\h.Ns1 dx mA){v:Value}{Q:Unit->Shared->Prop}
  (hq:∀h' dx tk,(o.dict=some dx\/(o.dict=none/\h.objs.size<=dx))->h'.get? e=some { o with dict:=some dx}->dx≠e->h'.Ns1 dx (fun y=>if y=name then some v else mA y)->(∀b u,b≠e->b≠dx->h.get? b=some u->h'.get? b=some u)->Q () ⟨h',g,d,tk,os⟩):
  wpAny (model prog w) A (setAttr (.ref e) name v) Q E ⟨h,g,d,t,os⟩:=by
 obtain⟨nm,q,N,bs,sn,sub,ab,col,dd,k0,k1,k2,k3,k5,hC'⟩:=X.obj
 have hC:=KX _ _ hC'
 obtain⟨l,hl,hbm⟩:=U
 have SF:=F.store_ValueError
 have hpass:refuseLoop (.ref e) "__setattr__" (.ref C::bm)=pure ():=by
  rw[refuseLoop_ref,hbm,c4l _ _ l hl]
  exact SF.passes (.ref e)
 have cO:(Value.ref C::bm).contains (.type "object")=true:=by rw[Y8,hbm];simp
 obtain⟨oc,od,odt,osl⟩:=o
 dsimp only at hc hd
 subst hc hd
 have f3:=SF.slot.bind (.ref e)
 have ck:∀(Q':Unit->Shared->Prop)(u:Nat)(nv:Value),Q' () ⟨h,g,d,u,os⟩->∀A' E',wpAny (model prog w) A' (checkBuiltinCall "object.__setattr__" ⟨[.ref e,nv,v],[]⟩) Q' E' ⟨h,g,d,u,os⟩:=by
  intro Q' u nv hq' A' E'
  have ha:=SF.args (.ref e) nv v
  simp only[checkBuiltinCall,SF.kind,SF.split]
  refine Zs ?_
  unfold isInstance
  repeat (first|with_reducible refine Yg he ?_| (with_reducible refine Y4 hC ?_;rw[cO])|wp_step)
  exact hq'
 unfold setAttr callSpecial? specialOf
 repeat (any_goals (first|assumption|with_reducible refine Yg he ?_|with_reducible refine(looks_findIn KX sa).here ?_|wp_step))
 refine Tk SF.slot.plain SF.entry (ck _ _ _ ?_ _ _)
 unfold Builtin.«object.__setattr__»
 repeat (first|rw[refuse_eq]|rw[hpass]|with_reducible refine Yg he ?_|with_reducible refine wpAny_mroOf_exc hC ?_|with_reducible refine(looks_findIn KX hn).here ?_|wp_step)
 rcases hm with⟨hdn,hmA⟩|⟨dx,hdx,hne,hns⟩
 ·dsimp only at hdn
  subst hdn
  dsimp only
  rw[if_neg (by simp[typeHasDict])]
  have he1:(h.push { cls:=.type "dict",data:=.dict #[]}).get? e=some ⟨.ref C,none,.fields vs,osl⟩:=Zf _ he
  have nes:e≠h.objs.size:=Yj (Zv he)
  refine Zs (wpAny_alloc' ?_)
  refine Zs (wpAny_update' he1 ?_)
  refine Yp ?_
  have gd:=(Ty (h.push { cls:=.type "dict",data:=.dict #[]}) h.objs.size e (fun o=>{ cls:=o.cls,dict:=some h.objs.size,data:=o.data,slots:=o.slots}) nes.symm).trans (Heap.get?_push_at rfl rfl)
  have nd:((h.push { cls:=.type "dict",data:=.dict #[]}).update e fun o=>{ cls:=o.cls,dict:=some h.objs.size,data:=o.data,slots:=o.slots}).Ns h.objs.size (fun _=>none):=⟨_,#[],_,gd,rfl,fun _ z=>absurd z (by simp),fun _=>rfl⟩
  show wpAny _ _ (Builtin.ObjectAttr.storeInDict h.objs.size (.str name _) name v) _ _ _
  unfold Builtin.ObjectAttr.storeInDict Builtin.ObjectAttr.newKeyGuard
  refine Zs (Yp (Zs (U4 (Heap.Ns1.of_empty nd) fun h' hn' hs=>?_)))
  obtain⟨oD,esD,epD,hoD,hdD,hcD⟩:=hn'.count (Ud name v PySem.Within.nil)
  refine Zs (Uh hoD (by rw[hdD];exact Uj (Ym hcD (by rw[length_cons,length_nil,Xk];omega))) ?_)
  wp_walk
  have ge':h'.get? e=some ⟨.ref C,some h.objs.size,.fields vs,osl⟩:=(hs.2 e nes).trans (X7 _ he1 rfl)
  refine hq h' h.objs.size _ (.inr ⟨rfl,Zb _⟩) ge' nes.symm ?_ (fun b u hb hbd hu=>?_)
  ·obtain⟨o',es,ep,e1,e2,e3,eu,e4⟩:=hn'
   exact⟨o',es,ep,e1,e2,e3,eu,fun y=>by rw[e4 y];by_cases hy:y=name<;>simp[hy,hmA]⟩
  ·exact(hs.2 b hbd).trans ((Ty _ _ _ _ hb).trans (Zf _ hu))
 ·dsimp only at hdx
  subst hdx
  dsimp only
  refine Yp ?_
  show wpAny _ _ (Builtin.ObjectAttr.storeInDict dx (.str name _) name v) _ _ _
  unfold Builtin.ObjectAttr.storeInDict Builtin.ObjectAttr.newKeyGuard
  refine Zs (Yp (Zs (U4 hns fun h' hn' hs=>?_)))
  obtain⟨oD,esD,epD,hoD,hdD,hcD⟩:=hn'.count (Ud name v hw)
  refine Zs (Uh hoD (by rw[hdD];exact Uj (Ym hcD (by rw[length_cons,Xk];omega))) ?_)
  wp_walk
  exact hq h' dx _ (.inl rfl) ((hs.2 e hne.symm).trans he) hne hn' (fun b u hb hbd hu=>(hs.2 b hbd).trans hu)
theorem x_match(KX:K.In h)(X:XCls K C bm)(he:h.get? e=some o)(hc:o.cls=.ref C){C':Addr}{bm':List Value}(X':XCls K C' bm'){Q:Bool->Shared->Prop}(hq:Q ((Value.ref C::bm).contains (.ref C')) ⟨h,g,d,t,os⟩):
  wpAny (model prog w) A (excMatches (.ref e) (.ref C')) Q E ⟨h,g,d,t,os⟩:=by
 obtain⟨nm,q,N,bs,sn,sub,ab,col,dd,k0,k1,k2,k3,k5,hC'⟩:=X.obj
 have hC:=KX _ _ hC'
 obtain⟨nm',q',N',bs',sn',sub',ab',col',dd',l0,l1,l2,l3,l5,hD'⟩:=X'.obj
 have hD:=KX _ _ hD'
 have cB:(Value.ref C'::bm').contains (.type "BaseException")=true:=by rw[Y8,X'.hasB,Vt]
 have f:=tc_notTuple
 generalize hb:(Value.ref C::bm).contains (.ref C')=b at hq
 unfold excMatches
 repeat (first| (with_reducible refine Yg he ?_;rw[hc])|with_reducible refine Yg hD ?_| (with_reducible refine Y4 hD ?_;rw[cB])| (with_reducible refine Y4 hC ?_;rw[hb])|wp_step)
 cases b<;>(wp_walk;exact hq)
end
def XFp(e C:Addr)(dx:Option Addr)(fr:Bool)(h:Heap):Prop:=∃o vs t0 x,h.get? e=some o/\o.cls=.ref C/\o.dict=dx/\o.data=.fields vs/\vs[0]? =some (Value.ref t0)/\vs[1]? =some x/\(fr=true->x=.none)/\vs[2]? =some Value.none
def XF(e C:Addr)(dx:Option Addr)(fr:Bool):HO:=.ext (XFp e C dx fr)
theorem XFp.on{e C:Addr}{dx:Option Addr}{fr:Bool}{h h':Heap}(x:XFp e C dx fr h)(k:∀o,h.get? e=some o->h'.get? e=some o):XFp e C dx fr h':=by
 obtain⟨o,vs,t0,y,a,b⟩:=x
 exact⟨o,vs,t0,y,k o a,b⟩
theorem b9l{P:Program}{w:World}{H:Hp}{h:Heap}{e C:Addr}{dx:Option Addr}{fr:Bool}(x:XFp e C dx fr h):a2b P w H h e (XF e C dx fr):=⟨x,let⟨o,_,_,_,a,_⟩:=x;⟨o,a⟩,fun _ _ z k=>z.on k⟩
theorem b4i{P:Program}{w:World}{H:Hp}{h:Heap}{e C:Addr}{dx:Option Addr}{fr:Bool}(ok:HOk P w H h)(a:H e=some (XF e C dx fr)):XFp e C dx fr h:=(ok e _ a).1
theorem d4k{H:Hp}{a:Addr}{o:HO}(h:H a=some o):upd H a o=H:=by
 funext b
 by_cases e:b=a
 ·subst e;rw[a0c,h]
 ·rw[a0j e]
def TbOf(s:Shared)(ea:Addr)(H':Hp)(h:Heap):Prop:=∃o vs T,h.get? ea=some o/\o.data=.fields vs/\vs[1]? =some (Value.ref T)/\T≠ea/\s.heap.objs.size<=T/\H' T=none/\TbIs h T
def CXo(P:Program)(w:World):CXT:=fun outer H s E e s'=>∃ea C dx H',e=.ref ea/\H' ea=some (XF ea C dx false)/\s'.os=s.os/\AllBare s'.gens/\Un (frs outer) [] H H' s.heap s'.heap/\HOk P w H' s'.heap/\TbOf s ea H' s'.heap/\E (.ref C) (some ea) H'
section
variable{X:Cx}{pins:List (Addr×Obj)}{σ:St}{H:Hp}{s:Shared}
def TOk(X:Cx)(pins:List (Addr×Obj))(H:Hp)(T:Addr):Prop:=X.s₀.heap.objs.size<=T/\T≠X.env.locals/\(∀x c,X.env.cells.lookup x=some c->c≠T)/\(∀p∈X.pn++pins,p.1≠T)/\H T=none
theorem c4m{h':Heap}{ea C:Addr}{dx:Option Addr}{fr:Bool}{o:Obj}{ok:Addr->Prop}{ch:List Addr}(I:Inv X pins σ H s)(hx:H ea=some (XF ea C dx fr))(ge:s.heap.get? ea=some o)(l:Left (frs X.stack) ea o ok s.heap h')(hok:∀T,ok T->T∈ch)(hch:∀T∈ch,TOk X pins H T)(hnew:fr=false):
  Inv X pins σ H { s with heap:=h'}:=by
 subst hnew
 have ntr:∀b u,H b=some u->¬ok b:=fun b u e z=>by rw[(hch b (hok b z)).2.2.2.2]at e;cases e
 have nfr:∀b u,H b=some u->b∉frs X.stack:=fun b u e z=>by rw[I.stkFree b z]at e;cases e
 have hk:HOk X.prog X.w H h':=fun a u e=>by
  by_cases ha:a=ea
  ·subst ha
   rw[hx]at e
   cases e
   obtain⟨o',vs,t0,y,a1,a2,a3,a4,a5,a6,_,a8⟩:=b4i I.hok hx
   rw[ge]at a1
   cases a1
   obtain⟨T,_,_,gT⟩:=l.tb
   refine b9l ⟨_,_,t0,.ref T,gT,?_,?_,a7z _ a4,?_,?_,(fun z=>by cases z),?_⟩
   ·rw[Obj.cls_mapFields];exact a2
   ·rw[c7i];exact a3
   ·rw[Xp (by decide)];exact a5
   ·have:=(Yi.mp a6).1
    simp[this]
   ·rw[Xp (by decide)];exact a8
  ·refine(I.hok a u e).stay (fun b v hb q=>?_) (fun _ q=>q) fun _ _ q=>q
   rcases hb with rfl|hb
   ·exact l.keep b v ha (ntr b u e) (nfr b u e) q
   ·refine l.keep b v (fun z=>?_) (ntr b _ hb) (nfr b _ hb) q
    rw[z,hx]at hb
    cases hb
 refine I.step (g':=s.gens) (d':=s.drawn) (t':=s.toks) (ch:=ch) (fun b hb=>⟨.inr (hch b hb).1,(hch b hb).2.1,(hch b hb).2.2.1,(hch b hb).2.2.2.1⟩) (fun b u hL hf hc e n=>?_) (fun b u hL hf hc e n=>?_) (fun _ _ _ _ n=>n) (fun b u hc e=>l.there b u e) (fun _ _ e=>e) (fun _ _ _ e=>e) (fun b ps e=>⟨#[],by rw[e];simp⟩) (fun m hm=>?_) hk I.bare
 ·refine l.keep b u (fun z=>by rw[z,hx]at n;cases n) (fun z=>hc (hok b z)) (fun z=>?_) e
  rcases Zk.mp (I.stkSub b z)with z|z
  ·exact hL z
  ·exact hf z
 ·exact l.slot b u (fun z=>by rw[z,hx]at n;cases n) (fun z=>hc (hok b z)) e
 ·obtain⟨u,es,ep,e,r⟩:=hm
  obtain⟨sl,e2⟩:=l.slot _ u (fun z=>by have:=I.free;rw[z,hx]at this;cases this) (fun z=>(hch _ (hok _ z)).2.1 rfl) e
  exact⟨_,es,ep,e2,r⟩
theorem c0o{T:Addr}(I:Inv X pins σ H s)(h:s.heap.objs.size<=T){H':Hp}(hn:H' T=none):TOk X pins H' T:=by
 refine⟨Ym I.sz h,fun z=>?_,fun x c e z=>?_,fun p hp z=>?_,hn⟩
 ·rw[z]at h;exact absurd I.lt (Uv.mpr h)
 ·obtain⟨v,o,ho,_⟩:=I.cell x c e
  rw[z]at ho
  exact absurd (Zv ho) (Uv.mpr h)
 ·obtain⟨hp1,_⟩:=I.pin p hp
  rw[z]at hp1
  exact absurd (Zv hp1) (Uv.mpr h)
theorem c7j{ea:Addr}{o:Obj}{vs:Array Value}{ok:Addr->Prop}{fs:List Addr}{h':Heap}(I:Inv X pins σ H s)(ge:s.heap.get? ea=some o)(gd:o.data=.fields vs)(g1:1<vs.size)(l:Left fs ea o ok s.heap h'):TbOf s ea H h':=by
 obtain⟨T,h1,h2,h3⟩:=l.tb
 exact⟨_,_,T,h3,a7z _ gd,by simp[g1],fun z=>absurd (Zv ge) (by rw[<-z];exact Uv.mpr h1),h1,I.hok.fresh h1,h2⟩
end
section
variable{P:Program}{w:World}{K:Frag}{mg:Str->Option Value}{base:Heap}{N:List Str}{qual:Str}{scope:Scope}{f:Addr}{cd:Value}{A:Around}{outer:List Env}{s:Shared}{H:Hp}{E:XK}
theorem xe_of{pins:List (Addr×Obj)}{σ:St}{H':Hp}{s2:Shared}{ea C:Addr}{dx:Option Addr}(I:Inv (cxOf (CXo P w) P w K mg base N qual scope f cd A outer s H E) pins σ H' s2)(hx:H' ea=some (XF ea C dx false))
  (tb:∀vs o,s2.heap.get? ea=some o->o.data=.fields vs->vs[1]? =some .none\/∃T,vs[1]? =some (.ref T)/\T≠ea/\TOk (cxOf (CXo P w) P w K mg base N qual scope f cd A outer s H E) pins H' T/\TbIs s2.heap T)(hE:E (.ref C) (some ea) H'):
  (cxOf (CXo P w) P w K mg base N qual scope f cd A outer s H E).xe (.ref ea) s2:=by
 obtain⟨o,vs,t0,y,a1,a2,a3,a4,a5,a6,_⟩:=b4i I.hok hx
 have g1:=(Yi.mp a6).1
 show wpAny _ _ (leaving _ (.ref ea)) _ _ s2
 have fin:∀(ok:Addr->Prop)(ch:List Addr)(h':Heap),(∀T,ok T->T∈ch)->(∀T∈ch,TOk (cxOf (CXo P w) P w K mg base N qual scope f cd A outer s H E) pins H' T)->Left (frs (cxOf (CXo P w) P w K mg base N qual scope f cd A outer s H E).stack) ea o ok s2.heap h'->CXo P w outer H s E (.ref ea) { s2 with heap:=h'}:=fun ok ch h' hok hch l=>by
  have I2:=c4m I hx a1 l hok hch rfl
  refine⟨ea,C,dx,H',rfl,hx,I2.os,I2.bare,I2.base,I2.hok,?_,hE⟩
  obtain⟨o2,vs2,T,b1,b2,b3,b4,b5,b6,b7⟩:=c7j I a1 a4 g1 l
  exact⟨o2,vs2,T,b1,b2,b3,b4,Ym I.sz b5,b6,b7⟩
 refine Zs ?_
 rcases tb vs o a1 a4 with z|⟨T,z1,z2,z3,z4⟩
 ·exact b5v (ok:=fun _=>False) I.ok.frames I.stack rfl a1 a4 (.inl z) fun h' l=>fin _ [] h' (fun _ z=>z.elim) (fun _ z=>absurd z Zz) l
 ·exact b5v (ok:=fun b=>b=T) I.ok.frames I.stack rfl a1 a4 (.inr ⟨T,z1,z2,rfl,z4⟩) fun h' l=>fin _ [T] h' (fun _ z=>Zw.mpr z) (fun b z=>by rw[Zw.mp z];exact z3) l
theorem a4w:a7m (CXo P w) (cxOf (CXo P w) P w K mg base N qual scope f cd A outer s H E) E:=by
 intro pins σ H1 s1 e s2 I h
 obtain⟨ea,C,dx,H',rfl,hx,os,bare,un,hok,tb,hE⟩:=h
 have I2:=I.call' (ch:=[]) os un hok bare (fun _ z=>absurd z Zz)
 obtain⟨o,vs,T,b1,b2,b3,b4,b5,b6,b7⟩:=tb
 refine xe_of I2 hx (fun vs' o' c1 c2=>.inr ⟨T,?_,b4,?_,b7⟩) hE
 ·rw[b1]at c1;cases c1
  rw[b2]at c2;cases c2
  exact b3
 ·exact c0o I b5 b6
end
section
variable{X:Cx}{pins:List (Addr×Obj)}{σ:St}{H:Hp}{s:Shared}{pos apos np:Pos}{a b o e value:Expr}{es:List Expr}{t:TA}{te ta tv:TE}{f x:Str}
theorem b9m:bootBuiltins "ValueError"=some (.type "ValueError"):=by rfl
def d1j(K:Frag)(t:TA):TE:=fun σ H Q=>t σ H fun vs H2=>∃e C dx fr bm y,vs=[.ref e,y]/\H2 e=some (XF e C dx fr)/\XCls K C bm/\Q .non H2
theorem d4l{pl:Sem Bool}(hg:Gl X "ValueError")(hm:X.mg "ValueError"=none)(ha:PA X [a,b] t)(hst:starEach [a,b] X.env=(false,eval a X.env)::starEach [b] X.env:=by rfl)(hpl:(backTo pos (starEach [b] X.env)).any (·.1)=false:=by rfl)
  (ht:eval (.Call (.Attribute (.Name "ValueError" np) "__init__" apos) [a,b] [] pos) X.env=(do
   let ov <-eval (.Name "ValueError" np) X.env
   standAt apos.atName
   let(f,first) <-holding [ov] (getMethod ov "__init__" pl)
   callWith pos f first (backTo pos (starEach [a,b] X.env)) (backToKw pos (keywordEach [] X.env))):=by rfl):
  PE X (.Call (.Attribute (.Name "ValueError" np) "__init__" apos) [a,b] [] pos) (d1j X.K t):=by
 intro pins s σ H Q I h
 refine Ur (pl:=pl) (thn ((c4c (X:=X) (pos:=np) hg hm b9m) pins s σ H (fun v H1=>v=.ty "ValueError"/\H1=H) I ⟨rfl,rfl⟩) fun u s1 ⟨y,H1,I1,ry,e1,e2⟩=>?_) ht
 subst e1 e2
 obtain rfl:u=Value.type "ValueError":=ry
 obtain⟨m,F⟩:=I1.fr
 refine method_type F I1.ok.mod.kin (by kernel_rfl) (by decide+kernel) (v:=.builtin "ValueError.__init__") (by kernel_rfl) (by decide+kernel) ?_
 have I2:=I1.tok (s1.toks+1)
 refine callWith_builtin1 (thn (ha pos pins _ σ H1 _ I2 h) fun us s2 ⟨vs,H2,I3,r,q⟩=>?_) hst hpl
 obtain⟨ea,C,dx,fr,bm,y,rfl,hx,Xc,q⟩:=q
 obtain⟨u1,us1,rfl,r1,r2⟩:∃u1 us1,us=u1::us1/\RelV (.ref ea) u1/\Vals [y] us1:=by cases r with|cons p q=>exact⟨_,_,rfl,p,q⟩
 obtain⟨u2,rfl,r3⟩:=r2.one
 obtain rfl:u1=Value.ref ea:=r1
 obtain⟨ob,ws,t0,z,a1,a2,a3,a4,a5,a6,a7,a8⟩:=b4i I3.hok hx
 obtain⟨hp,g,d,tk,os⟩:=s2
 refine x_init I3.kIn Xc a1 a2 a4 a5 ?_
 refine⟨.non,H2,?_,rfl,q⟩
 have k1:∀b u,b≠ea->hp.get? b=some u->((hp.push { cls:=.type "tuple",data:=.seq [u2].toArray}).update ea (Obj.mapFields (·.setIfInBounds 0 (.ref hp.objs.size)))).get? b=some u:=fun b u hb hu=>by
  rw[Ys _ _ (Ne.symm hb)]
  exact Zf _ hu
 have k2:=X7 (Obj.mapFields (·.setIfInBounds 0 (.ref hp.objs.size))) (Zf { cls:=.type "tuple",data:=.seq [u2].toArray} a1) (Wr (a7z _ a4))
 have sz0:=(Yi.mp a5).1
 have:=I3.write (t':=tk) (o:=XF ea C dx fr) (x:=ea) (e:=ea) (by rw[hx];exact True.intro) (.inl rfl) k1 ⟨_,k2⟩ (b9l ⟨_,_,hp.objs.size,z,k2,by rw[Obj.cls_mapFields];exact a2,by rw[c7i];exact a3,a7z _ a4,by simp[sz0],by rw[Xp (by decide)];exact a6,a7,by rw[Xp (by decide)];exact a8⟩)
 rw[d4k hx]at this
 exact this
structure b7a(K:Frag)(C:Addr):Prop where
 ga:findIn K (.ref C) "__getattribute__"=some (some (.builtin "BaseException.__getattribute__"))
 gx:findIn K (.ref C) "__getattr__"=some none
 sa:findIn K (.ref C) "__setattr__"=some (some (.builtin "object.__setattr__"))
def tXSet(K:Frag)(ta tv:TE)(f:Str):TS:=fun D σ H=>tv σ H fun y H1=>ta σ H1 fun x H2=>∃e C bm fr,x=.ref e/\XCls K C bm/\XUp bm/\b7a K C/\a2a K C f/\
 ((H2 e=some (XF e C none fr)/\∀dx,H2 dx=none->dx≠e->D.nx σ (upd (upd H2 dx (.xd [(f,y)])) e (XF e C (some dx) fr)))\/(∃dx fs,H2 e=some (XF e C (some dx) fr)/\H2 dx=some (.xd fs)/\fs.length<=900/\D.nx σ (upd H2 dx (.xd (putF f y fs)))))
theorem d1k{mA:Str->Option Value}{fs:List (Str×V)}(h:∀f,RelO (fs.lookup f) (mA f)):PySem.Within mA (fs.map (·.1)):=fun y hy=>by
 cases e:fs.lookup y with
 |none=>
  have:=h y
  rw[e]at this
  exact absurd (RelO.none_of this) hy
 |some v=>
  have:=List.mem_map_of_mem (f:=(·.1)) (Yn e)
  exact this
theorem ps_xset(ha:PE X o ta)(hv:PE X value tv)(hs:swapsWith value (some (.Attribute o f apos)) pos.line X.env=pure false:=by rfl):PS X (.Assign [.Attribute o f apos] value pos) (tXSet X.K ta tv f):=by
 intro pins s σ H D I h
 refine Ug (thn (hv pins s σ H _ I h) fun u s1 ⟨y,H1,I1,ry,q⟩=>thn (ha pins s1 σ H1 _ I1 q) fun ov s2 ⟨x,H2,I2,rx,ea,C,bm,fr,ex,Xc,U,Xa,n,q2⟩=>?_) hs
 subst ex
 obtain rfl:ov=Value.ref ea:=rx
 obtain⟨hp,g,d,tk,os⟩:=s2
 rcases q2 with⟨hx,q3⟩|⟨dx,fs,hx,hd,hl,q3⟩
 ·obtain⟨ob,ws,t0,z,a1,a2,a3,a4,a5,a6,a7⟩:=b4i I2.hok hx
  refine x_set (mA:=fun _=>none) (ns:=[]) I2.kIn Xc U Xa.sa n a1 a2 a4 (fun y hy=>absurd rfl hy) (by simp) (.inl ⟨a3,fun _=>rfl⟩) fun h' dx tk' hdx g1 g2 g3 g4=>?_
  have hsz:hp.objs.size<=dx:=by
   rcases hdx with z|z
   ·rw[a3]at z;cases z
   ·exact z.2
  refine⟨σ,_,?_,q3 dx (I2.hok.fresh hsz) g2⟩
  have gg:∀b u,b≠ea->hp.get? b=some u->h'.get? b=some u:=fun b u hb hu=>g4 b u hb (Yj (Zy (Zv hu) hsz)) hu
  have hfree:=I2.hok.fresh hsz
  have okd:a2b X.prog X.w (upd (upd H2 dx (.xd [(f,y)])) ea (XF ea C (some dx) fr)) h' dx (.xd [(f,y)]):=⟨_,g3,fun k=>by
   by_cases hk:k=f
   ·subst hk
    simp only[List.lookup,beq_self_eq_true,if_true]
    exact ry
   ·have hb:(k==f)=false:=Y5.mpr hk
    simp only[List.lookup,hb,if_neg hk]
    exact trivial⟩
  have okh:HOk X.prog X.w (upd (upd H2 dx (.xd [(f,y)])) ea (XF ea C (some dx) fr)) h':=fun b v hb=>by
   by_cases h1:b=ea
   ·subst h1
    rw[a0c]at hb
    cases hb
    exact b9l ⟨_,ws,t0,z,g1,a2,rfl,a4,a5,a6,a7⟩
   ·rw[a0j h1]at hb
    by_cases h2:b=dx
    ·subst h2
     rw[a0c]at hb
     cases hb
     exact okd
    ·rw[a0j h2]at hb
     have nd:∀c u,H2 c=some u->c≠dx:=fun c u hc z=>by rw[z,hfree]at hc;cases hc
     refine(I2.hok b v hb).stay (fun c w' hc qq=>gg c w' ?_ qq) (fun c qq=>?_) fun c xs qq=>?_
     ·rcases hc with rfl|hc
      ·exact h1
      ·exact fun zz=>by rw[zz,hx]at hc;cases hc
     ·rw[a0j (fun zz=>by rw[zz,hx]at qq;cases qq),a0j (nd c _ qq)];exact qq
     ·rw[a0j (fun zz=>by rw[zz,hx]at qq;cases qq),a0j (nd c _ qq)];exact qq
  refine I2.un (t':=tk') ?_ okh
  refine⟨fun b u e n hb hx'=>gg b u (fun zz=>by rw[zz,hx]at n;cases n) e,fun b u e n hb hx'=>⟨u.slots,gg b u (fun zz=>by rw[zz,hx]at n;cases n) e⟩,fun b u e n hx'=>?_,fun b u e hx'=>?_,fun b xs e=>?_,fun b u xs e=>?_,fun b ps e=>⟨#[],?_⟩⟩
  ·rw[a0j (fun zz=>by rw[zz,hx]at n;cases n),a0j (Yj (Zy (Zv e) hsz))];exact n
  ·by_cases h1:b=ea
   ·subst h1;exact⟨_,g1⟩
   ·exact⟨u,gg b u h1 e⟩
  ·rw[a0j (fun zz=>by rw[zz,hx]at e;cases e),a0j (fun zz=>by rw[zz,hfree]at e;cases e)];exact e
  ·rw[a0j (fun zz=>by rw[zz,hx]at e;cases e),a0j (fun zz=>by rw[zz,hfree]at e;cases e)];exact e
  ·rw[a0j (fun zz=>by rw[zz,hx]at e;cases e),a0j (fun zz=>by rw[zz,hfree]at e;cases e),e];simp
 ·obtain⟨ob,ws,t0,z,a1,a2,a3,a4,a5,a6,a7⟩:=b4i I2.hok hx
  obtain⟨mA,hm,hr⟩:=(show a2b X.prog X.w H2 hp dx (.xd fs)from I2.hok dx _ hd)
  have hne:dx≠ea:=fun zz=>by rw[zz,hx]at hd;cases hd
  refine x_set (mA:=mA) (ns:=fs.map (·.1)) I2.kIn Xc U Xa.sa n a1 a2 a4 (d1k hr) (by rw[length_map];omega) (.inr ⟨dx,a3,hne,hm⟩) fun h' dx' tk' hdx g1 g2 g3 g4=>?_
  obtain rfl:dx'=dx:=by
   rcases hdx with z|z
   ·rw[a3]at z;exact(Zo z).symm
   ·rw[a3]at z;cases z.1
  refine⟨σ,_,?_,q3⟩
  have gg:∀b u,b≠dx'->hp.get? b=some u->h'.get? b=some u:=fun b u hb hu=>by
   by_cases h1:b=ea
   ·subst h1
    rw[a1]at hu
    cases hu
    rw[g1,<-a3]
   ·exact g4 b u h1 hb hu
  have nw:a2b X.prog X.w (upd H2 dx' (.xd (putF f y fs))) h' dx' (.xd (putF f y fs)):=⟨_,g3,fun k=>by
   rw[b3e]
   by_cases hk:k=f
   ·rw[if_pos hk,if_pos hk]
    exact ry
   ·rw[if_neg hk,if_neg hk]
    exact hr k⟩
  have okh:HOk X.prog X.w (upd H2 dx' (.xd (putF f y fs))) h':=fun b v hb=>by
   by_cases h1:b=dx'
   ·subst h1
    rw[a0c]at hb
    cases hb
    exact nw
   ·rw[a0j h1]at hb
    refine(I2.hok b v hb).stay (fun c w' hc qq=>gg c w' ?_ qq) (fun c qq=>?_) fun c xs qq=>?_
    ·rcases hc with rfl|hc
     ·exact h1
     ·exact fun zz=>by rw[zz,hd]at hc;cases hc
    ·rw[a0j (fun zz=>by rw[zz,hd]at qq;cases qq)];exact qq
    ·rw[a0j (fun zz=>by rw[zz,hd]at qq;cases qq)];exact qq
  refine I2.un (t':=tk') ?_ okh
  refine⟨fun b u e n hb hx'=>gg b u (fun zz=>by rw[zz,hd]at n;cases n) e,fun b u e n hb hx'=>⟨u.slots,gg b u (fun zz=>by rw[zz,hd]at n;cases n) e⟩,fun b u e n hx'=>?_,fun b u e hx'=>?_,fun b xs e=>?_,fun b u xs e=>?_,fun b ps e=>⟨#[],?_⟩⟩
  ·rw[a0j (fun zz=>by rw[zz,hd]at n;cases n)];exact n
  ·by_cases h1:b=dx'
   ·subst h1
    exact let⟨u,_,_,e,_⟩:=g3;⟨u,e⟩
   ·exact⟨u,gg b u h1 e⟩
  ·rw[a0j (fun zz=>by rw[zz,hd]at e;cases e)];exact e
  ·rw[a0j (fun zz=>by rw[zz,hd]at e;cases e)];exact e
  ·rw[a0j (fun zz=>by rw[zz,hd]at e;cases e),e];simp
end
section
variable{X:Cx}{CX:CXT}{k:Nat}{f C:Addr}{fd:FuncData}{ps:List Str}{sp:Sp}{dvs:List V}{ds:List Value}{E:XK}{x m:Str}{p pos apos np:Pos}{e o:Expr}{es:List Expr}{ta te:TE}{t:TA}{bm:List Value}
structure XMk(K:Frag)(C:Addr)(bm:List Value)(f:Addr):Prop where
 cls:XCls K C bm
 init:findIn K (.ref C) "__init__"=some (some (.ref f))
 fn:typeIn K (.ref f)=some (.type "function")
 kp:keepIn K (.ref C)=true
theorem run_exc{pins:List (Addr×Obj)}{σ:St}{H:Hp}{s:Shared}{Q:VK}{us:List Value}{vs:List V}(M:XMk X.K C bm f)(F:FnOk X.prog X.w X.K X.mg X.base CX k f fd ps sp)(hr:Room (k+1) X.A)(hb:Binds X.K fd ps ds)(hd:Vals dvs ds)
  (hx:a7m CX X E)(I:Inv X pins σ H s)(r:Vals vs us)(hl0:us.length<=1000)
  (h:∀e,H e=none->sp (.ref e::(vs++dvs)) (upd H e (XF e C none true)) (fun v H2=>v=.non/\Q (.ref e) H2) E):
  wpAny (model X.prog X.w) X.A (call (.ref C) us) (EP X pins σ Q) X.xe s:=by
 obtain⟨hp,g,d,tk,os⟩:=s
 have hq:=h (hp.objs.size+1) (I.hok.fresh (Tn _))
 have I2:Inv X pins σ (upd H (hp.objs.size+1) (XF (hp.objs.size+1) C none true)) ⟨(hp.push { cls:=.type "tuple",data:=.seq us.toArray}).push { cls:=.ref C,data:=.fields #[.ref hp.objs.size,.none,.none,.none,.bool false,.none]},g,d,tk,os⟩:=by
  refine I.laid (t':=tk) (fun b u e=>Zf _ (Zf _ e)) (Tn _) (b9l ⟨{ cls:=.ref C,data:=.fields #[.ref hp.objs.size,.none,.none,.none,.bool false,.none]},#[.ref hp.objs.size,.none,.none,.none,.bool false,.none],hp.objs.size,.none,?_,rfl,rfl,rfl,rfl,rfl,(fun _=>rfl),rfl⟩)
  heap_get
 have r2:Vals (V.ref (hp.objs.size+1)::(vs++dvs)) (Value.ref (hp.objs.size+1)::(us++ds)):=.cons rfl (r.append hd)
 have hl:(Value.ref (hp.objs.size+1)::us++ds).length=ps.length:=by
  have q:=r2.length
  rw[F.len _ _ _ _ hq]at q
  exact q.symm
 refine x_call I.kIn M.cls M.init M.fn (by rw[Xk];omega) (Vm (W7 (F.run _ X.stack _ _ ⟨Value.ref (hp.objs.size+1)::us,[]⟩ (Value.ref (hp.objs.size+1)::(us++ds)) _ _ E (hr.make C us []) (I2.env0.make C us []) (hb _ (Value.ref (hp.objs.size+1)::us) I2.kIn hl) r2 hq) fun r s' hq'=>?_))
 cases r with
 |error e=>exact hx pins σ _ _ e s' I2 hq'
 |ok fl=>
  cases fl with
  |ret u=>
   obtain⟨v,H',I3,rv,ev,q3⟩:=I2.after hq'
   subst ev
   exact⟨rv,⟨V.ref (hp.objs.size+1),H',I3,rfl,q3⟩⟩
  |next=>exact False.elim hq'
  |brk=>exact False.elim hq'
  |cont=>exact False.elim hq'
def d1l(C:Addr)(sp:Sp)(dvs:List V)(E:XK)(t:TA):TE:=fun σ H Q=>t σ H fun vs H1=>vs.length<=1000/\∀e,H1 e=none->sp (.ref e::(vs++dvs)) (upd H1 e (XF e C none true)) (fun v H2=>v=.non/\Q (.ref e) H2) E
theorem a4m(M:XMk X.K C bm f)(F:FnOk X.prog X.w X.K X.mg X.base CX k f fd ps sp)(hr:Room (k+1) X.A)(hg:Gl X x)(hm:X.mg x=some (.ref C))(hb:Binds X.K fd ps ds)(hd:Vals dvs ds)(hx:a7m CX X E)
  (ha:PA X (e::es) t)(hdb:(x==("__debug__":Str))=false:=by decide)(he:starEach (e::es) X.env=(false,eval e X.env)::starEach es X.env:=by rfl)(hpl:(backTo pos (starEach es X.env)).any (·.1)=false:=by rfl):
  PE X (.Call (.Name x p) (e::es) [] pos) (d1l C sp dvs E t):=by
 intro pins s σ H Q I h
 refine Xz (b1a I hg hm ?_ hdb)
 refine Vo (h₀:=X.base) I.ok.mod.kin M.kp (thn (ha pos pins s σ H _ I h) fun us s1 ⟨vs,H1,I1,r,ql,q⟩=>⟨I1.kIn,?_⟩) he hpl
 exact run_exc M F hr hb hd hx I1 r (show us.length<=1000 by rw[<-r.length];exact ql) q
def XeOk(X:Cx)(EX:XK):Prop:=∀(pins:List (Addr×Obj))(σ:St)(H:Hp)(s:Shared)(ea C:Addr)(dx:Option Addr),Inv X pins σ H s->H ea=some (XF ea C dx false)->(∃o vs,s.heap.get? ea=some o/\o.data=.fields vs/\vs[1]? =some Value.none)->EX (.ref C) (some ea) H->X.xe (.ref ea) s
theorem a5g{P:Program}{w:World}{K:Frag}{mg:Str->Option Value}{base:Heap}{N:List Str}{qual:Str}{scope:Scope}{f:Addr}{cd:Value}{A:Around}{outer:List Env}{s:Shared}{H:Hp}{E:XK}:XeOk (cxOf (CXo P w) P w K mg base N qual scope f cd A outer s H E) E:=fun pins σ H' s2 ea C dx I hx ⟨o,vs,g1,g2,g3⟩ hE=>
 xe_of I hx (fun vs' o' c1 c2=>.inl (by rw[g1]at c1;cases c1;rw[g2]at c2;cases c2;exact g3)) hE
def d1m(EX:XK)(K:Frag)(te:TE):TS:=fun _ σ H=>te σ H fun v H1=>∃e C dx bm,v=.ref e/\XCls K C bm/\H1 e=some (XF e C dx true)/\EX (.ref C) (some e) (upd H1 e (XF e C dx false))
theorem a4n{EX:XK}(hc:X.calm=true)(hE:XeOk X EX)(he:PE X e te):PS X (.Raise (some e) none pos) (d1m EX X.K te):=by
 intro pins s σ H D I h
 show wpAny _ _ (do standAt pos;raiseStmt X.env (some (do let v <-eval e X.env;standAt pos;pure v)) none) _ _ s
 refine Zs (U0 (x_raise (K:=X.K) (I.ok.hd hc) (Zs (thn (he pins s σ H _ I h) fun v s1 ⟨y,H1,I1,ry,q⟩=>Zs (U0 (Yp ?_))))))
 obtain⟨ea,C,dx,bm,rfl,Xc,hx,hq⟩:=q
 obtain rfl:v=Value.ref ea:=ry
 obtain⟨ob,ws,t0,z,a1,a2,a3,a4,a5,a6,a7,a8⟩:=b4i I1.hok hx
 have a6:ws[1]? =some Value.none:=by rw[a6,a7 rfl]
 refine⟨ea,ob,ws,C,bm,rfl,Xc,I1.kIn,a1,a2,a4,a6,?_⟩
 have I2:Inv X pins σ (upd H1 ea (XF ea C dx false)) s1:=by
  have:=I1.write (t':=s1.toks) (h':=s1.heap) (o:=XF ea C dx false) (x:=ea) (e:=ea) (by rw[hx];exact True.intro) (.inl rfl) (fun _ _ _ z=>z) ⟨_,a1⟩ (b9l ⟨ob,ws,t0,.none,a1,a2,a3,a4,a5,a6,(fun z=>by cases z),a8⟩)
  exact this
 exact hE pins σ _ s1 ea C dx I2 a0c ⟨ob,ws,a1,a4,a6⟩ hq
structure XClsM(K:Frag)(C:Addr)(m:Str)(f:Addr):Prop where
 ga:specialIn K (.ref C) "__getattribute__"=some (some (.builtin "type.__getattribute__"))
 rd:readsIn K C (.type "type")=true
 at_:findCls K (.ref C) (.type "type") m=some (.val (.ref f))
 kp:keepIn K (.ref f)=true
end
theorem Fun.okX{P:Program}{w:World}{K:Frag}{mg:Str->Option Value}{base:Heap}{x qual:Str}{st:Stmt}{f:Addr}{fd:FuncData}{N ps:List Str}{k:Nat}{sp:Sp}(F:Fun K x qual st f fd)(S:a0o N ps (a0h st))(len:∀vs H Q E,sp vs H Q E->vs.length=ps.length)
  (hbody:∀(cdv:Value)(A:Around)(outer:List Env)(s:Shared)(H:Hp)(vs:List V)(Q:VK)(E:XK),Room k (A.deeper (envOfC qual (a0h st) s.heap.objs.size f cdv))->sp vs H Q E->
   ∃t,PSs (cxOf (CXo P w) P w K mg base N qual (a0h st) f cdv A outer s H E) (a5e st) t/\t { nx:=fun _ H'=>Q .non H',rt:=Q} (start N vs) H):FnOk P w K mg base (CXo P w) (k+1) f fd ps sp:=by
 obtain⟨oc,od,kV,doc,pm,an,cdv,ct,osl,rfl,lk,hcd⟩:=F.ex
 exact fn_of lk hcd S len fun A outer s H vs Q E hr hsp=>hbody cdv A outer s H vs Q E hr hsp
def Cx.inX(X:Cx)(ea:Addr):Cx:={ X with A:=X.A.mark (some (.ref ea)),calm:=false,xe:=fun _ _=>False}
section
variable{X:Cx}{pins:List (Addr×Obj)}{σ:St}{H:Hp}{s:Shared}{ea:Addr}
theorem Inv.inX(I:Inv X pins σ H s)(ea:Addr):Inv (X.inX ea) pins σ H s:=
 ⟨⟨I.ok.mod,I.ok.kind,I.ok.glob,I.ok.blt,I.ok.above,I.ok.inj,I.ok.has,I.ok.cab,(fun z=>by cases z),I.ok.frames,I.ok.stk,I.ok.exf,I.ok.bs,I.ok.bsz,I.ok.noex,I.ok.exfs,I.ok.funs,I.ok.frf⟩,I.os,I.bare,I.base,I.loc,I.cell,I.free,I.freeC,I.pin,I.hok,I.len⟩
theorem Inv.outX(ok:X.Ok)(I:Inv (X.inX ea) pins σ H s):Inv X pins σ H s:=⟨ok,I.os,I.bare,I.base,I.loc,I.cell,I.free,I.freeC,I.pin,I.hok,I.len⟩
theorem SP.outX(ok:X.Ok){D:Ends}{f:Flow}{s':Shared}(h:SP (X.inX ea) pins D f s'):SP X pins D f s':=by
 cases f with
 |next=>obtain⟨σ',H',I,q⟩:=h;exact⟨σ',H',I.outX ok,q⟩
 |brk=>obtain⟨σ',H',I,q⟩:=h;exact⟨σ',H',I.outX ok,q⟩
 |cont=>obtain⟨σ',H',I,q⟩:=h;exact⟨σ',H',I.outX ok,q⟩
 |ret u=>obtain⟨v,σ',H',I,r,q⟩:=h;exact⟨v,σ',H',I.outX ok,r,q⟩
theorem fly_ok{M:Model}{A:Around}{E:Value->Shared->Prop}{T:Addr}{o:Obj}{vs:Array Value}{Q:Unit->Shared->Prop}(I:Inv X pins σ H s)(ge:s.heap.get? ea=some o)(gd:o.data=.fields vs)(g1:vs[1]? =some (.ref T))(hT:TOk X pins H T)(tb:TbIs s.heap T)
  (q:∀s',Inv X pins σ H s'->Q () s'):wpAny M A (setFlight (.ref ea) none) Q E s:=by
 obtain⟨oT,ts,h1,h2,h3⟩:=tb
 unfold setFlight
 refine Zs (Wy ge gd g1 ?_)
 rw[if_pos (show(Value.ref T !=Value.none)=true from by simp)]
 refine W8 h1 h2 (Yi.mp h3).1 (q _ ?_)
 exact I.turned (t':=s.toks) (it:=T) (fun b u hb hu=>by rw[Ys _ _ (Ne.symm hb)];exact hu) hT.2.2.2.2 hT.2.1 (.inr hT.1) hT.2.2.1 hT.2.2.2.1
def MetAt(X:Cx)(pins:List (Addr×Obj))(H:Hp)(ea:Addr)(h:Heap):Prop:=∃o vs T,h.get? ea=some o/\o.data=.fields vs/\vs[1]? =some (Value.ref T)/\T≠ea/\TOk X pins H T/\TbIs h T
theorem c6i{C C':Addr}{dx:Option Addr}{bm bm':List Value}{cx:Str}{cp hpos:Pos}{b0:Stmt}{suite:List Stmt}{ts:TS}{D:Ends}(hst:X.stack=X.env::X.outer)(hfr:X.env.frame=some X.env.locals)(I:Inv X pins σ H s)(hx:H ea=some (XF ea C dx false))(tb:MetAt X pins H ea s.heap)
  (Xc:XCls X.K C bm)(Xd:XCls X.K C' bm')(hm:(Value.ref C::bm).contains (.ref C')=true)(hg:Gl X cx)(hmc:X.mg cx=some (.ref C'))(hdb:(cx==("__debug__":Str))=false)
  (hs:PSs (X.inX ea) (b0::suite) ts)(h:ts D σ H):
  wpAny (model X.prog X.w) X.A (noteFrame (.ref ea) X.env) (fun _ s2=>wpAny (model X.prog X.w) X.A (setFlight (.ref ea) none) (fun _ s3=>wpAny (model X.prog X.w) X.A (handleBy (.ref ea) X.env [.ExceptHandler (some (.Name cx cp)) none (b0::suite) hpos]) (SP X pins D) X.xe s3) X.xe s2) X.xe s:=by
 obtain⟨o,vs,T,a1,a2,a3,a4,a5,a6⟩:=tb
 have frs':X.A.frames=some (X.env::X.outer):=by rw[<-hst];exact I.ok.frames
 have ff:s.heap.FunFrames X.base (X.env::X.outer):=by rw[<-hst];exact I.stack
 refine b5v (ok:=fun b=>b=T) frs' ff hfr a1 a2 (.inr ⟨T,a3,a4,rfl,a6⟩) fun h' l=>?_
 rw[<-hst]at l
 have I2:=c4m I hx a1 l (ch:=[T]) (fun _ z=>Zw.mpr z) (fun b z=>by rw[Zw.mp z];exact a5) rfl
 obtain⟨o2,vs2,T2,c1,c2,c3,c4,c5,c6,c7⟩:=c7j I a1 a2 (Yi.mp a3).1 l
 have c8:TOk X pins H T2:=c0o I c5 c6
 generalize hs3:({ s with heap:=h'}:Shared)=s3 at I2
 have c1:s3.heap.get? ea=some o2:=by rw[<-hs3];exact c1
 have c7:TbIs s3.heap T2:=by rw[<-hs3];exact c7
 refine wpAny_handleBy_cons (codeAny_handlers_test (b1a (X:=X.inX ea) (I2.inX ea) hg hmc ?_ hdb)) (by intro q;cases q)
 obtain⟨ob,ws,t0,z,d1,d2,d3,d4,d5,d6,d7⟩:=b4i I2.hok hx
 obtain⟨hp,g,d,tk,os⟩:=s3
 refine x_match I2.kIn Xc d1 d2 Xd ?_
 rw[hm]
 refine codeAny_handlers_suite ?_
 refine fly_ok I2 c1 c2 c3 c8 c7 fun s5 I5=>?_
 refine Xy (hs pins s5 _ H D (I5.inX ea) h) (fun f s7 q7=>?_) fun _ _ z=>z.elim
 exact q7.outX I.ok
end
section
variable{X:Cx}{k:Nat}{f C':Addr}{fd:FuncData}{ps:List Str}{sp:Sp}{dvs:List V}{ds:List Value}{x y nm cx:Str}{p pos apos cp hpos py tpos:Pos}{e:Expr}{es:List Expr}{t:TA}{bm':List Value}{b0:Stmt}{suite:List Stmt}{ts:TS}{i n:Nat}
def tTry(K:Frag)(C':Addr)(sp:Sp)(dvs:List V)(t:TA)(ok:Ends->St->V->Hp->Prop)(hd:Ends->St->Addr->Hp->Prop):TS:=fun D σ H=>t σ H fun vs H1=>sp (vs++dvs) H1 (fun v H2=>ok D σ v H2) (fun c eo H2=>∀ea,eo=some ea->∃C dx bm,c=.ref C/\H2 ea=some (XF ea C dx false)/\XCls K C bm/\(Value.ref C::bm).contains (.ref C')=true/\hd D σ ea H2)
theorem d4m{pins:List (Addr×Obj)}{s:Shared}{σ:St}{H:Hp}{D:Ends}{ok:Ends->St->V->Hp->Prop}{hd:Ends->St->Addr->Hp->Prop}{Eh:Value->Shared->Prop}(F:FnOk X.prog X.w X.K X.mg X.base (CXo X.prog X.w) k f fd ps sp)(hr:Room k X.A)(hg:Gl X x)(hm:X.mg x=some (.ref f))(hk:keepIn X.K (.ref f)=true)(hb:Binds X.K fd ps ds)(hvd:Vals dvs ds)(ha:PA X.nox (e::es) t)
  (hE:∀ea C dx bm H' s',Inv X pins σ H' s'->H' ea=some (XF ea C dx false)->MetAt X pins H' ea s'.heap->XCls X.K C bm->(Value.ref C::bm).contains (.ref C')=true->hd D σ ea H'->Eh (.ref ea) s')
  (I:Inv X pins σ H s)(h:tTry X.K C' sp dvs t ok hd D σ H)(hdb:(x==("__debug__":Str))=false)(he:starEach (e::es) X.env=(false,eval e X.env)::starEach es X.env)(hpl:(backTo pos (starEach es X.env)).any (·.1)=false):
  wpAny (model X.prog X.w) X.A (eval (.Call (.Name x p) (e::es) [] pos) X.env) (EP X pins σ (ok D σ)) Eh s:=by
 refine Xz (b1a I hg hm ?_ hdb)
 refine Vo (h₀:=X.base) I.ok.mod.kin hk (Xy (ha pos pins s σ H _ (I.wish _) h) (fun us s1 ⟨vs,H1,I1,r,q⟩=>⟨I1.kIn,?_⟩) fun _ _ z=>z.elim) he hpl
 have I1:=I1.unwish
 have r2:Vals (vs++dvs) (us++ds):=r.append hvd
 have hl:(us++ds).length=ps.length:=by rw[<-r2.length];exact F.len _ _ _ _ q
 refine Vm (W7 (F.run X.A X.stack s1 H1 ⟨us,[]⟩ (us++ds) (vs++dvs) _ _ hr I1.env0 (hb s1 us I1.kIn hl) r2 q) fun r s' hq=>?_)
 cases r with
 |error e=>
  obtain⟨ea,C,dx,H',rfl,hx,os,bare,un,hok,tb,hu⟩:=hq
  have I2:=I1.call' (ch:=[]) os un hok bare (fun _ z=>absurd z Zz)
  obtain⟨o,vs',T,b1,b2,b3,b4,b5,b6,b7⟩:=tb
  obtain⟨C2,dx2,bm,e1,e2,e3,e4,e5⟩:=hu ea rfl
  exact hE ea C2 dx2 bm H' s' I2 e2 ⟨o,vs',T,b1,b2,b3,b4,c0o I1 b5 b6,b7⟩ e3 e4 e5
 |ok fl=>
  cases fl with
  |ret u=>exact I1.after hq
  |next=>exact False.elim hq
  |brk=>exact False.elim hq
  |cont=>exact False.elim hq
theorem try_set{pins:List (Addr×Obj)}{s:Shared}{σ:St}{D:Ends}{Eh:Value->Shared->Prop}(hN:X.N.Nodup)(hi:X.N[i]? =some y)(hy:Loc X.env.scope y)(hf:X.fn y=true\/X.env.scope.names.lookup y=some .local)(hs:swapsWith e (some (.Name y py)) pos.line X.env=pure false)
  (h:wpAny (model X.prog X.w) X.A (eval e X.env) (EP X pins σ fun v H2=>D.nx (σ.set i (some v)) H2) Eh s):
  wpAny (model X.prog X.w) X.A (execs [.Assign [.Name y py] e pos] X.env) (fun f s1=>match f with| .next=>wpAny (model X.prog X.w) X.A (execs [] X.env) (SP X pins D) X.xe s1|f=>SP X pins D f s1) Eh s:=by
 refine Ui (wpAny_Assign_Name (thn h fun v s1 ⟨z,H1,I1,r1,q1⟩=>?_) hs)
 exact b1j I1 hN hi hy r1 (fun s2 I2=>Wi (Wi ⟨_,H1,I2,q1⟩)) hf
theorem d1n(hst:X.stack=X.env::X.outer)(hfr:X.env.frame=some X.env.locals)(F:FnOk X.prog X.w X.K X.mg X.base (CXo X.prog X.w) k f fd ps sp)(hr:Room k X.A)(hg:Gl X x)(hm:X.mg x=some (.ref f))(hk:keepIn X.K (.ref f)=true)(hb:Binds X.K fd ps ds)(hvd:Vals dvs ds)(ha:PA X.nox (e::es) t)
  (hN:X.N.Nodup)(hi:X.N[i]? =some y)(hy:Loc X.env.scope y)(hgc:Gl X cx)(hmc:X.mg cx=some (.ref C'))(Xd:XCls X.K C' bm')(hs:∀ea,PSs (X.inX ea) (b0::suite) ts)
  (hf:X.fn y=true\/X.env.scope.names.lookup y=some .local:=by first|exact .inl rfl|exact .inr rfl)(hsw:swapsWith (.Call (.Name x p) (e::es) [] pos) (some (.Name y py)) apos.line X.env=pure false:=by rfl)(hdb:(x==("__debug__":Str))=false:=by decide)(hdc:(cx==("__debug__":Str))=false:=by decide)
  (he:starEach (e::es) X.env=(false,eval e X.env)::starEach es X.env:=by rfl)(hpl:(backTo pos (starEach es X.env)).any (·.1)=false:=by rfl):
  PS X (.Try [.Assign [.Name y py] (.Call (.Name x p) (e::es) [] pos) apos] [.ExceptHandler (some (.Name cx cp)) none (b0::suite) hpos] [] [] tpos) (tTry X.K C' sp dvs t (fun D σ v H2=>D.nx (σ.set i (some v)) H2) (fun D σ ea H2=>ts D σ H2)):=by
 intro pins s σ H D I h
 refine wpAny_Try_except (try_set hN hi hy hf hsw (d4m (D:=D) F hr hg hm hk hb hvd ha (fun ea C dx bm H' s' I' hx tb Xc hc hh=>?_) I h hdb he hpl))
 exact c6i hst hfr I' hx tb Xc Xd hc hgc hmc hdc (hs ea) hh
end
structure FunD(K:Frag)(x qual:Str)(st:Stmt)(f:Addr)(fd:FuncData)(dV:Value):Prop where
 ex:∃(oc:Value)(od:Option Addr)(kV doc pm:Value)(an:Option Addr)(cdv ct:Value)(osl:Array (Option Value)),
  fd=fnOf x qual (a7w st) (a5e st) (a0h st) dV kV doc pm an cdv ct/\K.lookup f=some ⟨oc,od,.func fd,osl⟩/\codeIn K cdv qual=true
 kp:keepIn K (.ref f)=true
section
variable{P:Program}{w:World}{K:Frag}{mg:Str->Option Value}{base:Heap}
theorem FunD.ok{dV:Value}{x qual:Str}{st:Stmt}{f:Addr}{fd:FuncData}{N ps:List Str}{k:Nat}{sp:Sp}(F:FunD K x qual st f fd dV)(S:a0o N ps (a0h st))(len:∀vs H Q E,sp vs H Q E->vs.length=ps.length)
  (hbody:∀(cdv:Value)(A:Around)(outer:List Env)(s:Shared)(H:Hp)(vs:List V)(Q:VK)(E:XK),Room k (A.deeper (envOfC qual (a0h st) s.heap.objs.size f cdv))->sp vs H Q E->
   ∃t,PSs (cxOf CX0 P w K mg base N qual (a0h st) f cdv A outer s H E).nox (a5e st) t/\t { nx:=fun _ H'=>Q .non H',rt:=Q} (start N vs) H):FnOk P w K mg base CX0 (k+1) f fd ps sp:=by
 obtain⟨oc,od,kV,doc,pm,an,cdv,ct,osl,rfl,lk,hcd⟩:=F.ex
 refine fn_of lk hcd S len fun A outer s H vs Q E hr hsp=>?_
 obtain⟨t,h,q⟩:=hbody cdv A outer s H vs Q E hr hsp
 exact⟨t,h.nox,q⟩
theorem funD_mk{dV:Value}{x qual:Str}{st:Stmt}{f:Addr}{oc:Value}{od an:Option Addr}{osl:Array (Option Value)}{kV doc pm cdv ct:Value}(l:K.lookup f=some ⟨oc,od,.func (fnOf x qual (a7w st) (a5e st) (a0h st) dV kV doc pm an cdv ct),osl⟩)
  (c:codeIn K cdv qual=true)(k:keepIn K (.ref f)=true):FunD K x qual st f (fnOf x qual (a7w st) (a5e st) (a0h st) dV kV doc pm an cdv ct) dV:=⟨⟨oc,od,kV,doc,pm,an,cdv,ct,osl,rfl,l,c⟩,k⟩
end
end L2
namespace Att
open PySem PySem.W PySem.Calls PyProof.Rows
end Att
namespace L2
open PySem PySem.Spec PyProof.Rows
open PySem PySem.Spec PyProof.Rows PySem.W
section
variable{K:Frag}{σ:St}{H:Hp}{Q:VK}{D:Ends}{t:TA}{te ta tv:TE}{f:Str}{sp:Sp}{dvs:List V}{E EX:XK}{C C':Addr}
theorem d4n(k:te σ H fun v H1=>∃e C dx bm,v=.ref e/\XCls K C bm/\H1 e=some (XF e C dx true)/\EX (.ref C) (some e) (upd H1 e (XF e C dx false))):d1m EX K te D σ H:=k
theorem d4o(k:t σ H fun vs H1=>vs.length<=1000/\∀e,H1 e=none->sp (.ref e::(vs++dvs)) (upd H1 e (XF e C none true)) (fun v H2=>v=.non/\Q (.ref e) H2) E):d1l C sp dvs E t σ H Q:=k
theorem tTry_i{ok:Ends->St->V->Hp->Prop}{hd:Ends->St->Addr->Hp->Prop}(k:t σ H fun vs H1=>sp (vs++dvs) H1 (fun v H2=>ok D σ v H2) (fun c eo H2=>∀ea,eo=some ea->∃C dx bm,c=.ref C/\H2 ea=some (XF ea C dx false)/\XCls K C bm/\(Value.ref C::bm).contains (.ref C')=true/\hd D σ ea H2)):tTry K C' sp dvs t ok hd D σ H:=k
theorem d4p(k:t σ H fun vs H2=>∃e C dx fr bm y,vs=[.ref e,y]/\H2 e=some (XF e C dx fr)/\XCls K C bm/\Q .non H2):d1j K t σ H Q:=k
theorem tXSet_i(k:tv σ H fun y H1=>ta σ H1 fun x H2=>∃e C bm fr,x=.ref e/\XCls K C bm/\XUp bm/\b7a K C/\a2a K C f/\
 ((H2 e=some (XF e C none fr)/\∀dx,H2 dx=none->dx≠e->D.nx σ (upd (upd H2 dx (.xd [(f,y)])) e (XF e C (some dx) fr)))\/(∃dx fs,H2 e=some (XF e C (some dx) fr)/\H2 dx=some (.xd fs)/\fs.length<=900/\D.nx σ (upd H2 dx (.xd (putF f y fs)))))):tXSet K ta tv f D σ H:=k
end
def rowS:Str:=ofString "row"
structure Born(H H':Hp)(e C:Addr)(fr:Bool)(fs:List (Str×V)):Prop where
 ex:∃dx,H dx=none/\dx≠e/\H' e=some (XF e C (some dx) fr)/\H' dx=some (.xd fs)
 keep:∀b,b≠e->∀o,H b=some o->H' b=some o
def IsX(H:Hp)(ea C:Addr)(fs:List (Str×V)):Prop:=∃dx,H ea=some (XF ea C (some dx) false)/\H dx=some (.xd fs)
abbrev a1b(K:Frag):Sp:=fun vs H Q _=>match vs with
 | [.ref e,v,.int r]=>∃C bm fr,XCls K C bm/\XUp bm/\b7a K C/\a2a K C rowS/\H e=some (XF e C none fr)/\∀H',Born H H' e C fr [(rowS,.int r)]->Q .non H'
 |_=>False
theorem a2l{H H1 H2:Hp}{e C:Addr}{fs:List (Str×V)}(hn:H e=none)(s:Same H H1)(h1:H1 e=none)(b:Born (upd H1 e (XF e C none true)) H2 e C true fs):∃dx,H2 e=some (XF e C dx true)/\IsX (upd H2 e (XF e C dx false)) e C fs/\Same H (upd H2 e (XF e C dx false)):=by
 obtain⟨⟨dx,a1,a2,a3,a4⟩,k⟩:=b
 refine⟨some dx,a3,⟨dx,a0c,by rw[a0j a2];exact a4⟩,fun c o hc=>?_⟩
 have hce:c≠e:=fun z=>by rw[z,hn]at hc;cases hc
 rw[a0j hce]
 exact k c hce o (by rw[a0j hce];exact s c o hc)
structure XIs(K:Frag)(C:Addr):Prop where
 ha:findIn K (.ref C) "__class__"=some (some (.builtin "object.__class__"))
 hn:specialIn K (.builtin "object.__class__") "__get__"=some (some (.builtin "getset_descriptor.__get__"))
 htk:takesIn K (.builtin "object.__class__")=some true
 hm:mroIn K C (.type "object")=some true
section
variable{X:Cx}{pos:Pos}{e:Expr}{te:TE}
def tF3i(te:TE):TE:=fun σ H Q=>te σ H fun x H1=>∃i:Int,x=.int i/\i.natAbs.log2<1920/\(ofString (toString i)).length<=100/\∀z:Str,Q (.str z) H1
theorem d1o{a b:Str}{j1 j2 p1 p2 p3}(he:PE X e te)(ha:a.length<=1000:=by decide+kernel)(hb:b.length<=1000:=by decide+kernel):PE X (.JoinedStr [.Constant (.str a) j1 p1,.FormattedValue e (-1) none p2,.Constant (.str b) j2 p3] pos) (tF3i te):=by
 intro pins s σ H Q I h
 have z9:100000<=sizeLine:=by decide
 refine Wq (Yt (Y0 ?_))
 have hz:∀{x:Str},x.length<=sizeLine->(Str.empty++x).length<=sizeLine:=fun{x} q=>by rw[Z5];show 0+x.length<=_;omega
 have ea:∀x:Str,Str.empty++x=x:=fun x=>by apply Vx;show(#[]:Array Nat)++x.cps=x.cps;simp
 ·refine⟨hz (by omega),Yt (W0 (thn (he pins _ σ H _ (I.tok _) h) fun v s1 ⟨x,H1,I1,r1,q1⟩=>?_))⟩
  obtain⟨i,rfl,hl,hy,q⟩:=q1
  obtain⟨t,rfl⟩:=r1
  refine formatField_int_small hl ?_
  rw[ea]
  generalize ofString (toString i)=y at hy ⊢
  refine⟨by rw[Z5];omega,?_⟩
  show wpAny _ _ (joinParts (a++y) [eval (.Constant (.str b) j2 p3) X.env]) _ _ _
  refine Yt (Y0 ⟨by rw[Z5,Z5];omega,Wv ?_ (by rw[Z5,Z5];omega)⟩)
  exact⟨.str (a++y++b),H1,((I1.tok _).tok _).tok _,⟨_,rfl⟩,q _⟩
theorem tF3i_i{σ:St}{H:Hp}{Q:VK}(k:te σ H fun x H1=>∃i:Int,x=.int i/\i.natAbs.log2<1920/\(ofString (toString i)).length<=100/\∀z:Str,Q (.str z) H1):tF3i te σ H Q:=k
end
def onX(H:Hp)(C:Addr)(E:XK):Prop:=∀ea H',Same H H'->IsX H' ea C [(rowS,.int 0)]->E (.ref C) (some ea) H'
theorem onX.mono{H H1:Hp}{C:Addr}{E:XK}(h:onX H C E)(s:Same H H1):onX H1 C E:=fun ea H' s' i=>h ea H' (s.trans s') i
section
variable{X:Cx}{es rest:List Expr}{k:Nat}{pos:Pos}{env:Env}{te:TE}{t:TA}
def notStar:Expr->Bool
 | .Starred _ _=>false
 |_=>true
theorem d4q{e:Expr}(h:notStar e=true):starEach (e::rest) env=(false,eval e env)::starEach rest env:=by
 rw[starEach]
 intro a p z
 rw[z]at h
 cases h
theorem a0a{e:Expr}(ha:PE X e te)(hr:PA X rest t)(h:notStar e=true:=by rfl):PA X (e::rest) (c2w te t):=a2g ha hr (d4q h)
theorem a8i{n:Option Expr}{l:Nat}:swapsWith (.List es pos) n l env=pure false:=rfl
theorem a3i{a b:Expr}{op:Operator}{n:Option Expr}{l:Nat}:swapsWith (.BinOp a op b pos) n l env=pure false:=rfl
theorem a7o{a b:Expr}{n:Option Expr}{l:Nat}:swapsWith (.Subscript a b pos) n l env=pure false:=rfl
theorem a1p{a:Expr}{kw:List Keyword}{n:Option Expr}{l:Nat}:swapsWith (.Call a es kw pos) n l env=pure false:=rfl
end
section
variable{X:Cx}{pos:Pos}{e:Expr}{te:TE}
def tFr(te:TE):TE:=fun σ H Q=>te σ H fun x H1=>∃y,x=.str y/\(∀c∈y.cps.toList,c<16^8)/\y.length<=5000/\∀z:Str,Q (.str z) H1
theorem pe_fr{b:Str}{j2 p2 p3}(he:PE X e te)(hb:b.length<=1000:=by decide+kernel):PE X (.JoinedStr [.FormattedValue e 114 none p2,.Constant (.str b) j2 p3] pos) (tFr te):=by
 intro pins s σ H Q I h
 have z9:100000<=sizeLine:=by decide
 have ea:∀x:Str,Str.empty++x=x:=fun x=>by apply Vx;show(#[]:Array Nat)++x.cps=x.cps;simp
 refine Wq (Yt (Uy (thn (he pins _ σ H _ I h) fun v s1 ⟨x,H1,I1,r1,q1⟩=>?_)))
 obtain⟨y,rfl,hc,hl,q⟩:=q1
 obtain⟨t,rfl⟩:=r1
 have hy:=Vc y hc
 refine pyReprObj_str ?_ (by omega)
 generalize reprText y=y' at hy ⊢
 refine W2 (fun t' tk=>?_) (by omega)
 have hz:(Str.empty++y').length<=sizeLine:=by rw[ea];omega
 refine⟨hz,?_⟩
 rw[ea]
 show wpAny _ _ (joinParts y' [eval (.Constant (.str b) j2 p3) X.env]) _ _ _
 refine Yt (Y0 ⟨by rw[Z5];omega,Wv ?_ (by rw[Z5];omega)⟩)
 exact⟨.str (y'++b),H1,((I1.tok _).tok _).tok _,⟨_,rfl⟩,q _⟩
theorem tFr_i{σ:St}{H:Hp}{Q:VK}(k:te σ H fun x H1=>∃y,x=.str y/\(∀c∈y.cps.toList,c<16^8)/\y.length<=5000/\∀z:Str,Q (.str z) H1):tFr te σ H Q:=k
def tF2(te:TE):TE:=fun σ H Q=>te σ H fun x H1=>∃y,x=.str y/\y.length<=5000/\∀z:Str,Q (.str z) H1
theorem pe_f2{a:Str}{j1 p1 p2}(he:PE X e te)(ha:a.length<=1000:=by decide+kernel):PE X (.JoinedStr [.Constant (.str a) j1 p1,.FormattedValue e (-1) none p2] pos) (tF2 te):=by
 intro pins s σ H Q I h
 have z9:100000<=sizeLine:=by decide
 have ea:∀x:Str,Str.empty++x=x:=fun x=>by apply Vx;show(#[]:Array Nat)++x.cps=x.cps;simp
 refine Wq (Yt (Y0 ?_))
 have hz:(Str.empty++a).length<=sizeLine:=by rw[ea];omega
 refine⟨hz,Yt (W0 (thn (he pins _ σ H _ (I.tok _) h) fun v s1 ⟨x,H1,I1,r1,q1⟩=>?_))⟩
 rw[ea]
 obtain⟨y,rfl,hl,q⟩:=q1
 obtain⟨t,rfl⟩:=r1
 refine W2 (fun t' tk=>?_) (by omega)
 refine⟨by rw[Z5];omega,?_⟩
 refine Wv ?_ (by rw[Z5];omega)
 exact⟨.str (a++y),H1,(I1.tok _).tok _,⟨_,rfl⟩,q _⟩
theorem tF2_i{σ:St}{H:Hp}{Q:VK}(k:te σ H fun x H1=>∃y,x=.str y/\y.length<=5000/\∀z:Str,Q (.str z) H1):tF2 te σ H Q:=k
end
namespace FD
end FD
section
variable{prog:Program}{w:World}{A:Around}{R:Result->Shared->Prop}
def c4n{K:Type}[DecidableEq K](knd:PySem.KeyKind prog w K)(ts:List Addr)(kvs:List (K×Value))(h:Heap):Prop:=∀(i:Nat)(T:Addr),ts[i]? =some T->∃(kk:K)(key val:Value),kvs[i]? =some (kk,val)/\knd.is kk key=true/\IsTup h T #[key,val]
theorem c4n.keep{K:Type}[DecidableEq K]{knd:PySem.KeyKind prog w K}{ts:List Addr}{kvs:List (K×Value)}{h h':Heap}(x:c4n knd ts kvs h)(k:∀T∈ts,∀o,h.get? T=some o->h'.get? T=some o):c4n knd ts kvs h':=fun i T e=>by
 obtain⟨kk,key,val,e1,e2,o,ho,r⟩:=x i T e
 exact⟨kk,key,val,e1,e2,o,k T (Xn e) o ho,r⟩
end
abbrev Rws:=List (Str×Trm)
mutual
def eqb:Trm->Trm->Bool
 | .num a,.num b=>decide (a=b)
 | .any x,.any y=>decide (x=y)
 | .app s ks,.app r ls=>decide (s=r)&&eqbL ks ls
 |_,_=>false
def eqbL:List Trm->List Trm->Bool
 | [],[]=>true
 |a::r,b::m=>eqb a b&&eqbL r m
 |_,_=>false
end
mutual
theorem c0p:∀t u:Trm,eqb t u=true↔t=u
 | .num a,.num b=>by simp[eqb]
 | .num a,.any y=>by simp[eqb]
 | .num a,.app _ _=>by simp[eqb]
 | .any x,.num b=>by simp[eqb]
 | .any x,.any y=>by simp[eqb]
 | .any x,.app _ _=>by simp[eqb]
 | .app _ _,.num b=>by simp[eqb]
 | .app _ _,.any y=>by simp[eqb]
 | .app s ks,.app r ls=>by
  simp only[eqb,Y2,Wn,Trm.app.injEq,b8d ks ls]
theorem b8d:∀t u:List Trm,eqbL t u=true↔t=u
 | [],[]=>by simp[eqbL]
 | [],_::_=>by simp[eqbL]
 |_::_,[]=>by simp[eqbL]
 |a::r,b::m=>by simp only[eqbL,Y2,Yd,c0p a b,b8d r m]
end
theorem c4o(t:Trm):eqb t t=true:=(c0p t t).mpr rfl
theorem d1p{t u:Trm}:eqb t u=false↔t≠u:=by
 rw[<-Bool.not_eq_true,ne_eq,c0p]
theorem c4p:∀ks ls:List Trm,((List.range (min ks.length ls.length)).all (fun j=>match ks[j]?,ls[j]? with|some a,some b=>eqb a b|_,_=>true)&&(ks.length==ls.length))=eqbL ks ls
 | [],[]=>by simp[eqbL]
 | [],_::_=>by simp[eqbL]
 |_::_,[]=>by simp[eqbL]
 |a::r,b::m=>by
  have ih:=c4p r m
  simp only[eqbL]
  rw[<-ih,length_cons,length_cons,Nat.succ_min_succ,List.range_succ_eq_map,U2,List.all_map,Bool.and_assoc]
  congr 1
  congr 1
  ·simp
mutual
theorem Trm.data_inj:∀{t u:Trm},t.data=u.data->t=u
 | .num a,.num b,h=>by simp[Trm.data]at h;rw[h]
 | .num a,.any y,h=>by simp[Trm.data]at h
 | .num a,.app _ _,h=>by simp[Trm.data]at h
 | .any x,.num b,h=>by simp[Trm.data]at h
 | .any x,.any y,h=>by simp[Trm.data]at h;rw[h]
 | .any x,.app _ _,h=>by simp[Trm.data]at h
 | .app _ _,.num b,h=>by simp[Trm.data]at h
 | .app _ _,.any y,h=>by simp[Trm.data]at h
 | .app s ks,.app r ls,h=>by
  simp only[Trm.data,PyData.tuple.injEq,Yd,PyData.str.injEq,and_true,true_and]at h
  rw[h.1,Trm.dataL_inj h.2]
theorem Trm.dataL_inj:∀{t u:List Trm},Trm.dataL t=Trm.dataL u->t=u
 | [],[],_=>rfl
 | [],_::_,h=>by simp[Trm.dataL]at h
 |_::_,[],h=>by simp[Trm.dataL]at h
 |a::r,b::m,h=>by
  simp only[Trm.dataL,Yd]at h
  rw[Trm.data_inj h.1,Trm.dataL_inj h.2]
end
section
variable{X:Cx}{pins:List (Addr×Obj)}{σ:St}{H:Hp}{s:Shared}
mutual
theorem c7k(I:Inv X pins σ H s):∀{v:V}{d d':PyData},Den X.K H v d->Den X.K H v d'->d=d'
 |_,_,_,.non,h=>by cases h;rfl
 |_,_,_,.bl b,h=>by cases h;rfl
 |_,_,_,.int i,h=>by cases h;rfl
 |_,_,_,.str x,h=>by cases h;rfl
 |_,_,_,.tup hs hl,h=>by
  cases h with
  |tup hs' hl'=>
   have e:=I.tuple_inj hs hs'
   subst e
   rw[b8e I hl hl']
theorem b8e(I:Inv X pins σ H s):∀{v:List V}{d d':List PyData},DenL X.K H v d->DenL X.K H v d'->d=d'
 |_,_,_,.nil,h=>by cases h;rfl
 |_,_,_,.cons h l,h'=>by
  cases h' with
  |cons g m=>rw[c7k I h g,b8e I l m]
end
theorem c2d(I:Inv X pins σ H s){A:Around}{a b:Addr}{us us':List V}(hs:SqT X.K H a us)(hs':SqT X.K H b us')(hab:a≠b)(e:Nat->Bool)(hu:A.units+1<cLine)
  (items:∀j x x' w w',us[j]? =some x->us'[j]? =some x'->RelV x w->RelV x' w'->SeqAt.EqAt A.in1 s w w' (e j)):SeqAt.EqAt A s (.ref a) (.ref b) ((List.range (min us.length us'.length)).all e&&(us.length==us'.length)):=by
 obtain⟨its,rv,p,_⟩:=I.tuple hs
 obtain⟨its',rv',p',_⟩:=I.tuple hs'
 have l1:=rv.length
 have l2:=rv'.length
 have key:=SeqAt.RcAt.tuples (A:=A) (e:=e) (show s.heap.IsTuple a its.toArray from p) (show s.heap.IsTuple b its'.toArray from p') (by omega) (fun j h1 h2=>by
  have h1:j<its.length:=by simpa using h1
  have h2:j<its'.length:=by simpa using h2
  have x1:us[j]? =some us[j]:=Zc (by omega)
  have x2:us'[j]? =some us'[j]:=Zc (by omega)
  obtain⟨w1,y1,z1⟩:=rv.get x1
  obtain⟨w2,y2,z2⟩:=rv'.get x2
  have q1:its.toArray[j]=w1:=by
   have:=Zc h1
   rw[y1]at this
   simpa using(Zo this).symm
  have q2:its'.toArray[j]=w2:=by
   have:=Zc h2
   rw[y2]at this
   simpa using(Zo this).symm
  rw[q1,q2]
  exact items j _ _ _ _ x1 x2 z1 z2)
 rw[Zh,Zh,<-l1,<-l2]at key
 exact T7 hab key
def eT(t t':Trm):Nat->Bool
 |0=>match t,t' with| .num _,.num _=>true| .any _,.any _=>true| .app _ _,.app _ _=>true|_,_=>false
 |1=>match t,t' with| .num a,.num b=>decide (a=b)| .any x,.any y=>decide (x=y)| .app r _,.app q _=>decide (r=q)| .any x,.app q _=>decide (x=q)| .app r _,.any y=>decide (r=y)|_,_=>false
 |2=>match t,t' with| .app _ ks,.app _ ls=>eqbL ks ls|_,_=>true
 |_=>true
def lenT:Trm->Nat
 | .app _ _=>3
 |_=>2
theorem d1q(t t':Trm):((List.range (min (lenT t) (lenT t'))).all (eT t t')&&(lenT t==lenT t'))=eqb t t':=by
 cases t<;>cases t'<;>simp[lenT,eT,eqb,List.range,List.range.loop]
theorem d4r{ks:List Trm}{t:Trm}(h:t∈ks):t.size<=Trm.sizeL ks:=by
 obtain⟨a,b,rfl⟩:=List.append_of_mem h
 rw[Trm.sizeL_app,Trm.sizeL]
 omega
theorem c4q(I:Inv X pins σ H s)(n:Nat)(ih:∀(A:Around)(t t':Trm)(v v':V)(u u':Value),t.size<=n->A.units+2*n+4<cLine->Den X.K H v t.data->Den X.K H v' t'.data->RelV v u->RelV v' u'->SeqAt.EqAt A s u u' (eqb t t'))
  (A:Around)(t t':Trm){a a':Addr}(h:Den X.K H (.ref a) t.data)(h':Den X.K H (.ref a') t'.data)(hz:t.size<=n+1)(hu:A.units+2*(n+1)+4<cLine):
  ∃us us',SqT X.K H a us/\SqT X.K H a' us'/\us.length=lenT t/\us'.length=lenT t'/\∀j x x' w w',us[j]? =some x->us'[j]? =some x'->RelV x w->RelV x' w'->SeqAt.EqAt A.in1 s w w' (eT t t' j):=by
 cases t with
 |num m=>
  obtain⟨a0,e0,hs⟩:=a5x h
  cases e0
  cases t' with
  |num m'=>
   obtain⟨a0',e0',hs'⟩:=a5x h'
   cases e0'
   refine⟨_,_,hs,hs',rfl,rfl,fun j y y' w w' h1 h2 r1 r2=>?_⟩
   match j,h1,h2 with
    |0,h1,h2=>
     simp only[Zt,Z2]at h1 h2
     subst h1 h2
     have:=a2h (A:=A.in1) (s:=s) (a:=Sum.inr numS) (b:=Sum.inr numS) r1 r2
     rw[show decide ((Sum.inr numS:Key)=Sum.inr numS)=true by decide+kernel]at this
     exact this
    |1,h1,h2=>
     simp only[Yk,Zt,Z2]at h1 h2
     subst h1 h2
     have:=a2h (A:=A.in1) (s:=s) (a:=Sum.inl m) (b:=Sum.inl m') r1 r2
     have e9:decide ((Sum.inl m:Key)=Sum.inl m')=decide (m=m'):=by
      refine Wb.mpr ⟨fun h=>?_,fun h=>by rw[h]⟩
      injection h
     rw[e9]at this
     exact this
    |j+2,h1,h2=>simp at h1
  |any x'=>
   obtain⟨a0',e0',hs'⟩:=a5y h'
   cases e0'
   refine⟨_,_,hs,hs',rfl,rfl,fun j y y' w w' h1 h2 r1 r2=>?_⟩
   match j,h1,h2 with
    |0,h1,h2=>
     simp only[Zt,Z2]at h1 h2
     subst h1 h2
     have:=a2h (A:=A.in1) (s:=s) (a:=Sum.inr numS) (b:=Sum.inr anyS) r1 r2
     rw[show decide ((Sum.inr numS:Key)=Sum.inr anyS)=false by decide+kernel]at this
     exact this
    |1,h1,h2=>
     simp only[Yk,Zt,Z2]at h1 h2
     subst h1 h2
     have:=a2h (A:=A.in1) (s:=s) (a:=Sum.inl m) (b:=Sum.inr x') r1 r2
     have e9:decide ((Sum.inl m:Key)=Sum.inr x')=false:=Zd (fun h=>by cases h)
     rw[e9]at this
     exact this
    |j+2,h1,h2=>simp at h1
  |app sg' ks'=>
   obtain⟨a0',b',ku',e0',hs',hb',hk'⟩:=a4g h'
   cases e0'
   refine⟨_,_,hs,hs',rfl,rfl,fun j y y' w w' h1 h2 r1 r2=>?_⟩
   match j,h1,h2 with
    |0,h1,h2=>
     simp only[Zt,Z2]at h1 h2
     subst h1 h2
     have:=a2h (A:=A.in1) (s:=s) (a:=Sum.inr numS) (b:=Sum.inr appS) r1 r2
     rw[show decide ((Sum.inr numS:Key)=Sum.inr appS)=false by decide+kernel]at this
     exact this
    |1,h1,h2=>
     simp only[Yk,Zt,Z2]at h1 h2
     subst h1 h2
     have:=a2h (A:=A.in1) (s:=s) (a:=Sum.inl m) (b:=Sum.inr sg') r1 r2
     have e9:decide ((Sum.inl m:Key)=Sum.inr sg')=false:=Zd (fun h=>by cases h)
     rw[e9]at this
     exact this
    |j+2,h1,h2=>simp at h1
 |any x=>
  obtain⟨a0,e0,hs⟩:=a5y h
  cases e0
  cases t' with
  |num m'=>
   obtain⟨a0',e0',hs'⟩:=a5x h'
   cases e0'
   refine⟨_,_,hs,hs',rfl,rfl,fun j y y' w w' h1 h2 r1 r2=>?_⟩
   match j,h1,h2 with
    |0,h1,h2=>
     simp only[Zt,Z2]at h1 h2
     subst h1 h2
     have:=a2h (A:=A.in1) (s:=s) (a:=Sum.inr anyS) (b:=Sum.inr numS) r1 r2
     rw[show decide ((Sum.inr anyS:Key)=Sum.inr numS)=false by decide+kernel]at this
     exact this
    |1,h1,h2=>
     simp only[Yk,Zt,Z2]at h1 h2
     subst h1 h2
     have:=a2h (A:=A.in1) (s:=s) (a:=Sum.inr x) (b:=Sum.inl m') r1 r2
     have e9:decide ((Sum.inr x:Key)=Sum.inl m')=false:=Zd (fun h=>by cases h)
     rw[e9]at this
     exact this
    |j+2,h1,h2=>simp at h1
  |any x'=>
   obtain⟨a0',e0',hs'⟩:=a5y h'
   cases e0'
   refine⟨_,_,hs,hs',rfl,rfl,fun j y y' w w' h1 h2 r1 r2=>?_⟩
   match j,h1,h2 with
    |0,h1,h2=>
     simp only[Zt,Z2]at h1 h2
     subst h1 h2
     have:=a2h (A:=A.in1) (s:=s) (a:=Sum.inr anyS) (b:=Sum.inr anyS) r1 r2
     rw[show decide ((Sum.inr anyS:Key)=Sum.inr anyS)=true by decide+kernel]at this
     exact this
    |1,h1,h2=>
     simp only[Yk,Zt,Z2]at h1 h2
     subst h1 h2
     have:=a2h (A:=A.in1) (s:=s) (a:=Sum.inr x) (b:=Sum.inr x') r1 r2
     have e9:decide ((Sum.inr x:Key)=Sum.inr x')=decide (x=x'):=by
      refine Wb.mpr ⟨fun h=>?_,fun h=>by rw[h]⟩
      injection h
     rw[e9]at this
     exact this
    |j+2,h1,h2=>simp at h1
  |app sg' ks'=>
   obtain⟨a0',b',ku',e0',hs',hb',hk'⟩:=a4g h'
   cases e0'
   refine⟨_,_,hs,hs',rfl,rfl,fun j y y' w w' h1 h2 r1 r2=>?_⟩
   match j,h1,h2 with
    |0,h1,h2=>
     simp only[Zt,Z2]at h1 h2
     subst h1 h2
     have:=a2h (A:=A.in1) (s:=s) (a:=Sum.inr anyS) (b:=Sum.inr appS) r1 r2
     rw[show decide ((Sum.inr anyS:Key)=Sum.inr appS)=false by decide+kernel]at this
     exact this
    |1,h1,h2=>
     simp only[Yk,Zt,Z2]at h1 h2
     subst h1 h2
     have:=a2h (A:=A.in1) (s:=s) (a:=Sum.inr x) (b:=Sum.inr sg') r1 r2
     have e9:decide ((Sum.inr x:Key)=Sum.inr sg')=decide (x=sg'):=by
      refine Wb.mpr ⟨fun h=>?_,fun h=>by rw[h]⟩
      injection h
     rw[e9]at this
     exact this
    |j+2,h1,h2=>simp at h1
 |app sg ks=>
  obtain⟨a0,b,ku,e0,hs,hb,hk⟩:=a4g h
  cases e0
  cases t' with
  |num m'=>
   obtain⟨a0',e0',hs'⟩:=a5x h'
   cases e0'
   refine⟨_,_,hs,hs',rfl,rfl,fun j y y' w w' h1 h2 r1 r2=>?_⟩
   match j,h1,h2 with
    |0,h1,h2=>
     simp only[Zt,Z2]at h1 h2
     subst h1 h2
     have:=a2h (A:=A.in1) (s:=s) (a:=Sum.inr appS) (b:=Sum.inr numS) r1 r2
     rw[show decide ((Sum.inr appS:Key)=Sum.inr numS)=false by decide+kernel]at this
     exact this
    |1,h1,h2=>
     simp only[Yk,Zt,Z2]at h1 h2
     subst h1 h2
     have:=a2h (A:=A.in1) (s:=s) (a:=Sum.inr sg) (b:=Sum.inl m') r1 r2
     have e9:decide ((Sum.inr sg:Key)=Sum.inl m')=false:=Zd (fun h=>by cases h)
     rw[e9]at this
     exact this
    |j+2,h1,h2=>simp at h2
  |any x'=>
   obtain⟨a0',e0',hs'⟩:=a5y h'
   cases e0'
   refine⟨_,_,hs,hs',rfl,rfl,fun j y y' w w' h1 h2 r1 r2=>?_⟩
   match j,h1,h2 with
    |0,h1,h2=>
     simp only[Zt,Z2]at h1 h2
     subst h1 h2
     have:=a2h (A:=A.in1) (s:=s) (a:=Sum.inr appS) (b:=Sum.inr anyS) r1 r2
     rw[show decide ((Sum.inr appS:Key)=Sum.inr anyS)=false by decide+kernel]at this
     exact this
    |1,h1,h2=>
     simp only[Yk,Zt,Z2]at h1 h2
     subst h1 h2
     have:=a2h (A:=A.in1) (s:=s) (a:=Sum.inr sg) (b:=Sum.inr x') r1 r2
     have e9:decide ((Sum.inr sg:Key)=Sum.inr x')=decide (sg=x'):=by
      refine Wb.mpr ⟨fun h=>?_,fun h=>by rw[h]⟩
      injection h
     rw[e9]at this
     exact this
    |j+2,h1,h2=>simp at h2
  |app sg' ks'=>
   obtain⟨a0',b',ku',e0',hs',hb',hk'⟩:=a4g h'
   cases e0'
   refine⟨_,_,hs,hs',rfl,rfl,fun j y y' w w' h1 h2 r1 r2=>?_⟩
   match j,h1,h2 with
    |0,h1,h2=>
     simp only[Zt,Z2]at h1 h2
     subst h1 h2
     have:=a2h (A:=A.in1) (s:=s) (a:=Sum.inr appS) (b:=Sum.inr appS) r1 r2
     rw[show decide ((Sum.inr appS:Key)=Sum.inr appS)=true by decide+kernel]at this
     exact this
    |1,h1,h2=>
     simp only[Yk,Zt,Z2]at h1 h2
     subst h1 h2
     have:=a2h (A:=A.in1) (s:=s) (a:=Sum.inr sg) (b:=Sum.inr sg') r1 r2
     have e9:decide ((Sum.inr sg:Key)=Sum.inr sg')=decide (sg=sg'):=by
      refine Wb.mpr ⟨fun h=>?_,fun h=>by rw[h]⟩
      injection h
     rw[e9]at this
     exact this
    |2,h1,h2=>
     simp only[Yk,Zt,Z2]at h1 h2
     subst h1 h2
     obtain rfl:w=Value.ref b:=r1
     obtain rfl:w'=Value.ref b':=r2
     show SeqAt.EqAt A.in1 s (.ref b) (.ref b') (eqbL ks ks')
     by_cases hbb:b=b'
     ·subst hbb
      have e1:=I.tuple_inj hb hb'
      subst e1
      have e2:=Trm.dataL_inj (b8e I hk hk')
      subst e2
      rw[(b8d ks ks).mpr rfl]
      exact Vu _
     ·have l1:=hk.length
      have l2:=hk'.length
      rw[Trm.dataL_map,length_map]at l1 l2
      have:=c2d I (A:=A.in1) hb hb' hbb (fun j=>match ks[j]?,ks'[j]? with|some a,some b=>eqb a b|_,_=>true) (by show A.units+1+1<cLine;omega) (fun j y y' z z' g1 g2 q1 q2=>by
       obtain⟨d,e1,d1⟩:=hk.get g1
       obtain⟨d',e2,d2⟩:=hk'.get g2
       rw[Trm.dataL_map,Yv]at e1 e2
       cases f1:ks[j]? with
       |none=>rw[f1]at e1;cases e1
       |some k1=>
        cases f2:ks'[j]? with
        |none=>rw[f2]at e2;cases e2
        |some k2=>
         rw[f1]at e1
         rw[f2]at e2
         cases e1
         cases e2
         have hs1:=d4r (Xn f1)
         simp only[Trm.size]at hz
         exact ih A.in1.in1 k1 k2 y y' z z' (by omega) (by show A.units+1+1+2*n+4<cLine;omega) d1 d2 q1 q2)
      rw[l1,l2,c4p]at this
      exact this
    |j+3,h1,h2=>simp at h1
theorem d4s(I:Inv X pins σ H s):∀(n:Nat)(A:Around)(t t':Trm)(v v':V)(u u':Value),t.size<=n->A.units+2*n+4<cLine->Den X.K H v t.data->Den X.K H v' t'.data->RelV v u->RelV v' u'->SeqAt.EqAt A s u u' (eqb t t'):=by
 intro n
 induction n with
 |zero=>
  intro A t t' v v' u u' hz
  have:=t.size_pos
  omega
 |succ n ih=>
  intro A t t' v v' u u' hz hu h h' r r'
  obtain⟨a,_,_,rfl,_⟩:=b4h h
  obtain⟨a',_,_,rfl,_⟩:=b4h h'
  obtain rfl:u=Value.ref a:=r
  obtain rfl:u'=Value.ref a':=r'
  by_cases hab:a=a'
  ·subst hab
   have e1:=Trm.data_inj (c7k I h h')
   rw[e1,c4o]
   exact Vu _
  obtain⟨us,us',hs,hs',l1,l2,it⟩:=c4q I n ih A t t' h h' hz hu
  have key:=c2d I (A:=A) hs hs' hab (eT t t') (by omega) it
  rw[l1,l2,d1q]at key
  exact key
end
section
variable{X:Cx}
def mEqT(K:Frag)(n:Bool):R2:=fun x y H Q=>∃(t t':Trm),Den K H x t.data/\Den K H y t'.data/\t.size<=70/\Q (.bl (n^^eqb t t')) H
theorem ko_eqT(K:Frag)(hK:X.K=K)(hu:X.A.units+150<cLine):OpR X (compareOp .Eq) (mEqT K false):=by
 subst hK
 intro pins s σ H x y v u Q I rx ry h
 obtain⟨t,t',h,h',hz,k⟩:=h
 obtain⟨a,_,_,rfl,_⟩:=b4h h
 obtain⟨a',_,_,rfl,_⟩:=b4h h'
 cases rx
 cases ry
 obtain⟨us,us',hs,hs',l1,l2,it⟩:=c4q I 69 (d4s I 69) X.A t t' h h' (by omega) (by omega)
 obtain⟨its,rv,p1,_⟩:=I.tuple hs
 obtain⟨its',rv',p2,_⟩:=I.tuple hs'
 have m1:=rv.length
 have m2:=rv'.length
 refine SeqAt.eq_tupleAt (e:=eT t t') (show s.heap.IsTuple a its.toArray from p1) (show s.heap.IsTuple a' its'.toArray from p2) (by omega) (fun j h1 h2=>?_) ?_
 ·have h1:j<its.length:=by simpa using h1
  have h2:j<its'.length:=by simpa using h2
  have x1:us[j]? =some us[j]:=Zc (by omega)
  have x2:us'[j]? =some us'[j]:=Zc (by omega)
  obtain⟨w1,y1,z1⟩:=rv.get x1
  obtain⟨w2,y2,z2⟩:=rv'.get x2
  have q1:its.toArray[j]=w1:=by
   have:=Zc h1
   rw[y1]at this
   simpa using(Zo this).symm
  have q2:its'.toArray[j]=w2:=by
   have:=Zc h2
   rw[y2]at this
   simpa using(Zo this).symm
  rw[q1,q2]
  exact it j _ _ _ _ x1 x2 z1 z2
 ·rw[Zh,Zh,<-m1,<-m2,l1,l2,d1q]
  rw[Zm]at k
  exact⟨.bl _,H,I,rfl,k⟩
end
section
variable{X:Cx}
def mNeKs(K:W.Frag):R2:=fun x y H Q=>∃(p:Addr)(k1:List Key),x=.ref p/\SqT K H p (k1.map kV)/\((y=.non/\Q (.bl true) H)\/∃(q:Addr)(k2:List Key),y=.ref q/\SqT K H q (k2.map kV)/\Q (.bl (!decide (k1=k2))) H)
theorem c7l(K:W.Frag)(hK:X.K=K)(hu:X.A.units+150<cLine):OpR X (compareOp .NotEq) (mNeKs K):=by
 subst hK
 intro pins s σ H x y v u Q I rx ry h
 obtain⟨p,k1,rfl,hp,h⟩:=h
 cases rx
 obtain⟨its,rv,p1,_⟩:=I.tuple hp
 rcases h with⟨rfl,k⟩|⟨q,k2,rfl,hq,k⟩
 ·cases ry
  exact SeqAt.RcNeAt.tuple_none (show s.heap.IsTuple p its.toArray from p1) (by omega) X.prog X.w _ _ ⟨.bl true,H,I,rfl,k⟩
 cases ry
 obtain⟨its',rv',p2,_⟩:=I.tuple hq
 have l1:=rv.length
 have l2:=rv'.length
 rw[length_map]at l1 l2
 refine W5 (e:=fun j=>decide (k1[j]? =k2[j]?)) (show s.heap.IsTuple p its.toArray from p1) (show s.heap.IsTuple q its'.toArray from p2) (by omega) (fun j h1 h2=>?_) X.prog X.w _ _ ?_
 ·have g1:j<its.length:=by simpa using h1
  have g2:j<its'.length:=by simpa using h2
  have j1:j<k1.length:=by omega
  have j2:j<k2.length:=by omega
  obtain⟨w1,y1,z1⟩:=rv.get (show(k1.map kV)[j]? =some (kV k1[j]) by rw[Yv,Zc j1];rfl)
  obtain⟨w2,y2,z2⟩:=rv'.get (show(k2.map kV)[j]? =some (kV k2[j]) by rw[Yv,Zc j2];rfl)
  have q1:its.toArray[j]=w1:=by
   have:=Zc g1
   rw[y1]at this
   simpa using(Zo this).symm
  have q2:its'.toArray[j]=w2:=by
   have:=Zc g2
   rw[y2]at this
   simpa using(Zo this).symm
  rw[q1,q2]
  have e0:decide (k1[j]? =k2[j]?)=decide (k1[j]=k2[j]):=by rw[Zc j1,Zc j2];exact Wb.mpr ⟨fun h=>Zo h,fun h=>by rw[h]⟩
  rw[e0]
  exact a2h z1 z2
 ·rw[Zh,Zh,<-l1,<-l2,d1g]
  exact⟨.bl _,H,I,rfl,k⟩
end
section
variable{K:W.Frag}{σ:St}{H:Hp}{Q:VK}{D:Ends}{ta tv:TE}{t:TA}{f m:Str}{C:Addr}{sp:Sp}{dvs:List V}{E:XK}
theorem tFld_i(k:ta σ H fun x H1=>∃a C dx fs v,x=.ref a/\H1 a=some (.ins C dx fs)/\Cls K C/\a2a K C f/\fs.lookup f=some v/\Q v H1):tFld K ta f σ H Q:=k
theorem sFld_i(k:tv σ H fun y H1=>ta σ H1 fun x H2=>∃a C dx fs,x=.ref a/\H2 a=some (.ins C dx fs)/\Cls K C/\a2a K C f/\fs.length<1000/\D.nx σ (upd H2 a (.ins C dx (putF f y fs)))):sFld K ta tv f D σ H:=k
theorem tMeth_i(k:ta σ H fun x H1=>∃a dx fs,x=.ref a/\H1 a=some (.ins C dx fs)/\fs.lookup m=none/\t σ H1 fun vs H2=>sp (x::(vs++dvs)) H2 Q E):tMeth C m sp dvs E ta t σ H Q:=k
theorem tMake_i(k:t σ H fun vs H1=>∀x dx,H1 x=none->H1 dx=none->dx≠x->sp (.ref x::(vs++dvs)) (upd (upd H1 dx (.own x)) x (.ins C dx [])) (fun v H2=>v=.non/\Q (.ref x) H2) E):tMake C sp dvs E t σ H Q:=k
theorem d1r{rd:V->V->Hp->VK->Prop}(k:ta σ H fun x H1=>∃a C dx fs v,x=.ref a/\H1 a=some (.ins C dx fs)/\Cls K C/\a2a K C f/\fs.lookup f=some v/\
 tv σ H1 fun y H2=>rd v y H2 fun z H3=>∃dx' fs',H3 a=some (.ins C dx' fs')/\fs'.length<1000/\D.nx σ (upd H3 a (.ins C dx' (putF f z fs')))):c6z K ta tv rd f D σ H:=k
end
section
variable{X:Cx}
def KD(P:Program)(w:World)(K:W.Frag)(a:Addr)(kvs:List (Key×V)):Prop:=∀h:Heap,K.In h->∃vs,KV kvs vs/\h.DictOf (a1l P w) a vs
def tGetK(kvs:List (Key×V))(ty:TE):TE:=fun σ H Q=>ty σ H fun y H1=>∃k v,y=kV k/\valV kvs k=some v/\Q v H1
theorem pe_getK{n:Str}{a:Addr}{kvs:List (Key×V)}{i:Expr}{ty:TE}{p pos:Pos}(D:KD X.prog X.w X.K a kvs)(hg:Gl X n)(hm:X.mg n=some (.ref a))(hi:PE X i ty)(hs:NoSl i)(hd:(n==("__debug__":Str))=false:=by decide):
  PE X (.Subscript (.Name n p) i pos) (tGetK kvs ty):=by
 intro pins s σ H Q I h
 have g:PE X (.Name n p) (tC (.ref a)):=a7v hg hm rfl hd
 refine c7b T0.lookup hs (thn (g pins s σ H (fun x H1=>x=.ref a/\ty σ H1 fun y H2=>∃k v,y=kV k/\valV kvs k=some v/\Q v H2) I ⟨rfl,h⟩) fun u s1 ⟨x,H1,I1,rx,ex,q1⟩=>thn (hi pins s1 σ H1 _ I1 q1) fun iv s2 ⟨y,H2,I2,ry,k,v,ey,g,q2⟩=>?_)
 subst ex
 obtain rfl:u=Value.ref a:=rx
 subst ey
 obtain⟨vs,rel,dd⟩:=D s2.heap (I2.mod.kin.keeps I2.bk)
 obtain⟨w',hw,rw'⟩:=RelO.some_of (v:=v) (o:=valueAt vs k) (by rw[<-g];exact rel.val k)
 exact⟨dd.typeIs,wpAny_getItem_of (b2k ry) dd.mapOf hw ⟨v,H2,I2.tok _,rw',q2⟩⟩
inductive DRow(pm:Params):List DictEntry->List (Key×V)->List (Key×Value)->Prop
 |nil:DRow pm [] [] []
 |cons {x:Str} {t:Tok} {v:V} {u:Value} {es:List DictEntry} {kvs:List (Key×V)} {vs:List (Key×Value)}:RelV v u->DRow pm es kvs vs->DRow pm (⟨keyHash pm x,.str x t,u⟩::es) ((Sum.inr x,v)::kvs) ((Sum.inr x,u)::vs)
theorem DRow.facts{P:Program}{w:World}{es:List DictEntry}{kvs:List (Key×V)}{vs:List (Key×Value)}(d:DRow w.params es kvs vs):KV kvs vs/\(∀e∈es,∃k,(a1l P w).is k e.key=true/\e.hash=(a1l P w).hash k)/\Pairs (a1l P w) es vs/\vs.map (·.1)=kvs.map (·.1):=by
 induction d with
 |nil=>exact⟨.nil,fun e he=>by simp at he,.nil,rfl⟩
 | @cons x t v u es kvs vs r d ih=>
  obtain⟨h1,h2,h3,h4⟩:=ih
  refine⟨.cons ⟨rfl,r⟩ h1,fun e he=>?_,.cons (b5k x t) rfl h3,by rw[Zp,Zp,h4]⟩
  rcases Zk.mp he with z|z
  ·subst z
   exact⟨Sum.inr x,b5k x t,rfl⟩
  ·exact h2 e z
theorem kd_of{P:Program}{w:World}{K:W.Frag}{a:Addr}{es:List DictEntry}{n:Nat}{kvs:List (Key×V)}{vs:List (Key×Value)}(h:K.lookup a=some ⟨.type "dict",none,.dict es.toArray n,#[]⟩)(d:DRow w.params es kvs vs)(hn:(kvs.map (·.1)).Nodup):KD P w K a kvs:=fun hp hi=>by
 obtain⟨h1,h2,h3,h4⟩:=d.facts (P:=P)
 exact⟨vs,h1,_,_,_,hi a _ h,⟨rfl,rfl,rfl⟩,rfl,fun e he=>h2 e (by simpa using he),by simpa using h3,by rw[h4];exact hn⟩
end
def ItD(lo:Int)(n:Nat):It:=⟨fun i _=>i<n,fun i H x H'=>H'=H/\x=.int (lo-i),fun i _=>n<=i⟩
open PySem PySem.Spec PyProof.Rows PySem.W PySem.NumText PySem.Calls
section
variable{X:Cx}
theorem d1s{m:Nat}(hl:(ofString (toString ((m:Nat):Int))).length<=640):PySem.intText? (ofString (toString ((m:Nat):Int)))=some ((m:Nat):Int):=by
 have hd:AllDigits (ofString (toString ((m:Nat):Int))).cps.toList:=by
  intro c hc
  rw[KIN.signs_num]at hc
  obtain⟨ch,hch,e⟩:=Yx.mp hc
  have r:=digit_range (Nat.isDigit_of_mem_toDigits (by decide) (by decide) hch)
  rw[<-e]
  exact r
 have hne:(ofString (toString ((m:Nat):Int))).cps.toList≠[]:=by
  rw[KIN.signs_num]
  intro e
  have h:=toDigits_len_ge 10 m
  rw[List.map_eq_nil_iff.mp e]at h
  exact absurd h (by decide)
 have e:=intText_digits hd hne (Ym hl (by decide))
 rw[KIN.signs_num,KIN.val_back]at e
 exact e
def mIntB:List V->Hp->VK->Prop:=fun xs H Q=>∃n:Nat,xs=[.str (ofString (toString (n:Int)))]/\(ofString (toString (n:Int))).length<=640/\Q (.int (n:Int)) H
theorem c7m:a5c X (.type "int") mIntB:=by
 intro pins s σ H xs us Q I r h
 obtain⟨n,rfl,h0,q⟩:=h
 obtain⟨u,rfl,r1⟩:=vals1 r
 obtain⟨t,rfl⟩:=r1
 exact KIN.call_text (d1s h0) h0 ⟨.int n,H,I.tok _,⟨_,rfl⟩,q⟩
end
theorem su0{us:List Value}{P:List Value->Prop}(hl:us.length=0)(h:P []):P us:=by cases us with|nil=>exact h|cons a r=>cases hl
theorem su1{us:List Value}{P:List Value->Prop}(hl:us.length=1)(h:∀a,P [a]):P us:=by cases us with|nil=>cases hl|cons a r=>exact su0 (P:=fun r=>P (a::r)) (Uf hl) (h a)
theorem su2{us:List Value}{P:List Value->Prop}(hl:us.length=2)(h:∀a b,P [a,b]):P us:=by cases us with|nil=>cases hl|cons a r=>exact su1 (P:=fun r=>P (a::r)) (Uf hl) (h a)
theorem su3{us:List Value}{P:List Value->Prop}(hl:us.length=3)(h:∀a b c,P [a,b,c]):P us:=by cases us with|nil=>cases hl|cons a r=>exact su2 (P:=fun r=>P (a::r)) (Uf hl) (h a)
theorem su4{us:List Value}{P:List Value->Prop}(hl:us.length=4)(h:∀a b c d,P [a,b,c,d]):P us:=by cases us with|nil=>cases hl|cons a r=>exact su3 (P:=fun r=>P (a::r)) (Uf hl) (h a)
section
variable{K:Frag}{fd:FuncData}{a b c d e f:Str}
theorem bi1(h:∀x,bindArgs fd ⟨[x],[]⟩=pure [(a,x)]):Binds K fd [a] []:=.all fun us hl=>su1 (P:=fun us=>bindArgs fd ⟨us,[]⟩=pure (([a]:List Str).zip us)) hl h
theorem bi2(h:∀x y,bindArgs fd ⟨[x,y],[]⟩=pure [(a,x),(b,y)]):Binds K fd [a,b] []:=.all fun us hl=>su2 (P:=fun us=>bindArgs fd ⟨us,[]⟩=pure (([a,b]:List Str).zip us)) hl h
theorem bi3(h:∀x y z,bindArgs fd ⟨[x,y,z],[]⟩=pure [(a,x),(b,y),(c,z)]):Binds K fd [a,b,c] []:=.all fun us hl=>su3 (P:=fun us=>bindArgs fd ⟨us,[]⟩=pure (([a,b,c]:List Str).zip us)) hl h
theorem bi4(h:∀x y z u,bindArgs fd ⟨[x,y,z,u],[]⟩=pure [(a,x),(b,y),(c,z),(d,u)]):Binds K fd [a,b,c,d] []:=.all fun us hl=>su4 (P:=fun us=>bindArgs fd ⟨us,[]⟩=pure (([a,b,c,d]:List Str).zip us)) hl h
end
section
variable{K:Frag}
theorem na_of{C:Addr}{x:Str}(h:findIn K (.ref C) x=some none):a2a K C x:=h
theorem xc_of{nm q:Str}{C N:Addr}{bs bm:List Value}{sn:List Str}{sub:List Value}{ab:Bool}{col:Option Bool}{dd:Option Addr}{k0 k1 k2 k3 k5:Option Value}(h:K.lookup C=some (excClassObj nm q C N bs bm true sn sub ab col dd k0 k1 k2 k3 k5 newS))(h1:bm.contains (.type "ValueError")=true)(h2:bm.contains (.type "BaseException")=true)(h3:bm.contains (.type "AttributeError")=false)(h4:bm.contains (.type "NameError")=false):XCls K C bm:=⟨⟨_,_,_,_,_,_,_,_,_,_,_,_,_,_,h⟩,h1,h2,h3,h4⟩
theorem is_fn{f:Addr}(h:typeIn K (.ref f)=some (.type "function")):isFn K (.ref f)=true:=Vn.mpr h
theorem sq_of{c:Addr}{od:Option Addr}{its:List Value}{n:Nat}{sl:Array (Option Value)}{xs:List V}(h:K.lookup c=some ⟨.type "tuple",od,.seq its.toArray n,sl⟩)(hl:its.length<=1000)(r:Vals xs its)(H:Hp):SqT K H c xs:=.inr ⟨_,_,_,h,rfl,rfl,ln (by show its.toArray.size<=100000;rw[Zh];omega),r⟩
end
section
variable{K:Frag}{fd:FuncData}{a b c:Str}{v:Addr}{od:Option Addr}{n:Nat}{sl:Array (Option Value)}{its:Array Value}{d:Value}
theorem bd3(h:K.lookup v=some ⟨.type "tuple",od,.seq its n,sl⟩)(hd:fd.defaults=.ref v)(h1:∀x y z,∃k:Option (Array Value)->Sem (List (Str×Value)),bindArgs fd ⟨[x,y,z],[]⟩=seqItems? fd.defaults>>=k/\k (some its)=pure [(a,x),(b,y),(c,z)]):Binds K fd [a,b,c] []:=fun s us KX hl=>by
 rw[Yo]at hl ⊢
 exact su3 (P:=fun us=>BindsTo s fd ⟨us,[]⟩ ([a,b,c].zip us)) hl fun x y z=>by
  obtain⟨k,e1,e2⟩:=h1 x y z
  exact .of_defaults (T:=v) hd (KX _ _ h) rfl e1 e2
theorem bd2(h:K.lookup v=some ⟨.type "tuple",od,.seq its n,sl⟩)(hd:fd.defaults=.ref v)(h1:∀x y,∃k:Option (Array Value)->Sem (List (Str×Value)),bindArgs fd ⟨[x,y],[]⟩=seqItems? fd.defaults>>=k/\k (some its)=pure [(a,x),(b,y),(c,d)]):Binds K fd [a,b,c] [d]:=fun s us KX hl=>by
 exact su2 (P:=fun us=>BindsTo s fd ⟨us,[]⟩ ([a,b,c].zip (us++[d]))) (by simpa using hl) fun x y=>by
  obtain⟨k,e1,e2⟩:=h1 x y
  exact .of_defaults (T:=v) hd (KX _ _ h) rfl e1 e2
end
section
variable{X:Cx}{pos:Pos}{e:Expr}{te:TE}
def sho(y:Str):Prop:=(∀c∈y.cps.toList,c<16^8)/\y.length<=1000
def tFrT(K:Frag)(te:TE):TE:=fun σ H Q=>te σ H fun x H1=>∃(b:Addr)(y1 y2:Str),x=.ref b/\SqT K H1 b [.str y1,.str y2]/\sho y1/\sho y2/\∀z:Str,Q (.str z) H1
theorem pe_frT{a:Str}{j1 p1 p2}(K:Frag)(hK:X.K=K)(hgd:X.A.guards=some [])(hu:X.A.units+150<cLine)(he:PE X e te)(ha:a.length<=1000:=by decide+kernel):PE X (.JoinedStr [.Constant (.str a) j1 p1,.FormattedValue e 114 none p2] pos) (tFrT K te):=by
 intro pins s σ H Q I h
 have z9:100000<=sizeLine:=by decide
 have hz:∀{x:Str},x.length<=sizeLine->(Str.empty++x).length<=sizeLine:=fun{x} q=>by rw[Z5];show 0+x.length<=_;omega
 have ea:∀x:Str,Str.empty++x=x:=fun x=>by apply Vx;show(#[]:Array Nat)++x.cps=x.cps;simp
 refine Wq (Yt (Y0 ?_))
 refine⟨hz (by omega),Yt (Uy (thn (he pins _ σ H _ (I.tok _) h) fun v s1 ⟨x,H1,I1,r1,q1⟩=>?_))⟩
 obtain⟨b,y1,y2,rfl,sq,h1,h2,q⟩:=q1
 obtain rfl:v=Value.ref b:=r1
 subst hK
 obtain⟨its,vs,tp,_⟩:=I1.tuple sq
 obtain⟨u1,u2,rfl,⟨t1,rfl⟩,⟨t2,rfl⟩⟩:=vals2 vs
 have l1:=Vc y1 h1.1
 have l2:=Vc y2 h2.1
 have b1:=h1.2
 have b2:=h2.2
 obtain⟨o,ho,hc,n,hd⟩:=tp
 have ht:(tupleText [reprText y1,reprText y2]).length<=90000:=by
  unfold tupleText
  rw[Z5,Z5]
  have:=join_length_add [reprText y1,reprText y2] (by simp)
  simp only[piled]at this
  have e1:(("(":String):Str).length=1:=rfl
  have e2:((if([reprText y1,reprText y2]:List Str).length==1 then ",)" else ")":String):Str).length=1:=rfl
  rw[e1,e2]
  simp at this
  omega
 refine wpAny_pyReprObj_tuple (g:=[]) ⟨o,ho,hc⟩ hgd (fun _ z=>by cases z) (by omega) ho hd (.cons (.str y1 t1 (by omega)) (.cons (.str y2 t2 (by omega)) .nil)) (fun u tk=>?_) (by omega)
 generalize tupleText [reprText y1,reprText y2]=y' at ht ⊢
 refine W2 (fun t' tk=>?_) (by omega)
 rw[ea]
 refine⟨by rw[Z5];omega,Wv ?_ (by rw[Z5];omega)⟩
 exact⟨.str (a++y'),H1,((I1.tok _).tok _).tok _,⟨_,rfl⟩,q _⟩
theorem tFrT_i{K:Frag}{σ:St}{H:Hp}{Q:VK}(k:te σ H fun x H1=>∃(b:Addr)(y1 y2:Str),x=.ref b/\SqT K H1 b [.str y1,.str y2]/\sho y1/\sho y2/\∀z:Str,Q (.str z) H1):tFrT K te σ H Q:=k
end
section
variable{X:Cx}{pos:Pos}{e:Expr}{te:TE}
def tFT(te:TE):TE:=fun σ H Q=>te σ H fun x H1=>∃y,x=.str y/\y.length<=5000/\∀z:Str,Q (.str z) H1
theorem pe_fT{b:Str}{j2 p2 p3}(he:PE X e te)(hb:b.length<=1000:=by decide+kernel):PE X (.JoinedStr [.FormattedValue e (-1) none p2,.Constant (.str b) j2 p3] pos) (tFT te):=by
 intro pins s σ H Q I h
 have z9:100000<=sizeLine:=by decide
 have ea:∀x:Str,Str.empty++x=x:=fun x=>by apply Vx;show(#[]:Array Nat)++x.cps=x.cps;simp
 refine Wq (Yt (W0 (thn (he pins _ σ H _ I h) fun v s1 ⟨x,H1,I1,r1,q1⟩=>?_)))
 obtain⟨y,rfl,hy,q⟩:=q1
 obtain⟨t,rfl⟩:=r1
 refine W2 (fun t' tk=>?_) (by omega)
 have hz:(Str.empty++y).length<=sizeLine:=by rw[ea];omega
 refine⟨hz,?_⟩
 rw[ea]
 show wpAny _ _ (joinParts y [eval (.Constant (.str b) j2 p3) X.env]) _ _ _
 refine Yt (Y0 ⟨by rw[Z5];omega,Wv ?_ (by rw[Z5];omega)⟩)
 exact⟨.str (y++b),H1,((I1.tok _).tok _).tok _,⟨_,rfl⟩,q _⟩
theorem tFT_i{σ:St}{H:Hp}{Q:VK}(k:te σ H fun x H1=>∃y,x=.str y/\y.length<=5000/\∀z:Str,Q (.str z) H1):tFT te σ H Q:=k
end
section
variable{X:Cx}
def mEqTN(K:Frag):R2:=fun x y H Q=>mEqT K false x y H Q\/∃(q:Addr)(us:List V),x=.non/\y=.ref q/\SqT K H q us/\Q (.bl false) H
theorem c7n(K:Frag)(hK:X.K=K)(hu:X.A.units+150<cLine):OpR X (compareOp .Eq) (mEqTN K):=by
 intro pins s σ H x y v u Q I rx ry h
 rcases h with h|⟨q,us,rfl,rfl,hq,k⟩
 ·exact ko_eqT K hK hu pins s σ H x y v u Q I rx ry h
 subst hK
 cases rx
 cases ry
 obtain⟨its,rv,p1,_⟩:=I.tuple hq
 exact SeqAt.RcAt.none_tuple (show s.heap.IsTuple q its.toArray from p1) (by omega) X.prog X.w _ _ ⟨.bl false,H,I,rfl,k⟩
end
end L2
namespace My
open PySem PySem.Spec PyProof.Rows L2
local macro_rules | `(tactic| walk_at "r") => `(tactic| first | decide | exact Zb _ | exact Nat.le_add_left_of_le (by decide) | omega)
local macro_rules | `(tactic| walk_at "or1") => `(tactic| first | exact Or.inl rfl | exact Or.inr rfl)
local macro_rules | `(tactic| walk_at "q") => `(tactic| first | refine tAsg_i ?_ | refine gName_i ?_ | refine tRet_i ?_ | refine tIfS_i ?_ | refine tNext_i ?_ | refine tDrop_i ?_ | refine mTest_i ?_ | refine mTrue_i ?_ | refine mTru_b ?_ | refine mB_i ?_ | refine tOp_i ?_ | refine tUn_i ?_ | refine mUn_i ?_ | refine m20_i ?_ | refine mAdd_i ?_ | refine mEq_i ?_ | refine mEq_s ?_ | refine mInS_i ?_ | (refine' mVar_i ?hv ?_; (case hv => with_unfolding_all rfl)) | refine tC_i ?_ | refine d4c ?_ | refine mAndV_i ?_ | refine mOrV_i ?_ | refine tIf_i ?_ | refine tAnd_i ?_ | refine tOr_i ?_ | refine tNot_i ?_ | refine tCB_i ?_ | refine d4d ?_ | refine tCons_i ?_ | refine tNil_i ?_ | refine tBM_i ?_ | refine tBM0_i ?_ | refine tTup_i ?_ | refine tLst_i ?_ | refine tSl_i ?_ | refine d0x ?_ | refine mPart_i ?_ | refine mI_i ?_ | refine is_str ?_ | refine mMin_i ?_ | refine tDGet_i ?_ | refine d4g ?_ | refine sDPut_i ?_ | refine tDisp_i ?_ | refine d4h ?_ | refine d4i ?_ | refine iRng2_i ?_ | refine iRev_i ?_ | refine d1i ?_ | refine d4e ?_ | (refine' mAug_i ?hw ?_; (case hw => with_unfolding_all rfl)) | refine mIAdd_i ?_ | refine tFor_i ?_ | refine d4n ?_ | refine d4o ?_ | refine tTry_i ?_ | refine d4p ?_ | refine tXSet_i ?_ | refine tF3i_i ?_ | refine tMeth_i ?_ | refine tFld_i ?_ | refine sFld_i ?_ | refine d1r ?_ | refine tMake_i ?_ | refine tFrT_i ?_ | refine tFT_i ?_ | refine tFr_i ?_ | refine tF2_i ?_ | refine d1i ?_ | refine iStr_i ?_ | refine iList_i ?_ | refine iRng1_i ?_ | refine tComp_i ?_ | (refine m2_i ?hc ?_; (case hc => first | (show (0 : Int) < _; decide) | exact cdiv_i (by decide) (by decide))))
local macro_rules | `(tactic| walk_at "s") => `(tactic| repeat (with_reducible first | refine c4e ?_ | walk_at "q"))
local macro_rules | `(tactic| walk_at "A") => `(tactic| (walk_at "s"; refine iteF ?_; walk_at "s"))
local macro_rules | `(tactic| walk_at "B") => `(tactic| (walk_at "s"; refine iteT ?_; walk_at "s"))
local macro_rules | `(tactic| walk_at "C") => `(tactic| (refine iteF ?_; walk_at "s"))
local macro_rules | `(tactic| walk_at "D") => `(tactic| (refine iteT ?_; walk_at "s"))
local macro_rules | `(tactic| walk_at "m") => `(tactic| repeat (with_reducible walk_at "q"))
noncomputable def top(i:Nat):Stmt:=PySem.Challenge.pw_goaltrail_k10_no_bracket_too_many.main.body.getD i (.Pass ⟨0,0,0,0⟩)
abbrev a4b:Stmt:=inClass (top 33) 0
abbrev b1r:Stmt:=inClass (top 51) 0
abbrev a8u:Stmt:=inClass (top 52) 0
abbrev a8v:Stmt:=inClass (top 52) 1
abbrev a8w:Stmt:=inClass (top 52) 2
abbrev a6a:Stmt:=inClass (top 52) 3
abbrev a4z:Stmt:=inClass (top 52) 4
abbrev a8j:Stmt:=inClass (top 52) 5
abbrev a5l:Stmt:=inClass (top 52) 6
abbrev a5a:Stmt:=inClass (top 52) 7
abbrev a5b:Stmt:=inClass (top 52) 8
abbrev a6m:Stmt:=inClass (top 52) 11
abbrev s_num:Stmt:=top 11
abbrev b5w:Stmt:=top 12
abbrev s_a5:Stmt:=top 13
abbrev b5x:Stmt:=top 14
abbrev b4j:Stmt:=top 15
abbrev b5y:Stmt:=top 16
abbrev c0q:Stmt:=top 17
abbrev b4k:Stmt:=top 18
abbrev a9k:Stmt:=top 19
abbrev b5z:Stmt:=top 20
abbrev b6a:Stmt:=top 21
abbrev c0r:Stmt:=top 23
abbrev b8f:Stmt:=top 24
abbrev a8x:Stmt:=top 25
abbrev b8g:Stmt:=top 26
abbrev b0d:Stmt:=top 27
abbrev b0e:Stmt:=top 28
abbrev b0f:Stmt:=top 29
abbrev b8h:Stmt:=top 30
abbrev b6b:Stmt:=top 31
abbrev b8i:Stmt:=top 39
abbrev b4l:Stmt:=top 40
abbrev b4m:Stmt:=top 41
abbrev b3g:Stmt:=top 42
abbrev b1s:Stmt:=top 43
abbrev b0g:Stmt:=top 44
abbrev a5m:Stmt:=top 45
abbrev a9l:Stmt:=top 46
abbrev a8y:Stmt:=top 53
abbrev a8z:Stmt:=top 54
abbrev b3h:Stmt:=top 55
abbrev b4n:Stmt:=top 56
abbrev b4o:Stmt:=top 57
abbrev b0h:Stmt:=top 58
abbrev b3i:Stmt:=top 59
abbrev b8j:Stmt:=top 60
abbrev b8k:Stmt:=top 61
abbrev c4r:Stmt:=top 62
abbrev b3j:Stmt:=top 64
abbrev b4p:Stmt:=top 65
abbrev b2n:Stmt:=top 66
abbrev b4q:Stmt:=top 67
abbrev b3k:Stmt:=top 68
abbrev b8l:Stmt:=top 69
abbrev b6c:Stmt:=top 70
abbrev b8m:Stmt:=top 71
abbrev b8n:Stmt:=top 72
abbrev b8o:Stmt:=top 73
abbrev b6d:Stmt:=top 74
abbrev b0i:Stmt:=top 75
abbrev b6e:Stmt:=top 76
abbrev b8p:Stmt:=top 77
abbrev s_law:Stmt:=top 78
theorem b6f:a0o ["self","words","row"] ["self","words","row"] (a0h a4b):=⟨rfl,rfl,rfl,by decide+kernel,rfl,by decide+kernel,by decide+kernel⟩
theorem c2q:a0o ["self","kind","word"] ["self","kind","word"] (a0h b1r):=⟨rfl,rfl,rfl,by decide+kernel,rfl,by decide+kernel,by decide+kernel⟩
theorem b9n:a0o ["self","row","signs"] ["self","row","signs"] (a0h a8u):=⟨rfl,rfl,rfl,by decide+kernel,rfl,by decide+kernel,by decide+kernel⟩
theorem b2o:a0o ["self","ahead","place"] ["self","ahead"] (a0h a8v):=⟨rfl,rfl,rfl,by decide+kernel,rfl,by decide+kernel,by decide+kernel⟩
theorem b9o:a0o ["self","text"] ["self","text"] (a0h a8w):=⟨rfl,rfl,rfl,by decide+kernel,rfl,by decide+kernel,by decide+kernel⟩
theorem a4d:a0o ["self","going","whole"] ["self"] (a0h a6a):=⟨rfl,rfl,rfl,by decide+kernel,rfl,by decide+kernel,by decide+kernel⟩
theorem a3e:a0o ["self","going","behind"] ["self"] (a0h a4z):=⟨rfl,rfl,rfl,by decide+kernel,rfl,by decide+kernel,by decide+kernel⟩
theorem b8q:a0o ["self","kind","word","long"] ["self","kind","word","long"] (a0h a8j):=⟨rfl,rfl,rfl,by decide+kernel,rfl,by decide+kernel,by decide+kernel⟩
theorem a8a:a0o ["self","sides"] ["self"] (a0h a5l):=⟨rfl,rfl,rfl,by decide+kernel,rfl,by decide+kernel,by decide+kernel⟩
theorem a7l:a0o ["self","level"] ["self"] (a0h a5a):=⟨rfl,rfl,rfl,by decide+kernel,rfl,by decide+kernel,by decide+kernel⟩
theorem a4s:a0o ["self","level","piece"] ["self"] (a0h a5b):=⟨rfl,rfl,rfl,by decide+kernel,rfl,by decide+kernel,by decide+kernel⟩
theorem b5i:a0o ["self"] ["self"] (a0h a6m):=⟨rfl,rfl,rfl,by decide+kernel,rfl,by decide+kernel,by decide+kernel⟩
theorem sc_c2:a0o ["n"] ["n"] (a0h s_num):=⟨rfl,rfl,rfl,by decide+kernel,rfl,by decide+kernel,by decide+kernel⟩
theorem c8r:a0o ["name"] ["name"] (a0h b5w):=⟨rfl,rfl,rfl,by decide+kernel,rfl,by decide+kernel,by decide+kernel⟩
theorem sc_a5:a0o ["sign","kids"] ["sign","kids"] (a0h s_a5):=⟨rfl,rfl,rfl,by decide+kernel,rfl,by decide+kernel,by decide+kernel⟩
theorem c8s:a0o ["term"] ["term"] (a0h b5x):=⟨rfl,rfl,rfl,by decide+kernel,rfl,by decide+kernel,by decide+kernel⟩
theorem a9m:a0o ["term","things","rest"] ["term"] (a0h b4j):=⟨rfl,rfl,rfl,by decide+kernel,rfl,by decide+kernel,by decide+kernel⟩
theorem b0m:a0o ["things","rest","term","thing"] ["things","rest"] (a0h b5y):=⟨rfl,rfl,rfl,by decide+kernel,rfl,by decide+kernel,by decide+kernel⟩
theorem b1t:a0o ["term","count","todo","part"] ["term"] (a0h c0q):=⟨rfl,rfl,rfl,by decide+kernel,rfl,by decide+kernel,by decide+kernel⟩
theorem c6j:a0o ["sign"] ["sign"] (a0h b4k):=⟨rfl,rfl,rfl,by decide+kernel,rfl,by decide+kernel,by decide+kernel⟩
theorem c4s:a0o ["text","firsts"] ["text","firsts"] (a0h a9k):=⟨rfl,rfl,rfl,by decide+kernel,rfl,by decide+kernel,by decide+kernel⟩
theorem c8t:a0o ["text"] ["text"] (a0h b5z):=⟨rfl,rfl,rfl,by decide+kernel,rfl,by decide+kernel,by decide+kernel⟩
theorem c8u:a0o ["text"] ["text"] (a0h b6a):=⟨rfl,rfl,rfl,by decide+kernel,rfl,by decide+kernel,by decide+kernel⟩
theorem b1u:a0o ["term","signs","texts","todo","thing","row"] ["term","signs"] (a0h c0r):=⟨rfl,rfl,rfl,by decide+kernel,rfl,by decide+kernel,by decide+kernel⟩
theorem d1t:a0o ["term","signs"] ["term","signs"] (a0h b8f):=⟨rfl,rfl,rfl,by decide+kernel,rfl,by decide+kernel,by decide+kernel⟩
theorem b9p:a0o ["n"] ["n"] (a0h a8x):=⟨rfl,rfl,rfl,by decide+kernel,rfl,by decide+kernel,by decide+kernel⟩
theorem b6g:a0o ["terms","row","term"] ["terms"] (a0h b8g):=⟨rfl,rfl,rfl,by decide+kernel,rfl,by decide+kernel,by decide+kernel⟩
theorem a9a:a0o ["term","found","row"] ["term"] (a0h b0d):=⟨rfl,rfl,rfl,by decide+kernel,rfl,by decide+kernel,by decide+kernel⟩
theorem c0s:a0o ["term"] ["term"] (a0h b0e):=⟨rfl,rfl,rfl,by decide+kernel,rfl,by decide+kernel,by decide+kernel⟩
theorem a7b:a0o ["term","signs","mark","left","right"] ["term","signs"] (a0h b0f):=⟨rfl,rfl,rfl,by decide+kernel,rfl,by decide+kernel,by decide+kernel⟩
theorem c2e:a0o ["kid","told","side","signs","rank"] ["kid","told","side","signs"] (a0h b8h):=⟨rfl,rfl,rfl,by decide+kernel,rfl,by decide+kernel,by decide+kernel⟩
theorem c8v:a0o ["term","signs"] ["term","signs"] (a0h b6b):=⟨rfl,rfl,rfl,by decide+kernel,rfl,by decide+kernel,by decide+kernel⟩
theorem a8b:a0o ["text","row","at","piece"] ["text"] (a0h b8i):=⟨rfl,rfl,rfl,by decide+kernel,rfl,by decide+kernel,by decide+kernel⟩
theorem b7p:a0o ["text","at","first"] ["text","at"] (a0h b4l):=⟨rfl,rfl,rfl,by decide+kernel,rfl,by decide+kernel,by decide+kernel⟩
theorem b3l:a0o ["text","at","end"] ["text","at"] (a0h b4m):=⟨rfl,rfl,rfl,by decide+kernel,rfl,by decide+kernel,by decide+kernel⟩
theorem b1v:a0o ["text","at","end"] ["text","at"] (a0h b3g):=⟨rfl,rfl,rfl,by decide+kernel,rfl,by decide+kernel,by decide+kernel⟩
theorem c2r:a0o ["run"] ["run"] (a0h b1s):=⟨rfl,rfl,rfl,by decide+kernel,rfl,by decide+kernel,by decide+kernel⟩
theorem c0t:a0o ["run"] ["run"] (a0h b0g):=⟨rfl,rfl,rfl,by decide+kernel,rfl,by decide+kernel,by decide+kernel⟩
theorem b3t:a0o ["run"] ["run"] (a0h a5m):=⟨rfl,rfl,rfl,by decide+kernel,rfl,by decide+kernel,by decide+kernel⟩
theorem c4t:a0o ["run"] ["run"] (a0h a9l):=⟨rfl,rfl,rfl,by decide+kernel,rfl,by decide+kernel,by decide+kernel⟩
theorem b9q:a0o ["text"] ["text"] (a0h a8y):=⟨rfl,rfl,rfl,by decide+kernel,rfl,by decide+kernel,by decide+kernel⟩
theorem b9r:a0o ["text"] ["text"] (a0h a8z):=⟨rfl,rfl,rfl,by decide+kernel,rfl,by decide+kernel,by decide+kernel⟩
theorem c4u:a0o ["text"] ["text"] (a0h b3h):=⟨rfl,rfl,rfl,by decide+kernel,rfl,by decide+kernel,by decide+kernel⟩
theorem c6k:a0o ["piece"] ["piece"] (a0h b4n):=⟨rfl,rfl,rfl,by decide+kernel,rfl,by decide+kernel,by decide+kernel⟩
theorem c6l:a0o ["level","mark","signs"] ["level","mark","signs"] (a0h b4o):=⟨rfl,rfl,rfl,by decide+kernel,rfl,by decide+kernel,by decide+kernel⟩
theorem c0u:a0o ["earlier","later"] ["earlier","later"] (a0h b0h):=⟨rfl,rfl,rfl,by decide+kernel,rfl,by decide+kernel,by decide+kernel⟩
theorem b1w:a0o ["level","right","left"] ["level"] (a0h b3i):=⟨rfl,rfl,rfl,by decide+kernel,rfl,by decide+kernel,by decide+kernel⟩
theorem d1u:a0o ["level"] ["level"] (a0h b8j):=⟨rfl,rfl,rfl,by decide+kernel,rfl,by decide+kernel,by decide+kernel⟩
theorem d1v:a0o ["level"] ["level"] (a0h b8k):=⟨rfl,rfl,rfl,by decide+kernel,rfl,by decide+kernel,by decide+kernel⟩
theorem c0v:a0o ["text","signs","reading","term"] ["text","signs"] (a0h c4r):=⟨rfl,rfl,rfl,by decide+kernel,rfl,by decide+kernel,by decide+kernel⟩
theorem c4v:a0o ["_law_script","_law_k"] ["_law_script","_law_k"] (a0h b3j):=⟨rfl,rfl,rfl,by decide+kernel,rfl,by decide+kernel,by decide+kernel⟩
theorem a7p:a0o ["_law_cell","_law_many","_law_found","_law_number_here","_law_k"] ["_law_cell","_law_many"] (a0h b4p):=⟨rfl,rfl,rfl,by decide+kernel,rfl,by decide+kernel,by decide+kernel⟩
theorem c8w:a0o ["_law_script","_law_at","_law_many"] ["_law_script","_law_at","_law_many"] (a0h b2n):=⟨rfl,rfl,rfl,by decide+kernel,rfl,by decide+kernel,by decide+kernel⟩
theorem b7q:a0o ["_law_cell","_law_number_here"] ["_law_cell"] (a0h b4q):=⟨rfl,rfl,rfl,by decide+kernel,rfl,by decide+kernel,by decide+kernel⟩
theorem a4o:a0o ["_law_cell","_law_heads","_law_some","_law_text","_law_number_here","_law_k"] ["_law_cell","_law_heads"] (a0h b3k):=⟨rfl,rfl,rfl,by decide+kernel,rfl,by decide+kernel,by decide+kernel⟩
theorem b2p:a0o ["_law_cell","_law_some","_law_text"] ["_law_cell"] (a0h b8l):=⟨rfl,rfl,rfl,by decide+kernel,rfl,by decide+kernel,by decide+kernel⟩
theorem a5n:a0o ["_law_cell","_law_many","_law_table_here","_law_sides","_law_number_here","_law_mark_here","_law_rank","_law_side"] ["_law_cell","_law_many"] (a0h b6c):=⟨rfl,rfl,rfl,by decide+kernel,rfl,by decide+kernel,by decide+kernel⟩
theorem c2f:a0o ["_law_cell","_law_way"] ["_law_cell"] (a0h b8m):=⟨rfl,rfl,rfl,by decide+kernel,rfl,by decide+kernel,by decide+kernel⟩
theorem c2g:a0o ["_law_table_here","_law_cell","_law_names"] ["_law_table_here","_law_cell"] (a0h b8n):=⟨rfl,rfl,rfl,by decide+kernel,rfl,by decide+kernel,by decide+kernel⟩
theorem d1w:a0o ["_law_cell","_law_many","_law_marks"] ["_law_cell","_law_many","_law_marks"] (a0h b8o):=⟨rfl,rfl,rfl,by decide+kernel,rfl,by decide+kernel,by decide+kernel⟩
theorem a3n:a0o ["_law_cells_here","_law_marks","_law_turn","_law_held","_law_cell","_law_rest","_law_many","_law_kids","_law_mark_here"] ["_law_cells_here","_law_marks","_law_turn"] (a0h b6d):=⟨rfl,rfl,rfl,by decide+kernel,rfl,by decide+kernel,by decide+kernel⟩
theorem a5h:a0o ["_law_text","_law_at","_law_deep","_law_k"] ["_law_text","_law_at"] (a0h b0i):=⟨rfl,rfl,rfl,by decide+kernel,rfl,by decide+kernel,by decide+kernel⟩
theorem b4r:a0o ["_law_text","_law_found","_law_k"] ["_law_text"] (a0h b6e):=⟨rfl,rfl,rfl,by decide+kernel,rfl,by decide+kernel,by decide+kernel⟩
theorem b2q:a0o ["_law_text","_law_table_here","_law_found"] ["_law_text","_law_table_here"] (a0h b8p):=⟨rfl,rfl,rfl,by decide+kernel,rfl,by decide+kernel,by decide+kernel⟩
theorem a7q:a0o ["_law_script","_law_table_here","_law_turn","_law_term","_law_text","_law_spots_here","_law_k","_law_at","_law_end","_law_less"] ["_law_script"] (a0h s_law):=⟨rfl,rfl,rfl,by decide+kernel,rfl,by decide+kernel,by decide+kernel⟩
set_option genInjectivity false in
structure Ad where
 k_g9:Addr
 k_a0:Addr
 k_a1:Addr
 k_a2:Addr
 a_a3:Addr
 d_a3:FuncData
 v_a3:Addr
 w_a3_0:Tok
 a_c5:Addr
 d_c5:FuncData
 a_g8:Addr
 d_g8:FuncData
 a_a4:Addr
 d_a4:FuncData
 a_a7:Addr
 d_a7:FuncData
 a_g5:Addr
 d_g5:FuncData
 a_g6:Addr
 d_g6:FuncData
 a_b8:Addr
 d_b8:FuncData
 a_g3:Addr
 d_g3:FuncData
 a_g2:Addr
 d_g2:FuncData
 a_g4:Addr
 d_g4:FuncData
 a_g7:Addr
 d_g7:FuncData
 a_c2:Addr
 d_c2:FuncData
 a_e6:Addr
 d_e6:FuncData
 a_a5:Addr
 d_a5:FuncData
 a_b3:Addr
 d_b3:FuncData
 a_e9:Addr
 d_e9:FuncData
 a_b9:Addr
 d_b9:FuncData
 a_g0:Addr
 d_g0:FuncData
 a_a9:Addr
 d_a9:FuncData
 a_b4:Addr
 d_b4:FuncData
 a_f6:Addr
 d_f6:FuncData
 a_f1:Addr
 d_f1:FuncData
 a_d9:Addr
 d_d9:FuncData
 a_e4:Addr
 d_e4:FuncData
 a_e2:Addr
 d_e2:FuncData
 a_b1:Addr
 d_b1:FuncData
 a_f7:Addr
 d_f7:FuncData
 a_e0:Addr
 d_e0:FuncData
 a_d8:Addr
 d_d8:FuncData
 a_c1:Addr
 d_c1:FuncData
 a_f5:Addr
 d_f5:FuncData
 a_g1:Addr
 d_g1:FuncData
 a_d1:Addr
 d_d1:FuncData
 a_d4:Addr
 d_d4:FuncData
 a_c3:Addr
 d_c3:FuncData
 a_d7:Addr
 d_d7:FuncData
 a_d0:Addr
 d_d0:FuncData
 a_f0:Addr
 d_f0:FuncData
 a_b6:Addr
 d_b6:FuncData
 a_b7:Addr
 d_b7:FuncData
 a_c8:Addr
 d_c8:FuncData
 a_d5:Addr
 d_d5:FuncData
 a_f9:Addr
 d_f9:FuncData
 a_f4:Addr
 d_f4:FuncData
 a_e3:Addr
 d_e3:FuncData
 a_b2:Addr
 d_b2:FuncData
 a_a8:Addr
 d_a8:FuncData
 a_e5:Addr
 d_e5:FuncData
 a_c7:Addr
 d_c7:FuncData
 a_a6:Addr
 d_a6:FuncData
 a_b5:Addr
 d_b5:FuncData
 a_e1:Addr
 d_e1:FuncData
 a_e8:Addr
 d_e8:FuncData
 a_b0:Addr
 d_b0:FuncData
 a_f8:Addr
 d_f8:FuncData
 a_d3:Addr
 d_d3:FuncData
 a_c9:Addr
 d_c9:FuncData
 a_f2:Addr
 d_f2:FuncData
 a_d6:Addr
 d_d6:FuncData
 a_d2:Addr
 d_d2:FuncData
 a_e7:Addr
 d_e7:FuncData
 a_f3:Addr
 d_f3:FuncData
 a_c0:Addr
 d_c0:FuncData
 a_law:Addr
 d_law:FuncData
 c_h1:Addr
 t_h8:Tok
 c_c6:Addr
 c_c6_2:Addr
 c_h0:Addr
 t_h7:Tok
 t_h4:Tok
 t_h5:Tok
 t_i1:Tok
 t_i3:Tok
 t_i5:Tok
 t_i0:Tok
 t_h2:Tok
 t_i6:Tok
 t_i4:Tok
 t_h6:Tok
structure Txt(K:W.Frag)(mg:Str->Option Value)(t:Ad):Prop where
 m_g9:mg "TrailError"=some (.ref t.k_g9)
 x_g9:XCls K t.k_g9 [.type "ValueError",.type "Exception",.type "BaseException",.type "object"]
 u_g9:XUp [.type "ValueError",.type "Exception",.type "BaseException",.type "object"]
 at_g9:b7a K t.k_g9
 no_g9_row:a2a K t.k_g9 "row"
 mk_g9:XMk K t.k_g9 [.type "ValueError",.type "Exception",.type "BaseException",.type "object"] t.a_a3
 m_a0:mg "NoText"=some (.ref t.k_a0)
 x_a0:XCls K t.k_a0 [.ref t.k_g9,.type "ValueError",.type "Exception",.type "BaseException",.type "object"]
 u_a0:XUp [.ref t.k_g9,.type "ValueError",.type "Exception",.type "BaseException",.type "object"]
 at_a0:b7a K t.k_a0
 no_a0_row:a2a K t.k_a0 "row"
 mk_a0:XMk K t.k_a0 [.ref t.k_g9,.type "ValueError",.type "Exception",.type "BaseException",.type "object"] t.a_a3
 m_a1:mg "Level"=some (.ref t.k_a1)
 cl_a1:Cls K t.k_a1
 no_a1_kind:a2a K t.k_a1 "kind"
 no_a1_word:a2a K t.k_a1 "word"
 no_a1_done:a2a K t.k_a1 "done"
 no_a1_sides:a2a K t.k_a1 "sides"
 no_a1_waiting:a2a K t.k_a1 "waiting"
 mk_a1:Mk K t.k_a1 t.a_c5
 m_a2:mg "Reading"=some (.ref t.k_a2)
 cl_a2:Cls K t.k_a2
 no_a2_row:a2a K t.k_a2 "row"
 no_a2_signs:a2a K t.k_a2 "signs"
 no_a2_at:a2a K t.k_a2 "at"
 no_a2_levels:a2a K t.k_a2 "levels"
 mk_a2:Mk K t.k_a2 t.a_g8
 me_a4:Meth K t.k_a2 "seen" t.a_a4
 me_a7:Meth K t.k_a2 "sees" t.a_a7
 me_g5:Meth K t.k_a2 "take_term" t.a_g5
 me_g6:Meth K t.k_a2 "take_openers" t.a_g6
 me_b8:Meth K t.k_a2 "begin" t.a_b8
 me_g3:Meth K t.k_a2 "take_thing" t.a_g3
 me_g2:Meth K t.k_a2 "take_closers" t.a_g2
 me_g4:Meth K t.k_a2 "take_between" t.a_g4
 me_g7:Meth K t.k_a2 "take_end" t.a_g7
 F_a3:FunD K "__init__" "TrailError.__init__" a4b t.a_a3 t.d_a3 (.ref t.v_a3)
 b_a3:Binds K t.d_a3 ["self","words","row"] []
 bd_a3:Binds K t.d_a3 ["self","words","row"] [.int 0 t.w_a3_0]
 F_c5:Fun K "__init__" "Level.__init__" b1r t.a_c5 t.d_c5
 b_c5:Binds K t.d_c5 ["self","kind","word"] []
 F_g8:Fun K "__init__" "Reading.__init__" a8u t.a_g8 t.d_g8
 b_g8:Binds K t.d_g8 ["self","row","signs"] []
 F_a4:Fun K "seen" "Reading.seen" a8v t.a_a4 t.d_a4
 b_a4:Binds K t.d_a4 ["self","ahead"] []
 F_a7:Fun K "sees" "Reading.sees" a8w t.a_a7 t.d_a7
 b_a7:Binds K t.d_a7 ["self","text"] []
 F_g5:Fun K "take_term" "Reading.take_term" a6a t.a_g5 t.d_g5
 b_g5:Binds K t.d_g5 ["self"] []
 F_g6:Fun K "take_openers" "Reading.take_openers" a4z t.a_g6 t.d_g6
 b_g6:Binds K t.d_g6 ["self"] []
 F_b8:Fun K "begin" "Reading.begin" a8j t.a_b8 t.d_b8
 b_b8:Binds K t.d_b8 ["self","kind","word","long"] []
 F_g3:Fun K "take_thing" "Reading.take_thing" a5l t.a_g3 t.d_g3
 b_g3:Binds K t.d_g3 ["self"] []
 F_g2:Fun K "take_closers" "Reading.take_closers" a5a t.a_g2 t.d_g2
 b_g2:Binds K t.d_g2 ["self"] []
 F_g4:Fun K "take_between" "Reading.take_between" a5b t.a_g4 t.d_g4
 b_g4:Binds K t.d_g4 ["self"] []
 F_g7:Fun K "take_end" "Reading.take_end" a6m t.a_g7 t.d_g7
 b_g7:Binds K t.d_g7 ["self"] []
 F_c2:Fun K "num" "num" s_num t.a_c2 t.d_c2
 b_c2:Binds K t.d_c2 ["n"] []
 m_c2:mg "num"=some (.ref t.a_c2)
 F_e6:Fun K "unknown" "unknown" b5w t.a_e6 t.d_e6
 b_e6:Binds K t.d_e6 ["name"] []
 m_e6:mg "unknown"=some (.ref t.a_e6)
 F_a5:Fun K "app" "app" s_a5 t.a_a5 t.d_a5
 b_a5:Binds K t.d_a5 ["sign","kids"] []
 m_a5:mg "app"=some (.ref t.a_a5)
 F_b3:Fun K "is_pair" "is_pair" b5x t.a_b3 t.d_b3
 b_b3:Binds K t.d_b3 ["term"] []
 m_b3:mg "is_pair"=some (.ref t.a_b3)
 F_e9:Fun K "items_of" "items_of" b4j t.a_e9 t.d_e9
 b_e9:Binds K t.d_e9 ["term"] []
 m_e9:mg "items_of"=some (.ref t.a_e9)
 F_b9:Fun K "list_of" "list_of" b5y t.a_b9 t.d_b9
 b_b9:Binds K t.d_b9 ["things","rest"] []
 m_b9:mg "list_of"=some (.ref t.a_b9)
 F_g0:Fun K "parts" "parts" c0q t.a_g0 t.d_g0
 b_g0:Binds K t.d_g0 ["term"] []
 m_g0:mg "parts"=some (.ref t.a_g0)
 F_a9:Fun K "is_inner" "is_inner" b4k t.a_a9 t.d_a9
 b_a9:Binds K t.d_a9 ["sign"] []
 m_a9:mg "is_inner"=some (.ref t.a_a9)
 F_b4:Fun K "is_called" "is_called" a9k t.a_b4 t.d_b4
 b_b4:Binds K t.d_b4 ["text","firsts"] []
 m_b4:mg "is_called"=some (.ref t.a_b4)
 F_f6:Fun K "is_word" "is_word" b5z t.a_f6 t.d_f6
 b_f6:Binds K t.d_f6 ["text"] []
 m_f6:mg "is_word"=some (.ref t.a_f6)
 F_f1:Fun K "is_name" "is_name" b6a t.a_f1 t.d_f1
 b_f1:Binds K t.d_f1 ["text"] []
 m_f1:mg "is_name"=some (.ref t.a_f1)
 F_d9:Fun K "shown" "shown" c0r t.a_d9 t.d_d9
 b_d9:Binds K t.d_d9 ["term","signs"] []
 m_d9:mg "shown"=some (.ref t.a_d9)
 F_e4:Fun K "spread" "spread" b8f t.a_e4 t.d_e4
 b_e4:Binds K t.d_e4 ["term","signs"] []
 m_e4:mg "spread"=some (.ref t.a_e4)
 F_e2:Fun K "number_shown" "number_shown" a8x t.a_e2 t.d_e2
 b_e2:Binds K t.d_e2 ["n"] []
 m_e2:mg "number_shown"=some (.ref t.a_e2)
 F_b1:Fun K "parted" "parted" b8g t.a_b1 t.d_b1
 b_b1:Binds K t.d_b1 ["terms"] []
 m_b1:mg "parted"=some (.ref t.a_b1)
 F_f7:Fun K "list_spread" "list_spread" b0d t.a_f7 t.d_f7
 b_f7:Binds K t.d_f7 ["term"] []
 m_f7:mg "list_spread"=some (.ref t.a_f7)
 F_e0:Fun K "word_spread" "word_spread" b0e t.a_e0 t.d_e0
 b_e0:Binds K t.d_e0 ["term"] []
 m_e0:mg "word_spread"=some (.ref t.a_e0)
 F_d8:Fun K "mark_spread" "mark_spread" b0f t.a_d8 t.d_d8
 b_d8:Binds K t.d_d8 ["term","signs"] []
 m_d8:mg "mark_spread"=some (.ref t.a_d8)
 F_c1:Fun K "beside" "beside" b8h t.a_c1 t.d_c1
 b_c1:Binds K t.d_c1 ["kid","told","side","signs"] []
 m_c1:mg "beside"=some (.ref t.a_c1)
 F_f5:Fun K "rank_of" "rank_of" b6b t.a_f5 t.d_f5
 b_f5:Binds K t.d_f5 ["term","signs"] []
 m_f5:mg "rank_of"=some (.ref t.a_f5)
 F_g1:Fun K "pieces" "pieces" b8i t.a_g1 t.d_g1
 b_g1:Binds K t.d_g1 ["text"] []
 m_g1:mg "pieces"=some (.ref t.a_g1)
 F_d1:Fun K "piece_at" "piece_at" b4l t.a_d1 t.d_d1
 b_d1:Binds K t.d_d1 ["text","at"] []
 m_d1:mg "piece_at"=some (.ref t.a_d1)
 F_d4:Fun K "mark_run" "mark_run" b4m t.a_d4 t.d_d4
 b_d4:Binds K t.d_d4 ["text","at"] []
 m_d4:mg "mark_run"=some (.ref t.a_d4)
 F_c3:Fun K "inner_run" "inner_run" b3g t.a_c3 t.d_c3
 b_c3:Binds K t.d_c3 ["text","at"] []
 m_c3:mg "inner_run"=some (.ref t.a_c3)
 F_d7:Fun K "mark_piece" "mark_piece" b1s t.a_d7 t.d_d7
 b_d7:Binds K t.d_d7 ["run"] []
 m_d7:mg "mark_piece"=some (.ref t.a_d7)
 F_d0:Fun K "inner_piece" "inner_piece" b0g t.a_d0 t.d_d0
 b_d0:Binds K t.d_d0 ["run"] []
 m_d0:mg "inner_piece"=some (.ref t.a_d0)
 F_f0:Fun K "below_nought_piece" "below_nought_piece" a5m t.a_f0 t.d_f0
 b_f0:Binds K t.d_f0 ["run"] []
 m_f0:mg "below_nought_piece"=some (.ref t.a_f0)
 F_b6:Fun K "is_number" "is_number" a9l t.a_b6 t.d_b6
 b_b6:Binds K t.d_b6 ["run"] []
 m_b6:mg "is_number"=some (.ref t.a_b6)
 F_b7:Fun K "checked_word" "checked_word" a8y t.a_b7 t.d_b7
 b_b7:Binds K t.d_b7 ["text"] []
 m_b7:mg "checked_word"=some (.ref t.a_b7)
 F_c8:Fun K "checked_name" "checked_name" a8z t.a_c8 t.d_c8
 b_c8:Binds K t.d_c8 ["text"] []
 m_c8:mg "checked_name"=some (.ref t.a_c8)
 F_d5:Fun K "number_of" "number_of" b3h t.a_d5 t.d_d5
 b_d5:Binds K t.d_d5 ["text"] []
 m_d5:mg "number_of"=some (.ref t.a_d5)
 F_f9:Fun K "thing_of" "thing_of" b4n t.a_f9 t.d_f9
 b_f9:Binds K t.d_f9 ["piece"] []
 m_f9:mg "thing_of"=some (.ref t.a_f9)
 F_f4:Fun K "add_mark" "add_mark" b4o t.a_f4 t.d_f4
 b_f4:Binds K t.d_f4 ["level","mark","signs"] []
 m_f4:mg "add_mark"=some (.ref t.a_f4)
 F_e3:Fun K "binds_first" "binds_first" b0h t.a_e3 t.d_e3
 b_e3:Binds K t.d_e3 ["earlier","later"] []
 m_e3:mg "binds_first"=some (.ref t.a_e3)
 F_b2:Fun K "join_last" "join_last" b3i t.a_b2 t.d_b2
 b_b2:Binds K t.d_b2 ["level"] []
 m_b2:mg "join_last"=some (.ref t.a_b2)
 F_a8:Fun K "finish" "finish" b8j t.a_a8 t.d_a8
 b_a8:Binds K t.d_a8 ["level"] []
 m_a8:mg "finish"=some (.ref t.a_a8)
 F_e5:Fun K "closed" "closed" b8k t.a_e5 t.d_e5
 b_e5:Binds K t.d_e5 ["level"] []
 m_e5:mg "closed"=some (.ref t.a_e5)
 F_c7:Fun K "read" "read" c4r t.a_c7 t.d_c7
 b_c7:Binds K t.d_c7 ["text","signs"] []
 m_c7:mg "read"=some (.ref t.a_c7)
 F_a6:Fun K "_law_cell_at" "_law_cell_at" b3j t.a_a6 t.d_a6
 b_a6:Binds K t.d_a6 ["_law_script","_law_k"] []
 m_a6:mg "_law_cell_at"=some (.ref t.a_a6)
 F_b5:Fun K "_law_stream" "_law_stream" b4p t.a_b5 t.d_b5
 b_b5:Binds K t.d_b5 ["_law_cell","_law_many"] []
 m_b5:mg "_law_stream"=some (.ref t.a_b5)
 F_e1:Fun K "_law_cells" "_law_cells" b2n t.a_e1 t.d_e1
 b_e1:Binds K t.d_e1 ["_law_script","_law_at","_law_many"] []
 m_e1:mg "_law_cells"=some (.ref t.a_e1)
 F_e8:Fun K "_law_number" "_law_number" b4q t.a_e8 t.d_e8
 b_e8:Binds K t.d_e8 ["_law_cell"] []
 m_e8:mg "_law_number"=some (.ref t.a_e8)
 F_b0:Fun K "_law_letters" "_law_letters" b3k t.a_b0 t.d_b0
 b_b0:Binds K t.d_b0 ["_law_cell","_law_heads"] []
 m_b0:mg "_law_letters"=some (.ref t.a_b0)
 F_f8:Fun K "_law_mark" "_law_mark" b8l t.a_f8 t.d_f8
 b_f8:Binds K t.d_f8 ["_law_cell"] []
 m_f8:mg "_law_mark"=some (.ref t.a_f8)
 F_d3:Fun K "_law_table" "_law_table" b6c t.a_d3 t.d_d3
 b_d3:Binds K t.d_d3 ["_law_cell","_law_many"] []
 m_d3:mg "_law_table"=some (.ref t.a_d3)
 F_c9:Fun K "_law_leaf" "_law_leaf" b8m t.a_c9 t.d_c9
 b_c9:Binds K t.d_c9 ["_law_cell"] []
 m_c9:mg "_law_leaf"=some (.ref t.a_c9)
 F_f2:Fun K "_law_menu" "_law_menu" b8n t.a_f2 t.d_f2
 b_f2:Binds K t.d_f2 ["_law_table_here","_law_cell"] []
 m_f2:mg "_law_menu"=some (.ref t.a_f2)
 F_d6:Fun K "_law_sign" "_law_sign" b8o t.a_d6 t.d_d6
 b_d6:Binds K t.d_d6 ["_law_cell","_law_many","_law_marks"] []
 m_d6:mg "_law_sign"=some (.ref t.a_d6)
 F_d2:Fun K "_law_grown" "_law_grown" b6d t.a_d2 t.d_d2
 b_d2:Binds K t.d_d2 ["_law_cells_here","_law_marks","_law_turn"] []
 m_d2:mg "_law_grown"=some (.ref t.a_d2)
 F_e7:Fun K "_law_closed_at" "_law_closed_at" b0i t.a_e7 t.d_e7
 b_e7:Binds K t.d_e7 ["_law_text","_law_at"] []
 m_e7:mg "_law_closed_at"=some (.ref t.a_e7)
 F_f3:Fun K "_law_spots" "_law_spots" b6e t.a_f3 t.d_f3
 b_f3:Binds K t.d_f3 ["_law_text"] []
 m_f3:mg "_law_spots"=some (.ref t.a_f3)
 F_c0:Fun K "_law_read" "_law_read" b8p t.a_c0 t.d_c0
 b_c0:Binds K t.d_c0 ["_law_text","_law_table_here"] []
 m_c0:mg "_law_read"=some (.ref t.a_c0)
 F_law:Fun K "law" "law" s_law t.a_law t.d_law
 b_law:Binds K t.d_law ["_law_script"] []
 m_law:mg "law"=some (.ref t.a_law)
 n_j1:mg "ValueError"=none
 n_j0:mg "all"=none
 n_i9:mg "int"=none
 n_i8:mg "isinstance"=none
 n_c4:mg "len"=none
 n_j2:mg "list"=none
 n_i2:mg "min"=none
 n_h3:mg "range"=none
 n_j3:mg "reversed"=none
 n_h9:mg "str"=none
 n_i7:mg "tuple"=none
 m_h1:mg "BEHIND_ALL"=some (.ref t.c_h1)
 q_h1:∀H:Hp,SqT K H t.c_h1 [.str (ofString "end"),.str (ofString "")]
 m_h8:mg "MOST_PARTS"=some (.int 40 t.t_h8)
 m_c6:mg "EMPTY_LIST"=some (.ref t.c_c6)
 q_c6:∀H:Hp,SqT K H t.c_c6 [.str (ofString "app"),.str (ofString "[]"),.ref t.c_c6_2]
 q_c6_2:∀H:Hp,SqT K H t.c_c6_2 []
 m_h0:mg "CLOSERS"=some (.ref t.c_h0)
 e_h0:(t.c_h0==sysModules)=false
 m_h7:mg "PAIR_SIGN"=some (.str (ofString "[|]") t.t_h7)
 m_h4:mg "SMALL"=some (.str (ofString "abcdefghijklmnopqrstuvwxyz") t.t_h4)
 m_h5:mg "GREAT"=some (.str (ofString "ABCDEFGHIJKLMNOPQRSTUVWXYZ") t.t_h5)
 m_i1:mg "FIGURES"=some (.str (ofString "0123456789") t.t_i1)
 m_i3:mg "MOST_LETTERS"=some (.int 12 t.t_i3)
 m_i5:mg "SINGLE_SIGNS"=some (.str (ofString "()[],|") t.t_i5)
 m_i0:mg "MARK_SIGNS"=some (.str (ofString "+-*/:<=>&^?@#!;$") t.t_i0)
 m_h2:mg "BELOW_NOUGHT"=some (.str (ofString "~") t.t_h2)
 m_i6:mg "ARROW"=some (.str (ofString "<-") t.t_i6)
 m_i4:mg "MOST_FIGURES"=some (.int 30 t.t_i4)
 m_h6:mg "MOST_KIDS"=some (.int 4 t.t_h6)
theorem c6m:([Sum.inr (ofString "whole"),Sum.inr (ofString "round"),Sum.inr (ofString "kids"),Sum.inr (ofString "list"),Sum.inr (ofString "rest")]:List Key).Nodup:=by decide+kernel
def b0n(t:Ad):List (Key×V):=[(Sum.inr (ofString "whole"),.str (ofString "")),(Sum.inr (ofString "round"),.str (ofString ")")),(Sum.inr (ofString "kids"),.str (ofString ")")),(Sum.inr (ofString "list"),.str (ofString "]")),(Sum.inr (ofString "rest"),.str (ofString "]"))]
abbrev a3o:Str:=ofString "()[],|"
abbrev a1f:Str:=ofString "none"
abbrev a2w:Str:=ofString "left"
abbrev inn(c:Nat):Prop:=c∈a2k.cps.toList\/c∈a2v.cps.toList\/c∈figS.cps.toList
abbrev mkc(c:Nat):Prop:=c∈a6c.cps.toList
theorem c0w{y:Nat}(h:y∈figS.cps.toList):inn y:=.inr (.inr h)
theorem a3r{y:Nat}(h:y∈a2k.cps.toList):inn y:=.inl h
theorem a8c{y:Nat}(h:y∈a2v.cps.toList):inn y:=.inr (.inl h)
theorem d4t:∀x∈a2k.cps.toList,x≠60/\x≠126/\x≠32/\x∉a3o.cps.toList/\x∉a6c.cps.toList:=by decide+kernel
theorem c4w:∀x∈a2v.cps.toList,x≠60/\x≠126/\x≠32/\x∉a3o.cps.toList/\x∉a6c.cps.toList/\x∉a2k.cps.toList:=by decide+kernel
theorem d1x:∀x∈figS.cps.toList,x≠60/\x≠126/\x≠32/\x∉a3o.cps.toList/\x∉a6c.cps.toList/\x∉a2k.cps.toList/\x∉a2v.cps.toList:=by decide+kernel
theorem c7o:∀x∈a6c.cps.toList,¬inn x/\x≠126/\x≠32/\x∉a3o.cps.toList:=by decide+kernel
theorem b1g:∀{x:Nat},inn x->x≠60/\x≠126/\x≠32/\x∉a3o.cps.toList/\¬mkc x:=fun h=>by
 rcases h with h|h|h
 ·exact d4t _ h
 ·have:=c4w _ h;exact⟨this.1,this.2.1,this.2.2.1,this.2.2.2.1,this.2.2.2.2.1⟩
 ·have:=d1x _ h;exact⟨this.1,this.2.1,this.2.2.1,this.2.2.2.1,this.2.2.2.2.1⟩
theorem a9b{x y:Nat}(h:(⟨#[x]⟩:Str)=⟨#[y]⟩):x=y:=by
 have h:=Z9 (fun s:Str=>s.cps.toList) h
 simpa using h
theorem bl_eq:ofString " "=⟨#[32]⟩:=by decide+kernel
theorem b9s:ofString "~"=⟨#[126]⟩:=by decide+kernel
theorem c3f:ofString "0"=⟨#[48]⟩:=by decide+kernel
theorem c4x{x y:List Nat}(h:(⟨x.toArray⟩:Str)=⟨y.toArray⟩):x=y:=by
 have h:=Z9 (fun s:Str=>s.cps.toList) h
 simpa using h
theorem d1y{pre z r:List Nat}{j:Nat}(h:j<z.length):∃y∈z,atI (pre++z++r) ((pre.length+j:Nat):Int)=some y:=by
 refine⟨z[j],Ul h,a6y ?_⟩
 rw[Uz (by rw[Za];omega),Xf (by omega),Vj,Zc h]
theorem d1z{pre z r:List Nat}{c:Nat}:atI (pre++z++c::r) ((pre.length+z.length:Nat):Int)=some c:=by
 refine a6y ?_
 rw[Xf (by rw[Za];omega),Za,U8]
 rfl
theorem at0{x:Nat}{r:List Nat}:atI (x::r) 0=some x:=c4j (pre:=[])
theorem in_t{c:Nat}{j:Str}(h:c∈j.cps.toList):inS ⟨#[c]⟩ j=true:=by rw[a2r];exact Zg h
theorem in_f{c:Nat}{j:Str}(h:c∉j.cps.toList):inS ⟨#[c]⟩ j=false:=by rw[a2r];exact Zd h
theorem c3g{b:Bool}{c d:Prop}(h:b=true)(k:c):if b=true then c else d:=by rw[if_pos h];exact k
theorem ite_f{b:Bool}{c d:Prop}(h:b=false)(k:d):if b=true then c else d:=by rw[if_neg (by rw[h];exact Zr)];exact k
abbrev a5z:Sp:=fun vs H Q _=>match vs with| [.str s]=>∃c,s=⟨#[c]⟩/\Q (.bl (decide (inn c))) H|_=>False
abbrev a9n:Sp:=fun vs H Q _=>match vs with| [.str s,.int i]=>∃pre z r:List Nat,s=⟨(pre++z++r).toArray⟩/\i=(pre.length:Int)/\(pre++z++r).length<=90000/\(∀y∈z,mkc y)/\(∀c,r.head? =some c->¬mkc c)/\Q (.str ⟨z.toArray⟩) H|_=>False
abbrev a8k:Sp:=fun vs H Q _=>match vs with| [.str s,.int i]=>∃pre z r:List Nat,s=⟨(pre++z++r).toArray⟩/\i=(pre.length:Int)/\(pre++z++r).length<=90000/\(∀y∈z,inn y)/\(∀c,r.head? =some c->¬inn c)/\Q (.str ⟨z.toArray⟩) H|_=>False
theorem c7p:∀x∈a3o.cps.toList,¬inn x/\x≠126/\x≠32/\¬mkc x:=by decide+kernel
theorem c4y:¬inn 126/\¬mkc 126/\126∉a3o.cps.toList:=by decide+kernel
def runP(c:Nat):Nat->Bool:=if mkc c then(fun d=>decide (mkc d))else if inn c\/c=126 then(fun d=>decide (inn d))else fun _=>false
theorem d2a{c:Nat}(h:mkc c):runP c=fun d=>decide (mkc d):=if_pos h
theorem c4z{c:Nat}(h:inn c):runP c=fun d=>decide (inn d):=by
 unfold runP
 rw[if_neg (b1g h).2.2.2.2,if_pos (.inl h)]
theorem d2b:runP 126=fun d=>decide (inn d):=by
 unfold runP
 rw[if_neg c4y.2.1,if_pos (.inr rfl)]
theorem c5a{c:Nat}(h1:¬mkc c)(h2:¬inn c)(h3:c≠126):runP c=fun _=>false:=by
 unfold runP
 rw[if_neg h1,if_neg (fun z=>z.elim h2 h3)]
def figB(d:Nat):Bool:=decide (d∈figS.cps.toList)
def a2n(z:List Nat):Bool:=decide (1<=z.length)&&(decide (z.length<=30)&&(z.all figB&&(decide (z=[48])||decide (z.head? ≠some 48))))
def kindOf:List Nat->Str
 | []=>a1f
 |c::r=>
  if c∈a3o.cps.toList then ofString "sign"
  else if mkc c then(if c::r=[60,45]then ofString "sign" else ofString "mark")
  else if c=126 then(if r=[48]\/a2n r=false then a1f else ofString "num")
  else if c∈a2k.cps.toList then ofString "word"
  else if c∈a2v.cps.toList then ofString "name"
  else if inn c/\a2n (c::r)=true then ofString "num" else a1f
theorem c2h{c:Nat}{r:List Nat}(h:c∈a3o.cps.toList):kindOf (c::r)=ofString "sign":=if_pos h
theorem c2i{c:Nat}{r:List Nat}(h:mkc c):kindOf (c::r)=if c::r=[60,45]then ofString "sign" else ofString "mark":=by
 rw[kindOf]
 rw[if_neg (c7o c h).2.2.2,if_pos h]
theorem b8r{r:List Nat}:kindOf (126::r)=if r=[48]\/a2n r=false then a1f else ofString "num":=by
 rw[kindOf]
 rw[if_neg c4y.2.2,if_neg c4y.2.1,if_pos rfl]
theorem b4s{c:Nat}{r:List Nat}(h:inn c):kindOf (c::r)=if c∈a2k.cps.toList then ofString "word" else if c∈a2v.cps.toList then ofString "name" else if a2n (c::r)=true then ofString "num" else a1f:=by
 have n:=b1g h
 rw[kindOf]
 rw[if_neg n.2.2.2.1,if_neg n.2.2.2.2,if_neg n.2.1]
 by_cases e:a2n (c::r)=true
 ·rw[if_pos (show inn c/\a2n (c::r)=true from⟨h,e⟩),if_pos e]
 ·rw[if_neg (show ¬(inn c/\a2n (c::r)=true)from fun z=>e z.2),if_neg e]
theorem d4u{c:Nat}{r:List Nat}(h1:¬mkc c)(h2:¬inn c)(h3:c≠126)(h4:c∉a3o.cps.toList):kindOf (c::r)=a1f:=by
 rw[kindOf]
 rw[if_neg h4,if_neg h1,if_neg h3,if_neg (fun z=>h2 (.inl z)),if_neg (fun z=>h2 (.inr (.inl z))),if_neg (fun z=>h2 z.1)]
def knB(z:List Nat):Bool:=decide (kindOf z=a1f)
theorem b1x:ofString "sign"≠a1f/\ofString "mark"≠a1f/\ofString "num"≠a1f/\ofString "word"≠a1f/\ofString "name"≠a1f:=by decide+kernel
theorem c5b{p:Nat->Bool}(r:List Nat):(r.dropWhile p).length<=r.length:=(Vr p).length_le
def bits:List Nat->List (List Nat)
 | []=>[]
 |c::r=>if c=32 then bits r else(c::r.takeWhile (runP c))::bits (r.dropWhile (runP c))
termination_by l=>l.length
decreasing_by
 ·simp
 ·have:=c5b (p:=runP c) r
  simp only[length_cons]
  omega
theorem a4a:bits []=[]:=by rw[bits]
theorem a2s{r:List Nat}:bits (32::r)=bits r:=by rw[bits,if_pos rfl]
theorem b1y{c:Nat}{r:List Nat}(h:c≠32):bits (c::r)=(c::r.takeWhile (runP c))::bits (r.dropWhile (runP c)):=by rw[bits,if_neg h]
def b0o(l:List Nat):Bool:=(bits l).all fun b=>!knB b
def pcD(k:Str)(z:List Nat):PyData:=.tuple [.str k,.str ⟨z.toArray⟩]
def pcB(z:List Nat):PyData:=pcD (kindOf z) z
theorem c0x{K:W.Frag}{H:Hp}{v:V}{k:Str}{z:List Nat}(h:Den K H v (pcD k z)):∃a,v=.ref a/\SqT K H a [.str k,.str ⟨z.toArray⟩]:=by
 unfold pcD at h
 cases h with
 |tup hs hl=>
  cases hl with
  |cons h1 hl=>
   cases hl with
   |cons h2 hl=>
    cases hl
    cases h1
    cases h2
    exact⟨_,rfl,hs⟩
theorem a8l{K:W.Frag}{H:Hp}{a:Addr}{k:Str}{z:List Nat}(h:SqT K H a [.str k,.str ⟨z.toArray⟩]):Den K H (.ref a) (pcD k z):=.tup h (.cons (.str _) (.cons (.str _) .nil))
theorem b9t{p:Nat->Bool}{r:List Nat}{y:Nat}(h:y∈r.takeWhile p):p y=true:=by
 induction r with
 |nil=>simp at h
 |cons a r ih=>
  rw[Xq]at h
  split at h
  ·rename_i e
   rcases Zk.mp h with z|z
   ·rw[z];exact e
   ·exact ih z
  ·simp at h
theorem c0y{p:Nat->Bool}{r:List Nat}{c:Nat}(h:(r.dropWhile p).head? =some c):p c=false:=by
 induction r with
 |nil=>simp at h
 |cons a r ih=>
  rw[W6]at h
  split at h
  ·exact ih h
  ·rename_i e
   have:a=c:=by simpa using h
   rw[<-this]
   exact Bool.eq_false_iff.mpr e
theorem c3h(p:Nat->Bool)(r:List Nat):r.takeWhile p++r.dropWhile p=r:=List.takeWhile_append_dropWhile
theorem c3i(r:List Nat):r.takeWhile (fun _=>false)=[]/\r.dropWhile (fun _=>false)=r:=by cases r<;>exact⟨rfl,rfl⟩
def a1v(l:List Nat):Prop:=∀c∈l,c<200
def resK(K:W.Frag)(H:Hp)(C:Addr)(Q:VK)(E:XK)(k:Str)(z:List Nat):Bool->Prop
 |true=>onX H C E
 |false=>∀v H',Same H H'->Den K H' v (pcD k z)->Q v H'
def onG(K:W.Frag)(H:Hp)(C:Addr)(Q:VK)(E:XK)(ds:List PyData):Bool->Prop
 |true=>∀(a:Addr)(us:List V) H',H a=none->Same H H'->H' a=some (.lst us)->DenL K H' us ds->Q (.ref a) H'
 |false=>onX H C E
abbrev a7s(K:W.Frag):Sp:=fun vs H Q _=>match vs with| [.str s]=>∃z:List Nat,s=⟨z.toArray⟩/\∀v H',Same H H'->Den K H' v (pcD (if z=[60,45]then ofString "sign" else ofString "mark") z)->Q v H'|_=>False
abbrev a6n:Sp:=fun vs H Q _=>match vs with| [.str s]=>∃z:List Nat,s=⟨z.toArray⟩/\z.length<=3000/\∀H',Same H H'->Q (.bl (a2n z)) H'|_=>False
abbrev a7c(K:W.Frag)(C:Addr):Sp:=fun vs H Q E=>match vs with| [.str s]=>∃(c:Nat)(r:List Nat),s=⟨(c::r).toArray⟩/\inn c/\(c::r).length<=3000/\a1v (c::r)/\resK K H C Q E (kindOf (c::r)) (c::r) (knB (c::r))|_=>False
abbrev a3u(K:W.Frag)(C:Addr):Sp:=fun vs H Q E=>match vs with| [.str s]=>∃f:List Nat,s=⟨f.toArray⟩/\f.length<=3000/\resK K H C Q E (kindOf (126::f)) (126::f) (knB (126::f))|_=>False
abbrev a9o(K:W.Frag)(C:Addr):Sp:=fun vs H Q E=>match vs with| [.str s,.int i]=>∃(pre:List Nat)(c:Nat)(r:List Nat),s=⟨(pre++c::r).toArray⟩/\i=(pre.length:Int)/\(pre++c::r).length<=3000/\a1v (pre++c::r)/\resK K H C Q E (kindOf (c::r.takeWhile (runP c))) (c::r.takeWhile (runP c)) (knB (c::r.takeWhile (runP c)))|_=>False
abbrev b2r(K:W.Frag)(C:Addr):Sp:=fun vs H Q E=>match vs with| [.str s]=>∃l:List Nat,s=⟨l.toArray⟩/\l.length<=3000/\a1v l/\onG K H C Q E ((bits l).map pcB) (b0o l)|_=>False
theorem nil_or_snoc'{α:Type}(l:List α):l=[]\/∃r x,l=r++[x]:=by
 cases l.eq_nil_or_concat with
 |inl h=>exact .inl h
 |inr h=>obtain⟨r,x,h⟩:=h;exact .inr ⟨r,x,by simpa using h⟩
theorem d2c{K:W.Frag}{H:Hp}{us:List V}{ts:List Trm}(h:DenL K H us (Trm.dataL ts)){i:Nat}(hi:i<us.length):∃(x:V)(t:Trm),us[i]? =some x/\ts[i]? =some t/\us.getD i .non=x/\Den K H x t.data:=by
 have hx:us[i]? =some us[i]:=Zc hi
 obtain⟨d,e1,e2⟩:=h.get hx
 rw[Trm.dataL_map,Yv]at e1
 cases q:ts[i]? with
 |none=>rw[q]at e1;cases e1
 |some t0=>
  rw[q]at e1
  have e1:t0.data=d:=Zo e1
  subst e1
  exact⟨us[i],t0,hx,rfl,by rw[Yq,hx];rfl,e2⟩
theorem a5r{K:W.Frag}{H:Hp}{us:List V}{ts:List Trm}(h:DenL K H us (Trm.dataL ts)):us.length=ts.length:=by rw[h.length,Trm.dataL_map,length_map]
theorem d4v{α:Type}{ts:List α}{i:Nat}{tk:α}(hi:i<ts.length)(e:ts[ts.length-1-i]? =some tk):ts.drop (ts.length-(i+1))=tk::ts.drop (ts.length-i):=by
 have h1:ts.length-(i+1)=ts.length-1-i:=by omega
 have h2:ts.length-i=(ts.length-1-i)+1:=by omega
 rw[h1,h2]
 obtain⟨hk,e⟩:=Yy.mp e
 rw[Vf hk,e]
theorem b3u{x:Str}(h:decide (x=appS)=false){A B:Prop}(k:B):if(false^^decide (x=appS))=true then A else B:=by rw[Zm,h];exact iteF k
theorem c0z{x:Str}(h:decide (x=appS)=true){A B:Prop}(k:A):if(false^^decide (x=appS))=true then A else B:=by rw[Zm,h];exact iteT k
theorem d1:decide (numS=appS)=false:=by decide+kernel
theorem d2:decide (anyS=appS)=false:=by decide+kernel
theorem d3:decide (appS=appS)=true:=by decide+kernel
theorem a3p{α:Type}(l:List α):l=[]\/∃r x,l=r++[x]:=nil_or_snoc' l
def Cal(fs z:List Nat):Prop:=∃x r,z=x::r/\x∈fs/\r.length<=2000/\∀y∈r,inn y
abbrev a6o:Sp:=fun vs H Q _=>match vs with| [.str s,.str f]=>∃z:List Nat,s=⟨z.toArray⟩/\Cal f.cps.toList z/\(∀y∈f.cps.toList,inn y)/\∀H',Same H H'->Q (.bl (decide (z.length<=12))) H'|_=>False
abbrev b0p:Sp:=fun vs H Q _=>match vs with| [.str s]=>∃z:List Nat,s=⟨z.toArray⟩/\Cal a2k.cps.toList z/\∀H',Same H H'->Q (.bl (decide (z.length<=12))) H'|_=>False
abbrev b0q:Sp:=fun vs H Q _=>match vs with| [.str s]=>∃z:List Nat,s=⟨z.toArray⟩/\Cal a2v.cps.toList z/\∀H',Same H H'->Q (.bl (decide (z.length<=12))) H'|_=>False
def resC(H:Hp)(B:Addr)(Q:VK)(E:XK)(s:Str):Bool->Prop
 |true=>∀H',Same H H'->Q (.str s) H'
 |false=>onX H B E
abbrev a4x(B:Addr):Sp:=fun vs H Q E=>match vs with| [.str s]=>∃z:List Nat,s=⟨z.toArray⟩/\Cal a2k.cps.toList z/\resC H B Q E s (decide (z.length<=12))|_=>False
abbrev a6d(B:Addr):Sp:=fun vs H Q E=>match vs with| [.str s]=>∃z:List Nat,s=⟨z.toArray⟩/\Cal a2v.cps.toList z/\resC H B Q E s (decide (z.length<=12))|_=>False
def valD(z:List Nat):Nat:=z.foldl (fun n d=>10*n+(d-48)) 0
def NumZ(z:List Nat):Prop:=∃x r,z=x::r/\(∀y∈z,y∈figS.cps.toList)/\(r=[]\/x≠48)
theorem c1a:∀y∈figS.cps.toList,48<=y/\y<=57:=by decide+kernel
theorem d2d(z:List Nat)(d:Nat):valD (z++[d])=10*valD z+(d-48):=by unfold valD;rw[List.foldl_append];rfl
theorem c7q:∀(z:List Nat)(a:Nat),(∀y∈z,y∈figS.cps.toList)->z.foldl (fun n d=>10*n+(d-48)) a<(a+1)*10^z.length
 | [],a,_=>by simp
 |d::r,a,h=>by
  have h1:=c1a d (h d (by simp))
  have h2:=c7q r (10*a+(d-48)) (fun y hy=>h y (by simp[hy]))
  rw[Vv,length_cons,Nat.pow_succ]
  have:(10*a+(d-48)+1)*10^r.length<=(a+1)*(10^r.length*10):=by
   rw[Nat.mul_comm (10^r.length) 10,<-Nat.mul_assoc]
   exact Nat.mul_le_mul_right _ (by omega)
  omega
theorem c7r{z:List Nat}(h:∀y∈z,y∈figS.cps.toList):valD z<10^z.length:=by have:=c7q z 0 h;simpa[valD]using this
theorem b4t:∀(n:Nat)(z:List Nat),z.length=n->NumZ z->a1k (valD z)=z/\(z=[48]\/0<valD z):=by
 intro n
 induction n with
 |zero=>
  intro z h k
  obtain⟨x,r,rfl,_⟩:=k
  simp at h
 |succ n ih=>
  intro z hl ⟨x,r,e,hf,hx⟩
  rcases a3p r with hr|⟨r',d,hr⟩
  ·subst hr
   subst e
   have:=c1a x (hf x (by simp))
   have hv:valD [x]=x-48:=by simp[valD]
   rw[hv]
   refine⟨by rw[b1d (by omega)];congr 1;omega,?_⟩
   by_cases z:x=48
   ·exact .inl (by rw[z])
   ·exact .inr (by omega)
  ·have ez:z=(x::r')++[d]:=by rw[e,hr];rfl
   have h0:x≠48:=by
    rcases hx with hx|hx
    ·rw[hr]at hx;simp at hx
    ·exact hx
   obtain⟨i1,i2⟩:=ih (x::r') (by rw[ez]at hl;simpa using hl) ⟨x,r',rfl,fun y hy=>hf y (by rw[ez];exact Y1 _ hy),.inr h0⟩
   have hd:=c1a d (hf d (by rw[ez];simp))
   have i2:0<valD (x::r'):=by
    rcases i2 with i2|i2
    ·exact absurd (Wh i2).1 h0
    ·exact i2
   rw[ez,d2d,b1e (by omega),show(10*valD (x::r')+(d-48))/10=valD (x::r') by omega,i1,show 48+(10*valD (x::r')+(d-48))%10=d by omega]
   exact⟨rfl,.inr (by omega)⟩
theorem d2e{z:List Nat}(h:a2n z=true):NumZ z/\z.length<=30:=by
 unfold a2n at h
 simp only[Y2,Wn,Bool.or_eq_true,Xx]at h
 obtain⟨h1,h2,h3,h4⟩:=h
 cases z with
 |nil=>simp at h1
 |cons x r=>
  refine⟨⟨x,r,rfl,fun y hy=>Ze (h3 y hy),?_⟩,h2⟩
  rcases h4 with h4|h4
  ·exact .inl (Wh h4).2
  ·exact .inr (by simpa using h4)
abbrev a8m:Sp:=fun vs H Q _=>match vs with| [.str s]=>∃n:Nat,n<10^30/\((s=⟨(a1k n).toArray⟩/\Q (.int (n:Int)) H)\/(s=⟨(126::a1k n).toArray⟩/\Q (.int (-(n:Int))) H))|_=>False
abbrev b9u(K:W.Frag):Sp:=fun vs H Q _=>match vs with| [.int n]=>∀(v:V)(H':Hp),Same H H'->Den K H' v (Trm.num n).data->Q v H'|_=>False
abbrev b0r(K:W.Frag):Sp:=fun vs H Q _=>match vs with| [.str x]=>∀(v:V)(H':Hp),Same H H'->Den K H' v (Trm.any x).data->Q v H'|_=>False
abbrev b1z(K:W.Frag):Sp:=fun vs H Q _=>match vs with| [.str s,.ref p]=>∃(us:List V)(ts:List Trm),SqL K H p us/\DenL K H us (Trm.dataL ts)/\ts.length<=1000/\∀(v:V)(H':Hp),Same H H'->Den K H' v (Trm.app s ts).data->Q v H'|_=>False
abbrev a2x:Trm:=.app (ofString "[]") []
abbrev b0s(K:W.Frag):Sp:=fun vs H Q _=>match vs with| [.ref p,v]=>∃(us:List V)(ts:List Trm)(r:Trm),SqL K H p us/\DenL K H us (Trm.dataL ts)/\ts.length<=1000/\Den K H v r.data/\∀(v':V)(H':Hp),Same H H'->Den K H' v' (mkL ts r).data->Q v' H'|_=>False
abbrev b4u(K:W.Frag):Sp:=fun vs H Q _=>match vs with| [v]=>∃t:Trm,Den K H v t.data/\t.size<=1000/\∀H',Same H H'->Q (.int t.size) H'|_=>False
abbrev onB(H0:Hp)(B:Addr)(E:XK):Prop:=onX H0 B E
abbrev Pc:=List Nat
def valZ:List Nat->Int
 | []=>0
 |c::r=>if c=126 then -(valD r:Int)else(valD (c::r):Int)
def thgZ(z:Pc):Option Trm:=
 if kindOf z=ofString "num" then some (.num (valZ z))
 else if kindOf z=ofString "name" then(if z.length<=12 then some (.any ⟨z.toArray⟩)else none)
 else if kindOf z=ofString "word" then(if z.length<=12 then some (.app ⟨z.toArray⟩ [])else none)
 else none
def Pok(z:Pc):Prop:=∃c r,z=c::r/\(c::r).length<=900/\a1v (c::r)/\(inn c->∀y∈r,inn y)
def resTh(K:W.Frag)(H:Hp)(B:Addr)(Q:VK)(E:XK):Option Trm->Prop
 |some t=>∀(v':V)(H':Hp),Same H H'->Den K H' v' t.data->Q v' H'
 |none=>onX H B E
abbrev a9p(K:W.Frag)(B:Addr):Sp:=fun vs H Q E=>match vs with| [v]=>(∃z:Pc,Den K H v (pcB z)/\Pok z/\resTh K H B Q E (thgZ z))\/(∃a:Addr,v=.ref a/\SqT K H a [.str (ofString "end"),.str (ofString "")]/\onX H B E)|_=>False
abbrev Sg:=Int×Str
abbrev Tb:=List (Str×Sg)
def lkT:Tb->Str->Option Sg
 | [],_=>none
 |r::tb,x=>if r.1=x then some r.2 else lkT tb x
inductive TR(K:W.Frag)(H:Hp):List (Key×V)->Tb->Prop where
 |nil:TR K H [] []
 |cons {x:Str} {a:Addr} {g:Sg} {kvs:List (Key×V)} {tb:Tb}:SqT K H a [.int g.1,.str g.2]->TR K H kvs tb->TR K H ((Sum.inr x,.ref a)::kvs) ((x,g)::tb)
theorem TR.monoT{K:W.Frag}{H H':Hp}{kvs:List (Key×V)}{tb:Tb}(h:TR K H kvs tb)(ht:∀a xs,SqT K H a xs->SqT K H' a xs):TR K H' kvs tb:=by
 induction h with
 |nil=>exact .nil
 |cons d _ ih=>exact .cons (ht _ _ d) ih
theorem TR.val{K:W.Frag}{H:Hp}{kvs:List (Key×V)}{tb:Tb}(h:TR K H kvs tb)(x:Str):(valV kvs (Sum.inr x)=none/\lkT tb x=none)\/∃a g,valV kvs (Sum.inr x)=some (.ref a)/\lkT tb x=some g/\SqT K H a [.int g.1,.str g.2]:=by
 induction h with
 |nil=>exact .inl ⟨rfl,rfl⟩
 | @cons y a g kvs tb d _ ih=>
  by_cases e:y=x
  ·exact .inr ⟨a,g,a3z (by rw[e]),by rw[lkT,if_pos e],d⟩
  ·rw[a3k (fun z=>e (Sum.inr.inj z)),lkT,if_neg e];exact ih
def bf(e l:Sg):Option Bool:=if e.1=l.1 then(if l.2=a1f then none else some (decide (l.2=a2w)))else some (decide (e.1<l.1))
def resB(H:Hp)(C:Addr)(Q:VK)(E:XK):Option Bool->Prop
 |some b=>∀H',Same H H'->Q (.bl b) H'
 |none=>onX H C E
abbrev a7d(K:W.Frag)(C:Addr):Sp:=fun vs H Q E=>match vs with| [.ref a,.ref b]=>∃e l:Sg,SqT K H a [.int e.1,.str e.2]/\SqT K H b [.int l.1,.str l.2]/\resB H C Q E (bf e l)|_=>False
structure Lv where
 kind:Str
 word:Str
 done:List Trm
 sides:List Trm
 wait:List Str
abbrev a1o:Str:=ofString "kind"
abbrev a1z:Str:=ofString "word"
abbrev a2y:Str:=ofString "done"
abbrev a4p:Str:=ofString "sides"
abbrev b4v:Str:=ofString "waiting"
structure Fp where
 l:Addr
 da:Addr
 sa:Addr
 wa:Addr
def fsL(k w:Str)(f:Fp):List (Str×V):=[(a1o,.str k),(a1z,.str w),(a2y,.ref f.da),(a4p,.ref f.sa),(b4v,.ref f.wa)]
theorem a9c(k w:Str)(f:Fp):(fsL k w f).lookup (ofString "kind")=some (.str k):=by
 simp only[fsL,List.lookup,show(ofString "kind"==a1o)=true by decide+kernel]
theorem fl_word(k w:Str)(f:Fp):(fsL k w f).lookup (ofString "word")=some (.str w):=by
 simp only[fsL,List.lookup,show(ofString "word"==a1o)=false by decide+kernel,show(ofString "word"==a1z)=true by decide+kernel]
theorem a7e(k w:Str)(f:Fp):(fsL k w f).lookup (ofString "done")=some (.ref f.da):=by
 simp only[fsL,List.lookup,show(ofString "done"==a1o)=false by decide+kernel,show(ofString "done"==a1z)=false by decide+kernel,show(ofString "done"==a2y)=true by decide+kernel]
theorem a9d(k w:Str)(f:Fp):(fsL k w f).lookup (ofString "sides")=some (.ref f.sa):=by
 simp only[fsL,List.lookup,show(ofString "sides"==a1o)=false by decide+kernel,show(ofString "sides"==a1z)=false by decide+kernel,show(ofString "sides"==a2y)=false by decide+kernel,show(ofString "sides"==a4p)=true by decide+kernel]
theorem a7f(k w:Str)(f:Fp):(fsL k w f).lookup (ofString "waiting")=some (.ref f.wa):=by
 simp only[fsL,List.lookup,show(ofString "waiting"==a1o)=false by decide+kernel,show(ofString "waiting"==a1z)=false by decide+kernel,show(ofString "waiting"==a2y)=false by decide+kernel,show(ofString "waiting"==a4p)=false by decide+kernel,show(ofString "waiting"==b4v)=true by decide+kernel]
structure LvAt(K:W.Frag)(C:Addr)(H:Hp)(f:Fp)(lv:Lv):Prop where
 ob:∃dx,H f.l=some (.ins C dx (fsL lv.kind lv.word f))
 dn:∃us,H f.da=some (.lst us)/\DenL K H us (Trm.dataL lv.done)
 sd:∃us,H f.sa=some (.lst us)/\DenL K H us (Trm.dataL lv.sides)
 wt:H f.wa=some (.lst (lv.wait.map V.str))
 n1:f.da≠f.sa
 n2:f.da≠f.wa
 n3:f.sa≠f.wa
def Fp.all(f:Fp):List Addr:=[f.l,f.da,f.sa,f.wa]
def LF(f:Fp)(H H':Hp):Prop:=∀b o,b∉f.all->H b=some o->H' b=some o
theorem LF.refl(f:Fp)(H:Hp):LF f H H:=fun _ _ _ e=>e
theorem LF.trans{f:Fp}{H H1 H2:Hp}(a:LF f H H1)(b:LF f H1 H2):LF f H H2:=fun c o h e=>b c o h (a c o h e)
theorem LF.of{f:Fp}{H H':Hp}(s:Same H H'):LF f H H':=fun b o _ e=>s b o e
section
variable{K:W.Frag}{C:Addr}{H H':Hp}{f:Fp}{lv:Lv}
theorem LvAt.same(w:LvAt K C H f lv)(s:Same H H'):LvAt K C H' f lv:=by
 obtain⟨⟨dx,h1⟩,⟨us,h2,h3⟩,⟨vs,h4,h5⟩,h6,n1,n2,n3⟩:=w
 exact⟨⟨dx,s _ _ h1⟩,⟨us,s _ _ h2,h3.mono s⟩,⟨vs,s _ _ h4,h5.mono s⟩,s _ _ h6,n1,n2,n3⟩
theorem LvAt.tup(w:LvAt K C H f lv)(g:LF f H H'):∀a xs,SqT K H a xs->SqT K H' a xs:=fun a xs q=>by
 obtain⟨dx,h1⟩:=w.ob
 obtain⟨us,h2,_⟩:=w.dn
 obtain⟨vs,h3,_⟩:=w.sd
 have h4:=w.wt
 have key:∀o,H a=some o->(∀c d fs,o≠.ins c d fs)->(∀ys,o≠.lst ys)->a∉f.all:=fun o e i1 i2 m=>by
  simp only[Fp.all,Zk,Zz,Xl]at m
  rcases m with m|m|m|m
  ·rw[m,h1]at e;exact i1 _ _ _ (Zo e).symm
  ·rw[m,h2]at e;exact i2 _ (Zo e).symm
  ·rw[m,h3]at e;exact i2 _ (Zo e).symm
  ·rw[m,h4]at e;exact i2 _ (Zo e).symm
 rcases q with(q|⟨o,q⟩)|q
 ·exact .inl (.inl (g _ _ (key _ q (fun _ _ _ z=>by cases z) (fun _ z=>by cases z)) q))
 ·exact .inl (.inr ⟨o,g _ _ (key _ q (fun _ _ _ z=>by cases z) (fun _ z=>by cases z)) q⟩)
 ·exact .inr q
theorem LvAt.setS(w:LvAt K C H f lv){us:List V}{ts:List Trm}(d:DenL K H us (Trm.dataL ts)):LvAt K C (upd H f.sa (.lst us)) f { lv with sides:=ts}/\LF f H (upd H f.sa (.lst us)):=by
 have g:LF f H (upd H f.sa (.lst us)):=fun b o hb e=>by rw[a0j (fun z=>hb (by rw[z];simp[Fp.all]))];exact e
 have t:=w.tup g
 obtain⟨⟨dx,h1⟩,⟨vs,h2,h3⟩,⟨ws,h4,h5⟩,h6,n1,n2,n3⟩:=w
 exact⟨⟨⟨dx,by rw[a0j (fun z=>by rw[z,h4]at h1;cases h1)];exact h1⟩,⟨vs,by rw[a0j n1];exact h2,h3.monoT t⟩,⟨us,a0c,d.monoT t⟩,by rw[a0j (Ne.symm n3)];exact h6,n1,n2,n3⟩,g⟩
theorem LvAt.setD(w:LvAt K C H f lv){us:List V}{ts:List Trm}(d:DenL K H us (Trm.dataL ts)):LvAt K C (upd H f.da (.lst us)) f { lv with done:=ts}/\LF f H (upd H f.da (.lst us)):=by
 have g:LF f H (upd H f.da (.lst us)):=fun b o hb e=>by rw[a0j (fun z=>hb (by rw[z];simp[Fp.all]))];exact e
 have t:=w.tup g
 obtain⟨⟨dx,h1⟩,⟨vs,h2,h3⟩,⟨ws,h4,h5⟩,h6,n1,n2,n3⟩:=w
 exact⟨⟨⟨dx,by rw[a0j (fun z=>by rw[z,h2]at h1;cases h1)];exact h1⟩,⟨us,a0c,d.monoT t⟩,⟨ws,by rw[a0j (Ne.symm n1)];exact h4,h5.monoT t⟩,by rw[a0j (Ne.symm n2)];exact h6,n1,n2,n3⟩,g⟩
theorem LvAt.setW(w:LvAt K C H f lv){ms:List Str}:LvAt K C (upd H f.wa (.lst (ms.map V.str))) f { lv with wait:=ms}/\LF f H (upd H f.wa (.lst (ms.map V.str))):=by
 have g:LF f H (upd H f.wa (.lst (ms.map V.str))):=fun b o hb e=>by rw[a0j (fun z=>hb (by rw[z];simp[Fp.all]))];exact e
 have t:=w.tup g
 obtain⟨⟨dx,h1⟩,⟨vs,h2,h3⟩,⟨ws,h4,h5⟩,h6,n1,n2,n3⟩:=w
 exact⟨⟨⟨dx,by rw[a0j (fun z=>by rw[z,h6]at h1;cases h1)];exact h1⟩,⟨vs,by rw[a0j n2];exact h2,h3.monoT t⟩,⟨ws,by rw[a0j n3];exact h4,h5.monoT t⟩,a0c,n1,n2,n3⟩,g⟩
end
def jn:List Trm->List Str->List Trm
 |b::a::r,m::ws=>jn (.app m [a,b]::r) ws
 |r,_=>r
def addM(tb:Tb)(m:Str)(g:Sg):List Trm->List Str->Option (List Trm×List Str)
 |b::a::r,w::ws=>match bf ((lkT tb w).getD (0,a1f)) g with
  |none=>none
  |some true=>addM tb m g (.app w [a,b]::r) ws
  |some false=>some (b::a::r,m::w::ws)
 |r,ws=>some (r,m::ws)
abbrev a5s(K:W.Frag)(C:Addr):Sp:=fun vs H Q _=>match vs with| [.ref l,.str k,.str w]=>∃dx,H l=some (.ins C dx [])/\∀(f:Fp)(H':Hp),f.l=l->LvAt K C H' f ⟨k,w,[],[],[]⟩->(∀b o,b≠l->H b=some o->H' b=some o)->H f.da=none->H f.sa=none->H f.wa=none->Q .non H'|_=>False
abbrev a6p(K:W.Frag)(C:Addr):Sp:=fun vs H Q _=>match vs with| [.ref l]=>∃(f:Fp)(lv:Lv)(ss:List Trm)(a b:Trm)(ms:List Str)(m:Str),f.l=l/\LvAt K C H f lv/\lv.sides=ss++[a,b]/\lv.wait=ms++[m]/\ss.length<=1000/\∀H',LF f H H'->LvAt K C H' f { lv with sides:=ss++[.app m [a,b]],wait:=ms}->Q .non H'|_=>False
abbrev a8d(K:W.Frag)(C:Addr):Sp:=fun vs H Q _=>match vs with| [.ref l]=>∃(f:Fp)(lv:Lv),f.l=l/\LvAt K C H f lv/\lv.sides.length=lv.wait.length+1/\lv.wait.length<=500/\lv.done.length<=500/\∀(x:Trm) H',jn lv.sides.reverse lv.wait.reverse=[x]->LF f H H'->LvAt K C H' f { lv with done:=lv.done++[x],sides:=[],wait:=[]}->Q .non H'|_=>False
def resM(K:W.Frag)(H:Hp)(C B:Addr)(Q:VK)(E:XK)(f:Fp)(lv:Lv):Option (List Trm×List Str)->Prop
 |some r=>∀H',LF f H H'->LvAt K C H' f { lv with sides:=r.1.reverse,wait:=r.2.reverse}->Q .non H'
 |none=>∀ea H',LF f H H'->IsX H' ea B [(rowS,.int 0)]->E (.ref B) (some ea) H'
abbrev a9q(K:W.Frag)(C B:Addr):Sp:=fun vs H Q E=>match vs with| [.ref l,.str m,.ref d]=>∃(f:Fp)(lv:Lv)(kvs:List (Key×V))(tb:Tb)(g:Sg),f.l=l/\LvAt K C H f lv/\H d=some (.dK kvs)/\TR K H kvs tb/\lkT tb m=some g/\(∀w∈lv.wait,(lkT tb w).isSome=true)/\lv.sides.length=lv.wait.length+1/\lv.wait.length<=500/\resM K H C B Q E f lv (addM tb m g lv.sides.reverse lv.wait.reverse)|_=>False
abbrev b3v(K:W.Frag):Sp:=fun vs H Q _=>match vs with| [.ref a]=>∃ns:List Int,SqL K H a (ns.map V.int)/\ns.length<=63/\∀H',Q (.bl true) H'|_=>False
noncomputable def cO(n q:Str)(a b c:Tok)(l m f:Int)(r:Addr)(x:Int)(s:Addr)(v w:Value)(u:Addr)(y:Int)(d:Tok):Obj:=.mk (.type "code") none (.fields (List.toArray ((.str n a)::(.str q b)::(.str "/claim/cut.py" c)::(.int l 0)::(.int m 0)::(.int 0 0)::(.int 0 0)::(.int f 0)::(.ref r)::(.bool true)::(.int x 0)::(.ref s)::.none::v::w::(.ref u)::(.int y 0)::(.int l 0)::(.str "/claim/cut.py" d)::[]))) #[]
noncomputable def fO(n q:Str)(s:Stmt)(m:Value)(c:Addr):Obj:=.mk (.type "function") none (.func (W.fnOf n q (a7w s) (a5e s) (a0h s) .none .none .none m none (.ref c) .none)) #[]
def kb2(P:Params):Obj:=.mk .none none (.dict #[] 0) #[]
def kb3(P:Params):Obj:=.mk (.type "dict") none (.dict (List.toArray ((.mk (keyHash P "__name__") (.str "__name__" 165) (.str "law_goaltrail_k10_no_bracket_too_many" 763))::(.mk (keyHash P "__doc__") (.str "__doc__" 166) .none)::(.mk (keyHash P "__package__") (.str "__package__" 167) .none)::(.mk (keyHash P "__loader__") (.str "__loader__" 168) (.builtin "__main__.__loader__#opaque"))::(.mk (keyHash P "__spec__") (.str "__spec__" 169) .none)::(.mk (keyHash P "__annotations__") (.str "__annotations__" 170) (.ref 6))::(.mk (keyHash P "__builtins__") (.str "__builtins__" 171) (.ref 4))::(.mk (keyHash P "__file__") (.str "__file__" 173) (.str "/claim/cut.py" 172))::(.mk (keyHash P "__cached__") (.str "__cached__" 174) .none)::(.mk (keyHash P "_wall") (.str "_wall" 193) (.ref 21))::(.mk (keyHash P "SMALL") (.str "SMALL" 197) (.str "abcdefghijklmnopqrstuvwxyz" 196))::(.mk (keyHash P "GREAT") (.str "GREAT" 199) (.str "ABCDEFGHIJKLMNOPQRSTUVWXYZ" 198))::(.mk (keyHash P "FIGURES") (.str "FIGURES" 201) (.str "0123456789" 200))::(.mk (keyHash P "MARK_SIGNS") (.str "MARK_SIGNS" 203) (.str "+-*/:<=>&^?@#!;$" 202))::(.mk (keyHash P "ARROW") (.str "ARROW" 205) (.str "<-" 204))::(.mk (keyHash P "PAIR_SIGN") (.str "PAIR_SIGN" 207) (.str "[|]" 206))::(.mk (keyHash P "EMPTY_LIST") (.str "EMPTY_LIST" 210) (.ref 23))::(.mk (keyHash P "MOST_LETTERS") (.str "MOST_LETTERS" 212) (.int 12 211))::(.mk (keyHash P "MOST_PARTS") (.str "MOST_PARTS" 214) (.int 40 213))::(.mk (keyHash P "num") (.str "num" 221) (.ref 30))::(.mk (keyHash P "unknown") (.str "unknown" 228) (.ref 37))::(.mk (keyHash P "app") (.str "app" 236) (.ref 44))::(.mk (keyHash P "is_pair") (.str "is_pair" 243) (.ref 51))::(.mk (keyHash P "items_of") (.str "items_of" 252) (.ref 58))::(.mk (keyHash P "list_of") (.str "list_of" 262) (.ref 65))::(.mk (keyHash P "parts") (.str "parts" 272) (.ref 72))::(.mk (keyHash P "is_inner") (.str "is_inner" 279) (.ref 79))::(.mk (keyHash P "is_called") (.str "is_called" 285) (.ref 84))::(.mk (keyHash P "is_word") (.str "is_word" 292) (.ref 91))::(.mk (keyHash P "is_name") (.str "is_name" 299) (.ref 98))::(.mk (keyHash P "shown") (.str "shown" 313) (.ref 105))::(.mk (keyHash P "spread") (.str "spread" 321) (.ref 112))::(.mk (keyHash P "number_shown") (.str "number_shown" 328) (.ref 119))::(.mk (keyHash P "parted") (.str "parted" 337) (.ref 126))::(.mk (keyHash P "list_spread") (.str "list_spread" 346) (.ref 133))::(.mk (keyHash P "word_spread") (.str "word_spread" 353) (.ref 140))::(.mk (keyHash P "mark_spread") (.str "mark_spread" 364) (.ref 147))::(.mk (keyHash P "beside") (.str "beside" 375) (.ref 154))::(.mk (keyHash P "rank_of") (.str "rank_of" 383) (.ref 161))::(.mk (keyHash P "TrailError") (.str "TrailError" 414) (.ref 179))::(.mk (keyHash P "NoText") (.str "NoText" 430) (.ref 192))::(.mk (keyHash P "SINGLE_SIGNS") (.str "SINGLE_SIGNS" 434) (.str "()[],|" 433))::(.mk (keyHash P "BELOW_NOUGHT") (.str "BELOW_NOUGHT" 436) (.str "~" 435))::(.mk (keyHash P "MOST_FIGURES") (.str "MOST_FIGURES" 438) (.int 30 437))::(.mk (keyHash P "pieces") (.str "pieces" 448) (.ref 201))::(.mk (keyHash P "piece_at") (.str "piece_at" 457) (.ref 208))::(.mk (keyHash P "mark_run") (.str "mark_run" 466) (.ref 215))::(.mk (keyHash P "inner_run") (.str "inner_run" 475) (.ref 222))::(.mk (keyHash P "mark_piece") (.str "mark_piece" 482) (.ref 229))::(.mk (keyHash P "inner_piece") (.str "inner_piece" 489) (.ref 236))::(.mk (keyHash P "below_nought_piece") (.str "below_nought_piece" 496) (.ref 243))::(.mk (keyHash P "is_number") (.str "is_number" 502) (.ref 248))::(.mk (keyHash P "MOST_KIDS") (.str "MOST_KIDS" 506) (.int 4 505))::(.mk (keyHash P "BEHIND_ALL") (.str "BEHIND_ALL" 509) (.ref 249))::(.mk (keyHash P "CLOSERS") (.str "CLOSERS" 525) (.ref 250))::(.mk (keyHash P "Level") (.str "Level" 559) (.ref 267))::(.mk (keyHash P "Reading") (.str "Reading" 684) (.ref 365))::(.mk (keyHash P "checked_word") (.str "checked_word" 691) (.ref 376))::(.mk (keyHash P "checked_name") (.str "checked_name" 698) (.ref 383))::(.mk (keyHash P "number_of") (.str "number_of" 705) (.ref 390))::(.mk (keyHash P "thing_of") (.str "thing_of" 712) (.ref 397))::(.mk (keyHash P "add_mark") (.str "add_mark" 721) (.ref 404))::(.mk (keyHash P "binds_first") (.str "binds_first" 729) (.ref 411))::(.mk (keyHash P "join_last") (.str "join_last" 738) (.ref 418))::(.mk (keyHash P "finish") (.str "finish" 745) (.ref 425))::(.mk (keyHash P "closed") (.str "closed" 752) (.ref 432))::(.mk (keyHash P "read") (.str "read" 762) (.ref 439))::(.mk (keyHash P "_law_cell_at") (.str "_law_cell_at" 772) (.ref 446))::(.mk (keyHash P "_law_stream") (.str "_law_stream" 783) (.ref 453))::(.mk (keyHash P "_law_cells") (.str "_law_cells" 789) (.ref 458))::(.mk (keyHash P "_law_number") (.str "_law_number" 797) (.ref 465))::(.mk (keyHash P "_law_letters") (.str "_law_letters" 809) (.ref 472))::(.mk (keyHash P "_law_mark") (.str "_law_mark" 818) (.ref 479))::(.mk (keyHash P "_law_table") (.str "_law_table" 832) (.ref 486))::(.mk (keyHash P "_law_leaf") (.str "_law_leaf" 840) (.ref 493))::(.mk (keyHash P "_law_menu") (.str "_law_menu" 849) (.ref 500))::(.mk (keyHash P "_law_sign") (.str "_law_sign" 858) (.ref 507))::(.mk (keyHash P "_law_grown") (.str "_law_grown" 873) (.ref 514))::(.mk (keyHash P "_law_closed_at") (.str "_law_closed_at" 883) (.ref 521))::(.mk (keyHash P "_law_spots") (.str "_law_spots" 892) (.ref 528))::(.mk (keyHash P "_law_read") (.str "_law_read" 901) (.ref 535))::(.mk (keyHash P "law") (.str "law" 917) (.ref 542))::[])) 82) #[]
def kb22(P:Params):Obj:=.mk (.type "tuple") none (.seq #[] 0) #[]
def kb23(P:Params):Obj:=.mk (.type "tuple") none (.seq #[(.str "app" 208),(.str "[]" 209),(.ref 22)] 0) #[]
def kb169(P:Params):Obj:=.mk (.type "tuple") none (.seq #[(.int 0 398)] 0) #[]
def kb176(P:Params):Obj:=.mk (.type "function") none (.func (W.fnOf "__init__" "TrailError.__init__" (a7w a4b) (a5e a4b) (a0h a4b) (.ref 169) .none .none (.str "goaltrail.errors" 384) none (.ref 175) .none)) #[]
def kb178(P:Params):Obj:=.mk (.type "dict") none (.dict (List.toArray ((.mk (keyHash P "__module__") (.str "__module__" 393) (.str "goaltrail.errors" 384))::(.mk (keyHash P "__firstlineno__") (.str "__firstlineno__" 397) (.int 110 396))::(.mk (keyHash P "__init__") (.str "__init__" 407) (.ref 176))::(.mk (keyHash P "__static_attributes__") (.str "__static_attributes__" 409) (.ref 177))::(.mk (keyHash P "__weakref__") (.str "__weakref__" 411) (.ref 180))::(.mk (keyHash P "__doc__") (.str "__doc__" 412) .none)::[])) 3) #[]
def kb179(P:Params):Obj:=.mk (.type "type") none (.cls (.mk "TrailError" [(.type "ValueError")] [(.ref 179),(.type "ValueError"),(.type "Exception"),(.type "BaseException"),(.type "object")] 178 "TrailError" Bool.true [] [(.ref 192)] Bool.false none Bool.false)) (List.toArray ((some (.ref 162))::none::(some (.str "TrailError" 386))::(some (.str "TrailError" 394))::(some (.builtin "ValueError.__new__"))::(some (.bool true))::[]))
def kb191(P:Params):Obj:=.mk (.type "dict") none (.dict #[(.mk (keyHash P "__module__") (.str "__module__" 422) (.str "goaltrail.errors" 384)),(.mk (keyHash P "__firstlineno__") (.str "__firstlineno__" 426) (.int 115 425)),(.mk (keyHash P "__static_attributes__") (.str "__static_attributes__" 427) (.ref 190)),(.mk (keyHash P "__doc__") (.str "__doc__" 428) .none)] 2) #[]
def kb192(P:Params):Obj:=.mk (.type "type") none (.cls (.mk "NoText" [(.ref 179)] [(.ref 192),(.ref 179),(.type "ValueError"),(.type "Exception"),(.type "BaseException"),(.type "object")] 191 "NoText" Bool.true [] [] Bool.false none Bool.false)) (List.toArray ((some (.ref 183))::none::(some (.str "NoText" 415))::(some (.str "NoText" 423))::(some (.builtin "ValueError.__new__"))::(some (.bool true))::[]))
def kb249(P:Params):Obj:=.mk (.type "tuple") none (.seq #[(.str "end" 507),(.str "" 508)] 0) #[]
def kb250(P:Params):Obj:=.mk (.type "dict") none (.dict (List.toArray ((.mk (keyHash P "whole") (.str "whole" 510) (.str "" 511))::(.mk (keyHash P "round") (.str "round" 512) (.str ")" 513))::(.mk (keyHash P "kids") (.str "kids" 514) (.str ")" 515))::(.mk (keyHash P "list") (.str "list" 516) (.str "]" 517))::(.mk (keyHash P "rest") (.str "rest" 518) (.str "]" 519))::[])) 5) #[]
def kb266(P:Params):Obj:=.mk (.type "dict") none (.dict (List.toArray ((.mk (keyHash P "__module__") (.str "__module__" 533) (.str "goaltrail.reader" 503))::(.mk (keyHash P "__firstlineno__") (.str "__firstlineno__" 537) (.int 175 536))::(.mk (keyHash P "__init__") (.str "__init__" 546) (.ref 264))::(.mk (keyHash P "__static_attributes__") (.str "__static_attributes__" 552) (.ref 265))::(.mk (keyHash P "__dict__") (.str "__dict__" 554) (.ref 268))::(.mk (keyHash P "__weakref__") (.str "__weakref__" 556) (.ref 269))::(.mk (keyHash P "__doc__") (.str "__doc__" 557) .none)::[])) 4) #[]
def kb267(P:Params):Obj:=.mk (.type "type") none (.cls (.mk "Level" [(.type "object")] [(.ref 267),(.type "object")] 266 "Level" Bool.true [] [] Bool.false none Bool.false)) (List.toArray (none::none::(some (.str "Level" 526))::(some (.str "Level" 534))::(some (.builtin "object.__new__"))::(some (.bool true))::[]))
def kb364(P:Params):Obj:=.mk (.type "dict") none (.dict (List.toArray ((.mk (keyHash P "__module__") (.str "__module__" 567) (.str "goaltrail.reader" 503))::(.mk (keyHash P "__firstlineno__") (.str "__firstlineno__" 571) (.int 183 570))::(.mk (keyHash P "__init__") (.str "__init__" 580) (.ref 285))::(.mk (keyHash P "seen") (.str "seen" 589) (.ref 292))::(.mk (keyHash P "sees") (.str "sees" 597) (.ref 299))::(.mk (keyHash P "take_term") (.str "take_term" 606) (.ref 306))::(.mk (keyHash P "take_openers") (.str "take_openers" 615) (.ref 313))::(.mk (keyHash P "begin") (.str "begin" 625) (.ref 320))::(.mk (keyHash P "take_thing") (.str "take_thing" 633) (.ref 327))::(.mk (keyHash P "take_closers") (.str "take_closers" 641) (.ref 334))::(.mk (keyHash P "take_between") (.str "take_between" 650) (.ref 341))::(.mk (keyHash P "take_sign") (.str "take_sign" 658) (.ref 348))::(.mk (keyHash P "take_terms") (.str "take_terms" 665) (.ref 355))::(.mk (keyHash P "take_end") (.str "take_end" 672) (.ref 362))::(.mk (keyHash P "__static_attributes__") (.str "__static_attributes__" 677) (.ref 363))::(.mk (keyHash P "__dict__") (.str "__dict__" 679) (.ref 366))::(.mk (keyHash P "__weakref__") (.str "__weakref__" 681) (.ref 367))::(.mk (keyHash P "__doc__") (.str "__doc__" 682) .none)::[])) 4) #[]
def kb365(P:Params):Obj:=.mk (.type "type") none (.cls (.mk "Reading" [(.type "object")] [(.ref 365),(.type "object")] 364 "Reading" Bool.true [] [] Bool.false none Bool.false)) (List.toArray (none::none::(some (.str "Reading" 560))::(some (.str "Reading" 568))::(some (.builtin "object.__new__"))::(some (.bool true))::[]))
noncomputable def KK:Params->W.Frag:=fun P=>(nat_lit 2,kb2 P)::(nat_lit 3,kb3 P)::(nat_lit 22,kb22 P)::(nat_lit 23,kb23 P)::(nat_lit 29,cO "num" "num" 215 216 217 14 1 3 24 181 25 (.ref 26) (.ref 27) 28 219 220)::(nat_lit 30,fO "num" "num" s_num (.str "goaltrail.terms" 194) 29)::(nat_lit 36,cO "unknown" "unknown" 222 223 224 16 1 3 31 181 32 (.ref 33) (.ref 34) 35 226 227)::(nat_lit 37,fO "unknown" "unknown" b5w (.str "goaltrail.terms" 194) 36)::(nat_lit 43,cO "app" "app" 229 230 231 18 2 3 38 181 39 (.ref 40) (.ref 41) 42 234 235)::(nat_lit 44,fO "app" "app" s_a5 (.str "goaltrail.terms" 194) 43)::(nat_lit 50,cO "is_pair" "is_pair" 237 238 239 20 1 3 45 181 46 (.ref 47) (.ref 48) 49 241 242)::(nat_lit 51,fO "is_pair" "is_pair" b5x (.str "goaltrail.terms" 194) 50)::(nat_lit 57,cO "items_of" "items_of" 244 245 246 22 1 3 52 181 53 (.ref 54) (.ref 55) 56 250 251)::(nat_lit 58,fO "items_of" "items_of" b4j (.str "goaltrail.terms" 194) 57)::(nat_lit 64,cO "list_of" "list_of" 253 254 255 29 2 3 59 181 60 (.ref 61) (.ref 62) 63 260 261)::(nat_lit 65,fO "list_of" "list_of" b5y (.str "goaltrail.terms" 194) 64)::(nat_lit 71,cO "parts" "parts" 263 264 265 34 1 3 66 181 67 (.ref 68) (.ref 69) 70 270 271)::(nat_lit 72,fO "parts" "parts" c0q (.str "goaltrail.terms" 194) 71)::(nat_lit 78,cO "is_inner" "is_inner" 273 274 275 43 1 3 73 181 74 (.ref 75) (.ref 76) 77 277 278)::(nat_lit 79,fO "is_inner" "is_inner" b4k (.str "goaltrail.terms" 194) 78)::(nat_lit 83,cO "is_called" "is_called" 280 281 282 45 2 3 80 181 81 .none .none 82 283 284)::(nat_lit 84,fO "is_called" "is_called" a9k (.str "goaltrail.terms" 194) 83)::(nat_lit 90,cO "is_word" "is_word" 286 287 288 49 1 3 85 181 86 (.ref 87) (.ref 88) 89 290 291)::(nat_lit 91,fO "is_word" "is_word" b5z (.str "goaltrail.terms" 194) 90)::(nat_lit 97,cO "is_name" "is_name" 293 294 295 51 1 3 92 181 93 (.ref 94) (.ref 95) 96 297 298)::(nat_lit 98,fO "is_name" "is_name" b6a (.str "goaltrail.terms" 194) 97)::(nat_lit 104,cO "shown" "shown" 302 303 304 54 2 3 99 181 100 (.ref 101) (.ref 102) 103 311 312)::(nat_lit 105,fO "shown" "shown" c0r (.str "goaltrail.writer" 300) 104)::(nat_lit 111,cO "spread" "spread" 314 315 316 66 2 3 106 181 107 (.ref 108) (.ref 109) 110 319 320)::(nat_lit 112,fO "spread" "spread" b8f (.str "goaltrail.writer" 300) 111)::(nat_lit 118,cO "number_shown" "number_shown" 322 323 324 76 1 3 113 181 114 (.ref 115) (.ref 116) 117 326 327)::(nat_lit 119,fO "number_shown" "number_shown" a8x (.str "goaltrail.writer" 300) 118)::(nat_lit 125,cO "parted" "parted" 329 330 331 78 1 3 120 181 121 (.ref 122) (.ref 123) 124 335 336)::(nat_lit 126,fO "parted" "parted" b8g (.str "goaltrail.writer" 300) 125)::(nat_lit 132,cO "list_spread" "list_spread" 338 339 340 85 1 3 127 181 128 (.ref 129) (.ref 130) 131 344 345)::(nat_lit 133,fO "list_spread" "list_spread" b0d (.str "goaltrail.writer" 300) 132)::(nat_lit 139,cO "word_spread" "word_spread" 347 348 349 91 1 3 134 181 135 (.ref 136) (.ref 137) 138 351 352)::(nat_lit 140,fO "word_spread" "word_spread" b0e (.str "goaltrail.writer" 300) 139)::(nat_lit 146,cO "mark_spread" "mark_spread" 354 355 356 95 2 3 141 181 142 (.ref 143) (.ref 144) 145 362 363)::(nat_lit 147,fO "mark_spread" "mark_spread" b0f (.str "goaltrail.writer" 300) 146)::(nat_lit 153,cO "beside" "beside" 365 366 367 100 4 3 148 181 149 (.ref 150) (.ref 151) 152 373 374)::(nat_lit 154,fO "beside" "beside" b8h (.str "goaltrail.writer" 300) 153)::(nat_lit 160,cO "rank_of" "rank_of" 376 377 378 105 2 3 155 181 156 (.ref 157) (.ref 158) 159 381 382)::(nat_lit 161,fO "rank_of" "rank_of" b6b (.str "goaltrail.writer" 300) 160)::(nat_lit 169,kb169 P)::(nat_lit 175,cO "__init__" "TrailError.__init__" 399 400 401 112 3 3 170 181 171 (.ref 172) (.ref 173) 174 405 406)::(nat_lit 176,kb176 P)::(nat_lit 178,kb178 P)::(nat_lit 179,kb179 P)::(nat_lit 191,kb191 P)::(nat_lit 192,kb192 P)::(nat_lit 200,cO "pieces" "pieces" 439 440 441 121 1 3 195 181 196 (.ref 197) (.ref 198) 199 446 447)::(nat_lit 201,fO "pieces" "pieces" b8i (.str "goaltrail.words" 431) 200)::(nat_lit 207,cO "piece_at" "piece_at" 449 450 451 132 2 3 202 181 203 (.ref 204) (.ref 205) 206 455 456)::(nat_lit 208,fO "piece_at" "piece_at" b4l (.str "goaltrail.words" 431) 207)::(nat_lit 214,cO "mark_run" "mark_run" 458 459 460 143 2 3 209 181 210 (.ref 211) (.ref 212) 213 464 465)::(nat_lit 215,fO "mark_run" "mark_run" b4m (.str "goaltrail.words" 431) 214)::(nat_lit 221,cO "inner_run" "inner_run" 467 468 469 148 2 3 216 181 217 (.ref 218) (.ref 219) 220 473 474)::(nat_lit 222,fO "inner_run" "inner_run" b3g (.str "goaltrail.words" 431) 221)::(nat_lit 228,cO "mark_piece" "mark_piece" 476 477 478 153 1 3 223 181 224 (.ref 225) (.ref 226) 227 480 481)::(nat_lit 229,fO "mark_piece" "mark_piece" b1s (.str "goaltrail.words" 431) 228)::(nat_lit 235,cO "inner_piece" "inner_piece" 483 484 485 155 1 3 230 181 231 (.ref 232) (.ref 233) 234 487 488)::(nat_lit 236,fO "inner_piece" "inner_piece" b0g (.str "goaltrail.words" 431) 235)::(nat_lit 242,cO "below_nought_piece" "below_nought_piece" 490 491 492 163 1 3 237 181 238 (.ref 239) (.ref 240) 241 494 495)::(nat_lit 243,fO "below_nought_piece" "below_nought_piece" a5m (.str "goaltrail.words" 431) 242)::(nat_lit 247,cO "is_number" "is_number" 497 498 499 167 1 3 244 181 245 .none .none 246 500 501)::(nat_lit 248,fO "is_number" "is_number" a9l (.str "goaltrail.words" 431) 247)::(nat_lit 249,kb249 P)::(nat_lit 250,kb250 P)::(nat_lit 263,cO "__init__" "Level.__init__" 538 539 540 177 3 3 258 181 259 (.ref 260) (.ref 261) 262 544 545)::(nat_lit 264,fO "__init__" "Level.__init__" b1r (.str "goaltrail.reader" 503) 263)::(nat_lit 266,kb266 P)::(nat_lit 267,kb267 P)::(nat_lit 284,cO "__init__" "Reading.__init__" 572 573 574 185 3 3 279 181 280 (.ref 281) (.ref 282) 283 578 579)::(nat_lit 285,fO "__init__" "Reading.__init__" a8u (.str "goaltrail.reader" 503) 284)::(nat_lit 291,cO "seen" "Reading.seen" 581 582 583 191 2 3 286 181 287 (.ref 288) (.ref 289) 290 587 588)::(nat_lit 292,fO "seen" "Reading.seen" a8v (.str "goaltrail.reader" 503) 291)::(nat_lit 298,cO "sees" "Reading.sees" 590 591 592 195 2 3 293 181 294 (.ref 295) (.ref 296) 297 595 596)::(nat_lit 299,fO "sees" "Reading.sees" a8w (.str "goaltrail.reader" 503) 298)::(nat_lit 305,cO "take_term" "Reading.take_term" 598 599 600 198 1 3 300 181 301 (.ref 302) (.ref 303) 304 604 605)::(nat_lit 306,fO "take_term" "Reading.take_term" a6a (.str "goaltrail.reader" 503) 305)::(nat_lit 312,cO "take_openers" "Reading.take_openers" 607 608 609 214 1 3 307 181 308 (.ref 309) (.ref 310) 311 613 614)::(nat_lit 313,fO "take_openers" "Reading.take_openers" a4z (.str "goaltrail.reader" 503) 312)::(nat_lit 319,cO "begin" "Reading.begin" 616 617 618 227 4 3 314 181 315 (.ref 316) (.ref 317) 318 623 624)::(nat_lit 320,fO "begin" "Reading.begin" a8j (.str "goaltrail.reader" 503) 319)::(nat_lit 326,cO "take_thing" "Reading.take_thing" 626 627 628 231 1 3 321 181 322 (.ref 323) (.ref 324) 325 631 632)::(nat_lit 327,fO "take_thing" "Reading.take_thing" a5l (.str "goaltrail.reader" 503) 326)::(nat_lit 333,cO "take_closers" "Reading.take_closers" 634 635 636 240 1 3 328 181 329 (.ref 330) (.ref 331) 332 639 640)::(nat_lit 334,fO "take_closers" "Reading.take_closers" a5a (.str "goaltrail.reader" 503) 333)::(nat_lit 340,cO "take_between" "Reading.take_between" 642 643 644 247 1 3 335 181 336 (.ref 337) (.ref 338) 339 648 649)::(nat_lit 341,fO "take_between" "Reading.take_between" a5b (.str "goaltrail.reader" 503) 340)::(nat_lit 361,cO "take_end" "Reading.take_end" 666 667 668 268 1 3 356 181 357 (.ref 358) (.ref 359) 360 670 671)::(nat_lit 362,fO "take_end" "Reading.take_end" a6m (.str "goaltrail.reader" 503) 361)::(nat_lit 364,kb364 P)::(nat_lit 365,kb365 P)::(nat_lit 375,cO "checked_word" "checked_word" 685 686 687 271 1 3 370 181 371 (.ref 372) (.ref 373) 374 689 690)::(nat_lit 376,fO "checked_word" "checked_word" a8y (.str "goaltrail.reader" 503) 375)::(nat_lit 382,cO "checked_name" "checked_name" 692 693 694 275 1 3 377 181 378 (.ref 379) (.ref 380) 381 696 697)::(nat_lit 383,fO "checked_name" "checked_name" a8z (.str "goaltrail.reader" 503) 382)::(nat_lit 389,cO "number_of" "number_of" 699 700 701 279 1 3 384 181 385 (.ref 386) (.ref 387) 388 703 704)::(nat_lit 390,fO "number_of" "number_of" b3h (.str "goaltrail.reader" 503) 389)::(nat_lit 396,cO "thing_of" "thing_of" 706 707 708 283 1 3 391 181 392 (.ref 393) (.ref 394) 395 710 711)::(nat_lit 397,fO "thing_of" "thing_of" b4n (.str "goaltrail.reader" 503) 396)::(nat_lit 403,cO "add_mark" "add_mark" 713 714 715 291 3 3 398 181 399 (.ref 400) (.ref 401) 402 719 720)::(nat_lit 404,fO "add_mark" "add_mark" b4o (.str "goaltrail.reader" 503) 403)::(nat_lit 410,cO "binds_first" "binds_first" 722 723 724 297 2 3 405 181 406 (.ref 407) (.ref 408) 409 727 728)::(nat_lit 411,fO "binds_first" "binds_first" b0h (.str "goaltrail.reader" 503) 410)::(nat_lit 417,cO "join_last" "join_last" 730 731 732 303 1 3 412 181 413 (.ref 414) (.ref 415) 416 736 737)::(nat_lit 418,fO "join_last" "join_last" b3i (.str "goaltrail.reader" 503) 417)::(nat_lit 424,cO "finish" "finish" 739 740 741 307 1 3 419 181 420 (.ref 421) (.ref 422) 423 743 744)::(nat_lit 425,fO "finish" "finish" b8j (.str "goaltrail.reader" 503) 424)::(nat_lit 431,cO "closed" "closed" 746 747 748 311 1 3 426 181 427 (.ref 428) (.ref 429) 430 750 751)::(nat_lit 432,fO "closed" "closed" b8k (.str "goaltrail.reader" 503) 431)::(nat_lit 438,cO "read" "read" 753 754 755 321 2 3 433 181 434 (.ref 435) (.ref 436) 437 760 761)::(nat_lit 439,fO "read" "read" c4r (.str "goaltrail.reader" 503) 438)::(nat_lit 445,cO "_law_cell_at" "_law_cell_at" 765 766 767 327 2 3 440 181 441 (.ref 442) (.ref 443) 444 770 771)::(nat_lit 446,fO "_law_cell_at" "_law_cell_at" b3j (.str "law_goaltrail_k10_no_bracket_too_many" 763) 445)::(nat_lit 452,cO "_law_stream" "_law_stream" 773 774 775 333 2 3 447 181 448 (.ref 449) (.ref 450) 451 781 782)::(nat_lit 453,fO "_law_stream" "_law_stream" b4p (.str "law_goaltrail_k10_no_bracket_too_many" 763) 452)::(nat_lit 457,cO "_law_cells" "_law_cells" 784 785 786 340 3 3 454 181 455 .none .none 456 787 788)::(nat_lit 458,fO "_law_cells" "_law_cells" b2n (.str "law_goaltrail_k10_no_bracket_too_many" 763) 457)::(nat_lit 464,cO "_law_number" "_law_number" 790 791 792 344 1 3 459 181 460 (.ref 461) (.ref 462) 463 795 796)::(nat_lit 465,fO "_law_number" "_law_number" b4q (.str "law_goaltrail_k10_no_bracket_too_many" 763) 464)::(nat_lit 471,cO "_law_letters" "_law_letters" 798 799 800 349 2 3 466 181 467 (.ref 468) (.ref 469) 470 807 808)::(nat_lit 472,fO "_law_letters" "_law_letters" b3k (.str "law_goaltrail_k10_no_bracket_too_many" 763) 471)::(nat_lit 478,cO "_law_mark" "_law_mark" 810 811 812 357 1 3 473 181 474 (.ref 475) (.ref 476) 477 816 817)::(nat_lit 479,fO "_law_mark" "_law_mark" b8l (.str "law_goaltrail_k10_no_bracket_too_many" 763) 478)::(nat_lit 485,cO "_law_table" "_law_table" 819 820 821 364 2 3 480 181 481 (.ref 482) (.ref 483) 484 830 831)::(nat_lit 486,fO "_law_table" "_law_table" b6c (.str "law_goaltrail_k10_no_bracket_too_many" 763) 485)::(nat_lit 492,cO "_law_leaf" "_law_leaf" 833 834 835 376 1 3 487 181 488 (.ref 489) (.ref 490) 491 838 839)::(nat_lit 493,fO "_law_leaf" "_law_leaf" b8m (.str "law_goaltrail_k10_no_bracket_too_many" 763) 492)::(nat_lit 499,cO "_law_menu" "_law_menu" 841 842 843 385 2 3 494 181 495 (.ref 496) (.ref 497) 498 847 848)::(nat_lit 500,fO "_law_menu" "_law_menu" b8n (.str "law_goaltrail_k10_no_bracket_too_many" 763) 499)::(nat_lit 506,cO "_law_sign" "_law_sign" 850 851 852 390 3 3 501 181 502 (.ref 503) (.ref 504) 505 856 857)::(nat_lit 507,fO "_law_sign" "_law_sign" b8o (.str "law_goaltrail_k10_no_bracket_too_many" 763) 506)::(nat_lit 513,cO "_law_grown" "_law_grown" 859 860 861 396 3 3 508 181 509 (.ref 510) (.ref 511) 512 871 872)::(nat_lit 514,fO "_law_grown" "_law_grown" b6d (.str "law_goaltrail_k10_no_bracket_too_many" 763) 513)::(nat_lit 520,cO "_law_closed_at" "_law_closed_at" 874 875 876 413 2 3 515 181 516 (.ref 517) (.ref 518) 519 881 882)::(nat_lit 521,fO "_law_closed_at" "_law_closed_at" b0i (.str "law_goaltrail_k10_no_bracket_too_many" 763) 520)::(nat_lit 527,cO "_law_spots" "_law_spots" 884 885 886 423 1 3 522 181 523 (.ref 524) (.ref 525) 526 890 891)::(nat_lit 528,fO "_law_spots" "_law_spots" b6e (.str "law_goaltrail_k10_no_bracket_too_many" 763) 527)::(nat_lit 534,cO "_law_read" "_law_read" 893 894 895 429 2 3 529 181 530 (.ref 531) (.ref 532) 533 899 900)::(nat_lit 535,fO "_law_read" "_law_read" b8p (.str "law_goaltrail_k10_no_bracket_too_many" 763) 534)::(nat_lit 541,cO "law" "law" 902 903 904 436 1 3 536 181 537 (.ref 538) (.ref 539) 540 915 916)::(nat_lit 542,fO "law" "law" s_law (.str "law_goaltrail_k10_no_bracket_too_many" 763) 541)::[]
noncomputable def prog:Program:=PySem.Challenge.pw_goaltrail_k10_no_bracket_too_many
noncomputable def Q:Program:=W.view prog [0,2,3,4,5,6,7,8,9,10,11,12,13,14,15,16,17,18,19,20,21,23,24,25,26,27,28,29,30,31,33,34,36,37,38,39,40,41,42,43,44,45,46,48,49,50,51,52,53,54,55,56,57,58,59,60,61,62,64,65,66,67,68,69,70,71,72,73,74,75,76,77,78]
noncomputable def loose:List Str:=["TrailError","CLOSERS"]
noncomputable def Xt(s:Shared):Bool:=W.xlAt Q [] s&&W.recOk [] s
noncomputable def ads:List Addr:=[2,3,22,23,29,30,36,37,43,44,50,51,57,58,64,65,71,72,78,79,83,84,90,91,97,98,104,105,111,112,118,119,125,126,132,133,139,140,146,147,153,154,160,161,169,175,176,178,179,191,192,200,201,207,208,214,215,221,222,228,229,235,236,242,243,247,248,249,250,263,264,266,267,284,285,291,292,298,299,305,306,312,313,319,320,326,327,333,334,340,341,361,362,364,365,375,376,382,383,389,390,396,397,403,404,410,411,417,418,424,425,431,432,438,439,445,446,452,453,457,458,464,465,471,472,478,479,485,486,492,493,499,500,506,507,513,514,520,521,527,528,534,535,541,542]
noncomputable def RP(w:World):Prop:=(fun os=>(W.segRunT treeTable prog w 11 (some (.ref 6)) 0 3200 (bootS w os) (W.topStub prog)).map fun r=>looks prog Q loose Xt (fun s=>ads.map s.heap.get?) true (W.boot_heap w.params) r.2.1.abs)=fun _=>some (true,W.openGood Q loose,(KK w.params).map fun p=>some p.2)
theorem runF(w:World):RP (w.withFollow "special-get-raises" false):=by
 unfold RP
 delta Xt Q loose
 rw[Up,Uo,W.Fast.te2530740449226627131,W.Fast.te3486900944545009338,W.Fast.te10845986317416049621,W.Fast.te5655336392911312201,W.Fast.te4757257242682413121,W.Fast.te6483871617321286689,W.Fast.te15055690906229335287]
 kernel_rfl
theorem runT(w:World):RP (w.withFollow "special-get-raises" true):=by
 unfold RP
 delta Xt Q loose
 rw[Up,Uo,W.Fast.te2530740449226627131,W.Fast.te3486900944545009338,W.Fast.te10845986317416049621,W.Fast.te5655336392911312201,W.Fast.te4757257242682413121,W.Fast.te6483871617321286689,W.Fast.te15055690906229335287]
 kernel_rfl
theorem run1:∀w:World,RP w:=W.byRow2 "special-get-raises" runF runT
theorem left1:W.LeftO prog Q loose Xt (fun s=>ads.map s.heap.get?) (fun w=>(KK w.params).map fun p=>some p.2) 3200:=left_of (by kernel_rfl) (by decide) (fun _=>by kernel_rfl) d0o (by decide) run1
theorem said1:PySem.Challenge.rw_goaltrail_k10_no_bracket_too_many.wellSaid=true:=by
 w_on
 rw[W.Fast.te9446332074065402090]
 kernel_rfl
section
variable{P:Program}{w:World}{K:W.Frag}{mg:Str->Option Value}{base:Heap}{t:Ad}
theorem b6h(T:Txt K mg t)  :FnOk P w K mg base CX0 1 t.a_a3 t.d_a3 ["self","words","row"] (a1b K):=by
 refine T.F_a3.ok b6f (fun vs H Q E h=>?_) (fun cdv A outer s H vs Q E hr h=>?_)
 ·unfold a1b at h
  split at h
  ·rfl
  ·exact h.elim
 unfold a1b at h
 split at h
 rotate_left
 ·exact h.elim
 refine⟨_,(a0e (a1a (d4l rfl T.n_j1 (a0a (mv 0) (a0a (mv 1) a0b)))) (a0g (ps_xset (mv 0) (mv 2)))),?_⟩
 rename_i e v r
 obtain⟨C,bm,fr,Xc,U,Xa,n1,hx,q⟩:=h
 walk_at "s"
 refine⟨e,C,none,fr,bm,v,rfl,hx,Xc,?_⟩
 walk_at "s"
 refine⟨e,C,bm,fr,rfl,Xc,U,Xa,n1,.inl ⟨hx,fun dx hdx hne=>?_⟩⟩
 refine q _ ⟨⟨dx,hdx,hne,a0c,by rw[a0j hne];exact a0c⟩,fun b hb o ho=>?_⟩
 rw[a0j hb,a0j (fun z=>by rw[z,hdx]at ho;cases ho)]
 exact ho
theorem c6n(T:Txt K mg t)  :FnOk P w K mg base CX0 1 t.a_a9 t.d_a9 ["sign"] (a5z):=by
 refine T.F_a9.ok c6j (fun vs H Q E h=>?_) (fun cdv A outer s H vs Q E hr h=>?_)
 ·unfold a5z at h
  split at h
  ·rfl
  ·exact h.elim
 unfold a5z at h
 split at h
 rotate_left
 ·exact h.elim
 refine⟨_,(a0g (a0m (me_or (a3s a6i (mv 0) (a2p rfl T.m_h4) (by with_unfolding_all rfl)) (me_or (a3s a6i (mv 0) (a2p rfl T.m_h5) (by with_unfolding_all rfl)) (b8z (a3s a6i (mv 0) (a2p rfl T.m_i1) (by with_unfolding_all rfl))))))),?_⟩
 rename_i s
 obtain⟨c,rfl,q⟩:=h
 walk_at "s"
 refine iteB (fun e=>?_) (fun e=>?_)
 ·rw[Zg (.inl (by simpa[a2r]using e))]at q
  exact q
 ·have e1:c∉a2k.cps.toList:=by simpa[a2r]using e
  walk_at "s"
  refine iteB (fun e=>?_) (fun e=>?_)
  ·rw[Zg (.inr (.inl (by simpa[a2r]using e)))]at q
   exact q
  ·have e2:c∉a2v.cps.toList:=by simpa[a2r]using e
   walk_at "s"
   rw[a2r,Zm]
   have e3:decide (inn c)=decide (c∈figS.cps.toList):=by
    rw[Xe,W9,W9]
    exact⟨fun h=>h.elim (absurd · e1) fun h=>h.elim (absurd · e2) id,fun h=>.inr (.inr h)⟩
   rw[e3]at q
   exact q
theorem c6o(T:Txt K mg t)  :FnOk P w K mg base CX0 1 t.a_d4 t.d_d4 ["text","at"] (a9n):=by
 refine T.F_d4.ok b3l (fun vs H Q E h=>?_) (fun cdv A outer s H vs Q E hr h=>?_)
 ·unfold a9n at h
  split at h
  ·rfl
  ·exact h.elim
 unfold a9n at h
 split at h
 rotate_left
 ·exact h.elim
 refine⟨_,(a0e (a0q (i:=2) b3l.nd rfl (by walk_at "or1") (mv 1)) (a0e (a3x Yh (PW.pt (a5d (a0s a9i (mv 2) (a0z (a2d K rfl) rfl T.n_c4 Z0 (a0a (mv 0) a0b)) (a0t _)) (a4f (a0s a6i (a0r (a0k K rfl) (mv 0) (mv 2) (fun _ _=>rfl)) (a2p rfl T.m_i0) (by with_unfolding_all rfl))))) (a0g (b3s (i:=2) b3l.nd rfl (by walk_at "or1") a0d a7n))) (a0g (a0m (a3y b1m (mv 0) (a3l (mv 1)) (a3l (mv 2))))))),?_⟩
 rename_i s i
 obtain⟨pre,z,r,rfl,rfl,hz,hm,hr1,q⟩:=h
 walk_at "s"
 refine a3c (fun n σ' H'=>∃(j:Nat)(e:Int),σ'=[some (.str ⟨(pre++z++r).toArray⟩),some (.int (pre.length:Int)),some (.int e)]/\e=((pre.length+j:Nat):Int)/\j<=z.length/\n=z.length-j/\H'=H) z.length ⟨0,_,rfl,rfl,Z3 _,rfl,rfl⟩ (fun n σ' H' R hP kT kF=>?_)
 obtain⟨j,e,rfl,he,hj,hn,rfl⟩:=hP
 have hlen:((⟨(pre++z++r).toArray⟩:Str).length)=pre.length+z.length+r.length:=by rw[str_len,Za,Za]
 have hz':(⟨(pre++z++r).toArray⟩:Str).length<=sizeLine:=ln (by rw[str_len];omega)
 walk_at "s"
 refine a9y hz' ?_
 walk_at "s"
 rw[hlen]
 by_cases hjz:j<z.length
 ·refine c3g (Zg (by omega)) ?_
  walk_at "s"
  obtain⟨y,hy,hat⟩:=d1y (pre:=pre) (r:=r) hjz
  subst he
  refine a3d hz' hat ?_
  walk_at "s"
  rw[in_t (hm y hy)]
  refine kT H' (fun D' e1 e2 hnx hct=>?_)
  walk_at "s"
  exact hnx _ _ (z.length-(j+1)) (by omega) ⟨j+1,_,rfl,by omega,by omega,rfl,rfl⟩
 ·have hj:j=z.length:=by omega
  subst hj he
  have fin:∀H1,H1=H'->R false H1:=fun H1 eH=>by
   subst eH
   refine kF _ ?_
   walk_at "s"
   refine b1o hz' ?_
   rw[b6z]
   exact q
  cases r with
  |nil=>
   refine ite_f (Zd (by simp only[length_nil];omega)) ?_
   exact fin _ rfl
  |cons c r=>
   refine c3g (Zg (by simp only[length_cons];omega)) ?_
   walk_at "s"
   refine a3d hz' d1z ?_
   walk_at "s"
   have hc:=hr1 c rfl
   rw[in_f hc]
   exact fin _ rfl
theorem c5c(T:Txt K mg t)(G_a9:FnOk P w K mg base CX0 1 t.a_a9 t.d_a9 ["sign"] (a5z)):FnOk P w K mg base CX0 2 t.a_c3 t.d_c3 ["text","at"] (a8k):=by
 refine T.F_c3.ok b1v (fun vs H Q E h=>?_) (fun cdv A outer s H vs Q E hr h=>?_)
 ·unfold a8k at h
  split at h
  ·rfl
  ·exact h.elim
 unfold a8k at h
 split at h
 rotate_left
 ·exact h.elim
 refine⟨_,(a0e (a0q (i:=2) b1v.nd rfl (by walk_at "or1") (mv 1)) (a0e (a3x Yh (PW.pt (a5d (a0s a9i (mv 2) (a0z (a2d K rfl) rfl T.n_c4 Z0 (a0a (mv 0) a0b)) (a0t _)) (a4f (a1w K rfl (a0l G_a9 (hr.mono (by walk_at "r")) rfl T.m_a9 T.F_a9.kp T.b_a9 .nil a0p (a0a (a0r (a0k K rfl) (mv 0) (mv 2) (fun _ _=>rfl)) a0b)))))) (a0g (b3s (i:=2) b1v.nd rfl (by walk_at "or1") a0d a7n))) (a0g (a0m (a3y b1m (mv 0) (a3l (mv 1)) (a3l (mv 2))))))),?_⟩
 rename_i s i
 obtain⟨pre,z,r,rfl,rfl,hz,hm,hr1,q⟩:=h
 walk_at "s"
 refine a3c (fun n σ' H'=>∃(j:Nat)(e:Int),σ'=[some (.str ⟨(pre++z++r).toArray⟩),some (.int (pre.length:Int)),some (.int e)]/\e=((pre.length+j:Nat):Int)/\j<=z.length/\n=z.length-j/\H'=H) z.length ⟨0,_,rfl,rfl,Z3 _,rfl,rfl⟩ (fun n σ' H' R hP kT kF=>?_)
 obtain⟨j,e,rfl,he,hj,hn,rfl⟩:=hP
 have hlen:((⟨(pre++z++r).toArray⟩:Str).length)=pre.length+z.length+r.length:=by rw[str_len,Za,Za]
 have hz':(⟨(pre++z++r).toArray⟩:Str).length<=sizeLine:=ln (by rw[str_len];omega)
 walk_at "s"
 refine a9y hz' ?_
 walk_at "s"
 rw[hlen]
 by_cases hjz:j<z.length
 ·refine c3g (Zg (by omega)) ?_
  walk_at "s"
  obtain⟨y,hy,hat⟩:=d1y (pre:=pre) (r:=r) hjz
  subst he
  refine a3d hz' hat ?_
  walk_at "s"
  refine⟨y,rfl,?_⟩
  walk_at "s"
  rw[Zg (hm y hy)]
  refine kT H' (fun D' e1 e2 hnx hct=>?_)
  walk_at "s"
  exact hnx _ _ (z.length-(j+1)) (by omega) ⟨j+1,_,rfl,by omega,by omega,rfl,rfl⟩
 ·have hj:j=z.length:=by omega
  subst hj he
  have fin:∀H1,H1=H'->R false H1:=fun H1 eH=>by
   subst eH
   refine kF _ ?_
   walk_at "s"
   refine b1o hz' ?_
   rw[b6z]
   exact q
  cases r with
  |nil=>
   refine ite_f (Zd (by simp only[length_nil];omega)) ?_
   exact fin _ rfl
  |cons c r=>
   refine c3g (Zg (by simp only[length_cons];omega)) ?_
   walk_at "s"
   refine a3d hz' d1z ?_
   walk_at "s"
   have hc:=hr1 c rfl
   refine⟨c,rfl,?_⟩
   walk_at "s"
   rw[Zd hc]
   exact fin _ rfl
theorem c2s(T:Txt K mg t)  :FnOk P w K mg base CX0 1 t.a_d7 t.d_d7 ["run"] (a7s K):=by
 refine T.F_d7.ok c2r (fun vs H Q E h=>?_) (fun cdv A outer s H vs Q E hr h=>?_)
 ·unfold a7s at h
  split at h
  ·rfl
  ·exact h.elim
 unfold a7s at h
 split at h
 rotate_left
 ·exact h.elim
 refine⟨_,(a0g (a0m (a1g (a0a (b7s (a0s a1e (mv 0) (a2p rfl T.m_i6) (a0t _)) a0i a0i) (a0a (mv 0) a0b))))),?_⟩
 rename_i s
 obtain⟨z,rfl,q⟩:=h
 walk_at "s"
 refine iteB (fun e=>?_) (fun e=>?_)
 ·walk_at "s"
  refine⟨ln (by show 2<=100000;decide),fun p hp=>?_⟩
  have e:=Ze (a4c e)
  rw[b8b]at e
  rw[if_pos (c4x e)]at q
  exact q _ _ (a0f hp _) (a8l (SqT.of a0c))
 ·walk_at "s"
  refine⟨ln (by show 2<=100000;decide),fun p hp=>?_⟩
  have e:=Zl (a4c e)
  rw[b8b]at e
  rw[if_neg (fun h=>e (by rw[h]))]at q
  exact q _ _ (a0f hp _) (a8l (SqT.of a0c))
theorem all_id(z:List Nat):(z.map figB).all id=z.all figB:=by rw[List.all_map];rfl
theorem c5d(T:Txt K mg t)  :FnOk P w K mg base CX0 1 t.a_b6 t.d_b6 ["run"] (a6n):=by
 refine T.F_b6.ok c4t (fun vs H Q E h=>?_) (fun cdv A outer s H vs Q E hr h=>?_)
 ·unfold a6n at h
  split at h
  ·rfl
  ·exact h.elim
 unfold a6n at h
 split at h
 rotate_left
 ·exact h.elim
 refine⟨_,(a0e (a0v (PW.pt (b6v (a9t (b8a c3a c3a a0d (a0z (a2d K rfl) rfl T.n_c4 Z0 (a0a (mv 0) a0b)) (b1b rfl T.m_i4))) (b3n (a9t (a1w K rfl (a0z (d0w K rfl rfl) rfl T.n_j0 boot_all (a0a (c0k rfl (d0s (mv 0)) (c0l (a0h a9l) ["run"] ["run"] rfl rfl (by decide+kernel)) (fun _ _ _ _ _=>c0j) (fun _ _ _ _ _=>(a3s a6i (mv 0) (a2p rfl T.m_i1) (by with_unfolding_all rfl)))) a0b))))))) (a0g (a0m b2h)) a0u) (a0g (a0m (me_or (a3s a1e (mv 0) a0i (a0t _)) (b8z (a3s mo_ne (a0r (a0k K rfl) (mv 0) a0d (fun _ _=>rfl)) a0i (a0t _))))))),?_⟩
 rename_i s
 obtain⟨z,rfl,hz,q⟩:=h
 have hl:(⟨z.toArray⟩:Str).length=z.length:=str_len _
 have hz':(⟨z.toArray⟩:Str).length<=sizeLine:=ln (by rw[hl];omega)
 (with_reducible refine c4e ?_)
 walk_at "s"
 refine a9y hz' ?_
 walk_at "s"
 rw[hl]
 refine iteB (fun e=>?_) (fun e=>?_)
 rotate_left
 ·have e:a2n z=false:=by
   unfold a2n
   rw[Zd (by have:=Zl e;omega)]
   rfl
  rw[e]at q
  walk_at "B"
  exact q H (Same.refl _)
 have h1:1<=z.length:=by have:=Ze e;omega
 walk_at "s"
 refine iteB (fun e=>?_) (fun e=>?_)
 ·have e:a2n z=false:=by
   unfold a2n
   rw[Zd (show ¬z.length<=30 by have:=Zl (by simpa using e:decide ((z.length:Int)<=30)=false);omega),V3,Wa]
  rw[e]at q
  walk_at "s"
  exact q H (Same.refl _)
 have h2:z.length<=30:=by have:=Ze (by simpa using e:decide ((z.length:Int)<=30)=true);omega
 walk_at "s"
 refine⟨_,rfl,fun D hD=>?_⟩
 refine b7z (c7d ⟨z.toArray⟩) (fun i ys H'=>Same H H'/\ys=((z.take i).map figB).map V.bl/\H' D=some (.lst ys)) (ln (by simp only[Zh];omega)) ⟨a0f hD _,rfl,a0c⟩ (fun _ _ _ _=>trivial) (fun i ys H' Q' hi hl hP k=>?_) (fun ys H' hl hP=>?_)
 ·obtain⟨g1,g2,g4⟩:=hP
  walk_at "s"
  have hi:i<z.length:=by simpa using hi
  have hm:z.toArray.getD i 0=z[i]:=by rw[Uu,Tf,Zc hi];rfl
  rw[hm,a2r,Zm]
  refine k _ _ g4 ⟨a1n g1 hD,?_,a0c⟩
  rw[g2,List.take_add_one,Zc hi,Zq,Zq]
  rfl
 ·obtain⟨g1,g2,g4⟩:=hP
  have e:z.take (⟨z.toArray⟩:Str).cps.size=z:=Vq (by simp)
  rw[e]at g2
  walk_at "s"
  refine⟨z.map figB,SqL.of (g2▸g4),?_⟩
  walk_at "s"
  rw[show(fun bs:List Bool=>bs.all id) (z.map figB)=z.all figB from all_id z]
  refine iteB (fun e=>?_) (fun e=>?_)
  ·have e1:z.all figB=false:=by simpa using e
   have e:a2n z=false:=by
    unfold a2n
    rw[e1,V3,Wa,Wa]
   rw[e]at q
   walk_at "s"
   exact q _ g1
  have e1:z.all figB=true:=by simpa using e
  have en:a2n z=(decide (z=[48])||decide (z.head? ≠some 48)):=by
   unfold a2n
   rw[e1,Zg h1,Zg h2,Wx,Wx,Wx]
  rw[en]at q
  walk_at "s"
  match z,h1 with
  |x::r,_=>
  refine iteB (fun e=>?_) (fun e=>?_)
  ·have e:=Ze (a4c e)
   rw[c3f]at e
   rw[Zg (c4x (y:=[48]) e),Bool.true_or]at q
   exact q H' g1
  ·walk_at "s"
   refine a3d hz' (at0 (x:=x) (r:=r)) ?_
   walk_at "s"
   have e:=Zl (a4c e)
   rw[c3f]at e ⊢
   rw[Zd (fun h=>e (by rw[h])),Bool.false_or]at q
   have e2:(true^^decide ((⟨#[x]⟩:Str)=⟨#[48]⟩))=decide ((x::r).head? ≠some 48):=by
    by_cases hx:x=48
    ·subst hx;simp
    ·rw[Zd (fun h=>hx (a9b h)),Zg (by simpa using hx)];rfl
   rw[e2]
   exact q H' g1
theorem b9v{z:List Nat}{k:Str}(h:kindOf z=k)(n:k≠a1f):knB z=false:=Zd (by rw[h];exact n)
theorem c3j{z:List Nat}(h:kindOf z=a1f):knB z=true:=Zg h
theorem b6i{l:List Nat}(h:a1v l):∀c∈(⟨l.toArray⟩:Str).cps.toList,c<16^8:=fun c hc=>by
 have:=h c (by simpa using hc)
 omega
theorem c1b(T:Txt K mg t)(G_b6:FnOk P w K mg base CX0 1 t.a_b6 t.d_b6 ["run"] (a6n))(G_a3:FnOk P w K mg base CX0 1 t.a_a3 t.d_a3 ["self","words","row"] (a1b K)):FnOk P w K mg base (CXo P w) 3 t.a_d0 t.d_d0 ["run"] (a7c K t.k_a0):=by
 refine T.F_d0.okX c0t (fun vs H Q E h=>?_) (fun cdv A outer s H vs Q E hr h=>?_)
 ·unfold a7c at h
  split at h
  ·rfl
  ·exact h.elim
 unfold a7c at h
 split at h
 rotate_left
 ·exact h.elim
 refine⟨_,(a0e (a0v (a0s a6i (a0r (a0k K rfl) (mv 0) a0d (fun _ _=>rfl)) (a2p rfl T.m_h4) (by with_unfolding_all rfl)) (a0g (a0m (a1g (a0a a0i (a0a (mv 0) a0b))))) a0u) (a0e (a0v (a0s a6i (a0r (a0k K rfl) (mv 0) a0d (fun _ _=>rfl)) (a2p rfl T.m_h5) (by with_unfolding_all rfl)) (a0g (a0m (a1g (a0a a0i (a0a (mv 0) a0b))))) a0u) (a0e (a0v (a1w K rfl (a0l G_b6 (hr.mono (by walk_at "r")) rfl T.m_b6 T.F_b6.kp T.b_b6 .nil a0p (a0a (mv 0) a0b))) (a0g (a0m (a1g (a0a a0i (a0a (mv 0) a0b))))) a0u) (a0g (a4n rfl a5g (a4m T.mk_a0 G_a3 (hr.mono (by walk_at "r")) rfl T.m_a0 T.bd_a3 (show Vals [V.int 0] [Value.int 0 t.w_a3_0]from(.cons ⟨_,rfl⟩ .nil)) a0p (a0a (pe_fr (mv 0)) a0b))))))),?_⟩
 rename_i s
 obtain⟨c,r,rfl,hc,hz,hp,q⟩:=h
 have hz':(⟨(c::r).toArray⟩:Str).length<=sizeLine:=ln (by rw[str_len];omega)
 have hk:=b4s (r:=r) hc
 walk_at "s"
 refine a3d hz' (at0 (x:=c) (r:=r)) ?_
 walk_at "s"
 refine iteB (fun e=>?_) (fun e=>?_)
 ·have e1:c∈a2k.cps.toList:=by simpa[a2r]using e
  rw[if_pos e1]at hk
  rw[b9v hk b1x.2.2.2.1,hk]at q
  walk_at "s"
  exact⟨ln (by show 2<=100000;decide),fun a ha=>q _ _ (a0f ha _) (a8l (SqT.of a0c))⟩
 have n1:c∉a2k.cps.toList:=by simpa[a2r]using e
 rw[if_neg n1]at hk
 walk_at "s"
 refine a3d hz' (at0 (x:=c) (r:=r)) ?_
 walk_at "s"
 refine iteB (fun e=>?_) (fun e=>?_)
 ·have e1:c∈a2v.cps.toList:=by simpa[a2r]using e
  rw[if_pos e1]at hk
  rw[b9v hk b1x.2.2.2.2,hk]at q
  walk_at "s"
  exact⟨ln (by show 2<=100000;decide),fun a ha=>q _ _ (a0f ha _) (a8l (SqT.of a0c))⟩
 have n2:c∉a2v.cps.toList:=by simpa[a2r]using e
 rw[if_neg n2]at hk
 walk_at "s"
 refine⟨_,rfl,hz,fun H1 s1=>?_⟩
 walk_at "s"
 refine iteB (fun e=>?_) (fun e=>?_)
 ·rw[if_pos e]at hk
  rw[b9v hk b1x.2.2.1,hk]at q
  walk_at "s"
  exact⟨ln (by show 2<=100000;decide),fun a ha=>q _ _ (s1.trans (a0f ha _)) (a8l (SqT.of a0c))⟩
 ·rw[if_neg (by rw[e];exact Zr)]at hk
  rw[c3j hk]at q
  have q:onX H t.k_a0 E:=q
  walk_at "s"
  refine⟨_,rfl,b6i hp,by rw[str_len];omega,fun z=>?_⟩
  walk_at "s"
  refine⟨by simp,fun ea hea=>?_⟩
  refine⟨t.k_a0,_,true,T.x_a0,T.u_a0,T.at_a0,T.no_a0_row,a0c,fun H9 b9=>⟨rfl,?_⟩⟩
  obtain⟨dx9,h91,h92,h93⟩:=a2l hea (Same.refl _) hea b9
  refine⟨ea,t.k_a0,dx9,_,rfl,T.x_a0,h91,?_⟩
  exact q ea _ (s1.trans h93) h92
theorem b3w(T:Txt K mg t)(G_a3:FnOk P w K mg base CX0 1 t.a_a3 t.d_a3 ["self","words","row"] (a1b K))(G_b6:FnOk P w K mg base CX0 1 t.a_b6 t.d_b6 ["run"] (a6n)):FnOk P w K mg base (CXo P w) 3 t.a_f0 t.d_f0 ["run"] (a3u K t.k_a0):=by
 refine T.F_f0.okX b3t (fun vs H Q E h=>?_) (fun cdv A outer s H vs Q E hr h=>?_)
 ·unfold a3u at h
  split at h
  ·rfl
  ·exact h.elim
 unfold a3u at h
 split at h
 rotate_left
 ·exact h.elim
 refine⟨_,(a0e (a0v (PW.pt (b6v (a0s a1e (mv 0) a0i (a0t _)) (b3n (a9t (a1w K rfl (a0l G_b6 (hr.mono (by walk_at "r")) rfl T.m_b6 T.F_b6.kp T.b_b6 .nil a0p (a0a (mv 0) a0b))))))) (a0g (a4n rfl a5g (a4m T.mk_a0 G_a3 (hr.mono (by walk_at "r")) rfl T.m_a0 T.bd_a3 (show Vals [V.int 0] [Value.int 0 t.w_a3_0]from(.cons ⟨_,rfl⟩ .nil)) a0p (a0a (pe_f2 (a2p rfl T.m_h2)) a0b)))) a0u) (a0g (a0m (a1g (a0a a0i (a0a (a0n (a1h K rfl) (a2p rfl T.m_h2) (mv 0)) a0b)))))),?_⟩
 rename_i s
 obtain⟨f,rfl,hz,q⟩:=h
 have hk:=b8r (r:=f)
 (with_reducible refine c4e ?_)
 walk_at "s"
 refine iteB (fun e=>?_) (fun e=>?_)
 ·have e:=Ze (a4c e)
  rw[c3f]at e
  rw[if_pos (.inl (c4x (y:=[48]) e))]at hk
  rw[c3j hk]at q
  have q:onX H t.k_a0 E:=q
  walk_at "s"
  refine⟨_,rfl,by decide+kernel,fun z=>?_⟩
  walk_at "s"
  refine⟨by simp,fun ea hea=>?_⟩
  refine⟨t.k_a0,_,true,T.x_a0,T.u_a0,T.at_a0,T.no_a0_row,a0c,fun H9 b9=>⟨rfl,?_⟩⟩
  obtain⟨dx9,h91,h92,h93⟩:=a2l hea (Same.refl _) hea b9
  refine⟨ea,t.k_a0,dx9,_,rfl,T.x_a0,h91,?_⟩
  exact q ea _ h93 h92
 have n1:f≠[48]:=fun h=>by
  have e:=Zl (a4c e)
  rw[c3f,h]at e
  exact e rfl
 walk_at "s"
 refine⟨f,rfl,hz,fun H1 s1=>?_⟩
 walk_at "s"
 refine iteB (fun e=>?_) (fun e=>?_)
 ·have e1:a2n f=false:=by simpa using e
  rw[if_pos (.inr e1)]at hk
  rw[c3j hk]at q
  have q:onX H t.k_a0 E:=q
  walk_at "s"
  refine⟨_,rfl,by decide+kernel,fun z=>?_⟩
  walk_at "s"
  refine⟨by simp,fun ea hea=>?_⟩
  refine⟨t.k_a0,_,true,T.x_a0,T.u_a0,T.at_a0,T.no_a0_row,a0c,fun H9 b9=>⟨rfl,?_⟩⟩
  obtain⟨dx9,h91,h92,h93⟩:=a2l hea (Same.refl _) hea b9
  refine⟨ea,t.k_a0,dx9,_,rfl,T.x_a0,h91,?_⟩
  exact q ea _ (s1.trans h93) h92
 have e1:a2n f=true:=by simpa using e
 rw[if_neg (fun z=>z.elim n1 (by rw[e1];simp))]at hk
 rw[b9v hk b1x.2.2.1,hk]at q
 walk_at "s"
 refine a8h (ln ?_) ?_
 ·have l1:(ofString "~").length=1:=by decide+kernel
  have l2:=str_len f
  omega
 walk_at "s"
 refine⟨ln (by show 2<=100000;decide),fun a ha=>?_⟩
 rw[show ofString "~"++(⟨f.toArray⟩:Str)=⟨(126::f).toArray⟩ by rw[b9s];exact a5f [126] f]
 exact q _ _ (s1.trans (a0f ha _)) (a8l (SqT.of a0c))
theorem c6p(T:Txt K mg t)(G_a9:FnOk P w K mg base CX0 1 t.a_a9 t.d_a9 ["sign"] (a5z))(G_a3:FnOk P w K mg base CX0 1 t.a_a3 t.d_a3 ["self","words","row"] (a1b K))(G_d7:FnOk P w K mg base CX0 1 t.a_d7 t.d_d7 ["run"] (a7s K))(G_f0:FnOk P w K mg base (CXo P w) 3 t.a_f0 t.d_f0 ["run"] (a3u K t.k_a0))(G_d0:FnOk P w K mg base (CXo P w) 3 t.a_d0 t.d_d0 ["run"] (a7c K t.k_a0))(G_d4:FnOk P w K mg base CX0 1 t.a_d4 t.d_d4 ["text","at"] (a9n))(G_c3:FnOk P w K mg base CX0 2 t.a_c3 t.d_c3 ["text","at"] (a8k)):FnOk P w K mg base (CXo P w) 4 t.a_d1 t.d_d1 ["text","at"] (a9o K t.k_a0):=by
 refine T.F_d1.okX b7p (fun vs H Q E h=>?_) (fun cdv A outer s H vs Q E hr h=>?_)
 ·unfold a9o at h
  split at h
  ·rfl
  ·exact h.elim
 unfold a9o at h
 split at h
 rotate_left
 ·exact h.elim
 refine⟨_,(a0e (a0q (i:=2) (hs:=a7o) b7p.nd rfl (by walk_at "or1") (a0r (a0k K rfl) (mv 0) (mv 1) (fun _ _=>rfl))) (a0e (a0v (a0s a6i (mv 2) (a2p rfl T.m_i5) (by with_unfolding_all rfl)) (a0g (a0m (a1g (a0a a0i (a0a (mv 2) a0b))))) a0u) (a0e (a0v (a0s a6i (mv 2) (a2p rfl T.m_i0) (by with_unfolding_all rfl)) (a0g (a0m (a0l G_d7 (hr.mono (by walk_at "r")) rfl T.m_d7 T.F_d7.kp T.b_d7 .nil a0p (a0a (a0l G_d4 (hr.mono (by walk_at "r")) rfl T.m_d4 T.F_d4.kp T.b_d4 .nil a0p (a0a (mv 0) (a0a (mv 1) a0b))) a0b)))) a0u) (a0e (a0v (a0s a1e (mv 2) (a2p rfl T.m_h2) (a0t _)) (a0g (a0m (a0l G_f0 (hr.mono (by walk_at "r")) rfl T.m_f0 T.F_f0.kp T.b_f0 .nil a4w (a0a (a0l G_c3 (hr.mono (by walk_at "r")) rfl T.m_c3 T.F_c3.kp T.b_c3 .nil a0p (a0a (mv 0) (a0a (a0n (a1h K rfl) (mv 1) a0d) a0b))) a0b)))) a0u) (a0e (a0v (a1w K rfl (a0l G_a9 (hr.mono (by walk_at "r")) rfl T.m_a9 T.F_a9.kp T.b_a9 .nil a0p (a0a (mv 2) a0b))) (a0g (a0m (a0l G_d0 (hr.mono (by walk_at "r")) rfl T.m_d0 T.F_d0.kp T.b_d0 .nil a4w (a0a (a0l G_c3 (hr.mono (by walk_at "r")) rfl T.m_c3 T.F_c3.kp T.b_c3 .nil a0p (a0a (mv 0) (a0a (mv 1) a0b))) a0b)))) a0u) (a0g (a4n rfl a5g (a4m T.mk_a0 G_a3 (hr.mono (by walk_at "r")) rfl T.m_a0 T.bd_a3 (show Vals [V.int 0] [Value.int 0 t.w_a3_0]from(.cons ⟨_,rfl⟩ .nil)) a0p (a0a (pe_fr (mv 2)) a0b))))))))),?_⟩
 rename_i s i
 obtain⟨pre,c,r,rfl,rfl,hz,hp,q⟩:=h
 have hlen:=hz
 rw[Za,length_cons]at hlen
 have hz':(⟨(pre++c::r).toArray⟩:Str).length<=sizeLine:=ln (by rw[str_len];omega)
 walk_at "s"
 refine a3d hz' c4j ?_
 walk_at "s"
 refine iteB (fun e=>?_) (fun e=>?_)
 ·have e1:c∈a3o.cps.toList:=by simpa[a2r]using e
  have hj:=c7p c e1
  rw[c5a hj.2.2.2 hj.1 hj.2.1,(c3i r).1]at q
  have hk:=c2h (r:=[]) e1
  rw[b9v hk b1x.1,hk]at q
  walk_at "s"
  exact⟨ln (by show 2<=100000;decide),fun a ha=>q _ _ (a0f ha _) (a8l (SqT.of a0c))⟩
 have n1:c∉a3o.cps.toList:=by simpa[a2r]using e
 walk_at "s"
 refine iteB (fun e=>?_) (fun e=>?_)
 ·have e1:mkc c:=by simpa[a2r]using e
  rw[d2a e1]at q
  have ew:(c::r).takeWhile (fun d=>decide (mkc d))=c::r.takeWhile (fun d=>decide (mkc d)):=by rw[Xq,if_pos (Zg e1)]
  have ed:=c3h (fun d=>decide (mkc d)) (c::r)
  rw[ew]at ed
  walk_at "s"
  refine⟨pre,c::r.takeWhile (fun d=>decide (mkc d)),(c::r).dropWhile (fun d=>decide (mkc d)),by rw[Zx,ed],rfl,by rw[Zx,ed];omega,fun y hy=>Ze (b9t (by rw[ew];exact hy)),fun y hy=>Zl (c0y hy),?_⟩
  walk_at "s"
  refine⟨_,rfl,fun v H' s' d'=>?_⟩
  have hk:=c2i (r:=r.takeWhile (fun d=>decide (mkc d))) e1
  rw[<-hk]at d'
  have hn:knB (c::r.takeWhile (fun d=>decide (mkc d)))=false:=by
   refine Zd ?_
   rw[hk]
   split
   ·exact b1x.1
   ·exact b1x.2.1
  rw[hn]at q
  exact q _ _ s' d'
 have n2:¬mkc c:=by simpa[a2r]using e
 walk_at "s"
 refine iteB (fun e=>?_) (fun e=>?_)
 ·have e1:c=126:=by
   have e:=Ze (a4c e)
   rw[b9s]at e
   exact a9b e
  subst e1
  rw[d2b]at q
  have ed:=c3h (fun d=>decide (inn d)) r
  walk_at "s"
  refine⟨pre++[126],r.takeWhile (fun d=>decide (inn d)),r.dropWhile (fun d=>decide (inn d)),by rw[Zx,ed];simp,by simp,by rw[Zx,ed];simp;omega,fun y hy=>Ze (b9t hy),fun y hy=>Zl (c0y hy),?_⟩
  walk_at "s"
  have hl2:=Z9 List.length ed
  rw[Za]at hl2
  exact⟨_,rfl,by omega,q⟩
 have n3:c≠126:=fun z=>by
  have e:=Zl (a4c e)
  rw[b9s,z]at e
  exact e rfl
 walk_at "s"
 refine⟨c,rfl,?_⟩
 walk_at "s"
 refine iteB (fun e=>?_) (fun e=>?_)
 ·have e1:inn c:=Ze e
  rw[c4z e1]at q
  have ew:(c::r).takeWhile (fun d=>decide (inn d))=c::r.takeWhile (fun d=>decide (inn d)):=by rw[Xq,if_pos (Zg e1)]
  have ed:=c3h (fun d=>decide (inn d)) (c::r)
  rw[ew]at ed
  walk_at "s"
  refine⟨pre,c::r.takeWhile (fun d=>decide (inn d)),(c::r).dropWhile (fun d=>decide (inn d)),by rw[Zx,ed],rfl,by rw[Zx,ed];omega,fun y hy=>Ze (b9t (by rw[ew];exact hy)),fun y hy=>Zl (c0y hy),?_⟩
  walk_at "s"
  have hl2:=Z9 List.length ed
  rw[Za,length_cons,length_cons]at hl2
  refine⟨c,_,rfl,e1,by rw[length_cons];omega,fun y hy=>hp y (Yc _ ?_),q⟩
  rw[<-ed]
  exact Y1 _ hy
 ·have n4:¬inn c:=Zl e
  rw[c5a n2 n4 n3,(c3i r).1]at q
  rw[c3j (d4u n2 n4 n3 n1)]at q
  have q:onX H t.k_a0 E:=q
  walk_at "s"
  refine⟨_,rfl,b6i (l:=[c]) (fun y hy=>hp y (by rw[Zw.mp hy];simp)),by show 1<=5000;decide,fun z=>?_⟩
  walk_at "s"
  refine⟨by simp,fun ea hea=>?_⟩
  refine⟨t.k_a0,_,true,T.x_a0,T.u_a0,T.at_a0,T.no_a0_row,a0c,fun H9 b9=>⟨rfl,?_⟩⟩
  obtain⟨dx9,h91,h92,h93⟩:=a2l hea (Same.refl _) hea b9
  refine⟨ea,t.k_a0,dx9,_,rfl,T.x_a0,h91,?_⟩
  exact q ea _ h93 h92
theorem d2f(T:Txt K mg t)(G_d1:FnOk P w K mg base (CXo P w) 4 t.a_d1 t.d_d1 ["text","at"] (a9o K t.k_a0)):FnOk P w K mg base (CXo P w) 5 t.a_g1 t.d_g1 ["text"] (b2r K t.k_a0):=by
 refine T.F_g1.okX a8b (fun vs H Q E h=>?_) (fun cdv A outer s H vs Q E hr h=>?_)
 ·unfold b2r at h
  split at h
  ·rfl
  ·exact h.elim
 unfold b2r at h
 split at h
 rotate_left
 ·exact h.elim
 refine⟨_,(a0e (a0q (i:=1) (hs:=a8i) a8b.nd rfl (by walk_at "or1") (a1j a0b)) (a0e (a0q (i:=2) a8b.nd rfl (by walk_at "or1") a0d) (a0e (a3x Wo (a0s a9i (mv 2) (a0z (a2d K rfl) rfl T.n_c4 Z0 (a0a (mv 0) a0b)) (a0t _)) (a0g (a0v (a0s a1e (a0r (a0k K rfl) (mv 0) (mv 2) (fun _ _=>rfl)) a0i (a0t _)) (a0g (b3s (i:=2) a8b.nd rfl (by walk_at "or1") a0d a7n)) (a0e (a0q (i:=3) (hs:=a1p) a8b.nd rfl (by walk_at "or1") (a0l G_d1 (hr.mono (by walk_at "r")) rfl T.m_d1 T.F_d1.kp T.b_d1 .nil a4w (a0a (mv 0) (a0a (mv 2) a0b)))) (a0e (a1a (a3t K rfl Zu Z6 Z8 a2j (mv 1) (a0a (mv 3) a0b))) (a0g (b3s (i:=2) a8b.nd rfl (by walk_at "or1") (a0z (a2d K rfl) rfl T.n_c4 Z0 (a0a (a0r (a0k K rfl) (mv 3) a0d (fun _ _=>rfl)) a0b)) a7n))))))) (a0g (a0m (mv 1)))))),?_⟩
 rename_i s
 obtain⟨l,rfl,hz,hpl,q⟩:=h
 have hz':(⟨l.toArray⟩:Str).length<=sizeLine:=ln (by rw[str_len];omega)
 walk_at "s"
 refine⟨Z3 _,fun p hp0=>?_⟩
 walk_at "s"
 refine a3c (fun n σ' H'=>∃(pre rest:List Nat)(acc:List (List Nat))(us:List V)(v3:Option V)(e:Int),l=pre++rest/\bits l=acc++bits rest/\(acc.all fun b=>!knB b)=true/\σ'=[some (.str ⟨l.toArray⟩),some (.ref p),some (.int e),v3]/\e=(pre.length:Int)/\n=rest.length/\Same H H'/\H' p=some (.lst us)/\DenL K H' us (acc.map pcB)/\acc.length<=pre.length) l.length ⟨[],l,[],[],none,_,rfl,rfl,rfl,rfl,rfl,rfl,a0f hp0 _,a0c,.nil,Zb _⟩ (fun n σ' H' R hP kT kF=>?_)
 obtain⟨pre,rest,acc,us,v3,e,h1,h2,h3,rfl,h5,h6,h7,h8,h9,h10⟩:=hP
 have hL:=Z9 List.length h1
 rw[Za]at hL
 have hlu:=h9.length
 rw[length_map]at hlu
 walk_at "s"
 refine a9y hz' ?_
 walk_at "s"
 rw[str_len]
 cases rest with
 |nil=>
  rw[Zd (by simp only[length_nil]at hL;omega)]
  refine kF H' ?_
  walk_at "s"
  rw[a4a,Yo]at h2
  have hg:b0o l=true:=by unfold b0o;rw[h2];exact h3
  rw[hg,h2]at q
  exact q p us H' hp0 h7 h8 h9
 |cons c r=>
  rw[length_cons]at hL h6
  rw[Zg (by omega)]
  refine kT H' (fun D' e1 e2 hnx hct=>?_)
  walk_at "s"
  subst h5
  have hat:atI l (pre.length:Int)=some c:=by rw[h1];exact c4j
  refine a3d hz' hat ?_
  walk_at "s"
  refine iteB (fun e=>?_) (fun e=>?_)
  ·have ec:c=32:=by
    have e:=Ze (a4c e)
    rw[bl_eq]at e
    exact a9b e
   subst ec
   walk_at "s"
   refine hnx _ _ r.length (by omega) ⟨pre++[32],r,acc,us,v3,_,by rw[h1];simp,by rw[h2,a2s],h3,rfl,by simp,rfl,h7,h8,h9,by simp;omega⟩
  have ec:c≠32:=fun z=>by
   have e:=Zl (a4c e)
   rw[bl_eq,z]at e
   exact e rfl
  rw[b1y ec]at h2
  walk_at "s"
  refine⟨pre,c,r,by rw[<-h1],rfl,by rw[<-h1];exact hz,by rw[<-h1];exact hpl,?_⟩
  have ed:=c3h (runP c) r
  generalize htw:r.takeWhile (runP c)=tw at h2 ed ⊢
  generalize hdw:r.dropWhile (runP c)=dw at h2 ed ⊢
  have hl2:=Z9 List.length ed
  rw[Za]at hl2
  cases hk:knB (c::tw)with
  |true=>
   have hg:b0o l=false:=by unfold b0o;rw[h2];simp[hk]
   rw[hg]at q
   have q:onX H t.k_a0 E:=q
   exact q.mono h7
  |false=>
   refine fun v H2 s2 d2=>?_
   obtain⟨a,rfl,sq⟩:=c0x d2
   have h8':=s2 _ _ h8
   walk_at "s"
   refine⟨.inl ⟨rfl,_,SqL.of h8'⟩,?_⟩
   walk_at "s"
   refine a1u h8' (ln1 (by omega)) ?_
   have sq2:SqT K (upd H2 p (.lst (us++[.ref a]))) a [.str (kindOf (c::tw)),.str ⟨(c::tw).toArray⟩]:=a8t h8' _ _ sq
   have dn2:DenL K (upd H2 p (.lst (us++[.ref a]))) (us++[.ref a]) ((acc++[c::tw]).map pcB):=by
    rw[Zq]
    exact((h9.mono s2).lst h8').append (.cons (a8l sq2) .nil)
   have s3:Same H (upd H2 p (.lst (us++[.ref a]))):=a1n (h7.trans s2) hp0
   have k3:(upd H2 p (.lst (us++[.ref a]))) p=some (.lst (us++[.ref a])):=a0c
   generalize upd H2 p (.lst (us++[.ref a]))=H3 at sq2 dn2 s3 k3 ⊢
   walk_at "s"
   refine a0w sq2 (v:=.str ⟨(c::tw).toArray⟩) rfl ?_
   walk_at "s"
   refine a9y (ln (by rw[str_len,length_cons];omega)) ?_
   walk_at "s"
   rw[str_len]
   refine hnx _ _ dw.length (by omega) ⟨pre++(c::tw),dw,acc++[c::tw],_,_,_,by rw[h1,<-ed];simp,by rw[h2];simp,by rw[List.all_append,h3];simp[hk],rfl,by simp,rfl,s3,k3,dn2,by simp;omega⟩
theorem ok_c2(T:Txt K mg t)  :FnOk P w K mg base CX0 1 t.a_c2 t.d_c2 ["n"] (b9u K):=by
 refine T.F_c2.ok sc_c2 (fun vs H Q E h=>?_) (fun cdv A outer s H vs Q E hr h=>?_)
 ·unfold b9u at h
  split at h
  ·rfl
  ·exact h.elim
 unfold b9u at h
 split at h
 rotate_left
 ·exact h.elim
 refine⟨_,(a0g (a0m (a1g (a0a a0i (a0a (mv 0) a0b))))),?_⟩
 rename_i n
 walk_at "s"
 refine⟨ln (by show 2<=100000;decide),fun p1 hp1=>?_⟩
 have sp1:Same H (upd H p1 (.tup [.str (ofString "num"),.int n])):=a0f hp1 _
 have kp1:(upd H p1 (.tup [.str (ofString "num"),.int n])) p1=some (.tup [.str (ofString "num"),.int n]):=a0c
 generalize upd H p1 (.tup [.str (ofString "num"),.int n])=H1 at sp1 kp1 ⊢
 walk_at "s"
 exact h _ _ sp1 (.tup (SqT.of kp1) (.cons (.str _) (.cons (.int _) .nil)))
theorem c8x(T:Txt K mg t)  :FnOk P w K mg base CX0 1 t.a_e6 t.d_e6 ["name"] (b0r K):=by
 refine T.F_e6.ok c8r (fun vs H Q E h=>?_) (fun cdv A outer s H vs Q E hr h=>?_)
 ·unfold b0r at h
  split at h
  ·rfl
  ·exact h.elim
 unfold b0r at h
 split at h
 rotate_left
 ·exact h.elim
 refine⟨_,(a0g (a0m (a1g (a0a a0i (a0a (mv 0) a0b))))),?_⟩
 rename_i x
 walk_at "s"
 refine⟨ln (by show 2<=100000;decide),fun p1 hp1=>?_⟩
 have sp1:Same H (upd H p1 (.tup [.str (ofString "any"),.str x])):=a0f hp1 _
 have kp1:(upd H p1 (.tup [.str (ofString "any"),.str x])) p1=some (.tup [.str (ofString "any"),.str x]):=a0c
 generalize upd H p1 (.tup [.str (ofString "any"),.str x])=H1 at sp1 kp1 ⊢
 walk_at "s"
 exact h _ _ sp1 (.tup (SqT.of kp1) (.cons (.str _) (.cons (.str _) .nil)))
theorem ok_a5(T:Txt K mg t)  :FnOk P w K mg base CX0 1 t.a_a5 t.d_a5 ["sign","kids"] (b1z K):=by
 refine T.F_a5.ok sc_a5 (fun vs H Q E h=>?_) (fun cdv A outer s H vs Q E hr h=>?_)
 ·unfold b1z at h
  split at h
  ·rfl
  ·exact h.elim
 unfold b1z at h
 split at h
 rotate_left
 ·exact h.elim
 refine⟨_,(a0g (a0m (a1g (a0a a0i (a0a (mv 0) (a0a (a6h (c4f K rfl) rfl T.n_i7 boot_tuple (a0a (mv 1) a0b)) a0b)))))),?_⟩
 rename_i s p
 obtain⟨us,ts,hS,hd,hl,q⟩:=h
 walk_at "s"
 refine d0z hS (fun p1 hp1=>?_)
 have s1:=a0f hp1 (.tup us)
 have k1:(upd H p1 (.tup us)) p1=some (.tup us):=a0c
 generalize upd H p1 (.tup us)=H1 at s1 k1 ⊢
 walk_at "s"
 refine⟨ln (by show 3<=100000;decide),fun p2 hp2=>?_⟩
 have sp2:Same H1 (upd H1 p2 (.tup [.str (ofString "app"),.str s,.ref p1])):=a0f hp2 _
 have kp2:(upd H1 p2 (.tup [.str (ofString "app"),.str s,.ref p1])) p2=some (.tup [.str (ofString "app"),.str s,.ref p1]):=a0c
 generalize upd H1 p2 (.tup [.str (ofString "app"),.str s,.ref p1])=H2 at sp2 kp2 ⊢
 walk_at "s"
 exact q _ _ (s1.trans sp2) (.tup (SqT.of kp2) (.cons (.str _) (.cons (.str _) (.cons (.tup (SqT.of (sp2 _ _ k1)) (hd.mono (s1.trans sp2))) .nil))))
theorem d4w(T:Txt K mg t)  :FnOk P w K mg base CX0 1 t.a_g0 t.d_g0 ["term"] (b4u K):=by
 refine T.F_g0.ok b1t (fun vs H Q E h=>?_) (fun cdv A outer s H vs Q E hr h=>?_)
 ·unfold b4u at h
  split at h
  ·rfl
  ·exact h.elim
 unfold b4u at h
 split at h
 rotate_left
 ·exact h.elim
 refine⟨_,(a0e (a0q (i:=1) b1t.nd rfl (by walk_at "or1") a0d) (a0e (a0q (i:=2) (hs:=a8i) b1t.nd rfl (by walk_at "or1") (a1j (a0a (mv 0) a0b))) (a0e (a3x Yh (a1w K rfl (mv 2)) (a0e (a0q (i:=3) (hs:=a1p) b1t.nd rfl (by walk_at "or1") (a9w K rfl Zu Xi X6 b1n (mv 2))) (a0e (b3s (i:=1) b1t.nd rfl (by walk_at "or1") a0d a7n) (a0g (a0v (a0s a1e (a0r (a0k K rfl) (mv 3) a0d (fun _ _=>rfl)) a0i (a0t _)) (a0g (a1a (a3t K rfl Zu Wm V9 (b5t K rfl) (mv 2) (a0a (a0r (a0k K rfl) (mv 3) a0d (fun _ _=>rfl)) a0b)))) a0u))))) (a0g (a0m (mv 1)))))),?_⟩
 rename_i v
 obtain⟨t0,hd,hz,q⟩:=h
 walk_at "s"
 refine⟨ln (by show 1<=100000;decide),fun p hp=>?_⟩
 walk_at "s"
 refine a3c (fun n σ' H'=>∃(us:List V)(ts:List Trm)(c:Int)(o:Option V),σ'=[some v,some (.int c),some (.ref p),o]/\H' p=some (.lst us)/\DenL K H' us (Trm.dataL ts)/\c+(Trm.sizeL ts:Int)=(t0.size:Int)/\0<=c/\n=Trm.sizeL ts/\Same H H') t0.size ⟨[v],[t0],0,none,rfl,a0c,.cons (hd.mono (a0f hp _)) .nil,by simp[Trm.sizeL],by omega,by simp[Trm.sizeL],a0f hp _⟩ (fun n σ' H' R hP kT kF=>?_)
 obtain⟨us,ts,c,o,rfl,h1,h2,h3,h3',h4,h5⟩:=hP
 walk_at "s"
 refine .inl ⟨us,SqL.of h1,?_⟩
 rcases a3p ts with rfl|⟨ts',t1,rfl⟩
 ·have e:=h2.nil_inv
  subst e
  refine kF H' ?_
  walk_at "s"
  have e:c=(t0.size:Int):=by simp only[Trm.sizeL]at h3;omega
  rw[e]
  exact q H' h5
 ·rw[Trm.dataL_map,Zq,<-Trm.dataL_map]at h2
  obtain⟨us',u,rfl,g1,g2⟩:=DenL.snoc h2
  rw[Trm.sizeL_app]at h3 h4
  have s1:Trm.sizeL [t1]=t1.size:=by simp[Trm.sizeL]
  rw[s1]at h3 h4
  have e:(!(us'++[u]).isEmpty)=true:=by simp
  rw[e]
  refine kT H' (fun D' e1 e2 hnx hct=>?_)
  walk_at "s"
  refine⟨.inl ⟨rfl,_,SqL.of h1⟩,?_⟩
  refine b1p h1 ?_
  walk_at "s"
  have f1:DenL K (upd H' p (.lst us')) us' (Trm.dataL ts'):=g1.lst h1
  have f2:Den K (upd H' p (.lst us')) u t1.data:=g2.lst h1
  have f3:Same H (upd H' p (.lst us')):=a1n h5 hp
  have tp:=t1.size_pos
  cases t1 with
  |num m=>
   obtain⟨a,rfl,hs⟩:=a5x f2
   refine a0w hs (v:=.str numS) rfl ?_
   walk_at "s"
   refine b3u d1 ?_
   walk_at "s"
   exact hnx _ _ (Trm.sizeL ts') (by omega) ⟨us',ts',c+1,_,rfl,a0c,f1,by simp only[Trm.size]at h3;omega,by omega,rfl,f3⟩
  |any m=>
   obtain⟨a,rfl,hs⟩:=a5y f2
   refine a0w hs (v:=.str anyS) rfl ?_
   walk_at "s"
   refine b3u d2 ?_
   walk_at "s"
   exact hnx _ _ (Trm.sizeL ts') (by omega) ⟨us',ts',c+1,_,rfl,a0c,f1,by simp only[Trm.size]at h3;omega,by omega,rfl,f3⟩
  |app sg ks=>
   obtain⟨a,b,us2,rfl,hs,hb,hk⟩:=a4g f2
   refine a0w hs (v:=.str appS) rfl ?_
   walk_at "s"
   refine c0z d3 ?_
   walk_at "s"
   refine⟨.inl ⟨rfl,_,SqL.of a0c⟩,?_⟩
   walk_at "s"
   refine a0w hs (v:=.ref b) rfl ?_
   walk_at "s"
   simp only[Trm.size]at h3 h4 tp
   have l1:=f1.length
   have l2:=hk.length
   rw[Trm.dataL_map,length_map]at l1 l2
   have l3:=Trm.len_le ts'
   have l4:=Trm.len_le ks
   refine mExt_t a0c hb (ln (by omega)) ?_
   walk_at "s"
   refine hnx _ _ (Trm.sizeL (ts'++ks)) (by rw[Trm.sizeL_app];omega) ⟨us'++us2,ts'++ks,c+1,_,rfl,a0c,?_,by rw[Trm.sizeL_app];omega,by omega,rfl,a1n f3 hp⟩
   rw[Trm.dataL_map,Zq,<-Trm.dataL_map,<-Trm.dataL_map]
   exact(f1.append hk).lst a0c
end
section
variable{P:Program}{w:World}{K:W.Frag}{mg:Str->Option Value}{base:Heap}{t:Ad}
theorem c8y(T:Txt K mg t)(G_a5:FnOk P w K mg base CX0 1 t.a_a5 t.d_a5 ["sign","kids"] (b1z K)):FnOk P w K mg base CX0 2 t.a_b9 t.d_b9 ["things","rest"] (b0s K):=by
 refine T.F_b9.ok b0m (fun vs H Q E h=>?_) (fun cdv A outer s H vs Q E hr h=>?_)
 ·unfold b0s at h
  split at h
  ·rfl
  ·exact h.elim
 unfold b0s at h
 split at h
 rotate_left
 ·exact h.elim
 refine⟨_,(a0e (a0q (i:=2) b0m.nd rfl (by walk_at "or1") (mv 1)) (a0e (a8g Yh rfl (kpi_rev K rfl rfl T.n_j3 (a0a (mv 0) a0b)) (a6w (i:=3) b0m.nd rfl (by walk_at "or1")) (a0g (a0q (i:=2) (hs:=a1p) b0m.nd rfl (by walk_at "or1") (a0l G_a5 (hr.mono (by walk_at "r")) rfl T.m_a5 T.F_a5.kp T.b_a5 .nil a0p (a0a (a2p rfl T.m_h7) (a0a (a1j (a0a (mv 3) (a0a (mv 2) a0b))) a0b)))))) (a0g (a0m (mv 2))))),?_⟩
 rename_i p x
 obtain⟨us,ts,rt,hS,hd,hz,hx,q⟩:=h
 have hl:=a5r hd
 walk_at "s"
 refine⟨p,us,rfl,hS,?_⟩
 refine a6z row_rev (fun i σ' H'=>∃(y:V)(o:Option V),σ'=[some (.ref p),some x,some y,o]/\Same H H'/\Den K H' y (mkL (ts.drop (ts.length-i)) rt).data) ⟨x,none,rfl,Same.refl _,by rw[U7,Um];exact hx⟩ (fun i σ' H' hP=>by obtain⟨_,_,_,sm,_⟩:=hP;exact sm.seq hS) (fun i σ' H' hi hP=>?_) (fun σ' H' hP=>?_)
 ·obtain⟨y,o,rfl,sm,hy⟩:=hP
  obtain⟨w1,tk,e1,e2,e3,e4⟩:=d2c hd (i:=us.length-1-i) (by omega)
  rw[e3]
  walk_at "s"
  refine⟨ln (by show 2<=100000;decide),fun p2 hp2=>?_⟩
  walk_at "s"
  have s2:=a0f hp2 (.lst [w1,y])
  refine⟨[w1,y],[tk,mkL (ts.drop (ts.length-i)) rt],SqL.of a0c,?_,by simp,fun r H2 s3 k3=>?_⟩
  ·simp only[Trm.dataL]
   exact .cons ((e4.mono sm).mono s2) (.cons (hy.mono s2) .nil)
  walk_at "s"
  refine⟨r,_,rfl,sm.trans (s2.trans s3),?_⟩
  have e5:ts.drop (ts.length-(i+1))=tk::ts.drop (ts.length-i):=d4v (by omega) (by rw[<-hl];exact e2)
  rw[e5,mkL]
  exact k3
 ·obtain⟨y,o,rfl,sm,hy⟩:=hP
  walk_at "s"
  rw[hl,U8,V1]at hy
  exact q y H' sm hy
theorem c5e(T:Txt K mg t)(G_a9:FnOk P w K mg base CX0 1 t.a_a9 t.d_a9 ["sign"] (a5z)):FnOk P w K mg base CX0 2 t.a_b4 t.d_b4 ["text","firsts"] (a6o):=by
 refine T.F_b4.ok c4s (fun vs H Q E h=>?_) (fun cdv A outer s H vs Q E hr h=>?_)
 ·unfold a6o at h
  split at h
  ·rfl
  ·exact h.elim
 unfold a6o at h
 split at h
 rotate_left
 ·exact h.elim
 refine⟨_,(a0e (a0v (PW.pt (b6v (a9t (a1w K rfl (a0z (kc_is K rfl) rfl T.n_i8 boot_isinstance (a0a (mv 0) (a0a (c4c rfl T.n_h9 Tl) a0b))))) (b3n (a9t (b8a c3a c3a a0d (a0z (a2d K rfl) rfl T.n_c4 Z0 (a0a (mv 0) a0b)) (b1b rfl T.m_i3)))))) (a0g (a0m b2h)) a0u) (a0g (a0m (c4b (a3s a6i (a0r (a0k K rfl) (mv 0) a0d (fun _ _=>rfl)) (mv 1) (by with_unfolding_all rfl)) (b8z (a0z (d0w K rfl rfl) rfl T.n_j0 boot_all (a0a (c0k rfl (d0s (mv 0)) (c0l (a0h a9k) ["text","firsts"] ["text","firsts"] rfl rfl (by decide+kernel)) (fun _ _ _ _ _=>c0j) (fun _ _ _ _ _=>(a0l G_a9 (hr.mono (by walk_at "r")) rfl T.m_a9 T.F_a9.kp T.b_a9 .nil a0p (a0a (mv 0) a0b)))) a0b))))))),?_⟩
 rename_i s f
 obtain⟨z,rfl,⟨x,r,rfl,hx,hl,hi⟩,hf,q⟩:=h
 have hlen:=str_len (x::r)
 have hz':(⟨(x::r).toArray⟩:Str).length<=sizeLine:=ln (by rw[hlen,length_cons];omega)
 walk_at "A"
 refine a9y hz' ?_
 rw[hlen,length_cons]
 walk_at "s"
 refine iteB (fun e=>?_) (fun e=>absurd (Zl e) (by omega))
 walk_at "s"
 by_cases hb:r.length+1<=12
 rotate_left
 ·rw[show decide ((x::r).length<=12)=false from Zd (by rw[length_cons];exact hb)]at q
  rw[show decide (((r.length+1:Nat):Int)<=12)=false from Zd (by omega)]
  walk_at "D"
  exact q H (Same.refl H)
 rw[show decide ((x::r).length<=12)=true from Zg (by rw[length_cons];exact hb)]at q
 rw[show decide (((r.length+1:Nat):Int)<=12)=true from Zg (by omega)]
 walk_at "C"
 refine a3d hz' at0 ?_
 walk_at "s"
 rw[in_t hx]
 walk_at "D"
 have hall:∀y∈x::r,inn y:=fun y hy=>by
  rcases Zk.mp hy with z|z
  ·rw[z];exact hf x hx
  ·exact hi y z
 have hsz:(⟨(x::r).toArray⟩:Str).cps.size=r.length+1:=by simp
 refine⟨_,rfl,fun D hD=>?_⟩
 refine b7z (c7d _) (fun i ys H'=>Same H H'/\ys=(List.replicate i true).map V.bl/\H' D=some (.lst ys)) (ln (by rw[hsz];omega)) ⟨a0f hD _,rfl,a0c⟩ (fun _ _ _ _=>trivial) (fun i ys H' Q' hi' hl' hP k=>?_) (fun ys H' hl' hP=>?_)
 ·obtain⟨h1,h2,h3⟩:=hP
  rw[hsz]at hi'
  have hm:(⟨(x::r).toArray⟩:Str).cps.getD i 0∈x::r:=by
   have:i<(x::r).length:=by rw[length_cons];exact hi'
   simp only[Array.getD,Zh]
   rw[dif_pos this]
   exact Ul this
  walk_at "s"
  refine⟨_,rfl,?_⟩
  rw[Zg (hall _ hm)]
  refine k _ _ h3 ⟨a1n h1 hD,?_,a0c⟩
  rw[List.replicate_succ',Zq,h2];rfl
 ·obtain⟨h1,h2,h3⟩:=hP
  walk_at "s"
  refine⟨_,SqL.of (h2▸h3),?_⟩
  have e:(List.replicate (⟨(x::r).toArray⟩:Str).cps.size true).all id=true:=by simp
  show Q (.bl ((List.replicate (⟨(x::r).toArray⟩:Str).cps.size true).all id)) H'
  rw[e]
  exact q H' h1
theorem c8z(T:Txt K mg t)(G_b4:FnOk P w K mg base CX0 2 t.a_b4 t.d_b4 ["text","firsts"] (a6o)):FnOk P w K mg base CX0 3 t.a_f6 t.d_f6 ["text"] (b0p):=by
 refine T.F_f6.ok c8t (fun vs H Q E h=>?_) (fun cdv A outer s H vs Q E hr h=>?_)
 ·unfold b0p at h
  split at h
  ·rfl
  ·exact h.elim
 unfold b0p at h
 split at h
 rotate_left
 ·exact h.elim
 refine⟨_,(a0g (a0m (a0l G_b4 (hr.mono (by walk_at "r")) rfl T.m_b4 T.F_b4.kp T.b_b4 .nil a0p (a0a (mv 0) (a0a (a2p rfl T.m_h4) a0b))))),?_⟩
 rename_i s
 obtain⟨z,rfl,hc,q⟩:=h
 walk_at "s"
 exact⟨z,rfl,hc,fun y hy=>a3r hy,q⟩
theorem c9a(T:Txt K mg t)(G_b4:FnOk P w K mg base CX0 2 t.a_b4 t.d_b4 ["text","firsts"] (a6o)):FnOk P w K mg base CX0 3 t.a_f1 t.d_f1 ["text"] (b0q):=by
 refine T.F_f1.ok c8u (fun vs H Q E h=>?_) (fun cdv A outer s H vs Q E hr h=>?_)
 ·unfold b0q at h
  split at h
  ·rfl
  ·exact h.elim
 unfold b0q at h
 split at h
 rotate_left
 ·exact h.elim
 refine⟨_,(a0g (a0m (a0l G_b4 (hr.mono (by walk_at "r")) rfl T.m_b4 T.F_b4.kp T.b_b4 .nil a0p (a0a (mv 0) (a0a (a2p rfl T.m_h5) a0b))))),?_⟩
 rename_i s
 obtain⟨z,rfl,hc,q⟩:=h
 walk_at "s"
 exact⟨z,rfl,hc,fun y hy=>a8c hy,q⟩
theorem b9w(T:Txt K mg t)(G_f6:FnOk P w K mg base CX0 3 t.a_f6 t.d_f6 ["text"] (b0p))(G_a3:FnOk P w K mg base CX0 1 t.a_a3 t.d_a3 ["self","words","row"] (a1b K)):FnOk P w K mg base (CXo P w) 4 t.a_b7 t.d_b7 ["text"] (a4x t.k_a0):=by
 refine T.F_b7.okX b9q (fun vs H Q E h=>?_) (fun cdv A outer s H vs Q E hr h=>?_)
 ·unfold a4x at h
  split at h
  ·rfl
  ·exact h.elim
 unfold a4x at h
 split at h
 rotate_left
 ·exact h.elim
 refine⟨_,(a0e (a0v (a9t (a1w K rfl (a0l G_f6 (hr.mono (by walk_at "r")) rfl T.m_f6 T.F_f6.kp T.b_f6 .nil a0p (a0a (mv 0) a0b)))) (a0g (a4n rfl a5g (a4m T.mk_a0 G_a3 (hr.mono (by walk_at "r")) rfl T.m_a0 T.bd_a3 (show Vals [V.int 0] [Value.int 0 t.w_a3_0]from(.cons ⟨_,rfl⟩ .nil)) a0p (a0a (pe_fT (mv 0)) a0b)))) a0u) (a0g (a0m (mv 0)))),?_⟩
 rename_i s
 obtain⟨z,rfl,hc,q⟩:=h
 have hz:z.length<=2001:=by obtain⟨x,r,rfl,_,h,_⟩:=hc;simp;omega
 walk_at "s"
 refine⟨z,rfl,hc,fun H1 s1=>?_⟩
 walk_at "s"
 cases hb:decide (z.length<=12)with
 |true=>
  rw[hb]at q
  walk_at "C"
  exact q H1 s1
 |false=>
  rw[hb]at q
  have q:onX H t.k_a0 E:=q
  walk_at "D"
  refine⟨_,rfl,by rw[str_len];omega,fun zz=>?_⟩
  walk_at "s"
  refine⟨by simp,fun ea hea=>?_⟩
  refine⟨t.k_a0,_,true,T.x_a0,T.u_a0,T.at_a0,T.no_a0_row,a0c,fun H9 b9=>⟨rfl,?_⟩⟩
  obtain⟨dx9,h91,h92,h93⟩:=a2l hea (Same.refl _) hea b9
  refine⟨ea,t.k_a0,dx9,_,rfl,T.x_a0,h91,?_⟩
  exact q ea _ (s1.trans h93) h92
theorem b9x(T:Txt K mg t)(G_f1:FnOk P w K mg base CX0 3 t.a_f1 t.d_f1 ["text"] (b0q))(G_a3:FnOk P w K mg base CX0 1 t.a_a3 t.d_a3 ["self","words","row"] (a1b K)):FnOk P w K mg base (CXo P w) 4 t.a_c8 t.d_c8 ["text"] (a6d t.k_a0):=by
 refine T.F_c8.okX b9r (fun vs H Q E h=>?_) (fun cdv A outer s H vs Q E hr h=>?_)
 ·unfold a6d at h
  split at h
  ·rfl
  ·exact h.elim
 unfold a6d at h
 split at h
 rotate_left
 ·exact h.elim
 refine⟨_,(a0e (a0v (a9t (a1w K rfl (a0l G_f1 (hr.mono (by walk_at "r")) rfl T.m_f1 T.F_f1.kp T.b_f1 .nil a0p (a0a (mv 0) a0b)))) (a0g (a4n rfl a5g (a4m T.mk_a0 G_a3 (hr.mono (by walk_at "r")) rfl T.m_a0 T.bd_a3 (show Vals [V.int 0] [Value.int 0 t.w_a3_0]from(.cons ⟨_,rfl⟩ .nil)) a0p (a0a (pe_fT (mv 0)) a0b)))) a0u) (a0g (a0m (mv 0)))),?_⟩
 rename_i s
 obtain⟨z,rfl,hc,q⟩:=h
 have hz:z.length<=2001:=by obtain⟨x,r,rfl,_,h,_⟩:=hc;simp;omega
 walk_at "s"
 refine⟨z,rfl,hc,fun H1 s1=>?_⟩
 walk_at "s"
 cases hb:decide (z.length<=12)with
 |true=>
  rw[hb]at q
  walk_at "C"
  exact q H1 s1
 |false=>
  rw[hb]at q
  have q:onX H t.k_a0 E:=q
  walk_at "D"
  refine⟨_,rfl,by rw[str_len];omega,fun zz=>?_⟩
  walk_at "s"
  refine⟨by simp,fun ea hea=>?_⟩
  refine⟨t.k_a0,_,true,T.x_a0,T.u_a0,T.at_a0,T.no_a0_row,a0c,fun H9 b9=>⟨rfl,?_⟩⟩
  obtain⟨dx9,h91,h92,h93⟩:=a2l hea (Same.refl _) hea b9
  refine⟨ea,t.k_a0,dx9,_,rfl,T.x_a0,h91,?_⟩
  exact q ea _ (s1.trans h93) h92
theorem d4x(c:Nat)(r:List Nat):cutS ⟨(c::r).toArray⟩ (some 1) none=⟨r.toArray⟩:=by
 unfold cutS HT.sIx
 simp[Str.length]
theorem c5f(T:Txt K mg t)  :FnOk P w K mg base CX0 1 t.a_d5 t.d_d5 ["text"] (a8m):=by
 refine T.F_d5.ok c4u (fun vs H Q E h=>?_) (fun cdv A outer s H vs Q E hr h=>?_)
 ·unfold a8m at h
  split at h
  ·rfl
  ·exact h.elim
 unfold a8m at h
 split at h
 rotate_left
 ·exact h.elim
 refine⟨_,(a0e (a0v (a0s a1e (a0r (a0k K rfl) (mv 0) a0d (fun _ _=>rfl)) (a2p rfl T.m_h2) (a0t _)) (a0g (a0m (a6b a4v (a6h c7m rfl T.n_i9 boot_int (a0a (a3y b1m (mv 0) (a3l a0d) a6x) a0b))))) a0u) (a0g (a0m (a6h c7m rfl T.n_i9 boot_int (a0a (mv 0) a0b))))),?_⟩
 rename_i s
 obtain⟨n,hn,q⟩:=h
 have hl:(a1k n).length<=30:=b1q (by decide) hn
 have e:=c4i n
 have hs:(ofString (toString (n:Int))).length<=640:=by rw[show(ofString (toString (n:Int)):Str)=⟨(a1k n).toArray⟩from e,str_len];omega
 obtain⟨h1,x,r,h2,_⟩:=b1f n
 rcases q with⟨rfl,q⟩|⟨rfl,q⟩
 ·walk_at "s"
  refine a3d (ln (by rw[str_len];omega)) (by rw[h2];exact at0) ?_
  walk_at "s"
  refine iteB (fun z=>?_) (fun z=>?_)
  ·exfalso
   rw[Zm,b9s]at z
   have:=a9b (Ze z)
   have:=h1 x (by rw[h2];exact Zj ..)
   omega
  walk_at "s"
  rw[<-e]
  exact⟨n,rfl,hs,q⟩
 ·walk_at "s"
  refine a3d (ln (by rw[str_len,length_cons];omega)) at0 ?_
  walk_at "s"
  refine iteB (fun z=>?_) (fun z=>absurd z (by rw[Zm,b9s];decide+kernel))
  walk_at "s"
  refine b1o (ln (by rw[str_len,length_cons];omega)) ?_
  rw[d4x,<-e]
  walk_at "s"
  refine⟨n,rfl,hs,?_⟩
  walk_at "s"
  exact q
theorem c5g{z:List Nat}(h:kindOf z=ofString "num"):(a2n z=true/\∀r,z≠126::r)\/∃f,z=126::f/\a2n f=true/\f≠[48]:=by
 cases z with
 |nil=>exact absurd h (by decide+kernel)
 |cons c r=>
  rw[kindOf]at h
  split at h
  ·exact absurd h (by decide+kernel)
  split at h
  ·split at h<;>exact absurd h (by decide+kernel)
  split at h
  ·rename_i e
   subst e
   split at h
   ·exact absurd h (by decide+kernel)
   ·rename_i n
    refine .inr ⟨r,rfl,?_,fun z=>n (.inl z)⟩
    cases e:a2n r with
    |true=>rfl
    |false=>exact absurd (.inr e) n
  ·rename_i n1
   split at h
   ·exact absurd h (by decide+kernel)
   split at h
   ·exact absurd h (by decide+kernel)
   split at h
   ·rename_i n2;exact .inl ⟨n2.2,fun x e=>n1 (Wh e).1⟩
   ·exact absurd h (by decide+kernel)
theorem a7t{z:List Nat}(h:kindOf z=ofString "word"):∃c r,z=c::r/\c∈a2k.cps.toList:=by
 cases z with
 |nil=>exact absurd h (by decide+kernel)
 |cons c r=>
  rw[kindOf]at h
  split at h
  ·exact absurd h (by decide+kernel)
  split at h
  ·split at h<;>exact absurd h (by decide+kernel)
  split at h
  ·split at h<;>exact absurd h (by decide+kernel)
  split at h
  ·rename_i n;exact⟨c,r,rfl,n⟩
  split at h
  ·exact absurd h (by decide+kernel)
  split at h<;>exact absurd h (by decide+kernel)
theorem c2t{z:List Nat}(h:kindOf z=ofString "name"):∃c r,z=c::r/\c∈a2v.cps.toList:=by
 cases z with
 |nil=>exact absurd h (by decide+kernel)
 |cons c r=>
  rw[kindOf]at h
  split at h
  ·exact absurd h (by decide+kernel)
  split at h
  ·split at h<;>exact absurd h (by decide+kernel)
  split at h
  ·split at h<;>exact absurd h (by decide+kernel)
  split at h
  ·exact absurd h (by decide+kernel)
  split at h
  ·rename_i n;exact⟨c,r,rfl,n⟩
  split at h<;>exact absurd h (by decide+kernel)
theorem Pok.calW{z:List Nat}(h:Pok z)(k:∃c r,z=c::r/\c∈a2k.cps.toList):Cal a2k.cps.toList z:=by
 obtain⟨c,r,rfl,h1,_,h2⟩:=h
 obtain⟨c',r',e,hc⟩:=k
 cases e
 exact⟨c,r,rfl,hc,by rw[length_cons]at h1;omega,h2 (a3r hc)⟩
theorem Pok.calN{z:List Nat}(h:Pok z)(k:∃c r,z=c::r/\c∈a2v.cps.toList):Cal a2v.cps.toList z:=by
 obtain⟨c,r,rfl,h1,_,h2⟩:=h
 obtain⟨c',r',e,hc⟩:=k
 cases e
 exact⟨c,r,rfl,hc,by rw[length_cons]at h1;omega,h2 (a8c hc)⟩
theorem Pok.sho{z:List Nat}(h:Pok z):sho ⟨z.toArray⟩:=by
 obtain⟨c,r,rfl,h1,h2,_⟩:=h
 exact⟨b6i h2,by rw[str_len];omega⟩
theorem d4y(z:List Nat):sho (kindOf z):=by
 have s1:L2.sho (ofString "sign"):=⟨by decide+kernel,by decide+kernel⟩
 have s2:L2.sho (ofString "mark"):=⟨by decide+kernel,by decide+kernel⟩
 have s3:L2.sho (ofString "num"):=⟨by decide+kernel,by decide+kernel⟩
 have s4:L2.sho (ofString "word"):=⟨by decide+kernel,by decide+kernel⟩
 have s5:L2.sho (ofString "name"):=⟨by decide+kernel,by decide+kernel⟩
 have s6:L2.sho a1f:=⟨by decide+kernel,by decide+kernel⟩
 cases z with
 |nil=>exact s6
 |cons c r=>
  rw[kindOf]
  repeat' split
  all_goals first|exact s1|exact s2|exact s3|exact s4|exact s5|exact s6
theorem end_sho:sho (ofString "end"):=⟨by decide+kernel,by decide+kernel⟩
theorem nil_sho:sho (ofString ""):=⟨by decide+kernel,by decide+kernel⟩
theorem c6q(T:Txt K mg t)(G_a3:FnOk P w K mg base CX0 1 t.a_a3 t.d_a3 ["self","words","row"] (a1b K))(G_c2:FnOk P w K mg base CX0 1 t.a_c2 t.d_c2 ["n"] (b9u K))(G_e6:FnOk P w K mg base CX0 1 t.a_e6 t.d_e6 ["name"] (b0r K))(G_a5:FnOk P w K mg base CX0 1 t.a_a5 t.d_a5 ["sign","kids"] (b1z K))(G_d5:FnOk P w K mg base CX0 1 t.a_d5 t.d_d5 ["text"] (a8m))(G_c8:FnOk P w K mg base (CXo P w) 4 t.a_c8 t.d_c8 ["text"] (a6d t.k_a0))(G_b7:FnOk P w K mg base (CXo P w) 4 t.a_b7 t.d_b7 ["text"] (a4x t.k_a0)):FnOk P w K mg base (CXo P w) 5 t.a_f9 t.d_f9 ["piece"] (a9p K t.k_a0):=by
 refine T.F_f9.okX c6k (fun vs H Q E h=>?_) (fun cdv A outer s H vs Q E hr h=>?_)
 ·unfold a9p at h
  split at h
  ·rfl
  ·exact h.elim
 unfold a9p at h
 split at h
 rotate_left
 ·exact h.elim
 refine⟨_,(a0e (a0v (a0s a1e (a0r (a0k K rfl) (mv 0) a0d (fun _ _=>rfl)) a0i (a0t _)) (a0g (a0m (a0l G_c2 (hr.mono (by walk_at "r")) rfl T.m_c2 T.F_c2.kp T.b_c2 .nil a0p (a0a (a0l G_d5 (hr.mono (by walk_at "r")) rfl T.m_d5 T.F_d5.kp T.b_d5 .nil a0p (a0a (a0r (a0k K rfl) (mv 0) a0d (fun _ _=>rfl)) a0b)) a0b)))) a0u) (a0e (a0v (a0s a1e (a0r (a0k K rfl) (mv 0) a0d (fun _ _=>rfl)) a0i (a0t _)) (a0g (a0m (a0l G_e6 (hr.mono (by walk_at "r")) rfl T.m_e6 T.F_e6.kp T.b_e6 .nil a0p (a0a (a0l G_c8 (hr.mono (by walk_at "r")) rfl T.m_c8 T.F_c8.kp T.b_c8 .nil a4w (a0a (a0r (a0k K rfl) (mv 0) a0d (fun _ _=>rfl)) a0b)) a0b)))) a0u) (a0e (a0v (a0s a1e (a0r (a0k K rfl) (mv 0) a0d (fun _ _=>rfl)) a0i (a0t _)) (a0g (a0m (a0l G_a5 (hr.mono (by walk_at "r")) rfl T.m_a5 T.F_a5.kp T.b_a5 .nil a0p (a0a (a0l G_b7 (hr.mono (by walk_at "r")) rfl T.m_b7 T.F_b7.kp T.b_b7 .nil a4w (a0a (a0r (a0k K rfl) (mv 0) a0d (fun _ _=>rfl)) a0b)) (a0a (a1j a0b) a0b))))) a0u) (a0g (a4n rfl a5g (a4m T.mk_a0 G_a3 (hr.mono (by walk_at "r")) rfl T.m_a0 T.bd_a3 (show Vals [V.int 0] [Value.int 0 t.w_a3_0]from(.cons ⟨_,rfl⟩ .nil)) a0p (a0a (pe_frT K rfl hr.gd (a7y hr) (mv 0)) a0b))))))),?_⟩
 rename_i v
 rcases h with⟨z,hd,pk,q⟩|⟨a,rfl,hs,q⟩
 ·obtain⟨a,rfl,hs⟩:=c0x hd
  have sz:=pk.sho
  unfold thgZ at q
  walk_at "s"
  refine a0w hs (v:=.str (kindOf z)) rfl ?_
  walk_at "s"
  refine iteB (fun e=>?_) (fun e=>?_)
  ·have e:kindOf z=ofString "num":=by rw[Zm]at e;exact Ze e
   rw[if_pos e]at q
   walk_at "s"
   refine a0w hs (v:=.str ⟨z.toArray⟩) rfl ?_
   walk_at "s"
   rcases c5g e with⟨h1,h2⟩|⟨f,rfl,h1,h2⟩
   ·obtain⟨n1,n2⟩:=d2e h1
    obtain⟨n3,_⟩:=b4t _ z rfl n1
    obtain⟨c,r,ez,hf,_⟩:=n1
    refine⟨valD z,Zy (c7r hf) (Vy (by decide) n2),.inl ⟨by rw[n3],?_⟩⟩
    rw[show valZ z=(valD z:Int) by rw[ez,valZ,if_neg (fun y=>h2 r (by rw[ez,y]))]]at q
    walk_at "s"
    exact q
   ·obtain⟨n1,n2⟩:=d2e h1
    obtain⟨n3,_⟩:=b4t _ f rfl n1
    obtain⟨c,r,ez,hf,_⟩:=n1
    refine⟨valD f,Zy (c7r hf) (Vy (by decide) n2),.inr ⟨by rw[n3],?_⟩⟩
    rw[show valZ (126::f)= -(valD f:Int) by rw[valZ,if_pos rfl]]at q
    walk_at "s"
    exact q
  have e1:¬kindOf z=ofString "num":=by rw[Zm]at e;exact Zl e
  rw[if_neg e1]at q
  walk_at "s"
  refine a0w hs (v:=.str (kindOf z)) rfl ?_
  walk_at "s"
  refine iteB (fun e=>?_) (fun e=>?_)
  ·have e:kindOf z=ofString "name":=by rw[Zm]at e;exact Ze e
   rw[if_pos e]at q
   walk_at "s"
   refine a0w hs (v:=.str ⟨z.toArray⟩) rfl ?_
   walk_at "s"
   refine⟨z,rfl,pk.calN (c2t e),?_⟩
   by_cases hz:z.length<=12
   ·rw[if_pos hz]at q
    rw[Zg hz]
    intro H1 s1
    walk_at "s"
    exact fun v H' s2 d2=>q v H' (s1.trans s2) d2
   ·rw[if_neg hz]at q
    rw[Zd hz]
    exact q
  have e2:¬kindOf z=ofString "name":=by rw[Zm]at e;exact Zl e
  rw[if_neg e2]at q
  walk_at "s"
  refine a0w hs (v:=.str (kindOf z)) rfl ?_
  walk_at "s"
  refine iteB (fun e=>?_) (fun e=>?_)
  ·have e:kindOf z=ofString "word":=by rw[Zm]at e;exact Ze e
   rw[if_pos e]at q
   walk_at "s"
   refine a0w hs (v:=.str ⟨z.toArray⟩) rfl ?_
   walk_at "s"
   refine⟨z,rfl,pk.calW (a7t e),?_⟩
   by_cases hz:z.length<=12
   ·rw[if_pos hz]at q
    rw[Zg hz]
    intro H1 s1
    walk_at "s"
    refine⟨ln (by show 0<=100000;decide),fun p1 hp1=>?_⟩
    walk_at "s"
    exact⟨[],[],SqL.of a0c,.nil,by simp,fun v H' s2 d2=>q v H' (s1.trans ((a0f hp1 _).trans s2)) d2⟩
   ·rw[if_neg hz]at q
    rw[Zd hz]
    exact q
  have e3:¬kindOf z=ofString "word":=by rw[Zm]at e;exact Zl e
  rw[if_neg e3]at q
  have q:onX H t.k_a0 E:=q
  walk_at "s"
  refine⟨a,kindOf z,⟨z.toArray⟩,rfl,hs,d4y z,sz,fun zz=>?_⟩
  walk_at "s"
  refine⟨by simp,fun ea hea=>?_⟩
  refine⟨t.k_a0,_,true,T.x_a0,T.u_a0,T.at_a0,T.no_a0_row,a0c,fun H9 b9=>⟨rfl,?_⟩⟩
  obtain⟨dx9,h91,h92,h93⟩:=a2l hea (Same.refl _) hea b9
  refine⟨ea,t.k_a0,dx9,_,rfl,T.x_a0,h91,?_⟩
  exact q ea _ h93 h92
 ·walk_at "s"
  refine a0w hs (v:=.str (ofString "end")) rfl ?_
  walk_at "s"
  refine iteB (fun e=>absurd e (by decide+kernel)) (fun e=>?_)
  walk_at "s"
  refine a0w hs (v:=.str (ofString "end")) rfl ?_
  walk_at "s"
  refine iteB (fun e=>absurd e (by decide+kernel)) (fun e=>?_)
  walk_at "s"
  refine a0w hs (v:=.str (ofString "end")) rfl ?_
  walk_at "s"
  refine iteB (fun e=>absurd e (by decide+kernel)) (fun e=>?_)
  walk_at "s"
  refine⟨a,_,_,rfl,hs,end_sho,nil_sho,fun zz=>?_⟩
  walk_at "s"
  refine⟨by simp,fun ea hea=>?_⟩
  refine⟨t.k_a0,_,true,T.x_a0,T.u_a0,T.at_a0,T.no_a0_row,a0c,fun H9 b9=>⟨rfl,?_⟩⟩
  obtain⟨dx9,h91,h92,h93⟩:=a2l hea (Same.refl _) hea b9
  refine⟨ea,t.k_a0,dx9,_,rfl,T.x_a0,h91,?_⟩
  exact q ea _ h93 h92
theorem c1c(T:Txt K mg t)(G_a3:FnOk P w K mg base CX0 1 t.a_a3 t.d_a3 ["self","words","row"] (a1b K)):FnOk P w K mg base (CXo P w) 3 t.a_e3 t.d_e3 ["earlier","later"] (a7d K t.k_a0):=by
 refine T.F_e3.okX c0u (fun vs H Q E h=>?_) (fun cdv A outer s H vs Q E hr h=>?_)
 ·unfold a7d at h
  split at h
  ·rfl
  ·exact h.elim
 unfold a7d at h
 split at h
 rotate_left
 ·exact h.elim
 refine⟨_,(a0e (a0v (a0s mo_ne (a0r (a0k K rfl) (mv 0) a0d (fun _ _=>rfl)) (a0r (a0k K rfl) (mv 1) a0d (fun _ _=>rfl)) (a0t _)) (a0g (a0m (a3s a9i (a0r (a0k K rfl) (mv 0) a0d (fun _ _=>rfl)) (a0r (a0k K rfl) (mv 1) a0d (fun _ _=>rfl)) (a0t _)))) a0u) (a0e (a0v (a0s a1e (a0r (a0k K rfl) (mv 1) a0d (fun _ _=>rfl)) a0i (a0t _)) (a0g (a4n rfl a5g (a4m T.mk_a0 G_a3 (hr.mono (by walk_at "r")) rfl T.m_a0 T.bd_a3 (show Vals [V.int 0] [Value.int 0 t.w_a3_0]from(.cons ⟨_,rfl⟩ .nil)) a0p (a0a a0i a0b)))) a0u) (a0g (a0m (a3s a1e (a0r (a0k K rfl) (mv 1) a0d (fun _ _=>rfl)) a0i (a0t _)))))),?_⟩
 rename_i a b
 obtain⟨e,l,ha,hb,q⟩:=h
 walk_at "s"
 refine a0w ha (v:=.int e.1) rfl ?_
 walk_at "s"
 refine a0w hb (v:=.int l.1) rfl ?_
 walk_at "s"
 unfold bf at q
 refine iteB (fun z=>?_) (fun z=>?_)
 ·have hne:¬e.1=l.1:=by intro y;rw[y]at z;simp at z
  rw[if_neg hne]at q
  walk_at "s"
  refine a0w ha (v:=.int e.1) rfl ?_
  walk_at "s"
  refine a0w hb (v:=.int l.1) rfl ?_
  walk_at "s"
  exact q H (Same.refl H)
 have heq:e.1=l.1:=by
  by_cases y:e.1=l.1
  ·exact y
  ·rw[Zd y]at z;simp at z
 rw[if_pos heq]at q
 walk_at "s"
 refine a0w hb (v:=.str l.2) rfl ?_
 walk_at "s"
 refine iteB (fun z=>?_) (fun z=>?_)
 ·have hn:l.2=a1f:=by rw[Zm]at z;exact Ze z
  rw[if_pos hn]at q
  walk_at "s"
  refine⟨by simp,fun ea hea=>?_⟩
  refine⟨t.k_a0,_,true,T.x_a0,T.u_a0,T.at_a0,T.no_a0_row,a0c,fun H9 b9=>⟨rfl,?_⟩⟩
  obtain⟨dx9,h91,h92,h93⟩:=a2l hea (Same.refl _) hea b9
  refine⟨ea,t.k_a0,dx9,_,rfl,T.x_a0,h91,?_⟩
  exact q ea _ h93 h92
 have hn:¬l.2=a1f:=by rw[Zm]at z;exact Zl z
 rw[if_neg hn]at q
 walk_at "s"
 refine a0w hb (v:=.str l.2) rfl ?_
 walk_at "s"
 rw[Zm]
 exact q H (Same.refl H)
end
section
variable{P:Program}{w:World}{K:W.Frag}{mg:Str->Option Value}{base:Heap}{t:Ad}
theorem c2u(T:Txt K mg t)  :FnOk P w K mg base CX0 1 t.a_c5 t.d_c5 ["self","kind","word"] (a5s K t.k_a1):=by
 refine T.F_c5.ok c2q (fun vs H Q E h=>?_) (fun cdv A outer s H vs Q E hr h=>?_)
 ·unfold a5s at h
  split at h
  ·rfl
  ·exact h.elim
 unfold a5s at h
 split at h
 rotate_left
 ·exact h.elim
 refine⟨_,(a0e (a6g (mv 0) (mv 1) rfl) (a0e (a6g (mv 0) (mv 2) rfl) (a0e (a6g (mv 0) (a1j a0b) rfl) (a0e (a6g (mv 0) (a1j a0b) rfl) (a0g (a6g (mv 0) (a1j a0b) rfl)))))),?_⟩
 rename_i l k w
 obtain⟨dx,hx,q⟩:=h
 walk_at "s"
 refine⟨l,_,dx,_,rfl,hx,T.cl_a1,T.no_a1_kind,by simp,?_⟩
 have e0:putF (ofString "kind") (.str k) []=[(a1o,V.str k)]:=by rfl
 rw[e0]
 have b0:But l H (upd H l (.ins t.k_a1 dx [(a1o,V.str k)])):=a7a _
 have c0:(upd H l (.ins t.k_a1 dx [(a1o,V.str k)])) l=some (.ins t.k_a1 dx [(a1o,V.str k)]):=a0c
 generalize upd H l (.ins t.k_a1 dx [(a1o,V.str k)])=J0 at b0 c0 ⊢
 walk_at "s"
 refine⟨l,_,dx,_,rfl,c0,T.cl_a1,T.no_a1_word,by simp,?_⟩
 have e1:putF (ofString "word") (.str w) [(a1o,V.str k)]=[(a1o,V.str k),(a1z,V.str w)]:=by simp only[putF,show ¬a1o=ofString "word" by decide+kernel,Xu]
 rw[e1]
 have b1:But l J0 (upd J0 l (.ins t.k_a1 dx [(a1o,V.str k),(a1z,V.str w)])):=a7a _
 have c1:(upd J0 l (.ins t.k_a1 dx [(a1o,V.str k),(a1z,V.str w)])) l=some (.ins t.k_a1 dx [(a1o,V.str k),(a1z,V.str w)]):=a0c
 generalize upd J0 l (.ins t.k_a1 dx [(a1o,V.str k),(a1z,V.str w)])=J1 at b1 c1 ⊢
 walk_at "s"
 refine⟨ln (by show 0<=100000;decide),fun pd hpd=>?_⟩
 have spd:=a0f hpd (.lst [])
 have kpd:(upd J1 pd (.lst [])) pd=some (.lst []):=a0c
 have npd:pd≠l:=fun z=>by rw[z,c1]at hpd;cases hpd
 generalize upd J1 pd (.lst [])=L2 at spd kpd ⊢
 have o2:=spd _ _ c1
 walk_at "s"
 refine⟨l,_,dx,_,rfl,o2,T.cl_a1,T.no_a1_done,by simp,?_⟩
 have e2:putF (ofString "done") (.ref pd) [(a1o,V.str k),(a1z,V.str w)]=[(a1o,V.str k),(a1z,V.str w),(a2y,V.ref pd)]:=by simp only[putF,show ¬a1o=ofString "done" by decide+kernel,show ¬a1z=ofString "done" by decide+kernel,Xu]
 rw[e2]
 have b2:But l L2 (upd L2 l (.ins t.k_a1 dx [(a1o,V.str k),(a1z,V.str w),(a2y,V.ref pd)])):=a7a _
 have c2:(upd L2 l (.ins t.k_a1 dx [(a1o,V.str k),(a1z,V.str w),(a2y,V.ref pd)])) l=some (.ins t.k_a1 dx [(a1o,V.str k),(a1z,V.str w),(a2y,V.ref pd)]):=a0c
 generalize upd L2 l (.ins t.k_a1 dx [(a1o,V.str k),(a1z,V.str w),(a2y,V.ref pd)])=J2 at b2 c2 ⊢
 walk_at "s"
 refine⟨ln (by show 0<=100000;decide),fun ps hps=>?_⟩
 have sps:=a0f hps (.lst [])
 have kps:(upd J2 ps (.lst [])) ps=some (.lst []):=a0c
 have nps:ps≠l:=fun z=>by rw[z,c2]at hps;cases hps
 generalize upd J2 ps (.lst [])=L3 at sps kps ⊢
 have o3:=sps _ _ c2
 walk_at "s"
 refine⟨l,_,dx,_,rfl,o3,T.cl_a1,T.no_a1_sides,by simp,?_⟩
 have e3:putF (ofString "sides") (.ref ps) [(a1o,V.str k),(a1z,V.str w),(a2y,V.ref pd)]=[(a1o,V.str k),(a1z,V.str w),(a2y,V.ref pd),(a4p,V.ref ps)]:=by simp only[putF,show ¬a1o=ofString "sides" by decide+kernel,show ¬a1z=ofString "sides" by decide+kernel,show ¬a2y=ofString "sides" by decide+kernel,Xu]
 rw[e3]
 have b3:But l L3 (upd L3 l (.ins t.k_a1 dx [(a1o,V.str k),(a1z,V.str w),(a2y,V.ref pd),(a4p,V.ref ps)])):=a7a _
 have c3:(upd L3 l (.ins t.k_a1 dx [(a1o,V.str k),(a1z,V.str w),(a2y,V.ref pd),(a4p,V.ref ps)])) l=some (.ins t.k_a1 dx [(a1o,V.str k),(a1z,V.str w),(a2y,V.ref pd),(a4p,V.ref ps)]):=a0c
 generalize upd L3 l (.ins t.k_a1 dx [(a1o,V.str k),(a1z,V.str w),(a2y,V.ref pd),(a4p,V.ref ps)])=J3 at b3 c3 ⊢
 walk_at "s"
 refine⟨ln (by show 0<=100000;decide),fun pw hpw=>?_⟩
 have spw:=a0f hpw (.lst [])
 have kpw:(upd J3 pw (.lst [])) pw=some (.lst []):=a0c
 have npw:pw≠l:=fun z=>by rw[z,c3]at hpw;cases hpw
 generalize upd J3 pw (.lst [])=L4 at spw kpw ⊢
 have o4:=spw _ _ c3
 walk_at "s"
 refine⟨l,_,dx,_,rfl,o4,T.cl_a1,T.no_a1_waiting,by simp,?_⟩
 have e4:putF (ofString "waiting") (.ref pw) [(a1o,V.str k),(a1z,V.str w),(a2y,V.ref pd),(a4p,V.ref ps)]=[(a1o,V.str k),(a1z,V.str w),(a2y,V.ref pd),(a4p,V.ref ps),(b4v,V.ref pw)]:=by simp only[putF,show ¬a1o=ofString "waiting" by decide+kernel,show ¬a1z=ofString "waiting" by decide+kernel,show ¬a2y=ofString "waiting" by decide+kernel,show ¬a4p=ofString "waiting" by decide+kernel,Xu]
 rw[e4]
 have b4:But l L4 (upd L4 l (.ins t.k_a1 dx [(a1o,V.str k),(a1z,V.str w),(a2y,V.ref pd),(a4p,V.ref ps),(b4v,V.ref pw)])):=a7a _
 have c4:(upd L4 l (.ins t.k_a1 dx [(a1o,V.str k),(a1z,V.str w),(a2y,V.ref pd),(a4p,V.ref ps),(b4v,V.ref pw)])) l=some (.ins t.k_a1 dx [(a1o,V.str k),(a1z,V.str w),(a2y,V.ref pd),(a4p,V.ref ps),(b4v,V.ref pw)]):=a0c
 generalize upd L4 l (.ins t.k_a1 dx [(a1o,V.str k),(a1z,V.str w),(a2y,V.ref pd),(a4p,V.ref ps),(b4v,V.ref pw)])=J4 at b4 c4 ⊢
 walk_at "s"
 have kd2:J2 pd=some (.lst []):=b2 _ _ npd kpd
 have kd4:J4 pd=some (.lst []):=b4 _ _ npd (spw _ _ (b3 _ _ npd (sps _ _ kd2)))
 have ks4:J4 ps=some (.lst []):=b4 _ _ nps (spw _ _ (b3 _ _ nps kps))
 have kw4:J4 pw=some (.lst []):=b4 _ _ npw kpw
 have up:∀b o,b≠l->H b=some o->J1 b=some o:=fun b o hb e=>b1 _ _ hb (b0 _ _ hb e)
 have dn:∀b,b≠l->J1 b=none->H b=none:=fun b hb e=>by
  cases z:H b with
  |none=>rfl
  |some o=>rw[up b o hb z]at e;cases e
 have dn2:∀b,b≠l->J2 b=none->H b=none:=fun b hb e=>dn b hb (by
  cases z:J1 b with
  |none=>rfl
  |some o=>rw[b2 _ _ hb (spd _ _ z)]at e;cases e)
 have dn3:∀b,b≠l->J3 b=none->H b=none:=fun b hb e=>dn2 b hb (by
  cases z:J2 b with
  |none=>rfl
  |some o=>rw[b3 _ _ hb (sps _ _ z)]at e;cases e)
 exact q ⟨l,pd,ps,pw⟩ J4 rfl ⟨⟨dx,c4⟩,⟨[],kd4,.nil⟩,⟨[],ks4,.nil⟩,kw4,a1c kd2 hps,a1c (b3 _ _ npd (sps _ _ kd2)) hpw,a1c (b3 _ _ nps kps) hpw⟩ (fun b o hb e=>b4 _ _ hb (spw _ _ (b3 _ _ hb (sps _ _ (b2 _ _ hb (spd _ _ (up b o hb e))))))) (dn _ npd hpd) (dn2 _ nps hps) (dn3 _ npw hpw)
theorem c5h(T:Txt K mg t)(G_a5:FnOk P w K mg base CX0 1 t.a_a5 t.d_a5 ["sign","kids"] (b1z K)):FnOk P w K mg base CX0 2 t.a_b2 t.d_b2 ["level"] (a6p K t.k_a1):=by
 refine T.F_b2.ok b1w (fun vs H Q E h=>?_) (fun cdv A outer s H vs Q E hr h=>?_)
 ·unfold a6p at h
  split at h
  ·rfl
  ·exact h.elim
 unfold a6p at h
 split at h
 rotate_left
 ·exact h.elim
 refine⟨_,(a0e (a0q (i:=1) (hs:=a1p) b1w.nd rfl (by walk_at "or1") (a9w K rfl Zu Xi X6 b1n (a1d (mv 0) rfl))) (a0e (a0q (i:=2) (hs:=a1p) b1w.nd rfl (by walk_at "or1") (a9w K rfl Zu Xi X6 b1n (a1d (mv 0) rfl))) (a0g (a1a (a3t K rfl Zu Z6 Z8 a2j (a1d (mv 0) rfl) (a0a (a0l G_a5 (hr.mono (by walk_at "r")) rfl T.m_a5 T.F_a5.kp T.b_a5 .nil a0p (a0a (a9w K rfl Zu Xi X6 b1n (a1d (mv 0) rfl)) (a0a (a1j (a0a (mv 2) (a0a (mv 1) a0b))) a0b))) a0b)))))),?_⟩
 rename_i l
 obtain⟨f,lv,ss,a,b,ms,m,rfl,w,hs,hw,hl,q⟩:=h
 obtain⟨dx,ho⟩:=w.ob
 obtain⟨us,h1,h2⟩:=w.sd
 have h6:=w.wt
 rw[hs,show ss++[a,b]=(ss++[a])++[b] by simp,Trm.dataL_map,Zq,<-Trm.dataL_map]at h2
 obtain⟨us1,u1,rfl,d1,e1⟩:=DenL.snoc h2
 rw[hw,Zq]at h6
 walk_at "s"
 refine⟨_,_,dx,_,_,rfl,ho,T.cl_a1,T.no_a1_sides,a9d _ _ _,?_⟩
 walk_at "s"
 refine⟨.inl ⟨rfl,_,SqL.of h1⟩,?_⟩
 refine b1p h1 ?_
 have w1:=w.setS (ts:=ss++[a]) d1
 obtain⟨w1,g1⟩:=w1
 have e1':=e1.monoT (w.tup g1)
 generalize upd H f.sa (.lst us1)=H1 at w1 g1 e1' ⊢
 obtain⟨dx1,ho1⟩:=w1.ob
 obtain⟨us2',h3,h4⟩:=w1.sd
 simp only[]at h4
 rw[Trm.dataL_map,Zq,<-Trm.dataL_map]at h4
 obtain⟨us3,u2,rfl,d2,e2⟩:=DenL.snoc h4
 walk_at "s"
 refine⟨_,_,dx1,_,_,rfl,ho1,T.cl_a1,T.no_a1_sides,a9d _ _ _,?_⟩
 walk_at "s"
 refine⟨.inl ⟨rfl,_,SqL.of h3⟩,?_⟩
 refine b1p h3 ?_
 obtain⟨w2,g2⟩:=w1.setS (ts:=ss) d2
 have e1'':=e1'.monoT (w1.tup g2)
 have e2':=e2.monoT (w1.tup g2)
 generalize upd H1 f.sa (.lst us3)=H2 at w2 g2 e1'' e2' ⊢
 obtain⟨dx2,ho2⟩:=w2.ob
 obtain⟨us4,h5,d5⟩:=w2.sd
 have h7:H2 f.wa=some (.lst (ms.map V.str++[.str m])):=by have:=w2.wt;simp only[hw,Zq]at this;exact this
 walk_at "s"
 refine⟨_,_,dx2,_,_,rfl,ho2,T.cl_a1,T.no_a1_sides,a9d _ _ _,?_⟩
 walk_at "s"
 refine⟨.inl ⟨rfl,_,SqL.of h5⟩,?_⟩
 walk_at "s"
 refine⟨_,_,dx2,_,_,rfl,ho2,T.cl_a1,T.no_a1_waiting,a7f _ _ _,?_⟩
 walk_at "s"
 refine⟨.inl ⟨rfl,_,SqL.of h7⟩,?_⟩
 refine b1p h7 ?_
 obtain⟨w3,g3⟩:=w2.setW (ms:=ms)
 have f1:=e1''.monoT (w2.tup g3)
 have f2:=e2'.monoT (w2.tup g3)
 generalize upd H2 f.wa (.lst (ms.map V.str))=H3 at w3 g3 f1 f2 ⊢
 walk_at "s"
 refine⟨ln (by show 2<=100000;decide),fun p hp=>?_⟩
 have s4:=a0f hp (.lst [u2,u1])
 have k4:(upd H3 p (.lst [u2,u1])) p=some (.lst [u2,u1]):=a0c
 generalize upd H3 p (.lst [u2,u1])=H4 at s4 k4 ⊢
 walk_at "s"
 refine⟨[u2,u1],[a,b],SqL.of k4,.cons (f2.mono s4) (.cons (f1.mono s4) .nil),by simp,fun v H5 s5 d6=>?_⟩
 have w5:=w3.same (s4.trans s5)
 obtain⟨us6,h8,d8⟩:=w5.sd
 have l8:=a5r d8
 simp only[]at l8
 walk_at "s"
 refine a1u h8 (ln1 (by omega)) ?_
 walk_at "s"
 have d9:DenL K H5 (us6++[v]) (Trm.dataL (ss++[.app m [a,b]])):=by
  rw[Trm.dataL_map,Zq,<-Trm.dataL_map]
  exact d8.append (.cons d6 .nil)
 obtain⟨w6,g6⟩:=w5.setS d9
 exact q _ (g1.trans (g2.trans (g3.trans ((LF.of (s4.trans s5)).trans g6)))) w6
theorem d2g(T:Txt K mg t)(G_b2:FnOk P w K mg base CX0 2 t.a_b2 t.d_b2 ["level"] (a6p K t.k_a1)):FnOk P w K mg base CX0 3 t.a_a8 t.d_a8 ["level"] (a8d K t.k_a1):=by
 refine T.F_a8.ok d1u (fun vs H Q E h=>?_) (fun cdv A outer s H vs Q E hr h=>?_)
 ·unfold a8d at h
  split at h
  ·rfl
  ·exact h.elim
 unfold a8d at h
 split at h
 rotate_left
 ·exact h.elim
 refine⟨_,(a0e (a3x Yh (a1w K rfl (a1d (mv 0) rfl)) (a0g (a1a (a0l G_b2 (hr.mono (by walk_at "r")) rfl T.m_b2 T.F_b2.kp T.b_b2 .nil a0p (a0a (mv 0) a0b))))) (a0g (a1a (a3t K rfl Zu Z6 Z8 a2j (a1d (mv 0) rfl) (a0a (a9w K rfl Zu Xi X6 b1n (a1d (mv 0) rfl)) a0b))))),?_⟩
 rename_i l
 obtain⟨f,lv0,rfl,w0,hl,hm,hd,q⟩:=h
 walk_at "s"
 refine a3c (fun n σ' H'=>∃lv:Lv,σ'=[some (.ref f.l)]/\LvAt K t.k_a1 H' f lv/\lv.kind=lv0.kind/\lv.word=lv0.word/\lv.done=lv0.done/\lv.sides.length=lv.wait.length+1/\lv.wait.length=n/\n<=500/\jn lv.sides.reverse lv.wait.reverse=jn lv0.sides.reverse lv0.wait.reverse/\LF f H H') lv0.wait.length ⟨lv0,rfl,w0,rfl,rfl,rfl,hl,rfl,hm,rfl,LF.refl _ _⟩ (fun n σ' H' R hP kT kF=>?_)
 obtain⟨lv,rfl,w,e1,e2,e3,e4,e5,e6,e7,g⟩:=hP
 obtain⟨dx,ho⟩:=w.ob
 walk_at "s"
 refine⟨_,_,dx,_,_,rfl,ho,T.cl_a1,T.no_a1_waiting,a7f _ _ _,?_⟩
 refine .inl ⟨_,SqL.of w.wt,?_⟩
 rcases a3p lv.wait with z|⟨ms,m,z⟩
 ·rw[z]
  refine kF H' ?_
  have hs1:lv.sides.length=1:=by rw[e4,z];rfl
  obtain⟨x,hx⟩:∃x,lv.sides=[x]:=Td.mp hs1
  obtain⟨us,h1,h2⟩:=w.sd
  obtain⟨vs,h3,h4⟩:=w.dn
  have l4:=a5r h4
  rw[hx]at h2
  obtain⟨us1,u1,rfl,d1,d2⟩:=DenL.snoc (ds:=[]) (show DenL K H' us ([]++[x.data])from h2)
  cases d1
  walk_at "s"
  refine⟨_,_,dx,_,_,rfl,ho,T.cl_a1,T.no_a1_done,a7e _ _ _,?_⟩
  refine⟨.inl ⟨rfl,_,SqL.of h3⟩,?_⟩
  walk_at "s"
  refine⟨_,_,dx,_,_,rfl,ho,T.cl_a1,T.no_a1_sides,a9d _ _ _,?_⟩
  refine⟨.inl ⟨rfl,_,SqL.of h1⟩,?_⟩
  refine b1p h1 ?_
  obtain⟨w1,g1⟩:=w.setS (us:=[]) (ts:=[]) .nil
  have h3':(upd H' f.sa (.lst [])) f.da=some (.lst vs):=by rw[a0j w.n1];exact h3
  have h4':=h4.monoT (w.tup g1)
  have d2':=d2.monoT (w.tup g1)
  generalize upd H' f.sa (.lst [])=H1 at w1 g1 h3' h4' d2' ⊢
  walk_at "s"
  refine a1u h3' (ln1 (by rw[l4,e3];omega)) ?_
  walk_at "s"
  have d9:DenL K H1 (vs++[u1]) (Trm.dataL (lv.done++[x])):=by
   rw[Trm.dataL_map,Zq,<-Trm.dataL_map]
   exact h4'.append (.cons d2' .nil)
  obtain⟨w2,g2⟩:=w1.setD d9
  refine q x _ ?_ (g.trans (g1.trans g2)) ?_
  ·rw[<-e7,z,hx];rfl
  ·rw[e3]at w2
   have:({ lv with sides:=[],done:=lv0.done++[x]}:Lv)={ lv0 with done:=lv0.done++[x],sides:=[],wait:=[]}:=by
    cases lv;cases lv0;simp at e1 e2 z ⊢;exact⟨e1,e2,z⟩
   rw[<-this]
   exact w2
 ·have e:(!(lv.wait.map V.str).isEmpty)=true:=by rw[z];simp
  rw[e]
  obtain⟨ss1,b,hb⟩:∃r x,lv.sides=r++[x]:=by
   rcases a3p lv.sides with y|y
   ·rw[y]at e4;simp at e4
   ·exact y
  obtain⟨ss,a,ha⟩:∃r x,ss1=r++[x]:=by
   rcases a3p ss1 with y|y
   ·rw[hb,y,z]at e4;simp at e4
   ·exact y
  have hab:lv.sides=ss++[a,b]:=by rw[hb,ha];simp
  have ln1':lv.wait.length=ms.length+1:=by rw[z];simp
  have ln2:lv.sides.length=ss.length+2:=by rw[hab];simp
  refine kT H' (fun D' e1' e2' hnx hct=>?_)
  walk_at "s"
  refine⟨f,lv,ss,a,b,ms,m,rfl,w,hab,z,by omega,fun H1 g1 w1=>?_⟩
  walk_at "s"
  refine hnx _ _ ms.length (by omega) ⟨_,rfl,w1,e1,e2,e3,by simp;omega,rfl,by omega,?_,g.trans g1⟩
  rw[<-e7,hab,z]
  simp only[Xr,Yb,List.reverse_nil,Y6,Zn]
  rw[jn]
theorem at_last'(xs:List V)(v:V):atI (xs++[v]) (-1)=some v:=by
 unfold atI ixN
 rw[Za,Yz]
 simp
 rw[if_pos (by omega)]
 simp[show(-1+((xs.length:Int)+1)).toNat=xs.length by omega]
theorem c6r(T:Txt K mg t)(G_e3:FnOk P w K mg base (CXo P w) 3 t.a_e3 t.d_e3 ["earlier","later"] (a7d K t.k_a0))(G_b2:FnOk P w K mg base CX0 2 t.a_b2 t.d_b2 ["level"] (a6p K t.k_a1)):FnOk P w K mg base (CXo P w) 4 t.a_f4 t.d_f4 ["level","mark","signs"] (a9q K t.k_a1 t.k_a0):=by
 refine T.F_f4.okX c6l (fun vs H Q E h=>?_) (fun cdv A outer s H vs Q E hr h=>?_)
 ·unfold a9q at h
  split at h
  ·rfl
  ·exact h.elim
 unfold a9q at h
 split at h
 rotate_left
 ·exact h.elim
 refine⟨_,(a0e (a0v (a0s (c7g (a7r hr)) (mv 1) (mv 2) (by with_unfolding_all rfl)) (a0g d3p) a0u) (a0e (a3x Wo (PW.pt (a5d (a1w K rfl (a1d (mv 0) rfl)) (a4f (a1w K rfl (a0l G_e3 (hr.mono (by walk_at "r")) rfl T.m_e3 T.F_e3.kp T.b_e3 .nil a4w (a0a (b3q (a7r hr) (mv 2) (a0r (a0k K rfl) (a1d (mv 0) rfl) (a6b a4v a0d) (fun _ _=>rfl)) (fun _ _=>rfl)) (a0a (b3q (a7r hr) (mv 2) (mv 1) (fun _ _=>rfl)) a0b))))))) (a0g (a1a (a0l G_b2 (hr.mono (by walk_at "r")) rfl T.m_b2 T.F_b2.kp T.b_b2 .nil a0p (a0a (mv 0) a0b))))) (a0g (a1a (a3t K rfl Zu Z6 Z8 a2j (a1d (mv 0) rfl) (a0a (mv 1) a0b)))))),?_⟩
 rename_i l m d
 obtain⟨f,lv0,kvs,tb,g0,rfl,w0,hdk,hT,hm,hws,hl,h5,q⟩:=h
 obtain⟨am,gm,v1,v2,v3⟩:∃a g,valV kvs (Sum.inr m)=some (.ref a)/\lkT tb m=some g/\SqT K H a [.int g.1,.str g.2]:=by
  rcases hT.val m with⟨_,z⟩|z
  ·rw[hm]at z;cases z
  ·exact z
 rw[hm]at v2
 cases v2
 have dg:DGet H d (.str m) (valV kvs (Sum.inr m)):=DGet.k (k:=Sum.inr m) hdk
 rw[v1]at dg
 walk_at "s"
 refine⟨d,_,rfl,dg,?_⟩
 walk_at "s"
 refine iteB (fun e=>absurd e (by simp)) (fun e=>?_)
 walk_at "s"
 refine a3c (fun n σ' H'=>∃lv:Lv,σ'=[some (.ref f.l),some (.str m),some (.ref d)]/\LvAt K t.k_a1 H' f lv/\lv.kind=lv0.kind/\lv.word=lv0.word/\lv.done=lv0.done/\lv.sides.length=lv.wait.length+1/\lv.wait.length=n/\n<=500/\(∀w∈lv.wait,(lkT tb w).isSome=true)/\addM tb m g0 lv.sides.reverse lv.wait.reverse=addM tb m g0 lv0.sides.reverse lv0.wait.reverse/\LF f H H') lv0.wait.length ⟨lv0,rfl,w0,rfl,rfl,rfl,hl,rfl,h5,hws,rfl,LF.refl _ _⟩ (fun n σ' H' R hP kT kF=>?_)
 obtain⟨lv,rfl,w,e1,e2,e3,e4,e5,e6,e8,e7,g⟩:=hP
 obtain⟨dx,ho⟩:=w.ob
 have tH:=w0.tup g
 have hdk':H' d=some (.dK kvs):=by
  refine g _ _ (fun z=>?_) hdk
  obtain⟨dx0,ho0⟩:=w0.ob
  obtain⟨u1,hu1,_⟩:=w0.dn
  obtain⟨u2,hu2,_⟩:=w0.sd
  simp only[Fp.all,Zk,Zz,Xl]at z
  rcases z with z|z|z|z
  ·rw[z,ho0]at hdk;cases hdk
  ·rw[z,hu1]at hdk;cases hdk
  ·rw[z,hu2]at hdk;cases hdk
  ·rw[z,w0.wt]at hdk;cases hdk
 walk_at "s"
 refine⟨_,_,dx,_,_,rfl,ho,T.cl_a1,T.no_a1_waiting,a7f _ _ _,?_⟩
 refine .inl ⟨_,SqL.of w.wt,?_⟩
 rcases a3p lv.wait with z|⟨ms,w1,z⟩
 ·rw[z]
  refine iteF ?_
  have hs1:lv.sides.length=1:=by rw[e4,z];rfl
  obtain⟨x,hx⟩:∃x,lv.sides=[x]:=Td.mp hs1
  rw[<-e7,z,hx]at q
  have ea:addM tb m g0 [x].reverse ([]:List Str).reverse=some ([x],[m]):=by simp[addM]
  rw[ea]at q
  refine kF H' ?_
  walk_at "s"
  obtain⟨dxZ,hoZ⟩:=w.ob
  refine⟨_,_,dxZ,_,_,rfl,hoZ,T.cl_a1,T.no_a1_waiting,a7f _ _ _,?_⟩
  refine⟨.inl ⟨rfl,_,SqL.of w.wt⟩,?_⟩
  walk_at "s"
  refine a1u w.wt (ln1 (by rw[length_map];omega)) ?_
  walk_at "s"
  obtain⟨wF,gF⟩:=w.setW (ms:=lv.wait++[m])
  rw[Zq]at wF gF
  refine q _ (g.trans gF) ?_
  have:({ lv with wait:=lv.wait++[m]}:Lv)={ lv0 with sides:=[x].reverse,wait:=[m].reverse}:=by
   cases lv;cases lv0;simp at e1 e2 e3 z hx ⊢;exact⟨e1,e2,e3,hx,z⟩
  rw[<-this]
  exact wF
 have e:(!(lv.wait.map V.str).isEmpty)=true:=by rw[z];simp
 rw[e]
 refine iteT ?_
 obtain⟨ss1,b,hb⟩:∃r x,lv.sides=r++[x]:=by
  rcases a3p lv.sides with y|y
  ·rw[y]at e4;simp at e4
  ·exact y
 obtain⟨ss,a,ha⟩:∃r x,ss1=r++[x]:=by
  rcases a3p ss1 with y|y
  ·rw[hb,y,z]at e4;simp at e4
  ·exact y
 have hab:lv.sides=ss++[a,b]:=by rw[hb,ha];simp
 have ln1':lv.wait.length=ms.length+1:=by rw[z];simp
 have ln2:lv.sides.length=ss.length+2:=by rw[hab];simp
 have hT':=hT.monoT tH
 obtain⟨a1,g1,y1,y2,y3⟩:∃a g,valV kvs (Sum.inr w1)=some (.ref a)/\lkT tb w1=some g/\SqT K H' a [.int g.1,.str g.2]:=by
  have:=e8 w1 (by rw[z];simp)
  rcases hT'.val w1 with⟨_,y⟩|y
  ·rw[y]at this;cases this
  ·exact y
 have hrev:lv.sides.reverse=b::a::ss.reverse:=by rw[hab];simp
 have wrev:lv.wait.reverse=w1::ms.reverse:=by rw[z];simp
 rw[hrev,wrev,addM,y2,Vi]at e7
 walk_at "s"
 refine⟨_,_,dx,_,_,rfl,ho,T.cl_a1,T.no_a1_waiting,a7f _ _ _,?_⟩
 walk_at "s"
 have hwt:=w.wt
 rw[z,Zq]at hwt
 refine a2e (SqL.of hwt) (at_last' _ _) ?_
 walk_at "s"
 refine⟨d,_,rfl,by rw[<-y1];exact DGet.k (k:=Sum.inr w1) hdk',?_⟩
 walk_at "s"
 refine⟨d,_,rfl,by rw[<-v1];exact DGet.k (k:=Sum.inr m) hdk',?_⟩
 walk_at "s"
 refine⟨g1,g0,y3,tH _ _ v3,?_⟩
 cases hbf:bf g1 g0 with
 |none=>
  rw[hbf]at e7
  simp only[]at e7
  rw[<-e7]at q
  exact fun ea H2 s2 hx=>q ea H2 (g.trans (LF.of s2)) hx
 |some r=>
  rw[hbf]at e7
  intro H1 s1
  have w':=w.same s1
  walk_at "s"
  cases r with
  |false=>
   simp only[]at e7
   rw[<-e7]at q
   refine kF H1 ?_
   walk_at "s"
   obtain⟨dxZ,hoZ⟩:=w'.ob
   refine⟨_,_,dxZ,_,_,rfl,hoZ,T.cl_a1,T.no_a1_waiting,a7f _ _ _,?_⟩
   refine⟨.inl ⟨rfl,_,SqL.of w'.wt⟩,?_⟩
   walk_at "s"
   refine a1u w'.wt (ln1 (by rw[length_map];omega)) ?_
   walk_at "s"
   obtain⟨wF,gF⟩:=w'.setW (ms:=lv.wait++[m])
   rw[Zq]at wF gF
   refine q _ ((g.trans (LF.of s1)).trans gF) ?_
   have:({ lv with wait:=lv.wait++[m]}:Lv)={ lv0 with sides:=(b::a::ss.reverse).reverse,wait:=(m::w1::ms.reverse).reverse}:=by
    cases lv;cases lv0;simp at e1 e2 e3 z hab ⊢;exact⟨e1,e2,e3,hab,by rw[z];simp⟩
   rw[<-this]
   exact wF
  |true=>
   simp only[]at e7
   refine kT H1 (fun D' e1' e2' hnx hct=>?_)
   walk_at "s"
   refine⟨f,lv,ss,a,b,ms,w1,rfl,w',hab,z,by omega,fun H2 g2 w2=>?_⟩
   walk_at "s"
   refine hnx _ _ ms.length (by omega) ⟨_,rfl,w2,e1,e2,e3,by simp;omega,rfl,by omega,fun y hy=>e8 y (by rw[z];exact Y1 _ hy),?_,(g.trans (LF.of s1)).trans g2⟩
   rw[<-e7]
   simp
end
def clo(lv:Lv):Option Trm:=
 if lv.kind=ofString "round" then some (lv.done.headD a2x)
 else if lv.kind=ofString "list" then some (mkL lv.done a2x)
 else if lv.kind=ofString "rest" then some (mkL lv.done.dropLast (lv.done.getLastD a2x))
 else if lv.done.length<=4 then some (.app lv.word lv.done)else none
abbrev b2s(K:W.Frag)(C B:Addr):Sp:=fun vs H Q E=>match vs with| [.ref l]=>∃(f:Fp)(lv:Lv),f.l=l/\LvAt K C H f lv/\lv.done≠[]/\lv.done.length<=900/\resTh K H B Q E (clo lv)|_=>False
abbrev Pc.data(z:Pc):PyData:=pcB z
def Pc.ks(z:Pc):List Key:=[Sum.inr (kindOf z),Sum.inr ⟨z.toArray⟩]
theorem c5i(k k' w:Str)(f:Fp):putF (ofString "kind") (.str k') (fsL k w f)=fsL k' w f:=by
 simp only[fsL,putF]
 rfl
theorem LvAt.setK{K:W.Frag}{C:Addr}{H:Hp}{f:Fp}{lv:Lv}{dx:Addr}{k:Str}(w:LvAt K C H f lv)(ho:H f.l=some (.ins C dx (fsL lv.kind lv.word f))):LvAt K C (upd H f.l (.ins C dx (fsL k lv.word f))) f { lv with kind:=k}/\LF f H (upd H f.l (.ins C dx (fsL k lv.word f))):=by
 have g:LF f H (upd H f.l (.ins C dx (fsL k lv.word f))):=fun b o hb e=>by rw[a0j (fun z=>hb (by rw[z];simp[Fp.all]))];exact e
 have t:=w.tup g
 obtain⟨_,⟨vs,h2,h3⟩,⟨ws,h4,h5⟩,h6,n1,n2,n3⟩:=w
 have ne:∀{b:Addr}{us:List V},H b=some (.lst us)->b≠f.l:=fun e z=>by rw[z,ho]at e;cases e
 exact⟨⟨⟨dx,a0c⟩,⟨vs,by rw[a0j (ne h2)];exact h2,h3.monoT t⟩,⟨ws,by rw[a0j (ne h4)];exact h4,h5.monoT t⟩,by rw[a0j (ne h6)];exact h6,n1,n2,n3⟩,g⟩
abbrev rowN:Str:=ofString "row"
abbrev a1x:Str:=ofString "signs"
abbrev atN:Str:=ofString "at"
abbrev a8e:Str:=ofString "levels"
def fsR(pr pd:Addr)(i:Nat)(pv:Addr):List (Str×V):=[(rowN,.ref pr),(a1x,.ref pd),(atN,.int (i:Int)),(a8e,.ref pv)]
theorem d2h(pr pd:Addr)(i:Nat)(pv:Addr):(fsR pr pd i pv).lookup (ofString "row")=some (.ref pr):=by
 simp only[fsR,List.lookup,show(ofString "row"==rowN)=true by decide+kernel]
theorem d4z(pr pd:Addr)(i:Nat)(pv:Addr):(fsR pr pd i pv).lookup (ofString "signs")=some (.ref pd):=by
 simp only[fsR,List.lookup,show(ofString "signs"==rowN)=false by decide+kernel,show(ofString "signs"==a1x)=true by decide+kernel]
theorem b0t(pr pd:Addr)(i:Nat)(pv:Addr):(fsR pr pd i pv).lookup (ofString "at")=some (.int (i:Int)):=by
 simp only[fsR,List.lookup,show(ofString "at"==rowN)=false by decide+kernel,show(ofString "at"==a1x)=false by decide+kernel,show(ofString "at"==atN)=true by decide+kernel]
theorem a5k(pr pd:Addr)(i:Nat)(pv:Addr):(fsR pr pd i pv).lookup (ofString "levels")=some (.ref pv):=by
 simp only[fsR,List.lookup,show(ofString "levels"==rowN)=false by decide+kernel,show(ofString "levels"==a1x)=false by decide+kernel,show(ofString "levels"==atN)=false by decide+kernel,show(ofString "levels"==a8e)=true by decide+kernel]
theorem a2u{pr pd:Addr}{i:Nat}{pv:Addr}{m:Str}(h1:(m==rowN)=false:=by decide+kernel)(h2:(m==a1x)=false:=by decide+kernel)(h3:(m==atN)=false:=by decide+kernel)(h4:(m==a8e)=false:=by decide+kernel):(fsR pr pd i pv).lookup m=none:=by
 simp only[fsR,List.lookup,h1,h2,h3,h4]
theorem a9z(pr pd:Addr)(i j:Nat)(pv:Addr):putF (ofString "at") (.int (j:Int)) (fsR pr pd i pv)=fsR pr pd j pv:=by
 simp only[fsR,putF,show ¬rowN=ofString "at" by decide+kernel,show ¬a1x=ofString "at" by decide+kernel,Xu]
 rfl
theorem c9b(pr pd:Addr)(i:Nat)(pv pw:Addr):putF (ofString "levels") (.ref pw) (fsR pr pd i pv)=fsR pr pd i pw:=by
 simp only[fsR,putF,show ¬rowN=ofString "levels" by decide+kernel,show ¬a1x=ofString "levels" by decide+kernel,show ¬atN=ofString "levels" by decide+kernel,Xu]
 rfl
inductive a2i(K:W.Frag)(C:Addr)(H:Hp):List Fp->List Lv->Prop where
 |nil:a2i K C H [] []
 |cons {f:Fp} {lv:Lv} {fs:List Fp} {ls:List Lv}:LvAt K C H f lv->a2i K C H fs ls->a2i K C H (f::fs) (lv::ls)
theorem LvAt.fr{K:W.Frag}{C:Addr}{H H':Hp}{f:Fp}{lv:Lv}(w:LvAt K C H f lv)(h:∀b∈f.all,∀o,H b=some o->H' b=some o)(ht:∀a xs,SqT K H a xs->SqT K H' a xs):LvAt K C H' f lv:=by
 obtain⟨⟨dx,h1⟩,⟨us,h2,h3⟩,⟨vs,h4,h5⟩,h6,n1,n2,n3⟩:=w
 exact⟨⟨dx,h _ (by simp[Fp.all]) _ h1⟩,⟨us,h _ (by simp[Fp.all]) _ h2,h3.monoT ht⟩,⟨vs,h _ (by simp[Fp.all]) _ h4,h5.monoT ht⟩,h _ (by simp[Fp.all]) _ h6,n1,n2,n3⟩
theorem a2i.fr{K:W.Frag}{C:Addr}{H H':Hp}{fs:List Fp}{ls:List Lv}(w:a2i K C H fs ls)(h:∀f∈fs,∀b∈f.all,∀o,H b=some o->H' b=some o)(ht:∀a xs,SqT K H a xs->SqT K H' a xs):a2i K C H' fs ls:=by
 induction w with
 |nil=>exact .nil
 |cons a _ ih=>exact .cons (a.fr (h _ (Zj ..)) ht) (ih fun g hg=>h g (Zi _ hg))
theorem a2i.app{K:W.Frag}{C:Addr}{H:Hp}{fs gs:List Fp}{ls ms:List Lv}(w:a2i K C H fs ls)(v:a2i K C H gs ms):a2i K C H (fs++gs) (ls++ms):=by
 induction w with
 |nil=>exact v
 |cons a _ ih=>exact .cons a ih
theorem a2i.snoc{K:W.Frag}{C:Addr}{H:Hp}:∀{fs:List Fp}{ls:List Lv}{lv:Lv},a2i K C H fs (ls++[lv])->∃gs f,fs=gs++[f]/\a2i K C H gs ls/\LvAt K C H f lv
 |_,[],lv,h=>by
  cases h with
  |cons a r=>cases r;exact⟨[],_,rfl,.nil,a⟩
 |_,l::ls,lv,h=>by
  cases h with
  |cons a r=>
   obtain⟨gs,f,rfl,h1,h2⟩:=a2i.snoc r
   exact⟨_::gs,f,rfl,.cons a h1,h2⟩
structure RS(K:W.Frag)(CR CL:Addr)(H0 H:Hp)(x pr pd pv:Addr)(ps:List Pc)(tb:Tb)(i:Nat)(fps:List Fp)(lvs:List Lv):Prop where
 ob:∃dx,H x=some (.ins CR dx (fsR pr pd i pv))
 row:∃us,H0 pr=some (.lst us)/\DenL K H0 us (ps.map Pc.data)
 sg:∃kvs,H0 pd=some (.dK kvs)/\TR K H0 kvs tb
 lv:H pv=some (.lst (fps.map fun f=>V.ref f.l))
 al:a2i K CL H fps lvs
 sm:Same H0 H
 fx:H0 x=none
 fv:H0 pv=none
 ff:∀f∈fps,∀b∈f.all,H0 b=none
 dj:fps.Pairwise fun f g=>∀b∈f.all,b∉g.all
 nv:∀f∈fps,pv∉f.all/\x∉f.all
 lim:fps.length<=300/\ps.length<=275/\i<=900
theorem tup_upd'{K:W.Frag}{J:Hp}{D:Addr}{o0 o:HO}(h:J D=some o0)(n1:∀xs,o0≠.tup xs)(n2:∀o xs,o0≠.frz o (.tup xs)):∀a xs,SqT K J a xs->SqT K (upd J D o) a xs:=fun a xs q=>by
 rcases q with(q|⟨ob,q⟩)|q
 ·exact .inl (.inl (by rw[a0j (fun z=>by rw[z,h]at q;exact n1 _ (Zo q))];exact q))
 ·exact .inl (.inr ⟨ob,by rw[a0j (fun z=>by rw[z,h]at q;exact n2 _ _ (Zo q))];exact q⟩)
 ·exact .inr q
section
variable{K:W.Frag}{CR CL:Addr}{H0 H H':Hp}{x pr pd pv:Addr}{ps:List Pc}{tb:Tb}{i:Nat}{fps:List Fp}{lvs:List Lv}
theorem RS.same(w:RS K CR CL H0 H x pr pd pv ps tb i fps lvs)(s:Same H H'):RS K CR CL H0 H' x pr pd pv ps tb i fps lvs:=by
 obtain⟨dx,h⟩:=w.ob
 exact⟨⟨dx,s _ _ h⟩,w.row,w.sg,s _ _ w.lv,w.al.fr (fun _ _ b _ o e=>s _ _ e) (fun a xs q=>s.tup q),w.sm.trans s,w.fx,w.fv,w.ff,w.dj,w.nv,w.lim⟩
theorem RS.tup_ins{xs:List V}{a:Addr}{o:HO}(w:RS K CR CL H0 H x pr pd pv ps tb i fps lvs)(q:SqT K H a xs):SqT K (upd H x o) a xs:=by
 obtain⟨dx,h⟩:=w.ob
 exact tup_upd' h (fun _ z=>by cases z) (fun _ _ z=>by cases z) a xs q
theorem RS.setAt(w:RS K CR CL H0 H x pr pd pv ps tb i fps lvs){dx:Addr}{j:Nat}(hj:j<=900):RS K CR CL H0 (upd H x (.ins CR dx (fsR pr pd j pv))) x pr pd pv ps tb j fps lvs:=by
 obtain⟨dx0,h⟩:=w.ob
 refine⟨⟨dx,a0c⟩,w.row,w.sg,by rw[a0j (fun z=>by have:=w.lv;rw[z,h]at this;cases this)];exact w.lv,w.al.fr (fun f hf b hb o e=>by rw[a0j (fun z=>(w.nv f hf).2 (by rw[<-z];exact hb))];exact e) (fun a xs q=>w.tup_ins q),fun b o e=>by rw[a0j (fun z=>by rw[z,w.fx]at e;cases e)];exact w.sm _ _ e,w.fx,w.fv,w.ff,w.dj,w.nv,⟨w.lim.1,w.lim.2.1,hj⟩⟩
theorem a2i.mem{f:Fp}{C:Addr}(w:a2i K C H fps lvs)(h:f∈fps):∃lv,LvAt K C H f lv:=by
 induction w with
 |nil=>cases h
 |cons a _ ih=>
  rcases Zk.mp h with z|z
  ·rw[z];exact⟨_,a⟩
  ·exact ih z
theorem LvAt.has{f:Fp}{lv:Lv}{C:Addr}(w:LvAt K C H f lv):∀b∈f.all,∃o,H b=some o:=fun b hb=>by
 obtain⟨dx,h1⟩:=w.ob
 obtain⟨us,h2,_⟩:=w.dn
 obtain⟨vs,h3,_⟩:=w.sd
 simp only[Fp.all,Zk,Zz,Xl]at hb
 rcases hb with y|y|y|y
 ·exact⟨_,by rw[y];exact h1⟩
 ·exact⟨_,by rw[y];exact h2⟩
 ·exact⟨_,by rw[y];exact h3⟩
 ·exact⟨_,by rw[y];exact w.wt⟩
theorem RS.push{f:Fp}{lv:Lv}(w:RS K CR CL H0 H x pr pd pv ps tb i fps lvs)(fr:∀b∈f.all,H b=none)(sG:Same H H')(hl:LvAt K CL H' f lv)(hm:fps.length<300):RS K CR CL H0 (upd H' pv (.lst ((fps++[f]).map fun f=>V.ref f.l))) x pr pd pv ps tb i (fps++[f]) (lvs++[lv]):=by
 have w':=w.same sG
 obtain⟨dx,h⟩:=w'.ob
 obtain⟨dxg,hg⟩:=w.ob
 have nf:∀{b o},H b=some o->b∉f.all:=fun e z=>by rw[fr _ z]at e;cases e
 have ht:∀a xs,SqT K H' a xs->SqT K (upd H' pv (.lst ((fps++[f]).map fun f=>V.ref f.l))) a xs:=tup_upd' w'.lv (fun _ z=>by cases z) (fun _ _ z=>by cases z)
 refine⟨⟨dx,by rw[a0j (fun z=>by have:=w'.lv;rw[<-z,h]at this;cases this)];exact h⟩,w.row,w.sg,a0c,(w'.al.fr (fun g hg b hb o e=>by rw[a0j (fun z=>(w.nv g hg).1 (by rw[<-z];exact hb))];exact e) ht).app (.cons (hl.fr (fun b hb o e=>by rw[a0j (fun z=>nf w.lv (by rw[<-z];exact hb))];exact e) ht) .nil),fun b o e=>by rw[a0j (fun z=>by rw[z,w.fv]at e;cases e)];exact w'.sm _ _ e,w.fx,w.fv,fun g hg'=>?_,Vz.mpr ⟨w.dj,U3 _ _,fun g hg' k hk b hb=>?_⟩,fun g hg'=>?_,⟨by rw[Za,Yz];omega,w.lim.2⟩⟩
 ·rcases Z1.mp hg' with z|z
  ·exact w.ff g z
  ·rw[Zw.mp z];exact fun b hb=>w.sm.free (fr b hb)
 ·rw[Zw.mp hk]
  obtain⟨lg,ag⟩:=w.al.mem hg'
  obtain⟨o,e⟩:=ag.has b hb
  exact nf e
 ·rcases Z1.mp hg' with z|z
  ·exact w.nv g z
  ·rw[Zw.mp z];exact⟨nf w.lv,nf hg⟩
theorem RS.top{fs:List Fp}{f:Fp}{ls:List Lv}{lv lv':Lv}(w:RS K CR CL H0 H x pr pd pv ps tb i (fs++[f]) (ls++[lv]))(h0:a2i K CL H fs ls)(h1:LvAt K CL H f lv)(g:LF f H H')(h2:LvAt K CL H' f lv'):RS K CR CL H0 H' x pr pd pv ps tb i (fs++[f]) (ls++[lv']):=by
 obtain⟨dx,h⟩:=w.ob
 have hf:=w.nv f (by simp)
 have hd:=(Vz.mp w.dj).2.2
 refine⟨⟨dx,g _ _ hf.2 h⟩,w.row,w.sg,g _ _ hf.1 w.lv,(h0.fr (fun k hk b hb o e=>g _ _ (hd k hk f (by simp) b hb) e) (h1.tup g)).app (.cons h2 .nil),fun b o e=>g _ _ (fun z=>by rw[w.ff f (by simp) b z]at e;cases e) (w.sm _ _ e),w.fx,w.fv,w.ff,w.dj,w.nv,w.lim⟩
end
abbrev endK:List Key:=[Sum.inr (ofString "end"),Sum.inr (ofString "")]
def pcK(ps:List Pc)(i:Nat):List Key:=((ps[i]?).map Pc.ks).getD [Sum.inr (ofString "end"),Sum.inr (ofString "")]
abbrev RdS(K:W.Frag)(CR CL:Addr)(H:Hp)(x:Addr)(R:Hp->Addr->Addr->Addr->List Pc->Tb->Nat->List Fp->List Lv->Prop):Prop:=∃(H0:Hp)(pr pd pv:Addr)(ps:List Pc)(tb:Tb)(i:Nat)(fps:List Fp)(lvs:List Lv),RS K CR CL H0 H x pr pd pv ps tb i fps lvs/\R H0 pr pd pv ps tb i fps lvs
def a5o(ps:List Pc)(i:Nat)(s:Str):Bool:=decide (pcK ps i=[Sum.inr (ofString "sign"),Sum.inr s])
abbrev a2o(K:W.Frag)(CR CL:Addr):Sp:=fun vs H Q _=>match vs with| [.ref x,.int k]=>RdS K CR CL H x fun _ _ _ _ ps _ i _ _=>∃n:Nat,k=(n:Int)/\n<=10/\∀a,SqT K H a ((pcK ps (i+n)).map kV)->Q (.ref a) H|_=>False
abbrev a2z(K:W.Frag)(CR CL:Addr):Sp:=fun vs H Q _=>match vs with| [.ref x,.str s]=>RdS K CR CL H x fun _ _ _ _ ps _ i _ _=>∀H',Same H H'->Q (.bl (a5o ps i s)) H'|_=>False
abbrev a5p(K:W.Frag)(CR CL:Addr):Sp:=fun vs H Q _=>match vs with| [.ref x,.str k,.str w,.int m]=>RdS K CR CL H x fun H0 pr pd pv ps tb i fps lvs=>∃n:Nat,m=(n:Int)/\n<=2/\fps.length<=290/\i<=890/\∀(f:Fp) H',RS K CR CL H0 H' x pr pd pv ps tb (i+n) (fps++[f]) (lvs++[⟨k,w,[],[],[]⟩])->Q .non H'|_=>False
section
variable{P:Program}{w:World}{K:W.Frag}{mg:Str->Option Value}{base:Heap}{t:Ad}
theorem at0v{x:V}{r:List V}:atI (x::r) 0=some x:=by
 obtain⟨v,e1,e2⟩:=a9x (xs:=x::r) (i:=0) (by omega) (by rw[length_cons];omega)
 rw[e1]
 simpa using e2.symm
theorem cut_m1(xs:List V)(a:V):cutV (xs++[a]) none (some (-1))=xs:=by
 unfold cutV HT.sIx
 have e:(-1+((xs.length:Int)+1)).toNat=xs.length:=by omega
 simp[e]
theorem d2i(T:Txt K mg t)(G_a5:FnOk P w K mg base CX0 1 t.a_a5 t.d_a5 ["sign","kids"] (b1z K))(G_b9:FnOk P w K mg base CX0 2 t.a_b9 t.d_b9 ["things","rest"] (b0s K))(G_a3:FnOk P w K mg base CX0 1 t.a_a3 t.d_a3 ["self","words","row"] (a1b K)):FnOk P w K mg base (CXo P w) 3 t.a_e5 t.d_e5 ["level"] (b2s K t.k_a1 t.k_a0):=by
 refine T.F_e5.okX d1v (fun vs H Q E h=>?_) (fun cdv A outer s H vs Q E hr h=>?_)
 ·unfold b2s at h
  split at h
  ·rfl
  ·exact h.elim
 unfold b2s at h
 split at h
 rotate_left
 ·exact h.elim
 refine⟨_,(a0e (a0v (a0s a1e (a1d (mv 0) rfl) a0i (a0t _)) (a0g (a0m (a0r (a0k K rfl) (a1d (mv 0) rfl) a0d (fun _ _=>rfl)))) a0u) (a0e (a0v (a0s a1e (a1d (mv 0) rfl) a0i (a0t _)) (a0g (a0m (a0l G_b9 (hr.mono (by walk_at "r")) rfl T.m_b9 T.F_b9.kp T.b_b9 .nil a0p (a0a (a1d (mv 0) rfl) (a0a (a7v (v:=.ref t.c_c6) rfl T.m_c6 rfl) a0b))))) a0u) (a0e (a0v (a0s a1e (a1d (mv 0) rfl) a0i (a0t _)) (a0g (a0m (a0l G_b9 (hr.mono (by walk_at "r")) rfl T.m_b9 T.F_b9.kp T.b_b9 .nil a0p (a0a (a3y (b3r K rfl) (a1d (mv 0) rfl) a6x (a3l (a6b a4v a0d))) (a0a (a0r (a0k K rfl) (a1d (mv 0) rfl) (a6b a4v a0d) (fun _ _=>rfl)) a0b))))) a0u) (a0e (a0v (a0s c3b (a0z (a2d K rfl) rfl T.n_c4 Z0 (a0a (a1d (mv 0) rfl) a0b)) (b1b rfl T.m_h6) (a0t _)) (a0g (a4n rfl a5g (a4m T.mk_a0 G_a3 (hr.mono (by walk_at "r")) rfl T.m_a0 T.bd_a3 (show Vals [V.int 0] [Value.int 0 t.w_a3_0]from(.cons ⟨_,rfl⟩ .nil)) a0p (a0a (d1o (b1b rfl T.m_h6)) a0b)))) a0u) (a0g (a0m (a0l G_a5 (hr.mono (by walk_at "r")) rfl T.m_a5 T.F_a5.kp T.b_a5 .nil a0p (a0a (a1d (mv 0) rfl) (a0a (a1d (mv 0) rfl) a0b))))))))),?_⟩
 rename_i l
 obtain⟨f,lv,rfl,w,hne,hlen,q⟩:=h
 obtain⟨dx,ho⟩:=w.ob
 obtain⟨us,h1,h2⟩:=w.dn
 have l2:=a5r h2
 unfold clo at q
 walk_at "s"
 refine⟨_,_,dx,_,_,rfl,ho,T.cl_a1,T.no_a1_kind,a9c _ _ _,?_⟩
 walk_at "s"
 refine iteB (fun e=>?_) (fun e=>?_)
 ·have e:lv.kind=ofString "round":=by rw[Zm]at e;exact Ze e
  rw[if_pos e]at q
  walk_at "s"
  refine⟨_,_,dx,_,_,rfl,ho,T.cl_a1,T.no_a1_done,a7e _ _ _,?_⟩
  walk_at "s"
  cases hd:lv.done with
  |nil=>exact absurd hd hne
  |cons y r=>
   rw[hd]at h2 q
   cases h2 with
   |cons d1 r1=>
    refine a2e (SqL.of h1) at0v ?_
    walk_at "s"
    exact q _ H (Same.refl H) d1
 have e1:¬lv.kind=ofString "round":=by rw[Zm]at e;exact Zl e
 rw[if_neg e1]at q
 walk_at "s"
 refine⟨_,_,dx,_,_,rfl,ho,T.cl_a1,T.no_a1_kind,a9c _ _ _,?_⟩
 walk_at "s"
 refine iteB (fun e=>?_) (fun e=>?_)
 ·have e:lv.kind=ofString "list":=by rw[Zm]at e;exact Ze e
  rw[if_pos e]at q
  walk_at "s"
  refine⟨_,_,dx,_,_,rfl,ho,T.cl_a1,T.no_a1_done,a7e _ _ _,?_⟩
  walk_at "s"
  exact⟨us,lv.done,a2x,SqL.of h1,h2,by omega,b1c (T.q_c6 H) (T.q_c6_2 H) .nil,q⟩
 have e2:¬lv.kind=ofString "list":=by rw[Zm]at e;exact Zl e
 rw[if_neg e2]at q
 walk_at "s"
 refine⟨_,_,dx,_,_,rfl,ho,T.cl_a1,T.no_a1_kind,a9c _ _ _,?_⟩
 walk_at "s"
 refine iteB (fun e=>?_) (fun e=>?_)
 ·have e:lv.kind=ofString "rest":=by rw[Zm]at e;exact Ze e
  rw[if_pos e]at q
  walk_at "s"
  refine⟨_,_,dx,_,_,rfl,ho,T.cl_a1,T.no_a1_done,a7e _ _ _,?_⟩
  walk_at "s"
  rcases a3p lv.done with hd|⟨r,y,hd⟩
  ·exact absurd hd hne
  rw[hd,Wz,V0]at q
  have hr:r.length<=900:=by rw[hd,Za]at hlen;omega
  rw[hd,Trm.dataL_map,Zq,<-Trm.dataL_map]at h2
  obtain⟨us1,u1,rfl,f1,f2⟩:=DenL.snoc h2
  refine b5u (SqL.of h1) fun p2 hp2=>?_
  rw[cut_m1]
  walk_at "s"
  have s2:=a0f hp2 (.lst us1)
  have k2:(upd H p2 (.lst us1)) p2=some (.lst us1):=a0c
  generalize upd H p2 (.lst us1)=H2 at s2 k2 ⊢
  refine⟨_,_,dx,_,_,rfl,s2 _ _ ho,T.cl_a1,T.no_a1_done,a7e _ _ _,?_⟩
  walk_at "s"
  refine a2e (SqL.of (s2 _ _ h1)) (at_last' _ _) ?_
  walk_at "s"
  exact⟨us1,r,y,SqL.of k2,f1.mono s2,by omega,f2.mono s2,fun v' H' s' d'=>q v' H' (s2.trans s') d'⟩
 have e3:¬lv.kind=ofString "rest":=by rw[Zm]at e;exact Zl e
 rw[if_neg e3]at q
 walk_at "s"
 refine⟨_,_,dx,_,_,rfl,ho,T.cl_a1,T.no_a1_done,a7e _ _ _,?_⟩
 walk_at "s"
 refine a4l (SqL.of h1) ?_
 walk_at "s"
 refine iteB (fun e=>?_) (fun e=>?_)
 ·have e:=Ze e
  rw[if_neg (by omega)]at q
  have q:onX H t.k_a0 E:=q
  walk_at "s"
  refine⟨4,rfl,by decide+kernel,by decide+kernel,fun z=>?_⟩
  walk_at "s"
  refine⟨by simp,fun ea hea=>?_⟩
  refine⟨t.k_a0,_,true,T.x_a0,T.u_a0,T.at_a0,T.no_a0_row,a0c,fun H9 b9=>⟨rfl,?_⟩⟩
  obtain⟨dx9,h91,h92,h93⟩:=a2l hea (Same.refl _) hea b9
  refine⟨ea,t.k_a0,dx9,_,rfl,T.x_a0,h91,?_⟩
  exact q ea _ h93 h92
 have e:=Zl e
 rw[if_pos (by omega)]at q
 walk_at "s"
 refine⟨_,_,dx,_,_,rfl,ho,T.cl_a1,T.no_a1_word,fl_word _ _ _,?_⟩
 walk_at "s"
 refine⟨_,_,dx,_,_,rfl,ho,T.cl_a1,T.no_a1_done,a7e _ _ _,?_⟩
 walk_at "s"
 exact⟨us,lv.done,SqL.of h1,h2,by omega,q⟩
theorem b9y(T:Txt K mg t)  :FnOk P w K mg base CX0 1 t.a_a4 t.d_a4 ["self","ahead"] (a2o K t.k_a2 t.k_a1):=by
 refine T.F_a4.ok b2o (fun vs H Q E h=>?_) (fun cdv A outer s H vs Q E hr h=>?_)
 ·unfold a2o at h
  split at h
  ·rfl
  ·exact h.elim
 unfold a2o at h
 split at h
 rotate_left
 ·exact h.elim
 refine⟨_,(a0e (a0q (i:=2) (hs:=a3i) b2o.nd rfl (by walk_at "or1") (a0n (a1h K rfl) (a1d (mv 0) rfl) (mv 1))) (a0g (a0m (b7s (a0s a9i (mv 2) (a0z (a2d K rfl) rfl T.n_c4 Z0 (a0a (a1d (mv 0) rfl) a0b)) (a0t _)) (a0r (a0k K rfl) (a1d (mv 0) rfl) (mv 2) (fun _ _=>rfl)) (a7v (v:=.ref t.c_h1) rfl T.m_h1 rfl))))),?_⟩
 rename_i x k
 obtain⟨H0,pr,pd,pv,ps,tb,i,fps,lvs,w,n,rfl,hn,q⟩:=h
 obtain⟨dx,ho⟩:=w.ob
 obtain⟨us,h1,h2⟩:=w.row
 have hl:us.length=ps.length:=by rw[h2.length,length_map]
 walk_at "s"
 refine⟨_,_,dx,_,_,rfl,ho,T.cl_a2,T.no_a2_at,b0t _ _ _ _,?_⟩
 walk_at "s"
 refine⟨_,_,dx,_,_,rfl,ho,T.cl_a2,T.no_a2_row,d2h _ _ _ _,?_⟩
 walk_at "s"
 refine a4l (SqL.of (w.sm _ _ h1)) ?_
 walk_at "s"
 refine iteB (fun e=>?_) (fun e=>?_)
 ·have hlt:i+n<ps.length:=by have:=Ze e;omega
  walk_at "s"
  refine⟨_,_,dx,_,_,rfl,ho,T.cl_a2,T.no_a2_row,d2h _ _ _ _,?_⟩
  walk_at "s"
  have hx:us[i+n]? =some us[i+n]:=Zc (by omega)
  obtain⟨dd,e1,e2⟩:=h2.get hx
  rw[Yv,Zc hlt]at e1
  cases e1
  obtain⟨a,ea,hs⟩:=c0x e2
  have hat:atI us ((i:Int)+(n:Int))=some (.ref a):=by
   obtain⟨v,z1,z2⟩:=a9x (xs:=us) (i:=(i:Int)+(n:Int)) (by omega) (by omega)
   rw[z1,<-z2,show((i:Int)+(n:Int)).toNat=i+n by omega,hx,ea]
  refine a2e (SqL.of (w.sm _ _ h1)) hat ?_
  refine q a ?_
  rw[pcK,Zc hlt]
  exact w.sm.tup hs
 ·have hge:ps.length<=i+n:=by have:=Zl e;omega
  walk_at "s"
  refine q _ ?_
  rw[pcK,Vw hge]
  exact T.q_h1 H
theorem b9z(T:Txt K mg t)(G_a4:FnOk P w K mg base CX0 1 t.a_a4 t.d_a4 ["self","ahead"] (a2o K t.k_a2 t.k_a1)):FnOk P w K mg base CX0 2 t.a_a7 t.d_a7 ["self","text"] (a2z K t.k_a2 t.k_a1):=by
 refine T.F_a7.ok b9o (fun vs H Q E h=>?_) (fun cdv A outer s H vs Q E hr h=>?_)
 ·unfold a2z at h
  split at h
  ·rfl
  ·exact h.elim
 unfold a2z at h
 split at h
 rotate_left
 ·exact h.elim
 refine⟨_,(a0g (a0m (a3s (c7h K rfl (a7y hr)) (a3b (mv 0) T.cl_a2 T.me_a4 G_a4 (hr.mono (by walk_at "r")) T.b_a4 .nil a0p (a0a a0d a0b)) (a1g (a0a a0i (a0a (mv 1) a0b))) (a0t _)))),?_⟩
 rename_i x s
 obtain⟨H0,pr,pd,pv,ps,tb,i,fps,lvs,w,q⟩:=h
 obtain⟨dx,ho⟩:=w.ob
 walk_at "s"
 refine⟨x,dx,_,rfl,ho,a2u,?_⟩
 walk_at "s"
 refine⟨H0,pr,pd,pv,ps,tb,i,fps,lvs,w,0,rfl,by omega,fun v dv=>?_⟩
 rw[Wp]at dv
 walk_at "s"
 refine⟨ln (by show 2<=100000;decide),fun p hp=>?_⟩
 have sp:=a0f hp (.tup [.str (ofString "sign"),.str s])
 walk_at "s"
 exact⟨v,p,pcK ps i,[Sum.inr (ofString "sign"),Sum.inr s],rfl,rfl,sp.tup dv,SqT.of a0c,q _ sp⟩
theorem b8s(T:Txt K mg t)(G_c5:FnOk P w K mg base CX0 1 t.a_c5 t.d_c5 ["self","kind","word"] (a5s K t.k_a1)):FnOk P w K mg base CX0 3 t.a_b8 t.d_b8 ["self","kind","word","long"] (a5p K t.k_a2 t.k_a1):=by
 refine T.F_b8.ok b8q (fun vs H Q E h=>?_) (fun cdv A outer s H vs Q E hr h=>?_)
 ·unfold a5p at h
  split at h
  ·rfl
  ·exact h.elim
 unfold a5p at h
 split at h
 rotate_left
 ·exact h.elim
 refine⟨_,(a0e (a1a (a3t K rfl Zu Z6 Z8 a2j (a1d (mv 0) rfl) (a0a (c0h T.mk_a1 G_c5 (hr.mono (by walk_at "r")) rfl T.m_a1 T.b_c5 .nil a0p (a0a (mv 1) (a0a (mv 2) a0b))) a0b))) (a0g (a9u (mv 0) (mv 3) a7n))),?_⟩
 rename_i x k w0 m
 obtain⟨H0,pr,pd,pv,ps,tb,i,fps,lvs,w,n,rfl,hn,hl,hi,q⟩:=h
 obtain⟨dx,ho⟩:=w.ob
 walk_at "s"
 refine⟨_,_,dx,_,_,rfl,ho,T.cl_a2,T.no_a2_levels,a5k _ _ _ _,?_⟩
 walk_at "s"
 refine⟨.inl ⟨rfl,_,SqL.of w.lv⟩,?_⟩
 walk_at "s"
 intro l dl hl0 hdl hne
 refine⟨dl,a0c,fun f H1 ef wl fr h1 h2 h3=>⟨rfl,?_⟩⟩
 subst ef
 have up:∀b o,H b=some o->(upd (upd H dl (.own f.l)) f.l (.ins t.k_a1 dl [])) b=some o:=fun b o e=>by rw[a0j (a1c e hl0),a0j (a1c e hdl)];exact e
 have sH:Same H H1:=fun b o e=>fr b o (a1c e hl0) (up b o e)
 have fresh:∀b∈f.all,H b=none:=fun b hb=>by
  cases z:H b with
  |none=>rfl
  |some o=>
   exfalso
   have u:=up b o z
   simp only[Fp.all,Zk,Zz,Xl]at hb
   rcases hb with y|y|y|y
   ·rw[y,hl0]at z;cases z
   ·rw[y,h1]at u;cases u
   ·rw[y,h2]at u;cases u
   ·rw[y,h3]at u;cases u
 walk_at "s"
 refine a1u (w.same sH).lv (ln1 (by rw[length_map];omega)) ?_
 have w2:=w.push fresh sH wl (by omega)
 rw[Zq,Sa]at w2
 obtain⟨dx2,ho2⟩:=w2.ob
 walk_at "s"
 refine⟨x,_,dx2,_,_,rfl,ho2,T.cl_a2,T.no_a2_at,b0t _ _ _ _,?_⟩
 walk_at "s"
 refine⟨dx2,_,ho2,by simp[fsR],?_⟩
 rw[show((i:Int)+(n:Int))=((i+n:Nat):Int) by omega,a9z]
 exact q f _ (w2.setAt (by omega))
end
abbrev sgK(s:String):List Key:=[Sum.inr (ofString "sign"),Sum.inr (ofString s)]
def hK:List Pc->List Key
 | []=>endK
 |z::_=>Pc.ks z
abbrev rdL:Lv:=⟨ofString "round",ofString "",[],[],[]⟩
abbrev ltL:Lv:=⟨ofString "list",ofString "",[],[],[]⟩
abbrev kdL(z:Str):Lv:=⟨ofString "kids",z,[],[],[]⟩
abbrev a3j:Lv:=⟨ofString "whole",ofString "",[],[],[]⟩
def opn:List Pc->List Lv->Option (List Pc×List Lv)
 | [],st=>some ([],st)
 |z::r,st=>
  if Pc.ks z=sgK "(" then opn r (rdL::st)
  else if Pc.ks z=sgK "["/\hK r≠sgK "]" then opn r (ltL::st)
  else match r with
   | []=>some ([z],st)
   |y::r'=>if kindOf z=ofString "word"/\Pc.ks y=sgK "(" then(if z.length<=12 then opn r' (kdL ⟨z.toArray⟩::st)else none)else some (z::y::r',st)
def thg:List Pc->Option (Trm×List Pc)
 | []=>none
 |z::r=>if Pc.ks z=sgK "[" then some (a2x,r.tail)else(thgZ z).map fun t=>(t,r)
def fin(lv:Lv):Lv:={ lv with done:=lv.done++[(jn lv.sides.reverse lv.wait.reverse).headD a2x],sides:=[],wait:=[]}
def clS(k:Str):Str:=if k=ofString "whole" then ofString "" else if k=ofString "round"\/k=ofString "kids" then ofString ")" else ofString "]"
def b6j(k:Str):Prop:=k=ofString "whole"\/k=ofString "round"\/k=ofString "kids"\/k=ofString "list"\/k=ofString "rest"
def cls:List Pc->Lv->List Lv->Option (List Pc×List Lv)
 |z::r,lv,lu::st=>if Pc.ks z=[Sum.inr (ofString "sign"),Sum.inr (clS lv.kind)]then(match clo (fin lv)with|none=>none|some t=>cls r { lu with sides:=lu.sides++[t]} st)else some (z::r,lv::lu::st)
 |r,lv,st=>some (r,lv::st)
def btw(tb:Tb)(lv:Lv):List Pc->Option (Option (List Pc×Lv))
 | []=>some none
 |z::r=>
  if kindOf z=ofString "mark" then(match lkT tb ⟨z.toArray⟩with|none=>none|some g=>(addM tb ⟨z.toArray⟩ g lv.sides.reverse lv.wait.reverse).map fun q=>some (r,{ lv with sides:=q.1.reverse,wait:=q.2.reverse}))
  else if Pc.ks z=sgK ","/\(lv.kind=ofString "kids"\/lv.kind=ofString "list")then some (some (r,fin lv))
  else if Pc.ks z=sgK "|"/\lv.kind=ofString "list" then some (some (r,{ fin lv with kind:=ofString "rest"}))
  else some none
def trn(tb:Tb)(r:List Pc)(st:List Lv):Option (Bool×List Pc×List Lv):=
 match opn r st with
 |some (r1,lv::st1)=>match thg r1 with
  |some (t,r2)=>match cls r2 { lv with sides:=lv.sides++[t]} st1 with
   |some (r3,lw::st3)=>match btw tb lw r3 with
    |some (some (r4,lx))=>some (true,r4,lx::st3)
    |some none=>some (false,r3,lw::st3)
    |none=>none
   |_=>none
  |none=>none
 |_=>none
structure LvO(tb:Tb)(i d:Nat)(lv:Lv):Prop where
 kd:b6j lv.kind
 ln:lv.sides.length=lv.wait.length+d
 bd:lv.sides.length+lv.done.length<=i
 wt:∀w∈lv.wait,(lkT tb w).isSome=true
inductive Stk(tb:Tb)(i:Nat):Nat->List Lv->Prop where
 |one {d:Nat} {lv:Lv}:LvO tb i d lv->lv.kind=ofString "whole"->Stk tb i d [lv]
 |cons {d:Nat} {lv lu:Lv} {st:List Lv}:LvO tb i d lv->lv.kind≠ofString "whole"->Stk tb i 0 (lu::st)->Stk tb i d (lv::lu::st)
theorem LvO.mono{tb:Tb}{i j d:Nat}{lv:Lv}(h:LvO tb i d lv)(hj:i<=j):LvO tb j d lv:=⟨h.kd,h.ln,Ym h.bd hj,h.wt⟩
theorem Stk.mono{tb:Tb}{i j d:Nat}{st:List Lv}(h:Stk tb i d st)(hj:i<=j):Stk tb j d st:=by
 induction h with
 |one a b=>exact .one (a.mono hj) b
 |cons a b _ ih=>exact .cons (a.mono hj) b ih
theorem Stk.top{tb:Tb}{i d:Nat}{lv:Lv}{st:List Lv}(h:Stk tb i d (lv::st)):LvO tb i d lv:=by
 cases h with
 |one a _=>exact a
 |cons a _ _=>exact a
theorem Stk.set{tb:Tb}{i j d e:Nat}{lv lw:Lv}{st:List Lv}(h:Stk tb i d (lv::st))(hj:i<=j)(w:LvO tb j e lw)(k1:lv.kind=ofString "whole"->lw.kind=ofString "whole")(k2:lw.kind=ofString "whole"->lv.kind=ofString "whole"):Stk tb j e (lw::st):=by
 cases h with
 |one a b=>exact .one w (k1 b)
 |cons a b c=>exact .cons w (fun z=>b (k2 z)) (c.mono hj)
theorem Stk.push{tb:Tb}{i j:Nat}{k:Str}{w:Str}{st:List Lv}(h:Stk tb i 0 st)(hj:i<=j)(hk:b6j k)(hn:k≠ofString "whole"):Stk tb j 0 (⟨k,w,[],[],[]⟩::st):=by
 have h':=h.mono hj
 cases h' with
 |one a b=>exact .cons ⟨hk,rfl,Z3 _,fun _ z=>by cases z⟩ hn (.one a b)
 |cons a b c=>exact .cons ⟨hk,rfl,Z3 _,fun _ z=>by cases z⟩ hn (.cons a b c)
theorem b3x:∀{w:List Str}{s:List Trm},s.length=w.length+1->∃x,jn s w=[x]
 | [],[x],_=>⟨x,rfl⟩
 | [],[],h=>by simp at h
 | [],_::_::_,h=>by simp at h
 |m::w,[],h=>by simp at h
 |m::w,[_],h=>by simp at h
 |m::w,b::a::r,h=>by
  rw[jn]
  exact b3x (by simp at h ⊢;omega)
theorem b3y{lv:Lv}{y:Trm}(h:jn lv.sides.reverse lv.wait.reverse=[y]):fin lv={ lv with done:=lv.done++[y],sides:=[],wait:=[]}:=by rw[fin,h];rfl
theorem fin_ok{tb:Tb}{i:Nat}{lv:Lv}(h:LvO tb i 1 lv):LvO tb i 0 (fin lv):=⟨h.kd,rfl,by have:=h.bd;have:=h.ln;simp only[fin,Za,length_cons,length_nil];omega,fun _ z=>by cases z⟩
theorem c7s{tb:Tb}{m:Str}{g:Sg}(hm:(lkT tb m).isSome=true):∀{w:List Str}{s:List Trm}{q:List Trm×List Str},addM tb m g s w=some q->s.length=w.length+1->(∀x∈w,(lkT tb x).isSome=true)->q.1.length=q.2.length/\q.1.length<=s.length/\∀x∈q.2,(lkT tb x).isSome=true
 | [],s,q,h,hl,hw=>by
  have e:addM tb m g s []=some (s,[m]):=by
   cases s with
   |nil=>simp[addM]
   |cons a r=>cases r<;>simp[addM]
  rw[e]at h
  cases h
  exact⟨by simpa using hl,Zb _,fun x hx=>by rw[Zw.mp hx];exact hm⟩
 |w::ws,[],q,h,hl,hw=>by simp at hl
 |w::ws,[_],q,h,hl,hw=>by simp at hl
 |w::ws,b::a::r,q,h,hl,hw=>by
  rw[addM]at h
  cases hb:bf ((lkT tb w).getD (0,a1f)) g with
  |none=>rw[hb]at h;cases h
  |some z=>
   rw[hb]at h
   cases z with
   |true=>
    have:=c7s hm h (by simp at hl ⊢;omega) (fun x hx=>hw x (Zi _ hx))
    exact⟨this.1,by have:=this.2.1;simp at this ⊢;omega,this.2.2⟩
   |false=>
    cases h
    refine⟨by simp at hl ⊢;omega,Zb _,fun x hx=>?_⟩
    rcases Zk.mp hx with z|z
    ·rw[z];exact hm
    ·exact hw x z
theorem a0x(ps:List Pc)(i:Nat):pcK ps i=hK (ps.drop i):=by
 unfold pcK
 rw[show ps[i]? =(ps.drop i)[0]? by rw[List.getElem?_drop];rfl]
 cases ps.drop i with
 |nil=>rfl
 |cons z r=>rfl
theorem b3z(ps:List Pc)(i:Nat):ps.drop (i+1)=(ps.drop i).tail:=by rw[List.tail_drop]
theorem a4u{ps:List Pc}{i:Nat}{z:Pc}{r:List Pc}(h:ps.drop i=z::r):ps.drop (i+1)=r/\i<ps.length/\z∈ps:=by
 refine⟨by rw[b3z,h];rfl,?_,?_⟩
 ·by_cases hi:i<ps.length
  ·exact hi
  ·rw[List.drop_eq_nil_of_le (by omega)]at h;cases h
 ·exact To (by rw[h];exact Zj ..)
structure RX(K:W.Frag)(CR CL:Addr)(H0 H:Hp)(x pr pd pv:Addr)(ps:List Pc)(tb:Tb)(i d:Nat)(st:List Lv):Prop where
 w:∃fps,RS K CR CL H0 H x pr pd pv ps tb i fps st.reverse
 sk:Stk tb i d st
 hi:i<=ps.length
 hl:st.length<=i+1
 pk:∀z∈ps,Pok z/\(kindOf z=ofString "mark"->(lkT tb ⟨z.toArray⟩).isSome=true)
theorem RX.same{K:W.Frag}{CR CL:Addr}{H0 H H':Hp}{x pr pd pv:Addr}{ps:List Pc}{tb:Tb}{i d:Nat}{st:List Lv}(w:RX K CR CL H0 H x pr pd pv ps tb i d st)(s:Same H H'):RX K CR CL H0 H' x pr pd pv ps tb i d st:=by
 obtain⟨fps,w1⟩:=w.w
 exact⟨⟨fps,w1.same s⟩,w.sk,w.hi,w.hl,w.pk⟩
def resR(K:W.Frag)(CR CL B:Addr)(H0:Hp)(x pr pd pv:Addr)(ps:List Pc)(tb:Tb)(d:Nat)(Q:VK)(E:XK):Option (List Pc×List Lv)->Prop
 |none=>onX H0 B E
 |some q=>∀j H',ps.drop j=q.1->RX K CR CL H0 H' x pr pd pv ps tb j d q.2->Q .non H'
abbrev RdX(K:W.Frag)(CR CL:Addr)(H:Hp)(x:Addr)(d:Nat)(R:Hp->Addr->Addr->Addr->List Pc->Tb->Nat->List Lv->Prop):Prop:=∃(H0:Hp)(pr pd pv:Addr)(ps:List Pc)(tb:Tb)(i:Nat)(st:List Lv),RX K CR CL H0 H x pr pd pv ps tb i d st/\R H0 pr pd pv ps tb i st
abbrev a3f(K:W.Frag)(CR CL B:Addr):Sp:=fun vs H Q E=>match vs with| [.ref x]=>RdX K CR CL H x 0 fun H0 pr pd pv ps tb i st=>resR K CR CL B H0 x pr pd pv ps tb 0 Q E (opn (ps.drop i) st)|_=>False
def resT(K:W.Frag)(CR CL B:Addr)(H0:Hp)(x pr pd pv:Addr)(ps:List Pc)(tb:Tb)(lv:Lv)(st:List Lv)(Q:VK)(E:XK):Option (Trm×List Pc)->Prop
 |none=>onX H0 B E
 |some q=>∀j H',ps.drop j=q.2->RX K CR CL H0 H' x pr pd pv ps tb j 1 ({ lv with sides:=lv.sides++[q.1]}::st)->Q .non H'
abbrev a3v(K:W.Frag)(CR CL B:Addr):Sp:=fun vs H Q E=>match vs with| [.ref x]=>RdX K CR CL H x 0 fun H0 pr pd pv ps tb i st=>∃lv st1,st=lv::st1/\(hK (ps.drop i)=sgK "["->hK (ps.drop (i+1))=sgK "]")/\resT K CR CL B H0 x pr pd pv ps tb lv st1 Q E (thg (ps.drop i))|_=>False
abbrev a3g(K:W.Frag)(CR CL B:Addr):Sp:=fun vs H Q E=>match vs with| [.ref x]=>RdX K CR CL H x 1 fun H0 pr pd pv ps tb i st=>∃lv st1,st=lv::st1/\resR K CR CL B H0 x pr pd pv ps tb 1 Q E (cls (ps.drop i) lv st1)|_=>False
def resW(K:W.Frag)(CR CL B:Addr)(H0:Hp)(x pr pd pv:Addr)(ps:List Pc)(tb:Tb)(i:Nat)(lv:Lv)(st:List Lv)(Q:VK)(E:XK):Option (Option (List Pc×Lv))->Prop
 |none=>onX H0 B E
 |some none=>∀H',RX K CR CL H0 H' x pr pd pv ps tb i 1 (lv::st)->Q (.bl false) H'
 |some (some q)=>∀H',ps.drop (i+1)=q.1->RX K CR CL H0 H' x pr pd pv ps tb (i+1) 0 (q.2::st)->Q (.bl true) H'
abbrev a3h(K:W.Frag)(CR CL B:Addr):Sp:=fun vs H Q E=>match vs with| [.ref x]=>RdX K CR CL H x 1 fun H0 pr pd pv ps tb i st=>∃lv st1,st=lv::st1/\resW K CR CL B H0 x pr pd pv ps tb i lv st1 Q E (btw tb lv (ps.drop i))|_=>False
theorem a3w{s r:String}(h:ofString s≠ofString r):sgK s≠sgK r:=fun e=>h (by simp only[sgK,Yd,Yw]at e;exact e.2.1)
theorem c1d(ps:List Pc)(i:Nat):∃a b:Str,pcK ps i=[Sum.inr a,Sum.inr b]:=by
 unfold pcK
 cases ps[i]? with
 |none=>exact⟨_,_,rfl⟩
 |some p=>exact⟨_,_,rfl⟩
theorem a2i.len{K:W.Frag}{C:Addr}{H:Hp}{fs:List Fp}{ls:List Lv}(w:a2i K C H fs ls):fs.length=ls.length:=by
 induction w with
 |nil=>rfl
 |cons _ _ ih=>rw[length_cons,length_cons,ih]
theorem a4h{z:Pc}{k:Str}(h:kindOf z=k)(s:Str)(hk:k≠ofString "sign":=by decide+kernel):Pc.ks z≠[Sum.inr (ofString "sign"),Sum.inr s]:=fun e=>by
 simp only[Pc.ks,Yd,Yw]at e
 exact hk (h.symm.trans e.1)
theorem c5j(s:Str):endK≠[Sum.inr (ofString "sign"),Sum.inr s]:=fun e=>by
 simp only[endK,Yd,Yw]at e
 exact absurd e.1 (by decide+kernel)
theorem a7g{r:List Pc}{s:Str}(h:hK r=[Sum.inr (ofString "sign"),Sum.inr s]):∃z r',r=z::r':=by
 cases r with
 |nil=>exact absurd h (c5j s)
 |cons z r'=>exact⟨z,r',rfl⟩
theorem a8f{z:Pc}{r:List Pc}{st:List Lv}(h:Pc.ks z=sgK "("):opn (z::r) st=opn r (rdL::st):=by
 cases r<;>(rw[opn];exact if_pos h)
theorem a9e{z:Pc}{r:List Pc}{st:List Lv}(h1:Pc.ks z=sgK "[")(h2:hK r≠sgK "]"):opn (z::r) st=opn r (ltL::st):=by
 have n:Pc.ks z≠sgK "(":=by rw[h1];exact a3w (by decide+kernel)
 cases r with
 |nil=>(conv=>lhs;rw[opn]);rw[if_neg n,if_pos ⟨h1,h2⟩]
 |cons y r=>(conv=>lhs;rw[opn]);rw[if_neg n,if_pos ⟨h1,h2⟩]
theorem b2a{z y:Pc}{r:List Pc}{st:List Lv}(h1:kindOf z=ofString "word")(h2:Pc.ks y=sgK "("):opn (z::y::r) st=if z.length<=12 then opn r (kdL ⟨z.toArray⟩::st)else none:=by
 have n1:¬Pc.ks z=sgK "(":=a4h h1 _
 have n2:¬(Pc.ks z=sgK "["/\hK (y::r)≠sgK "]"):=fun e=>(a4h h1 _) e.1
 (conv=>lhs;rw[opn])
 rw[if_neg n1,if_neg n2,if_pos ⟨h1,h2⟩]
theorem a6q:∀{r:List Pc}{st:List Lv},hK r≠sgK "("->(hK r=sgK "["->hK r.tail=sgK "]")->(∀z r',r=z::r'->kindOf z=ofString "word"->hK r'≠sgK "(")->opn r st=some (r,st)
 | [],st,_,_,_=>by rw[opn]
 | [z],st,h1,h2,_=>by
  have h1:¬Pc.ks z=sgK "(":=h1
  have h2:¬(Pc.ks z=sgK "["/\hK []≠sgK "]"):=fun e=>e.2 (h2 e.1)
  rw[opn,if_neg h1,if_neg h2]
 |z::y::r,st,h1,h2,h3=>by
  have h1:¬Pc.ks z=sgK "(":=h1
  have h2:¬(Pc.ks z=sgK "["/\hK (y::r)≠sgK "]"):=fun e=>e.2 (h2 e.1)
  rw[opn,if_neg h1,if_neg h2,if_neg (fun e=>h3 z _ rfl e.1 e.2)]
theorem RX.push{K:W.Frag}{CR CL:Addr}{H0 H H':Hp}{x pr pd pv:Addr}{ps:List Pc}{tb:Tb}{i n:Nat}{st:List Lv}{fps:List Fp}{k w0:Str}(X:RX K CR CL H0 H x pr pd pv ps tb i 0 st)(w:RS K CR CL H0 H' x pr pd pv ps tb (i+n) fps (st.reverse++[⟨k,w0,[],[],[]⟩]))(hn:1<=n)(hi:i+n<=ps.length)(hk:b6j k)(hw:k≠ofString "whole":=by decide+kernel):RX K CR CL H0 H' x pr pd pv ps tb (i+n) 0 (⟨k,w0,[],[],[]⟩::st):=
 ⟨⟨fps,by rw[Yb];exact w⟩,X.sk.push (by omega) hk hw,hi,by have:=X.hl;rw[length_cons];omega,X.pk⟩
theorem c2j{ps:List Pc}{i:Nat}{r:List Key}{k:Str}(h:pcK ps i=Sum.inr k::r)(hk:k≠ofString "end":=by decide+kernel):∃z r',ps.drop i=z::r'/\kindOf z=k:=by
 rw[a0x]at h
 cases e:ps.drop i with
 |nil=>
  rw[e]at h
  simp only[hK,endK,Yd,Yw]at h
  exact absurd h.1.symm hk
 |cons z r'=>
  rw[e]at h
  simp only[hK,Pc.ks,Yd,Yw]at h
  exact⟨z,r',rfl,h.1⟩
theorem RX.set{K:W.Frag}{CR CL:Addr}{H0 H H':Hp}{x pr pd pv:Addr}{ps:List Pc}{tb:Tb}{i j d e:Nat}{lv lw:Lv}{st:List Lv}{fps:List Fp}(X:RX K CR CL H0 H x pr pd pv ps tb i d (lv::st))(w:RS K CR CL H0 H' x pr pd pv ps tb j fps (st.reverse++[lw]))(hj:i<=j)(hp:j<=ps.length)(o:LvO tb j e lw)(k1:lv.kind=ofString "whole"->lw.kind=ofString "whole")(k2:lw.kind=ofString "whole"->lv.kind=ofString "whole"):RX K CR CL H0 H' x pr pd pv ps tb j e (lw::st):=
 ⟨⟨fps,by rw[Yb];exact w⟩,X.sk.set hj o k1 k2,hp,by have:=X.hl;rw[length_cons]at this ⊢;omega,X.pk⟩
theorem LvO.thing{tb:Tb}{i j:Nat}{lv:Lv}{t:Trm}(h:LvO tb i 0 lv)(hj:i+1<=j):LvO tb j 1 { lv with sides:=lv.sides++[t]}:=⟨h.kd,by have:=h.ln;simp;omega,by have:=h.bd;simp;omega,h.wt⟩
theorem b4w{r:List Pc}{lv:Lv}{st:List Lv}(h:hK r≠[Sum.inr (ofString "sign"),Sum.inr (clS lv.kind)]):cls r lv st=some (r,lv::st):=by
 cases r with
 |nil=>rw[cls];intro _ _ _ _ z;cases z
 |cons z r=>
  cases st with
  |nil=>rw[cls];intro _ _ _ _ _ z;cases z
  |cons lu st=>rw[cls];exact if_neg h
theorem b4x{z:Pc}{r:List Pc}{lv lu:Lv}{st:List Lv}(h:Pc.ks z=[Sum.inr (ofString "sign"),Sum.inr (clS lv.kind)]):cls (z::r) lv (lu::st)=match clo (fin lv)with|none=>none|some t=>cls r { lu with sides:=lu.sides++[t]} st:=by
 (conv=>lhs;rw[cls])
 exact if_pos h
theorem no_nil{z:Pc}(h:Pok z):Pc.ks z≠[Sum.inr (ofString "sign"),Sum.inr (clS (ofString "whole"))]:=fun e=>by
 obtain⟨c,r,rfl,_⟩:=h
 simp only[Pc.ks,Yd,Yw]at e
 have:=Z9 (fun s:Str=>s.cps.toList.length) e.2.1
 simp[show(clS (ofString "whole")).cps.toList.length=0 by decide+kernel]at this
theorem b6k{tb:Tb}{lv:Lv}{l:List Pc}(h1:∀z r,l=z::r->kindOf z≠ofString "mark")(h2:¬(hK l=sgK ","/\(lv.kind=ofString "kids"\/lv.kind=ofString "list")))(h3:¬(hK l=sgK "|"/\lv.kind=ofString "list")):btw tb lv l=some none:=by
 cases l with
 |nil=>rw[btw]
 |cons z r=>
  have h2:¬(Pc.ks z=sgK ","/\(lv.kind=ofString "kids"\/lv.kind=ofString "list")):=h2
  have h3:¬(Pc.ks z=sgK "|"/\lv.kind=ofString "list"):=h3
  rw[btw,if_neg (h1 z r rfl),if_neg h2,if_neg h3]
theorem c1e{z:Pc}{s:Str}(h:Pc.ks z=[Sum.inr (ofString "sign"),Sum.inr s]):¬kindOf z=ofString "mark":=fun e=>a4h e _ (by decide+kernel) h
theorem c2k{tb:Tb}{lv:Lv}{z:Pc}{r:List Pc}(h1:Pc.ks z=sgK ",")(h2:lv.kind=ofString "kids"\/lv.kind=ofString "list"):btw tb lv (z::r)=some (some (r,fin lv)):=by
 rw[btw,if_neg (c1e h1),if_pos ⟨h1,h2⟩]
theorem c1f{tb:Tb}{lv:Lv}{z:Pc}{r:List Pc}(h1:Pc.ks z=sgK "|")(h2:lv.kind=ofString "list"):btw tb lv (z::r)=some (some (r,{ fin lv with kind:=ofString "rest"})):=by
 have n:¬(Pc.ks z=sgK ","/\(lv.kind=ofString "kids"\/lv.kind=ofString "list")):=fun e=>by rw[h1]at e;exact absurd e.1 (a3w (by decide+kernel))
 rw[btw,if_neg (c1e h1),if_neg n,if_pos ⟨h1,h2⟩]
abbrev a4r(K:W.Frag)(CR CL B:Addr):Sp:=fun vs H Q E=>match vs with| [.ref x]=>RdS K CR CL H x fun _ _ _ _ ps _ i _ _=>(pcK ps i=endK->Q .non H)/\(pcK ps i≠endK->onB H B E)|_=>False
abbrev a6e(K:W.Frag)(C:Addr):Sp:=fun vs H Q _=>match vs with| [.ref x,.ref pr,.ref pd]=>∃dx,H x=some (.ins C dx [])/\∀(pv:Addr) H',H' x=some (.ins C dx (fsR pr pd 0 pv))->(∀b o,b≠x->H b=some o->H' b=some o)->Q .non H'|_=>False
section
variable{P:Program}{w:World}{K:W.Frag}{mg:Str->Option Value}{base:Heap}{t:Ad}
theorem b2e(T:Txt K mg t)(G_a4:FnOk P w K mg base CX0 1 t.a_a4 t.d_a4 ["self","ahead"] (a2o K t.k_a2 t.k_a1))(G_a7:FnOk P w K mg base CX0 2 t.a_a7 t.d_a7 ["self","text"] (a2z K t.k_a2 t.k_a1))(G_b8:FnOk P w K mg base CX0 3 t.a_b8 t.d_b8 ["self","kind","word","long"] (a5p K t.k_a2 t.k_a1))(G_b7:FnOk P w K mg base (CXo P w) 4 t.a_b7 t.d_b7 ["text"] (a4x t.k_a0)):FnOk P w K mg base (CXo P w) 5 t.a_g6 t.d_g6 ["self"] (a3f K t.k_a2 t.k_a1 t.k_a0):=by
 refine T.F_g6.okX a3e (fun vs H Q E h=>?_) (fun cdv A outer s H vs Q E hr h=>?_)
 ·unfold a3f at h
  split at h
  ·rfl
  ·exact h.elim
 unfold a3f at h
 split at h
 rotate_left
 ·exact h.elim
 refine⟨_,(a0e (a0q (i:=1) a3e.nd rfl (by walk_at "or1") b2h) (a0g (a3x Wo (a1w K rfl (mv 1)) (a0e (a0q (i:=2) (hs:=a1p) a3e.nd rfl (by walk_at "or1") (a3b (mv 0) T.cl_a2 T.me_a4 G_a4 (hr.mono (by walk_at "r")) T.b_a4 .nil a0p (a0a a0d a0b))) (a0g (a0v (a1w K rfl (a3b (mv 0) T.cl_a2 T.me_a7 G_a7 (hr.mono (by walk_at "r")) T.b_a7 .nil a0p (a0a a0i a0b))) (a0g (a1a (a3b (mv 0) T.cl_a2 T.me_b8 G_b8 (hr.mono (by walk_at "r")) T.b_b8 .nil a0p (a0a a0i (a0a a0i (a0a a0d a0b)))))) (a0g (a0v (PW.pt (a5d (a1w K rfl (a3b (mv 0) T.cl_a2 T.me_a7 G_a7 (hr.mono (by walk_at "r")) T.b_a7 .nil a0p (a0a a0i a0b))) (a4f (a0s (c7l K rfl (a7y hr)) (mv 2) (a1g (a0a a0i (a0a a0i a0b))) (a0t _))))) (a0g (a1a (a3b (mv 0) T.cl_a2 T.me_b8 G_b8 (hr.mono (by walk_at "r")) T.b_b8 .nil a0p (a0a a0i (a0a a0i (a0a a0d a0b)))))) (a0g (a0v (PW.pt (a5d (a0s a1e (a0r (a0k K rfl) (a3b (mv 0) T.cl_a2 T.me_a4 G_a4 (hr.mono (by walk_at "r")) T.b_a4 .nil a0p (a0a a0d a0b)) a0d (fun _ _=>rfl)) a0i (a0t _)) (a4f (a0s (c7h K rfl (a7y hr)) (mv 2) (a1g (a0a a0i (a0a a0i a0b))) (a0t _))))) (a0g (a1a (a3b (mv 0) T.cl_a2 T.me_b8 G_b8 (hr.mono (by walk_at "r")) T.b_b8 .nil a0p (a0a a0i (a0a (a0l G_b7 (hr.mono (by walk_at "r")) rfl T.m_b7 T.F_b7.kp T.b_b7 .nil a4w (a0a (a0r (a0k K rfl) (a3b (mv 0) T.cl_a2 T.me_a4 G_a4 (hr.mono (by walk_at "r")) T.b_a4 .nil a0p (a0a a0d a0b)) a0d (fun _ _=>rfl)) a0b)) (a0a a0d a0b)))))) (a0g (a0q (i:=1) a3e.nd rfl (by walk_at "or1") b2h)))))))))))),?_⟩
 rename_i x
 obtain⟨H0,pr,pd,pv,ps,tb,i0,st0,X0,q⟩:=h
 generalize eo:opn (ps.drop i0) st0=oo at q
 walk_at "s"
 refine a3c (fun k σ' H'=>(∃(i:Nat)(st:List Lv)(o2:Option V),σ'=[some (.ref x),some (.bl true),o2]/\RX K t.k_a2 t.k_a1 H0 H' x pr pd pv ps tb i 0 st/\opn (ps.drop i) st=oo/\k=(ps.drop i).length+1)\/∃(j:Nat)(st:List Lv)(o2:Option V),σ'=[some (.ref x),some (.bl false),o2]/\RX K t.k_a2 t.k_a1 H0 H' x pr pd pv ps tb j 0 st/\oo=some (ps.drop j,st)/\k=0) ((ps.drop i0).length+1) (.inl ⟨i0,st0,_,rfl,X0,eo,rfl⟩) (fun k σ' H' R hP kT kF=>?_)
 rcases hP with⟨i,st,o2,rfl,X,eo',rfl⟩|⟨j,st,o2,rfl,X,rfl,rfl⟩
 rotate_left
 ·walk_at "s"
  refine kF H' ?_
  walk_at "s"
  exact q j H' rfl X
 obtain⟨fps,w⟩:=X.w
 have hfl:=w.al.len
 rw[Z7]at hfl
 have hi:=X.hi
 have hl:=X.hl
 have hps:=w.lim.2.1
 walk_at "s"
 refine kT H' (fun D' e1 e2 hnx hct=>?_)
 obtain⟨dx,ho⟩:=w.ob
 walk_at "s"
 refine⟨x,dx,_,rfl,ho,a2u,?_⟩
 walk_at "s"
 refine⟨H0,pr,pd,pv,ps,tb,i,fps,_,w,1,rfl,by omega,fun bh hbh=>?_⟩
 walk_at "s"
 refine⟨x,dx,_,rfl,ho,a2u,?_⟩
 walk_at "s"
 refine⟨H0,pr,pd,pv,ps,tb,i,fps,_,w,fun H1 s1=>?_⟩
 have w1:=w.same s1
 obtain⟨dx1,ho1⟩:=w1.ob
 walk_at "s"
 by_cases c1:pcK ps i=sgK "("
 ·rw[show a5o ps i (ofString "(")=true from Zg c1]
  walk_at "D"
  obtain⟨dxB,hoB⟩:=w1.ob
  refine⟨x,dxB,_,rfl,hoB,a2u,?_⟩
  walk_at "s"
  rw[a0x]at c1
  obtain⟨z,r,hz⟩:=a7g c1
  obtain⟨n1,n2,n3⟩:=a4u hz
  rw[hz]at c1 eo'
  rw[a8f c1,<-n1]at eo'
  refine⟨H0,pr,pd,pv,ps,tb,i,fps,_,w1,1,rfl,by omega,by omega,by omega,fun f H2 w2=>?_⟩
  walk_at "s"
  exact hnx _ _ ((ps.drop (i+1)).length+1) (by rw[Y7,Y7];omega) (.inl ⟨i+1,_,_,rfl,X.push w2 (by omega) (by omega) (.inr (.inl rfl)),eo',rfl⟩)
 rw[show a5o ps i (ofString "(")=false from Zd c1]
 walk_at "C"
 refine⟨x,dx1,_,rfl,ho1,a2u,?_⟩
 walk_at "s"
 refine⟨H0,pr,pd,pv,ps,tb,i,fps,_,w1,fun H2 s2=>?_⟩
 have w2:=w1.same s2
 by_cases c2:pcK ps i=sgK "["
 ·rw[show a5o ps i (ofString "[")=true from Zg c2]
  walk_at "B"
  refine⟨ln (by show 2<=100000;decide),fun p hp=>?_⟩
  have sp:=a0f hp (.tup [.str (ofString "sign"),.str (ofString "]")])
  have w3:=w2.same sp
  walk_at "s"
  refine⟨bh,pcK ps (i+1),rfl,sp.tup (s2.tup (s1.tup hbh)),.inr ⟨p,sgK "]",rfl,SqT.of a0c,?_⟩⟩
  by_cases c3:pcK ps (i+1)=sgK "]"
  ·rw[Zg c3]
   walk_at "A"
   obtain⟨dxT,hoT⟩:=w3.ob
   refine⟨x,dxT,_,rfl,hoT,a2u,?_⟩
   walk_at "s"
   refine⟨H0,pr,pd,pv,ps,tb,i,fps,_,w3,0,rfl,by omega,fun a0 h0=>?_⟩
   rw[Wp]at h0
   obtain⟨ka,kb,hk⟩:=c1d ps i
   rw[hk]at h0
   walk_at "s"
   refine a0w h0 (v:=.str ka) rfl ?_
   walk_at "s"
   have ek:ka=ofString "sign":=by rw[hk]at c2;simp only[sgK,Yd,Yw]at c2;exact c2.1
   refine iteB (fun y=>absurd y (by rw[ek];decide+kernel)) (fun y=>?_)
   walk_at "C"
   exact hnx _ _ 0 (by omega) (.inr ⟨i,st,_,rfl,((X.same s1).same s2).same sp,(eo'.symm.trans (a6q (by rw[<-a0x];exact c1) (fun y=>by rw[<-b3z,<-a0x];exact c3) (fun z r' hz y=>absurd (by rw[a0x,hz]at c2;exact c2) (a4h y _)))),rfl⟩)
  ·rw[Zd c3]
   walk_at "B"
   obtain⟨dxB,hoB⟩:=w3.ob
   refine⟨x,dxB,_,rfl,hoB,a2u,?_⟩
   walk_at "s"
   rw[a0x]at c2
   obtain⟨z,r,hz⟩:=a7g c2
   obtain⟨n1,n2,n3⟩:=a4u hz
   rw[a0x,n1]at c3
   rw[hz]at c2 eo'
   rw[a9e c2 c3,<-n1]at eo'
   refine⟨H0,pr,pd,pv,ps,tb,i,fps,_,w3,1,rfl,by omega,by omega,by omega,fun f H4 w4=>?_⟩
   walk_at "s"
   exact hnx _ _ ((ps.drop (i+1)).length+1) (by rw[Y7,Y7];omega) (.inl ⟨i+1,_,_,rfl,X.push w4 (by omega) (by omega) (.inr (.inr (.inr (.inl rfl)))),eo',rfl⟩)
 rw[show a5o ps i (ofString "[")=false from Zd c2]
 walk_at "s"
 refine iteF ?_
 walk_at "C"
 obtain⟨dxT,hoT⟩:=w2.ob
 refine⟨x,dxT,_,rfl,hoT,a2u,?_⟩
 walk_at "s"
 refine⟨H0,pr,pd,pv,ps,tb,i,fps,_,w2,0,rfl,by omega,fun a0 h0=>?_⟩
 rw[Wp]at h0
 obtain⟨ka,kb,hk⟩:=c1d ps i
 rw[hk]at h0
 walk_at "s"
 refine a0w h0 (v:=.str ka) rfl ?_
 walk_at "s"
 refine iteB (fun y=>?_) (fun y=>?_)
 rotate_left
 ·have hy:ka≠ofString "word":=by rw[Zm]at y;exact Zl y
  walk_at "C"
  exact hnx _ _ 0 (by omega) (.inr ⟨i,st,_,rfl,(X.same s1).same s2,(eo'.symm.trans (a6q (by rw[<-a0x];exact c1) (fun y=>by rw[<-b3z,<-a0x];exact absurd y (by rw[<-a0x];exact c2)) (fun z r' hz y=>absurd (by rw[a0x,hz]at hk;simp only[hK,Pc.ks,Yd,Yw]at hk;rw[<-hk.1];exact y) hy))),rfl⟩)
 have hy:ka=ofString "word":=by rw[Zm]at y;exact Ze y
 rw[hy]at hk
 obtain⟨z,r,hz,kz⟩:=c2j hk
 obtain⟨n1,n2,n3⟩:=a4u hz
 walk_at "s"
 refine⟨ln (by show 2<=100000;decide),fun p4 hp4=>?_⟩
 have sp:=a0f hp4 (.tup [.str (ofString "sign"),.str (ofString "(")])
 have w3:=w2.same sp
 walk_at "s"
 refine⟨bh,p4,pcK ps (i+1),sgK "(",rfl,rfl,sp.tup (s2.tup (s1.tup hbh)),SqT.of a0c,?_⟩
 by_cases c3:pcK ps (i+1)=sgK "("
 rotate_left
 ·rw[Zd c3]
  walk_at "A"
  exact hnx _ _ 0 (by omega) (.inr ⟨i,st,_,rfl,((X.same s1).same s2).same sp,(eo'.symm.trans (a6q (by rw[<-a0x];exact c1) (fun y=>by rw[<-b3z,<-a0x];exact absurd y (by rw[<-a0x];exact c2)) (fun z1 r1 hz1 _=>by rw[hz]at hz1;cases hz1;rw[<-n1,<-a0x];exact c3))),rfl⟩)
 rw[Zg c3]
 walk_at "B"
 obtain⟨dx3,ho3⟩:=w3.ob
 refine⟨x,dx3,_,rfl,ho3,a2u,?_⟩
 walk_at "s"
 refine⟨x,dx3,_,rfl,ho3,a2u,?_⟩
 walk_at "s"
 refine⟨H0,pr,pd,pv,ps,tb,i,fps,_,w3,0,rfl,by omega,fun a4 h4=>?_⟩
 rw[Wp,a0x,hz]at h4
 walk_at "s"
 refine a0w h4 (v:=.str ⟨z.toArray⟩) rfl ?_
 walk_at "s"
 have c4:=c3
 rw[a0x,n1]at c4
 obtain⟨y1,r1,hr⟩:=a7g c4
 subst hr
 obtain⟨m1,m2,m3⟩:=a4u n1
 rw[hz,b2a kz c4]at eo'
 refine⟨z,rfl,(X.pk z n3).1.calW (a7t kz),?_⟩
 by_cases hz12:z.length<=12
 ·rw[if_pos hz12,<-m1]at eo'
  rw[Zg hz12]
  intro H5 s5
  walk_at "s"
  refine⟨H0,pr,pd,pv,ps,tb,i,fps,_,w3.same s5,2,rfl,by omega,by omega,by omega,fun f H6 w6=>?_⟩
  walk_at "s"
  exact hnx _ _ ((ps.drop (i+1+1)).length+1) (by rw[Y7,Y7];omega) (.inl ⟨i+2,_,_,rfl,X.push w6 (by omega) (by omega) (.inr (.inr (.inl rfl))),eo',rfl⟩)
 ·rw[if_neg hz12]at eo'
  rw[Zd hz12]
  subst eo'
  exact q.mono (w3.sm)
end
section
variable{P:Program}{w:World}{K:W.Frag}{mg:Str->Option Value}{base:Heap}{t:Ad}
section
variable{K:W.Frag}{CR CL:Addr}{H0 H H':Hp}{x pr pd pv:Addr}{ps:List Pc}{tb:Tb}{i:Nat}{fps:List Fp}{lvs:List Lv}
structure Off(H0:Hp)(x pv:Addr)(fps:List Fp)(f:Fp):Prop where
 fr:∀b∈f.all,H0 b=none
 nx:x∉f.all
 nv:pv∉f.all
 dj:∀g∈fps,∀b∈g.all,b∉f.all
theorem RS.away{f:Fp}{lv:Lv}(w:RS K CR CL H0 H x pr pd pv ps tb i fps lvs)(o:Off H0 x pv fps f)(h:LvAt K CL H f lv)(g:LF f H H'):RS K CR CL H0 H' x pr pd pv ps tb i fps lvs:=by
 obtain⟨dx,ho⟩:=w.ob
 exact⟨⟨dx,g _ _ o.nx ho⟩,w.row,w.sg,g _ _ o.nv w.lv,w.al.fr (fun k hk b hb u e=>g _ _ (o.dj k hk b hb) e) (h.tup g),fun b u e=>g _ _ (fun z=>by rw[o.fr b z]at e;cases e) (w.sm _ _ e),w.fx,w.fv,w.ff,w.dj,w.nv,w.lim⟩
theorem RS.pop{fs:List Fp}{f:Fp}{ls:List Lv}{lv:Lv}(w:RS K CR CL H0 H x pr pd pv ps tb i (fs++[f]) (ls++[lv]))(h0:a2i K CL H fs ls)(h1:LvAt K CL H f lv):RS K CR CL H0 (upd H pv (.lst (fs.map fun f=>V.ref f.l))) x pr pd pv ps tb i fs ls/\LvAt K CL (upd H pv (.lst (fs.map fun f=>V.ref f.l))) f lv/\Off H0 x pv fs f:=by
 obtain⟨dx,ho⟩:=w.ob
 have hf:=w.nv f (by simp)
 have hd:=Vz.mp w.dj
 have ht:∀a xs,SqT K H a xs->SqT K (upd H pv (.lst (fs.map fun f=>V.ref f.l))) a xs:=tup_upd' w.lv (fun _ z=>by cases z) (fun _ _ z=>by cases z)
 refine⟨⟨⟨dx,by rw[a0j (fun z=>by have:=w.lv;rw[<-z,ho]at this;cases this)];exact ho⟩,w.row,w.sg,a0c,h0.fr (fun g hg b hb o e=>by rw[a0j (fun z=>(w.nv g (by simp[hg])).1 (by rw[<-z];exact hb))];exact e) ht,fun b o e=>by rw[a0j (fun z=>by rw[z,w.fv]at e;cases e)];exact w.sm _ _ e,w.fx,w.fv,fun g hg=>w.ff g (by simp[hg]),hd.1,fun g hg=>w.nv g (by simp[hg]),⟨by have:=w.lim.1;rw[Za]at this;omega,w.lim.2⟩⟩,h1.fr (fun b hb o e=>by rw[a0j (fun z=>hf.1 (by rw[<-z];exact hb))];exact e) ht,⟨w.ff f (by simp),hf.2,hf.1,fun g hg b hb=>hd.2.2 g hg f (by simp) b hb⟩⟩
theorem b2b(fs:List Fp)(f:Fp):(fs++[f]).map (fun f=>V.ref f.l)=(fs.map fun f=>V.ref f.l)++[.ref f.l]:=by rw[Zq,Sa]
end
theorem b4a(T:Txt K mg t)(G_a7:FnOk P w K mg base CX0 2 t.a_a7 t.d_a7 ["self","text"] (a2z K t.k_a2 t.k_a1))(G_f9:FnOk P w K mg base (CXo P w) 5 t.a_f9 t.d_f9 ["piece"] (a9p K t.k_a0))(G_a4:FnOk P w K mg base CX0 1 t.a_a4 t.d_a4 ["self","ahead"] (a2o K t.k_a2 t.k_a1)):FnOk P w K mg base (CXo P w) 6 t.a_g3 t.d_g3 ["self"] (a3v K t.k_a2 t.k_a1 t.k_a0):=by
 refine T.F_g3.okX a8a (fun vs H Q E h=>?_) (fun cdv A outer s H vs Q E hr h=>?_)
 ·unfold a3v at h
  split at h
  ·rfl
  ·exact h.elim
 unfold a3v at h
 split at h
 rotate_left
 ·exact h.elim
 refine⟨_,(a0e (a0q (i:=1) a8a.nd rfl (by walk_at "or1") (a1d (a0r (a0k K rfl) (a1d (mv 0) rfl) (a6b a4v a0d) (fun _ _=>rfl)) rfl)) (a0g (a0v (a1w K rfl (a3b (mv 0) T.cl_a2 T.me_a7 G_a7 (hr.mono (by walk_at "r")) T.b_a7 .nil a0p (a0a a0i a0b))) (a0e (a1a (a3t K rfl Zu Z6 Z8 a2j (mv 1) (a0a (a7v (v:=.ref t.c_c6) rfl T.m_c6 rfl) a0b))) (a0g (a9u (mv 0) a0d a7n))) (a0e (a1a (a3t K rfl Zu Z6 Z8 a2j (mv 1) (a0a (a0l G_f9 (hr.mono (by walk_at "r")) rfl T.m_f9 T.F_f9.kp T.b_f9 .nil a4w (a0a (a3b (mv 0) T.cl_a2 T.me_a4 G_a4 (hr.mono (by walk_at "r")) T.b_a4 .nil a0p (a0a a0d a0b)) a0b)) a0b))) (a0g (a9u (mv 0) a0d a7n)))))),?_⟩
 rename_i x
 obtain⟨H0,pr,pd,pv,ps,tb,i,_,X,lv,st,rfl,hb,q⟩:=h
 obtain⟨fps,w⟩:=X.w
 rw[Yb]at w
 have hi:=X.hi
 have hps:=w.lim.2.1
 have ot:=X.sk.top
 have obd:=ot.bd
 obtain⟨dx,ho⟩:=w.ob
 obtain⟨fs,f,rfl,l0,l1⟩:=a2i.snoc w.al
 have hlvT:=w.lv
 rw[b2b]at hlvT
 obtain⟨dl,hol⟩:=l1.ob
 walk_at "s"
 refine⟨_,_,dx,_,_,rfl,ho,T.cl_a2,T.no_a2_levels,a5k _ _ _ _,?_⟩
 walk_at "s"
 refine a2e (SqL.of hlvT) (at_last' _ _) ?_
 walk_at "s"
 refine⟨_,_,dl,_,_,rfl,hol,T.cl_a1,T.no_a1_sides,a9d _ _ _,?_⟩
 walk_at "s"
 refine⟨x,dx,_,rfl,ho,a2u,?_⟩
 walk_at "s"
 refine⟨H0,pr,pd,pv,ps,tb,i,fs++[f],_,w,fun H1 s1=>?_⟩
 have w1:=w.same s1
 have l01:=l0.fr (fun _ _ b _ o e=>s1 _ _ e) (fun a zs q=>s1.tup q)
 have l11:=l1.same s1
 obtain⟨us,h1,h2⟩:=l11.sd
 have hul:=a5r h2
 walk_at "s"
 by_cases e:pcK ps i=sgK "["
 ·rw[show a5o ps i (ofString "[")=true from Zg e]
  rw[a0x]at e
  obtain⟨z,r,hz⟩:=a7g e
  obtain⟨n1,n2,n3⟩:=a4u hz
  have e':=hb e
  obtain⟨z2,r2,hz2⟩:=a7g e'
  obtain⟨m1,m2,m3⟩:=a4u hz2
  rw[hz]at e q
  have e:Pc.ks z=sgK "[":=e
  rw[thg,if_pos e]at q
  walk_at "D"
  refine⟨.inl ⟨rfl,_,SqL.of h1⟩,?_⟩
  walk_at "s"
  refine a1u h1 (ln1 (by omega)) ?_
  have d9:DenL K H1 (us++[.ref t.c_c6]) (Trm.dataL (lv.sides++[a2x])):=by
   rw[Trm.dataL_map,Zq,<-Trm.dataL_map]
   exact h2.append (.cons (b1c (T.q_c6 H1) (T.q_c6_2 H1) .nil) .nil)
  obtain⟨l2,g2⟩:=l11.setS d9
  have w2:=w1.top l01 l11 g2 l2
  walk_at "s"
  obtain⟨dxA,hoA⟩:=w2.ob
  refine⟨x,_,dxA,_,_,rfl,hoA,T.cl_a2,T.no_a2_at,b0t _ _ _ _,?_⟩
  walk_at "s"
  refine⟨dxA,_,hoA,by simp[fsR],?_⟩
  rw[show((i:Nat):Int)+2=((i+2:Nat):Int) by omega,a9z]
  exact q (i+2) _ (by rw[show i+2=i+1+1 from rfl,m1,<-n1,hz2];rfl) (X.set (w2.setAt (by omega)) (by omega) (by omega) (ot.thing (by omega)) id id)
 ·rw[show a5o ps i (ofString "[")=false from Zd e]
  refine iteF ?_
  obtain⟨dx1,ho1⟩:=w1.ob
  walk_at "s"
  refine⟨.inl ⟨rfl,_,SqL.of h1⟩,?_⟩
  walk_at "s"
  refine⟨x,dx1,_,rfl,ho1,a2u,?_⟩
  walk_at "s"
  refine⟨H0,pr,pd,pv,ps,tb,i,fs++[f],_,w1,0,rfl,by omega,fun a0 h0=>?_⟩
  rw[Wp,a0x]at h0
  rw[a0x]at e
  walk_at "s"
  cases hz:ps.drop i with
  |nil=>
   rw[hz]at h0 q
   rw[thg]at q
   exact .inr ⟨a0,rfl,h0,q.mono w1.sm⟩
  |cons z r=>
   obtain⟨n1,n2,n3⟩:=a4u hz
   rw[hz]at h0 q e
   have e:¬Pc.ks z=sgK "[":=e
   rw[thg,if_neg e]at q
   refine .inl ⟨z,a8l h0,(X.pk z n3).1,?_⟩
   cases ht:thgZ z with
   |none=>
    rw[ht]at q
    exact q.mono w1.sm
   |some t0=>
    rw[ht]at q
    intro v2 H2 s2 d2
    walk_at "s"
    have l12:=l11.same s2
    refine a1u (s2 _ _ h1) (ln1 (by omega)) ?_
    have d9:DenL K H2 (us++[v2]) (Trm.dataL (lv.sides++[t0])):=by
     rw[Trm.dataL_map,Zq,<-Trm.dataL_map]
     exact(h2.mono s2).append (.cons d2 .nil)
    obtain⟨l2,g2⟩:=l12.setS d9
    have w2:=(w1.same s2).top (l01.fr (fun _ _ b _ o e=>s2 _ _ e) (fun a zs q=>s2.tup q)) l12 g2 l2
    walk_at "s"
    obtain⟨dxA,hoA⟩:=w2.ob
    refine⟨x,_,dxA,_,_,rfl,hoA,T.cl_a2,T.no_a2_at,b0t _ _ _ _,?_⟩
    walk_at "s"
    refine⟨dxA,_,hoA,by simp[fsR],?_⟩
    rw[show((i:Nat):Int)+1=((i+1:Nat):Int) by omega,a9z]
    exact q (i+1) _ n1 (X.set (w2.setAt (by omega)) (by omega) (by omega) (ot.thing (by omega)) id id)
theorem cl_val(t:Ad){k:Str}(h:b6j k):valV (b0n t) (Sum.inr k)=some (.str (clS k)):=by
 rcases h with rfl|rfl|rfl|rfl|rfl<;>kernel_rfl
theorem b2f(T:Txt K mg t)(D:KD P w K t.c_h0 (b0n t))(G_a7:FnOk P w K mg base CX0 2 t.a_a7 t.d_a7 ["self","text"] (a2z K t.k_a2 t.k_a1))(G_a8:FnOk P w K mg base CX0 3 t.a_a8 t.d_a8 ["level"] (a8d K t.k_a1))(G_e5:FnOk P w K mg base (CXo P w) 3 t.a_e5 t.d_e5 ["level"] (b2s K t.k_a1 t.k_a0)):FnOk P w K mg base (CXo P w) 4 t.a_g2 t.d_g2 ["self"] (a3g K t.k_a2 t.k_a1 t.k_a0):=by
 refine T.F_g2.okX a7l (fun vs H Q E h=>?_) (fun cdv A outer s H vs Q E hr h=>?_)
 ·unfold a3g at h
  split at h
  ·rfl
  ·exact h.elim
 unfold a3g at h
 split at h
 rotate_left
 ·exact h.elim
 refine⟨_,(a0g (a3x Wo (a1w K rfl (a3b (mv 0) T.cl_a2 T.me_a7 G_a7 (hr.mono (by walk_at "r")) T.b_a7 .nil a0p (a0a (pe_getK D rfl T.m_h0 (a1d (a0r (a0k K rfl) (a1d (mv 0) rfl) (a6b a4v a0d) (fun _ _=>rfl)) rfl) (fun _ _=>rfl)) a0b))) (a0e (a0q (i:=1) (hs:=a1p) a7l.nd rfl (by walk_at "or1") (a9w K rfl Zu Xi X6 b1n (a1d (mv 0) rfl))) (a0e (a1a (a0l G_a8 (hr.mono (by walk_at "r")) rfl T.m_a8 T.F_a8.kp T.b_a8 .nil a0p (a0a (mv 1) a0b))) (a0e (a1a (a3t K rfl Zu Z6 Z8 a2j (a1d (a0r (a0k K rfl) (a1d (mv 0) rfl) (a6b a4v a0d) (fun _ _=>rfl)) rfl) (a0a (a0l G_e5 (hr.mono (by walk_at "r")) rfl T.m_e5 T.F_e5.kp T.b_e5 .nil a4w (a0a (mv 1) a0b)) a0b))) (a0g (a9u (mv 0) a0d a7n))))))),?_⟩
 rename_i x
 obtain⟨H0,pr,pd,pv,ps,tb,i0,_,X0,lv0,st0,rfl,q⟩:=h
 generalize eo:cls (ps.drop i0) lv0 st0=oo at q
 walk_at "s"
 refine a3c (fun k σ' H'=>∃(i:Nat)(lv:Lv)(st:List Lv)(o1:Option V),σ'=[some (.ref x),o1]/\RX K t.k_a2 t.k_a1 H0 H' x pr pd pv ps tb i 1 (lv::st)/\cls (ps.drop i) lv st=oo/\k=(ps.drop i).length) (ps.drop i0).length ⟨i0,lv0,st0,_,rfl,X0,eo,rfl⟩ (fun k σ' H' R hP kT kF=>?_)
 obtain⟨i,lv,st,o1,rfl,X,eo',rfl⟩:=hP
 obtain⟨fps,w⟩:=X.w
 rw[Yb]at w
 have hi:=X.hi
 have hps:=w.lim.2.1
 have ot:=X.sk.top
 obtain⟨dx,ho⟩:=w.ob
 walk_at "s"
 refine⟨x,dx,_,rfl,ho,a2u,?_⟩
 walk_at "s"
 refine⟨_,_,dx,_,_,rfl,ho,T.cl_a2,T.no_a2_levels,a5k _ _ _ _,?_⟩
 walk_at "s"
 obtain⟨fs,f,rfl,l0,l1⟩:=a2i.snoc w.al
 have hlvT:=w.lv
 rw[b2b]at hlvT
 obtain⟨dl,hol⟩:=l1.ob
 refine a2e (SqL.of hlvT) (at_last' _ _) ?_
 walk_at "s"
 refine⟨_,_,dl,_,_,rfl,hol,T.cl_a1,T.no_a1_kind,a9c _ _ _,?_⟩
 walk_at "s"
 refine⟨Sum.inr lv.kind,_,rfl,cl_val t ot.kd,?_⟩
 walk_at "s"
 refine⟨H0,pr,pd,pv,ps,tb,_,fs++[f],_,w,fun H1 s1=>?_⟩
 by_cases e:pcK ps i=[Sum.inr (ofString "sign"),Sum.inr (clS lv.kind)]
 rotate_left
 ·rw[show a5o ps i (clS lv.kind)=false from Zd e]
  rw[a0x]at e
  rw[b4w e]at eo'
  subst eo'
  walk_at "s"
  refine kF H1 ?_
  walk_at "s"
  exact q i H1 rfl (X.same s1)
 rw[show a5o ps i (clS lv.kind)=true from Zg e]
 rw[a0x]at e
 obtain⟨z,r,hz⟩:=a7g e
 obtain⟨n1,n2,n3⟩:=a4u hz
 have hX:=X.sk
 cases hX with
 |one a k0=>
  rw[hz,k0]at e
  exact absurd e (no_nil (X.pk z n3).1)
 | @cons _ _ lu st' a k0 sk0=>
  rw[hz]at e eo'
  rw[b4x e]at eo'
  rw[Yb]at w l0
  walk_at "s"
  refine kT H1 (fun D' e1' e2' hnx hct=>?_)
  have w1:=w.same s1
  have l01:=l0.fr (fun _ _ b _ o e=>s1 _ _ e) (fun a zs q=>s1.tup q)
  have l11:=l1.same s1
  obtain⟨dx1,ho1⟩:=w1.ob
  have hlv1:=w1.lv
  rw[b2b]at hlv1
  walk_at "s"
  refine⟨x,_,dx1,_,_,rfl,ho1,T.cl_a2,T.no_a2_levels,a5k _ _ _ _,?_⟩
  walk_at "s"
  refine⟨.inl ⟨rfl,_,SqL.of hlv1⟩,?_⟩
  refine b1p hlv1 ?_
  obtain⟨w2,l12,off⟩:=w1.pop l01 l11
  generalize upd H1 pv (.lst (fs.map fun f=>V.ref f.l))=H2 at w2 l12 ⊢
  have obd:=ot.bd
  have oln:=ot.ln
  obtain⟨y,hy⟩:=b3x (w:=lv.wait.reverse) (s:=lv.sides.reverse) (by rw[Z7,Z7];exact oln)
  rw[b3y hy]at eo'
  walk_at "s"
  refine⟨f,lv,rfl,l12,oln,by omega,by omega,fun y' H3 ey g3 l13=>?_⟩
  rw[hy]at ey
  cases ey
  have w3:=w2.away off l12 g3
  obtain⟨dx3,ho3⟩:=w3.ob
  obtain⟨gs,k0,rfl,m0,m1⟩:=a2i.snoc w3.al
  have hlv3:=w3.lv
  rw[b2b]at hlv3
  obtain⟨dk,hok⟩:=m1.ob
  walk_at "s"
  refine⟨x,_,dx3,_,_,rfl,ho3,T.cl_a2,T.no_a2_levels,a5k _ _ _ _,?_⟩
  walk_at "s"
  refine a2e (SqL.of hlv3) (at_last' _ _) ?_
  walk_at "s"
  refine⟨_,_,dk,_,_,rfl,hok,T.cl_a1,T.no_a1_sides,a9d _ _ _,?_⟩
  obtain⟨us,h1,h2⟩:=m1.sd
  have hul:=a5r h2
  have ubd:=sk0.top.bd
  refine⟨.inl ⟨rfl,_,SqL.of h1⟩,?_⟩
  walk_at "s"
  refine⟨f,_,rfl,l13,by simp,by simp;omega,?_⟩
  cases hc:clo { lv with done:=lv.done++[y],sides:=[],wait:=[]}with
  |none=>
   rw[hc]at eo'
   subst eo'
   exact q.mono w3.sm
  |some t0=>
   rw[hc]at eo'
   intro v4 H4 s4 d4
   walk_at "s"
   refine a1u (s4 _ _ h1) (ln1 (by omega)) ?_
   have m14:=m1.same s4
   have d9:DenL K H4 (us++[v4]) (Trm.dataL (lu.sides++[t0])):=by
    rw[Trm.dataL_map,Zq,<-Trm.dataL_map]
    exact(h2.mono s4).append (.cons d4 .nil)
   obtain⟨m5,g5⟩:=m14.setS d9
   have w5:=(w3.same s4).top (m0.fr (fun _ _ b _ o e=>s4 _ _ e) (fun a zs q=>s4.tup q)) m14 g5 m5
   walk_at "s"
   obtain⟨dxA,hoA⟩:=w5.ob
   refine⟨x,_,dxA,_,_,rfl,hoA,T.cl_a2,T.no_a2_at,b0t _ _ _ _,?_⟩
   walk_at "s"
   refine⟨dxA,_,hoA,by simp[fsR],?_⟩
   rw[show((i:Nat):Int)+1=((i+1:Nat):Int) by omega,a9z]
   have w6:=w5.setAt (dx:=dxA) (j:=i+1) (by omega)
   exact hnx _ _ (ps.drop (i+1)).length (by rw[hz,n1];simp) ⟨i+1,_,st',_,rfl,⟨⟨_,by rw[Yb];exact w6⟩,sk0.set (by omega) (sk0.top.thing (by omega)) id id,by omega,by have:=X.hl;simp only[length_cons]at this ⊢;omega,X.pk⟩,by rw[n1];exact eo',rfl⟩
end
section
variable{P:Program}{w:World}{K:W.Frag}{mg:Str->Option Value}{base:Heap}{t:Ad}
theorem b5j(T:Txt K mg t)(G_a4:FnOk P w K mg base CX0 1 t.a_a4 t.d_a4 ["self","ahead"] (a2o K t.k_a2 t.k_a1))(G_a3:FnOk P w K mg base CX0 1 t.a_a3 t.d_a3 ["self","words","row"] (a1b K)):FnOk P w K mg base (CXo P w) 3 t.a_g7 t.d_g7 ["self"] (a4r K t.k_a2 t.k_a1 t.k_a0):=by
 refine T.F_g7.okX b5i (fun vs H Q E h=>?_) (fun cdv A outer s H vs Q E hr h=>?_)
 ·unfold a4r at h
  split at h
  ·rfl
  ·exact h.elim
 unfold a4r at h
 split at h
 rotate_left
 ·exact h.elim
 refine⟨_,(a0g (a0v (a0s (c7l K rfl (a7y hr)) (a3b (mv 0) T.cl_a2 T.me_a4 G_a4 (hr.mono (by walk_at "r")) T.b_a4 .nil a0p (a0a a0d a0b)) (a7v (v:=.ref t.c_h1) rfl T.m_h1 rfl) (a0t _)) (a0g (a4n rfl a5g (a4m T.mk_a0 G_a3 (hr.mono (by walk_at "r")) rfl T.m_a0 T.bd_a3 (show Vals [V.int 0] [Value.int 0 t.w_a3_0]from(.cons ⟨_,rfl⟩ .nil)) a0p (a0a a0i a0b)))) a0u)),?_⟩
 rename_i x
 obtain⟨H0,pr,pd,pv,ps,tb,i,fps,lvs,w,q1,q2⟩:=h
 obtain⟨dx,ho⟩:=w.ob
 walk_at "s"
 refine⟨x,dx,_,rfl,ho,a2u,?_⟩
 walk_at "s"
 refine⟨H0,pr,pd,pv,ps,tb,i,fps,lvs,w,0,rfl,by omega,fun a0 h0=>?_⟩
 rw[Wp]at h0
 walk_at "s"
 refine⟨a0,pcK ps i,rfl,h0,.inr ⟨_,endK,rfl,T.q_h1 H,?_⟩⟩
 by_cases he:pcK ps i=endK
 ·rw[Zg he]
  walk_at "A"
  exact q1 he
 ·rw[Zd he]
  walk_at "B"
  refine⟨by simp,fun ea hea=>?_⟩
  refine⟨t.k_a0,_,true,T.x_a0,T.u_a0,T.at_a0,T.no_a0_row,a0c,fun H9 b9=>⟨rfl,?_⟩⟩
  obtain⟨dx9,h91,h92,h93⟩:=a2l hea (Same.refl _) hea b9
  refine⟨ea,t.k_a0,dx9,_,rfl,T.x_a0,h91,?_⟩
  exact q2 he ea _ h93 h92
theorem d5a{K:W.Frag}{H:Hp}{p:Addr}{k:Str}{Q:VK}(h:SqT K H p [.str (ofString "kids"),.str (ofString "list")])(hk:k=ofString "kids"\/k=ofString "list")(q:Q (.bl true) H):rIn K false (.str k) (.ref p) H Q:=by
 refine⟨p,_,rfl,.inr h,rfl,rfl,?_⟩
 have e:inV (.str k) [.str (ofString "kids"),.str (ofString "list")]=true:=by rcases hk with rfl|rfl<;>decide+kernel
 rw[if_neg (by decide),e]
 exact q
theorem d2j{K:W.Frag}{H:Hp}{p:Addr}{k:Str}{Q:VK}(h:SqT K H p [.str (ofString "kids"),.str (ofString "list")])(hk:k=ofString "whole"\/k=ofString "round"\/k=ofString "rest")(q:Q (.bl false) H):rIn K false (.str k) (.ref p) H Q:=by
 refine⟨p,_,rfl,.inr h,rfl,rfl,?_⟩
 have e:inV (.str k) [.str (ofString "kids"),.str (ofString "list")]=false:=by rcases hk with rfl|rfl|rfl<;>decide+kernel
 rw[if_neg (by decide),e]
 exact q
theorem no_kd{k:Str}(h:b6j k)(n:¬(k=ofString "kids"\/k=ofString "list")):k=ofString "whole"\/k=ofString "round"\/k=ofString "rest":=by
 rcases h with h|h|h|h|h
 ·exact .inl h
 ·exact .inr (.inl h)
 ·exact absurd (.inl h) n
 ·exact absurd (.inr h) n
 ·exact .inr (.inr h)
theorem b2g(T:Txt K mg t)(G_a4:FnOk P w K mg base CX0 1 t.a_a4 t.d_a4 ["self","ahead"] (a2o K t.k_a2 t.k_a1))(G_f4:FnOk P w K mg base (CXo P w) 4 t.a_f4 t.d_f4 ["level","mark","signs"] (a9q K t.k_a1 t.k_a0))(G_a7:FnOk P w K mg base CX0 2 t.a_a7 t.d_a7 ["self","text"] (a2z K t.k_a2 t.k_a1))(G_a8:FnOk P w K mg base CX0 3 t.a_a8 t.d_a8 ["level"] (a8d K t.k_a1)):FnOk P w K mg base (CXo P w) 5 t.a_g4 t.d_g4 ["self"] (a3h K t.k_a2 t.k_a1 t.k_a0):=by
 refine T.F_g4.okX a4s (fun vs H Q E h=>?_) (fun cdv A outer s H vs Q E hr h=>?_)
 ·unfold a3h at h
  split at h
  ·rfl
  ·exact h.elim
 unfold a3h at h
 split at h
 rotate_left
 ·exact h.elim
 refine⟨_,(a0e (a0q (i:=1) (hs:=a7o) a4s.nd rfl (by walk_at "or1") (a0r (a0k K rfl) (a1d (mv 0) rfl) (a6b a4v a0d) (fun _ _=>rfl))) (a0e (a0q (i:=2) (hs:=a1p) a4s.nd rfl (by walk_at "or1") (a3b (mv 0) T.cl_a2 T.me_a4 G_a4 (hr.mono (by walk_at "r")) T.b_a4 .nil a0p (a0a a0d a0b))) (a0e (a0v (a0s a1e (a0r (a0k K rfl) (mv 2) a0d (fun _ _=>rfl)) a0i (a0t _)) (a0g (a1a (a0l G_f4 (hr.mono (by walk_at "r")) rfl T.m_f4 T.F_f4.kp T.b_f4 .nil a4w (a0a (mv 1) (a0a (a0r (a0k K rfl) (mv 2) a0d (fun _ _=>rfl)) (a0a (a1d (mv 0) rfl) a0b)))))) (a0g (a0v (PW.pt (a5d (a1w K rfl (a3b (mv 0) T.cl_a2 T.me_a7 G_a7 (hr.mono (by walk_at "r")) T.b_a7 .nil a0p (a0a a0i a0b))) (a4f (a0s (ko_inV K rfl) (a1d (mv 1) rfl) (a1g (a0a a0i (a0a a0i a0b))) (by with_unfolding_all rfl))))) (a0g (a1a (a0l G_a8 (hr.mono (by walk_at "r")) rfl T.m_a8 T.F_a8.kp T.b_a8 .nil a0p (a0a (mv 1) a0b)))) (a0g (a0v (PW.pt (a5d (a1w K rfl (a3b (mv 0) T.cl_a2 T.me_a7 G_a7 (hr.mono (by walk_at "r")) T.b_a7 .nil a0p (a0a a0i a0b))) (a4f (a0s a1e (a1d (mv 1) rfl) a0i (a0t _))))) (a0e (a1a (a0l G_a8 (hr.mono (by walk_at "r")) rfl T.m_a8 T.F_a8.kp T.b_a8 .nil a0p (a0a (mv 1) a0b))) (a0g (a6g (mv 1) a0i rfl))) (a0g (a0m b2h))))))) (a0e (a9u (mv 0) a0d a7n) (a0g (a0m b2h)))))),?_⟩
 rename_i x
 obtain⟨H0,pr,pd,pv,ps,tb,i,_,X,lv,st,rfl,q⟩:=h
 obtain⟨fps,w⟩:=X.w
 rw[Yb]at w
 have hi:=X.hi
 have hps:=w.lim.2.1
 have ot:=X.sk.top
 have obd:=ot.bd
 have oln:=ot.ln
 obtain⟨yy,hy1⟩:=b3x (w:=lv.wait.reverse) (s:=lv.sides.reverse) (by rw[Z7,Z7];exact oln)
 obtain⟨dx,ho⟩:=w.ob
 obtain⟨fs,f,rfl,l0,l1⟩:=a2i.snoc w.al
 have hlvT:=w.lv
 rw[b2b]at hlvT
 walk_at "s"
 refine⟨_,_,dx,_,_,rfl,ho,T.cl_a2,T.no_a2_levels,a5k _ _ _ _,?_⟩
 walk_at "s"
 refine a2e (SqL.of hlvT) (at_last' _ _) ?_
 walk_at "s"
 refine⟨x,dx,_,rfl,ho,a2u,?_⟩
 walk_at "s"
 refine⟨H0,pr,pd,pv,ps,tb,i,fs++[f],_,w,0,rfl,by omega,fun a0 h0=>?_⟩
 rw[Wp]at h0
 walk_at "s"
 obtain⟨ka,kb,hk⟩:=c1d ps i
 rw[hk]at h0
 refine a0w h0 (v:=.str ka) rfl ?_
 walk_at "s"
 refine iteB (fun y=>?_) (fun y=>?_)
 ·have hy:ka=ofString "mark":=by rw[Zm]at y;exact Ze y
  rw[hy]at hk
  obtain⟨z,r,hz,kz⟩:=c2j hk
  obtain⟨n1,n2,n3⟩:=a4u hz
  have ekb:⟨z.toArray⟩=kb:=by rw[a0x,hz]at hk;simp only[hK,Pc.ks,Yd,Yw]at hk;exact hk.2.1
  subst ekb
  walk_at "s"
  refine a0w h0 (v:=.str ⟨z.toArray⟩) rfl ?_
  walk_at "s"
  refine⟨_,_,dx,_,_,rfl,ho,T.cl_a2,T.no_a2_signs,d4z _ _ _ _,?_⟩
  walk_at "s"
  obtain⟨kvs,hs1,hs2⟩:=w.sg
  obtain⟨g0,hg⟩:∃g,lkT tb ⟨z.toArray⟩=some g:=Yu.mp ((X.pk z n3).2 kz)
  rw[hz,btw,if_pos kz,hg]at q
  refine⟨f,lv,kvs,tb,g0,rfl,l1,w.sm _ _ hs1,hs2.monoT (fun a zs q=>w.sm.tup q),hg,ot.wt,oln,by omega,?_⟩
  cases ha:addM tb ⟨z.toArray⟩ g0 lv.sides.reverse lv.wait.reverse with
  |none=>
   simp only[ha,Option.map_none]at q
   exact fun ea H2 g2 hx=>q ea H2 (fun b o e=>g2 _ _ (fun y=>by rw[w.ff f (by simp) b y]at e;cases e) (w.sm _ _ e)) hx
  |some rr=>
   simp only[ha,Xh]at q
   obtain⟨a1,a2,a3⟩:=c7s ((X.pk z n3).2 kz) ha (by rw[Z7,Z7];exact oln) (fun y hy=>ot.wt y (Vl.mp hy))
   rw[Z7]at a2
   intro H2 g2 l2
   have w2:=w.top l0 l1 g2 l2
   walk_at "s"
   obtain⟨dxA,hoA⟩:=w2.ob
   refine⟨x,_,dxA,_,_,rfl,hoA,T.cl_a2,T.no_a2_at,b0t _ _ _ _,?_⟩
   walk_at "s"
   refine⟨dxA,_,hoA,by simp[fsR],?_⟩
   rw[show((i:Nat):Int)+1=((i+1:Nat):Int) by omega,a9z]
   walk_at "s"
   exact q _ n1 (X.set (w2.setAt (by omega)) (by omega) (by omega) ⟨ot.kd,by simp;exact a1,by simp;omega,fun y hy=>a3 y (Vl.mp hy)⟩ id id)
 have hy:ka≠ofString "mark":=by rw[Zm]at y;exact Zl y
 have hnm:∀z r,ps.drop i=z::r->kindOf z≠ofString "mark":=fun z r hz y=>hy (by rw[a0x,hz]at hk;simp only[hK,Pc.ks,Yd,Yw]at hk;rw[<-hk.1];exact y)
 walk_at "s"
 refine⟨x,dx,_,rfl,ho,a2u,?_⟩
 walk_at "s"
 refine⟨H0,pr,pd,pv,ps,tb,i,fs++[f],_,w,fun H1 s1=>?_⟩
 have w1:=w.same s1
 have l0:=l0.fr (fun _ _ b _ o e=>s1 _ _ e) (fun a zs q=>s1.tup q)
 have l1:=l1.same s1
 obtain⟨dx1,ho1⟩:=w1.ob
 by_cases c1:pcK ps i=sgK ","
 rotate_left
 ·rw[show a5o ps i (ofString ",")=false from Zd c1]
  walk_at "s"
  refine iteF ?_
  walk_at "C"
  obtain⟨dxT,hoT⟩:=w1.ob
  refine⟨x,dxT,_,rfl,hoT,a2u,?_⟩
  walk_at "s"
  refine⟨H0,pr,pd,pv,ps,tb,i,fs++[f],_,w1,fun H6 s6=>?_⟩
  have w6:=w1.same s6
  have m0:=l0.fr (fun _ _ b _ o e=>s6 _ _ e) (fun a zs q=>s6.tup q)
  have m1:=l1.same s6
  by_cases c2:pcK ps i=sgK "|"
  rotate_left
  ·rw[show a5o ps i (ofString "|")=false from Zd c2]
   rw[b6k hnm (fun e=>c1 (by rw[a0x];exact e.1)) (fun e=>c2 (by rw[a0x];exact e.1))]at q
   walk_at "s"
   refine iteF ?_
   walk_at "C"
   exact q _ ((X.same s1).same s6)
  obtain⟨dl6,hol6⟩:=m1.ob
  rw[show a5o ps i (ofString "|")=true from Zg c2]
  walk_at "B"
  refine⟨_,_,dl6,_,_,rfl,hol6,T.cl_a1,T.no_a1_kind,a9c _ _ _,?_⟩
  walk_at "s"
  rw[Zm]
  by_cases k2:lv.kind=ofString "list"
  rotate_left
  ·rw[Zd k2]
   rw[b6k hnm (fun e=>c1 (by rw[a0x];exact e.1)) (fun e=>k2 e.2)]at q
   walk_at "A"
   exact q _ ((X.same s1).same s6)
  rw[Zg k2]
  walk_at "B"
  have c3:=c2
  rw[a0x]at c3
  obtain⟨z,r,hz⟩:=a7g c3
  obtain⟨n1,n2,n3⟩:=a4u hz
  rw[hz]at c3 q
  rw[c1f c3 k2,b3y hy1]at q
  refine⟨f,lv,rfl,m1,oln,by omega,by omega,fun y' H3 ey g3 l3=>?_⟩
  rw[hy1]at ey
  cases ey
  have w3:=w6.top m0 m1 g3 l3
  obtain⟨dl3,hol3⟩:=l3.ob
  walk_at "s"
  refine⟨f.l,_,dl3,_,rfl,hol3,T.cl_a1,T.no_a1_kind,by simp[fsL],?_⟩
  rw[c5i]
  obtain⟨l5,g5⟩:=l3.setK (k:=ofString "rest") hol3
  obtain⟨fs0,f0,e0,l0',l1'⟩:=a2i.snoc w3.al
  obtain⟨rfl,rfl⟩:fs=fs0/\f=f0:=by
   have:=List.append_inj e0 (by have:=Z9 List.length e0;simp at this;exact this)
   simpa using this
  have w5:=w3.top l0' l3 g5 l5
  walk_at "s"
  obtain⟨dxA,hoA⟩:=w5.ob
  refine⟨x,_,dxA,_,_,rfl,hoA,T.cl_a2,T.no_a2_at,b0t _ _ _ _,?_⟩
  walk_at "s"
  refine⟨dxA,_,hoA,by simp[fsR],?_⟩
  rw[show((i:Nat):Int)+1=((i+1:Nat):Int) by omega,a9z]
  walk_at "s"
  exact q _ n1 (X.set (w5.setAt (by omega)) (by omega) (by omega) ⟨.inr (.inr (.inr (.inr rfl))),rfl,by simp;omega,fun _ z=>by cases z⟩ (fun y=>absurd (k2.symm.trans y) (by decide+kernel)) (fun y=>absurd (show ofString "rest"=ofString "whole" from y) (by decide+kernel)))
 rw[show a5o ps i (ofString ",")=true from Zg c1]
 obtain⟨dl,hol⟩:=l1.ob
 walk_at "B"
 refine⟨_,_,dl,_,_,rfl,hol,T.cl_a1,T.no_a1_kind,a9c _ _ _,?_⟩
 walk_at "s"
 refine⟨ln (by show 2<=100000;decide),fun p4 hp4=>?_⟩
 have s4:=a0f hp4 (.tup [.str (ofString "kids"),.str (ofString "list")])
 walk_at "s"
 have w4:=w1.same s4
 have l0:=l0.fr (fun _ _ b _ o e=>s4 _ _ e) (fun a zs q=>s4.tup q)
 have l1:=l1.same s4
 by_cases k1:lv.kind=ofString "kids"\/lv.kind=ofString "list"
 ·refine d5a (SqT.of a0c) k1 ?_
  generalize upd H1 p4 (.tup [.str (ofString "kids"),.str (ofString "list")])=H4 at w4 l0 l1 ⊢
  rw[a0x]at c1
  obtain⟨z,r,hz⟩:=a7g c1
  obtain⟨n1,n2,n3⟩:=a4u hz
  rw[hz]at c1 q
  rw[c2k c1 k1]at q
  walk_at "B"
  refine⟨f,lv,rfl,l1,oln,by omega,by omega,fun y' H3 ey g3 l3=>?_⟩
  rw[hy1]at ey
  cases ey
  have w3:=w4.top l0 l1 g3 l3
  rw[<-b3y hy1]at w3
  walk_at "s"
  obtain⟨dxA,hoA⟩:=w3.ob
  refine⟨x,_,dxA,_,_,rfl,hoA,T.cl_a2,T.no_a2_at,b0t _ _ _ _,?_⟩
  walk_at "s"
  refine⟨dxA,_,hoA,by simp[fsR],?_⟩
  rw[show((i:Nat):Int)+1=((i+1:Nat):Int) by omega,a9z]
  walk_at "s"
  exact q _ n1 (X.set (w3.setAt (by omega)) (by omega) (by omega) ((fin_ok ot).mono (by omega)) id id)
 ·refine d2j (SqT.of a0c) (no_kd ot.kd k1) ?_
  have X4:=(X.same s1).same s4
  generalize upd H1 p4 (.tup [.str (ofString "kids"),.str (ofString "list")])=H4 at w4 l0 l1 X4 ⊢
  walk_at "A"
  obtain⟨dxT,hoT⟩:=w4.ob
  refine⟨x,dxT,_,rfl,hoT,a2u,?_⟩
  walk_at "s"
  refine⟨H0,pr,pd,pv,ps,tb,i,fs++[f],_,w4,fun H6 s6=>?_⟩
  have w6:=w4.same s6
  have m0:=l0.fr (fun _ _ b _ o e=>s6 _ _ e) (fun a zs q=>s6.tup q)
  have m1:=l1.same s6
  by_cases c2:pcK ps i=sgK "|"
  rotate_left
  ·rw[show a5o ps i (ofString "|")=false from Zd c2]
   rw[b6k hnm (fun e=>k1 e.2) (fun e=>c2 (by rw[a0x];exact e.1))]at q
   walk_at "s"
   refine iteF ?_
   walk_at "C"
   exact q _ (X4.same s6)
  obtain⟨dl6,hol6⟩:=m1.ob
  rw[show a5o ps i (ofString "|")=true from Zg c2]
  walk_at "B"
  refine⟨_,_,dl6,_,_,rfl,hol6,T.cl_a1,T.no_a1_kind,a9c _ _ _,?_⟩
  walk_at "s"
  rw[Zm]
  by_cases k2:lv.kind=ofString "list"
  rotate_left
  ·rw[Zd k2]
   rw[b6k hnm (fun e=>k1 e.2) (fun e=>k2 e.2)]at q
   walk_at "A"
   exact q _ (X4.same s6)
  rw[Zg k2]
  walk_at "B"
  have c3:=c2
  rw[a0x]at c3
  obtain⟨z,r,hz⟩:=a7g c3
  obtain⟨n1,n2,n3⟩:=a4u hz
  rw[hz]at c3 q
  rw[c1f c3 k2,b3y hy1]at q
  refine⟨f,lv,rfl,m1,oln,by omega,by omega,fun y' H3 ey g3 l3=>?_⟩
  rw[hy1]at ey
  cases ey
  have w3:=w6.top m0 m1 g3 l3
  obtain⟨dl3,hol3⟩:=l3.ob
  walk_at "s"
  refine⟨f.l,_,dl3,_,rfl,hol3,T.cl_a1,T.no_a1_kind,by simp[fsL],?_⟩
  rw[c5i]
  obtain⟨l5,g5⟩:=l3.setK (k:=ofString "rest") hol3
  obtain⟨fs0,f0,e0,l0',l1'⟩:=a2i.snoc w3.al
  obtain⟨rfl,rfl⟩:fs=fs0/\f=f0:=by
   have:=List.append_inj e0 (by have:=Z9 List.length e0;simp at this;exact this)
   simpa using this
  have w5:=w3.top l0' l3 g5 l5
  walk_at "s"
  obtain⟨dxA,hoA⟩:=w5.ob
  refine⟨x,_,dxA,_,_,rfl,hoA,T.cl_a2,T.no_a2_at,b0t _ _ _ _,?_⟩
  walk_at "s"
  refine⟨dxA,_,hoA,by simp[fsR],?_⟩
  rw[show((i:Nat):Int)+1=((i+1:Nat):Int) by omega,a9z]
  walk_at "s"
  exact q _ n1 (X.set (w5.setAt (by omega)) (by omega) (by omega) ⟨.inr (.inr (.inr (.inr rfl))),rfl,by simp;omega,fun _ z=>by cases z⟩ (fun y=>absurd (k2.symm.trans y) (by decide+kernel)) (fun y=>absurd (show ofString "rest"=ofString "whole" from y) (by decide+kernel)))
theorem c0a(T:Txt K mg t)  :FnOk P w K mg base CX0 1 t.a_g8 t.d_g8 ["self","row","signs"] (a6e K t.k_a2):=by
 refine T.F_g8.ok b9n (fun vs H Q E h=>?_) (fun cdv A outer s H vs Q E hr h=>?_)
 ·unfold a6e at h
  split at h
  ·rfl
  ·exact h.elim
 unfold a6e at h
 split at h
 rotate_left
 ·exact h.elim
 refine⟨_,(a0e (a6g (mv 0) (mv 1) rfl) (a0e (a6g (mv 0) (mv 2) rfl) (a0e (a6g (mv 0) a0d rfl) (a0g (a6g (mv 0) (a1j a0b) rfl))))),?_⟩
 rename_i x pr pd
 obtain⟨dx,hx,q⟩:=h
 walk_at "s"
 refine⟨x,_,dx,_,rfl,hx,T.cl_a2,T.no_a2_row,by simp,?_⟩
 have e0:putF (ofString "row") (.ref pr) []=[(rowN,V.ref pr)]:=by rfl
 rw[e0]
 have b0:But x H (upd H x (.ins t.k_a2 dx [(rowN,V.ref pr)])):=a7a _
 have c0:(upd H x (.ins t.k_a2 dx [(rowN,V.ref pr)])) x=some (.ins t.k_a2 dx [(rowN,V.ref pr)]):=a0c
 generalize upd H x (.ins t.k_a2 dx [(rowN,V.ref pr)])=J0 at b0 c0 ⊢
 walk_at "s"
 refine⟨x,_,dx,_,rfl,c0,T.cl_a2,T.no_a2_signs,by simp,?_⟩
 have e1:putF (ofString "signs") (.ref pd) [(rowN,V.ref pr)]=[(rowN,V.ref pr),(a1x,V.ref pd)]:=by simp only[putF,show ¬rowN=ofString "signs" by decide+kernel,Xu]
 rw[e1]
 have b1:But x J0 (upd J0 x (.ins t.k_a2 dx [(rowN,V.ref pr),(a1x,V.ref pd)])):=a7a _
 have c1:(upd J0 x (.ins t.k_a2 dx [(rowN,V.ref pr),(a1x,V.ref pd)])) x=some (.ins t.k_a2 dx [(rowN,V.ref pr),(a1x,V.ref pd)]):=a0c
 generalize upd J0 x (.ins t.k_a2 dx [(rowN,V.ref pr),(a1x,V.ref pd)])=J1 at b1 c1 ⊢
 walk_at "s"
 refine⟨x,_,dx,_,rfl,c1,T.cl_a2,T.no_a2_at,by simp,?_⟩
 have e2:putF (ofString "at") (.int 0) [(rowN,V.ref pr),(a1x,V.ref pd)]=[(rowN,V.ref pr),(a1x,V.ref pd),(atN,V.int 0)]:=by simp only[putF,show ¬rowN=ofString "at" by decide+kernel,show ¬a1x=ofString "at" by decide+kernel,Xu]
 rw[e2]
 have b2:But x J1 (upd J1 x (.ins t.k_a2 dx [(rowN,V.ref pr),(a1x,V.ref pd),(atN,V.int 0)])):=a7a _
 have c2:(upd J1 x (.ins t.k_a2 dx [(rowN,V.ref pr),(a1x,V.ref pd),(atN,V.int 0)])) x=some (.ins t.k_a2 dx [(rowN,V.ref pr),(a1x,V.ref pd),(atN,V.int 0)]):=a0c
 generalize upd J1 x (.ins t.k_a2 dx [(rowN,V.ref pr),(a1x,V.ref pd),(atN,V.int 0)])=J2 at b2 c2 ⊢
 walk_at "s"
 refine⟨ln (by show 0<=100000;decide),fun pv hpv=>?_⟩
 have spv:=a0f hpv (.lst [])
 generalize upd J2 pv (.lst [])=L at spv ⊢
 have oL:=spv _ _ c2
 walk_at "s"
 refine⟨x,_,dx,_,rfl,oL,T.cl_a2,T.no_a2_levels,by simp,?_⟩
 have e3:putF (ofString "levels") (.ref pv) [(rowN,V.ref pr),(a1x,V.ref pd),(atN,V.int 0)]=[(rowN,V.ref pr),(a1x,V.ref pd),(atN,V.int 0),(a8e,V.ref pv)]:=by simp only[putF,show ¬rowN=ofString "levels" by decide+kernel,show ¬a1x=ofString "levels" by decide+kernel,show ¬atN=ofString "levels" by decide+kernel,Xu]
 rw[e3]
 have b3:But x L (upd L x (.ins t.k_a2 dx [(rowN,V.ref pr),(a1x,V.ref pd),(atN,V.int 0),(a8e,V.ref pv)])):=a7a _
 have c3:(upd L x (.ins t.k_a2 dx [(rowN,V.ref pr),(a1x,V.ref pd),(atN,V.int 0),(a8e,V.ref pv)])) x=some (.ins t.k_a2 dx [(rowN,V.ref pr),(a1x,V.ref pd),(atN,V.int 0),(a8e,V.ref pv)]):=a0c
 generalize upd L x (.ins t.k_a2 dx [(rowN,V.ref pr),(a1x,V.ref pd),(atN,V.int 0),(a8e,V.ref pv)])=J3 at b3 c3 ⊢
 walk_at "s"
 exact q pv J3 c3 (fun b o hb e=>b3 _ _ hb (spv _ _ (b2 _ _ hb (b1 _ _ hb (b0 _ _ hb e)))))
end
theorem b7b:∀{r:List Pc}{st:List Lv}{q:List Pc×List Lv},opn r st=some q->hK q.1=sgK "["->hK q.1.tail=sgK "]"
 | [],st,q,h,e=>by
  rw[opn]at h
  cases h
  exact absurd e (c5j _)
 |z::r,st,q,h,e=>by
  by_cases c1:Pc.ks z=sgK "("
  ·rw[a8f c1]at h;exact b7b h e
  by_cases c2:Pc.ks z=sgK "["/\hK r≠sgK "]"
  ·rw[a9e c2.1 c2.2]at h;exact b7b h e
  cases r with
  |nil=>
   rw[opn,if_neg c1,if_neg c2]at h
   cases h
   cases Classical.em (hK ([]:List Pc)=sgK "]")with
   |inl y=>exact y
   |inr y=>exact absurd ⟨e,y⟩ c2
  |cons y r=>
   rw[opn,if_neg c1,if_neg c2]at h
   by_cases c3:kindOf z=ofString "word"/\Pc.ks y=sgK "("
   ·rw[if_pos c3]at h
    by_cases c4:z.length<=12
    ·rw[if_pos c4]at h;exact b7b h e
    ·rw[if_neg c4]at h;cases h
   ·rw[if_neg c3]at h
    cases h
    cases Classical.em (hK (y::r)=sgK "]")with
    |inl x=>exact x
    |inr x=>exact absurd ⟨e,x⟩ c2
inductive Lp(tb:Tb):Nat->List Pc->List Lv->Option (List Pc×List Lv)->Prop where
 |bad {r:List Pc} {st:List Lv}:trn tb r st=none->Lp tb 1 r st none
 |last {r:List Pc} {st:List Lv} {x:List Pc×List Lv}:trn tb r st=some (false,x)->Lp tb 1 r st (some x)
 |more {n:Nat} {r:List Pc} {st:List Lv} {x:List Pc×List Lv} {o:Option (List Pc×List Lv)}:trn tb r st=some (true,x)->Lp tb n x.1 x.2 o->Lp tb (n+1) r st o
theorem Lp.none{tb:Tb}{n:Nat}{r:List Pc}{st:List Lv}{o:Option (List Pc×List Lv)}(h:Lp tb n r st o)(e:trn tb r st=none):o=none:=by
 cases h with
 |bad _=>rfl
 |last a=>rw[e]at a;cases a
 |more a _=>rw[e]at a;cases a
theorem Lp.one{tb:Tb}{n:Nat}{r:List Pc}{st:List Lv}{x:List Pc×List Lv}{o:Option (List Pc×List Lv)}(h:Lp tb n r st o)(e:trn tb r st=some (false,x)):o=some x/\0<n:=by
 cases h with
 |bad a=>rw[e]at a;cases a
 |last a=>rw[e]at a;cases a;exact⟨rfl,by decide⟩
 |more a _=>rw[e]at a;cases a
theorem Lp.next{tb:Tb}{n:Nat}{r:List Pc}{st:List Lv}{x:List Pc×List Lv}{o:Option (List Pc×List Lv)}(h:Lp tb n r st o)(e:trn tb r st=some (true,x)):∃m,m<n/\Lp tb m x.1 x.2 o:=by
 cases h with
 |bad a=>rw[e]at a;cases a
 |last a=>rw[e]at a;cases a
 |more a b=>rw[e]at a;cases a;exact⟨_,Uk _,b⟩
inductive RdT(tb:Tb)(r:List Pc):Option (Trm×List Pc)->Prop where
 |bad {n:Nat}:Lp tb n r [a3j] none->RdT tb r none
 |open' {n:Nat} {r':List Pc} {a b:Lv} {st:List Lv}:Lp tb n r [a3j] (some (r',a::b::st))->RdT tb r none
 |term {n:Nat} {r':List Pc} {lv:Lv} {y:Trm}:Lp tb n r [a3j] (some (r',[lv]))->lv.done=[]->jn lv.sides.reverse lv.wait.reverse=[y]->y.size<=40->RdT tb r (some (y,r'))
 |big {n:Nat} {r':List Pc} {lv:Lv} {y:Trm}:Lp tb n r [a3j] (some (r',[lv]))->lv.done=[]->jn lv.sides.reverse lv.wait.reverse=[y]->40<y.size->y.size<=1000->RdT tb r none
def FinT:Option (List Pc×List Lv)->Option (Trm×List Pc)->Prop
 |none,oo=>oo=none
 |some q,oo=>(∃a b st,q.2=a::b::st/\oo=none)\/∃(lv:Lv)(y:Trm),q.2=[lv]/\lv.done=[]/\jn lv.sides.reverse lv.wait.reverse=[y]/\((y.size<=40/\oo=some (y,q.1))\/(40<y.size/\y.size<=1000/\oo=none))
theorem RdT.fin{tb:Tb}{r:List Pc}{oo:Option (Trm×List Pc)}(h:RdT tb r oo):∃n lo,Lp tb n r [a3j] lo/\FinT lo oo:=by
 cases h with
 |bad a=>exact⟨_,_,a,rfl⟩
 |open' a=>exact⟨_,_,a,.inl ⟨_,_,_,rfl,rfl⟩⟩
 |term a b c d=>exact⟨_,_,a,.inr ⟨_,_,rfl,b,c,.inl ⟨d,rfl⟩⟩⟩
 |big a b c d e=>exact⟨_,_,a,.inr ⟨_,_,rfl,b,c,.inr ⟨d,e,rfl⟩⟩⟩
structure RA(K:W.Frag)(CR:Addr)(H0 H:Hp)(x pr pd:Addr)(ps:List Pc)(tb:Tb)(i:Nat):Prop where
 ob:∃dx pv,H x=some (.ins CR dx (fsR pr pd i pv))
 row:∃us,H0 pr=some (.lst us)/\DenL K H0 us (ps.map Pc.data)
 sg:∃kvs,H0 pd=some (.dK kvs)/\TR K H0 kvs tb
 sm:Same H0 H
 fx:H0 x=none
 lim:ps.length<=275/\i<=ps.length
 pk:∀z∈ps,Pok z/\(kindOf z=ofString "mark"->(lkT tb ⟨z.toArray⟩).isSome=true)
def resTT(K:W.Frag)(CR CL B:Addr)(H0:Hp)(x pr pd:Addr)(ps:List Pc)(tb:Tb)(Q:VK)(E:XK):Option (Trm×List Pc)->Prop
 |some y=>∀(v:V) H' (j:Nat) (pv:Addr) (fps:List Fp) (lvs:List Lv),RS K CR CL H0 H' x pr pd pv ps tb j fps lvs->ps.drop j=y.2->j<=ps.length->Den K H' v y.1.data->Q v H'
 |none=>onX H0 B E
abbrev a4e(K:W.Frag)(CR CL B:Addr):Sp:=fun vs H Q E=>match vs with| [.ref x]=>∃(H0:Hp)(pr pd:Addr)(ps:List Pc)(tb:Tb)(i:Nat)(o:Option (Trm×List Pc)),RA K CR H0 H x pr pd ps tb i/\RdT tb (ps.drop i) o/\resTT K CR CL B H0 x pr pd ps tb Q E o|_=>False
def resEnd{α:Type}(G:α->Prop)(R:Prop):Option (α×List Pc)->Prop
 |some (y,[])=>G y
 |some (_,_::_)=>R
 |none=>R
structure TxTb(K:W.Frag)(H:Hp)(l:List Nat)(pd:Addr)(tb:Tb):Prop where
 len:l.length<=3000
 pz:∀z∈bits l,z.length<=900
 pl:a1v l
 tab:∃kvs,H pd=some (.dK kvs)/\TR K H kvs tb
 cnt:(bits l).length<=275
 mks:∀z∈bits l,kindOf z=ofString "mark"->(lkT tb ⟨z.toArray⟩).isSome=true
def b4y{α:Type}(P:List Pc->Option (α×List Pc)->Prop)(l:List Nat)(G:α->Prop)(R:Prop):Prop:=(b0o l=false/\R)\/(b0o l=true/\∃o,P (bits l) o/\resEnd G R o)
abbrev b7c(K:W.Frag)(B:Addr):Sp:=fun vs H Q E=>match vs with| [.str s,.ref pd]=>∃(l:List Nat)(tb:Tb),s=⟨l.toArray⟩/\TxTb K H l pd tb/\b4y (RdT tb) l (fun y=>∀(v:V) H',Same H H'->Den K H' v y.data->Q v H') (onX H B E)|_=>False
theorem bits_in:∀(n:Nat)(l:List Nat),l.length=n->∀z∈bits l,∃c r,z=c::r/\(∀y∈z,y∈l)/\z.length<=l.length/\(inn c->∀y∈r,inn y):=by
 intro n
 induction n using Nat.strongRecOn with
 |_ n ih=>
  intro l hl z hz
  cases l with
  |nil=>rw[a4a]at hz;cases hz
  |cons c r=>
   by_cases hc:c=32
   ·rw[hc,a2s]at hz
    obtain⟨c',r',e,h1,h2,h3⟩:=ih r.length (by rw[<-hl];simp) r rfl z hz
    exact⟨c',r',e,fun y hy=>Zi _ (h1 y hy),by rw[length_cons];omega,h3⟩
   ·rw[b1y hc]at hz
    rcases Zk.mp hz with rfl|hz
    ·refine⟨c,_,rfl,fun y hy=>?_,?_,fun hi y hy=>?_⟩
     ·rcases Zk.mp hy with e|e
      ·rw[e];exact Zj ..
      ·exact Zi _ ((Tc _).subset e)
     ·have:=(Tc (runP c) (l:=r)).length_le
      simp only[length_cons]
      omega
     ·have:=b9t hy
      rw[c4z hi]at this
      exact Ze this
    ·have hd:=c5b (p:=runP c) r
     obtain⟨c',r',e,h1,h2,h3⟩:=ih (r.dropWhile (runP c)).length (by rw[<-hl,length_cons];omega) _ rfl z hz
     exact⟨c',r',e,fun y hy=>Zi _ ((Vr _).subset (h1 y hy)),by rw[length_cons];omega,h3⟩
theorem TxTb.pk{K:W.Frag}{H:Hp}{l:List Nat}{pd:Addr}{tb:Tb}(h:TxTb K H l pd tb):∀z∈bits l,Pok z/\(kindOf z=ofString "mark"->(lkT tb ⟨z.toArray⟩).isSome=true):=fun z hz=>by
 obtain⟨c,r,e,h1,h2,h3⟩:=bits_in _ l rfl z hz
 subst e
 exact⟨⟨c,r,rfl,h.pz _ hz,fun y hy=>h.pl y (h1 y hy),h3⟩,h.mks _ hz⟩
theorem d5b(z:List Nat):kindOf z≠ofString "end":=by
 cases z with
 |nil=>decide+kernel
 |cons c r=>
  rw[kindOf]
  repeat' split
  all_goals decide+kernel
theorem ks_end(z:Pc):Pc.ks z≠endK:=fun e=>by
 simp only[Pc.ks,endK,Yd,Yw]at e
 exact d5b z e.1
theorem RS.start{K:W.Frag}{CR CL:Addr}{H0 H H1:Hp}{x pr pd pv dx:Addr}{fs0:List (Str×V)}{ps:List Pc}{tb:Tb}{f:Fp}{i:Nat}(hx:H x=some (.ins CR dx fs0))(row:∃us,H0 pr=some (.lst us)/\DenL K H0 us (ps.map Pc.data))(sg:∃kvs,H0 pd=some (.dK kvs)/\TR K H0 kvs tb)(sm:Same H0 H)(fx:H0 x=none)(fr:∀b∈f.all,H b=none)(s1:Same H H1)(hl:LvAt K CL H1 f a3j)(hp:H1 pv=none)(hps:ps.length<=275)(hi:i<=400):RS K CR CL H0 (upd (upd H1 pv (.lst [.ref f.l])) x (.ins CR dx (fsR pr pd i pv))) x pr pd pv ps tb i [f] [a3j]:=by
 have nx:x∉f.all:=fun z=>by rw[fr x z]at hx;cases hx
 have nv:pv∉f.all:=fun z=>by obtain⟨o,e⟩:=hl.has pv z;rw[e]at hp;cases hp
 have xv:pv≠x:=fun z=>by rw[z,s1 _ _ hx]at hp;cases hp
 have t1:∀a xs,SqT K H1 a xs->SqT K (upd H1 pv (.lst [.ref f.l])) a xs:=fun a xs q=>(a0f hp _).tup q
 have e2:(upd H1 pv (.lst [.ref f.l])) x=some (.ins CR dx fs0):=by rw[a0j (Ne.symm xv)];exact s1 _ _ hx
 have t2:∀a xs,SqT K H1 a xs->SqT K (upd (upd H1 pv (.lst [.ref f.l])) x (.ins CR dx (fsR pr pd i pv))) a xs:=fun a xs q=>tup_upd' e2 (fun _ z=>by cases z) (fun _ _ z=>by cases z) a xs (t1 a xs q)
 refine⟨⟨dx,a0c⟩,row,sg,by rw[a0j xv,a0c];rfl,.cons (hl.fr (fun b hb o e=>by rw[a0j (fun z=>nx (by rw[<-z];exact hb)),a0j (fun z=>nv (by rw[<-z];exact hb))];exact e) t2) .nil,fun b o e=>by rw[a0j (fun z=>by rw[z,fx]at e;cases e),a0j (a1c (s1 _ _ (sm _ _ e)) hp)];exact s1 _ _ (sm _ _ e),fx,(sm.trans s1).free hp,fun g hg b hb=>?_,U3 _ _,fun g hg=>?_,⟨by simp,hps,by omega⟩⟩
 ·rw[Zw.mp hg]at hb;exact sm.free (fr b hb)
 ·rw[Zw.mp hg];exact⟨nv,nx⟩
section
variable{P:Program}{w:World}{K:W.Frag}{mg:Str->Option Value}{base:Heap}{t:Ad}
theorem b4z(T:Txt K mg t)(G_a8:FnOk P w K mg base CX0 3 t.a_a8 t.d_a8 ["level"] (a8d K t.k_a1))(G_c5:FnOk P w K mg base CX0 1 t.a_c5 t.d_c5 ["self","kind","word"] (a5s K t.k_a1))(G_g6:FnOk P w K mg base (CXo P w) 5 t.a_g6 t.d_g6 ["self"] (a3f K t.k_a2 t.k_a1 t.k_a0))(G_g3:FnOk P w K mg base (CXo P w) 6 t.a_g3 t.d_g3 ["self"] (a3v K t.k_a2 t.k_a1 t.k_a0))(G_g2:FnOk P w K mg base (CXo P w) 4 t.a_g2 t.d_g2 ["self"] (a3g K t.k_a2 t.k_a1 t.k_a0))(G_g4:FnOk P w K mg base (CXo P w) 5 t.a_g4 t.d_g4 ["self"] (a3h K t.k_a2 t.k_a1 t.k_a0))(G_a3:FnOk P w K mg base CX0 1 t.a_a3 t.d_a3 ["self","words","row"] (a1b K))(G_g0:FnOk P w K mg base CX0 1 t.a_g0 t.d_g0 ["term"] (b4u K)):FnOk P w K mg base (CXo P w) 7 t.a_g5 t.d_g5 ["self"] (a4e K t.k_a2 t.k_a1 t.k_a0):=by
 refine T.F_g5.okX a4d (fun vs H Q E h=>?_) (fun cdv A outer s H vs Q E hr h=>?_)
 ·unfold a4e at h
  split at h
  ·rfl
  ·exact h.elim
 unfold a4e at h
 split at h
 rotate_left
 ·exact h.elim
 refine⟨_,(a0e (a6g (mv 0) (a1j (a0a (c0h T.mk_a1 G_c5 (hr.mono (by walk_at "r")) rfl T.m_a1 T.b_c5 .nil a0p (a0a a0i (a0a a0i a0b))) a0b)) rfl) (a0e (a0q (i:=1) a4d.nd rfl (by walk_at "or1") b2h) (a0e (a3x Wo (a1w K rfl (mv 1)) (a0e (a1a (a8r (mv 0) T.cl_a2 T.me_g6 G_g6 (hr.mono (by walk_at "r")) T.b_g6 .nil a4w)) (a0e (a1a (a8r (mv 0) T.cl_a2 T.me_g3 G_g3 (hr.mono (by walk_at "r")) T.b_g3 .nil a4w)) (a0e (a1a (a8r (mv 0) T.cl_a2 T.me_g2 G_g2 (hr.mono (by walk_at "r")) T.b_g2 .nil a4w)) (a0g (a0q (i:=1) (hs:=a1p) a4d.nd rfl (by walk_at "or1") (a8r (mv 0) T.cl_a2 T.me_g4 G_g4 (hr.mono (by walk_at "r")) T.b_g4 .nil a4w))))))) (a0e (a0v (a0s c3b (a0z (a2d K rfl) rfl T.n_c4 Z0 (a0a (a1d (mv 0) rfl) a0b)) a0d (a0t _)) (a0g (a4n rfl a5g (a4m T.mk_a0 G_a3 (hr.mono (by walk_at "r")) rfl T.m_a0 T.bd_a3 (show Vals [V.int 0] [Value.int 0 t.w_a3_0]from(.cons ⟨_,rfl⟩ .nil)) a0p (a0a a0i a0b)))) a0u) (a0e (a0q (i:=2) (hs:=a7o) a4d.nd rfl (by walk_at "or1") (a0r (a0k K rfl) (a1d (mv 0) rfl) a0d (fun _ _=>rfl))) (a0e (a1a (a0l G_a8 (hr.mono (by walk_at "r")) rfl T.m_a8 T.F_a8.kp T.b_a8 .nil a0p (a0a (mv 2) a0b))) (a0e (a0v (a0s c3b (a0l G_g0 (hr.mono (by walk_at "r")) rfl T.m_g0 T.F_g0.kp T.b_g0 .nil a0p (a0a (a0r (a0k K rfl) (a1d (mv 2) rfl) a0d (fun _ _=>rfl)) a0b)) (b1b rfl T.m_h8) (a0t _)) (a0g (a4n rfl a5g (a4m T.mk_a0 G_a3 (hr.mono (by walk_at "r")) rfl T.m_a0 T.bd_a3 (show Vals [V.int 0] [Value.int 0 t.w_a3_0]from(.cons ⟨_,rfl⟩ .nil)) a0p (a0a (d1o (b1b rfl T.m_h8)) a0b)))) a0u) (a0g (a0m (a0r (a0k K rfl) (a1d (mv 2) rfl) a0d (fun _ _=>rfl))))))))))),?_⟩
 rename_i x
 obtain⟨H0,pr,pd,ps,tb,i0,oo,ra,rd,q⟩:=h
 obtain⟨dx,pv0,hx⟩:=ra.ob
 have hps:=ra.lim.1
 have hi0:=ra.lim.2
 obtain⟨n0,lo,lp,hcase⟩:=rd.fin
 walk_at "s"
 intro l dl hl0 hdl hne
 refine⟨dl,a0c,fun f H1 ef wl fr h1 h2 h3=>⟨rfl,?_⟩⟩
 subst ef
 have up:∀b o,H b=some o->(upd (upd H dl (.own f.l)) f.l (.ins t.k_a1 dl [])) b=some o:=fun b o e=>by rw[a0j (a1c e hl0),a0j (a1c e hdl)];exact e
 have sH:Same H H1:=fun b o e=>fr b o (a1c e hl0) (up b o e)
 have fresh:∀b∈f.all,H b=none:=fun b hb=>by
  cases z:H b with
  |none=>rfl
  |some o=>
   exfalso
   have u:=up b o z
   simp only[Fp.all,Zk,Zz,Xl]at hb
   rcases hb with y|y|y|y
   ·rw[y,hl0]at z;cases z
   ·rw[y,h1]at u;cases u
   ·rw[y,h2]at u;cases u
   ·rw[y,h3]at u;cases u
 walk_at "s"
 refine⟨ln (by show 1<=100000;decide),fun pv hpv=>?_⟩
 walk_at "s"
 have w0:=RS.start (i:=i0) hx ra.row ra.sg ra.sm ra.fx fresh sH wl hpv hps (by omega)
 refine⟨x,_,dx,_,rfl,by rw[a0j (fun z=>by rw[<-z,sH _ _ hx]at hpv;cases hpv)];exact sH _ _ hx,T.cl_a2,T.no_a2_levels,by simp[fsR],?_⟩
 rw[c9b]
 generalize upd (upd H1 pv (.lst [.ref f.l])) x (.ins t.k_a2 dx (fsR pr pd i0 pv))=H3 at w0 ⊢
 have X0:RX K t.k_a2 t.k_a1 H0 H3 x pr pd pv ps tb i0 0 [a3j]:=⟨⟨[f],w0⟩,.one ⟨.inl rfl,rfl,Z3 _,fun _ z=>by cases z⟩ rfl,hi0,by simp,ra.pk⟩
 walk_at "s"
 refine a3c (fun k σ' H'=>(∃(i:Nat)(st:List Lv),σ'=[some (.ref x),some (.bl true),none]/\RX K t.k_a2 t.k_a1 H0 H' x pr pd pv ps tb i 0 st/\Lp tb k (ps.drop i) st lo)\/∃(j:Nat)(st:List Lv),σ'=[some (.ref x),some (.bl false),none]/\RX K t.k_a2 t.k_a1 H0 H' x pr pd pv ps tb j 1 st/\lo=some (ps.drop j,st)/\k=0) n0 (.inl ⟨i0,_,rfl,X0,lp⟩) (fun k σ' H' R hP kT kF=>?_)
 rcases hP with⟨i,st,rfl,X,lp⟩|⟨j,st,rfl,X,rfl,rfl⟩
 ·walk_at "s"
  refine kT H' (fun D' e1' e2' hnx hct=>?_)
  have dead:trn tb (ps.drop i) st=none->onX H0 t.k_a0 E:=fun e=>by
   have hlo:=lp.none e
   subst hlo
   have hoo:oo=none:=hcase
   subst hoo
   exact q
  obtain⟨fps,w⟩:=X.w
  walk_at "s"
  obtain⟨dxC,hoC⟩:=w.ob
  refine⟨x,dxC,_,rfl,hoC,a2u,?_⟩
  walk_at "s"
  refine⟨H0,pr,pd,pv,ps,tb,i,st,X,?_⟩
  cases c1:opn (ps.drop i) st with
  |none=>(rw[c1];exact dead (by simp only[trn,c1]))
  |some q1=>
  rw[c1]
  obtain⟨r1,st1⟩:=q1
  intro j1 G1 e1 X1
  have hb:=b7b c1
  have e1:ps.drop j1=r1:=e1
  obtain⟨fps1,w1⟩:=X1.w
  have hst:=X1.sk
  cases st1 with
  |nil=>cases hst
  |cons lv1 st1=>
  walk_at "s"
  obtain⟨dxC,hoC⟩:=w1.ob
  refine⟨x,dxC,_,rfl,hoC,a2u,?_⟩
  walk_at "s"
  refine⟨H0,pr,pd,pv,ps,tb,j1,_,X1,lv1,st1,rfl,fun y=>by rw[b3z,e1];exact hb (by rw[<-e1];exact y),?_⟩
  rw[e1]
  cases c2:thg r1 with
  |none=>exact dead (by simp only[trn,c1,c2])
  |some q2=>
  obtain⟨t2,r2⟩:=q2
  intro j2 G2 e2 X2
  have e2:ps.drop j2=r2:=e2
  obtain⟨fps2,w2⟩:=X2.w
  walk_at "s"
  obtain⟨dxC,hoC⟩:=w2.ob
  refine⟨x,dxC,_,rfl,hoC,a2u,?_⟩
  walk_at "s"
  refine⟨H0,pr,pd,pv,ps,tb,j2,_,X2,_,st1,rfl,?_⟩
  rw[e2]
  cases c3:cls r2 { lv1 with sides:=lv1.sides++[t2]} st1 with
  |none=>exact dead (by simp only[trn,c1,c2,c3])
  |some q3=>
  obtain⟨r3,st3⟩:=q3
  intro j3 G3 e3 X3
  have e3:ps.drop j3=r3:=e3
  obtain⟨fps3,w3⟩:=X3.w
  have hst3:=X3.sk
  cases st3 with
  |nil=>cases hst3
  |cons lv3 st3=>
  walk_at "s"
  obtain⟨dxC,hoC⟩:=w3.ob
  refine⟨x,dxC,_,rfl,hoC,a2u,?_⟩
  walk_at "s"
  refine⟨H0,pr,pd,pv,ps,tb,j3,_,X3,lv3,st3,rfl,?_⟩
  rw[e3]
  cases c4:btw tb lv3 r3 with
  |none=>exact dead (by simp only[trn,c1,c2,c3,c4])
  |some q4=>
  cases q4 with
  |none=>
   have ht:trn tb (ps.drop i) st=some (false,r3,lv3::st3):=by simp only[trn,c1,c2,c3,c4]
   obtain⟨ho,hpos⟩:=lp.one ht
   intro G4 X4
   walk_at "s"
   exact hnx _ _ 0 hpos (.inr ⟨j3,_,rfl,X4,by rw[ho,e3],rfl⟩)
  |some q5=>
   obtain⟨r4,lv4⟩:=q5
   have ht:trn tb (ps.drop i) st=some (true,r4,lv4::st3):=by simp only[trn,c1,c2,c3,c4]
   obtain⟨m,hm,lpm⟩:=lp.next ht
   intro G4 e4 X4
   have e4:ps.drop (j3+1)=r4:=e4
   walk_at "s"
   exact hnx _ _ m hm (.inl ⟨j3+1,_,rfl,X4,by rw[e4];exact lpm⟩)
 ·walk_at "s"
  refine kF H' ?_
  obtain⟨fps,w⟩:=X.w
  have hfl:=w.al.len
  rw[Z7]at hfl
  have hlv:=w.lv
  obtain⟨dx5,ho5⟩:=w.ob
  walk_at "s"
  refine⟨_,_,dx5,_,_,rfl,ho5,T.cl_a2,T.no_a2_levels,a5k _ _ _ _,?_⟩
  walk_at "s"
  refine a4l (SqL.of hlv) ?_
  rw[length_map,hfl]
  walk_at "s"
  rcases hcase with⟨a,b,st',hs,rfl⟩|⟨lv,y,hs,d0,d3,hy⟩
  ·have hs:st=a::b::st':=hs
   subst hs
   refine iteB (fun e=>?_) (fun e=>absurd (Zl e) (by simp only[length_cons];omega))
   walk_at "s"
   refine⟨by simp,fun ea hea=>?_⟩
   refine⟨t.k_a0,_,true,T.x_a0,T.u_a0,T.at_a0,T.no_a0_row,a0c,fun H9 b9=>⟨rfl,?_⟩⟩
   obtain⟨dx9,h91,h92,h93⟩:=a2l hea (Same.refl _) hea b9
   refine⟨ea,t.k_a0,dx9,_,rfl,T.x_a0,h91,?_⟩
   exact q ea _ (w.sm.trans h93) h92
  have hs:st=[lv]:=hs
  subst hs
  refine iteB (fun e=>absurd e (by simp)) (fun e=>?_)
  have w:RS K t.k_a2 t.k_a1 H0 H' x pr pd pv ps tb j fps ([]++[lv]):=w
  obtain⟨fs,f1,rfl,l0,l1⟩:=a2i.snoc (ls:=[]) w.al
  cases l0
  have hjl:=X.hi
  have ot:=X.sk.top
  have obd:=ot.bd
  walk_at "s"
  refine⟨_,_,dx5,_,_,rfl,ho5,T.cl_a2,T.no_a2_levels,a5k _ _ _ _,?_⟩
  walk_at "s"
  refine a2e (SqL.of hlv) at0v ?_
  walk_at "s"
  refine⟨f1,lv,rfl,l1,ot.ln,by have:=ot.ln;omega,by rw[d0];simp,fun y' G1 ey g1 l2=>?_⟩
  rw[d3]at ey
  cases ey
  have w1:=w.top (fs:=[]) (ls:=[]) .nil l1 g1 l2
  obtain⟨dl6,ho6⟩:=l2.ob
  obtain⟨us,u1,u2⟩:=l2.dn
  simp only[d0,Y6]at u2
  cases u2 with
  | @cons _ v5 _ _ c1 c2=>
   walk_at "s"
   refine⟨_,_,dl6,_,_,rfl,ho6,T.cl_a1,T.no_a1_done,a7e _ _ _,?_⟩
   walk_at "s"
   refine a2e (SqL.of u1) at0v ?_
   walk_at "s"
   refine⟨y,c1,by rcases hy with h|h<;>omega,fun G2 s2=>?_⟩
   walk_at "s"
   rcases hy with⟨y1,rfl⟩|⟨y1,y2,rfl⟩
   ·refine iteB (fun e=>absurd (Ze e) (by omega)) (fun e=>?_)
    walk_at "s"
    refine⟨_,_,dl6,_,_,rfl,s2 _ _ ho6,T.cl_a1,T.no_a1_done,a7e _ _ _,?_⟩
    walk_at "s"
    refine a2e (SqL.of (s2 _ _ u1)) at0v ?_
    exact q _ G2 j pv _ _ (w1.same s2) rfl hjl (c1.mono s2)
   ·refine iteB (fun e=>?_) (fun e=>absurd (Zl e) (by omega))
    walk_at "s"
    refine⟨40,rfl,by decide+kernel,by decide+kernel,fun z=>?_⟩
    walk_at "s"
    refine⟨by simp,fun ea hea=>?_⟩
    refine⟨t.k_a0,_,true,T.x_a0,T.u_a0,T.at_a0,T.no_a0_row,a0c,fun H9 b9=>⟨rfl,?_⟩⟩
    obtain⟨dx9,h91,h92,h93⟩:=a2l hea (Same.refl _) hea b9
    refine⟨ea,t.k_a0,dx9,_,rfl,T.x_a0,h91,?_⟩
    exact q ea _ ((w1.same s2).sm.trans h93) h92
end
section
variable{P:Program}{w:World}{K:W.Frag}{mg:Str->Option Value}{base:Heap}{t:Ad}
def off(H:Hp)(x:Addr):Hp:=fun b=>if b=x then none else H b
end
section
variable{P:Program}{w:World}{K:W.Frag}{mg:Str->Option Value}{base:Heap}{t:Ad}
theorem ok_c7(T:Txt K mg t)(G_g8:FnOk P w K mg base CX0 1 t.a_g8 t.d_g8 ["self","row","signs"] (a6e K t.k_a2))(G_g5:FnOk P w K mg base (CXo P w) 7 t.a_g5 t.d_g5 ["self"] (a4e K t.k_a2 t.k_a1 t.k_a0))(G_g7:FnOk P w K mg base (CXo P w) 3 t.a_g7 t.d_g7 ["self"] (a4r K t.k_a2 t.k_a1 t.k_a0))(G_g1:FnOk P w K mg base (CXo P w) 5 t.a_g1 t.d_g1 ["text"] (b2r K t.k_a0)):FnOk P w K mg base (CXo P w) 8 t.a_c7 t.d_c7 ["text","signs"] (b7c K t.k_a0):=by
 refine T.F_c7.okX c0v (fun vs H Q E h=>?_) (fun cdv A outer s H vs Q E hr h=>?_)
 ·unfold b7c at h
  split at h
  ·rfl
  ·exact h.elim
 unfold b7c at h
 split at h
 rotate_left
 ·exact h.elim
 refine⟨_,(a0e (a0q (i:=2) (hs:=a1p) c0v.nd rfl (by walk_at "or1") (c0h T.mk_a2 G_g8 (hr.mono (by walk_at "r")) rfl T.m_a2 T.b_g8 .nil a0p (a0a (a0l G_g1 (hr.mono (by walk_at "r")) rfl T.m_g1 T.F_g1.kp T.b_g1 .nil a4w (a0a (mv 0) a0b)) (a0a (mv 1) a0b)))) (a0e (a0q (i:=3) (hs:=a1p) c0v.nd rfl (by walk_at "or1") (a8r (mv 2) T.cl_a2 T.me_g5 G_g5 (hr.mono (by walk_at "r")) T.b_g5 .nil a4w)) (a0e (a1a (a8r (mv 2) T.cl_a2 T.me_g7 G_g7 (hr.mono (by walk_at "r")) T.b_g7 .nil a4w)) (a0g (a0m (mv 3)))))),?_⟩
 rename_i s pd
 obtain⟨l,tb,rfl,tt,q⟩:=h
 obtain⟨kvs,hd,hT⟩:=tt.tab
 walk_at "s"
 refine⟨l,rfl,Ym tt.len (by decide),tt.pl,?_⟩
 rcases q with⟨hg,q⟩|⟨hg,oo,rd,q⟩
 ·rw[hg]
  exact q
 rw[hg]
 intro pr us H1 fr1 s1 k1 d1
 walk_at "s"
 intro x dx hx hdx hne
 refine⟨dx,a0c,fun pv H2 ox fr=>⟨rfl,?_⟩⟩
 have sm:Same H1 H2:=fun b o e=>fr b o (a1c e hx) (by rw[a0j (a1c e hx),a0j (a1c e hdx)];exact e)
 have row:∃us,H1 pr=some (.lst us)/\DenL K H1 us ((bits l).map Pc.data):=⟨us,k1,d1⟩
 have sg:∃kvs,H1 pd=some (.dK kvs)/\TR K H1 kvs tb:=⟨kvs,s1 _ _ hd,hT.monoT (fun a zs q=>s1.tup q)⟩
 have pk:=tt.pk
 have ra:RA K t.k_a2 H1 H2 x pr pd (bits l) tb 0:=⟨⟨dx,pv,ox⟩,row,sg,sm,hx,⟨tt.cnt,Z3 _⟩,pk⟩
 have hcnt:=tt.cnt
 generalize bits l=ps at*
 walk_at "s"
 refine⟨x,dx,_,rfl,ox,a2u,?_⟩
 walk_at "s"
 refine⟨H1,pr,pd,ps,tb,0,oo,ra,by rw[V1];exact rd,?_⟩
 cases oo with
 |none=>exact(show onX H t.k_a0 E from q).mono s1
 |some yr=>
  obtain⟨y,rr⟩:=yr
  intro v H3 j pv3 fps lvs w3 ej hj d3
  have ej:ps.drop j=rr:=ej
  obtain⟨dx3,ho3⟩:=w3.ob
  walk_at "s"
  refine⟨x,dx3,_,rfl,ho3,a2u,?_⟩
  walk_at "s"
  cases rr with
  |cons z r=>exact⟨H1,pr,pd,_,ps,tb,j,_,_,w3,fun he=>absurd (by rw[a0x,ej]at he;exact he) (ks_end z),fun _=>(show onX H t.k_a0 E from q).mono (s1.trans w3.sm)⟩
  |nil=>
  refine⟨H1,pr,pd,_,ps,tb,j,_,_,w3,fun _=>?_,fun he=>absurd (by rw[a0x,ej];rfl) he⟩
  walk_at "s"
  exact q v H3 (s1.trans w3.sm) d3
end
section
variable{tb:Tb}{r:List Pc}{lv lu:Lv}{st:List Lv}{z:Pc}{o:Option (List Pc×List Lv)}
def PO(tb:Tb)(r:List Pc)(st:List Lv)(o:Option (List Pc×List Lv)):Prop:=∃n,Lp tb n r st o
def PB(tb:Tb)(r:List Pc)(lv:Lv)(st:List Lv)(o:Option (List Pc×List Lv)):Prop:=match btw tb lv r with
 |none=>o=none
 |some none=>o=some (r,lv::st)
 |some (some q)=>PO tb q.1 (q.2::st) o
def PC(tb:Tb)(r:List Pc)(lv:Lv)(st:List Lv)(o:Option (List Pc×List Lv)):Prop:=match cls r lv st with
 |none=>o=none
 |some (r3,lw::st3)=>PB tb r3 lw st3 o
 |some (_,[])=>False
theorem c1g{r':List Pc}{st':List Lv}(h:opn r st=opn r' st')(k:PO tb r' st' o):PO tb r st o:=by
 have e:trn tb r st=trn tb r' st':=by simp only[trn,h]
 obtain⟨n,lp⟩:=k
 cases lp with
 |bad a=>exact⟨_,.bad (e.trans a)⟩
 |last a=>exact⟨_,.last (e.trans a)⟩
 |more a b=>exact⟨_,.more (e.trans a) b⟩
theorem PO.round(h:Pc.ks z=sgK "(")(k:PO tb r (rdL::st) o):PO tb (z::r) st o:=c1g (a8f h) k
theorem PO.list(h:Pc.ks z=sgK "[")(h2:hK r≠sgK "]")(k:PO tb r (ltL::st) o):PO tb (z::r) st o:=c1g (a9e h h2) k
theorem PO.kids{y:Pc}(h:kindOf z=ofString "word")(h2:Pc.ks y=sgK "(")(hz:z.length<=12)(k:PO tb r (kdL ⟨z.toArray⟩::st) o):PO tb (z::y::r) st o:=c1g (by rw[b2a h h2,if_pos hz]) k
theorem PO.thing{t:Trm}{r2:List Pc}(h1:opn r (lv::st)=some (r,lv::st))(h2:thg r=some (t,r2))(k:PC tb r2 { lv with sides:=lv.sides++[t]} st o):PO tb r (lv::st) o:=by
 unfold PC at k
 cases c:cls r2 { lv with sides:=lv.sides++[t]} st with
 |none=>rw[c]at k;exact⟨1,by rw[k];exact .bad (by simp only[trn,h1,h2,c])⟩
 |some q=>
  rw[c]at k
  obtain⟨r3,st3⟩:=q
  cases st3 with
  |nil=>exact k.elim
  |cons lw st3=>
   have k:PB tb r3 lw st3 o:=k
   unfold PB at k
   cases c2:btw tb lw r3 with
   |none=>rw[c2]at k;exact⟨1,by rw[k];exact .bad (by simp only[trn,h1,h2,c,c2])⟩
   |some q2=>
    rw[c2]at k
    cases q2 with
    |none=>exact⟨1,by rw[k];exact .last (by simp only[trn,h1,h2,c,c2])⟩
    |some q3=>
     obtain⟨n,lp⟩:=k
     exact⟨n+1,.more (x:=(q3.1,q3.2::st3)) (by simp only[trn,h1,h2,c,c2]) lp⟩
theorem PC.stop(h:hK r≠[Sum.inr (ofString "sign"),Sum.inr (clS lv.kind)])(k:PB tb r lv st o):PC tb r lv st o:=by unfold PC;rw[b4w h];exact k
theorem PC.whole(k:PB tb r lv [] o):PC tb r lv [] o:=by
 unfold PC
 have:cls r lv []=some (r,[lv]):=by cases r<;>simp[cls]
 rw[this]
 exact k
theorem PC.step{t:Trm}(h:Pc.ks z=[Sum.inr (ofString "sign"),Sum.inr (clS lv.kind)])(h2:clo (fin lv)=some t)(k:PC tb r { lu with sides:=lu.sides++[t]} st o):PC tb (z::r) lv (lu::st) o:=by
 unfold PC at k ⊢
 rw[b4x h,h2]
 exact k
theorem PB.mark{g:Sg}{q:List Trm×List Str}(h:kindOf z=ofString "mark")(h1:lkT tb ⟨z.toArray⟩=some g)(h2:addM tb ⟨z.toArray⟩ g lv.sides.reverse lv.wait.reverse=some q)(k:PO tb r ({ lv with sides:=q.1.reverse,wait:=q.2.reverse}::st) o):PB tb (z::r) lv st o:=by
 unfold PB
 rw[btw,if_pos h,h1]
 simp only[h2,Xh]
 exact k
theorem PB.comma(h:Pc.ks z=sgK ",")(h2:lv.kind=ofString "kids"\/lv.kind=ofString "list")(k:PO tb r (fin lv::st) o):PB tb (z::r) lv st o:=by unfold PB;rw[c2k h h2];exact k
theorem PB.bar(h:Pc.ks z=sgK "|")(h2:lv.kind=ofString "list")(k:PO tb r ({ fin lv with kind:=ofString "rest"}::st) o):PB tb (z::r) lv st o:=by unfold PB;rw[c1f h h2];exact k
def Ea(r:List Pc):Prop:=r=[]\/∃z r',r=z::r'/\(Pc.ks z=sgK ","\/Pc.ks z=sgK "<-")
theorem Ea.no{s:Str}(h:Ea r)(h1:s≠ofString ",":=by decide+kernel)(h2:s≠ofString "<-":=by decide+kernel):hK r≠[Sum.inr (ofString "sign"),Sum.inr s]:=fun e=>by
 rcases h with rfl|⟨z,r',rfl,h⟩
 ·exact c5j _ e
 ·have e:Pc.ks z=[Sum.inr (ofString "sign"),Sum.inr s]:=e
  rw[e]at h
  rcases h with h|h<;>(simp only[Yd,Yw]at h)
  ·exact h1 h.2.1
  ·exact h2 h.2.1
theorem PB.stop(h:Ea r)(hk:lv.kind=ofString "whole"):PB tb r lv st (some (r,lv::st)):=by
 unfold PB
 rw[b6k]
 ·intro z r' e
  rcases h with rfl|⟨z',r'',rfl,h⟩
  ·cases e
  ·cases e
   rcases h with h|h<;>exact c1e h
 ·rw[hk];exact fun e=>absurd e.2 (by decide+kernel)
 ·rw[hk];exact fun e=>absurd e.2 (by decide+kernel)
end
def Rds(tb:Tb)(t:Trm)(tp:List Pc):Prop:=∀{r:List Pc}{lv:Lv}{st:List Lv}{o:Option (List Pc×List Lv)},hK r≠sgK "("->PC tb r { lv with sides:=lv.sides++[t]} st o->PO tb (tp++r) (lv::st) o
theorem d5c{tb:Tb}{z:Pc}{t:Trm}(h:thgZ z=some t)(hk:kindOf z≠ofString "sign"):Rds tb t [z]:=fun{r lv st o} hr k=>by
 have n:∀s,Pc.ks z≠[Sum.inr (ofString "sign"),Sum.inr s]:=fun s=>a4h rfl s hk
 refine PO.thing (a6q (n _) (fun e=>absurd e (n _)) (fun z' r' e _=>by cases e;exact hr)) (t:=t) (r2:=r) ?_ k
 rw[Xg,thg,if_neg (n _),h]
 rfl
abbrev sg(c:Nat):Pc:=[c]
theorem k40:Pc.ks (sg 40)=sgK "(":=by decide+kernel
theorem k41:Pc.ks (sg 41)=sgK ")":=by decide+kernel
theorem k91':Pc.ks (sg 91)=sgK "[":=by decide+kernel
theorem k93:Pc.ks (sg 93)=sgK "]":=by decide+kernel
theorem k44:Pc.ks (sg 44)=sgK ",":=by decide+kernel
theorem k124:Pc.ks (sg 124)=sgK "|":=by decide+kernel
theorem cl_rd:clS (ofString "round")=ofString ")":=by decide+kernel
theorem cl_kd:clS (ofString "kids")=ofString ")":=by decide+kernel
theorem cl_lt:clS (ofString "list")=ofString "]":=by decide+kernel
theorem cl_rs:clS (ofString "rest")=ofString "]":=by decide+kernel
theorem clo_rd{ss:List Trm}{t:Trm}{w:Str}:clo (fin ⟨ofString "round",w,[],[t],[]⟩)=some t:=by
 unfold clo
 exact if_pos rfl
theorem clo_kd{d:List Trm}{t:Trm}{w:Str}:clo (fin ⟨ofString "kids",w,d,[t],[]⟩)=if(d++[t]).length<=4 then some (.app w (d++[t]))else none:=by
 unfold clo
 have n1:¬(fin ⟨ofString "kids",w,d,[t],[]⟩).kind=ofString "round":=by show ¬ofString "kids"=ofString "round";decide+kernel
 have n2:¬(fin ⟨ofString "kids",w,d,[t],[]⟩).kind=ofString "list":=by show ¬ofString "kids"=ofString "list";decide+kernel
 have n3:¬(fin ⟨ofString "kids",w,d,[t],[]⟩).kind=ofString "rest":=by show ¬ofString "kids"=ofString "rest";decide+kernel
 rw[if_neg n1,if_neg n2,if_neg n3]
 rfl
theorem clo_lt{d:List Trm}{t:Trm}{w:Str}:clo (fin ⟨ofString "list",w,d,[t],[]⟩)=some (mkL (d++[t]) a2x):=by
 unfold clo
 have n1:¬(fin ⟨ofString "list",w,d,[t],[]⟩).kind=ofString "round":=by show ¬ofString "list"=ofString "round";decide+kernel
 rw[if_neg n1]
 exact if_pos rfl
theorem clo_rs{d:List Trm}{t:Trm}{w:Str}:clo (fin ⟨ofString "rest",w,d,[t],[]⟩)=some (mkL d t):=by
 unfold clo
 have n1:¬(fin ⟨ofString "rest",w,d,[t],[]⟩).kind=ofString "round":=by show ¬ofString "rest"=ofString "round";decide+kernel
 have n2:¬(fin ⟨ofString "rest",w,d,[t],[]⟩).kind=ofString "list":=by show ¬ofString "rest"=ofString "list";decide+kernel
 rw[if_neg n1,if_neg n2]
 refine(if_pos rfl).trans ?_
 show some (mkL (d++[t]).dropLast ((d++[t]).getLastD a2x))=_
 rw[Wz,V0]
def jc:List (List Pc)->List Pc
 | []=>[]
 | [p]=>p
 |p::q::r=>p++sg 44::jc (q::r)
theorem RdT.of{tb:Tb}{r r':List Pc}{lv:Lv}{y:Trm}(h:PO tb r [a3j] (some (r',[lv])))(h1:lv.done=[])(h2:jn lv.sides.reverse lv.wait.reverse=[y])(h3:y.size<=1000):RdT tb r (if y.size<=40 then some (y,r')else none):=by
 obtain⟨n,lp⟩:=h
 by_cases c:y.size<=40
 ·rw[if_pos c];exact .term lp h1 h2 c
 ·rw[if_neg c];exact .big lp h1 h2 (by omega) h3
def Reads(tb:Tb)(tp:List Pc)(t:Trm)(g:Bool):Prop:=∀r,Ea r->RdT tb (tp++r) (if g=true/\t.size<=40 then some (t,r)else none)
theorem d5d{tb:Tb}{tp:List Pc}{t:Trm}{lv:Pc->Lv}(h:∀r,Ea r->∃lv:Lv,PO tb (tp++r) [a3j] (some (r,[lv]))/\lv.done=[]/\jn lv.sides.reverse lv.wait.reverse=[t])(hs:t.size<=1000):Reads tb tp t true:=fun r hr=>by
 obtain⟨lv,h1,h2,h3⟩:=h r hr
 have:=RdT.of h1 h2 h3 hs
 simpa using this
theorem b8t{tb:Tb}{m:Str}{g:Sg}{t:Trm}:addM tb m g [t] []=some ([t],[m]):=by rw[addM];intro _ _ _ _ _ z;cases z
theorem c7t{p:Nat->Bool}{c:Nat}(hc:p c=false)(s:List Nat):∀r:List Nat,(r++c::s).takeWhile p=r.takeWhile p/\(r++c::s).dropWhile p=r.dropWhile p++c::s
 | []=>by simp[hc]
 |a::r=>by
  have:=c7t hc s r
  by_cases h:p a=true
  ·simp only[Zn,Xq,W6,h,if_true];exact⟨by rw[this.1],this.2⟩
  ·simp only[Zn,Xq,W6,h,Xu];exact⟨rfl,rfl⟩
theorem runP_no{a c:Nat}(h1:¬inn c)(h2:¬mkc c\/¬mkc a):runP a c=false:=by
 unfold runP
 split
 ·rename_i hm
  rcases h2 with h2|h2
  ·exact Zd h2
  ·exact absurd hm h2
 ·split
  ·exact Zd h1
  ·rfl
theorem d5e{c:Nat}(h1:¬inn c)(s:List Nat):∀(n:Nat)(l:List Nat),l.length=n->(¬mkc c\/∀y∈l,¬mkc y)->bits (l++c::s)=bits l++bits (c::s):=by
 intro n
 induction n using Nat.strongRecOn with
 |_ n ih=>
  intro l hl h2
  cases l with
  |nil=>rw[a4a];rfl
  |cons a r=>
   by_cases ha:a=32
   ·rw[ha,Zn,a2s,a2s]
    exact ih r.length (by rw[<-hl];simp) r rfl (h2.imp id fun h y hy=>h y (Zi _ hy))
   ·have hr:runP a c=false:=runP_no h1 (h2.imp id fun h=>h a (Zj ..))
    obtain⟨e1,e2⟩:=c7t hr s r
    rw[Zn,b1y ha,b1y ha,e1,e2,Zn]
    have hd:=c5b (p:=runP a) r
    rw[ih (r.dropWhile (runP a)).length (by rw[<-hl,length_cons];omega) _ rfl (h2.imp id fun h y hy=>h y (Zi _ ((Vr _).subset hy)))]
theorem a1r{c:Nat}(h:¬inn c/\¬mkc c)(l s:List Nat):bits (l++c::s)=bits l++bits (c::s):=d5e h.1 s _ l rfl (.inl h.2)
theorem a2c{c:Nat}(h:c∈a3o.cps.toList)(s:List Nat):bits (c::s)=[c]::bits s:=by
 have d:=c7p c h
 rw[b1y d.2.2.1,c5a d.2.2.2 d.1 d.2.1,(c3i s).1,(c3i s).2]
theorem d2k{p:Nat->Bool}{r:List Nat}(h:∀y∈r,p y=true):r.takeWhile p=r/\r.dropWhile p=[]:=by
 induction r with
 |nil=>exact⟨rfl,rfl⟩
 |cons a r ih=>
  have:=ih (fun y hy=>h y (Zi _ hy))
  simp only[Xq,W6,h a (Zj ..),if_true]
  exact⟨by rw[this.1],this.2⟩
theorem a6r{c:Nat}{r:List Nat}(h:inn c\/c=126)(hr:∀y∈r,inn y):bits (c::r)=[c::r]:=by
 have e:runP c=fun d=>decide (inn d):=by
  rcases h with h|h
  ·exact c4z h
  ·rw[h];exact d2b
 have hc:c≠32:=by
  rcases h with h|h
  ·exact(b1g h).2.2.1
  ·rw[h];decide
 have:=d2k (p:=fun d=>decide (inn d)) (r:=r) (fun y hy=>Zg (hr y hy))
 rw[b1y hc,e,this.1,this.2,a4a]
theorem c5k{c:Nat}{r:List Nat}(h:mkc c)(hr:∀y∈r,mkc y):bits (c::r)=[c::r]:=by
 have:=d2k (p:=fun d=>decide (mkc d)) (r:=r) (fun y hy=>Zg (hr y hy))
 rw[b1y (c7o c h).2.2.1,d2a h,this.1,this.2,a4a]
theorem no40:¬inn 40/\¬mkc 40:=by decide+kernel
theorem no41:¬inn 41/\¬mkc 41:=by decide+kernel
theorem no44:¬inn 44/\¬mkc 44:=by decide+kernel
theorem no93:¬inn 93/\¬mkc 93:=by decide+kernel
theorem no32:¬inn 32/\¬mkc 32:=by decide+kernel
theorem a1i:(40∈a3o.cps.toList/\41∈a3o.cps.toList)/\(44∈a3o.cps.toList/\124∈a3o.cps.toList)/\91∈a3o.cps.toList/\93∈a3o.cps.toList:=by decide+kernel
theorem c9c(l s:List Nat):bits (l++44::32::s)=bits l++sg 44::bits s:=by rw[a1r no44,a2c a1i.2.1.1,a2s]
def jt:List (List Nat)->List Nat
 | []=>[]
 | [p]=>p
 |p::q::r=>p++44::32::jt (q::r)
theorem a9f:∀{ts:List (List Nat)},bits (jt ts)=jc (ts.map bits)
 | []=>by rw[jt,a4a];rfl
 | [p]=>rfl
 |p::q::r=>by
  rw[jt,c9c,a9f]
  rfl
theorem b0u{c:Nat}{r:List Nat}(h:c∈a2k.cps.toList):kindOf (c::r)=ofString "word":=by rw[b4s (a3r h),if_pos h]
theorem b5a{c:Nat}{r:List Nat}(h:c∈a2v.cps.toList):kindOf (c::r)=ofString "name":=by rw[b4s (a8c h),if_neg (c4w c h).2.2.2.2.2,if_pos h]
theorem d5f{c:Nat}{r:List Nat}(h:c∈a2k.cps.toList):thgZ (c::r)=if(c::r).length<=12 then some (.app ⟨(c::r).toArray⟩ [])else none:=by
 unfold thgZ
 rw[b0u h,if_neg (by decide+kernel),if_neg (by decide+kernel),if_pos rfl]
theorem d5g{c:Nat}{r:List Nat}(h:c∈a2v.cps.toList):thgZ (c::r)=if(c::r).length<=12 then some (.any ⟨(c::r).toArray⟩)else none:=by
 unfold thgZ
 rw[b5a h,if_neg (by decide+kernel),if_pos rfl]
theorem b2t:∀{c:Nat},inn c->c<200:=fun{c} h=>by
 have a1:∀x∈a2k.cps.toList,x<200:=by decide+kernel
 have a2:∀x∈a2v.cps.toList,x<200:=by decide+kernel
 have a3:∀x∈figS.cps.toList,x<200:=by decide+kernel
 rcases h with h|h|h
 ·exact a1 c h
 ·exact a2 c h
 ·exact a3 c h
theorem c7u{l:List Nat}(h:∀z∈bits l,kindOf z≠a1f):b0o l=true:=by
 unfold b0o
 rw[Xx]
 intro z hz
 simp only[knB,Bool.not_eq_true',decide_eq_false_iff_not]
 exact h z hz
theorem a2t{a b:List Nat}(ha:a1v a)(hb:a1v b):a1v (a++b):=fun c hc=>(Z1.mp hc).elim (ha c) (hb c)
theorem b6l{c:Nat}{r:List Nat}(h:inn c)(hr:∀y∈r,inn y):a1v (c::r):=fun y hy=>by
 rcases Zk.mp hy with e|e
 ·rw[e];exact b2t h
 ·exact b2t (hr y e)
theorem b8u:∀{ls:List (List Nat)},(∀l∈ls,a1v l)->a1v (jt ls)
 | [],_=>fun _ h=>by cases h
 | [p],h=>h p (Zj ..)
 |p::q::r,h=>by
  have h2:=b8u (ls:=q::r) (fun l hl=>h l (Zi _ hl))
  rw[jt]
  refine a2t (h p (Zj ..)) (fun c hc=>?_)
  rcases Zk.mp hc with e|e
  ·rw[e];decide
  ·rcases Zk.mp e with e|e
   ·rw[e];decide
   ·exact h2 c e
theorem d2l{z:Pc}:∀{ls:List (List Pc)},z∈jc ls->(∃l∈ls,z∈l)\/z=sg 44
 | [],h=>by cases h
 | [p],h=>.inl ⟨p,Zj ..,h⟩
 |p::q::r,h=>by
  rw[jc]at h
  rcases Z1.mp h with h|h
  ·exact .inl ⟨p,Zj ..,h⟩
  ·rcases Zk.mp h with h|h
   ·exact .inr h
   ·rcases d2l h with⟨l,h1,h2⟩|h
    ·exact .inl ⟨l,Zi _ h1,h2⟩
    ·exact .inr h
theorem figs_inj':∀(m n:Nat),a1k m=a1k n->m=n:=by
 intro m
 induction m using Nat.strongRecOn with
 |ind m ih=>
  intro n h
  by_cases hm:m<10
  ·by_cases hn:n<10
   ·rw[b1d hm,b1d hn]at h
    have:48+m=48+n:=by simpa using h
    omega
   ·rw[b1d hm,b1e (by omega)]at h
    have e:=Z9 List.length h
    obtain⟨_,x,r,e2,_⟩:=b1f (n/10)
    rw[e2]at e
    simp at e
  ·by_cases hn:n<10
   ·rw[b1d hn,b1e (by omega)]at h
    have e:=Z9 List.length h
    obtain⟨_,x,r,e2,_⟩:=b1f (m/10)
    rw[e2]at e
    simp at e
   ·rw[b1e (by omega:10<=m),b1e (by omega:10<=n)]at h
    obtain⟨e1,e2⟩:=Xw h rfl
    have e3:=ih (m/10) (by omega) _ e1
    have e4:48+m%10=48+n%10:=by simpa using e2
    omega
theorem d5h{f:List Nat}(h:NumZ f):a2n f=decide (f.length<=30):=by
 obtain⟨x,r,e,hf,hx⟩:=h
 unfold a2n
 have h1:f.all figB=true:=Xx.mpr fun y hy=>Zg (hf y hy)
 have h2:decide (1<=f.length)=true:=Zg (by rw[e];simp)
 have h3:(decide (f=[48])||decide (f.head? ≠some 48))=true:=by
  rw[e]
  by_cases z:x=48
  ·rcases hx with hx|hx
   ·rw[z,hx];decide
   ·exact absurd z hx
  ·rw[Bool.or_eq_true];exact .inr (Zg (by simpa using z))
 rw[h1,h2,h3]
 simp
def ngT(b:Bool)(f:List Nat):List Nat:=if b=true then 126::f else f
def ngV(b:Bool)(f:List Nat):Int:=if b=true then -(valD f:Int)else(valD f:Int)
theorem ng_ok{f:List Nat}(h:NumZ f)(h0:f≠[48])(b:Bool):bits (ngT b f)=[ngT b f]/\(∀y∈ngT b f,y<200)/\(if f.length<=30 then kindOf (ngT b f)=ofString "num"/\thgZ (ngT b f)=some (.num (ngV b f))else kindOf (ngT b f)=a1f):=by
 have hn:=d5h h
 obtain⟨x,r,e,hf,hx⟩:=h
 have hi:∀y∈f,inn y:=fun y hy=>c0w (hf y hy)
 have hxf:=hf x (by rw[e];exact Zj ..)
 cases b with
 |true=>
  refine⟨?_,fun y hy=>?_,?_⟩
  ·exact a6r (.inr rfl) hi
  ·rcases Zk.mp hy with e|e
   ·rw[e];decide
   ·exact b2t (hi y e)
  ·show if f.length<=30 then kindOf (126::f)=_/\thgZ (126::f)=_ else kindOf (126::f)=a1f
   by_cases c:f.length<=30
   ·have ek:kindOf (126::f)=ofString "num":=by rw[b8r,hn,if_neg (by simp[h0,c])]
    rw[if_pos c]
    refine⟨ek,?_⟩
    unfold thgZ
    rw[ek,if_pos rfl,valZ,if_pos rfl]
    rfl
   ·rw[if_neg c,b8r,hn,if_pos (by simp[c])]
 |false=>
  refine⟨?_,fun y hy=>b2t (hi y hy),?_⟩
  ·show bits f=[f]
   rw[e]
   exact a6r (.inl (c0w hxf)) (fun y hy=>hi y (by rw[e];exact Zi _ hy))
  ·show if f.length<=30 then kindOf f=_/\thgZ f=some (.num (valD f:Int))else kindOf f=a1f
   have d:=d1x x hxf
   have ek:kindOf f=if a2n f=true then ofString "num" else a1f:=by rw[e,b4s (c0w hxf),if_neg d.2.2.2.2.2.1,if_neg d.2.2.2.2.2.2]
   rw[hn]at ek
   by_cases c:f.length<=30
   ·rw[if_pos c]
    have ek:kindOf f=ofString "num":=by rw[ek,if_pos (Zg c)]
    refine⟨ek,?_⟩
    unfold thgZ
    rw[ek,if_pos rfl]
    congr 2
    rw[e,valZ,if_neg d.2.1]
   ·rw[if_neg c,ek,if_neg (by simp[c])]
abbrev a2m:Str:=ofString "right"
def rkt(tb:Tb):Trm->Int
 | .app m _=>((lkT tb m).getD (0,a1f)).1
 |_=>0
structure TbOk(tb:Tb):Prop where
 pos:∀m g,lkT tb m=some g->1<=g.1
 side:∀m g,lkT tb m=some g->g.2=a2w\/g.2=a2m\/g.2=a1f
 same:∀m g m' g',lkT tb m=some g->lkT tb m'=some g'->g.1=g'.1->g.2=g'.2
structure TbM(tb:Tb):Prop where
 ok:TbOk tb
 mks:∀m,(lkT tb m).isSome=true->∃x r,m=(⟨(x::r).toArray⟩:Str)/\mkc x
 len:tb.length<=20
structure Spn(B:Str->Prop)(t:Trm)(xs:List Trm)(ms:List Str):Prop where
 jn:jn xs.reverse ms.reverse=[t]
 ln:xs.length=ms.length+1
 rk:∀m∈ms,B m
theorem Spn.one{B:Str->Prop}{t:Trm}:Spn B t [t] []:=⟨rfl,rfl,fun _ z=>by cases z⟩
theorem Spn.to{B C:Str->Prop}{t:Trm}{xs:List Trm}{ms:List Str}(h:Spn B t xs ms)(k:∀m,B m->C m):Spn C t xs ms:=⟨h.jn,h.ln,fun m hm=>k m (h.rk m hm)⟩
theorem c7v{tb:Tb}{m:Str}{g:Sg}{S:List Trm}{W:List Str}{a:Trm}:∀(ms:List Str)(xs:List Trm),xs.length=ms.length+1->jn xs ms=[a]->(∀w∈ms,bf ((lkT tb w).getD (0,a1f)) g=some true)->addM tb m g (xs++S) (ms++W)=addM tb m g (a::S) W
 | [],[x],_,h,_=>by
  have:[x]=[a]:=h
  cases this
  rfl
 | [],[],hl,_,_=>by simp at hl
 | [],_::_::_,hl,_,_=>by simp at hl
 |_::_,[],hl,_,_=>by simp at hl
 |_::_,[_],hl,_,_=>by simp at hl
 |w::ws,b::a'::r,hl,h,hb=>by
  rw[Zn,Zn,Zn,addM,hb w (Zj ..)]
  exact c7v ws (.app w [a',b]::r) (by simp at hl ⊢;omega) (by rw[jn]at h;exact h) (fun x hx=>hb x (Zi _ hx))
theorem d2m{tb:Tb}{m:Str}{g:Sg}{s:List Trm}{W:List Str}(hl:s.length=W.length+1)(h:∀w ws,W=w::ws->bf ((lkT tb w).getD (0,a1f)) g=some false):addM tb m g s W=some (s,m::W):=by
 cases W with
 |nil=>
  cases s with
  |nil=>simp at hl
  |cons x r=>
   cases r with
   |nil=>exact b8t
   |cons y r=>simp at hl
 |cons w ws=>
  cases s with
  |nil=>simp at hl
  |cons x r=>
   cases r with
   |nil=>simp at hl
   |cons y r=>rw[addM,h w ws rfl]
theorem d2n{S:List Trm}{W:List Str}{a:Trm}:∀(ms:List Str)(xs:List Trm),xs.length=ms.length+1->jn xs ms=[a]->jn (xs++S) (ms++W)=jn (a::S) W
 | [],[x],_,h=>by
  have:[x]=[a]:=h
  cases this
  rfl
 | [],[],hl,_=>by simp at hl
 | [],_::_::_,hl,_=>by simp at hl
 |_::_,[],hl,_=>by simp at hl
 |_::_,[_],hl,_=>by simp at hl
 |w::ws,b::a'::r,hl,h=>by
  rw[Zn,Zn,Zn,jn]
  exact d2n ws (.app w [a',b]::r) (by simp at hl ⊢;omega) (by rw[jn]at h;exact h)
structure Fit(tb:Tb)(lv:Lv)(t:Trm):Prop where
 ln:lv.sides.length=lv.wait.length
 ok:∀W w,lv.wait=W++[w]->∃g,lkT tb w=some g/\(rkt tb t<g.1\/(rkt tb t=g.1/\g.2=a2m))
def RdY(tb:Tb)(F:Lv->Prop)(p:List Pc)(xs:List Trm)(ms:List Str):Prop:=∀{r:List Pc}{lv:Lv}{st:List Lv}{o:Option (List Pc×List Lv)},hK r≠sgK "("->F lv->PC tb r { lv with sides:=lv.sides++xs,wait:=lv.wait++ms} st o->PO tb (p++r) (lv::st) o
def Rdg(tb:Tb)(t:Trm)(p:List Pc):Prop:=∃xs ms,Spn (fun m=>∃g,lkT tb m=some g/\g.1<=rkt tb t) t xs ms/\RdY tb (fun lv=>Fit tb lv t) p xs ms
def RdL(tb:Tb)(g:Sg)(t a:Trm)(p:List Pc):Prop:=∃xs ms,Spn (fun w=>bf ((lkT tb w).getD (0,a1f)) g=some true) a xs ms/\RdY tb (fun lv=>Fit tb lv t) p xs ms
def RdB(tb:Tb)(m:Str)(g:Sg)(b:Trm)(p:List Pc):Prop:=∃xs ms,Spn (fun w=>∃h,lkT tb w=some h/\h.1<=g.1) b xs ms/\RdY tb (fun lv=>lv.sides.length=lv.wait.length/\∃W,lv.wait=W++[m]) p xs ms
theorem Rds.x{tb:Tb}{t:Trm}{p:List Pc}{F:Lv->Prop}(h:Rds tb t p):RdY tb F p [t] []:=fun{r lv st o} hr _ k=>h hr (by rw[Yo]at k;exact k)
theorem Rds.g{tb:Tb}{t:Trm}{p:List Pc}(h:Rds tb t p):Rdg tb t p:=⟨_,_,Spn.one,@Rds.x _ _ _ _ h⟩
theorem Rds.l{tb:Tb}{g:Sg}{t a:Trm}{p:List Pc}(h:Rds tb a p):RdL tb g t a p:=⟨_,_,Spn.one,@Rds.x _ _ _ _ h⟩
theorem Rds.b{tb:Tb}{m:Str}{g:Sg}{b:Trm}{p:List Pc}(h:Rds tb b p):RdB tb m g b p:=⟨_,_,Spn.one,@Rds.x _ _ _ _ h⟩
theorem Rdg.l{tb:Tb}(ok:TbOk tb){m:Str}{g:Sg}(hg:lkT tb m=some g){t a:Trm}{p:List Pc}(h:Rdg tb a p)(hc:rkt tb a<g.1\/(rkt tb a=g.1/\g.2=a2w))(ht:rkt tb t=g.1):RdL tb g t a p:=by
 obtain⟨xs,ms,sp,rx⟩:=h
 refine⟨xs,ms,sp.to (fun w hw=>?_),fun{r lv st o} hr hf k=>rx hr ⟨hf.ln,fun W w e=>?_⟩ k⟩
 ·obtain⟨g2,e,hle⟩:=hw
  rw[e,Vi,bf]
  by_cases c:g2.1=g.1
  ·have hl:g.2=a2w:=by
    rcases hc with hc|hc
    ·omega
    ·exact hc.2
   rw[if_pos c,hl,if_neg (by decide+kernel),Zg rfl]
  ·rw[if_neg c,Zg (by omega)]
 ·obtain⟨g',e',hh⟩:=hf.ok W w e
  refine⟨g',e',.inl ?_⟩
  rcases hh with hh|hh
  ·omega
  ·have:=ok.same _ _ _ _ hg e' (by omega)
   rcases hc with hc|hc
   ·omega
   ·rw[hc.2,hh.2]at this
    exact absurd this (by decide+kernel)
theorem Rdg.b{tb:Tb}{m:Str}{g:Sg}(hg:lkT tb m=some g){b:Trm}{p:List Pc}(h:Rdg tb b p)(hc:rkt tb b<g.1\/(rkt tb b=g.1/\g.2=a2m)):RdB tb m g b p:=by
 obtain⟨xs,ms,sp,rx⟩:=h
 refine⟨xs,ms,sp.to (fun w hw=>?_),fun{r lv st o} hr hf k=>rx hr ⟨hf.1,fun W w e=>?_⟩ k⟩
 ·obtain⟨g2,e,hle⟩:=hw
  exact⟨g2,e,by omega⟩
 ·obtain⟨W',e'⟩:=hf.2
  rw[e']at e
  obtain⟨_,e2⟩:=Xw e rfl
  cases e2
  exact⟨g,hg,hc⟩
theorem d5i{tb:Tb}(ok:TbOk tb){z:Pc}(hz:kindOf z=ofString "mark"){g:Sg}(hg:lkT tb ⟨z.toArray⟩=some g){a b:Trm}{pa pb:List Pc}(ha:RdL tb g (.app ⟨z.toArray⟩ [a,b]) a pa)(hb:RdB tb ⟨z.toArray⟩ g b pb):Rdg tb (.app ⟨z.toArray⟩ [a,b]) (pa++z::pb):=by
 obtain⟨xs,ms,sp,rx⟩:=ha
 obtain⟨ys,ns,sq,ry⟩:=hb
 have hr:rkt tb (.app ⟨z.toArray⟩ [a,b])=g.1:=by show((lkT tb ⟨z.toArray⟩).getD (0,a1f)).1=g.1;rw[hg];rfl
 have nz:∀s,Pc.ks z≠[Sum.inr (ofString "sign"),Sum.inr s]:=fun s=>a4h rfl s (by rw[hz];decide+kernel)
 refine⟨a::ys,⟨z.toArray⟩::ns,⟨?_,?_,?_⟩,fun{r lv st o} h1 hf k=>?_⟩
 ·rw[Yb,Yb,d2n _ _ (by simpa using sq.ln) sq.jn]
  rfl
 ·simpa using sq.ln
 ·intro m hm
  rw[hr]
  rcases Zk.mp hm with rfl|hm
  ·exact⟨g,hg,Int.le_refl _⟩
  ·exact sq.rk m hm
 ·have e:(pa++z::pb)++r=pa++(z::(pb++r)):=by simp
  rw[e]
  refine rx (r:=z::(pb++r)) (nz _) hf (PC.stop (nz _) (PB.mark hz hg (q:=((lv.sides++[a]).reverse,(lv.wait++[(⟨z.toArray⟩:Str)]).reverse)) ?_ ?_))
  ·show addM tb _ g (lv.sides++xs).reverse (lv.wait++ms).reverse=_
   rw[Xr,Xr,c7v _ _ (by simpa using sp.ln) sp.jn (fun w hw=>sp.rk w (Vl.mp hw)),d2m (by simpa using hf.ln)]
   ·simp
   ·intro w ws e
    have e:lv.wait=ws.reverse++[w]:=by rw[<-Xm lv.wait,e];simp
    obtain⟨g',e',hh⟩:=hf.ok _ _ e
    rw[hr]at hh
    rw[e',Vi,bf]
    by_cases c:g'.1=g.1
    ·have s2:=ok.same _ _ _ _ e' hg c
     rcases hh with hh|hh
     ·omega
     ·rw[if_pos c,<-s2,hh.2,if_neg (by decide+kernel),Zd (by decide+kernel)]
    ·rw[if_neg c,Zd (by omega)]
  ·rw[Xm,Xm]
   refine ry h1 ⟨by simpa using hf.ln,lv.wait,rfl⟩ ?_
   have e1:(lv.sides++[a])++ys=lv.sides++a::ys:=by simp
   have e2:(lv.wait++[(⟨z.toArray⟩:Str)])++ns=lv.wait++(⟨z.toArray⟩:Str)::ns:=by simp
   show PC tb r { lv with sides:=(lv.sides++[a])++ys,wait:=(lv.wait++[(⟨z.toArray⟩:Str)])++ns} st o
   rw[e1,e2]
   exact k
def RdK(tb:Tb)(t:Trm)(p:List Pc):Prop:=∃xs ms,jn xs.reverse ms.reverse=[t]/\∀{r:List Pc}{lv:Lv}{st:List Lv}{o:Option (List Pc×List Lv)},lv.sides=[]->lv.wait=[]->hK r≠sgK "("->PC tb r { lv with sides:=xs,wait:=ms} st o->PO tb (p++r) (lv::st) o
theorem Rdg.k{tb:Tb}{t:Trm}{p:List Pc}(h:Rdg tb t p):RdK tb t p:=by
 obtain⟨xs,ms,sp,rx⟩:=h
 refine⟨xs,ms,sp.jn,fun{r lv st o} e1 e2 hr k=>rx hr ⟨by rw[e1,e2];rfl,fun W w e=>?_⟩ (by rw[e1,e2];exact k)⟩
 rw[e2]at e
 exact absurd (Z9 List.length e) (by simp)
theorem b2c{lv:Lv}{xs:List Trm}{ms:List Str}{t:Trm}(h:jn xs.reverse ms.reverse=[t]):fin { lv with sides:=xs,wait:=ms}=fin { lv with sides:=[t],wait:=[]}:=by
 unfold fin
 simp only[h]
 rfl
theorem b6m{tb:Tb}{t:Trm}{p:List Pc}(h:RdK tb t p):Rds tb t (sg 40::(p++[sg 41])):=fun{r lv st o} _ k=>by
 obtain⟨xs,ms,hj,rx⟩:=h
 have e:(sg 40::(p++[sg 41]))++r=sg 40::(p++sg 41::r):=by simp
 rw[e]
 refine PO.round k40 (rx rfl rfl (by show Pc.ks (sg 41)≠_;rw[k41];exact a3w (by decide+kernel)) (PC.step (by rw[cl_rd];exact k41) (t:=t) ?_ k))
 rw[b2c hj]
 exact clo_rd (ss:=[])
theorem c5l{tb:Tb}:∀(ks:List (Trm×List Pc)),ks≠[]->(∀q∈ks,RdK tb q.1 q.2)->∀{r:List Pc}{lu:Lv}{st:List Lv}{z:Str}{d:List Trm}{o:Option (List Pc×List Lv)},(d++ks.map (·.1)).length<=4->PC tb r { lu with sides:=lu.sides++[.app z (d++ks.map (·.1))]} st o->PO tb (jc (ks.map (·.2))++sg 41::r) (⟨ofString "kids",z,d,[],[]⟩::lu::st) o
 | [],h,_,_,_,_,_,_,_,_,_=>absurd rfl h
 | [q],_,hk,r,lu,st,z,d,o,h1,h2=>by
  obtain⟨xs,ms,hj,rx⟩:=hk q (Zj ..)
  refine rx rfl rfl (by show Pc.ks (sg 41)≠_;rw[k41];exact a3w (by decide+kernel)) ?_
  refine PC.step (by rw[cl_kd];exact k41) (t:=.app z (d++[q.1])) ?_ h2
  rw[b2c hj]
  exact clo_kd.trans (if_pos h1)
 |q::q2::ks,_,hk,r,lu,st,z,d,o,h1,h2=>by
  have e:jc ((q::q2::ks).map (·.2))++sg 41::r=q.2++(sg 44::(jc ((q2::ks).map (·.2))++sg 41::r)):=by simp[jc]
  rw[e]
  obtain⟨xs,ms,hj,rx⟩:=hk q (Zj ..)
  refine rx rfl rfl (by show Pc.ks (sg 44)≠_;rw[k44];exact a3w (by decide+kernel)) ?_
  refine PC.stop (by rw[cl_kd];show Pc.ks (sg 44)≠_;rw[k44];exact a3w (by decide+kernel)) (PB.comma k44 (.inl rfl) ?_)
  rw[b2c hj]
  have e2:d++(q::q2::ks).map (·.1)=(d++[q.1])++(q2::ks).map (·.1):=by simp
  rw[e2]at h1 h2
  exact c5l (q2::ks) (by simp) (fun x hx=>hk x (Zi _ hx)) h1 h2
theorem rdk_app{tb:Tb}{z:Pc}(hk:kindOf z=ofString "word")(hz:z.length<=12){ks:List (Trm×List Pc)}(hn:ks≠[])(h4:ks.length<=4)(h:∀q∈ks,RdK tb q.1 q.2):Rds tb (.app ⟨z.toArray⟩ (ks.map (·.1))) (z::sg 40::(jc (ks.map (·.2))++[sg 41])):=fun{r lv st o} _ k=>by
 have e:(z::sg 40::(jc (ks.map (·.2))++[sg 41]))++r=z::sg 40::(jc (ks.map (·.2))++sg 41::r):=by simp
 rw[e]
 exact PO.kids hk k40 hz (c5l ks hn h (by simpa using h4) k)
def rstP(c:Option (Trm×List Pc)):List Pc:=match c with|none=>[]|some c=>sg 124::c.2
def rstT(c:Option (Trm×List Pc)):Trm:=match c with|none=>a2x|some c=>c.1
theorem c2l{tb:Tb}{c:Option (Trm×List Pc)}(hc:∀q,c=some q->RdK tb q.1 q.2):∀(ps:List (Trm×List Pc)),(∀q∈ps,RdK tb q.1 q.2)->∀{r:List Pc}{lu:Lv}{st:List Lv}{o:Option (List Pc×List Lv)}{d:List Trm}{p:Trm×List Pc},RdK tb p.1 p.2->PC tb r { lu with sides:=lu.sides++[mkL (d++(p.1::ps.map (·.1))) (rstT c)]} st o->PO tb (jc (p.2::ps.map (·.2))++(rstP c++sg 93::r)) (⟨ofString "list",ofString "",d,[],[]⟩::lu::st) o
 | [],_,r,lu,st,o,d,p,hp,k=>by
  obtain⟨xs,ms,hj,rx⟩:=hp
  cases c with
  |none=>
   refine rx rfl rfl (by show Pc.ks (sg 93)≠_;rw[k93];exact a3w (by decide+kernel)) ?_
   refine PC.step (by rw[cl_lt];exact k93) (t:=mkL (d++[p.1]) a2x) ?_ k
   rw[b2c hj]
   exact clo_lt
  |some c=>
   refine rx rfl rfl (by show Pc.ks (sg 124)≠_;rw[k124];exact a3w (by decide+kernel)) ?_
   refine PC.stop (by rw[cl_lt];show Pc.ks (sg 124)≠_;rw[k124];exact a3w (by decide+kernel)) (PB.bar k124 rfl ?_)
   rw[b2c hj]
   obtain⟨ys,ns,hj2,ry⟩:=hc c rfl
   refine ry rfl rfl (by show Pc.ks (sg 93)≠_;rw[k93];exact a3w (by decide+kernel)) ?_
   refine PC.step (by rw[cl_rs];exact k93) (t:=mkL (d++[p.1]) c.1) ?_ k
   rw[b2c hj2]
   exact clo_rs
 |q::ps,hq,r,lu,st,o,d,p,hp,k=>by
  have e:jc (p.2::(q::ps).map (·.2))++(rstP c++sg 93::r)=p.2++(sg 44::(jc (q.2::ps.map (·.2))++(rstP c++sg 93::r))):=by simp[jc]
  rw[e]
  obtain⟨xs,ms,hj,rx⟩:=hp
  refine rx rfl rfl (by show Pc.ks (sg 44)≠_;rw[k44];exact a3w (by decide+kernel)) ?_
  refine PC.stop (by rw[cl_lt];show Pc.ks (sg 44)≠_;rw[k44];exact a3w (by decide+kernel)) (PB.comma k44 (.inr rfl) ?_)
  rw[b2c hj]
  refine c2l hc ps (fun x hx=>hq x (Zi _ hx)) (d:=d++[p.1]) (hq q (Zj ..)) ?_
  have e3:(d++[p.1])++q.1::ps.map (·.1)=d++(p.1::(q::ps).map (·.1)):=by simp
  rw[e3]
  exact k
theorem d5j{tb:Tb}{c:Option (Trm×List Pc)}(hc:∀q,c=some q->RdK tb q.1 q.2){p:Trm×List Pc}{ps:List (Trm×List Pc)}(hp:RdK tb p.1 p.2)(hh:∀r,hK (p.2++r)≠sgK "]")(hq:∀q∈ps,RdK tb q.1 q.2):Rds tb (mkL (p.1::ps.map (·.1)) (rstT c)) (sg 91::(jc (p.2::ps.map (·.2))++(rstP c++[sg 93]))):=fun{r lv st o} _ k=>by
 have e:(sg 91::(jc (p.2::ps.map (·.2))++(rstP c++[sg 93])))++r=sg 91::(jc (p.2::ps.map (·.2))++(rstP c++sg 93::r)):=by simp
 rw[e]
 refine PO.list k91' ?_ (c2l hc ps hq hp k)
 cases ps with
 |nil=>exact hh _
 |cons q ps=>simp only[Zp,jc,Zx];exact hh _
theorem d5k{tb:Tb}:Rds tb a2x [sg 91,sg 93]:=fun{r lv st o} _ k=>by
 refine PO.thing (a6q (by show Pc.ks (sg 91)≠_;rw[k91'];exact a3w (by decide+kernel)) (fun _=>k93) (fun z' r' e hk=>?_)) (t:=a2x) (r2:=r) ?_ k
 ·cases e
  exact absurd hk (by decide+kernel)
 ·show thg (sg 91::sg 93::r)=_
  rw[thg,if_pos k91']
  rfl
theorem reads_g{tb:Tb}{tp:List Pc}{t:Trm}(h:Rdg tb t tp)(hs:t.size<=1000):Reads tb tp t true:=by
 obtain⟨xs,ms,hj,rx⟩:=h.k
 refine d5d (lv:=fun _=>a3j) (fun r hr=>⟨{ a3j with sides:=xs,wait:=ms},rx rfl rfl hr.no (PC.whole (PB.stop hr rfl)),rfl,hj⟩) hs
abbrev emptyS:Str:=ofString "[]"
theorem isP(sg:Str)(ks:List Trm):(Trm.app sg ks).isPair=(decide (sg=pairS)&&decide (ks.length=2)):=rfl
theorem c7w{K:W.Frag}{H:Hp}{us:List V}{a b:Trm}(h:DenL K H us (Trm.dataL [a,b])):∃x y,us=[x,y]/\Den K H x a.data/\Den K H y b.data:=by
 simp only[Trm.dataL]at h
 cases h with
 |cons h1 h=>
  cases h with
  |cons h2 h=>cases h;exact⟨_,_,rfl,h1,h2⟩
theorem c9d(sg:Str)(ks:List Trm):(Trm.app sg ks).isPair=(decide (sg=pairS)&&decide (ks.length=2)):=rfl
abbrev TbF:=Str->Option (Int×Str)
def c5m(x:Str):Prop:=∃z:List Nat,x=⟨z.toArray⟩/\1<=z.length/\z.length<=3/\∀y∈z,y∈a6c.cps.toList
def a5q(K:W.Frag)(H:Hp)(d:Addr)(tb:TbF):Prop:=∃kvs:List (Key×V),H d=some (.dK kvs)/\(∀x,match valV kvs (.inr x)with|none=>tb x=none|some v=>∃a r s,v=.ref a/\SqT K H a [.int r,.str s]/\tb x=some (r,s))/\(∀x p,tb x=some p->c5m x)
theorem a5q.mono{K:W.Frag}{H H':Hp}{d:Addr}{tb:TbF}(h:a5q K H d tb)(s:Same H H'):a5q K H' d tb:=by
 obtain⟨kvs,h1,h2,h3⟩:=h
 refine⟨kvs,s _ _ h1,fun x=>?_,h3⟩
 have:=h2 x
 cases e:valV kvs (.inr x)with
 |none=>rw[e]at this;exact this
 |some v=>
  rw[e]at this
  obtain⟨a,r,t,g1,g2,g3⟩:=this
  exact⟨a,r,t,g1,s.tup g2,g3⟩
theorem a5q.get{K:W.Frag}{H:Hp}{d:Addr}{tb:TbF}(h:a5q K H d tb)(x:Str):(tb x=none/\DGet H d (.str x) none)\/∃a r s,tb x=some (r,s)/\SqT K H a [.int r,.str s]/\DGet H d (.str x) (some (.ref a)):=by
 obtain⟨kvs,h1,h2,h3⟩:=h
 have:=h2 x
 have g:=DGet.k (k:=.inr x) h1
 cases e:valV kvs (.inr x)with
 |none=>rw[e]at this g;exact .inl ⟨this,g⟩
 |some v=>
  rw[e]at this g
  obtain⟨a,r,t,rfl,g2,g3⟩:=this
  exact .inr ⟨a,r,t,g3,g2,g⟩
abbrev TxR:=List Nat×Int×Nat
def numT(n:Int):List Nat:=if n<0 then 126::a1k n.natAbs else a1k n.natAbs
def inBr(p:TxR)(most:Int):List Nat:=if most<p.2.1 then 40::p.1++[41]else p.1
def a8n(sg:Str)(r:Int)(s:Str)(a b:TxR):TxR:=(inBr a (r-1+if s=a2w then 1 else 0)++[32]++sg.cps.toList++[32]++inBr b (r-1+if s=a2m then 1 else 0),r,0)
def a9r(a b:TxR):TxR:=if b.2.2=2 then(91::a.1++[93],0,1)else if b.2.2=1 then(91::a.1++[44,32]++b.1.tail,0,1)else(91::a.1++[32,124,32]++b.1++[93],0,1)
def a0y:List (List Nat)->List Nat
 | []=>[]
 | [a]=>a
 |a::b::r=>a++[44,32]++a0y (b::r)
def txA(tb:TbF)(sg:Str)(rows:List TxR):TxR:=
 if sg=emptyS then([91,93],0,2)else if sg=pairS then(match rows with| [a,b]=>a9r a b|_=>([],0,0))else
 match tb sg with
 |some (r,s)=>(match rows with| [a,b]=>a8n sg r s a b|_=>([],0,0))
 |none=>(match rows with| []=>(sg.cps.toList,0,0)|_=>(sg.cps.toList++[40]++a0y (rows.map (·.1))++[41],0,0))
mutual
def tx(tb:TbF):Trm->TxR
 | .num n=>(numT n,0,0)
 | .any x=>(x.cps.toList,0,0)
 | .app sg ks=>txA tb sg (txL tb ks)
def txL(tb:TbF):List Trm->List TxR
 | []=>[]
 |t::r=>tx tb t::txL tb r
end
theorem b4b(tb:TbF):∀ts,txL tb ts=ts.map (tx tb)
 | []=>rfl
 |t::r=>by rw[txL,b4b tb r,Zp]
def wfSA(tb:TbF)(sg:Str)(n:Nat):Prop:=sg.length<=12/\n<=4/\((sg=emptyS/\n=0)\/(sg=pairS/\n=2)\/(sg≠emptyS/\sg≠pairS/\(∃p,tb sg=some p)/\n=2)\/(sg≠emptyS/\sg≠pairS/\tb sg=none))
mutual
def wfS(tb:TbF):Trm->Prop
 | .num n=>-(10^30)<n/\n<10^30
 | .any x=>x.length<=12
 | .app sg ks=>wfSA tb sg ks.length/\wfSL tb ks
def wfSL(tb:TbF):List Trm->Prop
 | []=>True
 |t::r=>wfS tb t/\wfSL tb r
end
theorem c5n{tb:TbF}:∀{ts:List Trm},wfSL tb ts↔∀t∈ts,wfS tb t
 | []=>by simp[wfSL]
 |t::r=>by
  rw[wfSL,c5n (ts:=r)]
  simp
theorem c5o{n:Int}(h0:-(10^30)<n)(h1:n<10^30):(numT n).length<=31:=by
 unfold numT
 have:(a1k n.natAbs).length<=30:=b1q (by decide) (by omega)
 split
 ·rw[length_cons];omega
 ·omega
theorem c5p(p:TxR)(m:Int):(inBr p m).length<=p.1.length+2:=by
 unfold inBr
 split
 ·simp
 ·omega
theorem c2m:∀l:List (List Nat),(a0y l).length<=(l.map List.length).sum+2*l.length
 | []=>by simp[a0y]
 | [a]=>by simp[a0y]
 |a::b::r=>by
  have:=c2m (b::r)
  rw[a0y,Za,Za,Zp,Ww,length_cons (a:=a)]
  simp only[length_cons,length_nil]at*
  omega
mutual
theorem b6n(tb:TbF):∀t,wfS tb t->(tx tb t).1.length<=40*t.size
 | .num n,h=>by
  have:=c5o h.1 h.2
  simp only[tx,Trm.size];omega
 | .any x,h=>by
  have h:x.length<=12:=h
  have e:x.cps.toList.length=x.length:=by simp[Str.length]
  simp only[tx,Trm.size];omega
 | .app sg ks,h=>by
  have h2:=c7x tb ks h.2
  obtain⟨g1,g2,g3⟩:=h.1
  have e:sg.cps.toList.length=sg.length:=by simp[Str.length]
  have hl:(txL tb ks).length=ks.length:=by rw[b4b,length_map]
  simp only[tx,Trm.size]
  generalize txL tb ks=rows at h2 hl
  unfold txA
  split
  ·simp;omega
  ·split
   ·split
    ·rename_i a b
     simp only[Zp,Y3,Ww,List.sum_nil]at h2
     unfold a9r
     split
     ·simp;omega
     ·split
      ·have:b.1.tail.length<=b.1.length:=by rw[List.length_tail];omega
       simp only[Za,length_cons,length_nil];omega
      ·simp only[Za,length_cons,length_nil];omega
    ·simp
   ·split
    ·rename_i r s _
     split
     ·rename_i a b
      simp only[Zp,Y3,Ww,List.sum_nil]at h2
      have i1:=c5p a (r-1+if s=a2w then 1 else 0)
      have i2:=c5p b (r-1+if s=a2m then 1 else 0)
      unfold a8n
      simp only[Za,length_cons,length_nil];omega
     ·simp
    ·split
     ·simp only;omega
     ·have:=c2m (rows.map (·.1))
      rw[Y9,length_map]at this
      have e2:(rows.map (List.length∘fun x=>x.1)).sum=(rows.map fun p=>p.1.length).sum:=rfl
      simp only[Za,length_cons,length_nil]
      omega
theorem c7x(tb:TbF):∀ts,wfSL tb ts->((txL tb ts).map fun p=>p.1.length).sum<=40*Trm.sizeL ts
 | [],_=>by simp[txL]
 |t::r,h=>by
  have h1:=b6n tb t h.1
  have h2:=c7x tb r h.2
  simp only[txL,Zp,Ww,Trm.sizeL]
  omega
end
abbrev Itm:=Trm ⊕ List Nat
def itT(tb:TbF):Itm->List Nat
 | .inl t=>(tx tb t).1
 | .inr s=>s
def itM:Itm->Nat
 | .inl t=>8*t.size
 | .inr _=>1
def rowT(tb:TbF)(l:List Itm):List Nat:=(l.map (itT tb)).flatten
def rowM(l:List Itm):Nat:=(l.map itM).sum
theorem a3a(tb:TbF)(a b:List Itm):rowT tb (a++b)=rowT tb a++rowT tb b:=by unfold rowT;rw[Zq,Tx]
theorem a2q(a b:List Itm):rowM (a++b)=rowM a+rowM b:=by unfold rowM;rw[Zq,List.sum_append]
theorem c5q(a:List Itm):rowM a.reverse=rowM a:=by unfold rowM;rw[List.map_reverse,List.sum_reverse]
def itOk(tb:TbF):Itm->Prop
 | .inl t=>wfS tb t
 | .inr s=>s.length<=40
def ItD(K:W.Frag)(H:Hp)(v:V):Itm->Prop
 | .inl t=>Den K H v t.data
 | .inr s=>v=.str ⟨s.toArray⟩
inductive ItL(K:W.Frag)(H:Hp):List V->List Itm->Prop
 |nil:ItL K H [] []
 |cons {v:V} {vs:List V} {i:Itm} {l:List Itm}:ItD K H v i->ItL K H vs l->ItL K H (v::vs) (i::l)
theorem ItD.monoT{K:W.Frag}{H H':Hp}(e:∀a xs,SqT K H a xs->SqT K H' a xs){v:V}:∀{i:Itm},ItD K H v i->ItD K H' v i
 | .inl _,h=>Den.monoT e h
 | .inr _,h=>h
theorem ItL.monoT{K:W.Frag}{H H':Hp}(e:∀a xs,SqT K H a xs->SqT K H' a xs):∀{vs:List V}{l:List Itm},ItL K H vs l->ItL K H' vs l
 |_,_,.nil=>.nil
 |_,_,.cons a b=>.cons (a.monoT e) (ItL.monoT e b)
theorem ItL.mono{K:W.Frag}{H H':Hp}(s:Same H H'){vs:List V}{l:List Itm}(h:ItL K H vs l):ItL K H' vs l:=h.monoT fun _ _ q=>s.tup q
theorem ItL.lst{K:W.Frag}{H:Hp}{p:Addr}{ys:List V}{o:HO}(e:H p=some (.lst ys)){vs:List V}{l:List Itm}(h:ItL K H vs l):ItL K (upd H p o) vs l:=h.monoT (a8t e)
theorem ItL.append{K:W.Frag}{H:Hp}{a c:List V}{b d:List Itm}(h:ItL K H a b)(g:ItL K H c d):ItL K H (a++c) (b++d):=by
 induction h with
 |nil=>exact g
 |cons h1 _ ih=>exact .cons h1 ih
theorem ItL.len{K:W.Frag}{H:Hp}{a:List V}{b:List Itm}(h:ItL K H a b):a.length=b.length:=by
 induction h with
 |nil=>rfl
 |cons _ _ ih=>simp[ih]
theorem ItL.reverse{K:W.Frag}{H:Hp}{a:List V}{b:List Itm}(h:ItL K H a b):ItL K H a.reverse b.reverse:=by
 induction h with
 |nil=>exact .nil
 |cons h1 _ ih=>rw[Yb,Yb];exact ih.append (.cons h1 .nil)
theorem ItL.snoc{K:W.Frag}{H:Hp}:∀{vs:List V}{l:List Itm}{i:Itm},ItL K H vs (l++[i])->∃us u,vs=us++[u]/\ItL K H us l/\ItD K H u i
 |_,[],_,h=>by
  cases h with
  |cons h1 h2=>cases h2;exact⟨[],_,rfl,.nil,h1⟩
 |_,x::r,i,h=>by
  cases h with
  |cons h1 h2=>
   obtain⟨us,u,rfl,a,b⟩:=ItL.snoc (l:=r) h2
   exact⟨_::us,u,rfl,.cons h1 a,b⟩
def a1t:List Trm->List Itm
 | []=>[]
 | [t]=>[.inl t]
 |t::u::r=>.inl t::.inr [44,32]::a1t (u::r)
theorem b7r:∀(l:List Trm)(t:Trm),l≠[]->a1t (l++[t])=a1t l++[.inr [44,32],.inl t]
 | [],_,h=>absurd rfl h
 | [a],t,_=>rfl
 |a::b::r,t,_=>by
  have:=b7r (b::r) t (by simp)
  rw[Zn,Zn,a1t,<-Zn,this,a1t]
  rfl
theorem b5b(tb:TbF):∀l:List Trm,rowT tb (a1t l)=a0y (l.map fun t=>(tx tb t).1)
 | []=>rfl
 | [a]=>by simp[a1t,rowT,itT,a0y]
 |a::b::r=>by
  have:=b5b tb (b::r)
  rw[Zp]at this
  rw[a1t,Zp,Zp,a0y,<-this]
  simp[rowT,itT]
theorem b8v:∀l:List Trm,rowM (a1t l)<=8*Trm.sizeL l+l.length
 | []=>by simp[a1t,rowM]
 | [a]=>by simp[a1t,rowM,itM,Trm.sizeL]
 |a::b::r=>by
  have:=b8v (b::r)
  rw[a1t]
  simp only[rowM,Zp,Ww,itM,Trm.sizeL,length_cons]at*
  omega
theorem b2u{tb:TbF}:∀{l:List Trm},(∀t∈l,wfS tb t)->∀i∈a1t l,itOk tb i
 | [],_,i,hi=>by simp[a1t]at hi
 | [a],h,i,hi=>by
  simp only[a1t,Zw]at hi
  subst hi
  exact h a Zj
 |a::b::r,h,i,hi=>by
  rw[a1t]at hi
  rcases Zk.mp hi with e|hi
  ·subst e;exact h a Zj
  ·rcases Zk.mp hi with e|hi
   ·subst e;show[44,32].length<=40;decide
   ·exact b2u (fun t ht=>h t (Zi _ ht)) i hi
theorem d5l{tb:TbF}{r:Trm}(hw:wfS tb r)(hp:r.isPair=false):((tx tb r).2.2=2↔r=.app emptyS [])/\(tx tb r).2.2≠1:=by
 have ep:emptyS≠pairS:=by decide+kernel
 cases r with
 |num n=>simp[tx]
 |any x=>simp[tx]
 |app sg ks=>
  obtain⟨⟨_,_,g3⟩,_⟩:=hw
  simp only[tx]
  unfold txA
  rcases g3 with⟨rfl,h2⟩|⟨rfl,h2⟩|⟨h1,h2,⟨p,hp2⟩,h4⟩|⟨h1,h2,h3⟩
  ·rw[if_pos rfl]
   have:ks=[]:=Xb.mp h2
   subst this
   simp
  ·rw[isP]at hp
   rw[Zg rfl,Zg h2]at hp
   exact absurd hp (by decide)
  ·rw[if_neg h1,if_neg h2,hp2]
   obtain⟨r0,s0⟩:=p
   have hl:(txL tb ks).length=2:=by rw[b4b,length_map];exact h4
   match hx:txL tb ks,hl with
   | [a,b],_=>simp[a8n,h1]
  ·rw[if_neg h1,if_neg h2,h3]
   match txL tb ks with
   | []=>simp[h1]
   |_::_=>simp[h1]
theorem d2o{tb:TbF}(a:Trm)(l:List Trm)(r:Trm):(tx tb (mkL (a::l) r)).2.2=1:=by
 have ep:pairS≠emptyS:=by decide+kernel
 rw[mkL]
 simp only[tx,txL]
 unfold txA
 rw[if_neg ep,if_pos rfl]
 show(a9r _ _).2.2=1
 unfold a9r
 split
 ·rfl
 ·split<;>rfl
open Classical in
theorem b4c{tb:TbF}{r:Trm}(hw:wfS tb r)(hp:r.isPair=false):∀(l:List Trm),l≠[]->(tx tb (mkL l r)).1=91::a0y (l.map fun t=>(tx tb t).1)++(if r=.app emptyS []then[]else[32,124,32]++(tx tb r).1)++[93]
 | [],h=>absurd rfl h
 | [a],_=>by
  have ep:pairS≠emptyS:=by decide+kernel
  obtain⟨w1,w2⟩:=d5l hw hp
  simp only[mkL,tx,txL,Zp,Y3,a0y]
  unfold txA
  rw[if_neg ep,if_pos rfl]
  show(a9r _ _).1=_
  unfold a9r
  by_cases he:r=.app emptyS []
  ·rw[if_pos (w1.mpr he),if_pos he];simp
  ·rw[if_neg (fun z=>he (w1.mp z)),if_neg w2,if_neg he];simp
 |a::b::l,_=>by
  have ep:pairS≠emptyS:=by decide+kernel
  have ih:=b4c hw hp (b::l) (by simp)
  have hk:=d2o (tb:=tb) b l r
  rw[mkL]
  simp only[tx,txL]
  unfold txA
  rw[if_neg ep,if_pos rfl]
  show(a9r _ _).1=_
  unfold a9r
  rw[if_neg (by rw[hk];decide),if_pos hk]
  show 91::(tx tb a).1++[44,32]++(tx tb (mkL (b::l) r)).1.tail=_
  rw[ih]
  simp only[Zp,a0y,Zn,List.tail_cons,Zx]
theorem d2p{tb:TbF}(h:∀x p,tb x=some p->c5m x):tb emptyS=none:=by
 cases e:tb emptyS with
 |none=>rfl
 |some p=>
  obtain⟨z,h1,h2,h3,h4⟩:=h _ _ e
  have e1:emptyS=⟨[91,93].toArray⟩:=by decide+kernel
  rw[e1]at h1
  have e2:[91,93]=z:=by have:=Z9 Str.cps h1;simpa using this
  subst e2
  exact absurd (h4 91 (by simp)) (by decide+kernel)
theorem d2q{tb:TbF}(h:∀x p,tb x=some p->c5m x):tb pairS=none:=by
 cases e:tb pairS with
 |none=>rfl
 |some p=>
  obtain⟨z,h1,h2,h3,h4⟩:=h _ _ e
  have e1:pairS=⟨[91,124,93].toArray⟩:=by decide+kernel
  rw[e1]at h1
  have e2:[91,124,93]=z:=by have:=Z9 Str.cps h1;simpa using this
  subst e2
  exact absurd (h4 91 (by simp)) (by decide+kernel)
theorem a5q.marks{K:W.Frag}{H:Hp}{d:Addr}{tb:TbF}(h:a5q K H d tb):tb emptyS=none/\tb pairS=none:=by
 obtain⟨_,_,_,h3⟩:=h
 exact⟨d2p h3,d2q h3⟩
theorem c1h{tb:TbF}(he:tb emptyS=none)(hp:tb pairS=none){sg:Str}{ks:List Trm}(hw:wfS tb (.app sg ks)):(tx tb (.app sg ks)).2.1=match tb sg with|some (r,_)=>r|none=>0:=by
 obtain⟨⟨_,_,g3⟩,_⟩:=hw
 have hl:(txL tb ks).length=ks.length:=by rw[b4b,length_map]
 simp only[tx]
 unfold txA
 rcases g3 with⟨rfl,h2⟩|⟨rfl,h2⟩|⟨h1,h2,⟨p,hp2⟩,h4⟩|⟨h1,h2,h3⟩
 ·rw[if_pos rfl,he]
 ·rw[if_neg (by decide+kernel),if_pos rfl,hp]
  rw[h2]at hl
  match hx:txL tb ks,hl with
  | [a,b],_=>
   show(a9r a b).2.1=0
   unfold a9r
   split
   ·rfl
   ·split<;>rfl
 ·rw[if_neg h1,if_neg h2,hp2]
  rw[h4]at hl
  obtain⟨r0,s0⟩:=p
  match hx:txL tb ks,hl with
  | [a,b],_=>rfl
 ·rw[if_neg h1,if_neg h2,h3]
  match txL tb ks with
  | []=>rfl
  |_::_=>rfl
theorem b5c(x:Str):(⟨x.cps.toList.toArray⟩:Str)=x:=by simp
theorem c126:ofString "~"=⟨[126].toArray⟩:=by decide+kernel
theorem c40:ofString "("=⟨[40].toArray⟩:=by decide+kernel
theorem c41:ofString ")"=⟨[41].toArray⟩:=by decide+kernel
theorem c91:ofString "["=⟨[91].toArray⟩:=by decide+kernel
theorem c93:ofString "]"=⟨[93].toArray⟩:=by decide+kernel
theorem c32:ofString " "=⟨[32].toArray⟩:=by decide+kernel
theorem cbar:ofString " | "=⟨[32,124,32].toArray⟩:=by decide+kernel
theorem ccom:ofString ", "=⟨[44,32].toArray⟩:=by decide+kernel
theorem cnone:ofString ""=Str.empty:=by decide+kernel
theorem spc(sg:Str):ofString " "++sg++ofString " "=⟨([32]++sg.cps.toList++[32]).toArray⟩:=by
 have:=a5f ([32]++sg.cps.toList) [32]
 rw[<-a5f [32] sg.cps.toList,b5c,<-c32]at this
 exact this
theorem c5r{K:W.Frag}{H:Hp}{v:V}{t:Trm}(h:Den K H v t.data):∃a xs,v=.ref a/\SqT K H a xs:=by
 cases t with
 |num n=>obtain⟨a,e,h⟩:=a5x h;exact⟨a,_,e,h⟩
 |any n=>obtain⟨a,e,h⟩:=a5y h;exact⟨a,_,e,h⟩
 |app sg ks=>obtain⟨a,b,us,e,h,_⟩:=a4g h;exact⟨a,_,e,h⟩
theorem unL:∀(n:Nat)(t:Trm),t.size<=n->∃ts rt,t=mkL ts rt/\rt.isPair=false
 |0,t,h=>by
  cases t<;>simp[Trm.size]at h
 |n+1,t,h=>by
  by_cases hp:t.isPair=false
  ·exact⟨[],t,rfl,hp⟩
  ·cases t with
   |num m=>exact absurd rfl hp
   |any m=>exact absurd rfl hp
   |app sg ks=>
    rw[isP,Bool.not_eq_false,Y2,W9,W9]at hp
    obtain⟨rfl,h2⟩:=hp
    match ks,h2 with
    | [a,b],_=>
     have:b.size<=n:=by simp only[Trm.size,Trm.sizeL]at h;omega
     obtain⟨ts,rt,e,h3⟩:=unL n b this
     exact⟨a::ts,rt,by rw[e,mkL],h3⟩
theorem c7y{tb:TbF}:∀(ts:List Trm)(rt:Trm),wfS tb (mkL ts rt)->(∀t∈ts,wfS tb t)/\wfS tb rt
 | [],rt,h=>⟨fun t ht=>(Zz ht).elim,h⟩
 |a::ts,rt,h=>by
  rw[mkL]at h
  obtain⟨_,h1,h2,_⟩:=h
  obtain⟨h3,h4⟩:=c7y ts rt h2
  refine⟨fun t ht=>?_,h4⟩
  rcases Zk.mp ht with e|e
  ·subst e;exact h1
  ·exact h3 t e
theorem b0v:∀l:List Trm,(a1t l).length<=2*l.length
 | []=>by simp[a1t]
 | [a]=>by simp[a1t]
 |a::b::r=>by
  have:=b0v (b::r)
  rw[a1t]
  simp only[length_cons]at*
  omega
theorem d2r:∀{l:List Trm},l≠[]->(a1t l).length≠0
 | [],h=>absurd rfl h
 | [a],_=>by simp[a1t]
 |a::b::r,_=>by simp[a1t]
theorem b5d{tb:TbF}{sg:Str}(hn:tb sg=none)(hp:sg≠pairS):(tx tb (.app sg [])).1=sg.cps.toList:=by
 simp only[tx,txL]
 unfold txA
 split
 ·rename_i e
  subst e
  decide+kernel
 ·rw[hn]
theorem b7d{tb:TbF}{sg:Str}(hn:tb sg=none)(hp:sg≠pairS)(he:sg≠emptyS)(k:Trm)(r:List Trm):(tx tb (.app sg (k::r))).1=sg.cps.toList++[40]++a0y ((k::r).map fun t=>(tx tb t).1)++[41]:=by
 simp only[tx]
 unfold txA
 rw[if_neg he,if_neg hp,hn,b4b,Zp,Zp,Y9]
 rfl
theorem b7e{tb:TbF}{sg:Str}{r:Int}{s:Str}(hn:tb sg=some (r,s))(hp:sg≠pairS)(he:sg≠emptyS)(a b:Trm):tx tb (.app sg [a,b])=a8n sg r s (tx tb a) (tx tb b):=by
 simp only[tx,txL]
 unfold txA
 rw[if_neg he,if_neg hp,hn]
theorem a5q.got{K:W.Frag}{H:Hp}{d:Addr}{tb:TbF}(h:a5q K H d tb){x:Str}{r:Int}{s:Str}(e:tb x=some (r,s)):∃ta,SqT K H ta [.int r,.str s]/\DGet H d (.str x) (some (.ref ta)):=by
 rcases h.get x with⟨e1,_⟩|⟨ta,r',s',e1,h1,h2⟩
 ·rw[e]at e1;cases e1
 ·rw[e]at e1;cases e1;exact⟨ta,h1,h2⟩
theorem d5m{K:W.Frag}{a:Addr}{us:List V}{H H0:Hp}(h:SqL K H0 a us\/SqT K H0 a us)(s:Same H0 H){g:TG}{tb:TS}{D:Ends}{σ:L2.St}(k:∀J Ok,Row J us.length (fun i=>us.getD i .non) Ok->(∀H',Same H0 H'->Ok H')->ForW J g tb D σ H):(∃xs,SqL K H a xs/\ForW (Itl K a) g tb D σ H)\/∃xs,SqT K H a xs/\ForW (Itt K a) g tb D σ H:=by
 rcases h with h|h
 ·exact .inl ⟨us,s.seq h,k _ _ b7y fun H' s=>s.seq h⟩
 ·exact .inr ⟨us,s.tup h,k _ _ row_tup fun H' s=>s.tup h⟩
theorem a4i{tb:TbF}{a b:List Itm}(h:∀i∈a,itOk tb i)(g:∀i∈b,itOk tb i):∀i∈a++b,itOk tb i:=fun i hi=>(Z1.mp hi).elim (h i) (g i)
theorem a5t{tb:TbF}{z:List Nat}(h:z.length<=40):∀i∈[(.inr z:Itm)],itOk tb i:=fun i hi=>by rw[Zw.mp hi];exact h
theorem c0b{tb:TbF}{t:Trm}(h:wfS tb t):∀i∈[(.inl t:Itm)],itOk tb i:=fun i hi=>by rw[Zw.mp hi];exact h
theorem it_s{K:W.Frag}{H:Hp}{x:Str}{z:List Nat}(h:x=⟨z.toArray⟩):ItL K H [.str x] [.inr z]:=.cons (Z9 V.str h) .nil
theorem it_t{K:W.Frag}{H:Hp}{v:V}{t:Trm}(h:Den K H v t.data):ItL K H [v] [.inl t]:=.cons h .nil
theorem size_pos(t:Trm):1<=t.size:=by cases t<;>simp only[Trm.size]<;>omega
theorem c5s:∀l:List Itm,l.length<=rowM l
 | []=>Zb _
 |i::r=>by
  have h:=c5s r
  have e:rowM (i::r)=itM i+rowM r:=by simp[rowM]
  have:1<=itM i:=by
   cases i with
   |inl t=>have:=size_pos t;show 1<=8*t.size;omega
   |inr z=>exact Zb 1
  rw[e,length_cons]
  omega
theorem a5i(z:List Nat):rowM [.inr z]=1:=rfl
theorem b6o(t:Trm):rowM [.inl t]=8*t.size:=by simp[rowM,itM]
theorem a5u(tb:TbF)(z:List Nat):rowT tb [.inr z]=z:=by simp[rowT,itT]
theorem c5t(tb:TbF)(t:Trm):rowT tb [.inl t]=(tx tb t).1:=by simp[rowT,itT]
theorem c9e(ks:List Trm){i:Nat}(h:i<ks.length):Trm.sizeL (ks.take (i+1))=Trm.sizeL (ks.take i)+ks[i].size:=by
 rw[Uw,Zc h,Trm.sizeL_app]
 simp[Trm.sizeL]
theorem b1h{ks:List Trm}{i:Nat}(h:i<ks.length):ks[i].size<=Trm.sizeL ks:=by
 have e:=Trm.sizeL_app (ks.take (i+1)) (ks.drop (i+1))
 rw[Wt,c9e ks h]at e
 omega
theorem c1i{c:Nat}{r:List Nat}(h:mkc c)(_:∀y∈r,mkc y)(h5:c::r≠[60,45])(_:(c::r).length<=3):kindOf (c::r)=ofString "mark":=by rw[c2i h,if_neg h5]
theorem d5n:∀{c:Nat},mkc c->c<200:=fun{c} h=>by
 have a1:∀x∈a6c.cps.toList,x<200:=by decide+kernel
 exact a1 c h
def a7u(x:Str):Prop:=∃z:List Nat,x=(⟨z.toArray⟩:Str)/\1<=z.length/\z.length<=3/\(∀y∈z,mkc y)/\z≠[60,45]
def a6s(fs z:List Nat):Prop:=∃c r,z=c::r/\c∈fs/\r.length<=11/\∀y∈r,inn y
def wfA(tb:Tb)(sg:Str)(n:Nat):Prop:=(sg=emptyS/\n=0)\/(sg=pairS/\n=2)\/(a7u sg/\(lkT tb sg).isSome=true/\n=2)\/∃z:List Nat,sg=⟨z.toArray⟩/\a6s a2k.cps.toList z/\n<=4
mutual
def wf(tb:Tb):Trm->Prop
 | .num n=>-(10^30)<n/\n<10^30
 | .any x=>∃z:List Nat,x=⟨z.toArray⟩/\a6s a2v.cps.toList z
 | .app sg ks=>wfA tb sg ks.length/\wfL tb ks
def wfL(tb:Tb):List Trm->Prop
 | []=>True
 |t::r=>wf tb t/\wfL tb r
end
theorem a5j{tb:Tb}:∀{ts:List Trm},wfL tb ts↔∀t∈ts,wf tb t
 | []=>by simp[wfL]
 |t::r=>by
  rw[wfL,a5j (ts:=r)]
  simp
abbrev a2f(tb:Tb):Prop:=∀x g,lkT tb x=some g->a7u x
theorem b1i{a b:List Nat}(h:(⟨a.toArray⟩:Str)=⟨b.toArray⟩):a=b:=by have:=Z9 Str.cps h;simpa using this
theorem c0c{tb:Tb}(hM:a2f tb){c:Nat}{r:List Nat}(hc:¬mkc c):lkT tb ⟨(c::r).toArray⟩=none:=by
 cases e:lkT tb ⟨(c::r).toArray⟩with
 |none=>rfl
 |some g=>
  obtain⟨z,h1,_,_,h4,_⟩:=hM _ _ e
  rw[<-b1i h1]at h4
  exact absurd (h4 c (Zj ..)) hc
theorem b6p:(emptyS:Str)=⟨[91,93].toArray⟩:=by decide+kernel
theorem b8w:(pairS:Str)=⟨[91,124,93].toArray⟩:=by decide+kernel
theorem no91:¬inn 91/\¬mkc 91:=by decide+kernel
theorem b2d{tb:Tb}(hM:a2f tb):lkT tb emptyS=none:=by rw[b6p];exact c0c hM no91.2
theorem b4d{tb:Tb}(hM:a2f tb):lkT tb pairS=none:=by rw[b8w];exact c0c hM no91.2
theorem b7f{tb:Tb}(hM:a2f tb){z:List Nat}(hz:a6s a2k.cps.toList z):lkT tb ⟨z.toArray⟩=none:=by
 obtain⟨c,r,rfl,hc,_⟩:=hz
 exact c0c hM (b1g (a3r hc)).2.2.2.2
theorem b5e{z:List Nat}(hz:a6s a2k.cps.toList z):(⟨z.toArray⟩:Str)≠emptyS/\(⟨z.toArray⟩:Str)≠pairS:=by
 obtain⟨c,r,rfl,hc,_⟩:=hz
 have h:=a3r hc
 refine⟨fun e=>?_,fun e=>?_⟩
 ·rw[b6p]at e
  rw[(Wh (b1i e)).1]at h
  exact no91.1 h
 ·rw[b8w]at e
  rw[(Wh (b1i e)).1]at h
  exact no91.1 h
theorem c0d{x:Str}(h:a7u x):x≠emptyS/\x≠pairS:=by
 obtain⟨z,rfl,_,_,h4,_⟩:=h
 refine⟨fun e=>?_,fun e=>?_⟩
 ·rw[b6p]at e
  rw[b1i e]at h4
  exact no91.2 (h4 91 (by simp))
 ·rw[b8w]at e
  rw[b1i e]at h4
  exact no91.2 (h4 91 (by simp))
mutual
theorem wf_S{tb:Tb}(hM:a2f tb):∀t,wf tb t->wfS (lkT tb) t
 | .num n,h=>h
 | .any x,h=>by
  obtain⟨z,rfl,c,r,rfl,_,hr,_⟩:=h
  show(⟨(c::r).toArray⟩:Str).length<=12
  rw[str_len,length_cons]
  omega
 | .app sg ks,h=>by
  refine⟨?_,wfL_S hM ks h.2⟩
  rcases h.1 with⟨rfl,h2⟩|⟨rfl,h2⟩|⟨h1,h2,h3⟩|⟨z,rfl,hz,h4⟩
  ·exact⟨by decide+kernel,by omega,.inl ⟨rfl,h2⟩⟩
  ·exact⟨by decide+kernel,by omega,.inr (.inl ⟨rfl,h2⟩)⟩
  ·obtain⟨n1,n2⟩:=c0d h1
   obtain⟨z,rfl,_,hz3,_⟩:=h1
   exact⟨by rw[str_len];omega,by omega,.inr (.inr (.inl ⟨n1,n2,Yu.mp h2,h3⟩))⟩
  ·obtain⟨n1,n2⟩:=b5e hz
   have hl:=b7f hM hz
   obtain⟨c,r,rfl,_,hr,_⟩:=hz
   exact⟨by rw[str_len,length_cons];omega,h4,.inr (.inr (.inr ⟨n1,n2,hl⟩))⟩
theorem wfL_S{tb:Tb}(hM:a2f tb):∀ts,wfL tb ts->wfSL (lkT tb) ts
 | [],_=>trivial
 |t::r,h=>⟨wf_S hM t h.1,wfL_S hM r h.2⟩
end
theorem c3k{tb:Tb}(hM:a2f tb){t:Trm}(h:wf tb t):(tx (lkT tb) t).2.1=rkt tb t:=by
 cases t with
 |num n=>rfl
 |any x=>rfl
 |app sg ks=>
  rw[c1h (b2d hM) (b4d hM) (wf_S hM _ h)]
  show _=((lkT tb sg).getD (0,a1f)).1
  cases lkT tb sg with
  |none=>rfl
  |some g=>rfl
def PKt(tb:Tb)(z:Pc):Prop:=kindOf z≠a1f/\(kindOf z=ofString "mark"->(lkT tb ⟨z.toArray⟩).isSome=true)/\z.length<=900
theorem d2s{tb:Tb}{z:Pc}{k:Str}(h:kindOf z=k)(hl:z.length<=900)(h1:k≠a1f:=by decide+kernel)(h2:k≠ofString "mark":=by decide+kernel):PKt tb z:=⟨by rw[h];exact h1,fun e=>absurd (h.symm.trans e) h2,hl⟩
theorem a4y{tb:Tb}{c:Nat}(h:c∈a3o.cps.toList):PKt tb [c]:=d2s (c2h h) (by simp)
structure Rw9(tb:Tb)(t:Trm)(l:List Nat):Prop where
 rd:Rdg tb t (bits l)
 hd:∀r,hK (bits l++r)≠sgK "]"
 pl:a1v l
 gd:∀z∈bits l,PKt tb z
 cnt:(bits l).length<=6*t.size
theorem a8o:∀ls:List (List Nat),a0y ls=jt ls
 | []=>rfl
 | [_]=>rfl
 |a::b::r=>by rw[a0y,jt,a8o (b::r)];simp
theorem a3q(l:List Nat):bits (40::l++[41])=sg 40::(bits l++[sg 41]):=by
 rw[show(40::l++[41]:List Nat)=40::(l++41::[])from rfl,a2c a1i.1.1,a1r no41,show bits [41]=[[41]] by decide+kernel]
theorem b7g{tb:Tb}{z:Pc}{t:Trm}(eb:bits z=[z])(hk:kindOf z≠ofString "sign")(h1:kindOf z≠a1f)(h2:kindOf z≠ofString "mark")(ht:thgZ z=some t)(hp:a1v z)(hl:z.length<=900):Rw9 tb t z:=
 ⟨by rw[eb];exact Rds.g (d5c ht hk),fun r=>by rw[eb];exact a4h rfl _ hk,hp,fun y hy=>by rw[eb,Zw]at hy;rw[hy];exact⟨h1,fun e=>absurd e h2,hl⟩,by rw[eb];have:=t.size_pos;simp;omega⟩
theorem b5f{c:Nat}{l:List Nat}(hc:c<200)(h:a1v l):a1v (c::l):=fun y hy=>by
 rcases Zk.mp hy with e|e
 ·rw[e];exact hc
 ·exact h y e
theorem row_num{tb:Tb}{n:Int}(h:-(10^30)<n/\n<10^30):Rw9 tb (.num n) (numT n):=by
 by_cases h0:n=0
 ·subst h0
  exact b7g (by decide+kernel) (by decide+kernel) (by decide+kernel) (by decide+kernel) (by kernel_rfl) (by unfold a1v;decide+kernel) (by decide+kernel)
 obtain⟨k,hk⟩:∃k:Nat,k=n.natAbs:=⟨_,rfl⟩
 obtain⟨f1,x,r,e,hx⟩:=b1f k
 have hl:=b1q (n:=k) (k:=30) (by decide) (by omega)
 have hf:∀y∈a1k k,y∈figS.cps.toList:=fun y hy=>by
  have:=f1 y hy
  have a:∀n,n<10->48+n∈figS.cps.toList:=by decide+kernel
  have:=a (y-48) (by omega)
  rwa[show 48+(y-48)=y by omega]at this
 have hx:=hx (by omega)
 have h48:a1k k≠[48]:=fun z=>hx (by rw[e]at z;exact(Wh z).1)
 have nz:NumZ (a1k k):=⟨x,r,e,hf,.inr hx⟩
 have ev:valD (a1k k)=k:=figs_inj' _ _ (b4t _ _ rfl nz).1
 have et:numT n=ngT (decide (n<0)) (a1k k):=by
  unfold numT ngT
  rw[<-hk]
  by_cases c:n<0
  ·rw[if_pos c,if_pos (Zg c)]
  ·rw[if_neg c,if_neg (by rw[Zd c];decide)]
 have en:n=ngV (decide (n<0)) (a1k k):=by
  unfold ngV
  rw[ev]
  by_cases c:n<0
  ·rw[if_pos (Zg c)];omega
  ·rw[if_neg (by rw[Zd c];decide)];omega
 obtain⟨eb,pl,kk⟩:=ng_ok nz h48 (decide (n<0))
 rw[if_pos (by omega),<-en]at kk
 rw[et]
 exact b7g eb (by rw[kk.1];decide+kernel) (by rw[kk.1];decide+kernel) (by rw[kk.1];decide+kernel) kk.2 pl (by cases(decide (n<0))<;>simp[ngT]<;>omega)
theorem row_any{tb:Tb}{z:List Nat}(h:a6s a2v.cps.toList z):Rw9 tb (.any ⟨z.toArray⟩) z:=by
 obtain⟨c,r,rfl,hc,hl,hr⟩:=h
 have hi:=a8c hc
 have hk:=b5a (r:=r) hc
 exact b7g (a6r (.inl hi) hr) (by rw[hk];decide+kernel) (by rw[hk];decide+kernel) (by rw[hk];decide+kernel) (by rw[d5g hc,if_pos (by simp;omega)]) (b6l hi hr) (by simp;omega)
theorem d5o{tb:Tb}{z:List Nat}(h:a6s a2k.cps.toList z):Rw9 tb (.app ⟨z.toArray⟩ []) z:=by
 obtain⟨c,r,rfl,hc,hl,hr⟩:=h
 have hi:=a3r hc
 have hk:=b0u (r:=r) hc
 exact b7g (a6r (.inl hi) hr) (by rw[hk];decide+kernel) (by rw[hk];decide+kernel) (by rw[hk];decide+kernel) (by rw[d5f hc,if_pos (by simp;omega)]) (b6l hi hr) (by simp;omega)
theorem d2t{tb:Tb}:Rw9 tb (.app emptyS []) [91,93]:=by
 have eb:bits [91,93]=[sg 91,sg 93]:=by decide+kernel
 refine⟨by rw[eb];exact Rds.g d5k,fun r=>by rw[eb];show Pc.ks (sg 91)≠_;rw[k91'];exact a3w (by decide+kernel),by unfold a1v;decide,fun z hz=>?_,by rw[eb];simp[Trm.size,Trm.sizeL]⟩
 rw[eb]at hz
 simp only[Zk,Zz,Xl]at hz
 rcases hz with rfl|rfl
 ·exact a4y a1i.2.2.1
 ·exact a4y a1i.2.2.2
theorem c1j:∀{ts:List Trm}{f:Trm->List Nat},ts≠[]->(∀t∈ts,(bits (f t)).length<=6*t.size)->(jc (ts.map fun t=>bits (f t))).length+1<=6*Trm.sizeL ts+ts.length
 | [],f,hn,_=>absurd rfl hn
 | [t],f,_,h=>by have:=h t (Zj ..);simp[jc,Trm.sizeL];omega
 |t::u::ts,f,_,h=>by
  have h1:=h t (Zj ..)
  have h2:=c1j (ts:=u::ts) (f:=f) (by simp) (fun x hx=>h x (Zi _ hx))
  simp only[Zp,jc,Za,length_cons,Trm.sizeL]at h2 ⊢
  omega
theorem jc_gd{tb:Tb}{ls:List (List Pc)}(h:∀l∈ls,∀z∈l,PKt tb z):∀z∈jc ls,PKt tb z:=fun z hz=>by
 rcases d2l hz with⟨l,h1,h2⟩|rfl
 ·exact h l h1 z h2
 ·exact a4y a1i.2.1.1
theorem row_app{tb:Tb}{z:List Nat}(h:a6s a2k.cps.toList z){ks:List Trm}{f:Trm->List Nat}(hn:ks≠[])(h4:ks.length<=4)(hk:∀k∈ks,Rw9 tb k (f k)):Rw9 tb (.app ⟨z.toArray⟩ ks) (z++[40]++a0y (ks.map f)++[41]):=by
 obtain⟨c,r,rfl,hc,hl,hr⟩:=h
 have hi:=a3r hc
 have hw:=b0u (r:=r) hc
 have eb:bits ((c::r)++[40]++a0y (ks.map f)++[41])=(c::r)::sg 40::(jc (ks.map fun k=>bits (f k))++[sg 41]):=by
  rw[show(c::r)++[40]++a0y (ks.map f)++[41]=(c::r)++40::(a0y (ks.map f)++41::[]) by simp,a1r no40,a6r (.inl hi) hr,a2c a1i.1.1,a1r no41,a8o,a9f,Y9,show bits [41]=[[41]] by decide+kernel]
  rfl
 have e1:(ks.map fun k=>(k,bits (f k))).map (·.1)=ks:=by rw[Y9];exact(V4 fun _ _=>rfl).trans (List.map_id ks)
 have e2:(ks.map fun k=>(k,bits (f k))).map (·.2)=ks.map fun k=>bits (f k):=by rw[Y9];rfl
 refine⟨?_,fun q=>by rw[eb];exact a4h hw _,?_,fun y hy=>?_,?_⟩
 ·rw[eb]
  have hh:Rds tb (.app ⟨(c::r).toArray⟩ ((ks.map fun k=>(k,bits (f k))).map (·.1))) ((c::r)::sg 40::(jc ((ks.map fun k=>(k,bits (f k))).map (·.2))++[sg 41])):=rdk_app (tb:=tb) (z:=c::r) hw (by simp;omega) (ks:=ks.map fun k=>(k,bits (f k))) (by simpa using hn) (by simpa using h4) (fun q hq=>by
   obtain⟨k,h1,rfl⟩:=Yx.mp hq
   exact(hk k h1).rd.k)
  rw[e1,e2]at hh
  exact Rds.g @hh
 ·rw[a8o]
  refine a2t (a2t (a2t (b6l hi hr) (by unfold a1v;decide)) (b8u fun l hl=>?_)) (by unfold a1v;decide)
  obtain⟨k,h1,rfl⟩:=Yx.mp hl
  exact(hk k h1).pl
 ·rw[eb]at hy
  simp only[Zk,Z1,Zz,Xl]at hy
  rcases hy with rfl|rfl|hy|rfl
  ·exact d2s hw (by simp;omega)
  ·exact a4y a1i.1.1
  ·exact jc_gd (fun l hl z hz=>by obtain⟨k,h1,rfl⟩:=Yx.mp hl;exact(hk k h1).gd z hz) y hy
  ·exact a4y a1i.1.2
 ·rw[eb]
  have:=c1j (ts:=ks) (f:=f) hn (fun k h1=>(hk k h1).cnt)
  simp only[length_cons,Za,length_nil,Trm.size]
  omega
theorem a6t:∀(ts:List Trm)(r:Trm),(mkL ts r).size=Trm.sizeL ts+ts.length+r.size
 | [],r=>by simp[mkL,Trm.sizeL]
 |a::ts,r=>by
  have:=a6t ts r
  rw[mkL]
  simp only[Trm.size,Trm.sizeL,length_cons,this]
  omega
open Classical in
theorem d5p{tb:Tb}{ts:List Trm}{rt:Trm}{f:Trm->List Nat}(hn:ts≠[])(hk:∀k∈ts,Rw9 tb k (f k))(hr:Rw9 tb rt (f rt)):Rw9 tb (mkL ts rt) (91::a0y (ts.map f)++(if rt=.app emptyS []then[]else[32,124,32]++f rt)++[93]):=by
 obtain⟨p,ps,rfl⟩:∃p ps,ts=p::ps:=by cases ts with|nil=>exact absurd rfl hn|cons a r=>exact⟨a,r,rfl⟩
 obtain⟨c,hc⟩:∃c:Option (Trm×List Pc),c=if rt=.app emptyS []then none else some (rt,bits (f rt)):=⟨_,rfl⟩
 have hcr:rstT c=rt:=by
  rw[hc]
  by_cases e:rt=.app emptyS []
  ·rw[if_pos e,e];rfl
  ·rw[if_neg e];rfl
 have eb:bits (91::a0y ((p::ps).map f)++(if rt=.app emptyS []then[]else[32,124,32]++f rt)++[93])=sg 91::(jc (bits (f p)::ps.map fun k=>bits (f k))++(rstP c++[sg 93])):=by
  have e0:((p::ps).map f).map bits=bits (f p)::ps.map fun k=>bits (f k):=by rw[Y9];rfl
  rw[hc]
  by_cases e:rt=.app emptyS []
  ·rw[if_pos e,if_pos e,show(91::a0y ((p::ps).map f)++[]++[93]:List Nat)=91::(a0y ((p::ps).map f)++93::[]) by simp,a2c a1i.2.2.1,a1r no93,a8o,a9f,e0,show bits [93]=[[93]] by decide+kernel]
   rfl
  ·rw[if_neg e,if_neg e,show(91::a0y ((p::ps).map f)++([32,124,32]++f rt)++[93]:List Nat)=91::(a0y ((p::ps).map f)++32::124::32::(f rt++93::[])) by simp,a2c a1i.2.2.1,a1r no32,a2s,a2c a1i.2.1.2,a2s,a1r no93,a8o,a9f,e0,show bits [93]=[[93]] by decide+kernel]
   rfl
 have e2:(ps.map fun k=>(k,bits (f k))).map (·.2)=ps.map fun k=>bits (f k):=by rw[Y9];rfl
 have e1:(ps.map fun k=>(k,bits (f k))).map (·.1)=ps:=by rw[Y9];exact(V4 fun _ _=>rfl).trans (List.map_id ps)
 have hp:=hk p (Zj ..)
 have cq:∀q,c=some q->q=(rt,bits (f rt))/\rt≠.app emptyS []:=fun q e=>by
  rw[hc]at e
  by_cases z:rt=.app emptyS []
  ·rw[if_pos z]at e;cases e
  ·rw[if_neg z]at e;exact⟨(Zo e).symm,z⟩
 refine⟨?_,fun q=>by rw[eb];show Pc.ks (sg 91)≠_;rw[k91'];exact a3w (by decide+kernel),?_,fun y hy=>?_,?_⟩
 ·rw[eb]
  have hh:Rds tb (mkL (p::(ps.map fun k=>(k,bits (f k))).map (·.1)) (rstT c)) (sg 91::(jc (bits (f p)::(ps.map fun k=>(k,bits (f k))).map (·.2))++(rstP c++[sg 93]))):=d5j (tb:=tb) (c:=c) (fun q e=>by rw[(cq q e).1];exact hr.rd.k) (p:=(p,bits (f p))) (ps:=ps.map fun k=>(k,bits (f k))) hp.rd.k hp.hd (fun q hq=>by
   obtain⟨k,h1,rfl⟩:=Yx.mp hq
   exact(hk k (Zi _ h1)).rd.k)
  rw[e1,e2,hcr]at hh
  exact Rds.g @hh
 ·rw[a8o]
  refine a2t (a2t (b5f (by decide) (b8u fun l hl=>?_)) ?_) (by unfold a1v;decide)
  ·obtain⟨k,h1,rfl⟩:=Yx.mp hl
   exact(hk k h1).pl
  ·split
   ·exact fun _ h=>by cases h
   ·exact a2t (by unfold a1v;decide) hr.pl
 ·rw[eb]at hy
  simp only[Zk,Z1,Zz,Xl]at hy
  rcases hy with rfl|hy|hy|rfl
  ·exact a4y a1i.2.2.1
  ·refine jc_gd (fun l hl z hz=>?_) y hy
   rcases Zk.mp hl with rfl|hl
   ·exact hp.gd z hz
   ·obtain⟨k,h1,rfl⟩:=Yx.mp hl
    exact(hk k (Zi _ h1)).gd z hz
  ·cases c with
   |none=>cases hy
   |some q=>
    have:=(cq q rfl).1
    subst this
    rcases Zk.mp hy with rfl|hy
    ·exact a4y a1i.2.1.2
    ·exact hr.gd y hy
  ·exact a4y a1i.2.2.2
 ·rw[eb]
  have h1:=c1j (ts:=p::ps) (f:=f) hn (fun k h1=>(hk k h1).cnt)
  have h2:=hr.cnt
  have h3:(rstP c).length<=1+6*rt.size:=by
   cases c with
   |none=>simp[rstP]
   |some q=>
    have:=(cq q rfl).1
    subst this
    simp only[rstP,length_cons]
    omega
  rw[a6t]
  simp only[Zp]at h1
  simp only[length_cons,Za,length_nil]at h1 ⊢
  omega
theorem d2u{tb:Tb}{a:Trm}{p:TxR}(h:Rw9 tb a p.1)(m:Int):a1v (inBr p m)/\(∀z∈bits (inBr p m),PKt tb z)/\(bits (inBr p m)).length<=6*a.size+2/\(∀r,hK (bits (inBr p m)++r)≠sgK "]"):=by
 unfold inBr
 split
 ·refine⟨a2t (b5f (by decide) h.pl) (by unfold a1v;decide),fun z hz=>?_,?_,fun r=>?_⟩
  ·rw[a3q]at hz
   simp only[Zk,Z1,Zz,Xl]at hz
   rcases hz with rfl|hz|rfl
   ·exact a4y a1i.1.1
   ·exact h.gd z hz
   ·exact a4y a1i.1.2
  ·rw[a3q]
   have:=h.cnt
   simp only[length_cons,Za,length_nil]
   omega
  ·rw[a3q];show Pc.ks (sg 40)≠_;rw[k40];exact a3w (by decide+kernel)
 ·exact⟨h.pl,h.gd,by have:=h.cnt;omega,h.hd⟩
theorem d5q{tb:Tb}(ok:TbOk tb){x:Str}(hx:a7u x){g:Sg}(hg:lkT tb x=some g){a b:Trm}{pa pb:TxR}(ha:Rw9 tb a pa.1)(hb:Rw9 tb b pb.1)(ra:pa.2.1=rkt tb a)(rb:pb.2.1=rkt tb b):Rw9 tb (.app x [a,b]) (a8n x g.1 g.2 pa pb).1:=by
 obtain⟨z,rfl,h1,h3,h4,h5⟩:=hx
 obtain⟨c,r,rfl⟩:∃c r,z=c::r:=by cases z with|nil=>simp at h1|cons c r=>exact⟨c,r,rfl⟩
 have hm:=h4 c (Zj ..)
 have hk:kindOf (c::r)=ofString "mark":=c1i hm (fun y hy=>h4 y (Zi _ hy)) h5 h3
 have ez:bits (c::r)=[c::r]:=c5k hm (fun y hy=>h4 y (Zi _ hy))
 have eb:bits (a8n ⟨(c::r).toArray⟩ g.1 g.2 pa pb).1=bits (inBr pa (g.1-1+if g.2=a2w then 1 else 0))++(c::r)::bits (inBr pb (g.1-1+if g.2=a2m then 1 else 0)):=by
  unfold a8n
  rw[show ∀A B:List Nat,A++[32]++(⟨(c::r).toArray⟩:Str).cps.toList++[32]++B=A++32::((c::r)++32::B)from fun A B=>by simp,a1r no32,a2s,a1r no32,a2s,ez]
  rfl
 obtain⟨a1,a2,a3,a4⟩:=d2u ha (g.1-1+if g.2=a2w then 1 else 0)
 obtain⟨b1,b2,b3,b4⟩:=d2u hb (g.1-1+if g.2=a2m then 1 else 0)
 have hL:RdL tb g (.app ⟨(c::r).toArray⟩ [a,b]) a (bits (inBr pa (g.1-1+if g.2=a2w then 1 else 0))):=by
  by_cases q:(g.1-1+if g.2=a2w then 1 else 0)<pa.2.1
  ·rw[inBr,if_pos q,a3q];exact Rds.l (b6m ha.rd.k)
  ·rw[inBr,if_neg q]
   refine ha.rd.l ok hg ?_ (by show((lkT tb ⟨(c::r).toArray⟩).getD (0,a1f)).1=g.1;rw[hg];rfl)
   rw[ra]at q
   by_cases e:g.2=a2w
   ·rw[if_pos e]at q
    rcases Sb (show rkt tb a<=g.1 by omega)with z|z
    ·exact .inl z
    ·exact .inr ⟨z,e⟩
   ·rw[if_neg e]at q
    exact .inl (by omega)
 have hR:RdB tb ⟨(c::r).toArray⟩ g b (bits (inBr pb (g.1-1+if g.2=a2m then 1 else 0))):=by
  by_cases q:(g.1-1+if g.2=a2m then 1 else 0)<pb.2.1
  ·rw[inBr,if_pos q,a3q];exact Rds.b (b6m hb.rd.k)
  ·rw[inBr,if_neg q]
   refine hb.rd.b hg ?_
   rw[rb]at q
   by_cases e:g.2=a2m
   ·rw[if_pos e]at q
    rcases Sb (show rkt tb b<=g.1 by omega)with z|z
    ·exact .inl z
    ·exact .inr ⟨z,e⟩
   ·rw[if_neg e]at q
    exact .inl (by omega)
 refine⟨by rw[eb];exact d5i ok hk hg hL hR,fun q=>by rw[eb,Zx];exact a4 _,?_,fun y hy=>?_,?_⟩
 ·unfold a8n
  refine a2t (a2t (a2t (a2t a1 (by unfold a1v;decide)) (fun y hy=>?_)) (by unfold a1v;decide)) b1
  exact d5n (h4 y (by simpa using hy))
 ·rw[eb]at hy
  rcases Z1.mp hy with hy|hy
  ·exact a2 y hy
  ·rcases Zk.mp hy with rfl|hy
   ·exact⟨by rw[hk];decide+kernel,fun _=>by rw[hg];rfl,by omega⟩
   ·exact b2 y hy
 ·rw[eb]
  simp only[Za,length_cons,Trm.size,Trm.sizeL]
  omega
theorem b7h{tb:Tb}:∀(ts:List Trm)(rt:Trm),wf tb (mkL ts rt)->(∀t∈ts,wf tb t)/\wf tb rt
 | [],rt,h=>⟨fun t ht=>(Zz ht).elim,h⟩
 |a::ts,rt,h=>by
  rw[mkL]at h
  obtain⟨_,h1,h2,_⟩:=h
  obtain⟨h3,h4⟩:=b7h ts rt h2
  refine⟨fun t ht=>?_,h4⟩
  rcases Zk.mp ht with e|e
  ·subst e;exact h1
  ·exact h3 t e
theorem rows:∀(n:Nat){tb:Tb},TbOk tb->a2f tb->∀t,t.size<=n->wf tb t->Rw9 tb t (tx (lkT tb) t).1
 |0,_,_,_,t,hs,_=>by have:=t.size_pos;omega
 |n+1,tb,ok,hM,t,hs,h=>by
  have ih:=fun t hs=>rows n ok hM t hs
  cases t with
  |num m=>exact row_num h
  |any x=>
   obtain⟨z,rfl,hz⟩:=h
   simpa[tx]using row_any (tb:=tb) hz
  |app sg ks=>
   obtain⟨h1,h2⟩:=h
   have hks:=a5j.mp h2
   simp only[Trm.size]at hs
   have hsz:∀k∈ks,k.size<=n:=fun k hk=>by
    obtain⟨i,hi,rfl⟩:=Xo.mp hk
    have:=b1h hi
    omega
   rcases h1 with⟨rfl,h3⟩|⟨rfl,h3⟩|⟨h3,h4,h5⟩|⟨z,rfl,hz,h4⟩
   ·have:ks=[]:=Xb.mp h3
    subst this
    have e:(tx (lkT tb) (.app emptyS [])).1=[91,93]:=by simp[tx,txL,txA]
    rw[e]
    exact d2t
   ·obtain⟨ts,rt,e,hr⟩:=unL (n+1) (.app pairS ks) (by simp only[Trm.size];omega)
    have hw:wf tb (mkL ts rt):=by rw[<-e];exact⟨.inr (.inl ⟨rfl,h3⟩),h2⟩
    obtain⟨w1,w2⟩:=b7h ts rt hw
    have hne:ts≠[]:=fun z=>by
     rw[z,mkL]at e
     rw[<-e,isP,h3]at hr
     exact absurd hr (by decide+kernel)
    have hsz:=a6t ts rt
    rw[<-e]at hsz
    simp only[Trm.size]at hsz
    have hl:1<=ts.length:=by cases ts with|nil=>exact absurd rfl hne|cons a r=>simp
    rw[e,b4c (wf_S hM _ w2) hr ts hne]
    exact d5p (f:=fun t=>(tx (lkT tb) t).1) hne (fun k hk=>ih k (by
     obtain⟨i,hi,rfl⟩:=Xo.mp hk
     have:=b1h hi
     omega) (w1 k hk)) (ih rt (by omega) w2)
   ·obtain⟨g,hg⟩:=Yu.mp h4
    obtain⟨a,b,rfl⟩:∃a b,ks=[a,b]:=by
     match ks,h5 with
     | [a,b],_=>exact⟨a,b,rfl⟩
    obtain⟨n1,n2⟩:=c0d h3
    rw[b7e (r:=g.1) (s:=g.2) hg n2 n1 a b]
    have wa:=hks a (by simp)
    have wb:=hks b (by simp)
    exact d5q ok h3 hg (ih a (hsz a (by simp)) wa) (ih b (hsz b (by simp)) wb) (c3k hM wa) (c3k hM wb)
   ·obtain⟨n1,n2⟩:=b5e hz
    have hl:=b7f hM hz
    cases ks with
    |nil=>
     rw[b5d hl n2]
     simpa using d5o (tb:=tb) hz
    |cons k r=>
     rw[b7d hl n2 n1]
     exact row_app hz (f:=fun t=>(tx (lkT tb) t).1) (by simp) h4 (fun x hx=>ih x (hsz x hx) (hks x hx))
def c0e(K:W.Frag)(H:Hp)(tb:TbF)(t:Trm)(Q:VK):Prop:=∀(p:Addr)(us:List V)(its:List Itm)(H':Hp),Same H H'->H p=none->H' p=some (.lst us)->ItL K H' us its->rowT tb its=(tx tb t).1->rowM its<8*t.size->(∀i∈its,itOk tb i)->its.length<=1000->Q (.ref p) H'
abbrev a8p(K:W.Frag):Sp:=fun vs H Q _=>match vs with| [v]=>∃t:Trm,Den K H v t.data/\Q (.bl t.isPair) H|_=>False
abbrev a9s(K:W.Frag):Sp:=fun vs H Q _=>match vs with
 | [v]=>∃(ts:List Trm)(rt:Trm),rt.isPair=false/\Den K H v (mkL ts rt).data/\ts.length<=1000/\∀(r p:Addr)(us:List V)(y:V)(H':Hp),Same H H'->H p=none->H' r=some (.tup [.ref p,y])->H' p=some (.lst us)->DenL K H' us (Trm.dataL ts)->Den K H' y rt.data->Q (.ref r) H'
 |_=>False
abbrev b0w(K:W.Frag):Sp:=fun vs H Q _=>match vs with| [v,.ref d]=>∃(t:Trm)(tb:TbF),Den K H v t.data/\wfS tb t/\a5q K H d tb/\Q (.int (tx tb t).2.1) H|_=>False
abbrev a6f:Sp:=fun vs H Q _=>match vs with| [.int n]=>-(10^30)<n/\n<10^30/\Q (.str ⟨(numT n).toArray⟩) H|_=>False
abbrev b0a(K:W.Frag):Sp:=fun vs H Q _=>match vs with
 | [.ref a]=>∃us ks,(SqL K H a us\/SqT K H a us)/\DenL K H us (Trm.dataL ks)/\ks.length<=100/\∀(p:Addr)(ws:List V)(H':Hp),Same H H'->H p=none->H' p=some (.lst ws)->ItL K H' ws (a1t ks)->Q (.ref p) H'
 |_=>False
abbrev b2v(K:W.Frag):Sp:=fun vs H Q _=>match vs with
 | [v,.ref ta,.str side,.ref d]=>∃(t:Trm)(tb:TbF)(r:Int)(s:Str),Den K H v t.data/\wfS tb t/\a5q K H d tb/\SqT K H ta [.int r,.str s]/\∀(p:Addr)(us:List V)(its:List Itm)(H':Hp),Same H H'->H p=none->H' p=some (.lst us)->ItL K H' us its->rowT tb its=inBr (tx tb t) (r-1+if s=side then 1 else 0)->rowM its<=8*t.size+2->(∀i∈its,itOk tb i)->its.length<=3->Q (.ref p) H'
 |_=>False
abbrev a7h(K:W.Frag):Sp:=fun vs H Q _=>match vs with| [v,.ref d]=>∃(sg:Str)(ks:List Trm)(tb:TbF),Den K H v (Trm.app sg ks).data/\wfS tb (.app sg ks)/\a5q K H d tb/\(∃p,tb sg=some p)/\c0e K H tb (.app sg ks) Q|_=>False
abbrev a7i(K:W.Frag):Sp:=fun vs H Q _=>match vs with| [v]=>∃(sg:Str)(ks:List Trm)(tb:TbF),Den K H v (Trm.app sg ks).data/\wfS tb (.app sg ks)/\tb sg=none/\sg≠pairS/\c0e K H tb (.app sg ks) Q|_=>False
abbrev a7j(K:W.Frag):Sp:=fun vs H Q _=>match vs with| [v]=>∃(t:Trm)(tb:TbF),Den K H v t.data/\wfS tb t/\t.isPair=true/\t.size<=60/\c0e K H tb t Q|_=>False
abbrev b2w(K:W.Frag):Sp:=fun vs H Q _=>match vs with| [v,.ref d]=>∃(t:Trm)(tb:TbF),Den K H v t.data/\wfS tb t/\a5q K H d tb/\t.size<=60/\c0e K H tb t Q|_=>False
abbrev b5g(K:W.Frag):Sp:=fun vs H Q _=>match vs with| [v,.ref d]=>∃(t:Trm)(tb:TbF),Den K H v t.data/\wfS tb t/\a5q K H d tb/\t.size<=60/\∀H',Same H H'->Q (.str ⟨(tx tb t).1.toArray⟩) H'|_=>False
def badL(tb:Tb)(g:Sg)(a:Trm):Nat:=if rkt tb a<g.1\/(rkt tb a=g.1/\g.2=a2w)then 0 else 1
def badR(tb:Tb)(g:Sg)(b:Trm):Nat:=if rkt tb b<g.1\/(rkt tb b=g.1/\g.2=a2m)then 0 else 1
def badK(tb:Tb)(m:Str)(ks:List Trm):Nat:=match lkT tb m,ks with
 |some g,[a,b]=>badL tb g a+badR tb g b
 |_,_=>0
mutual
def viol(tb:Tb):Trm->Nat
 | .app m ks=>a1s tb ks+badK tb m ks
 | .num _=>0
 | .any _=>0
def a1s(tb:Tb):List Trm->Nat
 | []=>0
 |t::r=>viol tb t+a1s tb r
end
theorem b6q(tb:Tb):∀a b:List Trm,a1s tb (a++b)=a1s tb a+a1s tb b
 | [],b=>by simp[a1s]
 |t::r,b=>by rw[Zn,a1s,a1s,b6q tb r b];omega
theorem a6u{tb:Tb}{m:Str}{ks:List Trm}(h:lkT tb m=none):viol tb (.app m ks)=a1s tb ks:=by
 show a1s tb ks+badK tb m ks=_
 unfold badK
 rw[h]
 rfl
theorem c7z{tb:Tb}{m:Str}{g:Sg}{a b:Trm}(h:lkT tb m=some g):viol tb (.app m [a,b])=viol tb a+viol tb b+(badL tb g a+badR tb g b):=by
 show a1s tb [a,b]+badK tb m [a,b]=_
 unfold badK
 rw[h]
 simp[a1s]
theorem b5h{tb:Tb}(hp:lkT tb pairS=none):∀(ts:List Trm)(r:Trm),viol tb (mkL ts r)=a1s tb ts+viol tb r
 | [],r=>by simp[mkL,a1s]
 |t::ts,r=>by
  rw[mkL,a6u hp,a1s,a1s,a1s,b5h hp ts r,a1s]
  omega
def FitL(g:Sg)(e:Int):Prop:=e<g.1\/(e=g.1/\g.2=a2w)
def FitR(g:Sg)(e:Int):Prop:=e<g.1\/(e=g.1/\g.2=a2m)
structure Ok1(tb:Tb)(t:Trm)(e:Int)(c:Nat):Prop where
 er:e=0\/e=rkt tb t
 co:viol tb t+(if e=rkt tb t then 0 else 1)<=c
theorem Ok1.l{tb:Tb}{t:Trm}{e:Int}{c:Nat}(h:Ok1 tb t e c){g:Sg}(hf:FitL g e):viol tb t+badL tb g t<=c:=by
 have:=h.co
 by_cases q:e=rkt tb t
 ·rw[if_pos q]at this
  rw[q]at hf
  rw[badL,if_pos (show rkt tb t<g.1\/(rkt tb t=g.1/\g.2=a2w)from hf)]
  exact this
 ·rw[if_neg q]at this
  have:badL tb g t<=1:=by unfold badL;split<;>omega
  omega
theorem Ok1.r{tb:Tb}{t:Trm}{e:Int}{c:Nat}(h:Ok1 tb t e c){g:Sg}(hf:FitR g e):viol tb t+badR tb g t<=c:=by
 have:=h.co
 by_cases q:e=rkt tb t
 ·rw[if_pos q]at this
  rw[q]at hf
  rw[badR,if_pos (show rkt tb t<g.1\/(rkt tb t=g.1/\g.2=a2m)from hf)]
  exact this
 ·rw[if_neg q]at this
  have:badR tb g t<=1:=by unfold badR;split<;>omega
  omega
inductive Cr(tb:Tb):List Trm->List Str->Int->Nat->Prop where
 |one {t:Trm} {e:Int} {c:Nat}:Ok1 tb t e c->Cr tb [t] [] e c
 |more {t:Trm} {e e0:Int} {c c0:Nat} {w:Str} {g:Sg} {ts:List Trm} {ws:List Str}:Ok1 tb t e c->lkT tb w=some g->FitR g e->FitL g e0->(∀w' ws',ws=w'::ws'->∃g',lkT tb w'=some g'/\FitR g' g.1)->Cr tb ts ws e0 c0->Cr tb (t::ts) (w::ws) e (c+c0)
theorem Cr.join{tb:Tb}{a b:Trm}{ts:List Trm}{w:Str}{ws:List Str}{e:Int}{c:Nat}(h:Cr tb (b::a::ts) (w::ws) e c):∃g,lkT tb w=some g/\Cr tb (.app w [a,b]::ts) ws g.1 c:=by
 cases h with
 | @more _ _ e0 cb c0 _ g _ _ ob hg fr fl cond h2=>
  refine⟨g,hg,?_⟩
  have hr:rkt tb (.app w [a,b])=g.1:=by show((lkT tb w).getD (0,a1f)).1=g.1;rw[hg];rfl
  have o:∀ca,Ok1 tb a e0 ca->Ok1 tb (.app w [a,b]) g.1 (cb+ca):=fun ca oa=>⟨.inr hr.symm,by
   rw[if_pos hr.symm,c7z hg]
   have h1:=oa.l fl
   have h2:=ob.r fr
   omega⟩
  cases h2 with
  |one oa=>exact .one (o _ oa)
  | @more _ _ e1 ca c1 w' g' ts' ws' oa hg' fr' fl' cond' h3=>
   obtain⟨g2,e2,f2⟩:=cond w' ws' rfl
   rw[hg']at e2
   cases e2
   rw[<-Nat.add_assoc]
   exact .more (o _ oa) hg' f2 fl' cond' h3
theorem Cr.jn{tb:Tb}:∀{ws:List Str}{ts:List Trm}{e:Int}{c:Nat}{y:Trm},Cr tb ts ws e c->jn ts ws=[y]->viol tb y<=c
 | [],ts,e,c,y,h,hj=>by
  cases h with
  |one o=>
   have:[_]=[y]:=hj
   cases this
   have:=o.co
   omega
 |w::ws,ts,e,c,y,h,hj=>by
  cases ts with
  |nil=>cases h
  |cons b ts=>
   cases ts with
   |nil=>cases h with|more _ _ _ _ _ h2=>cases h2
   |cons a ts=>
    obtain⟨g,_,h2⟩:=h.join
    rw[My.jn]at hj
    exact h2.jn hj
theorem Cr.add{tb:Tb}(ok:TbOk tb){m:Str}{g:Sg}(hg:lkT tb m=some g):∀{ws:List Str}{ts:List Trm}{e:Int}{c:Nat}{q:List Trm×List Str},Cr tb ts ws e c->FitL g e->addM tb m g ts ws=some q->∃ws' e',q.2=m::ws'/\Cr tb q.1 ws' e' c/\FitL g e'/\(∀w' ws2,ws'=w'::ws2->∃g',lkT tb w'=some g'/\FitR g' g.1)
 | [],ts,e,c,q,h,hf,ha=>by
  cases h with
  |one o=>
   rw[b8t]at ha
   cases ha
   exact⟨[],e,rfl,.one o,hf,fun _ _ z=>by cases z⟩
 |w::ws,ts,e,c,q,h,hf,ha=>by
  cases ts with
  |nil=>cases h
  |cons b ts=>
   cases ts with
   |nil=>cases h with|more _ _ _ _ _ h2=>cases h2
   |cons a ts=>
    obtain⟨gw,hw,h2⟩:=h.join
    rw[addM,hw,Vi]at ha
    cases hb:bf gw g with
    |none=>rw[hb]at ha;cases ha
    |some z=>
     rw[hb]at ha
     have hbf:=hb
     unfold bf at hbf
     cases z with
     |true=>
      refine Cr.add ok hg h2 ?_ ha
      by_cases q:gw.1=g.1
      ·rw[if_pos q]at hbf
       split at hbf
       ·cases hbf
       ·exact .inr ⟨q,Ze (Zo hbf)⟩
      ·rw[if_neg q]at hbf
       exact .inl (Ze (Zo hbf))
     |false=>
      cases ha
      refine⟨w::ws,e,rfl,h,hf,fun w' ws2 z=>?_⟩
      cases z
      refine⟨gw,hw,?_⟩
      by_cases q:gw.1=g.1
      ·rw[if_pos q]at hbf
       split at hbf
       ·cases hbf
       ·rename_i n0
        have n1:=Zl (Zo hbf)
        have s1:=ok.same _ _ _ _ hw hg q
        refine .inr ⟨q.symm,?_⟩
        rw[s1]
        rcases ok.side _ _ hg with z|z|z
        ·exact absurd z n1
        ·exact z
        ·exact absurd z n0
      ·rw[if_neg q]at hbf
       have:=Zl (Zo hbf)
       exact .inl (by omega)
structure LvA(tb:Tb)(lv:Lv)(c:Nat):Prop where
 co:∃c1,a1s tb lv.done+c1<=c/\((lv.sides=[]/\lv.wait=[]/\c1=0)\/∃w ws g e,lv.wait.reverse=w::ws/\lkT tb w=some g/\Cr tb lv.sides.reverse ws e c1/\FitL g e/\∀w' ws2,ws=w'::ws2->∃g',lkT tb w'=some g'/\FitR g' g.1)
structure LvB(tb:Tb)(lv:Lv)(c:Nat):Prop where
 co:∃c1 e,a1s tb lv.done+c1<=c/\Cr tb lv.sides.reverse lv.wait.reverse e c1/\(e=0)
theorem LvA.thing{tb:Tb}(ok:TbOk tb){lv:Lv}{c ct:Nat}{t:Trm}(h:LvA tb lv c)(o:Ok1 tb t 0 ct):LvB tb { lv with sides:=lv.sides++[t]} (c+ct):=by
 obtain⟨c1,h1,h2⟩:=h.co
 rcases h2 with⟨e1,e2,e3⟩|⟨w,ws,g,e,e1,e2,e3,e4,e5⟩
 ·refine⟨ct,0,?_,?_,rfl⟩
  ·show a1s tb lv.done+ct<=_;omega
  ·show Cr tb (lv.sides++[t]).reverse lv.wait.reverse 0 ct
   rw[e1,e2]
   exact .one o
 ·refine⟨ct+c1,0,?_,?_,rfl⟩
  ·show a1s tb lv.done+(ct+c1)<=_;omega
  ·show Cr tb (lv.sides++[t]).reverse lv.wait.reverse 0 (ct+c1)
   rw[Xr,e1]
   exact .more o e2 (.inl (by have:=ok.pos _ _ e2;omega)) e4 e5 e3
theorem LvB.mark{tb:Tb}(ok:TbOk tb){lv:Lv}{c:Nat}(h:LvB tb lv c){m:Str}{g:Sg}(hg:lkT tb m=some g){q:List Trm×List Str}(ha:addM tb m g lv.sides.reverse lv.wait.reverse=some q):LvA tb { lv with sides:=q.1.reverse,wait:=q.2.reverse} c:=by
 obtain⟨c1,e,h1,h2,rfl⟩:=h.co
 obtain⟨ws',e',a1,a2,a3,a4⟩:=h2.add ok hg (.inl (by have:=ok.pos _ _ hg;omega)) ha
 exact⟨c1,h1,.inr ⟨m,ws',g,e',by show q.2.reverse.reverse=_;rw[Xm];exact a1,hg,by show Cr tb q.1.reverse.reverse ws' e' c1;rw[Xm];exact a2,a3,a4⟩⟩
theorem Cr.len{tb:Tb}{ts:List Trm}{ws:List Str}{e:Int}{c:Nat}(h:Cr tb ts ws e c):ts.length=ws.length+1:=by
 induction h with
 |one _=>rfl
 |more _ _ _ _ _ _ ih=>simp[ih]
theorem LvB.fin{tb:Tb}{lv:Lv}{c:Nat}(h:LvB tb lv c):a1s tb (fin lv).done<=c/\(fin lv).sides=[]/\(fin lv).wait=[]:=by
 obtain⟨c1,e,h1,h2,_⟩:=h.co
 obtain⟨y,hy⟩:=b3x h2.len
 refine⟨?_,rfl,rfl⟩
 rw[b3y hy]
 have:=h2.jn hy
 show a1s tb (lv.done++[y])<=c
 rw[b6q]
 simp[a1s]
 omega
def rnd:List Pc->Nat
 | []=>0
 | [z]=>if Pc.ks z=sgK "(" then 1 else 0
 |z::y::r=>if kindOf z=ofString "word"/\Pc.ks y=sgK "(" then rnd r else(if Pc.ks z=sgK "(" then 1 else 0)+rnd (y::r)
theorem end_ne':hK ([]:List Pc)≠sgK "(":=by decide+kernel
theorem a6v{z:Pc}{r:List Pc}(h:kindOf z=ofString "word"->hK r≠sgK "("):rnd (z::r)=(if Pc.ks z=sgK "(" then 1 else 0)+rnd r:=by
 cases r with
 |nil=>simp[rnd]
 |cons y r=>rw[rnd,if_neg (fun e=>h e.1 e.2)]
theorem b8x{z y:Pc}{r:List Pc}(h1:kindOf z=ofString "word")(h2:Pc.ks y=sgK "("):rnd (z::y::r)=rnd r:=by rw[rnd,if_pos ⟨h1,h2⟩]
theorem c1k{z:Pc}{s:Str}(h:Pc.ks z=[Sum.inr (ofString "sign"),Sum.inr s]):kindOf z=ofString "sign":=by
 simp only[Pc.ks,Yd,Yw]at h
 exact h.1
theorem a4q{z:Pc}{s:Str}{r:List Pc}(h:Pc.ks z=[Sum.inr (ofString "sign"),Sum.inr s])(hs:s≠ofString "("):rnd (z::r)=rnd r:=by
 rw[a6v (fun e=>by rw[c1k h]at e;exact absurd e (by decide+kernel)),if_neg,Nat.zero_add]
 rw[h]
 simp only[Yd,Yw]
 exact fun e=>hs e.2.1
theorem c0f{tb:Tb}(hM:a2f tb):lkT tb (ofString "")=none:=by
 cases e:lkT tb (ofString "")with
 |none=>rfl
 |some g=>
  obtain⟨z,h1,h2,_⟩:=hM _ _ e
  rw[show(ofString "":Str)=⟨([]:List Nat).toArray⟩ by decide+kernel]at h1
  rw[<-b1i h1]at h2
  simp at h2
structure KdOk(tb:Tb)(lv:Lv):Prop where
 wd:lkT tb lv.word=none
 rs:lv.kind=ofString "rest"->lv.done≠[]
def cst(lv:Lv):Nat:=if lv.kind=ofString "round" then 1 else 0
inductive StA(tb:Tb):List Lv->Nat->Prop where
 |nil:StA tb [] 0
 |cons {lv:Lv} {c c0:Nat} {st:List Lv}:LvA tb lv c->KdOk tb lv->StA tb st c0->StA tb (lv::st) (c+cst lv+c0)
inductive StB(tb:Tb):List Lv->Nat->Prop where
 |cons {lv:Lv} {c c0:Nat} {st:List Lv}:LvB tb lv c->KdOk tb lv->StA tb st c0->StB tb (lv::st) (c+cst lv+c0)
theorem LvA.new{tb:Tb}{k w:Str}:LvA tb ⟨k,w,[],[],[]⟩ 0:=⟨0,by simp[a1s],.inl ⟨rfl,rfl,rfl⟩⟩
structure Stop(r:List Pc):Prop where
 a:hK r≠sgK "("
 b:hK r=sgK "["->hK r.tail=sgK "]"
 c:∀z r',r=z::r'->kindOf z=ofString "word"->hK r'≠sgK "("
theorem b6r{tb:Tb}(hM:a2f tb):∀(n:Nat){r r1:List Pc}{st st1:List Lv}{c:Nat},r.length<=n->opn r st=some (r1,st1)->StA tb st c->∃c1,StA tb st1 c1/\c1+rnd r1<=c+rnd r/\Stop r1
 |n,[],r1,st,st1,c,_,h,hs=>by
  rw[opn]at h
  cases h
  exact⟨c,hs,Zb _,end_ne',fun e=>absurd e (by decide+kernel),fun z r' e=>by cases e⟩
 |0,z::r,r1,st,st1,c,hl,_,_=>by simp at hl
 |n+1,z::r,r1,st,st1,c,hl,h,hs=>by
  simp only[length_cons]at hl
  by_cases h1:Pc.ks z=sgK "("
  ·rw[a8f h1]at h
   have h2:StA tb (rdL::st) (0+cst rdL+c):=.cons LvA.new ⟨c0f hM,fun e=>absurd e (by decide+kernel)⟩ hs
   obtain⟨c1,a1,a2,a3⟩:=b6r hM n (by omega) h h2
   have e1:cst rdL=1:=if_pos rfl
   refine⟨c1,a1,?_,a3⟩
   rw[a6v (fun e=>by rw[c1k h1]at e;exact absurd e (by decide+kernel)),if_pos h1]
   omega
  ·by_cases h2:Pc.ks z=sgK "["/\hK r≠sgK "]"
   ·rw[a9e h2.1 h2.2]at h
    have h3:StA tb (ltL::st) (0+cst ltL+c):=.cons LvA.new ⟨c0f hM,fun e=>absurd e (by decide+kernel)⟩ hs
    obtain⟨c1,a1,a2,a3⟩:=b6r hM n (by omega) h h3
    have e1:cst ltL=0:=if_neg (by decide+kernel)
    refine⟨c1,a1,?_,a3⟩
    rw[a4q h2.1 (by decide+kernel)]
    omega
   ·by_cases h3:kindOf z=ofString "word"/\hK r=sgK "("
    ·cases r with
     |nil=>exact absurd h3.2 end_ne'
     |cons y r=>
      have hy:Pc.ks y=sgK "(":=h3.2
      rw[b2a h3.1 hy]at h
      by_cases h4:z.length<=12
      ·rw[if_pos h4]at h
       obtain⟨x,r',rfl,hx⟩:=a7t h3.1
       have h5:StA tb (kdL ⟨(x::r').toArray⟩::st) (0+cst (kdL ⟨(x::r').toArray⟩)+c):=.cons LvA.new ⟨c0c hM (b1g (a3r hx)).2.2.2.2,fun e=>absurd e (by show ¬ofString "kids"=ofString "rest";decide+kernel)⟩ hs
       simp only[length_cons]at hl
       obtain⟨c1,a1,a2,a3⟩:=b6r hM n (by omega) h h5
       have e1:cst (kdL ⟨(x::r').toArray⟩)=0:=if_neg (by show ¬ofString "kids"=ofString "round";decide+kernel)
       refine⟨c1,a1,?_,a3⟩
       rw[b8x h3.1 hy]
       omega
      ·rw[if_neg h4]at h;cases h
    ·have sp:Stop (z::r):=⟨h1,fun e=>Vg fun q=>h2 ⟨e,q⟩,fun z' r' e hk=>by cases e;exact fun q=>h3 ⟨hk,q⟩⟩
     rw[a6q sp.a sp.b sp.c]at h
     cases h
     exact⟨c,hs,Zb _,sp⟩
theorem d2v{tb:Tb}(hM:a2f tb){r r2:List Pc}{t:Trm}(h:thg r=some (t,r2))(hs:Stop r):rnd r2<=rnd r/\Ok1 tb t 0 0:=by
 cases r with
 |nil=>cases h
 |cons z r=>
  rw[thg]at h
  have le:∀t:Trm,rkt tb t=0->viol tb t=0->Ok1 tb t 0 0:=fun t h1 h2=>⟨.inl rfl,by rw[if_pos h1.symm,h2];exact Zb _⟩
  by_cases h1:Pc.ks z=sgK "["
  ·rw[if_pos h1]at h
   cases h
   refine⟨?_,le _ ?_ ?_⟩
   ·rw[a4q h1 (by decide+kernel)]
    have hb:=hs.b h1
    cases r with
    |nil=>exact Zb _
    |cons y r=>
     have hb:Pc.ks y=sgK "]":=hb
     rw[a4q hb (by decide+kernel)]
     exact Zb _
   ·show((lkT tb emptyS).getD (0,a1f)).1=0
    rw[b2d hM]
    rfl
   ·exact(a6u (b2d hM)).trans rfl
  ·rw[if_neg h1]at h
   cases hz:thgZ z with
   |none=>rw[hz]at h;cases h
   |some u=>
    rw[hz]at h
    cases h
    refine⟨?_,?_⟩
    ·rw[a6v (hs.c _ _ rfl)]
     omega
    ·unfold thgZ at hz
     split at hz
     ·cases hz;exact le _ rfl rfl
     split at hz
     ·split at hz
      ·cases hz;exact le _ rfl rfl
      ·cases hz
     split at hz
     ·rename_i hw
      split at hz
      ·cases hz
       obtain⟨x,r',rfl,hx⟩:=a7t hw
       have hn:lkT tb ⟨(x::r').toArray⟩=none:=c0c hM (b1g (a3r hx)).2.2.2.2
       refine le _ ?_ ((a6u hn).trans rfl)
       show((lkT tb ⟨(x::r').toArray⟩).getD (0,a1f)).1=0
       rw[hn]
       rfl
      ·cases hz
     ·cases hz
theorem c9f{tb:Tb}{ts:List Trm}(hM:a2f tb):viol tb (ts.headD a2x)<=a1s tb ts:=by
 cases ts with
 |nil=>show viol tb a2x<=0;rw[show viol tb a2x=0 from(a6u (b2d hM)).trans rfl];exact Zb _
 |cons a r=>show viol tb a<=_;rw[a1s];omega
theorem d2w{tb:Tb}(hM:a2f tb){lv:Lv}{c:Nat}{t:Trm}(h:LvB tb lv c)(kd:KdOk tb lv)(hc:clo (fin lv)=some t):Ok1 tb t 0 (c+cst lv):=by
 obtain⟨h1,_,_⟩:=h.fin
 have z0:∀(t:Trm)(m:Str)(ks:List Trm),t=.app m ks->lkT tb m=none->rkt tb t=0:=fun t m ks e hm=>by
  rw[e];show((lkT tb m).getD (0,a1f)).1=0;rw[hm];rfl
 have pz:∀ts r,ts≠[]->rkt tb (mkL ts r)=0:=fun ts r hn=>by
  cases ts with
  |nil=>exact absurd rfl hn
  |cons a ts=>exact z0 _ _ _ rfl (b4d hM)
 have fk:(fin lv).kind=lv.kind:=rfl
 have fd:(fin lv).done≠[]:=by simp[My.fin]
 unfold clo at hc
 rw[fk]at hc
 by_cases a1:lv.kind=ofString "round"
 ·rw[if_pos a1]at hc
  cases hc
  have:=c9f (ts:=(fin lv).done) hM
  have e:cst lv=1:=if_pos a1
  exact⟨.inl rfl,by split<;>omega⟩
 ·have e:cst lv=0:=if_neg a1
  rw[if_neg a1]at hc
  by_cases a2:lv.kind=ofString "list"
  ·rw[if_pos a2]at hc
   cases hc
   refine⟨.inl rfl,?_⟩
   rw[if_pos (pz _ _ fd).symm,b5h (b4d hM),show viol tb a2x=0 from(a6u (b2d hM)).trans rfl]
   omega
  ·rw[if_neg a2]at hc
   by_cases a3:lv.kind=ofString "rest"
   ·rw[if_pos a3]at hc
    cases hc
    have hd:=kd.rs a3
    have e9:(fin lv).done.dropLast=lv.done:=by simp[My.fin]
    refine⟨.inl rfl,?_⟩
    rw[if_pos (pz _ _ (by rw[e9];exact hd)).symm,b5h (b4d hM)]
    have e8:(fin lv).done=(fin lv).done.dropLast++[(fin lv).done.getLastD a2x]:=by simp[My.fin]
    have:=Z9 (a1s tb) e8
    rw[b6q]at this
    simp only[a1s]at this
    omega
   ·rw[if_neg a3]at hc
    split at hc
    ·cases hc
     have hn:lkT tb (fin lv).word=none:=kd.wd
     refine⟨.inl rfl,?_⟩
     rw[if_pos (z0 _ _ _ rfl hn).symm,a6u hn]
     omega
    ·cases hc
theorem clS_ne(k:Str):clS k≠ofString "(":=by
 unfold clS
 by_cases a:k=ofString "whole"
 ·rw[if_pos a];decide+kernel
 ·rw[if_neg a]
  by_cases b:k=ofString "round"\/k=ofString "kids"
  ·rw[if_pos b];decide+kernel
  ·rw[if_neg b];decide+kernel
theorem c5u{tb:Tb}(ok:TbOk tb)(hM:a2f tb):∀{r r3:List Pc}{lv:Lv}{st st3:List Lv}{c:Nat},cls r lv st=some (r3,st3)->StB tb (lv::st) c->∃c3,StB tb st3 c3/\c3+rnd r3<=c+rnd r
 | [],r3,lv,st,st3,c,h,hs=>by
  have:cls [] lv st=some ([],lv::st):=by cases st<;>simp[cls]
  rw[this]at h
  cases h
  exact⟨c,hs,Zb _⟩
 |z::r,r3,lv,[],st3,c,h,hs=>by
  have:cls (z::r) lv []=some (z::r,[lv]):=by simp[cls]
  rw[this]at h
  cases h
  exact⟨c,hs,Zb _⟩
 |z::r,r3,lv,lu::st,st3,c,h,hs=>by
  by_cases h1:Pc.ks z=[Sum.inr (ofString "sign"),Sum.inr (clS lv.kind)]
  ·rw[b4x h1]at h
   cases hc:clo (fin lv)with
   |none=>rw[hc]at h;cases h
   |some t=>
    rw[hc]at h
    cases hs with
    | @cons _ cl c0 _ hb kd ha=>
     have o:=d2w hM hb kd hc
     cases ha with
     | @cons _ cu c1 _ hu ku hr=>
      have h2:StB tb ({ lu with sides:=lu.sides++[t]}::st) (cu+(cl+cst lv)+cst lu+c1):=.cons (hu.thing ok o) ⟨ku.wd,ku.rs⟩ hr
      obtain⟨c3,a1,a2⟩:=c5u ok hM h h2
      refine⟨c3,a1,?_⟩
      rw[a4q h1 (clS_ne _)]
      omega
  ·rw[b4w (by exact h1)]at h
   cases h
   exact⟨c,hs,Zb _⟩
theorem btw_cr{tb:Tb}(ok:TbOk tb){r r4:List Pc}{lv lx:Lv}{c:Nat}(h:btw tb lv r=some (some (r4,lx)))(hb:LvB tb lv c)(kd:KdOk tb lv):LvA tb lx c/\KdOk tb lx/\cst lx=cst lv/\rnd r4<=rnd r:=by
 obtain⟨f1,f2,f3⟩:=hb.fin
 have fa:∀k,LvA tb { fin lv with kind:=k} c:=fun k=>⟨0,by show a1s tb (fin lv).done+0<=c;omega,.inl ⟨rfl,rfl,rfl⟩⟩
 have fd:(fin lv).done≠[]:=by simp[My.fin]
 cases r with
 |nil=>cases h
 |cons z r=>
  rw[btw]at h
  split at h
  ·rename_i hk
   cases hg:lkT tb ⟨z.toArray⟩with
   |none=>rw[hg]at h;cases h
   |some g=>
    rw[hg]at h
    cases ha:addM tb ⟨z.toArray⟩ g lv.sides.reverse lv.wait.reverse with
    |none=>simp only[ha]at h;cases h
    |some q=>
     simp only[ha,Xh]at h
     cases h
     refine⟨hb.mark ok hg ha,⟨kd.wd,kd.rs⟩,rfl,?_⟩
     rw[a6v (fun e=>by rw[hk]at e;exact absurd e (by decide+kernel))]
     omega
  split at h
  ·rename_i hk
   cases h
   refine⟨fa lv.kind,⟨kd.wd,fun _=>fd⟩,rfl,?_⟩
   rw[a4q hk.1 (by decide+kernel)]
   exact Zb _
  split at h
  ·rename_i hk
   cases h
   refine⟨fa _,⟨kd.wd,fun _=>fd⟩,?_,?_⟩
   ·have e1:cst lv=0:=if_neg (by rw[hk.2];decide+kernel)
    rw[e1]
    exact if_neg (by show ¬ofString "rest"=ofString "round";decide+kernel)
   ·rw[a4q hk.1 (by decide+kernel)]
    exact Zb _
  ·cases h
theorem c5v{tb:Tb}(ok:TbOk tb)(hM:a2f tb){r r':List Pc}{st st':List Lv}{b:Bool}{c:Nat}(h:trn tb r st=some (b,r',st'))(hs:StA tb st c):∃c',c'+rnd r'<=c+rnd r/\(b=true->StA tb st' c')/\(b=false->StB tb st' c'):=by
 unfold trn at h
 cases h1:opn r st with
 |none=>rw[h1]at h;cases h
 |some q=>
  obtain⟨r1,st1⟩:=q
  rw[h1]at h
  obtain⟨c1,a1,a2,a3⟩:=b6r hM r.length (Zb _) h1 hs
  cases st1 with
  |nil=>cases h
  |cons lv st1=>
   simp only[]at h
   cases h2:thg r1 with
   |none=>rw[h2]at h;cases h
   |some q2=>
    obtain⟨t,r2⟩:=q2
    rw[h2]at h
    simp only[]at h
    obtain⟨b1,b2⟩:=d2v hM h2 a3
    cases a1 with
    | @cons _ cl c0 _ hl kl hst=>
     have hB:StB tb ({ lv with sides:=lv.sides++[t]}::st1) (cl+0+cst lv+c0):=.cons (hl.thing ok b2) ⟨kl.wd,kl.rs⟩ hst
     cases h3:cls r2 { lv with sides:=lv.sides++[t]} st1 with
     |none=>rw[h3]at h;cases h
     |some q3=>
      obtain⟨r3,st3⟩:=q3
      rw[h3]at h
      obtain⟨c3,d1,d2⟩:=c5u ok hM h3 hB
      cases st3 with
      |nil=>cases h
      |cons lw st3=>
       simp only[]at h
       cases h4:btw tb lw r3 with
       |none=>rw[h4]at h;cases h
       |some q4=>
        rw[h4]at h
        cases q4 with
        |none=>
         cases h
         exact⟨c3,by omega,fun e=>(by cases e),fun _=>d1⟩
        |some q5=>
         obtain⟨r4,lx⟩:=q5
         cases h
         cases d1 with
         | @cons _ cw cz _ hw kw hz=>
          obtain⟨e1,e2,e3,e4⟩:=btw_cr ok h4 hw kw
          refine⟨cw+cst lw+cz,by omega,fun _=>?_,fun e=>by cases e⟩
          rw[<-e3]
          exact .cons e1 e2 hz
theorem lp_cr{tb:Tb}(ok:TbOk tb)(hM:a2f tb){n:Nat}{r:List Pc}{st:List Lv}{o:Option (List Pc×List Lv)}(h:Lp tb n r st o):∀{c:Nat}{x:List Pc×List Lv},StA tb st c->o=some x->∃c',StB tb x.2 c'/\c'+rnd x.1<=c+rnd r:=by
 induction h with
 |bad _=>intro c x _ e;cases e
 |last h=>
  intro c x hs e
  cases e
  obtain⟨c',a1,_,a3⟩:=c5v ok hM h hs
  exact⟨c',a3 rfl,a1⟩
 |more h _ ih=>
  intro c x hs e
  obtain⟨c1,a1,a2,_⟩:=c5v ok hM h hs
  obtain⟨c',b1,b2⟩:=ih (a2 rfl) e
  exact⟨c',b1,by omega⟩
theorem d2x{tb:Tb}(ok:TbOk tb)(hM:a2f tb){p r':List Pc}{y:Trm}(h:RdT tb p (some (y,r'))):viol tb y+rnd r'<=rnd p:=by
 cases h with
 |term lp hd hj hz=>
  have h0:StA tb [a3j] (0+cst a3j+0):=.cons LvA.new ⟨c0f hM,fun e=>absurd e (by decide+kernel)⟩ .nil
  obtain⟨c',a1,a2⟩:=lp_cr ok hM lp h0 rfl
  have e0:cst a3j=0:=if_neg (by decide+kernel)
  cases a1 with
  | @cons lv cl c0 _ hb kd hn=>
   obtain⟨c1,e,b1,b2,_⟩:=hb.co
   have:=b2.jn hj
   simp only[]at a2
   omega
theorem c1l:∀(n:Nat){p q:List Pc},p.length<=n->hK q≠sgK "("->rnd (p++q)=rnd p+rnd q
 |n,[],q,_,_=>by simp[rnd]
 |0,_::_,_,hl,_=>by simp at hl
 |n+1,[z],q,_,hq=>by
  rw[Xg,a6v (fun _=>hq),rnd]
 |n+1,z::y::r,q,hl,hq=>by
  simp only[length_cons]at hl
  rw[Zn,Zn,rnd,rnd]
  by_cases h:kindOf z=ofString "word"/\Pc.ks y=sgK "("
  ·rw[if_pos h,if_pos h]
   exact c1l n (by omega) hq
  ·rw[if_neg h,if_neg h,<-Zn,c1l n (by simp only[length_cons];omega) hq]
   omega
theorem b0b{p q:List Pc}(h:hK q≠sgK "("):rnd (p++q)=rnd p+rnd q:=c1l p.length (Zb _) h
theorem c5w{r:List Pc}:rnd (sg 41::r)=rnd r:=a4q k41 (by decide+kernel)
theorem rnd_44{r:List Pc}:rnd (sg 44::r)=rnd r:=a4q k44 (by decide+kernel)
theorem d2y{r:List Pc}:rnd (sg 93::r)=rnd r:=a4q k93 (by decide+kernel)
theorem d2z{r:List Pc}:rnd (sg 91::r)=rnd r:=a4q k91' (by decide+kernel)
theorem rnd_124{r:List Pc}:rnd (sg 124::r)=rnd r:=a4q k124 (by decide+kernel)
theorem h41{r:List Pc}:hK (sg 41::r)≠sgK "(":=by show Pc.ks (sg 41)≠_;rw[k41];exact a3w (by decide+kernel)
theorem h44{r:List Pc}:hK (sg 44::r)≠sgK "(":=by show Pc.ks (sg 44)≠_;rw[k44];exact a3w (by decide+kernel)
theorem h93{r:List Pc}:hK (sg 93::r)≠sgK "(":=by show Pc.ks (sg 93)≠_;rw[k93];exact a3w (by decide+kernel)
theorem h124{r:List Pc}:hK (sg 124::r)≠sgK "(":=by show Pc.ks (sg 124)≠_;rw[k124];exact a3w (by decide+kernel)
theorem d3a(p:List Pc):rnd (sg 40::(p++[sg 41]))=1+rnd p:=by
 rw[a6v (fun e=>absurd e (by decide+kernel)),if_pos k40,b0b h41,c5w]
 rfl
theorem c5x{tb:Tb}:∀{ts:List Trm}{f:Trm->List Nat},(∀t∈ts,rnd (bits (f t))<=viol tb t)->rnd (jc (ts.map fun t=>bits (f t)))<=a1s tb ts
 | [],f,_=>Zb _
 | [t],f,h=>by have:=h t (Zj ..);simp[jc,a1s];omega
 |t::u::ts,f,h=>by
  have h1:=h t (Zj ..)
  have h2:=c5x (ts:=u::ts) (f:=f) (fun x hx=>h x (Zi _ hx))
  simp only[Zp,jc]at h2 ⊢
  rw[b0b h44,rnd_44,a1s]
  omega
theorem c9g{c:Nat}{r:List Nat}(hi:inn c)(hr:∀y∈r,inn y)(ks:List Trm)(f:Trm->List Nat):bits ((c::r)++[40]++a0y (ks.map f)++[41])=(c::r)::sg 40::(jc (ks.map fun k=>bits (f k))++[sg 41]):=by
 rw[show(c::r)++[40]++a0y (ks.map f)++[41]=(c::r)++40::(a0y (ks.map f)++41::[]) by simp,a1r no40,a6r (.inl hi) hr,a2c a1i.1.1,a1r no41,a8o,a9f,Y9,show bits [41]=[[41]] by decide+kernel]
 rfl
theorem c9h{c:Nat}{r:List Nat}(h4:∀y∈c::r,mkc y)(A B:List Nat):bits (A++[32]++(⟨(c::r).toArray⟩:Str).cps.toList++[32]++B)=bits A++(c::r)::bits B:=by
 rw[show A++[32]++(⟨(c::r).toArray⟩:Str).cps.toList++[32]++B=A++32::((c::r)++32::B) by simp,a1r no32,a2s,a1r no32,a2s,c5k (h4 c (Zj ..)) (fun y hy=>h4 y (Zi _ hy))]
 rfl
theorem d3b{tb:Tb}{a:Trm}{p:TxR}(h:rnd (bits p.1)<=viol tb a)(m:Int):rnd (bits (inBr p m))<=viol tb a+if m<p.2.1 then 1 else 0:=by
 unfold inBr
 by_cases q:m<p.2.1
 ·rw[if_pos q,if_pos q,a3q,d3a];omega
 ·rw[if_neg q,if_neg q];exact h
theorem d5r{n:Int}(h:-(10^30)<n/\n<10^30):∃z,bits (numT n)=[z]/\Pc.ks z≠sgK "(":=by
 by_cases h0:n=0
 ·subst h0
  exact⟨[48],by decide+kernel,by decide+kernel⟩
 obtain⟨k,hk⟩:∃k:Nat,k=n.natAbs:=⟨_,rfl⟩
 obtain⟨f1,x,r,e,hx⟩:=b1f k
 have hl:=b1q (n:=k) (k:=30) (by decide) (by omega)
 have hf:∀y∈a1k k,y∈figS.cps.toList:=fun y hy=>by
  have:=f1 y hy
  have a:∀n,n<10->48+n∈figS.cps.toList:=by decide+kernel
  have:=a (y-48) (by omega)
  rwa[show 48+(y-48)=y by omega]at this
 have hx:=hx (by omega)
 have h48:a1k k≠[48]:=fun z=>hx (by rw[e]at z;exact(Wh z).1)
 have nz:NumZ (a1k k):=⟨x,r,e,hf,.inr hx⟩
 have ev:valD (a1k k)=k:=figs_inj' _ _ (b4t _ _ rfl nz).1
 have et:numT n=ngT (decide (n<0)) (a1k k):=by
  unfold numT ngT
  rw[<-hk]
  by_cases c:n<0
  ·rw[if_pos c,if_pos (Zg c)]
  ·rw[if_neg c,if_neg (by rw[Zd c];decide)]
 have en:n=ngV (decide (n<0)) (a1k k):=by
  unfold ngV
  rw[ev]
  by_cases c:n<0
  ·rw[if_pos (Zg c)];omega
  ·rw[if_neg (by rw[Zd c];decide)];omega
 obtain⟨eb,pl,kk⟩:=ng_ok nz h48 (decide (n<0))
 rw[if_pos (by omega),<-en]at kk
 rw[et]
 exact⟨_,eb,a4h kk.1 _⟩
theorem d3c:∀(n:Nat){tb:Tb},TbOk tb->a2f tb->∀t,t.size<=n->wf tb t->rnd (bits (tx (lkT tb) t).1)<=viol tb t
 |0,_,_,_,t,hs,_=>by have:=t.size_pos;omega
 |n+1,tb,ok,hM,t,hs,h=>by
  have ih:=fun t hs=>d3c n ok hM t hs
  have one:∀{z:Pc},bits z=[z]->Pc.ks z≠sgK "("->rnd (bits z)<=0:=fun e hz=>by rw[e,rnd,if_neg hz];exact Zb _
  cases t with
  |num m=>
   obtain⟨z,e1,e2⟩:=d5r h
   show rnd (bits (numT m))<=0
   rw[e1,rnd,if_neg e2]
   exact Zb _
  |any x=>
   obtain⟨z,rfl,c,r,rfl,hc,_,hr⟩:=h
   refine one (z:=c::r) (a6r (.inl (a8c hc)) hr) ?_
   exact a4h (b5a (r:=r) hc) _
  |app sg ks=>
   obtain⟨h1,h2⟩:=h
   have hks:=a5j.mp h2
   simp only[Trm.size]at hs
   have hsz:∀k∈ks,k.size<=n:=fun k hk=>by
    obtain⟨i,hi,rfl⟩:=Xo.mp hk
    have:=b1h hi
    omega
   rcases h1 with⟨rfl,h3⟩|⟨rfl,h3⟩|⟨h3,h4,h5⟩|⟨z,rfl,hz,h4⟩
   ·have:ks=[]:=Xb.mp h3
    subst this
    have e:(tx (lkT tb) (.app emptyS [])).1=[91,93]:=by simp[tx,txL,txA]
    rw[e,show rnd (bits [91,93])=0 by decide+kernel]
    exact Z3 _
   ·obtain⟨ts,rt,e,hr⟩:=unL (n+1) (.app pairS ks) (by simp only[Trm.size];omega)
    have hw:wf tb (mkL ts rt):=by rw[<-e];exact⟨.inr (.inl ⟨rfl,h3⟩),h2⟩
    obtain⟨w1,w2⟩:=b7h ts rt hw
    have hne:ts≠[]:=fun z=>by
     rw[z,mkL]at e
     rw[<-e,isP,h3]at hr
     exact absurd hr (by decide+kernel)
    have hsz:=a6t ts rt
    rw[<-e]at hsz
    simp only[Trm.size]at hsz
    have hl:1<=ts.length:=by cases ts with|nil=>exact absurd rfl hne|cons a r=>simp
    rw[e,b4c (wf_S hM _ w2) hr ts hne,b5h (b4d hM)]
    have hj:=c5x (tb:=tb) (ts:=ts) (f:=fun t=>(tx (lkT tb) t).1) (fun k hk=>ih k (by
     obtain⟨i,hi,rfl⟩:=Xo.mp hk
     have:=b1h hi
     omega) (w1 k hk))
    have h9:=ih rt (by omega) w2
    have e0:(ts.map fun t=>(tx (lkT tb) t).1).map bits=ts.map fun t=>bits (tx (lkT tb) t).1:=by rw[Y9];rfl
    by_cases q:rt=.app emptyS []
    ·rw[if_pos q,show(91::a0y (ts.map fun t=>(tx (lkT tb) t).1)++[]++[93]:List Nat)=91::(a0y (ts.map fun t=>(tx (lkT tb) t).1)++93::[]) by simp,a2c a1i.2.2.1,a1r no93,a8o,a9f,e0,show bits [93]=[[93]] by decide+kernel,d2z,b0b h93,d2y]
     simp only[rnd]
     omega
    ·rw[if_neg q,show(91::a0y (ts.map fun t=>(tx (lkT tb) t).1)++([32,124,32]++(tx (lkT tb) rt).1)++[93]:List Nat)=91::(a0y (ts.map fun t=>(tx (lkT tb) t).1)++32::124::32::((tx (lkT tb) rt).1++93::[])) by simp,a2c a1i.2.2.1,a1r no32,a2s,a2c a1i.2.1.2,a2s,a1r no93,a8o,a9f,e0,show bits [93]=[[93]] by decide+kernel,d2z,b0b h124,rnd_124,b0b h93,d2y]
     simp only[rnd]
     omega
   ·obtain⟨g,hg⟩:=Yu.mp h4
    obtain⟨a,b,rfl⟩:∃a b,ks=[a,b]:=by
     match ks,h5 with
     | [a,b],_=>exact⟨a,b,rfl⟩
    obtain⟨n1,n2⟩:=c0d h3
    have wa:=hks a (by simp)
    have wb:=hks b (by simp)
    have ra:=c3k hM wa
    have rb:=c3k hM wb
    rw[b7e (r:=g.1) (s:=g.2) hg n2 n1 a b,c7z hg]
    obtain⟨z,rfl,q1,q3,q4,q5⟩:=h3
    obtain⟨c,r,rfl⟩:∃c r,z=c::r:=by cases z with|nil=>simp at q1|cons c r=>exact⟨c,r,rfl⟩
    have hk:kindOf (c::r)=ofString "mark":=c1i (q4 c (Zj ..)) (fun y hy=>q4 y (Zi _ hy)) q5 q3
    unfold a8n
    rw[c9h q4,b0b (by show Pc.ks (c::r)≠_;exact a4h hk _),a6v (fun e=>by rw[hk]at e;exact absurd e (by decide+kernel)),if_neg (a4h hk _)]
    have i1:=d3b (ih a (hsz a (by simp)) wa) (g.1-1+if g.2=a2w then 1 else 0)
    have i2:=d3b (ih b (hsz b (by simp)) wb) (g.1-1+if g.2=a2m then 1 else 0)
    rw[ra]at i1
    rw[rb]at i2
    have j1:(if(g.1-1+if g.2=a2w then 1 else 0)<rkt tb a then 1 else 0)<=badL tb g a:=by
     unfold badL
     by_cases e:g.2=a2w
     ·rw[if_pos e]
      split
      ·rw[if_neg (by omega)];exact Zb _
      ·exact Z3 _
     ·rw[if_neg e]
      split
      ·rw[if_neg (fun z=>by rcases z with z|z;omega;exact e z.2)];exact Zb _
      ·exact Z3 _
    have j2:(if(g.1-1+if g.2=a2m then 1 else 0)<rkt tb b then 1 else 0)<=badR tb g b:=by
     unfold badR
     by_cases e:g.2=a2m
     ·rw[if_pos e]
      split
      ·rw[if_neg (by omega)];exact Zb _
      ·exact Z3 _
     ·rw[if_neg e]
      split
      ·rw[if_neg (fun z=>by rcases z with z|z;omega;exact e z.2)];exact Zb _
      ·exact Z3 _
    omega
   ·obtain⟨n1,n2⟩:=b5e hz
    have hl:=b7f hM hz
    rw[a6u hl]
    obtain⟨c,r,rfl,hc,_,hr⟩:=hz
    have hi:=a3r hc
    have hw:=b0u (r:=r) hc
    cases ks with
    |nil=>
     rw[b5d hl n2]
     exact one (z:=c::r) (a6r (.inl hi) hr) (a4h hw _)
    |cons k ks=>
     rw[b7d hl n2 n1]
     have:=c9g hi hr (k::ks) (fun t=>(tx (lkT tb) t).1)
     rw[show(⟨(c::r).toArray⟩:Str).cps.toList=c::r by simp,this,b8x hw k40,b0b h41,c5w]
     have hj:=c5x (tb:=tb) (ts:=k::ks) (f:=fun t=>(tx (lkT tb) t).1) (fun x hx=>ih x (hsz x hx) (hks x hx))
     simp only[rnd]
     omega
def NoW(P:List Pc):Prop:=∀P' z,P=P'++[z]->kindOf z≠ofString "word"
theorem NoW.nil:NoW []:=fun P' z e=>by cases P'<;>cases e
theorem NoW.cons{Q P:List Pc}{z:Pc}(hz:kindOf z≠ofString "word")(h:NoW P):NoW (Q++z::P):=fun P' y e=>by
 rcases nil_or_snoc' P with rfl|⟨p,x,rfl⟩
 ·obtain⟨_,e2⟩:=Xw e rfl
  cases e2
  exact hz
 ·rw[show Q++z::(p++[x])=(Q++z::p)++[x] by simp]at e
  obtain⟨_,e2⟩:=Xw e rfl
  cases e2
  exact h p _ rfl
theorem NoW.app{P Q:List Pc}(hP:NoW P)(hQ:NoW Q):NoW (P++Q):=by
 rcases nil_or_snoc' Q with rfl|⟨q,x,rfl⟩
 ·rw[Yo];exact hP
 ·intro P' y e
  rw[<-Zx]at e
  obtain⟨_,e2⟩:=Xw e rfl
  cases e2
  exact hQ q _ rfl
def Cl(c:Nat):Prop:=c=32\/c=41\/c=44\/c=93
theorem Cl.no{c:Nat}(h:Cl c):¬inn c/\¬mkc c:=by
 rcases h with rfl|rfl|rfl|rfl
 ·exact no32
 ·exact no41
 ·exact no44
 ·exact no93
structure Tq(l:List Nat):Prop where
 sp:∀A R,l=A++40::R->(∃A' c,A=A'++[c]/\inn c)\/NoW (bits A)
 cp:∀A c R,l=A++41::c::R->Cl c
 dk:∀A R,l=A++R->A.count 41<=A.count 40
 eq:l.count 41=l.count 40
theorem cut2{α:Type}{X Y A R:List α}{c:α}(h:X++Y=A++c::R):(∃R',X=A++c::R'/\R=R'++Y)\/∃A2,A=X++A2/\Y=A2++c::R:=by
 rcases We.mp h with⟨a,h1,h2⟩|⟨a,h1,h2⟩
 ·exact .inr ⟨a,h1,h2⟩
 ·cases a with
  |nil=>exact .inr ⟨[],by simpa using h1.symm,by simpa using h2.symm⟩
  |cons x a=>
   rw[Zn]at h2
   injection h2 with e1 e2
   exact .inl ⟨a,by rw[h1,e1],e2⟩
theorem d3d{X Y A R:List Nat}(hX:∀A R,X=A++R->A.count 41<=A.count 40)(hY:∀A R,Y=A++R->A.count 41<=A.count 40)(he:X.count 41=X.count 40)(h:X++Y=A++R):A.count 41<=A.count 40:=by
 rcases We.mp h with⟨a,h1,h2⟩|⟨a,h1,h2⟩
 ·rw[h1,Yr,Yr]
  have:=hY a R h2
  omega
 ·exact hX A a h1
theorem Tq.flat{l:List Nat}(h:∀c∈l,c≠40/\c≠41):Tq l:=by
 have c0:∀A:List Nat,(∀c∈A,c≠40/\c≠41)->A.count 41=0/\A.count 40=0:=fun A hA=>⟨Ve.mpr fun z=>(hA _ z).2 rfl,Ve.mpr fun z=>(hA _ z).1 rfl⟩
 refine⟨fun A R e=>absurd rfl (h 40 (by rw[e];simp)).1,fun A c R e=>absurd rfl (h 41 (by rw[e];simp)).2,fun A R e=>?_,by rw[(c0 l h).1,(c0 l h).2]⟩
 rw[(c0 A fun c hc=>h c (by rw[e];exact Y1 _ hc)).1]
 exact Z3 _
theorem Tq.tail{X Y:List Nat}(hX:Tq X)(hY:∀c∈Y,c≠40/\c≠41)(hc:∀c r,Y=c::r->Cl c):Tq (X++Y):=by
 have fY:=Tq.flat hY
 refine⟨fun A R e=>?_,fun A c R e=>?_,fun A R e=>d3d hX.dk fY.dk hX.eq e,by rw[Yr,Yr,hX.eq,fY.eq]⟩
 ·rcases cut2 e with⟨R',h1,_⟩|⟨A2,h1,h2⟩
  ·exact hX.sp A R' h1
  ·exact absurd rfl (hY 40 (by rw[h2];simp)).1
 ·rcases cut2 e with⟨R',h1,h2⟩|⟨A2,h1,h2⟩
  ·cases R' with
   |nil=>exact hc c R (by simpa using h2.symm)
   |cons x R'=>
    rw[Zn]at h2
    injection h2 with e1 e2
    exact hX.cp A c R' (by rw[h1,<-e1])
  ·exact absurd rfl (hY 41 (by rw[h2];simp)).2
theorem Tq.cat{X Y:List Nat}(hX:Tq X)(hY:Tq Y)(hS:∀s,bits (X++s)=bits X++bits s)(hN:NoW (bits X))(h41:∀X',X≠X'++[41]):Tq (X++Y):=by
 refine⟨fun A R e=>?_,fun A c R e=>?_,fun A R e=>d3d hX.dk hY.dk hX.eq e,by rw[Yr,Yr,hX.eq,hY.eq]⟩
 ·rcases cut2 e with⟨R',h1,_⟩|⟨A2,h1,h2⟩
  ·exact hX.sp A R' h1
  ·rcases hY.sp A2 R h2 with⟨A',c,h3,h4⟩|h3
   ·exact .inl ⟨X++A',c,by rw[h1,h3,Zx],h4⟩
   ·rw[h1,hS]
    exact .inr (hN.app h3)
 ·rcases cut2 e with⟨R',h1,h2⟩|⟨A2,h1,h2⟩
  ·cases R' with
   |nil=>exact absurd h1 (h41 A)
   |cons x R'=>
    rw[Zn]at h2
    injection h2 with e1 e2
    exact hX.cp A c R' (by rw[h1,<-e1])
  ·exact hY.cp A2 c R h2
theorem Tq.kids{z Y:List Nat}(hz:∀c∈z,inn c)(hY:Tq Y):Tq (z++(40::(Y++[41]))):=by
 have z4:∀c∈z,c≠40/\c≠41:=fun c hc=>⟨fun e=>no40.1 (e▸hz c hc),fun e=>no41.1 (e▸hz c hc)⟩
 have fz:=Tq.flat z4
 have c41:z.count 41=0:=Ve.mpr fun h=>(z4 _ h).2 rfl
 have c40:z.count 40=0:=Ve.mpr fun h=>(z4 _ h).1 rfl
 refine⟨fun A R e=>?_,fun A c R e=>?_,fun A R e=>?_,?_⟩
 ·rcases cut2 e with⟨R',h1,_⟩|⟨A2,h1,h2⟩
  ·exact absurd rfl (z4 40 (by rw[h1];simp)).1
  ·cases A2 with
   |nil=>
    rw[Yo]at h1
    rcases nil_or_snoc' z with e0|⟨p,x,e0⟩
    ·rw[h1,e0];exact .inr (by rw[a4a];exact NoW.nil)
    ·exact .inl ⟨p,x,by rw[h1,e0],hz x (by rw[e0];simp)⟩
   |cons y A3=>
    rw[Zn]at h2
    injection h2 with e1 e2
    rcases cut2 e2 with⟨R',h3,_⟩|⟨A4,h3,h4⟩
    ·rw[h1,<-e1]
     rcases hY.sp A3 R' h3 with⟨A',c,h5,h6⟩|h5
     ·exact .inl ⟨z++40::A',c,by rw[h5];simp,h6⟩
     ·refine .inr ?_
      rw[a1r no40,a2c a1i.1.1]
      exact NoW.cons (by decide+kernel) h5
    ·cases A4 with
     |nil=>cases h4
     |cons y A4=>cases A4<;>simp at h4
 ·rcases cut2 e with⟨R',h1,_⟩|⟨A2,h1,h2⟩
  ·exact absurd rfl (z4 41 (by rw[h1];simp)).2
  ·cases A2 with
   |nil=>cases h2
   |cons y A3=>
    rw[Zn]at h2
    injection h2 with e1 e2
    rcases cut2 e2 with⟨R',h3,h4⟩|⟨A4,h3,h4⟩
    ·cases R' with
     |nil=>
      have:c::R=[41]:=by simpa using h4
      injection this with e3 _
      exact .inr (.inl e3)
     |cons x R'=>
      rw[Zn]at h4
      injection h4 with e3 _
      exact hY.cp A3 c R' (by rw[h3,<-e3])
    ·cases A4 with
     |nil=>simp at h4
     |cons y A4=>cases A4<;>simp at h4
 ·rcases We.mp e with⟨a,h1,h2⟩|⟨a,h1,h2⟩
  ·rw[h1,Yr,Yr,c41,c40]
   cases a with
   |nil=>simp
   |cons y a=>
    rw[Zn]at h2
    injection h2 with e1 e2
    subst e1
    rcases We.mp e2 with⟨b,h3,h4⟩|⟨b,h3,h4⟩
    ·have hb:b=[]\/b=[41]:=by
      cases b with
      |nil=>exact .inl rfl
      |cons x b=>cases b<;>simp_all
     have hq:=hY.eq
     rcases hb with rfl|rfl
     ·rw[h3];simp[hq]
     ·rw[h3];simp[hq]
    ·have:=hY.dk a b h3
     simp only[List.count_cons]
     simp
     omega
  ·exact fz.dk A a h1
 ·have:=hY.eq
  simp[c41,c40]
  omega
def Wl(lv:Lv):Nat:=Trm.sizeL lv.done+lv.done.length+Trm.sizeL lv.sides+lv.wait.length+1
def Ws:List Lv->Nat
 | []=>0
 |lv::st=>Wl lv+Ws st
def Bot:List Lv->Prop
 | []=>False
 | [lv]=>lv.kind=ofString "whole"/\lv.done=[]
 |lv::lu::st=>lv.kind≠ofString "whole"/\Bot (lu::st)
theorem Bot.push{lv:Lv}{st:List Lv}(h:Bot st)(hk:lv.kind≠ofString "whole"):Bot (lv::st):=by
 cases st with
 |nil=>exact h.elim
 |cons lu st=>exact⟨hk,h⟩
theorem Bot.set{lv lw:Lv}{st:List Lv}(h:Bot (lv::st))(hk:lw.kind=lv.kind)(hd:lw.done=lv.done):Bot (lw::st):=by
 cases st with
 |nil=>exact⟨hk.trans h.1,hd.trans h.2⟩
 |cons lu st=>exact⟨fun e=>h.1 (hk.symm.trans e),h.2⟩
theorem c1m:∀{ws:List Str}{ts:List Trm}{y:Trm},ts.length=ws.length+1->jn ts ws=[y]->y.size=Trm.sizeL ts+ws.length
 | [],[x],y,_,h=>by
  have:[x]=[y]:=h
  cases this
  simp[Trm.sizeL]
 | [],[],_,hl,_=>by simp at hl
 | [],_::_::_,_,hl,_=>by simp at hl
 |_::_,[],_,hl,_=>by simp at hl
 |_::_,[_],_,hl,_=>by simp at hl
 |w::ws,b::a::r,y,hl,h=>by
  rw[jn]at h
  have:=c1m (by simp at hl ⊢;omega) h
  rw[this]
  simp only[Trm.sizeL,Trm.size,length_cons]
  omega
theorem c2n{tb:Tb}{m:Str}{g:Sg}:∀{ws:List Str}{ts:List Trm}{q:List Trm×List Str},ts.length=ws.length+1->addM tb m g ts ws=some q->Trm.sizeL q.1+q.2.length=Trm.sizeL ts+ws.length+1
 | [],[x],q,_,h=>by
  rw[b8t]at h
  cases h
  simp
 | [],[],_,hl,_=>by simp at hl
 | [],_::_::_,_,hl,_=>by simp at hl
 |_::_,[],_,hl,_=>by simp at hl
 |_::_,[_],_,hl,_=>by simp at hl
 |w::ws,b::a::r,q,hl,h=>by
  rw[addM]at h
  cases hb:bf ((lkT tb w).getD (0,a1f)) g with
  |none=>rw[hb]at h;cases h
  |some z=>
   rw[hb]at h
   cases z with
   |true=>
    have:=c2n (by simp at hl ⊢;omega) h
    rw[this]
    simp only[Trm.sizeL,Trm.size,length_cons]
    omega
   |false=>
    cases h
    simp only[length_cons]
    omega
theorem b2x(ts:List Trm):Trm.sizeL ts.reverse=Trm.sizeL ts:=by
 induction ts with
 |nil=>rfl
 |cons t ts ih=>rw[Yb,Trm.sizeL_app,ih];simp[Trm.sizeL];omega
theorem LvB.len{tb:Tb}{lv:Lv}{c:Nat}(h:LvB tb lv c):lv.sides.reverse.length=lv.wait.reverse.length+1:=by
 obtain⟨c1,e,_,h2,_⟩:=h.co
 exact h2.len
theorem d3e{tb:Tb}{lv:Lv}{c:Nat}(h:LvB tb lv c):Wl (fin lv)=Wl lv+1:=by
 obtain⟨y,hy⟩:=b3x h.len
 have hs:=c1m h.len hy
 rw[b2x,Z7]at hs
 rw[b3y hy]
 simp only[Wl,Trm.sizeL_app,Trm.sizeL,Za,length_cons,length_nil]
 omega
theorem d5s{lv:Lv}{t:Trm}(hn:lv.done≠[])(h:clo lv=some t):t.size<=Wl lv:=by
 unfold clo at h
 unfold Wl
 split at h
 ·cases h
  cases hd:lv.done with
  |nil=>exact absurd hd hn
  |cons a r=>show a.size<=_;simp only[Trm.sizeL];omega
 split at h
 ·cases h
  rw[a6t]
  have:a2x.size=1:=rfl
  omega
 split at h
 ·cases h
  rw[a6t]
  rcases nil_or_snoc' lv.done with hd|⟨r,y,hd⟩
  ·exact absurd hd hn
  ·rw[hd,Wz,V0,Trm.sizeL_app]
   simp only[Trm.sizeL,Za,length_cons,length_nil]
   omega
 split at h
 ·cases h
  simp only[Trm.size]
  omega
 ·cases h
theorem c3l:∀(n:Nat){r r1:List Pc}{st st1:List Lv},r.length<=n->opn r st=some (r1,st1)->Bot st->Ws st1+r1.length<=Ws st+r.length/\Bot st1
 |n,[],r1,st,st1,_,h,hb=>by
  rw[opn]at h
  cases h
  exact⟨Zb _,hb⟩
 |0,z::r,r1,st,st1,hl,_,_=>by simp at hl
 |n+1,z::r,r1,st,st1,hl,h,hb=>by
  simp only[length_cons]at hl
  have wn:∀k w,Wl ⟨k,w,[],[],[]⟩=1:=fun k w=>rfl
  by_cases h1:Pc.ks z=sgK "("
  ·rw[a8f h1]at h
   obtain⟨a1,a2⟩:=c3l n (by omega) h (hb.push (by decide+kernel))
   rw[Ws,wn]at a1
   exact⟨by rw[length_cons];omega,a2⟩
  ·by_cases h2:Pc.ks z=sgK "["/\hK r≠sgK "]"
   ·rw[a9e h2.1 h2.2]at h
    obtain⟨a1,a2⟩:=c3l n (by omega) h (hb.push (by decide+kernel))
    rw[Ws,wn]at a1
    exact⟨by rw[length_cons];omega,a2⟩
   ·by_cases h3:kindOf z=ofString "word"/\hK r=sgK "("
    ·cases r with
     |nil=>exact absurd h3.2 end_ne'
     |cons y r=>
      have hy:Pc.ks y=sgK "(":=h3.2
      rw[b2a h3.1 hy]at h
      by_cases h4:z.length<=12
      ·rw[if_pos h4]at h
       simp only[length_cons]at hl
       obtain⟨a1,a2⟩:=c3l n (by omega) h (hb.push (by show ¬ofString "kids"=ofString "whole";decide+kernel))
       rw[Ws,wn]at a1
       exact⟨by simp only[length_cons];omega,a2⟩
      ·rw[if_neg h4]at h;cases h
    ·have sp:Stop (z::r):=⟨h1,fun e=>Vg fun q=>h2 ⟨e,q⟩,fun z' r' e hk=>by cases e;exact fun q=>h3 ⟨hk,q⟩⟩
     rw[a6q sp.a sp.b sp.c]at h
     cases h
     exact⟨Zb _,hb⟩
theorem b7i:∀(n:Nat){r r1:List Pc}{st st1:List Lv},r.length<=n->opn r st=some (r1,st1)->r1.length<=r.length
 |n,[],r1,st,st1,_,h=>by
  rw[opn]at h
  cases h
  exact Zb _
 |0,z::r,r1,st,st1,hl,_=>by simp at hl
 |n+1,z::r,r1,st,st1,hl,h=>by
  simp only[length_cons]at hl
  by_cases h1:Pc.ks z=sgK "("
  ·rw[a8f h1]at h
   have:=b7i n (by omega) h
   rw[length_cons];omega
  ·by_cases h2:Pc.ks z=sgK "["/\hK r≠sgK "]"
   ·rw[a9e h2.1 h2.2]at h
    have:=b7i n (by omega) h
    rw[length_cons];omega
   ·by_cases h3:kindOf z=ofString "word"/\hK r=sgK "("
    ·cases r with
     |nil=>exact absurd h3.2 end_ne'
     |cons y r=>
      have hy:Pc.ks y=sgK "(":=h3.2
      rw[b2a h3.1 hy]at h
      by_cases h4:z.length<=12
      ·rw[if_pos h4]at h
       simp only[length_cons]at hl
       have:=b7i n (by omega) h
       simp only[length_cons];omega
      ·rw[if_neg h4]at h;cases h
    ·have sp:Stop (z::r):=⟨h1,fun e=>Vg fun q=>h2 ⟨e,q⟩,fun z' r' e hk=>by cases e;exact fun q=>h3 ⟨hk,q⟩⟩
     rw[a6q sp.a sp.b sp.c]at h
     cases h
     exact Zb _
theorem thg_w{r r2:List Pc}{t:Trm}(h:thg r=some (t,r2)):t.size=1/\r2.length+1<=r.length:=by
 cases r with
 |nil=>cases h
 |cons z r=>
  rw[thg]at h
  split at h
  ·cases h
   refine⟨rfl,?_⟩
   rw[List.length_tail,length_cons]
   omega
  ·cases hz:thgZ z with
   |none=>rw[hz]at h;cases h
   |some u=>
    rw[hz]at h
    cases h
    refine⟨?_,by simp⟩
    unfold thgZ at hz
    split at hz
    ·cases hz;rfl
    split at hz
    ·split at hz
     ·cases hz;rfl
     ·cases hz
    split at hz
    ·split at hz
     ·cases hz;rfl
     ·cases hz
    ·cases hz
theorem cls_w{tb:Tb}(ok:TbOk tb)(hM:a2f tb):∀{r r3:List Pc}{lv:Lv}{st st3:List Lv}{c:Nat},cls r lv st=some (r3,st3)->StB tb (lv::st) c->Bot (lv::st)->Ws st3+r3.length<=Ws (lv::st)+r.length/\Bot st3/\r3.length<=r.length
 | [],r3,lv,st,st3,c,h,hs,hb=>by
  have:cls [] lv st=some ([],lv::st):=by cases st<;>simp[cls]
  rw[this]at h
  cases h
  exact⟨Zb _,hb,Zb _⟩
 |z::r,r3,lv,[],st3,c,h,hs,hb=>by
  have:cls (z::r) lv []=some (z::r,[lv]):=by simp[cls]
  rw[this]at h
  cases h
  exact⟨Zb _,hb,Zb _⟩
 |z::r,r3,lv,lu::st,st3,c,h,hs,hb=>by
  by_cases h1:Pc.ks z=[Sum.inr (ofString "sign"),Sum.inr (clS lv.kind)]
  ·rw[b4x h1]at h
   cases hc:clo (fin lv)with
   |none=>rw[hc]at h;cases h
   |some t=>
    rw[hc]at h
    cases hs with
    | @cons _ cl c0 _ hB kd ha=>
     have o:=d2w hM hB kd hc
     have z1:=d5s (by simp[My.fin]) hc
     have z2:=d3e hB
     cases ha with
     | @cons _ cu c1 _ hu ku hr=>
      have h2:StB tb ({ lu with sides:=lu.sides++[t]}::st) (cu+(cl+cst lv)+cst lu+c1):=.cons (hu.thing ok o) ⟨ku.wd,ku.rs⟩ hr
      have h3:Bot ({ lu with sides:=lu.sides++[t]}::st):=hb.2.set rfl rfl
      obtain⟨a1,a2,a3⟩:=cls_w ok hM h h2 h3
      have e:Wl { lu with sides:=lu.sides++[t]}=Wl lu+t.size:=by simp only[Wl,Trm.sizeL_app,Trm.sizeL];omega
      simp only[Ws,e]at a1
      simp only[Ws,length_cons]
      exact⟨by omega,a2,by omega⟩
  ·rw[b4w (by exact h1)]at h
   cases h
   exact⟨Zb _,hb,Zb _⟩
theorem btw_w{tb:Tb}{r r4:List Pc}{lv lx:Lv}{st:List Lv}{c:Nat}(h:btw tb lv r=some (some (r4,lx)))(hB:LvB tb lv c)(hb:Bot (lv::st)):Ws (lx::st)+r4.length<=Ws (lv::st)+r.length/\Bot (lx::st)/\r4.length<=r.length:=by
 have z2:=d3e hB
 cases r with
 |nil=>cases h
 |cons z r=>
  rw[btw]at h
  split at h
  ·cases hg:lkT tb ⟨z.toArray⟩with
   |none=>rw[hg]at h;cases h
   |some g=>
    rw[hg]at h
    cases ha:addM tb ⟨z.toArray⟩ g lv.sides.reverse lv.wait.reverse with
    |none=>simp only[ha]at h;cases h
    |some q=>
     simp only[ha,Xh]at h
     cases h
     have:=c2n hB.len ha
     rw[b2x,Z7]at this
     refine⟨?_,hb.set rfl rfl,by simp⟩
     simp only[Ws,Wl,b2x,Z7,length_cons]
     omega
  split at h
  ·rename_i hk
   cases h
   refine⟨by simp only[Ws,z2,length_cons];omega,?_,by simp⟩
   cases st with
   |nil=>
    exfalso
    have:=hb.1
    rcases hk.2 with e|e<;>(rw[e]at this;exact absurd this (by decide+kernel))
   |cons lu st=>exact⟨hb.1,hb.2⟩
  split at h
  ·rename_i hk
   cases h
   have e:Wl { fin lv with kind:=ofString "rest"}=Wl (fin lv):=rfl
   refine⟨by simp only[Ws,e,z2,length_cons];omega,?_,by simp⟩
   cases st with
   |nil=>
    exfalso
    have:=hb.1
    rw[hk.2]at this
    exact absurd this (by decide+kernel)
   |cons lu st=>exact⟨by show ¬ofString "rest"=ofString "whole";decide+kernel,hb.2⟩
  ·cases h
theorem trn_w{tb:Tb}(ok:TbOk tb)(hM:a2f tb){r r':List Pc}{st st':List Lv}{b:Bool}{c:Nat}(h:trn tb r st=some (b,r',st'))(hs:StA tb st c)(hb:Bot st):Ws st'+r'.length<=Ws st+r.length/\Bot st'/\r'.length<r.length:=by
 unfold trn at h
 cases h1:opn r st with
 |none=>rw[h1]at h;cases h
 |some q=>
  obtain⟨r1,st1⟩:=q
  rw[h1]at h
  obtain⟨c1,a1,a2,a3⟩:=b6r hM r.length (Zb _) h1 hs
  obtain⟨u1,u2⟩:=c3l r.length (Zb _) h1 hb
  have ul:=b7i r.length (Zb _) h1
  cases st1 with
  |nil=>cases h
  |cons lv st1=>
   simp only[]at h
   cases h2:thg r1 with
   |none=>rw[h2]at h;cases h
   |some q2=>
    obtain⟨t,r2⟩:=q2
    rw[h2]at h
    simp only[]at h
    obtain⟨b1,b2⟩:=d2v hM h2 a3
    obtain⟨v1,v2⟩:=thg_w h2
    cases a1 with
    | @cons _ cl c0 _ hl kl hst=>
     have hB:StB tb ({ lv with sides:=lv.sides++[t]}::st1) (cl+0+cst lv+c0):=.cons (hl.thing ok b2) ⟨kl.wd,kl.rs⟩ hst
     have hb2:Bot ({ lv with sides:=lv.sides++[t]}::st1):=u2.set rfl rfl
     have e:Wl { lv with sides:=lv.sides++[t]}=Wl lv+1:=by simp only[Wl,Trm.sizeL_app,Trm.sizeL,v1];omega
     cases h3:cls r2 { lv with sides:=lv.sides++[t]} st1 with
     |none=>rw[h3]at h;cases h
     |some q3=>
      obtain⟨r3,st3⟩:=q3
      rw[h3]at h
      obtain⟨c3,d1,d2⟩:=c5u ok hM h3 hB
      obtain⟨w1,w2,w3⟩:=cls_w ok hM h3 hB hb2
      simp only[Ws,e]at w1 u1
      cases st3 with
      |nil=>cases h
      |cons lw st3=>
       simp only[]at h
       cases h4:btw tb lw r3 with
       |none=>rw[h4]at h;cases h
       |some q4=>
        rw[h4]at h
        cases q4 with
        |none=>
         cases h
         exact⟨by omega,w2,by omega⟩
        |some q5=>
         obtain⟨r4,lx⟩:=q5
         cases h
         cases d1 with
         | @cons _ cw cz _ hw kw hz=>
          obtain⟨e1,e2,e3⟩:=btw_w h4 hw w2
          simp only[Ws]at w1 e1 ⊢
          exact⟨by omega,e2,by omega⟩
theorem lp_all{tb:Tb}(ok:TbOk tb)(hM:a2f tb):∀(n:Nat){r:List Pc}{st:List Lv}{c:Nat},r.length<=n->StA tb st c->Bot st->∃k o,Lp tb k r st o/\∀x,o=some x->(∃c',StB tb x.2 c')/\Bot x.2/\Ws x.2+x.1.length<=Ws st+r.length:=by
 intro n
 induction n with
 |zero=>
  intro r st c hl hs hb
  cases ht:trn tb r st with
  |none=>exact⟨1,none,.bad ht,fun x e=>by cases e⟩
  |some q=>
   obtain⟨b,r',st'⟩:=q
   have:=(trn_w ok hM ht hs hb).2.2
   omega
 |succ n ih=>
  intro r st c hl hs hb
  cases ht:trn tb r st with
  |none=>exact⟨1,none,.bad ht,fun x e=>by cases e⟩
  |some q=>
   obtain⟨b,r',st'⟩:=q
   obtain⟨a1,a2,a3⟩:=trn_w ok hM ht hs hb
   obtain⟨c',b1,b2,b3⟩:=c5v ok hM ht hs
   cases b with
   |false=>
    refine⟨1,some (r',st'),.last ht,fun x e=>?_⟩
    cases e
    exact⟨⟨c',b3 rfl⟩,a2,a1⟩
   |true=>
    obtain⟨k,o,l1,l2⟩:=ih (r:=r') (st:=st') (by omega) (b2 rfl) a2
    refine⟨k+1,o,.more (x:=(r',st')) ht l1,fun x e=>?_⟩
    obtain⟨m1,m2,m3⟩:=l2 x e
    exact⟨m1,m2,by omega⟩
theorem rd_all{tb:Tb}(ok:TbOk tb)(hM:a2f tb){p:List Pc}(hp:p.length<=900):∃o,RdT tb p o:=by
 have h0:StA tb [a3j] (0+cst a3j+0):=.cons LvA.new ⟨c0f hM,fun e=>absurd e (by decide+kernel)⟩ .nil
 obtain⟨k,o,l1,l2⟩:=lp_all ok hM p.length (Zb _) h0 ⟨rfl,rfl⟩
 cases o with
 |none=>exact⟨none,.bad l1⟩
 |some x=>
  obtain⟨r',st'⟩:=x
  obtain⟨⟨c',m1⟩,m2,m3⟩:=l2 _ rfl
  cases st' with
  |nil=>exact m2.elim
  |cons lv st'=>
   cases st' with
   |cons lu st'=>exact⟨none,.open' l1⟩
   |nil=>
    cases m1 with
    | @cons _ cl c0 _ hb kd _=>
     obtain⟨y,hy⟩:=b3x hb.len
     have hs:=c1m hb.len hy
     rw[b2x,Z7]at hs
     have e0:Ws [a3j]=1:=rfl
     rw[e0]at m3
     simp only[Ws,Wl]at m3
     by_cases c:y.size<=40
     ·exact⟨_,.term l1 m2.2 hy c⟩
     ·exact⟨_,.big l1 m2.2 hy (by omega) (by omega)⟩
theorem c8a(X:List Nat):bits (X++[32])=bits X:=by
 rw[show X++[32]=X++32::[]from rfl,a1r no32,a2s,a4a,Yo]
theorem d3f(X:List Nat):∀s,bits ((X++[32])++s)=bits (X++[32])++bits s:=fun s=>by
 rw[c8a,Zx,Xg,a1r no32,a2s]
theorem c5y{c:Nat}(h:¬inn c/\¬mkc c)(hs:c∈a3o.cps.toList)(X:List Nat):∀s,bits ((X++[c])++s)=bits (X++[c])++bits s:=fun s=>by
 rw[Zx,Xg,a1r h,a2c hs,show X++[c]=X++c::[]from rfl,a1r h,a2c hs,a4a]
 simp
theorem end_32(X:List Nat):∀X',X++[32]≠X'++[41]:=fun X' e=>by
 obtain⟨_,e2⟩:=Xw e rfl
 cases e2
theorem Tq.bl{X T Y:List Nat}{P:List Pc}{z:Pc}(hX:Tq X)(hT:∀c∈T,c≠40/\c≠41)(hc:∀c r,T++[32]=c::r->Cl c)(hb:bits (X++T)=P++[z])(hz:kindOf z≠ofString "word")(hY:Tq Y):Tq (X++T++[32]++Y):=by
 have h1:Tq (X++(T++[32])):=hX.tail (fun c hc=>by
  rcases Z1.mp hc with h|h
  ·exact hT c h
  ·rw[Zw.mp h];exact⟨by decide,by decide⟩) hc
 rw[<-Zx]at h1
 refine h1.cat hY (d3f _) ?_ (end_32 _)
 rw[c8a,hb]
 exact NoW.cons (P:=[]) hz NoW.nil
theorem c5z:∀ls:List (List Nat),ls≠[]->(∀l∈ls,Tq l)->Tq (a0y ls)
 | [],h,_=>absurd rfl h
 | [a],_,h=>h a (Zj ..)
 |a::b::r,_,h=>by
  have:=c5z (b::r) (by simp) (fun l hl=>h l (Zi _ hl))
  rw[a0y,show a++[44,32]++a0y (b::r)=a++[44]++[32]++a0y (b::r) by simp]
  refine(h a (Zj ..)).bl (T:=[44]) (by simp) (fun c r e=>?_) (P:=bits a) (z:=sg 44) ?_ (by decide+kernel) this
  ·cases e;exact .inr (.inr (.inl rfl))
  ·rw[show a++[44]=a++44::[]from rfl,a1r no44,a2c a1i.2.1.1,a4a]
theorem tq_in{p:TxR}(h:Tq p.1)(m:Int):Tq (inBr p m):=by
 unfold inBr
 split
 ·exact Tq.kids (z:=[]) (fun _ h=>by cases h) h
 ·exact h
theorem mk_flat{c:Nat}(h:mkc c):c≠40/\c≠41:=⟨fun e=>no40.2 (e▸h),fun e=>no41.2 (e▸h)⟩
theorem c8b{c:Nat}(h:inn c):c≠40/\c≠41:=⟨fun e=>no40.1 (e▸h),fun e=>no41.1 (e▸h)⟩
theorem d5t(n:Int):∀c∈numT n,c≠40/\c≠41:=fun c hc=>by
 have hf:∀c∈a1k n.natAbs,c≠40/\c≠41:=fun c hc=>by
  have:=(b1f n.natAbs).1 c hc
  omega
 unfold numT at hc
 split at hc
 ·rcases Zk.mp hc with e|e
  ·rw[e];decide
  ·exact hf c e
 ·exact hf c hc
open Classical in
theorem c3m:∀(n:Nat){tb:Tb},a2f tb->∀t,t.size<=n->wf tb t->Tq (tx (lkT tb) t).1
 |0,_,_,t,hs,_=>by have:=t.size_pos;omega
 |n+1,tb,hM,t,hs,h=>by
  have ih:=fun t hs=>c3m n hM t hs
  cases t with
  |num m=>exact Tq.flat (d5t m)
  |any x=>
   obtain⟨z,rfl,c,r,rfl,hc,_,hr⟩:=h
   show Tq (⟨(c::r).toArray⟩:Str).cps.toList
   rw[show(⟨(c::r).toArray⟩:Str).cps.toList=c::r by simp]
   exact Tq.flat (fun y hy=>c8b (by
    rcases Zk.mp hy with e|e
    ·rw[e];exact a8c hc
    ·exact hr y e))
  |app sg ks=>
   obtain⟨h1,h2⟩:=h
   have hks:=a5j.mp h2
   simp only[Trm.size]at hs
   have hsz:∀k∈ks,k.size<=n:=fun k hk=>by
    obtain⟨i,hi,rfl⟩:=Xo.mp hk
    have:=b1h hi
    omega
   rcases h1 with⟨rfl,h3⟩|⟨rfl,h3⟩|⟨h3,h4,h5⟩|⟨z,rfl,hz,h4⟩
   ·have:ks=[]:=Xb.mp h3
    subst this
    have e:(tx (lkT tb) (.app emptyS [])).1=[91,93]:=by simp[tx,txL,txA]
    rw[e]
    exact Tq.flat (by decide)
   ·obtain⟨ts,rt,e,hr⟩:=unL (n+1) (.app pairS ks) (by simp only[Trm.size];omega)
    have hw:wf tb (mkL ts rt):=by rw[<-e];exact⟨.inr (.inl ⟨rfl,h3⟩),h2⟩
    obtain⟨w1,w2⟩:=b7h ts rt hw
    have hne:ts≠[]:=fun z=>by
     rw[z,mkL]at e
     rw[<-e,isP,h3]at hr
     exact absurd hr (by decide+kernel)
    have hsz:=a6t ts rt
    rw[<-e]at hsz
    simp only[Trm.size]at hsz
    have hl:1<=ts.length:=by cases ts with|nil=>exact absurd rfl hne|cons a r=>simp
    rw[e,b4c (wf_S hM _ w2) hr ts hne]
    have hj:=c5z (ts.map fun t=>(tx (lkT tb) t).1) (by simpa using hne) (fun l hl=>by
     obtain⟨k,hk,rfl⟩:=Yx.mp hl
     exact ih k (by
      obtain⟨i,hi,rfl⟩:=Xo.mp hk
      have:=b1h hi
      omega) (w1 k hk))
    have h9:=ih rt (by omega) w2
    have hY:Tq (a0y (ts.map fun t=>(tx (lkT tb) t).1)++(if rt=.app emptyS []then[]else[32,124,32]++(tx (lkT tb) rt).1)):=by
     split
     ·rw[Yo];exact hj
     ·rw[show a0y (ts.map fun t=>(tx (lkT tb) t).1)++([32,124,32]++(tx (lkT tb) rt).1)=a0y (ts.map fun t=>(tx (lkT tb) t).1)++[32,124]++[32]++(tx (lkT tb) rt).1 by simp]
      refine hj.bl (T:=[32,124]) (by decide) (fun c r e=>?_) (P:=bits (a0y (ts.map fun t=>(tx (lkT tb) t).1))) (z:=[124]) ?_ (by decide+kernel) h9
      ·cases e;exact .inl rfl
      ·rw[show a0y (ts.map fun t=>(tx (lkT tb) t).1)++[32,124]=a0y (ts.map fun t=>(tx (lkT tb) t).1)++32::[124]from rfl,a1r no32,a2s,show bits [124]=[[124]] by decide+kernel]
    have hZ:=hY.tail (Y:=[93]) (by decide) (fun c r e=>by cases e;exact .inr (.inr (.inr rfl)))
    have hX:Tq [91]:=Tq.flat (by decide)
    have:=hX.cat hZ (c5y no91 a1i.2.2.1 []) (by rw[show bits [91]=[[91]] by decide+kernel];exact NoW.cons (Q:=[]) (P:=[]) (by decide+kernel) NoW.nil) (fun X' e=>by cases X'<;>simp at e)
    simpa using this
   ·obtain⟨g,hg⟩:=Yu.mp h4
    obtain⟨a,b,rfl⟩:∃a b,ks=[a,b]:=by
     match ks,h5 with
     | [a,b],_=>exact⟨a,b,rfl⟩
    obtain⟨n1,n2⟩:=c0d h3
    have wa:=hks a (by simp)
    have wb:=hks b (by simp)
    rw[b7e (r:=g.1) (s:=g.2) hg n2 n1 a b]
    obtain⟨z,rfl,q1,q3,q4,q5⟩:=h3
    obtain⟨c,r,rfl⟩:∃c r,z=c::r:=by cases z with|nil=>simp at q1|cons c r=>exact⟨c,r,rfl⟩
    have hk:kindOf (c::r)=ofString "mark":=c1i (q4 c (Zj ..)) (fun y hy=>q4 y (Zi _ hy)) q5 q3
    unfold a8n
    have ha:=tq_in (ih a (hsz a (by simp)) wa) (g.1-1+if g.2=a2w then 1 else 0)
    have hb:=tq_in (ih b (hsz b (by simp)) wb) (g.1-1+if g.2=a2m then 1 else 0)
    show Tq (inBr _ _++[32]++(⟨(c::r).toArray⟩:Str).cps.toList++[32]++inBr _ _)
    rw[show(⟨(c::r).toArray⟩:Str).cps.toList=c::r by simp]
    generalize inBr (tx (lkT tb) a) (g.1-1+if g.2=a2w then 1 else 0)=A at ha ⊢
    generalize inBr (tx (lkT tb) b) (g.1-1+if g.2=a2m then 1 else 0)=B at hb ⊢
    rw[show A++[32]++(c::r)++[32]++B=A++(32::(c::r))++[32]++B by simp]
    refine ha.bl (T:=32::(c::r)) (fun y hy=>?_) (fun c r e=>?_) (P:=bits A) (z:=c::r) ?_ (by rw[hk];decide+kernel) hb
    ·rcases Zk.mp hy with e|e
     ·rw[e];decide
     ·exact mk_flat (q4 y e)
    ·cases e;exact .inl rfl
    ·rw[a1r no32,a2s,c5k (q4 c (Zj ..)) (fun y hy=>q4 y (Zi _ hy))]
   ·obtain⟨n1,n2⟩:=b5e hz
    have hl:=b7f hM hz
    obtain⟨c,r,rfl,hc,_,hr⟩:=hz
    have hin:∀y∈c::r,inn y:=fun y hy=>by
     rcases Zk.mp hy with e|e
     ·rw[e];exact a3r hc
     ·exact hr y e
    cases ks with
    |nil=>
     rw[b5d hl n2,show(⟨(c::r).toArray⟩:Str).cps.toList=c::r by simp]
     exact Tq.flat (fun y hy=>c8b (hin y hy))
    |cons k ks=>
     rw[b7d hl n2 n1,show(⟨(c::r).toArray⟩:Str).cps.toList=c::r by simp]
     have hj:=c5z ((k::ks).map fun t=>(tx (lkT tb) t).1) (by simp) (fun l hl=>by
      obtain⟨x,hx,rfl⟩:=Yx.mp hl
      exact ih x (hsz x hx) (hks x hx))
     have:=Tq.kids hin hj
     simpa using this
theorem b7j:∀(n:Nat){p q:List Pc},p.length<=n->NoW p->rnd (p++q)=rnd p+rnd q
 |n,[],q,_,_=>by simp[rnd]
 |0,_::_,_,hl,_=>by simp at hl
 |n+1,[z],q,_,hN=>by
  rw[Xg,a6v (fun e=>absurd e (hN [] z rfl)),rnd]
 |n+1,z::y::r,q,hl,hN=>by
  simp only[length_cons]at hl
  rw[Zn,Zn,rnd,rnd]
  by_cases h:kindOf z=ofString "word"/\Pc.ks y=sgK "("
  ·rw[if_pos h,if_pos h]
   refine b7j n (by omega) (fun P' x e=>hN (z::y::P') x (by rw[e];simp))
  ·rw[if_neg h,if_neg h,<-Zn,b7j n (by simp only[length_cons];omega) (fun P' x e=>hN (z::P') x (by rw[e];simp))]
   omega
theorem c6a:∀(n:Nat){p q:List Pc},p.length<=n->rnd (p++q)<=rnd p+rnd q
 |n,[],q,_=>by simp[rnd]
 |0,_::_,_,hl=>by simp at hl
 |n+1,[z],q,_=>by
  rw[Xg]
  by_cases h:kindOf z=ofString "word"/\hK q=sgK "("
  ·cases q with
   |nil=>exact absurd h.2 end_ne'
   |cons y q=>
    have hy:Pc.ks y=sgK "(":=h.2
    rw[b8x h.1 hy,a6v (z:=y) (fun e=>by rw[c1k hy]at e;exact absurd e (by decide+kernel))]
    omega
  ·rw[a6v (fun e q=>h ⟨e,q⟩),rnd]
   exact Zb _
 |n+1,z::y::r,q,hl=>by
  simp only[length_cons]at hl
  rw[Zn,Zn,rnd,rnd]
  by_cases h:kindOf z=ofString "word"/\Pc.ks y=sgK "("
  ·rw[if_pos h,if_pos h]
   exact c6a n (by omega)
  ·rw[if_neg h,if_neg h,<-Zn]
   have:=c6a (p:=y::r) (q:=q) n (by simp only[length_cons];omega)
   omega
theorem c8c{l A B C:List Nat}(hq:Tq l)(e:l=A++40::(B++41::C))(ha:A=[]\/∃A' c,A=A'++[c]/\(c=32\/c=40\/c=91)):rnd (bits (A++B++C))+1<=rnd (bits l)/\(∀z∈bits (A++B++C),z∈bits l)/\(bits (A++B++C)).length<=(bits l).length:=by
 have hN:NoW (bits A):=by
  rcases hq.sp A _ e with⟨A',c,h1,h2⟩|h
  ·rcases ha with rfl|⟨A2,c2,h3,h4⟩
   ·simp at h1
   ·rw[h3]at h1
    obtain⟨_,e2⟩:=Xw h1 rfl
    cases e2
    rcases h4 with rfl|rfl|rfl
    ·exact absurd h2 no32.1
    ·exact absurd h2 no40.1
    ·exact absurd h2 no91.1
  ·exact h
 have hS:∀s,bits (A++s)=bits A++bits s:=by
  rcases ha with rfl|⟨A',c,rfl,rfl|rfl|rfl⟩
  ·intro s;rw[a4a];rfl
  ·exact d3f A'
  ·exact c5y no40 a1i.1.1 A'
  ·exact c5y no91 a1i.2.2.1 A'
 have hC:bits (B++C)=bits B++bits C:=by
  cases C with
  |nil=>simp[a4a]
  |cons c C=>exact a1r (hq.cp (A++40::B) c C (by rw[e];simp)).no B C
 have e1:bits l=bits A++sg 40::(bits B++sg 41::bits C):=by
  rw[e,hS,a2c a1i.1.1,a1r no41,a2c a1i.1.2]
 have e2:bits (A++B++C)=bits A++(bits B++bits C):=by rw[Zx,hS,hC]
 rw[e1,e2]
 refine⟨?_,fun z hz=>?_,?_⟩
 ·rw[b7j _ (Zb _) hN,b7j _ (Zb _) hN,a6v (fun e=>absurd e (by decide+kernel)),if_pos k40,b0b h41,c5w]
  have:=c6a (p:=bits B) (q:=bits C) _ (Zb _)
  omega
 ·simp only[Z1,Zk]at hz ⊢
  rcases hz with h|h|h
  ·exact .inl h
  ·exact .inr (.inr (.inl h))
  ·exact .inr (.inr (.inr (.inr h)))
 ·simp only[Za,length_cons]
  omega
theorem d5u:∀y∈b0k.cps.toList,inn y:=by decide+kernel
theorem called{fs:List Nat}{x:Nat}{r:List Nat}(hx:x∈fs)(hr:r.length<=11)(ht:∀y∈r,y∈b0k.cps.toList):a6s fs (x::r):=⟨x,r,rfl,hx,hr,fun y hy=>d5u y (ht y hy)⟩
theorem b7k:(ofString "abcdefghijklmnopqrstuvwxyz").length=26:=by decide+kernel
theorem big26:(ofString "ABCDEFGHIJKLMNOPQRSTUVWXYZ").length=26:=by decide+kernel
abbrev b2y(K:W.Frag):Sp:=fun vs H Q _=>match vs with| [.int c]=>∀(x:V)(t:Trm)(H':Hp),Same H H'->Den K H' x t.data->t.size=1->(∀tb:Tb,wf tb t)->Q x H'|_=>False
abbrev MkIn(tb:Tb)(ws:List Str):Prop:=ws≠[]/\ws.length<=1000/\∀w∈ws,a7u w/\(lkT tb w).isSome=true
abbrev b2z(K:W.Frag):Sp:=fun vs H Q _=>match vs with
 | [.int c,.int m,.ref p]=>∃(ws:List Str)(tb:Tb),H p=some (.lst (ws.map V.str))/\MkIn tb ws/\0<=m/\m<=4/\∀z:Str,wfA tb z m.toNat->Q (.str z) H
 |_=>False
abbrev b3a(K:W.Frag):Sp:=fun vs H Q _=>match vs with
 | [.ref d,.int c]=>∃(kvs:List (Key×V))(tb:Tb),H d=some (.dK kvs)/\TR K H kvs tb/\1<=tb.length/\tb.length<=1000/\(∀x∈tb,a7u x.1)/\∀(p:Addr)(ws:List Str)(H':Hp),Same H H'->H' p=some (.lst (ws.map V.str))->MkIn tb ws->Q (.ref p) H'
 |_=>False
abbrev b0x(K:W.Frag):Sp:=fun vs H Q _=>match vs with
 | [.ref cp,.ref mp,.int tn]=>∃(cs:List Int)(ws:List Str)(tb:Tb),SqL K H cp (cs.map V.int)/\cs.length<=20/\H mp=some (.lst (ws.map V.str))/\MkIn tb ws/\0<=tn/\∀(x:V)(t:Trm)(H':Hp),Same H H'->Den K H' x t.data->t.size<=40->wf tb t->Q x H'
 |_=>False
abbrev a5w:Sp:=fun vs H Q _=>match vs with| [.int c,.int m]=>0<=m/\m<=1000/\∀(p:Addr)(ns:List Int)(H':Hp),ns.length=m.toNat->Same H H'->H p=none->H' p=some (.lst (ns.map V.int))->Q (.ref p) H'|_=>False
theorem d4:decide (numS=numS)=true:=by decide+kernel
theorem d5:decide (anyS=numS)=false:=by decide+kernel
theorem d6:decide (appS=numS)=false:=by decide+kernel
theorem tr_keys{K:W.Frag}{H:Hp}{kvs:List (Key×V)}{tb:Tb}(h:TR K H kvs tb):kvs.map (fun kv=>kV kv.1)=(tb.map (·.1)).map V.str:=by
 induction h with
 |nil=>rfl
 |cons _ _ ih=>rw[Zp,Zp,Zp,ih];rfl
theorem c1n:∀{tb:Tb}{m:Str},m∈tb.map (·.1)->(lkT tb m).isSome=true
 | [],_,h=>by cases h
 | (x,g)::r,m,h=>by
  unfold lkT
  split
  ·rfl
  ·rename_i e
   rcases Zk.mp h with z|z
   ·exact absurd z.symm e
   ·exact c1n z
section
variable{P:Program}{w:World}{K:W.Frag}{mg:Str->Option Value}{base:Heap}{t:Ad}
theorem c6b(T:Txt K mg t)  :FnOk P w K mg base CX0 1 t.a_a6 t.d_a6 ["_law_script","_law_k"] (a6k K):=by
 refine T.F_a6.ok c4v (fun vs H Q E h=>?_) (fun cdv A outer s H vs Q E hr h=>?_)
 ·unfold a6k at h
  split at h
  ·rfl
  ·exact h.elim
 unfold a6k at h
 split at h
 rotate_left
 ·exact h.elim
 refine⟨_,(a0e (a0v (a0s mo_ge (mv 1) (a0z (a2d K rfl) rfl T.n_c4 Z0 (a0a (mv 0) a0b)) (a0t _)) (a0g (a0m a0d)) a0u) (a0e (a0v (b8a a9i a9i (a6b a4v a0d) (a0r (a0k K rfl) (mv 0) (mv 1) (fun _ _=>rfl)) a0d) (a0g (a0m (a0n a1m (a0n b5q (a0n d0t (a0n (a1h K rfl) (a0n (a1h K rfl) (a0r (a0k K rfl) (mv 0) (mv 1) (fun _ _=>rfl)) a0d) (a0n b5q a0d (mv 1))) a0d) a0d) a0d))) a0u) (a0g (a0m (a0r (a0k K rfl) (mv 0) (mv 1) (fun _ _=>rfl)))))),?_⟩
 rename_i a k
 obtain⟨ns,hS,h0,h1,q⟩:=h
 walk_at "s"
 refine a4l hS ?_
 walk_at "s"
 refine iteB (fun e=>?_) (fun e=>?_)
 ·walk_at "s"
  exact q _
 ·walk_at "s"
  have hk:k<((ns.map V.int).length:Int):=by
   have:=Zl e
   omega
  obtain⟨v,hv,hv2⟩:=a9x (xs:=ns.map V.int) h0 hk
  obtain⟨x,rfl⟩:=ints_at hv
  refine a2e hS hv ?_
  walk_at "s"
  refine iteB (fun e1=>?_) (fun e1=>?_)
  ·walk_at "s"
   refine iteB (fun e2=>?_) (fun e2=>?_)
   ·walk_at "s"
    refine a2e hS hv ?_
    walk_at "s"
    refine b5r (b9k (by decide)) ?_
    walk_at "s"
    have b1:=Ze e1
    have b2:=Ze e2
    refine m2_i (C:=CPow) ⟨by decide,by decide,by omega⟩ ?_
    walk_at "s"
    refine b5r (b3f (by decide)) ?_
    walk_at "s"
    exact q _
   ·walk_at "s"
    refine a2e hS hv ?_
    exact q _
  ·walk_at "s"
   walk_at "C"
   refine a2e hS hv ?_
   exact q _
theorem c6s(T:Txt K mg t)  :FnOk P w K mg base CX0 1 t.a_b5 t.d_b5 ["_law_cell","_law_many"] (a5w):=by
 refine T.F_b5.ok a7p (fun vs H Q E h=>?_) (fun cdv A outer s H vs Q E hr h=>?_)
 ·unfold a5w at h
  split at h
  ·rfl
  ·exact h.elim
 unfold a5w at h
 split at h
 rotate_left
 ·exact h.elim
 refine⟨_,(a0e (a0q (i:=2) (hs:=a8i) a7p.nd rfl (by walk_at "or1") (a1j a0b)) (a0e (a0q (i:=3) (hs:=a3i) a7p.nd rfl (by walk_at "or1") (a0n a1m (mv 0) a0d)) (a0e (a8g Yh rfl (b2i rfl T.n_h3 (a0a (mv 1) a0b)) (a6w (i:=4) a7p.nd rfl (by walk_at "or1")) (a0e (a0q (i:=3) (hs:=a3i) a7p.nd rfl (by walk_at "or1") (a0n a1m (a0n (a1h K rfl) (a0n (a1h K rfl) (a0n b5q (mv 3) a0d) a0d) (mv 4)) a0d)) (a0g (a1a (a3t K rfl Zu Z6 Z8 a2j (mv 2) (a0a (mv 3) a0b)))))) (a0g (a0m (mv 2)))))),?_⟩
 rename_i c m
 obtain⟨h0,h1,q⟩:=h
 walk_at "s"
 refine⟨Z3 _,fun p hp=>?_⟩
 walk_at "s"
 refine⟨m,rfl,by omega,by omega,?_⟩
 refine a6z (a7x 0 m.toNat) (fun i σ' H'=>∃(v4:Option V)(x:Int)(ns:List Int),σ'=[some (.int c),some (.int m),some (.ref p),some (.int x),v4]/\ns.length=i/\Same H H'/\H' p=some (.lst (ns.map V.int))) ⟨none,_,[],rfl,rfl,a0f hp _,a0c⟩ (fun _ _ _ _=>trivial) (fun i σ' H' hi hP=>?_) (fun σ' H' hP=>?_)
 ·obtain⟨v4,x,ns,rfl,hl,h2,h3⟩:=hP
  walk_at "s"
  refine b5r (b3f (by decide)) ?_
  walk_at "s"
  refine⟨.inl ⟨rfl,_,SqL.of h3⟩,?_⟩
  walk_at "s"
  refine a1u h3 (ln1 (by rw[length_map];omega)) ?_
  refine⟨_,_,ns++[(x*48271+12820163+(0+(i:Int)))%2147483647],rfl,by rw[Za,hl];rfl,a1n h2 hp,?_⟩
  rw[a0c,Zq]
  rfl
 ·obtain⟨v4,x,ns,rfl,hl,h2,h3⟩:=hP
  walk_at "s"
  exact q p ns H' hl h2 hp h3
theorem c9i(T:Txt K mg t)(G_b5:FnOk P w K mg base CX0 1 t.a_b5 t.d_b5 ["_law_cell","_law_many"] (a5w))(G_a6:FnOk P w K mg base CX0 1 t.a_a6 t.d_a6 ["_law_script","_law_k"] (a6k K)):FnOk P w K mg base CX0 2 t.a_e1 t.d_e1 ["_law_script","_law_at","_law_many"] (b0l K):=by
 refine T.F_e1.ok c8w (fun vs H Q E h=>?_) (fun cdv A outer s H vs Q E hr h=>?_)
 ·unfold b0l at h
  split at h
  ·rfl
  ·exact h.elim
 unfold b0l at h
 split at h
 rotate_left
 ·exact h.elim
 refine⟨_,(a0e (a0v (a0s a1e (a0n a1m (a0l G_a6 (hr.mono (by walk_at "r")) rfl T.m_a6 T.F_a6.kp T.b_a6 .nil a0p (a0a (mv 0) (a0a a0d a0b))) a0d) a0d (a0t _)) (a0g (a0m (a0l G_b5 (hr.mono (by walk_at "r")) rfl T.m_b5 T.F_b5.kp T.b_b5 .nil a0p (a0a (a0l G_a6 (hr.mono (by walk_at "r")) rfl T.m_a6 T.F_a6.kp T.b_a6 .nil a0p (a0a (mv 0) (a0a (mv 1) a0b))) (a0a (a0n a1m (a0n a1y (a0l G_a6 (hr.mono (by walk_at "r")) rfl T.m_a6 T.F_a6.kp T.b_a6 .nil a0p (a0a (mv 0) (a0a a0d a0b))) a0d) (a0n (a1h K rfl) (mv 2) a0d)) a0b))))) a0u) (a0g (a0m (c0k rfl (c1u rfl T.n_h3 (a0a (mv 1) (a0a (a0z (c4g rfl) rfl T.n_i2 boot_min (a0a (a0z (a2d K rfl) rfl T.n_c4 Z0 (a0a (mv 0) a0b)) (a0a (a0n (a1h K rfl) (mv 1) (mv 2)) a0b))) a0b))) (c0l (a0h b2n) ["_law_script","_law_at","_law_many"] ["_law_script","_law_at","_law_many"] rfl rfl (by decide+kernel)) (fun _ _ _ _ _=>c0j) (fun _ _ _ _ _=>(a0l G_a6 (hr.mono (by walk_at "r")) rfl T.m_a6 T.F_a6.kp T.b_a6 .nil a0p (a0a (mv 1) (a0a (mv 0) a0b)))))))),?_⟩
 rename_i a at_ m
 obtain⟨ns,hS,hn,h0,h1,h2,h3,q⟩:=h
 walk_at "s"
 refine⟨ns,hS,by omega,by omega,fun c0=>?_⟩
 walk_at "s"
 refine iteB (fun e=>?_) (fun e=>?_)
 ·walk_at "s"
  refine⟨ns,hS,h0,by omega,fun c1=>?_⟩
  walk_at "s"
  refine⟨ns,hS,by omega,by omega,fun c2=>?_⟩
  walk_at "s"
  refine m2_i (show(0:Int)<m+1 by omega) ?_
  walk_at "s"
  have b1:=Yl (c2/4) (show m+1≠0 by omega)
  have b2:=Ye (c2/4) (show 0<m+1 by omega)
  exact⟨b1,by omega,fun p cs H' hl hs _ hp=>q p cs H' (by omega) hs hp⟩
 ·walk_at "s"
  refine a4l hS ?_
  walk_at "s"
  rw[length_map]
  obtain⟨hi,hhi,hb⟩:∃hi:Int,(if at_+m<(ns.length:Int)then at_+m else(ns.length:Int))=hi/\hi<=at_+m/\0<=hi/\hi<=63:=⟨_,rfl,by split<;>omega⟩
  rw[hhi]
  refine⟨at_,hi,rfl,⟨by omega,by omega,by omega,by omega⟩,fun D hD=>?_⟩
  refine b7z (a7x at_ (hi-at_).toNat) (fun i ys H'=>Same H H'/\(∃cs:List Int,ys=cs.map V.int)/\H' D=some (.lst ys)) (ln (by omega)) ⟨a0f hD _,⟨[],rfl⟩,a0c⟩ (fun _ _ _ _=>trivial) (fun i ys H' Q' hi' hl' hP k=>?_) (fun ys H' hl' hP=>?_)
  ·obtain⟨g1,⟨cs,g2⟩,g3⟩:=hP
   walk_at "s"
   refine⟨ns,g1.seq hS,by omega,by omega,fun v=>?_⟩
   exact k _ _ g3 ⟨a1n g1 hD,⟨cs++[v],by rw[g2,Zq];rfl⟩,a0c⟩
  ·obtain⟨g1,⟨cs,g2⟩,g3⟩:=hP
   refine q D cs H' ?_ g1 (g2▸g3)
   have:=Z9 List.length g2
   rw[length_map,hl']at this
   omega
theorem c6t(T:Txt K mg t)  :FnOk P w K mg base CX0 1 t.a_e8 t.d_e8 ["_law_cell"] (a9j):=by
 refine T.F_e8.ok b7q (fun vs H Q E h=>?_) (fun cdv A outer s H vs Q E hr h=>?_)
 ·unfold a9j at h
  split at h
  ·rfl
  ·exact h.elim
 unfold a9j at h
 split at h
 rotate_left
 ·exact h.elim
 refine⟨_,(a0e (a0q (i:=1) (hs:=a7o) b7q.nd rfl (by walk_at "or1") (a0r (a0k K rfl) (a1j (a0a (a0n a1m (a0n a1y (mv 0) a0d) a0d) (a0a (a0n a1m (a0n a1y (mv 0) a0d) (a0n d0t a0d a0d)) a0b))) (a0n a1m (mv 0) a0d) (fun _ _=>rfl))) (a0e (a0v (a0s a1e (a0n a1m (a0n a1y (mv 0) a0d) a0d) a0d (a0t _)) (a0g (a0m (a0n b5p a0d (mv 1)))) a0u) (a0g (a0m (mv 1))))),?_⟩
 rename_i c
 walk_at "s"
 refine m2_i (C:=CPow) ⟨by decide,by decide,by decide⟩ ?_
 walk_at "s"
 refine⟨ln (by show 2<=100000;decide),fun p hp=>?_⟩
 walk_at "s"
 have b1:=Yl c (show(2:Int)≠0 by decide)
 have b2:=Ye c (show(0:Int)<2 by decide)
 have hv:∃n:Int,atI [V.int (c/8%100),V.int (c/8%10^(30:Int).toNat)] (c%2)=some (.int n)/\0<=n/\n<10^30:=by
  have:c%2=0\/c%2=1:=by omega
  rcases this with e|e<;>rw[e]
  ·exact⟨_,rfl,Yl _ (by decide),Int.lt_of_lt_of_le (Ye _ (by decide)) (by decide)⟩
  ·exact⟨_,rfl,Yl _ (by decide+kernel),Ye _ (by decide+kernel)⟩
 obtain⟨n,hn,h1,h2⟩:=hv
 refine a2e (SqL.of a0c) hn ?_
 walk_at "s"
 refine iteB (fun e=>?_) (fun e=>?_)
 ·walk_at "s"
  exact h _ _ (by omega) (by omega) (a0f hp _)
 ·walk_at "s"
  exact h _ _ (by omega) (by omega) (a0f hp _)
theorem c6c(T:Txt K mg t)  :FnOk P w K mg base CX0 1 t.a_b0 t.d_b0 ["_law_cell","_law_heads"] (a6l):=by
 refine T.F_b0.ok a4o (fun vs H Q E h=>?_) (fun cdv A outer s H vs Q E hr h=>?_)
 ·unfold a6l at h
  split at h
  ·rfl
  ·exact h.elim
 unfold a6l at h
 split at h
 rotate_left
 ·exact h.elim
 refine⟨_,(a0e (a0q (i:=2) a4o.nd rfl (by walk_at "or1") a0i) (a0e (a0q (i:=3) (hs:=a7o) a4o.nd rfl (by walk_at "or1") (a0r (a0k K rfl) (mv 1) (a0n a1m (mv 0) a0d) (fun _ _=>rfl))) (a0e (a0q (i:=4) (hs:=a3i) a4o.nd rfl (by walk_at "or1") (a0n a1m (a0n a1y (mv 0) a0d) a0d)) (a0e (a8g Yh rfl (b2i rfl T.n_h3 (a0a (a0n a1m (a0n a1y (mv 0) a0d) a0d) a0b)) (a6w (i:=5) a4o.nd rfl (by walk_at "or1")) (a0e (a0q (i:=3) (hs:=a3i) a4o.nd rfl (by walk_at "or1") (a0n (a1h K rfl) (mv 3) (a0r (a0k K rfl) (mv 2) (a0n a1m (mv 4) a0d) (fun _ _=>rfl)))) (a0g (a0q (i:=4) (hs:=a3i) a4o.nd rfl (by walk_at "or1") (a0n a1m (a0n (a1h K rfl) (a0n (a1h K rfl) (a0n b5q (mv 4) a0d) a0d) (mv 5)) a0d))))) (a0g (a0m (mv 3))))))),?_⟩
 rename_i c heads
 obtain⟨hh,q⟩:=h
 have b1:=Yl c (show(26:Int)≠0 by decide)
 have b2:=Ye c (show(0:Int)<26 by decide)
 walk_at "s"
 obtain⟨x,hx⟩:=b5s (z:=heads) b1 (by omega)
 refine a3d (ln (by omega)) hx ?_
 walk_at "s"
 have b3:=Yl (c/26) (show(12:Int)≠0 by decide)
 have b4:=Ye (c/26) (show(0:Int)<12 by decide)
 refine⟨c/26%12,rfl,by omega,by omega,?_⟩
 refine a6z (a7x 0 (c/26%12).toNat) (fun i σ' H'=>∃(v5:Option V)(r:List Nat)(n:Int),σ'=[some (.int c),some (.str heads),some (.str b0k),some (.str ⟨(x::r).toArray⟩),some (.int n),v5]/\r.length=i/\(∀y∈r,y∈b0k.cps.toList)/\H'=H) ⟨none,[],_,rfl,rfl,(fun _ h=>nomatch h),rfl⟩ (fun _ _ _ _=>trivial) (fun i σ' H' hi hP=>?_) (fun σ' H' hP=>?_)
 ·obtain⟨v5,r,n,rfl,hl,hr1,rfl⟩:=hP
  walk_at "s"
  have b5:=Yl n (show(62:Int)≠0 by decide)
  have b6:=Ye n (show(0:Int)<62 by decide)
  obtain⟨y,hy⟩:=b5s (z:=b0k) b5 (by rw[tl62];exact b6)
  refine a3d (ln (by rw[tl62];decide)) hy ?_
  walk_at "s"
  refine a8h ?_ ?_
  ·refine ln ?_
   rw[str_len,show(⟨#[y]⟩:Str).length=1 from rfl,length_cons]
   omega
  walk_at "s"
  refine b5r (b3f (by decide)) ?_
  walk_at "s"
  refine⟨some (.int (0+(i:Int))),r++[y],(n*48271+12820163+(0+(i:Int)))%2147483647,?_,by rw[Za,hl];rfl,fun z hz=>?_,rfl⟩
  ·have e:(⟨(x::r).toArray⟩:Str)++⟨#[y]⟩=⟨(x::(r++[y])).toArray⟩:=a5f (x::r) [y]
   rw[e]
   rfl
  ·rcases Z1.mp hz with h|h
   ·exact hr1 z h
   ·rw[Zw.mp h];exact a5v hy
 ·obtain⟨v5,r,n,rfl,hl,hr1,rfl⟩:=hP
  walk_at "s"
  exact q x r (a5v hx) (by omega) hr1
theorem d3g(T:Txt K mg t)  :FnOk P w K mg base CX0 1 t.a_f8 t.d_f8 ["_law_cell"] (b2m):=by
 refine T.F_f8.ok b2p (fun vs H Q E h=>?_) (fun cdv A outer s H vs Q E hr h=>?_)
 ·unfold b2m at h
  split at h
  ·rfl
  ·exact h.elim
 unfold b2m at h
 split at h
 rotate_left
 ·exact h.elim
 refine⟨_,(a0e (a0q (i:=1) b2p.nd rfl (by walk_at "or1") a0i) (a0e (a0q (i:=2) (hs:=a3i) b2p.nd rfl (by walk_at "or1") (a0n (a1h K rfl) (a0n (a1h K rfl) (a0r (a0k K rfl) (mv 1) (a0n a1m (mv 0) a0d) (fun _ _=>rfl)) (a0r (a0k K rfl) (mv 1) (a0n a1m (a0n a1y (mv 0) a0d) a0d) (fun _ _=>rfl))) (a0r (a0k K rfl) (mv 1) (a0n a1m (a0n a1y (mv 0) a0d) a0d) (fun _ _=>rfl)))) (a0e (a0q (i:=2) (hs:=a7o) b2p.nd rfl (by walk_at "or1") (a3y b1m (mv 2) a6x (a3l (a0n (a1h K rfl) a0d (a0n a1m (a0n a1y (mv 0) a0d) a0d))))) (a0e (a0v (a0s a1e (mv 2) a0i (a0t _)) (a0g (a0m a0i)) a0u) (a0g (a0m (mv 2))))))),?_⟩
 rename_i c
 have one_ix:∀n:Int,∃y,atI a6c.cps.toList (n%16)=some y:=fun n=>
  b5s (z:=a6c) (Yl n (by decide)) (by rw[mk16];exact Ye n (by decide))
 obtain⟨x1,h1⟩:=one_ix c
 obtain⟨x2,h2⟩:=one_ix (c/48)
 obtain⟨x3,h3⟩:=one_ix (c/768)
 have l16:a6c.length<=sizeLine:=ln (by rw[mk16];decide)
 walk_at "s"
 refine a3d l16 h1 ?_
 walk_at "s"
 refine a3d l16 h2 ?_
 walk_at "s"
 refine a8h (ln (by show 1+1<=100000;decide)) ?_
 walk_at "s"
 refine a3d l16 h3 ?_
 walk_at "s"
 refine a8h (ln (by show 2+1<=100000;decide)) ?_
 walk_at "s"
 refine b1o (ln (by show 3<=100000;decide)) ?_
 walk_at "s"
 have b1:=Yl (c/16) (show(3:Int)≠0 by decide)
 have b2:=Ye (c/16) (show(0:Int)<3 by decide)
 have hz:∃z:List Nat,cutS (((⟨#[x1]⟩:Str)++⟨#[x2]⟩)++⟨#[x3]⟩) none (some (1+c/16%3))=⟨z.toArray⟩/\1<=z.length/\z.length<=3/\∀y∈z,y∈a6c.cps.toList:=by
  have m1:=a5v h1
  have m2:=a5v h2
  have m3:=a5v h3
  have e:((⟨#[x1]⟩:Str)++⟨#[x2]⟩)++⟨#[x3]⟩=⟨[x1,x2,x3].toArray⟩:=by
   rw[show(⟨#[x1]⟩:Str)=⟨[x1].toArray⟩from rfl,show(⟨#[x2]⟩:Str)=⟨[x2].toArray⟩from rfl,show(⟨#[x3]⟩:Str)=⟨[x3].toArray⟩from rfl,a5f,a5f]
   rfl
  rw[e]
  have:c/16%3=0\/c/16%3=1\/c/16%3=2:=by omega
  rcases this with e|e|e<;>rw[e]
  ·exact⟨[x1],rfl,by simp,by simp,fun y hy=>by rw[Zw.mp hy];exact m1⟩
  ·refine⟨[x1,x2],rfl,by simp,by simp,fun y hy=>?_⟩
   simp only[Zk,Zz,Xl]at hy
   rcases hy with rfl|rfl
   ·exact m1
   ·exact m2
  ·refine⟨[x1,x2,x3],rfl,by simp,by simp,fun y hy=>?_⟩
   simp only[Zk,Zz,Xl]at hy
   rcases hy with rfl|rfl|rfl
   ·exact m1
   ·exact m2
   ·exact m3
 obtain⟨z,hz,z1,z2,z3⟩:=hz
 rw[hz]
 refine iteB (fun e=>?_) (fun e=>?_)
 ·walk_at "s"
  rw[back_eq]
  exact h [45,62] (by decide) (by decide) (by decide+kernel) (by decide)
 ·walk_at "s"
  refine h z z1 z2 z3 fun k=>?_
  subst k
  have:=Zl (a4c e)
  exact this b8b.symm
theorem d3h(T:Txt K mg t)(G_b0:FnOk P w K mg base CX0 1 t.a_b0 t.d_b0 ["_law_cell","_law_heads"] (a6l))(G_e8:FnOk P w K mg base CX0 1 t.a_e8 t.d_e8 ["_law_cell"] (a9j)):FnOk P w K mg base CX0 2 t.a_c9 t.d_c9 ["_law_cell"] (b2y K):=by
 refine T.F_c9.ok c2f (fun vs H Q E h=>?_) (fun cdv A outer s H vs Q E hr h=>?_)
 ·unfold b2y at h
  split at h
  ·rfl
  ·exact h.elim
 unfold b2y at h
 split at h
 rotate_left
 ·exact h.elim
 refine⟨_,(a0e (a0q (i:=1) (hs:=a3i) c2f.nd rfl (by walk_at "or1") (a0n a1m (mv 0) a0d)) (a0e (a0v (a0s a1e (mv 1) a0d (a0t _)) (a0g (a0m (a1g (a0a a0i (a0a (a0l G_e8 (hr.mono (by walk_at "r")) rfl T.m_e8 T.F_e8.kp T.b_e8 .nil a0p (a0a (a0n a1y (mv 0) a0d) a0b)) a0b))))) a0u) (a0e (a0v (a0s a1e (mv 1) a0d (a0t _)) (a0g (a0m (a1g (a0a a0i (a0a (a0l G_b0 (hr.mono (by walk_at "r")) rfl T.m_b0 T.F_b0.kp T.b_b0 .nil a0p (a0a (a0n a1y (mv 0) a0d) (a0a a0i a0b))) a0b))))) a0u) (a0e (a0v (PW.pt (a5d (a0s a1e (mv 1) a0d (a0t _)) (a4f (a0s a1e (a0n a1m (a0n a1y (mv 0) a0d) a0d) a0d (a0t _))))) (a0g (a0m (a1g (a0a a0i (a0a a0i (a0a (a1g a0b) a0b)))))) a0u) (a0g (a0m (a1g (a0a a0i (a0a (a0l G_b0 (hr.mono (by walk_at "r")) rfl T.m_b0 T.F_b0.kp T.b_b0 .nil a0p (a0a (a0n a1y (mv 0) a0d) (a0a a0i a0b))) (a0a (a1g a0b) a0b)))))))))),?_⟩
 rename_i c
 have word:∀(x:Nat)(r:List Nat)(p0 p:Addr),x∈(ofString "abcdefghijklmnopqrstuvwxyz").cps.toList->r.length<=11->(∀y∈r,y∈b0k.cps.toList)->H p0=none->(upd H p0 (.tup [])) p=none->Q (.ref p) (upd (upd H p0 (.tup [])) p (.tup [.str appS,.str ⟨(x::r).toArray⟩,.ref p0])):=fun x r p0 p hx hr ht h0 h1=>
  h _ (.app ⟨(x::r).toArray⟩ []) _ ((a0f h0 _).trans (a0f h1 _)) (.tup (SqT.of a0c) (.cons (.str _) (.cons (.str _) (.cons (.tup ((a0f h1 _).tup (SqT.of a0c)) .nil) .nil)))) (by simp[Trm.size,Trm.sizeL]) (fun tb=>⟨.inr (.inr (.inr ⟨_,rfl,called hx hr ht,by simp⟩)),trivial⟩)
 walk_at "s"
 refine iteB (fun e=>?_) (fun e=>?_)
 ·walk_at "s"
  refine fun n H1 n0 n1 s1=>?_
  walk_at "s"
  refine⟨ln (by show 2<=100000;decide),fun p hp=>?_⟩
  exact h _ (.num n) _ (s1.trans (a0f hp _)) (.tup (SqT.of a0c) (.cons (.str _) (.cons (.int _) .nil))) (by simp[Trm.size]) (fun tb=>⟨n0,n1⟩)
 ·walk_at "s"
  refine iteB (fun e1=>?_) (fun e1=>?_)
  ·walk_at "s"
   refine⟨big26,fun x r hx hr ht=>?_⟩
   walk_at "s"
   refine⟨ln (by show 2<=100000;decide),fun p hp=>?_⟩
   exact h _ (.any ⟨(x::r).toArray⟩) _ (a0f hp _) (.tup (SqT.of a0c) (.cons (.str _) (.cons (.str _) .nil))) (by simp[Trm.size]) (fun tb=>⟨_,rfl,called hx hr ht⟩)
  ·walk_at "s"
   have rest:∀D:Ends,D.rt=Q->True:=fun _ _=>trivial
   refine iteB (fun e2=>?_) (fun e2=>?_)
   ·walk_at "s"
    refine iteB (fun e3=>?_) (fun e3=>?_)
    ·walk_at "s"
     refine⟨ln (by show 0<=100000;decide),fun p0 hp0=>?_⟩
     walk_at "s"
     refine⟨ln (by show 3<=100000;decide),fun p hp=>?_⟩
     exact h _ (.app emptyS []) _ ((a0f hp0 _).trans (a0f hp _)) (.tup (SqT.of a0c) (.cons (.str _) (.cons (.str _) (.cons (.tup ((a0f hp _).tup (SqT.of a0c)) .nil) .nil)))) (by simp[Trm.size,Trm.sizeL]) (fun tb=>⟨.inl ⟨rfl,rfl⟩,trivial⟩)
    ·walk_at "s"
     refine⟨b7k,fun x r hx hr ht=>?_⟩
     walk_at "s"
     refine⟨ln (by show 0<=100000;decide),fun p0 hp0=>?_⟩
     walk_at "s"
     refine⟨ln (by show 3<=100000;decide),fun p hp=>?_⟩
     exact word x r p0 p hx hr ht hp0 hp
   ·refine iteF ?_
    walk_at "s"
    refine⟨b7k,fun x r hx hr ht=>?_⟩
    walk_at "s"
    refine⟨ln (by show 0<=100000;decide),fun p0 hp0=>?_⟩
    walk_at "s"
    refine⟨ln (by show 3<=100000;decide),fun p hp=>?_⟩
    exact word x r p0 p hx hr ht hp0 hp
theorem d3i(T:Txt K mg t)(G_b0:FnOk P w K mg base CX0 1 t.a_b0 t.d_b0 ["_law_cell","_law_heads"] (a6l)):FnOk P w K mg base CX0 2 t.a_d6 t.d_d6 ["_law_cell","_law_many","_law_marks"] (b2z K):=by
 refine T.F_d6.ok d1w (fun vs H Q E h=>?_) (fun cdv A outer s H vs Q E hr h=>?_)
 ·unfold b2z at h
  split at h
  ·rfl
  ·exact h.elim
 unfold b2z at h
 split at h
 rotate_left
 ·exact h.elim
 refine⟨_,(a0e (a0v (PW.pt (a5d (a0s a1e (mv 1) a0d (a0t _)) (a4f (a0s a1e (a0n a1m (mv 0) a0d) a0d (a0t _))))) (a0g (a0m a0i)) a0u) (a0e (a0v (PW.pt (a5d (a0s a1e (mv 1) a0d (a0t _)) (a4f (a0s a9i (a0n a1m (mv 0) a0d) a0d (a0t _))))) (a0g (a0m (a0r (a0k K rfl) (mv 2) (a0n a1m (a0n a1y (mv 0) a0d) (a0z (a2d K rfl) rfl T.n_c4 Z0 (a0a (mv 2) a0b))) (fun _ _=>rfl)))) a0u) (a0g (a0m (a0l G_b0 (hr.mono (by walk_at "r")) rfl T.m_b0 T.F_b0.kp T.b_b0 .nil a0p (a0a (a0n a1y (mv 0) a0d) (a0a a0i a0b))))))),?_⟩
 rename_i c m p
 obtain⟨ws,tb,hp,⟨hne,hl,hw⟩,h0,h1,q⟩:=h
 have hlp:1<=ws.length:=by
  cases ws with
  |nil=>exact absurd rfl hne
  |cons _ _=>simp
 walk_at "s"
 have wd:∀(x:Nat)(r:List Nat),x∈(ofString "abcdefghijklmnopqrstuvwxyz").cps.toList->r.length<=11->(∀y∈r,y∈b0k.cps.toList)->Q (.str ⟨(x::r).toArray⟩) H:=fun x r hx hr ht=>q _ (.inr (.inr (.inr ⟨_,rfl,called hx hr ht,by omega⟩)))
 refine iteB (fun e=>?_) (fun e=>?_)
 ·have e:m=2:=Ze (a4c e)
  subst e
  walk_at "s"
  refine iteB (fun e1=>?_) (fun e1=>?_)
  ·walk_at "s"
   exact q _ (.inr (.inl ⟨rfl,rfl⟩))
  ·walk_at "s"
   walk_at "D"
   refine iteB (fun e2=>?_) (fun e2=>?_)
   ·walk_at "s"
    refine a4l (SqL.of hp) ?_
    have hpos:(0:Int)<((ws.map V.str).length:Int):=by rw[length_map];omega
    refine m2_i hpos ?_
    obtain⟨v,hv,hv2⟩:=a9x (xs:=ws.map V.str) (Yl (c/4) (by omega)) (Ye (c/4) hpos)
    refine a2e (SqL.of hp) hv ?_
    obtain⟨z,hz,rfl⟩:=Yx.mp (a5v hv)
    exact q z (.inr (.inr (.inl ⟨(hw z hz).1,(hw z hz).2,rfl⟩)))
   ·walk_at "s"
    exact⟨b7k,wd⟩
 ·refine iteF ?_
  walk_at "s"
  rw[show(false^^decide (m=2))=false from e]
  refine iteF ?_
  walk_at "C"
  exact⟨b7k,wd⟩
theorem d3j(T:Txt K mg t)  :FnOk P w K mg base CX0 1 t.a_f2 t.d_f2 ["_law_table_here","_law_cell"] (b3a K):=by
 refine T.F_f2.ok c2g (fun vs H Q E h=>?_) (fun cdv A outer s H vs Q E hr h=>?_)
 ·unfold b3a at h
  split at h
  ·rfl
  ·exact h.elim
 unfold b3a at h
 split at h
 rotate_left
 ·exact h.elim
 refine⟨_,(a0e (a0q (i:=2) (hs:=a1p) c2g.nd rfl (by walk_at "or1") (a6h (d4j rfl) rfl T.n_j2 boot_list (a0a (mv 0) a0b))) (a0e (a0v (a0s a1e (a0n a1m (mv 1) a0d) a0d (a0t _)) (a0g (a0m (mv 2))) a0u) (a0g (a0m (a1j (a0a (a0r (a0k K rfl) (mv 2) (a6b a4v a0d) (fun _ _=>rfl)) (a0a (a0r (a0k K rfl) (mv 2) (a0n a1m (a0n a1y (mv 1) a0d) (a0z (a2d K rfl) rfl T.n_c4 Z0 (a0a (mv 2) a0b))) (fun _ _=>rfl)) a0b))))))),?_⟩
 rename_i d c
 obtain⟨kvs,tb,hd,hT,hl1,hl,hk,q⟩:=h
 obtain⟨ws,hws⟩:∃ws:List Str,ws=tb.map (·.1):=⟨_,rfl⟩
 have hkv:=tr_keys hT
 rw[<-hws]at hkv
 have hwl:ws.length=tb.length:=by rw[hws,length_map]
 have hwk:∀w∈ws,a7u w/\(lkT tb w).isSome=true:=fun w hw=>by
  rw[hws]at hw
  refine⟨?_,c1n hw⟩
  obtain⟨x,hx,rfl⟩:=Yx.mp hw
  exact hk x hx
 have hwne:ws≠[]:=fun e=>by rw[e]at hwl;simp at hwl;omega
 walk_at "s"
 refine⟨d,kvs,rfl,.inl hd,fun p hp=>?_⟩
 rw[hkv]
 walk_at "s"
 refine iteB (fun e=>?_) (fun e=>?_)
 ·walk_at "s"
  exact q p ws _ (a0f hp _) a0c ⟨hwne,by omega,hwk⟩
 ·walk_at "s"
  obtain⟨w1,wl,hw1⟩:∃w1 wl,ws=w1++[wl]:=by
   rcases Wu ws with e|⟨a,b,e⟩
   ·exact absurd e hwne
   ·exact⟨a,b,by simpa using e⟩
  have hla:atI (ws.map V.str) (-1)=some (.str wl):=by rw[hw1,Zq];exact c3u _ _
  refine a2e (SqL.of a0c) hla ?_
  walk_at "s"
  refine a4l (SqL.of a0c) ?_
  have hpos:(0:Int)<((ws.map V.str).length:Int):=by rw[length_map];omega
  refine m2_i hpos ?_
  obtain⟨v,hv,hv2⟩:=a9x (xs:=ws.map V.str) (Yl (c/3) (by omega)) (Ye (c/3) hpos)
  refine a2e (SqL.of a0c) hv ?_
  obtain⟨z,hz,rfl⟩:=Yx.mp (a5v hv)
  walk_at "s"
  refine⟨ln (by show 2<=100000;decide),fun p2 hp2=>?_⟩
  refine q p2 [wl,z] _ ((a0f hp _).trans (a0f hp2 _)) a0c ⟨by simp,by simp,fun w hw=>?_⟩
  simp only[Zk,Zz,Xl]at hw
  rcases hw with rfl|rfl
  ·exact hwk _ (by rw[hw1];simp)
  ·exact hwk _ hz
end
theorem d5v(xs:List V)(k:Nat)(h:k<=xs.length):cutV xs (some ((xs.length:Int)-(k:Int))) none=xs.drop (xs.length-k):=by
 unfold cutV HT.sIx
 have e1:¬((xs.length:Int)-(k:Int)<0):=by omega
 have e2:((xs.length:Int)-(k:Int)).toNat=xs.length-k:=by omega
 simp only[e1,Xu,e2]
 rw[W3 (by omega)]
 exact Vq (by rw[Y7];omega)
theorem cut_to(xs:List V)(k:Nat)(h:k<=xs.length):cutV xs none (some ((xs.length:Int)-(k:Int)))=xs.take (xs.length-k):=by
 unfold cutV HT.sIx
 have e1:¬((xs.length:Int)-(k:Int)<0):=by omega
 have e2:((xs.length:Int)-(k:Int)).toNat=xs.length-k:=by omega
 simp only[e1,Xu,e2]
 rw[W3 (by omega),V1,U7]
theorem cut_m2(xs:List V)(a b:V):cutV (xs++[a,b]) none (some (-2))=xs:=by
 unfold cutV HT.sIx
 have e:(-2+((xs.length:Int)+2)).toNat=xs.length:=by omega
 simp[e]
theorem cut_2(a b:V)(xs:List V):cutV (a::b::xs) (some 2) none=xs:=by
 unfold cutV HT.sIx
 simp
theorem at_m2(xs:List V)(a b:V):atI (xs++[a,b]) (-2)=some a:=by
 have hl:(xs++[a,b]).length=xs.length+2:=by simp
 have e:ixN (xs++[a,b]).length (-2)=some xs.length:=by
  unfold ixN
  rw[hl,if_neg (by decide),if_pos (by omega)]
  congr 1
  omega
 unfold atI
 rw[e]
 simp
theorem at_m1(xs:List V)(a b:V):atI (xs++[a,b]) (-1)=some b:=by
 have:=c3u (xs++[a]) b
 rw[Zx]at this
 exact this
theorem at_0(a:V)(xs:List V):atI (a::xs) 0=some a:=a6y (j:=0) rfl
theorem at_1(a b:V)(xs:List V):atI (a::b::xs) 1=some b:=a6y (j:=1) rfl
theorem c6d{tb:Tb}{sg:Str}{ks:List Trm}(h:wfA tb sg ks.length)(g:wfL tb ks):wf tb (.app sg ks):=⟨h,g⟩
theorem c8d{tb:Tb}{t:Trm}(h:wf tb t):wfL tb [t]:=⟨h,trivial⟩
theorem c8e{tb:Tb}{t u:Trm}(h:wf tb t)(g:wf tb u):wfL tb [t,u]:=⟨h,g,trivial⟩
theorem c1o{tb:Tb}{a b:List Trm}(h:wfL tb a)(g:wfL tb b):wfL tb (a++b):=by
 rw[a5j]at*
 intro t ht
 rcases Z1.mp ht with e|e
 ·exact h t e
 ·exact g t e
theorem d5w{tb:Tb}{a:List Trm}(h:wfL tb a)(n:Nat):wfL tb (a.take n):=by
 rw[a5j]at*
 exact fun t ht=>h t (List.mem_of_mem_take ht)
theorem d5x{tb:Tb}{a:List Trm}(h:wfL tb a)(n:Nat):wfL tb (a.drop n):=by
 rw[a5j]at*
 exact fun t ht=>h t (To ht)
theorem size_td(ts:List Trm)(k:Nat):Trm.sizeL (ts.take k)+Trm.sizeL (ts.drop k)=Trm.sizeL ts:=by
 rw[<-Trm.sizeL_app,Wt]
theorem c9j{us:List V}{ts:List Trm}{K:W.Frag}{H:Hp}(h:DenL K H us (Trm.dataL ts))(hl:1<ts.length):∃us' x y ts' a b,us=us'++[x,y]/\ts=ts'++[a,b]/\DenL K H us' (Trm.dataL ts')/\Den K H x a.data/\Den K H y b.data:=by
 rcases Wu ts with e|⟨t1,b,e⟩
 ·subst e;simp at hl
 rcases Wu t1 with e2|⟨t2,a,e2⟩
 ·subst e2;subst e;simp at hl
 have e:ts=t2++[a]++[b]:=by rw[e,e2];simp
 subst e
 rw[Trm.dataL_map,Zq,Zq]at h
 obtain⟨u1,y,rfl,h1,hy⟩:=DenL.snoc h
 obtain⟨u2,x,rfl,h2,hx⟩:=DenL.snoc h1
 exact⟨u2,x,y,t2,a,b,by simp,by simp,by rw[Trm.dataL_map];exact h2,hx,hy⟩
theorem c6u{us:List V}{ts:List Trm}{K:W.Frag}{H:Hp}(h:DenL K H us (Trm.dataL ts))(hl:1<ts.length):∃us' x y ts' a b,us=x::y::us'/\ts=a::b::ts'/\DenL K H us' (Trm.dataL ts')/\Den K H x a.data/\Den K H y b.data:=by
 match ts,hl with
 |a::b::ts',_=>
  rw[Trm.dataL,Trm.dataL]at h
  cases h with
  |cons hx h=>cases h with
   |cons hy h=>exact⟨_,_,_,ts',a,b,rfl,rfl,h,hx,hy⟩
section
variable{P:Program}{w:World}{K:W.Frag}{mg:Str->Option Value}{base:Heap}{t:Ad}
theorem c9k(T:Txt K mg t)(G_c9:FnOk P w K mg base CX0 2 t.a_c9 t.d_c9 ["_law_cell"] (b2y K))(G_d6:FnOk P w K mg base CX0 2 t.a_d6 t.d_d6 ["_law_cell","_law_many","_law_marks"] (b2z K)):FnOk P w K mg base CX0 3 t.a_d2 t.d_d2 ["_law_cells_here","_law_marks","_law_turn"] (b0x K):=by
 refine T.F_d2.ok a3n (fun vs H Q E h=>?_) (fun cdv A outer s H vs Q E hr h=>?_)
 ·unfold b0x at h
  split at h
  ·rfl
  ·exact h.elim
 unfold b0x at h
 split at h
 rotate_left
 ·exact h.elim
 refine⟨_,(a0e (a0q (i:=3) (hs:=a8i) a3n.nd rfl (by walk_at "or1") (a1j a0b)) (a0e (a8g Yh rfl (c4d K rfl (mv 0)) (a6w (i:=4) a3n.nd rfl (by walk_at "or1")) (a0e (a0q (i:=5) (hs:=a3i) a3n.nd rfl (by walk_at "or1") (a0n a1y (mv 4) a0d)) (a0e (a0q (i:=6) (hs:=a1p) a3n.nd rfl (by walk_at "or1") (a0z (c4g rfl) rfl T.n_i2 boot_min (a0a (a0z (a2d K rfl) rfl T.n_c4 Z0 (a0a (mv 3) a0b)) (a0a (a0r (a0k K rfl) (a1j (a0a a0d (a0a a0d (a0a a0d (a0a a0d (a0a a0d (a0a a0d (a0a a0d (a0a (a0n (a1h K rfl) a0d (a0n a1m (mv 5) a0d)) a0b))))))))) (a0n a1m (mv 4) a0d) (fun _ _=>rfl)) a0b)))) (a0g (a0v (a0s a1e (mv 6) a0d (a0t _)) (a0g (a1a (a3t K rfl Zu Z6 Z8 a2j (mv 3) (a0a (a0l G_c9 (hr.mono (by walk_at "r")) rfl T.m_c9 T.F_c9.kp T.b_c9 .nil a0p (a0a (mv 5) a0b)) a0b)))) (a0e (a0q (i:=7) (hs:=a1p) a3n.nd rfl (by walk_at "or1") (a6h (c4f K rfl) rfl T.n_i7 boot_tuple (a0a (a3y (b3r K rfl) (mv 3) (a3l (a0n b5p (a0z (a2d K rfl) rfl T.n_c4 Z0 (a0a (mv 3) a0b)) (mv 6))) a6x) a0b))) (a0g (a0q (i:=3) (hs:=a3i) a3n.nd rfl (by walk_at "or1") (a0n (a1h K rfl) (a3y (b3r K rfl) (mv 3) a6x (a3l (a0n b5p (a0z (a2d K rfl) rfl T.n_c4 Z0 (a0a (mv 3) a0b)) (mv 6)))) (a1j (a0a (a1g (a0a a0i (a0a (a0l G_d6 (hr.mono (by walk_at "r")) rfl T.m_d6 T.F_d6.kp T.b_d6 .nil a0p (a0a (a0n a1y (mv 5) a0d) (a0a (mv 6) (a0a (mv 1) a0b)))) (a0a (mv 7) a0b)))) a0b))))))))))) (a0e (a3x Yh (a0s c3b (a0z (a2d K rfl) rfl T.n_c4 Z0 (a0a (mv 3) a0b)) a0d (a0t _)) (a0e (a0q (i:=8) (hs:=a7o) a3n.nd rfl (by walk_at "or1") (a0r (a0k K rfl) (mv 1) (a0n a1m (a0n (a1h K rfl) (a0n b5q a0d (a0z (a2d K rfl) rfl T.n_c4 Z0 (a0a (mv 3) a0b))) (mv 2)) (a0z (a2d K rfl) rfl T.n_c4 Z0 (a0a (mv 1) a0b))) (fun _ _=>rfl))) (a0g (a0v (a0s a1e (a0n a1m (mv 2) a0d) a0d (a0t _)) (a0g (a0q (i:=3) (hs:=a3i) a3n.nd rfl (by walk_at "or1") (a0n (a1h K rfl) (a3y (b3r K rfl) (mv 3) a6x (a3l (a6b a4v a0d))) (a1j (a0a (a1g (a0a a0i (a0a (mv 8) (a0a (a1g (a0a (a0r (a0k K rfl) (mv 3) (a6b a4v a0d) (fun _ _=>rfl)) (a0a (a0r (a0k K rfl) (mv 3) (a6b a4v a0d) (fun _ _=>rfl)) a0b))) a0b)))) a0b))))) (a0g (a0q (i:=3) (hs:=a3i) a3n.nd rfl (by walk_at "or1") (a0n (a1h K rfl) (a1j (a0a (a1g (a0a a0i (a0a (mv 8) (a0a (a1g (a0a (a0r (a0k K rfl) (mv 3) a0d (fun _ _=>rfl)) (a0a (a0r (a0k K rfl) (mv 3) a0d (fun _ _=>rfl)) a0b))) a0b)))) a0b)) (a3y (b3r K rfl) (mv 3) (a3l a0d) a6x)))))))) (a0g (a0m (a0r (a0k K rfl) (a0n (a1h K rfl) (mv 3) (a1j (a0a (a1g (a0a a0i (a0a a0i (a0a (a1g a0b) a0b)))) a0b))) a0d (fun _ _=>rfl))))))),?_⟩
 rename_i cp mp tn
 obtain⟨cs,ws,tb,hS,hcl,hmp,⟨hw0,hwl,hwt⟩,ht0,q⟩:=h
 have hwp:1<=ws.length:=by
  cases ws with
  |nil=>exact absurd rfl hw0
  |cons _ _=>simp
 walk_at "s"
 refine⟨Z3 _,fun p0 hp0=>?_⟩
 walk_at "s"
 refine⟨cp,rfl,⟨_,(a0f hp0 _).seq hS⟩,?_⟩
 refine a6z (b7y (xs:=cs.map V.int)) (fun i σ' H'=>∃(p:Addr)(us:List V)(ts:List Trm)(o4 o5 o6 o7:Option V),σ'=[some (.ref cp),some (.ref mp),some (.int tn),some (.ref p),o4,o5,o6,o7,none]/\H' p=some (.lst us)/\DenL K H' us (Trm.dataL ts)/\Trm.sizeL ts<=i/\wfL tb ts/\H p=none/\Same H H') ⟨p0,[],[],none,none,none,none,rfl,a0c,.nil,Z3 _,trivial,hp0,a0f hp0 _⟩ (fun i σ' H' hP=>by obtain⟨_,_,_,_,_,_,_,_,_,_,_,_,_,sm⟩:=hP;exact sm.seq hS) (fun i σ' H' hi hP=>?_) (fun σ' H' hP=>?_)
 ·obtain⟨p,us,ts,o4,o5,o6,o7,rfl,h1,h2,h3,h4,h5,h6⟩:=hP
  obtain⟨c,hc⟩:=c4h hi
  rw[hc]
  have hi':i<20:=by rw[length_map]at hi;omega
  have hul:us.length=ts.length:=a5r h2
  have hlt:=Trm.len_le ts
  walk_at "s"
  refine a4l (SqL.of h1) ?_
  walk_at "s"
  refine⟨ln (by show 8<=100000;decide),fun p1 hp1=>?_⟩
  walk_at "s"
  have hx:∃x:Int,atI [V.int 0,V.int 0,V.int 0,V.int 0,V.int 1,V.int 2,V.int 2,V.int (3+c/8%2)] (c%8)=some (.int x)/\0<=x/\x<=4:=by
   have:c%8=0\/c%8=1\/c%8=2\/c%8=3\/c%8=4\/c%8=5\/c%8=6\/c%8=7:=by omega
   rcases this with e|e|e|e|e|e|e|e<;>rw[e]<;>exact⟨_,rfl,by omega,by omega⟩
  obtain⟨x,hx,hx0,hx4⟩:=hx
  refine a2e (SqL.of a0c) hx ?_
  walk_at "s"
  obtain⟨m,hm,hm1,hm4⟩:∃m:Nat,(if x<(us.length:Int)then x else(us.length:Int))=(m:Int)/\m<=us.length/\m<=4:=by
   by_cases h:x<(us.length:Int)
   ·exact⟨x.toNat,by rw[if_pos h];omega,by omega,by omega⟩
   ·exact⟨us.length,by rw[if_neg h],Zb _,by omega⟩
  rw[hm]
  have s1:Same H' (upd H' p1 (.lst [V.int 0,V.int 0,V.int 0,V.int 0,V.int 1,V.int 2,V.int 2,V.int (3+c/8%2)])):=a0f hp1 _
  generalize upd H' p1 (.lst [V.int 0,V.int 0,V.int 0,V.int 0,V.int 1,V.int 2,V.int 2,V.int (3+c/8%2)])=H1 at s1 ⊢
  have k1:=s1 _ _ h1
  have d1:=h2.mono s1
  refine iteB (fun e=>?_) (fun e=>?_)
  ·walk_at "s"
   refine⟨.inl ⟨rfl,_,SqL.of k1⟩,?_⟩
   walk_at "s"
   refine fun x t H2 s2 kd ksz kwf=>?_
   walk_at "s"
   have k2:=s2 _ _ k1
   refine a1u k2 (ln1 (by omega)) ?_
   refine⟨p,_,ts++[t],_,_,_,_,rfl,a0c,?_,?_,c1o h4 ⟨kwf tb,trivial⟩,h5,a1n (h6.trans (s1.trans s2)) h5⟩
   ·rw[Trm.dataL_map,Zq,<-Trm.dataL_map]
    exact((d1.mono s2).append (.cons kd .nil)).lst k2
   ·rw[Trm.sizeL_app]
    simp only[Trm.sizeL]
    omega
  ·have hm0:0<m:=by
    have:=Zl (a4c e)
    omega
   walk_at "s"
   refine a4l (SqL.of k1) ?_
   walk_at "s"
   refine b5u (SqL.of k1) fun p2 hp2=>?_
   rw[d5v us m hm1]
   walk_at "s"
   refine d0z (SqL.of a0c) fun b hb=>?_
   walk_at "s"
   have s2:Same H1 (upd (upd H1 p2 (.lst (us.drop (us.length-m)))) b (.tup (us.drop (us.length-m)))):=(a0f hp2 _).trans (a0f hb _)
   have hbt:(upd (upd H1 p2 (.lst (us.drop (us.length-m)))) b (.tup (us.drop (us.length-m)))) b=some (.tup (us.drop (us.length-m))):=a0c
   generalize upd (upd H1 p2 (.lst (us.drop (us.length-m)))) b (.tup (us.drop (us.length-m)))=H2 at s2 hbt ⊢
   have k2:=s2 _ _ k1
   have d2:=d1.mono s2
   refine a4l (SqL.of k2) ?_
   walk_at "s"
   refine b5u (SqL.of k2) fun p3 hp3=>?_
   rw[cut_to us m hm1]
   walk_at "s"
   have s3:Same H2 (upd H2 p3 (.lst (us.take (us.length-m)))):=a0f hp3 _
   have k3:(upd H2 p3 (.lst (us.take (us.length-m)))) p3=some (.lst (us.take (us.length-m))):=a0c
   generalize upd H2 p3 (.lst (us.take (us.length-m)))=H3 at s3 k3 ⊢
   have d3:=d2.mono s3
   have s03:Same H H3:=h6.trans (s1.trans (s2.trans s3))
   refine⟨ws,tb,s03 _ _ hmp,⟨hw0,hwl,hwt⟩,by omega,by omega,fun z hz=>?_⟩
   walk_at "s"
   refine⟨ln (by show 3<=100000;decide),fun p4 hp4=>?_⟩
   walk_at "s"
   refine⟨ln (by show 1<=100000;decide),fun p5 hp5=>?_⟩
   walk_at "s"
   have s4:Same H3 (upd H3 p4 (.tup [.str (ofString "app"),.str z,.ref b])):=a0f hp4 _
   have k4:(upd H3 p4 (.tup [.str (ofString "app"),.str z,.ref b])) p4=some (.tup [.str (ofString "app"),.str z,.ref b]):=a0c
   generalize upd H3 p4 (.tup [.str (ofString "app"),.str z,.ref b])=H4 at s4 k4 hp5 ⊢
   have s5:Same H4 (upd H4 p5 (.lst [.ref p4])):=a0f hp5 _
   have k5:(upd H4 p5 (.lst [.ref p4])) p5=some (.lst [.ref p4]):=a0c
   generalize upd H4 p5 (.lst [.ref p4])=H5 at s5 k5 ⊢
   refine a6j ((s4.trans s5) _ _ k3) k5 (ln (by rw[Wd,Yz];omega)) fun p6 hp6=>?_
   have s6:Same H5 (upd H5 p6 (.lst (us.take (us.length-m)++[.ref p4]))):=a0f hp6 _
   have s36:=s4.trans (s5.trans s6)
   have hkl:(ts.drop (ts.length-m)).length=m:=by rw[Y7];omega
   refine⟨p6,_,ts.take (ts.length-m)++[.app z (ts.drop (ts.length-m))],_,_,_,_,rfl,a0c,?_,?_,c1o (d5w h4 _) (c8d (c6d (by rw[hkl];exact hz) (d5x h4 _))),(s03.trans (s4.trans s5)).free hp6,s03.trans s36⟩
   ·rw[Trm.dataL_map,Zq,List.map_take,<-Trm.dataL_map,<-hul]
    refine((d3.mono s36).take _).append (.cons ?_ .nil)
    refine b1c (SqT.of ((s5.trans s6) _ _ k4)) (SqT.of ((s3.trans s36) _ _ hbt)) ?_
    rw[Trm.dataL_map,List.map_drop,<-Trm.dataL_map]
    exact(d3.mono s36).drop _
   ·have:=size_td ts (ts.length-m)
    rw[Trm.sizeL_app]
    simp only[Trm.sizeL,Trm.size]
    omega
 obtain⟨p,us,ts,o4,o5,o6,o7,rfl,h1,h2,h3,h4,h5,h6⟩:=hP
 rw[length_map]at h3
 walk_at "s"
 refine a3c (fun n σ' H2=>∃(p:Addr)(us:List V)(ts:List Trm)(o8:Option V),σ'=[some (.ref cp),some (.ref mp),some (.int tn),some (.ref p),o4,o5,o6,o7,o8]/\H2 p=some (.lst us)/\DenL K H2 us (Trm.dataL ts)/\Trm.sizeL ts+ts.length<=40/\wfL tb ts/\n=ts.length/\Same H H2) ts.length ⟨p,us,ts,none,rfl,h1,h2,by have:=Trm.len_le ts;omega,h4,rfl,h6⟩ (fun n σ' H2 R hP kT kF=>?_)
 clear h1 h2 h3 h4 h5 h6
 obtain⟨p,us,ts,o8,rfl,g1,g2,g3,g4,g5,g6⟩:=hP
 have hul:us.length=ts.length:=a5r g2
 have hlt:=Trm.len_le ts
 walk_at "s"
 refine a4l (SqL.of g1) ?_
 walk_at "s"
 by_cases hlen:1<ts.length
 ·rw[Zg (show(1:Int)<(us.length:Int) by omega)]
  refine kT H2 (fun D' e1 e2 hnx hct=>?_)
  walk_at "s"
  refine a4l (SqL.of g1) ?_
  walk_at "s"
  refine b5r (b9k (by decide)) ?_
  walk_at "s"
  refine a4l (SqL.of (g6 _ _ hmp)) ?_
  have hpos:(0:Int)<((ws.map V.str).length:Int):=by rw[length_map];omega
  refine m2_i hpos ?_
  obtain⟨v,hv,hv2⟩:=a9x (xs:=ws.map V.str) (Yl (7*(us.length:Int)+tn) (by omega)) (Ye (7*(us.length:Int)+tn) hpos)
  refine a2e (SqL.of (g6 _ _ hmp)) hv ?_
  obtain⟨z,hz,rfl⟩:=Yx.mp (a5v hv)
  have hzw:wfA tb z 2:=.inr (.inr (.inl ⟨(hwt z hz).1,(hwt z hz).2,rfl⟩))
  walk_at "s"
  refine iteB (fun e=>?_) (fun e=>?_)
  ·obtain⟨us',x,y,ts',a,b,rfl,rfl,gd,gx,gy⟩:=c9j g2 hlen
   have ga:wf tb a:=a5j.mp g4 a (by simp)
   have gb:wf tb b:=a5j.mp g4 b (by simp)
   have g4':wfL tb ts':=a5j.mpr fun t ht=>a5j.mp g4 t (Y1 _ ht)
   walk_at "s"
   refine b5u (SqL.of g1) fun p2 hp2=>?_
   rw[cut_m2]
   walk_at "s"
   have s2:Same H2 (upd H2 p2 (.lst us')):=a0f hp2 _
   have k2:(upd H2 p2 (.lst us')) p2=some (.lst us'):=a0c
   generalize upd H2 p2 (.lst us')=H3 at s2 k2 ⊢
   refine a2e (SqL.of (s2 _ _ g1)) (at_m2 us' x y) ?_
   walk_at "s"
   refine a2e (SqL.of (s2 _ _ g1)) (at_m1 us' x y) ?_
   walk_at "s"
   refine⟨ln (by show 2<=100000;decide),fun p3 hp3=>?_⟩
   walk_at "s"
   have s3:Same H3 (upd H3 p3 (.tup [x,y])):=a0f hp3 _
   have k3:(upd H3 p3 (.tup [x,y])) p3=some (.tup [x,y]):=a0c
   generalize upd H3 p3 (.tup [x,y])=H4 at s3 k3 ⊢
   refine⟨ln (by show 3<=100000;decide),fun p4 hp4=>?_⟩
   walk_at "s"
   have s4:Same H4 (upd H4 p4 (.tup [.str (ofString "app"),.str z,.ref p3])):=a0f hp4 _
   have k4:(upd H4 p4 (.tup [.str (ofString "app"),.str z,.ref p3])) p4=some (.tup [.str (ofString "app"),.str z,.ref p3]):=a0c
   generalize upd H4 p4 (.tup [.str (ofString "app"),.str z,.ref p3])=H5 at s4 k4 ⊢
   refine⟨ln (by show 1<=100000;decide),fun p5 hp5=>?_⟩
   walk_at "s"
   have s5:Same H5 (upd H5 p5 (.lst [.ref p4])):=a0f hp5 _
   have k5:(upd H5 p5 (.lst [.ref p4])) p5=some (.lst [.ref p4]):=a0c
   generalize upd H5 p5 (.lst [.ref p4])=H6 at s5 k5 ⊢
   simp only[Za,length_cons,length_nil]at hul g3 g5 hlt
   refine a6j ((s3.trans (s4.trans s5)) _ _ k2) k5 (ln (by rw[Yz];omega)) fun p6 hp6=>?_
   have s6:Same H6 (upd H6 p6 (.lst (us'++[.ref p4]))):=a0f hp6 _
   have s26:=s2.trans (s3.trans (s4.trans (s5.trans s6)))
   refine hnx _ _ (ts'.length+1) (by omega) ⟨p6,_,ts'++[.app z [a,b]],_,rfl,a0c,?_,?_,c1o g4' (c8d (c6d hzw (c8e ga gb))),by simp,g6.trans s26⟩
   ·rw[Trm.dataL_map,Zq,<-Trm.dataL_map]
    refine(gd.mono s26).append (.cons ?_ .nil)
    refine b1c (SqT.of ((s5.trans s6) _ _ k4)) (SqT.of ((s4.trans (s5.trans s6)) _ _ k3)) ?_
    exact .cons (gx.mono s26) (.cons (gy.mono s26) .nil)
   ·rw[Trm.sizeL_app]at g3
    rw[Trm.sizeL_app,Za]
    simp only[Trm.sizeL,Trm.size,length_cons,length_nil]at g3 ⊢
    omega
  ·obtain⟨us',x,y,ts',a,b,rfl,rfl,gd,gx,gy⟩:=c6u g2 hlen
   obtain⟨ga,gb,g4'⟩:wf tb a/\wf tb b/\wfL tb ts':=g4
   walk_at "s"
   refine a2e (SqL.of g1) (at_0 x _) ?_
   walk_at "s"
   refine a2e (SqL.of g1) (at_1 x y _) ?_
   walk_at "s"
   refine⟨ln (by show 2<=100000;decide),fun p3 hp3=>?_⟩
   walk_at "s"
   have s3:Same H2 (upd H2 p3 (.tup [x,y])):=a0f hp3 _
   have k3:(upd H2 p3 (.tup [x,y])) p3=some (.tup [x,y]):=a0c
   generalize upd H2 p3 (.tup [x,y])=H4 at s3 k3 ⊢
   refine⟨ln (by show 3<=100000;decide),fun p4 hp4=>?_⟩
   walk_at "s"
   have s4:Same H4 (upd H4 p4 (.tup [.str (ofString "app"),.str z,.ref p3])):=a0f hp4 _
   have k4:(upd H4 p4 (.tup [.str (ofString "app"),.str z,.ref p3])) p4=some (.tup [.str (ofString "app"),.str z,.ref p3]):=a0c
   generalize upd H4 p4 (.tup [.str (ofString "app"),.str z,.ref p3])=H5 at s4 k4 ⊢
   refine⟨ln (by show 1<=100000;decide),fun p5 hp5=>?_⟩
   walk_at "s"
   have s5:Same H5 (upd H5 p5 (.lst [.ref p4])):=a0f hp5 _
   have k5:(upd H5 p5 (.lst [.ref p4])) p5=some (.lst [.ref p4]):=a0c
   generalize upd H5 p5 (.lst [.ref p4])=H6 at s5 k5 ⊢
   refine b5u (SqL.of ((s3.trans (s4.trans s5)) _ _ g1)) fun p2 hp2=>?_
   rw[cut_2]
   walk_at "s"
   have s2:Same H6 (upd H6 p2 (.lst us')):=a0f hp2 _
   have k2:(upd H6 p2 (.lst us')) p2=some (.lst us'):=a0c
   generalize upd H6 p2 (.lst us')=H7 at s2 k2 ⊢
   simp only[length_cons]at hul g3 g5 hlt
   refine a6j (s2 _ _ k5) k2 (ln (by rw[Yz];omega)) fun p6 hp6=>?_
   have s6:Same H7 (upd H7 p6 (.lst ([.ref p4]++us'))):=a0f hp6 _
   have s26:=s3.trans (s4.trans (s5.trans (s2.trans s6)))
   refine hnx _ _ (ts'.length+1) (by omega) ⟨p6,_,.app z [a,b]::ts',_,rfl,a0c,?_,?_,⟨c6d hzw (c8e ga gb),g4'⟩,by simp,g6.trans s26⟩
   ·refine .cons ?_ (gd.mono s26)
    refine b1c (SqT.of ((s5.trans (s2.trans s6)) _ _ k4)) (SqT.of ((s4.trans (s5.trans (s2.trans s6))) _ _ k3)) ?_
    exact .cons (gx.mono s26) (.cons (gy.mono s26) .nil)
   ·simp only[Trm.sizeL,Trm.size,length_cons]at g3 ⊢
    omega
 ·rw[Zd (show ¬(1:Int)<(us.length:Int) by omega)]
  refine kF H2 ?_
  walk_at "s"
  refine⟨Z3 _,fun p1 hp1=>?_⟩
  walk_at "s"
  have s1:Same H2 (upd H2 p1 (.tup [])):=a0f hp1 _
  have k1:(upd H2 p1 (.tup [])) p1=some (.tup []):=a0c
  generalize upd H2 p1 (.tup [])=H3 at s1 k1 ⊢
  refine⟨ln (by show 3<=100000;decide),fun p2 hp2=>?_⟩
  walk_at "s"
  have s2:Same H3 (upd H3 p2 (.tup [.str (ofString "app"),.str (ofString "a"),.ref p1])):=a0f hp2 _
  have k2:(upd H3 p2 (.tup [.str (ofString "app"),.str (ofString "a"),.ref p1])) p2=some (.tup [.str (ofString "app"),.str (ofString "a"),.ref p1]):=a0c
  generalize upd H3 p2 (.tup [.str (ofString "app"),.str (ofString "a"),.ref p1])=H4 at s2 k2 ⊢
  refine⟨ln (by show 1<=100000;decide),fun p5 hp5=>?_⟩
  walk_at "s"
  have s5:Same H4 (upd H4 p5 (.lst [.ref p2])):=a0f hp5 _
  have k5:(upd H4 p5 (.lst [.ref p2])) p5=some (.lst [.ref p2]):=a0c
  generalize upd H4 p5 (.lst [.ref p2])=H5 at s5 k5 ⊢
  refine a6j ((s1.trans (s2.trans s5)) _ _ g1) k5 (ln (by rw[Yz];omega)) fun p6 hp6=>?_
  have s6:Same H5 (upd H5 p6 (.lst (us++[.ref p2]))):=a0f hp6 _
  have s26:=s1.trans (s2.trans (s5.trans s6))
  match ts,us,g2 with
  | [],_,g2=>
   cases g2
   refine a2e (SqL.of a0c) (at_0 _ _) ?_
   have ea:ofString "a"=⟨(97::[]).toArray⟩:=by decide+kernel
   refine q _ (.app (ofString "a") []) _ (g6.trans s26) (b1c (SqT.of ((s5.trans s6) _ _ k2)) (SqT.of ((s2.trans (s5.trans s6)) _ _ k1)) .nil) (by simp[Trm.size,Trm.sizeL]) ?_
   rw[ea]
   exact⟨.inr (.inr (.inr ⟨_,rfl,called (by decide+kernel) (by simp) (by simp),by simp⟩)),trivial⟩
  |t::ts',_,g2=>
   cases g2 with
   |cons hx hr=>
    refine a2e (SqL.of a0c) (at_0 _ _) ?_
    simp only[Trm.sizeL]at g3
    exact q _ t _ (g6.trans s26) (hx.mono s26) (by omega) g4.1
end
theorem a9g:∀{tb:Tb}{m:Str}{g:Sg},lkT tb m=some g->(m,g)∈tb
 | [],_,_,h=>by cases h
 | (x,g0)::r,m,g,h=>by
  unfold lkT at h
  split at h
  ·rename_i e
   cases h
   have e:x=m:=e
   rw[<-e]
   exact Zj ..
  ·exact Zi _ (a9g h)
theorem TR.len{K:W.Frag}{H:Hp}{kvs:List (Key×V)}{tb:Tb}(h:TR K H kvs tb):kvs.length=tb.length:=by
 induction h with
 |nil=>rfl
 |cons _ _ ih=>rw[length_cons,length_cons,ih]
theorem TR.app{K:W.Frag}{H:Hp}{kvs kw:List (Key×V)}{tb tc:Tb}(h:TR K H kvs tb)(h2:TR K H kw tc):TR K H (kvs++kw) (tb++tc):=by
 induction h with
 |nil=>exact h2
 |cons h1 _ ih=>exact .cons h1 ih
theorem valV_no{a:List (Key×V)}{k:Key}(h:k∉a.map (·.1)):valV a k=none:=by
 induction a with
 |nil=>rfl
 |cons p r ih=>
  rw[Zp,Zk,not_or]at h
  rw[a3k (fun e=>h.1 e.symm)]
  exact ih h.2
theorem a8q:∀(b a:List (Key×V)),((a++b).map (·.1)).Nodup->a4j a b=a++b
 | [],a,_=>by rw[Yo];rfl
 | (k,v)::r,a,h=>by
  have hn:k∉a.map (·.1):=fun hk=>by
   rw[Zq,List.nodup_append]at h
   exact h.2.2 k hk k (by rw[Zp];exact Zj ..) rfl
  show a4j (putK a k v) r=_
  have e:a++(k,v)::r=(a++[(k,v)])++r:=by rw[Zx];rfl
  rw[c3w _ (valV_no hn),a8q r (a++[(k,v)]) (by rw[<-e];exact h),e]
theorem b6s{K:W.Frag}{H:Hp}{p:Addr}{ys:List (Key×V)}{o:HO}(h:H p=some (.dK ys)):∀a xs,SqT K H a xs->SqT K (upd H p o) a xs:=fun a xs q=>by
 rcases q with(q|⟨o',q⟩)|q
 ·exact .inl (.inl (by rw[a0j (b8y q h (fun z=>by cases z))];exact q))
 ·exact .inl (.inr ⟨o',by rw[a0j (b8y q h (fun z=>by cases z))];exact q⟩)
 ·exact .inr q
theorem lk_none{K:W.Frag}{H:Hp}{kvs:List (Key×V)}{tb:Tb}{x:Str}(h:TR K H kvs tb)(e:valV kvs (.inr x)=none):x∉tb.map (·.1):=fun z=>by
 have:=c1n z
 rcases h.val x with⟨_,y⟩|⟨_,_,y,_⟩
 ·rw[y]at this;cases this
 ·rw[e]at y;cases y
structure TPs(K:W.Frag)(H:Hp)(kv:List (Key×V))(tb:Tb)(sk:List (Key×V)):Prop where
 tr:TR K H kv tb
 mks:∀p∈tb,a7u p.1
 nd:(tb.map (·.1)).Nodup
 rk:∀p∈tb,1<=p.2.1/\valV sk (.inl p.2.1)=some (.str p.2.2)
 sd:∀r v,valV sk (.inl r)=some v->∃s,v=.str s/\(s=a2w\/s=a2m\/s=a1f)
theorem TPs.monoT{K:W.Frag}{H H':Hp}{kv:List (Key×V)}{tb:Tb}{sk:List (Key×V)}(h:TPs K H kv tb sk)(e:∀a xs,SqT K H a xs->SqT K H' a xs):TPs K H' kv tb sk:=⟨h.tr.monoT e,h.mks,h.nd,h.rk,h.sd⟩
theorem TPs.mono{K:W.Frag}{H H':Hp}{kv:List (Key×V)}{tb:Tb}{sk:List (Key×V)}(h:TPs K H kv tb sk)(s:Same H H'):TPs K H' kv tb sk:=h.monoT fun _ _ q=>s.tup q
theorem TPs.add{K:W.Frag}{H:Hp}{kv:List (Key×V)}{tb:Tb}{sk:List (Key×V)}(h:TPs K H kv tb sk){x s sd:Str}{a:Addr}{r:Int}(hx:valV kv (.inr x)=none)(ha:SqT K H a [.int r,.str s])(hm:a7u x)(hr:1<=r)(hs:s=a2w\/s=a2m\/s=a1f)(e:(valV sk (.inl r)).getD (.str sd)=.str s):TPs K H (putK kv (.inr x) (.ref a)) (tb++[(x,(r,s))]) (putK sk (.inl r) (.str s)):=by
 refine⟨by rw[c3w _ hx];exact h.tr.app (.cons ha .nil),fun p hp=>?_,?_,fun p hp=>?_,fun r' v hv=>?_⟩
 ·rcases Z1.mp hp with hp|hp
  ·exact h.mks p hp
  ·rw[Zw.mp hp];exact hm
 ·rw[Zq]
  refine List.nodup_append.mpr ⟨h.nd,by simp,fun a ha b hb e=>?_⟩
  have hb:b=x:=by simpa using hb
  rw[e,hb]at ha
  exact lk_none h.tr hx ha
 ·rcases Z1.mp hp with hp|hp
  ·obtain⟨h1,h2⟩:=h.rk p hp
   refine⟨h1,?_⟩
   rw[b4e]
   split
   ·rename_i z
    have z:=Sum.inl.inj z
    rw[z]at h2
    rw[h2]at e
    exact Z9 some e.symm
   ·exact h2
  ·rw[Zw.mp hp]
   exact⟨hr,by rw[b4e,if_pos rfl]⟩
 ·rw[b4e]at hv
  split at hv
  ·exact⟨s,(Zo hv).symm,hs⟩
  ·exact h.sd r' v hv
theorem TPs.ok{K:W.Frag}{H:Hp}{kv:List (Key×V)}{tb:Tb}{sk:List (Key×V)}(h:TPs K H kv tb sk)(hl:tb.length<=20):TbM tb:=by
 refine⟨⟨fun m g hg=>(h.rk _ (a9g hg)).1,fun m g hg=>?_,fun m g m' g' hg hg' e=>?_⟩,fun m hm=>?_,hl⟩
 ·obtain⟨s,e1,e2⟩:=h.sd _ _ (h.rk _ (a9g hg)).2
  cases e1
  exact e2
 ·have h1:=(h.rk _ (a9g hg)).2
  have h2:=(h.rk _ (a9g hg')).2
  simp only[]at h1 h2
  rw[e,h2]at h1
  injection h1 with h1
  injection h1 with h1
  exact h1.symm
 ·obtain⟨g,hg⟩:=Yu.mp hm
  obtain⟨z,e1,e2,e3,e4,e5⟩:=h.mks _ (a9g hg)
  cases z with
  |nil=>simp at e2
  |cons x r=>exact⟨x,r,e1,e4 x (Zj ..)⟩
theorem mk_lits{tb:Tb}(h:∀p∈tb,1<=p.1.cps.toList.length/\p.1.cps.toList.length<=3/\(∀y∈p.1.cps.toList,y∈a6c.cps.toList)/\p.1.cps.toList≠[60,45]):∀p∈tb,a7u p.1:=fun p hp=>⟨p.1.cps.toList,by simp,h p hp⟩
abbrev b0y(K:W.Frag):Sp:=fun vs H Q _=>match vs with| [.int c,.int m]=>0<=m/\m<=8/\∀(p:Addr)(kvs:List (Key×V))(tb:Tb)(H':Hp),Same H H'->H' p=some (.dK kvs)->TR K H' kvs tb->TbM tb->(∀x∈tb,a7u x.1)->(tb.map (·.1)).Nodup->1<=tb.length->Q (.ref p) H'|_=>False
section
variable{P:Program}{w:World}{K:W.Frag}{mg:Str->Option Value}{base:Heap}{t:Ad}
theorem c9l(T:Txt K mg t)(G_b5:FnOk P w K mg base CX0 1 t.a_b5 t.d_b5 ["_law_cell","_law_many"] (a5w))(G_f8:FnOk P w K mg base CX0 1 t.a_f8 t.d_f8 ["_law_cell"] (b2m)):FnOk P w K mg base CX0 2 t.a_d3 t.d_d3 ["_law_cell","_law_many"] (b0y K):=by
 refine T.F_d3.ok a5n (fun vs H Q E h=>?_) (fun cdv A outer s H vs Q E hr h=>?_)
 ·unfold b0y at h
  split at h
  ·rfl
  ·exact h.elim
 unfold b0y at h
 split at h
 rotate_left
 ·exact h.elim
 refine⟨_,(@QSs.pss _ _ _ (b8c (d1h (i:=2) a5n.nd rfl (by walk_at "or1") (c0n (a4t a0i (a1g (a2g a0d (a2g a0i a0b))) (a4t a0i (a1g (a2g a0d (a2g a0i a0b))) (a4t a0i (a1g (a2g a0d (a2g a0i a0b))) (a4t a0i (a1g (a2g a0d (a2g a0i a0b))) (a4t a0i (a1g (a2g a0d (a2g a0i a0b))) c4k))))) rfl rfl (by simp) (by decide)) rfl (by first|exact .inl rfl|exact .inr rfl)) (b8c (qs_upd K rfl (mv 2) (c0n (a4t a0i (a1g (a2g a0d (a2g a0i a0b))) (a4t a0i (a1g (a2g a0d (a2g a0i a0b))) (a4t a0i (a1g (a2g a0d (a2g a0i a0b))) (a4t a0i (a1g (a2g a0d (a2g a0i a0b))) c4k)))) rfl rfl (by simp) (by decide)) rfl rfl rfl rfl rfl rfl) (b8c (d1h (i:=3) a5n.nd rfl (by walk_at "or1") (c0n (a4t a0d a0i (a4t a0d a0i (a4t a0d a0i c4k))) rfl rfl (by simp) (by decide)) rfl (by first|exact .inl rfl|exact .inr rfl)) ⟨(a0e (a8g Yh rfl (c4d K rfl (a0l G_b5 (hr.mono (by walk_at "r")) rfl T.m_b5 T.F_b5.kp T.b_b5 .nil a0p (a0a (mv 0) (a0a (mv 1) a0b)))) (a6w (i:=4) a5n.nd rfl (by walk_at "or1")) (a0e (a0q (i:=5) (hs:=a1p) a5n.nd rfl (by walk_at "or1") (a0l G_f8 (hr.mono (by walk_at "r")) rfl T.m_f8 T.F_f8.kp T.b_f8 .nil a0p (a0a (mv 4) a0b))) (a0e (a0q (i:=6) (hs:=a3i) a5n.nd rfl (by walk_at "or1") (a0n (a1h K rfl) a0d (a0n a1m (a0n a1y (mv 4) a0d) a0d))) (a0e (a0q (i:=7) (hs:=a1p) a5n.nd rfl (by walk_at "or1") (d3y (a7r hr) (mv 3) (mv 6) (a0r (a0k K rfl) (a1j (a0a a0i (a0a a0i (a0a a0i a0b)))) (a0n a1m (a0n a1y (mv 4) a0d) a0d) (fun _ _=>rfl)) ⟨rfl,rfl,rfl,rfl⟩)) (a0g (a0v (a0s (c7g (a7r hr)) (mv 5) (mv 2) (by with_unfolding_all rfl)) (a0e (c7c (a7r hr) (mv 2) (mv 5) (a1g (a0a (mv 6) (a0a (mv 7) a0b))) rfl) (a0g (c7c (a7r hr) (mv 3) (mv 6) (mv 7) rfl))) a0u)))))) (a0g (a0m (mv 2))))⟩)))),?_⟩
 rename_i c m
 obtain⟨hm0,hm1,q⟩:=h
 walk_at "s"
 refine fun p hp=>?_
 have sp:Same H (upd H p (.dK [])):=a0f hp _
 have kp:(upd H p (.dK [])) p=some (.dK []):=a0c
 generalize upd H p (.dK [])=Hp0 at sp kp ⊢
 walk_at "s"
 refine⟨ln (by show 2<=100000;decide),fun a0 ha0=>?_⟩
 have sa0:Same Hp0 (upd Hp0 a0 (.tup [.int 15,.str (ofString "none")])):=a0f ha0 _
 have ka0:(upd Hp0 a0 (.tup [.int 15,.str (ofString "none")])) a0=some (.tup [.int 15,.str (ofString "none")]):=a0c
 generalize upd Hp0 a0 (.tup [.int 15,.str (ofString "none")])=Ha0 at sa0 ka0 ⊢
 walk_at "s"
 refine⟨ln (by show 2<=100000;decide),fun a1 ha1=>?_⟩
 have sa1:Same Ha0 (upd Ha0 a1 (.tup [.int 15,.str (ofString "none")])):=a0f ha1 _
 have ka1:(upd Ha0 a1 (.tup [.int 15,.str (ofString "none")])) a1=some (.tup [.int 15,.str (ofString "none")]):=a0c
 generalize upd Ha0 a1 (.tup [.int 15,.str (ofString "none")])=Ha1 at sa1 ka1 ⊢
 walk_at "s"
 refine⟨ln (by show 2<=100000;decide),fun a2 ha2=>?_⟩
 have sa2:Same Ha1 (upd Ha1 a2 (.tup [.int 15,.str (ofString "none")])):=a0f ha2 _
 have ka2:(upd Ha1 a2 (.tup [.int 15,.str (ofString "none")])) a2=some (.tup [.int 15,.str (ofString "none")]):=a0c
 generalize upd Ha1 a2 (.tup [.int 15,.str (ofString "none")])=Ha2 at sa2 ka2 ⊢
 walk_at "s"
 refine⟨ln (by show 2<=100000;decide),fun a3 ha3=>?_⟩
 have sa3:Same Ha2 (upd Ha2 a3 (.tup [.int 15,.str (ofString "none")])):=a0f ha3 _
 have ka3:(upd Ha2 a3 (.tup [.int 15,.str (ofString "none")])) a3=some (.tup [.int 15,.str (ofString "none")]):=a0c
 generalize upd Ha2 a3 (.tup [.int 15,.str (ofString "none")])=Ha3 at sa3 ka3 ⊢
 walk_at "s"
 refine⟨ln (by show 2<=100000;decide),fun a4 ha4=>?_⟩
 have sa4:Same Ha3 (upd Ha3 a4 (.tup [.int 10,.str (ofString "left")])):=a0f ha4 _
 have ka4:(upd Ha3 a4 (.tup [.int 10,.str (ofString "left")])) a4=some (.tup [.int 10,.str (ofString "left")]):=a0c
 generalize upd Ha3 a4 (.tup [.int 10,.str (ofString "left")])=Ha4 at sa4 ka4 ⊢
 walk_at "s"
 have kp1:=(sa0.trans (sa1.trans (sa2.trans (sa3.trans sa4)))) _ _ kp
 have e1:a4j [] [(Sum.inr (ofString "="),V.ref a0),(Sum.inr (ofString ":="),V.ref a1),(Sum.inr (ofString "<"),V.ref a2),(Sum.inr (ofString "<="),V.ref a3),(Sum.inr (ofString "+"),V.ref a4)]=[(Sum.inr (ofString "="),V.ref a0),(Sum.inr (ofString ":="),V.ref a1),(Sum.inr (ofString "<"),V.ref a2),(Sum.inr (ofString "<="),V.ref a3),(Sum.inr (ofString "+"),V.ref a4)]:=a8q _ _ (by simp only[Zn,Y6,Zp,Y3];decide+kernel)
 refine⟨kp1,[(Sum.inr (ofString "="),V.ref a0),(Sum.inr (ofString ":="),V.ref a1),(Sum.inr (ofString "<"),V.ref a2),(Sum.inr (ofString "<="),V.ref a3),(Sum.inr (ofString "+"),V.ref a4)],rfl,by simp,?_⟩
 rw[e1]
 have t1:TR K Ha4 [(Sum.inr (ofString "="),V.ref a0),(Sum.inr (ofString ":="),V.ref a1),(Sum.inr (ofString "<"),V.ref a2),(Sum.inr (ofString "<="),V.ref a3),(Sum.inr (ofString "+"),V.ref a4)] [(ofString "=",(15,ofString "none")),(ofString ":=",(15,ofString "none")),(ofString "<",(15,ofString "none")),(ofString "<=",(15,ofString "none")),(ofString "+",(10,ofString "left"))]:=(.cons (SqT.of ((sa1.trans (sa2.trans (sa3.trans sa4))) _ _ ka0)) (.cons (SqT.of ((sa2.trans (sa3.trans sa4)) _ _ ka1)) (.cons (SqT.of ((sa3.trans sa4) _ _ ka2)) (.cons (SqT.of (sa4 _ _ ka3)) (.cons (SqT.of ((Same.refl _) _ _ ka4)) .nil)))))
 have t1:=t1.monoT (b6s (o:=.dK [(Sum.inr (ofString "="),V.ref a0),(Sum.inr (ofString ":="),V.ref a1),(Sum.inr (ofString "<"),V.ref a2),(Sum.inr (ofString "<="),V.ref a3),(Sum.inr (ofString "+"),V.ref a4)]) kp1)
 have kpA:(upd Ha4 p (.dK [(Sum.inr (ofString "="),V.ref a0),(Sum.inr (ofString ":="),V.ref a1),(Sum.inr (ofString "<"),V.ref a2),(Sum.inr (ofString "<="),V.ref a3),(Sum.inr (ofString "+"),V.ref a4)])) p=some (.dK [(Sum.inr (ofString "="),V.ref a0),(Sum.inr (ofString ":="),V.ref a1),(Sum.inr (ofString "<"),V.ref a2),(Sum.inr (ofString "<="),V.ref a3),(Sum.inr (ofString "+"),V.ref a4)]):=a0c
 have spA:Same H (upd Ha4 p (.dK [(Sum.inr (ofString "="),V.ref a0),(Sum.inr (ofString ":="),V.ref a1),(Sum.inr (ofString "<"),V.ref a2),(Sum.inr (ofString "<="),V.ref a3),(Sum.inr (ofString "+"),V.ref a4)])):=a1n (sp.trans (sa0.trans (sa1.trans (sa2.trans (sa3.trans sa4))))) hp
 generalize upd Ha4 p (.dK [(Sum.inr (ofString "="),V.ref a0),(Sum.inr (ofString ":="),V.ref a1),(Sum.inr (ofString "<"),V.ref a2),(Sum.inr (ofString "<="),V.ref a3),(Sum.inr (ofString "+"),V.ref a4)])=HA at t1 kpA spA ⊢
 walk_at "s"
 refine⟨.inr (.inr (.inl ⟨rfl,.inl ⟨_,kpA⟩⟩)),?_⟩
 walk_at "s"
 refine fun p2 hp2=>?_
 have sp2:Same HA (upd HA p2 (.dK [])):=a0f hp2 _
 have kp2:(upd HA p2 (.dK [])) p2=some (.dK []):=a0c
 have hne:p≠p2:=a1c kpA hp2
 generalize upd HA p2 (.dK [])=Hp1 at sp2 kp2 ⊢
 walk_at "s"
 refine⟨ln (by show 2<=100000;decide),fun b0 hb0=>?_⟩
 have sb0:Same Hp1 (upd Hp1 b0 (.tup [.int 10,.str (ofString "left")])):=a0f hb0 _
 have kb0:(upd Hp1 b0 (.tup [.int 10,.str (ofString "left")])) b0=some (.tup [.int 10,.str (ofString "left")]):=a0c
 generalize upd Hp1 b0 (.tup [.int 10,.str (ofString "left")])=Hb0 at sb0 kb0 ⊢
 walk_at "s"
 refine⟨ln (by show 2<=100000;decide),fun b1 hb1=>?_⟩
 have sb1:Same Hb0 (upd Hb0 b1 (.tup [.int 8,.str (ofString "left")])):=a0f hb1 _
 have kb1:(upd Hb0 b1 (.tup [.int 8,.str (ofString "left")])) b1=some (.tup [.int 8,.str (ofString "left")]):=a0c
 generalize upd Hb0 b1 (.tup [.int 8,.str (ofString "left")])=Hb1 at sb1 kb1 ⊢
 walk_at "s"
 refine⟨ln (by show 2<=100000;decide),fun b2 hb2=>?_⟩
 have sb2:Same Hb1 (upd Hb1 b2 (.tup [.int 8,.str (ofString "left")])):=a0f hb2 _
 have kb2:(upd Hb1 b2 (.tup [.int 8,.str (ofString "left")])) b2=some (.tup [.int 8,.str (ofString "left")]):=a0c
 generalize upd Hb1 b2 (.tup [.int 8,.str (ofString "left")])=Hb2 at sb2 kb2 ⊢
 walk_at "s"
 refine⟨ln (by show 2<=100000;decide),fun b3 hb3=>?_⟩
 have sb3:Same Hb2 (upd Hb2 b3 (.tup [.int 8,.str (ofString "left")])):=a0f hb3 _
 have kb3:(upd Hb2 b3 (.tup [.int 8,.str (ofString "left")])) b3=some (.tup [.int 8,.str (ofString "left")]):=a0c
 generalize upd Hb2 b3 (.tup [.int 8,.str (ofString "left")])=Hb3 at sb3 kb3 ⊢
 walk_at "s"
 have kp3:=(sb0.trans (sb1.trans (sb2.trans sb3))) _ _ kp2
 have kpB:=(sp2.trans (sb0.trans (sb1.trans (sb2.trans sb3)))) _ _ kpA
 have hp2H:H p2=none:=spA.free hp2
 have e2:a4j [] [(Sum.inr (ofString "-"),V.ref b0),(Sum.inr (ofString "*"),V.ref b1),(Sum.inr (ofString "/"),V.ref b2),(Sum.inr (ofString "/:"),V.ref b3)]=[(Sum.inr (ofString "-"),V.ref b0),(Sum.inr (ofString "*"),V.ref b1),(Sum.inr (ofString "/"),V.ref b2),(Sum.inr (ofString "/:"),V.ref b3)]:=a8q _ _ (by simp only[Zn,Y6,Zp,Y3];decide+kernel)
 refine⟨kp3,[(Sum.inr (ofString "-"),V.ref b0),(Sum.inr (ofString "*"),V.ref b1),(Sum.inr (ofString "/"),V.ref b2),(Sum.inr (ofString "/:"),V.ref b3)],rfl,by simp,?_⟩
 rw[e2]
 walk_at "s"
 have kpC:(upd Hb3 p2 (.dK [(Sum.inr (ofString "-"),V.ref b0),(Sum.inr (ofString "*"),V.ref b1),(Sum.inr (ofString "/"),V.ref b2),(Sum.inr (ofString "/:"),V.ref b3)])) p=some (.dK [(Sum.inr (ofString "="),V.ref a0),(Sum.inr (ofString ":="),V.ref a1),(Sum.inr (ofString "<"),V.ref a2),(Sum.inr (ofString "<="),V.ref a3),(Sum.inr (ofString "+"),V.ref a4)]):=by rw[a0j hne];exact kpB
 refine mUpd_i hne kpC a0c (ln (by simp)) ?_
 have e3:a4j [(Sum.inr (ofString "="),V.ref a0),(Sum.inr (ofString ":="),V.ref a1),(Sum.inr (ofString "<"),V.ref a2),(Sum.inr (ofString "<="),V.ref a3),(Sum.inr (ofString "+"),V.ref a4)] [(Sum.inr (ofString "-"),V.ref b0),(Sum.inr (ofString "*"),V.ref b1),(Sum.inr (ofString "/"),V.ref b2),(Sum.inr (ofString "/:"),V.ref b3)]=[(Sum.inr (ofString "="),V.ref a0),(Sum.inr (ofString ":="),V.ref a1),(Sum.inr (ofString "<"),V.ref a2),(Sum.inr (ofString "<="),V.ref a3),(Sum.inr (ofString "+"),V.ref a4)]++[(Sum.inr (ofString "-"),V.ref b0),(Sum.inr (ofString "*"),V.ref b1),(Sum.inr (ofString "/"),V.ref b2),(Sum.inr (ofString "/:"),V.ref b3)]:=a8q _ _ (by simp only[Zn,Y6,Zp,Y3];decide+kernel)
 rw[e3]
 have t2:TR K Hb3 ([(Sum.inr (ofString "="),V.ref a0),(Sum.inr (ofString ":="),V.ref a1),(Sum.inr (ofString "<"),V.ref a2),(Sum.inr (ofString "<="),V.ref a3),(Sum.inr (ofString "+"),V.ref a4)]++[(Sum.inr (ofString "-"),V.ref b0),(Sum.inr (ofString "*"),V.ref b1),(Sum.inr (ofString "/"),V.ref b2),(Sum.inr (ofString "/:"),V.ref b3)]) ([(ofString "=",(15,ofString "none")),(ofString ":=",(15,ofString "none")),(ofString "<",(15,ofString "none")),(ofString "<=",(15,ofString "none")),(ofString "+",(10,ofString "left"))]++[(ofString "-",(10,ofString "left")),(ofString "*",(8,ofString "left")),(ofString "/",(8,ofString "left")),(ofString "/:",(8,ofString "left"))]):=(t1.monoT (fun _ _ q=>(sp2.trans (sb0.trans (sb1.trans (sb2.trans sb3)))).tup q)).app (.cons (SqT.of ((sb1.trans (sb2.trans sb3)) _ _ kb0)) (.cons (SqT.of ((sb2.trans sb3) _ _ kb1)) (.cons (SqT.of (sb3 _ _ kb2)) (.cons (SqT.of ((Same.refl _) _ _ kb3)) .nil))))
 have t3:=(t2.monoT (b6s (o:=.dK [(Sum.inr (ofString "-"),V.ref b0),(Sum.inr (ofString "*"),V.ref b1),(Sum.inr (ofString "/"),V.ref b2),(Sum.inr (ofString "/:"),V.ref b3)]) kp3)).monoT (b6s (o:=.dK ([(Sum.inr (ofString "="),V.ref a0),(Sum.inr (ofString ":="),V.ref a1),(Sum.inr (ofString "<"),V.ref a2),(Sum.inr (ofString "<="),V.ref a3),(Sum.inr (ofString "+"),V.ref a4)]++[(Sum.inr (ofString "-"),V.ref b0),(Sum.inr (ofString "*"),V.ref b1),(Sum.inr (ofString "/"),V.ref b2),(Sum.inr (ofString "/:"),V.ref b3)])) kpC)
 have sB:Same H (upd (upd Hb3 p2 (.dK [(Sum.inr (ofString "-"),V.ref b0),(Sum.inr (ofString "*"),V.ref b1),(Sum.inr (ofString "/"),V.ref b2),(Sum.inr (ofString "/:"),V.ref b3)])) p (.dK ([(Sum.inr (ofString "="),V.ref a0),(Sum.inr (ofString ":="),V.ref a1),(Sum.inr (ofString "<"),V.ref a2),(Sum.inr (ofString "<="),V.ref a3),(Sum.inr (ofString "+"),V.ref a4)]++[(Sum.inr (ofString "-"),V.ref b0),(Sum.inr (ofString "*"),V.ref b1),(Sum.inr (ofString "/"),V.ref b2),(Sum.inr (ofString "/:"),V.ref b3)]))):=a1n (a1n (spA.trans (sp2.trans (sb0.trans (sb1.trans (sb2.trans sb3))))) hp2H) hp
 have kpD:(upd (upd Hb3 p2 (.dK [(Sum.inr (ofString "-"),V.ref b0),(Sum.inr (ofString "*"),V.ref b1),(Sum.inr (ofString "/"),V.ref b2),(Sum.inr (ofString "/:"),V.ref b3)])) p (.dK ([(Sum.inr (ofString "="),V.ref a0),(Sum.inr (ofString ":="),V.ref a1),(Sum.inr (ofString "<"),V.ref a2),(Sum.inr (ofString "<="),V.ref a3),(Sum.inr (ofString "+"),V.ref a4)]++[(Sum.inr (ofString "-"),V.ref b0),(Sum.inr (ofString "*"),V.ref b1),(Sum.inr (ofString "/"),V.ref b2),(Sum.inr (ofString "/:"),V.ref b3)]))) p=some (.dK ([(Sum.inr (ofString "="),V.ref a0),(Sum.inr (ofString ":="),V.ref a1),(Sum.inr (ofString "<"),V.ref a2),(Sum.inr (ofString "<="),V.ref a3),(Sum.inr (ofString "+"),V.ref a4)]++[(Sum.inr (ofString "-"),V.ref b0),(Sum.inr (ofString "*"),V.ref b1),(Sum.inr (ofString "/"),V.ref b2),(Sum.inr (ofString "/:"),V.ref b3)])):=a0c
 generalize upd (upd Hb3 p2 (.dK [(Sum.inr (ofString "-"),V.ref b0),(Sum.inr (ofString "*"),V.ref b1),(Sum.inr (ofString "/"),V.ref b2),(Sum.inr (ofString "/:"),V.ref b3)])) p (.dK ([(Sum.inr (ofString "="),V.ref a0),(Sum.inr (ofString ":="),V.ref a1),(Sum.inr (ofString "<"),V.ref a2),(Sum.inr (ofString "<="),V.ref a3),(Sum.inr (ofString "+"),V.ref a4)]++[(Sum.inr (ofString "-"),V.ref b0),(Sum.inr (ofString "*"),V.ref b1),(Sum.inr (ofString "/"),V.ref b2),(Sum.inr (ofString "/:"),V.ref b3)]))=HB at t3 sB kpD ⊢
 clear t2
 generalize [(Sum.inr (ofString "="),V.ref a0),(Sum.inr (ofString ":="),V.ref a1),(Sum.inr (ofString "<"),V.ref a2),(Sum.inr (ofString "<="),V.ref a3),(Sum.inr (ofString "+"),V.ref a4)]++[(Sum.inr (ofString "-"),V.ref b0),(Sum.inr (ofString "*"),V.ref b1),(Sum.inr (ofString "/"),V.ref b2),(Sum.inr (ofString "/:"),V.ref b3)]=kv2 at t3 kpD
 walk_at "s"
 refine fun d hd=>?_
 walk_at "s"
 have hdH:H d=none:=sB.free hd
 have hpd:p≠d:=a1c kpD hd
 have e4:a4j [] [(Sum.inl 15,V.str (ofString "none")),(Sum.inl 10,V.str (ofString "left")),(Sum.inl 8,V.str (ofString "left"))]=[(Sum.inl 15,V.str (ofString "none")),(Sum.inl 10,V.str (ofString "left")),(Sum.inl 8,V.str (ofString "left"))]:=a8q _ _ (by simp only[Zn,Y6,Zp,Y3];decide+kernel)
 refine⟨a0c,[(Sum.inl 15,V.str (ofString "none")),(Sum.inl 10,V.str (ofString "left")),(Sum.inl 8,V.str (ofString "left"))],rfl,by simp,?_⟩
 rw[e4]
 walk_at "s"
 have sC:Same HB (upd (upd HB d (.dK [])) d (.dK [(Sum.inl 15,V.str (ofString "none")),(Sum.inl 10,V.str (ofString "left")),(Sum.inl 8,V.str (ofString "left"))])):=a1n (a0f hd _) hd
 have kd:(upd (upd HB d (.dK [])) d (.dK [(Sum.inl 15,V.str (ofString "none")),(Sum.inl 10,V.str (ofString "left")),(Sum.inl 8,V.str (ofString "left"))])) d=some (.dK [(Sum.inl 15,V.str (ofString "none")),(Sum.inl 10,V.str (ofString "left")),(Sum.inl 8,V.str (ofString "left"))]):=a0c
 have t4:TPs K HB kv2 ([(ofString "=",(15,ofString "none")),(ofString ":=",(15,ofString "none")),(ofString "<",(15,ofString "none")),(ofString "<=",(15,ofString "none")),(ofString "+",(10,ofString "left"))]++[(ofString "-",(10,ofString "left")),(ofString "*",(8,ofString "left")),(ofString "/",(8,ofString "left")),(ofString "/:",(8,ofString "left"))]) [(Sum.inl 15,V.str (ofString "none")),(Sum.inl 10,V.str (ofString "left")),(Sum.inl 8,V.str (ofString "left"))]:=by
  refine⟨t3,mk_lits (by decide+kernel),by decide+kernel,fun p hp=>?_,fun r v hv=>?_⟩
  ·simp only[Zn,Y6,Zk,Zz,Xl]at hp
   rcases hp with rfl|rfl|rfl|rfl|rfl|rfl|rfl|rfl|rfl<;>exact⟨by decide,rfl⟩
  ·rw[<-e4]at hv
   unfold a4j at hv
   simp only[Vv,List.foldl_nil,b4e]at hv
   split at hv
   ·exact⟨_,(Zo hv).symm,.inl rfl⟩
   split at hv
   ·exact⟨_,(Zo hv).symm,.inl rfl⟩
   split at hv
   ·exact⟨_,(Zo hv).symm,.inr (.inr rfl)⟩
   ·cases hv
 have lt0:([(ofString "=",(15,ofString "none")),(ofString ":=",(15,ofString "none")),(ofString "<",(15,ofString "none")),(ofString "<=",(15,ofString "none")),(ofString "+",(10,ofString "left"))]++[(ofString "-",(10,ofString "left")),(ofString "*",(8,ofString "left")),(ofString "/",(8,ofString "left")),(ofString "/:",(8,ofString "left"))]:Tb).length=9:=rfl
 have ls0:([(Sum.inl 15,V.str (ofString "none")),(Sum.inl 10,V.str (ofString "left")),(Sum.inl 8,V.str (ofString "left"))]:List (Key×V)).length=3:=rfl
 generalize ([(ofString "=",(15,ofString "none")),(ofString ":=",(15,ofString "none")),(ofString "<",(15,ofString "none")),(ofString "<=",(15,ofString "none")),(ofString "+",(10,ofString "left"))]++[(ofString "-",(10,ofString "left")),(ofString "*",(8,ofString "left")),(ofString "/",(8,ofString "left")),(ofString "/:",(8,ofString "left"))]:Tb)=tb0 at t4 lt0
 generalize ([(Sum.inl 15,V.str (ofString "none")),(Sum.inl 10,V.str (ofString "left")),(Sum.inl 8,V.str (ofString "left"))]:List (Key×V))=sk0 at sC kd t4 ls0 ⊢
 generalize upd (upd HB d (.dK [])) d (.dK sk0)=HC at sC kd ⊢
 refine⟨hm0,by omega,fun ps ns H1 hns s1 _ hps=>⟨ps,rfl,⟨_,SqL.of hps⟩,?_⟩⟩
 have hps0:∀x,H1 x=some (.lst (ns.map V.int))->x≠p/\x≠d:=fun x hx=>⟨fun e=>(by rw[e,s1 _ _ (sC _ _ kpD)]at hx;cases hx),fun e=>(by rw[e,s1 _ _ kd]at hx;cases hx)⟩
 obtain⟨hpp,hpsd⟩:=hps0 ps hps
 refine a6z (b7y (xs:=ns.map V.int)) (fun i σ' H'=>∃(kv sk:List (Key×V))(tb:Tb)(o4 o5 o6 o7:Option V),σ'=[some (.int c),some (.int m),some (.ref p),some (.ref d),o4,o5,o6,o7]/\H' p=some (.dK kv)/\H' d=some (.dK sk)/\H' ps=some (.lst (ns.map V.int))/\TPs K H' kv tb sk/\1<=tb.length/\tb.length<=9+i/\sk.length<=3+i/\Same H H') ⟨kv2,sk0,tb0,none,none,none,none,rfl,s1 _ _ (sC _ _ kpD),s1 _ _ kd,hps,(t4.mono sC).mono s1,by omega,by omega,by omega,sB.trans (sC.trans s1)⟩ (fun i σ' H' hP=>by obtain⟨_,_,_,_,_,_,_,_,_,_,g,_⟩:=hP;exact SqL.of g) (fun i σ' H' hi hP=>?_) (fun σ' H' hP=>?_)
 ·obtain⟨kv,sk,tb,o4,o5,o6,o7,rfl,g1,g2,g3,g4,g5,g6,g7,g9⟩:=hP
  have gl:=g4.tr.len
  obtain⟨n,hn⟩:=c4h hi
  rw[hn]
  rw[length_map]at hi
  walk_at "s"
  refine fun z z1 z2 z3 z4=>?_
  walk_at "s"
  refine⟨d,rfl,.inl ⟨sk,.inl g2⟩,?_⟩
  walk_at "s"
  refine⟨ln (by show 3<=100000;decide),fun pl hpl=>?_⟩
  walk_at "s"
  have hs3:∃s:Str,atI [V.str (ofString "left"),V.str (ofString "right"),V.str (ofString "none")] (n/245760%3)=some (.str s)/\(s=a2w\/s=a2m\/s=a1f):=by
   have:n/245760%3=0\/n/245760%3=1\/n/245760%3=2:=by omega
   rcases this with e|e|e<;>rw[e]
   ·exact⟨_,rfl,.inl rfl⟩
   ·exact⟨_,rfl,.inr (.inl rfl)⟩
   ·exact⟨_,rfl,.inr (.inr rfl)⟩
  obtain⟨sd,hsd,hsdo⟩:=hs3
  refine a2e (SqL.of a0c) hsd ?_
  have sL:Same H' (upd H' pl (.lst [V.str (ofString "left"),V.str (ofString "right"),V.str (ofString "none")])):=a0f hpl _
  generalize upd H' pl (.lst [V.str (ofString "left"),V.str (ofString "right"),V.str (ofString "none")])=HL at sL ⊢
  have g1:=sL _ _ g1
  have g2:=sL _ _ g2
  have g3:=sL _ _ g3
  have g4:=g4.mono sL
  have g9:=g9.trans sL
  refine⟨valV sk (.inl (1+n/12288%20)),DGet.k (k:=Sum.inl (1+n/12288%20)) g2,?_⟩
  obtain⟨s,hs,hso⟩:∃s,(valV sk (.inl (1+n/12288%20))).getD (.str sd)=.str s/\(s=a2w\/s=a2m\/s=a1f):=by
   cases e:valV sk (.inl (1+n/12288%20))with
   |none=>exact⟨sd,rfl,hsdo⟩
   |some v=>obtain⟨s,rfl,h⟩:=g4.sd _ _ e;exact⟨s,rfl,h⟩
  rw[hs]
  walk_at "s"
  refine⟨p,_,rfl,DGet.k (k:=Sum.inr ⟨z.toArray⟩) g1,?_⟩
  walk_at "s"
  refine iteB (fun e=>?_) (fun e=>?_)
  ·walk_at "s"
   refine⟨ln (by show 2<=100000;decide),fun pt hpt=>?_⟩
   walk_at "s"
   have sT:Same HL (upd HL pt (.tup [.int (1+n/12288%20),.str s])):=a0f hpt _
   have kT:(upd HL pt (.tup [.int (1+n/12288%20),.str s])) pt=some (.tup [.int (1+n/12288%20),.str s]):=a0c
   generalize upd HL pt (.tup [.int (1+n/12288%20),.str s])=HT at sT kT ⊢
   have g1:=sT _ _ g1
   have g2:=sT _ _ g2
   have g3:=sT _ _ g3
   have g4:=g4.mono sT
   have g9:=g9.trans sT
   refine⟨p,_,rfl,DPut.k (k:=Sum.inr ⟨z.toArray⟩) g1 (ln1 (by omega)),?_⟩
   walk_at "s"
   have g2':(upd HT p (.dK (putK kv (.inr ⟨z.toArray⟩) (.ref pt)))) d=some (.dK sk):=by rw[a0j hpd.symm];exact g2
   refine⟨d,_,rfl,DPut.k (k:=Sum.inl (1+n/12288%20)) g2' (ln1 (by omega)),?_⟩
   walk_at "s"
   have b2:=a9h sk (.inl (1+n/12288%20)) (.str s)
   have hno:valV kv (.inr ⟨z.toArray⟩)=none:=by
    cases ev:valV kv (.inr ⟨z.toArray⟩)with
    |none=>rfl
    |some v=>rw[ev]at e;simp at e
   refine⟨putK kv (.inr ⟨z.toArray⟩) (.ref pt),putK sk (.inl (1+n/12288%20)) (.str s),_,_,_,_,_,rfl,by rw[a0j hpd];exact a0c,a0c,by rw[a0j hpsd,a0j hpp];exact g3,((g4.add hno (SqT.of kT) ⟨z,rfl,z1,z2,z3,z4⟩ (by omega) hso hs).monoT (b6s g1)).monoT (b6s g2'),by rw[Za];omega,by rw[Za,Yz];omega,by omega,a1n (a1n g9 hp) hdH⟩
  ·walk_at "s"
   exact⟨kv,sk,tb,_,_,_,_,rfl,g1,g2,g3,g4,g5,by omega,by omega,g9⟩
 ·obtain⟨kv,sk,tb,o4,o5,o6,o7,rfl,g1,g2,g3,g4,g5,g6,g7,g9⟩:=hP
  rw[length_map]at g6
  walk_at "s"
  exact q p kv tb H' g9 g1 g4.tr (g4.ok (by omega)) g4.mks g4.nd g5
end
theorem d5y(ls:List (List Nat)):Txt.join Str.empty (ls.map fun l=>(⟨l.toArray⟩:Str))=⟨ls.flatten.toArray⟩:=by
 unfold Txt.join Builtin.Str.glued
 cases ls with
 |nil=>rfl
 |cons a r=>
  have h:∀(r:List (List Nat))(acc:List Nat),(r.map fun l=>(⟨l.toArray⟩:Str)).foldl (fun acc p=>acc++Str.empty.cps++p.cps) acc.toArray=(acc++r.flatten).toArray:=by
   intro r
   induction r with
   |nil=>intro acc;simp
   |cons b r ih=>
    intro acc
    rw[Zp,Vv]
    have e:acc.toArray++Str.empty.cps++b.toArray=(acc++b).toArray:=by
     show acc.toArray++ #[]++b.toArray=_
     simp
    rw[e,ih,X9,Zx]
  have:=h r a
  simp only[Zp,X9]
  exact Z9 Str.mk this
theorem c9m{K:W.Frag}{H:Hp}{Q:VK}{a:Addr}{xs:List V}(c:SqT K H a xs)(k:Q (.bl false) H):mIs K [.ref a,.ty "str"] H Q:=⟨_,_,_,false,rfl,.inr (.inl ⟨rfl,xs,c⟩),fun _=>kit_ty (by decide+kernel),k⟩
theorem d8:decide (appS=anyS)=false:=by decide+kernel
theorem d9:decide (anyS=anyS)=true:=by decide+kernel
section
variable{P:Program}{w:World}{K:W.Frag}{mg:Str->Option Value}{base:Heap}{t:Ad}
theorem c9n(T:Txt K mg t)  :FnOk P w K mg base CX0 1 t.a_b3 t.d_b3 ["term"] (a8p K):=by
 refine T.F_b3.ok c8s (fun vs H Q E h=>?_) (fun cdv A outer s H vs Q E hr h=>?_)
 ·unfold a8p at h
  split at h
  ·rfl
  ·exact h.elim
 unfold a8p at h
 split at h
 rotate_left
 ·exact h.elim
 refine⟨_,(a0g (a0m (c4b (a3s a1e (a0r (a0k K rfl) (mv 0) a0d (fun _ _=>rfl)) a0i (a0t _)) (c4b (a3s a1e (a0r (a0k K rfl) (mv 0) a0d (fun _ _=>rfl)) (a2p rfl T.m_h7) (a0t _)) (b8z (a3s a1e (a0z (a2d K rfl) rfl T.n_c4 Z0 (a0a (a0r (a0k K rfl) (mv 0) a0d (fun _ _=>rfl)) a0b)) a0d (a0t _))))))),?_⟩
 rename_i v
 obtain⟨t0,hd,q⟩:=h
 walk_at "s"
 cases t0 with
 |num n=>
  obtain⟨a,rfl,hs⟩:=a5x hd
  refine a0w hs (v:=.str numS) rfl ?_
  walk_at "s"
  refine b3u d1 ?_
  exact q
 |any n=>
  obtain⟨a,rfl,hs⟩:=a5y hd
  refine a0w hs (v:=.str anyS) rfl ?_
  walk_at "s"
  refine b3u d2 ?_
  exact q
 |app sg ks=>
  obtain⟨a,b,us,rfl,hs,hb,hk⟩:=a4g hd
  refine a0w hs (v:=.str appS) rfl ?_
  walk_at "s"
  refine c0z d3 ?_
  walk_at "s"
  refine a0w hs (v:=.str sg) rfl ?_
  walk_at "s"
  rw[c9d]at q
  refine iteB (fun e=>?_) (fun e=>?_)
  ·walk_at "s"
   refine a0w hs (v:=.ref b) rfl ?_
   walk_at "s"
   refine mLen_t hb ?_
   walk_at "s"
   rw[show decide (sg=pairS)=true from a4c e,Wx,<-a5r hk]at q
   have e2:decide ((us.length:Int)=2)=decide (us.length=2):=by
    rw[Xe];simp only[Wn];omega
   rw[Zm,e2]
   exact q
  ·rw[show decide (sg=pairS)=false from a4c e,V3]at q
   exact q
theorem c6v(T:Txt K mg t)(G_b3:FnOk P w K mg base CX0 1 t.a_b3 t.d_b3 ["term"] (a8p K)):FnOk P w K mg base CX0 2 t.a_e9 t.d_e9 ["term"] (a9s K):=by
 refine T.F_e9.ok a9m (fun vs H Q E h=>?_) (fun cdv A outer s H vs Q E hr h=>?_)
 ·unfold a9s at h
  split at h
  ·rfl
  ·exact h.elim
 unfold a9s at h
 split at h
 rotate_left
 ·exact h.elim
 refine⟨_,(a0e (a0q (i:=1) (hs:=a8i) a9m.nd rfl (by walk_at "or1") (a1j a0b)) (a0e (a0q (i:=2) a9m.nd rfl (by walk_at "or1") (mv 0)) (a0e (a3x Yh (a1w K rfl (a0l G_b3 (hr.mono (by walk_at "r")) rfl T.m_b3 T.F_b3.kp T.b_b3 .nil a0p (a0a (mv 2) a0b))) (a0e (a1a (a3t K rfl Zu Z6 Z8 a2j (mv 1) (a0a (a0r (a0k K rfl) (a0r (a0k K rfl) (mv 2) a0d (fun _ _=>rfl)) a0d (fun _ _=>rfl)) a0b))) (a0g (a0q (i:=2) (hs:=a7o) a9m.nd rfl (by walk_at "or1") (a0r (a0k K rfl) (a0r (a0k K rfl) (mv 2) a0d (fun _ _=>rfl)) a0d (fun _ _=>rfl)))))) (a0g (a0m (a1g (a0a (mv 1) (a0a (mv 2) a0b)))))))),?_⟩
 rename_i v
 obtain⟨ts,rt,hp,hd,hz,q⟩:=h
 walk_at "s"
 refine⟨Z3 _,fun p hp0=>?_⟩
 walk_at "s"
 refine a3c (fun n σ' H'=>∃(us:List V)(dn lf:List Trm)(y:V),ts=dn++lf/\σ'=[some v,some (.ref p),some y]/\H' p=some (.lst us)/\DenL K H' us (Trm.dataL dn)/\Den K H' y (mkL lf rt).data/\n=lf.length/\Same H H') ts.length ⟨[],[],ts,v,rfl,rfl,a0c,.nil,hd.mono (a0f hp0 _),rfl,a0f hp0 _⟩ (fun n σ' H' R hP kT kF=>?_)
 obtain⟨us,dn,lf,y,h0,rfl,h1,h2,h3,h4,h5⟩:=hP
 walk_at "s"
 refine⟨_,h3,?_⟩
 walk_at "s"
 cases lf with
 |nil=>
  rw[Yo]at h0
  subst h0
  rw[show(mkL [] rt).isPair=false from hp]
  refine kF H' ?_
  walk_at "s"
  exact⟨ln (by show 2<=100000;decide),fun r hr=>q r p us y _ (h5.trans (a0f hr _)) hp0 a0c (a0f hr _ _ _ h1) (h2.mono (a0f hr _)) (h3.mono (a0f hr _))⟩
 |cons a l=>
  rw[show(mkL (a::l) rt).isPair=true from by simp[mkL,Trm.isPair]]
  refine kT H' (fun D' e1 e2 hnx hct=>?_)
  rw[mkL]at h3
  obtain⟨b0,b,us2,rfl,hs,hb,hk⟩:=a4g h3
  obtain⟨z1,z2,rfl,g1,g2⟩:=c7w hk
  have hl:=a5r h2
  have hll:dn.length<=1000:=by rw[h0,Za]at hz;omega
  walk_at "s"
  refine⟨.inl ⟨rfl,_,SqL.of h1⟩,?_⟩
  walk_at "s"
  refine a0w hs (v:=.ref b) rfl ?_
  walk_at "s"
  refine a0w hb (v:=z1) rfl ?_
  walk_at "s"
  refine a1u h1 (ln1 (by omega)) ?_
  walk_at "s"
  refine a0w (a8t h1 _ _ hs) (v:=.ref b) rfl ?_
  walk_at "s"
  refine a0w (a8t h1 _ _ hb) (v:=z2) rfl ?_
  walk_at "s"
  refine hnx _ _ l.length (by rw[h4,length_cons];omega) ⟨us++[z1],dn++[a],l,z2,by rw[h0,Zx];rfl,rfl,a0c,?_,g2.lst h1,rfl,a1n h5 hp0⟩
  rw[Trm.dataL_map,Zq,<-Trm.dataL_map]
  exact(h2.append (.cons g1 .nil)).lst h1
theorem c9o(T:Txt K mg t)  :FnOk P w K mg base CX0 1 t.a_f5 t.d_f5 ["term","signs"] (b0w K):=by
 refine T.F_f5.ok c8v (fun vs H Q E h=>?_) (fun cdv A outer s H vs Q E hr h=>?_)
 ·unfold b0w at h
  split at h
  ·rfl
  ·exact h.elim
 unfold b0w at h
 split at h
 rotate_left
 ·exact h.elim
 refine⟨_,(a0e (a0v (PW.pt (a5d (a0s a1e (a0r (a0k K rfl) (mv 0) a0d (fun _ _=>rfl)) a0i (a0t _)) (a4f (a0s (d1f (a7r hr)) (a0r (a0k K rfl) (mv 0) a0d (fun _ _=>rfl)) (mv 1) (by with_unfolding_all rfl))))) (a0g (a0m (a0r (a0k K rfl) (b3q (a7r hr) (mv 1) (a0r (a0k K rfl) (mv 0) a0d (fun _ _=>rfl)) (fun _ _=>rfl)) a0d (fun _ _=>rfl)))) a0u) (a0g (a0m a0d))),?_⟩
 rename_i v d
 obtain⟨t0,tb,hd,hw,hT,q⟩:=h
 obtain⟨me,mp⟩:=hT.marks
 walk_at "s"
 cases t0 with
 |num n=>
  obtain⟨a,rfl,hs⟩:=a5x hd
  refine a0w hs (v:=.str numS) rfl ?_
  walk_at "s"
  refine b3u d1 ?_
  walk_at "C"
  exact q
 |any n=>
  obtain⟨a,rfl,hs⟩:=a5y hd
  refine a0w hs (v:=.str anyS) rfl ?_
  walk_at "s"
  refine b3u d2 ?_
  walk_at "C"
  exact q
 |app sg ks=>
  obtain⟨a,b,us,rfl,hs,hb,hk⟩:=a4g hd
  refine a0w hs (v:=.str appS) rfl ?_
  walk_at "s"
  refine c0z d3 ?_
  walk_at "s"
  refine a0w hs (v:=.str sg) rfl ?_
  rcases hT.get sg with⟨e,g⟩|⟨ta,r,s,e,hta,g⟩
  ·refine⟨d,none,rfl,g,?_⟩
   walk_at "A"
   rw[c1h me mp hw,e]at q
   exact q
  ·refine⟨d,some (.ref ta),rfl,g,?_⟩
   walk_at "B"
   refine a0w hs (v:=.str sg) rfl ?_
   refine⟨d,.ref ta,rfl,g,?_⟩
   walk_at "s"
   refine a0w hta (v:=.int r) rfl ?_
   rw[c1h me mp hw,e]at q
   exact q
theorem c0g(T:Txt K mg t)  :FnOk P w K mg base CX0 1 t.a_e2 t.d_e2 ["n"] (a6f):=by
 refine T.F_e2.ok b9p (fun vs H Q E h=>?_) (fun cdv A outer s H vs Q E hr h=>?_)
 ·unfold a6f at h
  split at h
  ·rfl
  ·exact h.elim
 unfold a6f at h
 split at h
 rotate_left
 ·exact h.elim
 refine⟨_,(a0g (a0m (b7s (a0s a9i (mv 0) a0d (a0t _)) (a0n (a1h K rfl) a0i (a6h d1b rfl T.n_h9 Tl (a0a (a6b a4v (mv 0)) a0b))) (a6h d1b rfl T.n_h9 Tl (a0a (mv 0) a0b))))),?_⟩
 rename_i n
 obtain⟨h0,h1,q⟩:=h
 walk_at "s"
 refine iteB (fun e=>?_) (fun e=>?_)
 ·have e:=Ze e
  have hf:=b1q (n:=(-n).toNat) (k:=30) (by decide) (by omega)
  walk_at "s"
  refine d1d (by omega) (by omega) ?_
  refine a8h (ln ?_) ?_
  ·rw[str_len]
   show 1+(a1k (-n).toNat).length<=100000
   omega
  ·unfold numT at q
   rw[if_pos e,show n.natAbs=(-n).toNat from by omega]at q
   have e3:=a5f [126] (a1k (-n).toNat)
   rw[<-c126]at e3
   show Q (.str (ofString "~"++_)) H
   rw[e3]
   exact q
 ·have e:=Zl e
  walk_at "s"
  refine d1d (by omega) (by omega) ?_
  unfold numT at q
  rw[if_neg e,show n.natAbs=n.toNat from by omega]at q
  exact q
theorem d3k(T:Txt K mg t)(G_f5:FnOk P w K mg base CX0 1 t.a_f5 t.d_f5 ["term","signs"] (b0w K)):FnOk P w K mg base CX0 2 t.a_c1 t.d_c1 ["kid","told","side","signs"] (b2v K):=by
 refine T.F_c1.ok c2e (fun vs H Q E h=>?_) (fun cdv A outer s H vs Q E hr h=>?_)
 ·unfold b2v at h
  split at h
  ·rfl
  ·exact h.elim
 unfold b2v at h
 split at h
 rotate_left
 ·exact h.elim
 refine⟨_,(a0e (a0q (i:=4) (hs:=a1p) c2e.nd rfl (by walk_at "or1") (a0l G_f5 (hr.mono (by walk_at "r")) rfl T.m_f5 T.F_f5.kp T.b_f5 .nil a0p (a0a (mv 0) (a0a (mv 3) a0b)))) (a0e (a0v (PW.pt (b6v (a0s a9i (mv 4) (a0r (a0k K rfl) (mv 1) a0d (fun _ _=>rfl)) (a0t _)) (b3n (PW.pt (a5d (a0s a1e (mv 4) (a0r (a0k K rfl) (mv 1) a0d (fun _ _=>rfl)) (a0t _)) (a4f (a0s a1e (a0r (a0k K rfl) (mv 1) a0d (fun _ _=>rfl)) (mv 2) (a0t _)))))))) (a0g (a0m (a1j (a0a (mv 0) a0b)))) a0u) (a0g (a0m (a1j (a0a a0i (a0a (mv 0) (a0a a0i a0b)))))))),?_⟩
 rename_i v ta side d
 obtain⟨t0,tb,r,s,hd,hw,hT,hta,q⟩:=h
 have plain:¬(r-1+(if s=side then 1 else 0)<(tx tb t0).2.1)->∀p,H p=none->Q (.ref p) (upd H p (.lst [v])):=fun hc p hp=>by
  refine q p [v] [.inl t0] _ (a0f hp _) hp a0c (.cons (show Den K _ v t0.data from hd.mono (a0f hp _)) .nil) ?_ ?_ (c0b hw) (by simp)
  ·unfold inBr;rw[if_neg hc,c5t]
  ·rw[b6o];omega
 have brk:(r-1+(if s=side then 1 else 0)<(tx tb t0).2.1)->∀p,H p=none->Q (.ref p) (upd H p (.lst [.str (ofString "("),v,.str (ofString ")")])):=fun hc p hp=>by
  refine q p [.str (ofString "("),v,.str (ofString ")")] ([.inr [40]]++[.inl t0]++[.inr [41]]) _ (a0f hp _) hp a0c (((it_s c40).append (it_t (hd.mono (a0f hp _)))).append (it_s c41)) ?_ ?_ (a4i (a4i (a5t (by decide)) (c0b hw)) (a5t (by decide))) (by simp)
  ·unfold inBr;rw[if_pos hc,a3a,a3a,c5t,a5u,a5u];rfl
  ·rw[a2q,a2q,b6o,a5i,a5i];omega
 walk_at "s"
 refine⟨t0,tb,hd,hw,hT,?_⟩
 walk_at "s"
 refine a0w hta (v:=.int r) rfl ?_
 walk_at "s"
 refine iteB (fun e=>?_) (fun e=>?_)
 ·have e:=Ze e
  walk_at "D"
  refine⟨ln (by show 1<=100000;decide),fun p hp=>plain (by split<;>omega) p hp⟩
 ·have e:=Zl e
  walk_at "s"
  refine a0w hta (v:=.int r) rfl ?_
  walk_at "s"
  refine iteB (fun e1=>?_) (fun e1=>?_)
  ·have e1:=Ze (a4c e1)
   walk_at "s"
   refine a0w hta (v:=.str s) rfl ?_
   walk_at "s"
   refine iteB (fun e2=>?_) (fun e2=>?_)
   ·have e2:=Ze (a4c e2)
    walk_at "s"
    refine⟨ln (by show 1<=100000;decide),fun p hp=>plain (by rw[if_pos e2];omega) p hp⟩
   ·have e2:=Zl (a4c e2)
    walk_at "s"
    refine⟨ln (by show 3<=100000;decide),fun p hp=>brk (by rw[if_neg e2];omega) p hp⟩
  ·have e1:=Zl (a4c e1)
   walk_at "C"
   refine⟨ln (by show 3<=100000;decide),fun p hp=>brk (by split<;>omega) p hp⟩
theorem d3l(T:Txt K mg t)  :FnOk P w K mg base CX0 1 t.a_b1 t.d_b1 ["terms"] (b0a K):=by
 refine T.F_b1.ok b6g (fun vs H Q E h=>?_) (fun cdv A outer s H vs Q E hr h=>?_)
 ·unfold b0a at h
  split at h
  ·rfl
  ·exact h.elim
 unfold b0a at h
 split at h
 rotate_left
 ·exact h.elim
 refine⟨_,(a0e (a0q (i:=1) (hs:=a8i) b6g.nd rfl (by walk_at "or1") (a1j a0b)) (a0e (a8g Yh rfl (kpi_seq K rfl (mv 0)) (a6w (i:=2) b6g.nd rfl (by walk_at "or1")) (a0e (a0v (a1w K rfl (mv 1)) (a0g (a1a (a3t K rfl Zu Z6 Z8 a2j (mv 1) (a0a a0i a0b)))) a0u) (a0g (a1a (a3t K rfl Zu Z6 Z8 a2j (mv 1) (a0a (mv 2) a0b)))))) (a0g (a0m (mv 1))))),?_⟩
 rename_i a
 obtain⟨us,ks,hS,hd,hz,q⟩:=h
 have hl:=a5r hd
 walk_at "s"
 refine⟨Z3 _,fun p hp=>?_⟩
 walk_at "s"
 refine⟨a,rfl,d5m hS (a0f hp _) fun J Ok rowJ hok=>?_⟩
 refine a6z rowJ (fun i σ' H'=>∃(o2:Option V)(ws:List V),σ'=[some (.ref a),some (.ref p),o2]/\Same H H'/\H' p=some (.lst ws)/\ItL K H' ws (a1t (ks.take i))) ⟨none,[],rfl,a0f hp _,a0c,.nil⟩ (fun i σ' H' hP=>by obtain⟨_,_,_,s1,_⟩:=hP;exact hok H' s1) (fun i σ' H' hi hP=>?_) (fun σ' H' hP=>?_)
 ·obtain⟨o2,ws,rfl,s1,h1,h2⟩:=hP
  obtain⟨x,tk,hx,ht,hg,hden⟩:=d2c hd hi
  rw[hg]
  have hden:=hden.mono s1
  have hti:ks.take (i+1)=ks.take i++[tk]:=by rw[List.take_add_one,ht];rfl
  have hlen:ws.length<=200:=by
   have g1:=h2.len
   have g2:=b0v (ks.take i)
   rw[Wd]at g2
   omega
  walk_at "s"
  refine .inl ⟨ws,SqL.of h1,?_⟩
  by_cases hi0:ks.take i=[]
  ·rw[hi0]at h2 hti
   cases h2
   walk_at "C"
   refine⟨.inl ⟨rfl,_,SqL.of h1⟩,?_⟩
   walk_at "s"
   refine a1u h1 (ln1 (by decide)) ?_
   refine⟨_,_,rfl,a1n s1 hp,a0c,?_⟩
   rw[hti]
   exact .cons (show Den K _ x tk.data from hden.lst h1) .nil
  ·have hn:=d2r hi0
   rw[<-h2.len]at hn
   cases ws with
   |nil=>exact absurd rfl hn
   |cons w0 ws'=>
    walk_at "D"
    refine⟨.inl ⟨rfl,_,SqL.of h1⟩,?_⟩
    walk_at "s"
    refine a1u h1 (ln1 (by omega)) ?_
    walk_at "s"
    refine⟨.inl ⟨rfl,_,SqL.of a0c⟩,?_⟩
    walk_at "s"
    refine a1u a0c (ln1 (by rw[Za];show _+1<_;omega)) ?_
    refine⟨_,_,rfl,a1n (a1n s1 hp) hp,a0c,?_⟩
    rw[hti,b7r _ _ hi0,Zx]
    exact((h2.lst h1).lst a0c).append ((it_s ccom).append (it_t ((hden.lst h1).lst a0c)))
 ·obtain⟨o2,ws,rfl,s1,h1,h2⟩:=hP
  walk_at "s"
  rw[Vq (by omega)]at h2
  exact q p ws H' s1 hp h1 h2
theorem c1p(T:Txt K mg t)(G_b1:FnOk P w K mg base CX0 1 t.a_b1 t.d_b1 ["terms"] (b0a K)):FnOk P w K mg base CX0 2 t.a_e0 t.d_e0 ["term"] (a7i K):=by
 refine T.F_e0.ok c0s (fun vs H Q E h=>?_) (fun cdv A outer s H vs Q E hr h=>?_)
 ·unfold a7i at h
  split at h
  ·rfl
  ·exact h.elim
 unfold a7i at h
 split at h
 rotate_left
 ·exact h.elim
 refine⟨_,(a0e (a0v (a9t (a1w K rfl (a0r (a0k K rfl) (mv 0) a0d (fun _ _=>rfl)))) (a0g (a0m (a1j (a0a (a0r (a0k K rfl) (mv 0) a0d (fun _ _=>rfl)) a0b)))) a0u) (a0g (a0m (a0n (a1h K rfl) (a0n (a1h K rfl) (a1j (a0a (a0r (a0k K rfl) (mv 0) a0d (fun _ _=>rfl)) (a0a a0i a0b))) (a0l G_b1 (hr.mono (by walk_at "r")) rfl T.m_b1 T.F_b1.kp T.b_b1 .nil a0p (a0a (a0r (a0k K rfl) (mv 0) a0d (fun _ _=>rfl)) a0b))) (a1j (a0a a0i a0b)))))),?_⟩
 rename_i v
 obtain⟨sg,ks,tb,hd,hw,hn,hnp,q⟩:=h
 obtain⟨a,b,us,rfl,hs,hb,hk⟩:=a4g hd
 have hl:=a5r hk
 have hw0:=hw
 obtain⟨⟨w1,w2,w3⟩,w4⟩:=hw0
 have hsl:sg.cps.toList.length<=40:=by
  have e:sg.cps.toList.length=sg.length:=by simp[Str.length]
  omega
 walk_at "s"
 refine a0w hs (v:=.ref b) rfl ?_
 refine .inr (.inl ⟨us,hb,?_⟩)
 cases ks with
 |nil=>
  cases hk
  walk_at "D"
  refine a0w hs (v:=.str sg) rfl ?_
  walk_at "s"
  refine⟨ln (by show 1<=100000;decide),fun p hp=>?_⟩
  refine q p [.str sg] [.inr sg.cps.toList] _ (a0f hp _) hp a0c (.cons (Z9 V.str (b5c sg).symm) .nil) ?_ ?_ (a5t hsl) (by simp)
  ·rw[a5u,b5d hn hnp]
  ·rw[a5i];simp only[Trm.size];omega
 |cons k r=>
  have he:sg≠emptyS:=by
   rcases w3 with⟨_,h⟩|⟨h,_⟩|⟨h,_⟩|⟨h,_⟩
   ·simp at h
   ·exact absurd h hnp
   ·exact h
   ·exact h
  have hc:=b0v (k::r)
  have hm:=b8v (k::r)
  cases us with
  |nil=>simp at hl
  |cons u us'=>
   walk_at "C"
   refine a0w hs (v:=.str sg) rfl ?_
   walk_at "s"
   refine⟨ln (by show 2<=100000;decide),fun p1 hp1=>?_⟩
   walk_at "s"
   refine a0w ((a0f hp1 _).tup hs) (v:=.ref b) rfl ?_
   refine⟨u::us',k::r,.inr ((a0f hp1 _).tup hb),hk.mono (a0f hp1 _),by omega,fun p2 ws H2 s2 hp2 h2 hI=>?_⟩
   have s2':=(a0f hp1 _).trans s2
   have hwl:=hI.len
   refine a6j (s2 _ _ a0c) h2 (ln (by show 2+_<=_;omega)) fun p3 hp3=>?_
   walk_at "s"
   refine⟨ln (by show 1<=100000;decide),fun p4 hp4=>?_⟩
   refine a6j ((a0f hp4 _) _ _ a0c) a0c (ln (by rw[Za];show 2+_+1<=_;omega)) fun p5 hp5=>?_
   have s4:=(s2'.trans (a0f hp3 _)).trans (a0f hp4 (.lst [V.str (ofString ")")]))
   refine q p5 _ ([.inr sg.cps.toList,.inr [40]]++a1t (k::r)++[.inr [41]]) _ (s4.trans (a0f hp5 _)) (s4.free hp5) a0c ?_ ?_ ?_ ?_ ?_
   ·exact(((it_s (b5c sg).symm).append (it_s c40)).append (((hI.mono (a0f hp3 _)).mono (a0f hp4 _)).mono (a0f hp5 _))).append (it_s c41)
   ·rw[a3a,a3a,b5b,b7d hn hnp he,a5u]
    simp[rowT,itT]
   ·rw[a2q,a2q,a5i]
    simp only[Trm.size]
    show 2+_+1<_
    omega
   ·refine a4i (a4i (fun i hi=>?_) (b2u (c5n.mp w4))) (a5t (by decide))
    simp only[Zk,Zz,Xl]at hi
    rcases hi with rfl|rfl
    ·exact hsl
    ·show[40].length<=40;decide
   ·rw[Za,Za]
    show 2+_+1<=_
    omega
theorem c1q(T:Txt K mg t)(G_e9:FnOk P w K mg base CX0 2 t.a_e9 t.d_e9 ["term"] (a9s K))(G_b1:FnOk P w K mg base CX0 1 t.a_b1 t.d_b1 ["terms"] (b0a K)):FnOk P w K mg base CX0 3 t.a_f7 t.d_f7 ["term"] (a7j K):=by
 refine T.F_f7.ok a9a (fun vs H Q E h=>?_) (fun cdv A outer s H vs Q E hr h=>?_)
 ·unfold a7j at h
  split at h
  ·rfl
  ·exact h.elim
 unfold a7j at h
 split at h
 rotate_left
 ·exact h.elim
 refine⟨_,(a0e (a0q (i:=1) (hs:=a1p) a9a.nd rfl (by walk_at "or1") (a0l G_e9 (hr.mono (by walk_at "r")) rfl T.m_e9 T.F_e9.kp T.b_e9 .nil a0p (a0a (mv 0) a0b))) (a0e (a0q (i:=2) (hs:=a3i) a9a.nd rfl (by walk_at "or1") (a0n (a1h K rfl) (a1j (a0a a0i a0b)) (a0l G_b1 (hr.mono (by walk_at "r")) rfl T.m_b1 T.F_b1.kp T.b_b1 .nil a0p (a0a (a0r (a0k K rfl) (mv 1) a0d (fun _ _=>rfl)) a0b)))) (a0e (a0v (a0s (ko_neE K rfl emptyS (a7y hr)) (a0r (a0k K rfl) (mv 1) a0d (fun _ _=>rfl)) (a7v (v:=.ref t.c_c6) rfl T.m_c6 rfl) (a0t _)) (a0g (a1a (a3t K rfl Zu Wm V9 (b5t K rfl) (mv 2) (a0a (a1j (a0a a0i (a0a (a0r (a0k K rfl) (mv 1) a0d (fun _ _=>rfl)) a0b))) a0b)))) a0u) (a0g (a0m (a0n (a1h K rfl) (mv 2) (a1j (a0a a0i a0b)))))))),?_⟩
 rename_i v
 obtain⟨t0,tb,hd,hw,hp,hz,q⟩:=h
 obtain⟨ts,rt,rfl,hrp⟩:=unL _ t0 (Zb _)
 have hts:ts≠[]:=by
  rintro rfl
  rw[show(mkL [] rt)=rt from rfl,hrp]at hp
  cases hp
 have hsz:=a6t ts rt
 obtain⟨hwt,hwr⟩:=c7y ts rt hw
 have hl1:1<=ts.length:=by
  cases ts with
  |nil=>exact absurd rfl hts
  |cons _ _=>simp
 have hc:=b0v ts
 have hm:=b8v ts
 have htx:=b4c hwr hrp ts hts
 walk_at "s"
 refine⟨ts,rt,hrp,hd,by omega,fun r p us y H1 s1 hp1 hr1 hu1 hdu hdy=>?_⟩
 walk_at "s"
 refine⟨ln (by show 1<=100000;decide),fun p2 hp2=>?_⟩
 walk_at "s"
 refine a0w ((a0f hp2 _).tup (SqT.of hr1)) (v:=.ref p) rfl ?_
 refine⟨us,ts,.inl ((a0f hp2 _).seq (SqL.of hu1)),hdu.mono (a0f hp2 _),by omega,fun p3 ws H3 s3 hp3 hw3 hI3=>?_⟩
 have s13:=(a0f hp2 _).trans s3
 have hwl:=hI3.len
 refine a6j (s3 _ _ a0c) hw3 (ln (by show 1+_<=_;omega)) fun p4 hp4=>?_
 have s14:=s13.trans (a0f hp4 (.lst ([V.str (ofString "[")]++ws)))
 have sA:=s1.trans s14
 have hHp4:H p4=none:=(s1.trans s13).free hp4
 have hI4:=hI3.mono (a0f hp4 (.lst ([V.str (ofString "[")]++ws)))
 walk_at "s"
 refine a0w (s14.tup (SqT.of hr1)) (v:=y) rfl ?_
 walk_at "s"
 have hdy4:=hdy.mono s14
 obtain⟨py,xy,hpy,_⟩:=c5r hdy4
 refine⟨py,t.c_c6,t.c_c6_2,rt,hpy,rfl,hdy4,T.q_c6 _,T.q_c6_2 _,fun bb hb=>?_⟩
 walk_at "s"
 refine iteB (fun e=>?_) (fun e=>?_)
 ·have hne:rt≠.app emptyS []:=fun h=>by rw[hb.mpr h]at e;cases e
  rw[if_neg hne]at htx
  walk_at "s"
  refine⟨.inl ⟨rfl,_,SqL.of a0c⟩,?_⟩
  walk_at "s"
  refine a0w (s14.tup (SqT.of hr1)) (v:=y) rfl ?_
  walk_at "s"
  refine⟨ln (by show 2<=100000;decide),fun p5 hp5=>?_⟩
  walk_at "s"
  refine d1a (xs:=[V.str (ofString "[")]++ws) (zs:=[V.str (ofString " | "),y]) ((a0f hp5 _) _ _ a0c) a0c (ln (by rw[Za];show 1+_+2<=_;omega)) ?_
  walk_at "s"
  refine⟨ln (by show 1<=100000;decide),fun p6 hp6=>?_⟩
  refine a6j ((a0f hp6 _) _ _ a0c) a0c (ln (by rw[Za,Za];show 1+_+2+1<=_;omega)) fun p7 hp7=>?_
  have s5:=a0f hp5 (.lst [V.str (ofString " | "),y])
  have s6:=(a1n (o:=.lst ([V.str (ofString "[")]++ws++[V.str (ofString " | "),y])) (sA.trans s5) hHp4).trans (a0f hp6 (.lst [V.str (ofString "]")]))
  have hI5:=(hI4.mono s5).lst (o:=.lst ([V.str (ofString "[")]++ws++[V.str (ofString " | "),y])) (s5 _ _ a0c)
  have hdy5:=(hdy4.mono s5).lst (o:=.lst ([V.str (ofString "[")]++ws++[V.str (ofString " | "),y])) (s5 _ _ a0c)
  refine q p7 _ ([.inr [91]]++a1t ts++([.inr [32,124,32]]++[.inl rt])++[.inr [93]]) _ (s6.trans (a0f hp7 _)) (s6.free hp7) a0c ?_ ?_ ?_ ?_ ?_
  ·exact(((it_s c91).append ((hI5.mono (a0f hp6 _)).mono (a0f hp7 _))).append ((it_s cbar).append (it_t ((hdy5.mono (a0f hp6 _)).mono (a0f hp7 _))))).append (it_s c93)
  ·rw[htx,a3a,a3a,a3a,a3a,b5b,a5u,a5u,c5t,a5u]
   simp
  ·rw[a2q,a2q,a2q,a2q,a5i,a5i,b6o,a5i]
   omega
  ·exact a4i (a4i (a4i (a5t (by decide)) (b2u hwt)) (a4i (a5t (by decide)) (c0b hwr))) (a5t (by decide))
  ·rw[Za,Za,Za]
   show 1+_+2+1<=_
   omega
 ·have hne:rt=.app emptyS []:=hb.mp e
  rw[if_pos hne]at htx
  have hrs:rt.size=1:=by rw[hne];simp[Trm.size,Trm.sizeL]
  walk_at "s"
  refine⟨ln (by show 1<=100000;decide),fun p6 hp6=>?_⟩
  refine a6j ((a0f hp6 _) _ _ a0c) a0c (ln (by rw[Za];show 1+_+1<=_;omega)) fun p7 hp7=>?_
  have s6:=sA.trans (a0f hp6 (.lst [V.str (ofString "]")]))
  refine q p7 _ ([.inr [91]]++a1t ts++[.inr [93]]) _ (s6.trans (a0f hp7 _)) (s6.free hp7) a0c ?_ ?_ ?_ ?_ ?_
  ·exact((it_s c91).append ((hI4.mono (a0f hp6 _)).mono (a0f hp7 _))).append (it_s c93)
  ·rw[htx,a3a,a3a,b5b,a5u,a5u]
   simp
  ·rw[a2q,a2q,a5i,a5i]
   omega
  ·exact a4i (a4i (a5t (by decide)) (b2u hwt)) (a5t (by decide))
  ·rw[Za,Za]
   show 1+_+1<=_
   omega
theorem c1r(T:Txt K mg t)(G_c1:FnOk P w K mg base CX0 2 t.a_c1 t.d_c1 ["kid","told","side","signs"] (b2v K)):FnOk P w K mg base CX0 3 t.a_d8 t.d_d8 ["term","signs"] (a7h K):=by
 refine T.F_d8.ok a7b (fun vs H Q E h=>?_) (fun cdv A outer s H vs Q E hr h=>?_)
 ·unfold a7h at h
  split at h
  ·rfl
  ·exact h.elim
 unfold a7h at h
 split at h
 rotate_left
 ·exact h.elim
 refine⟨_,(a0e (a0q (i:=2) (hs:=a7o) a7b.nd rfl (by walk_at "or1") (a0r (a0k K rfl) (mv 0) a0d (fun _ _=>rfl))) (a0e (a0q (i:=3) (hs:=a1p) a7b.nd rfl (by walk_at "or1") (a0l G_c1 (hr.mono (by walk_at "r")) rfl T.m_c1 T.F_c1.kp T.b_c1 .nil a0p (a0a (a0r (a0k K rfl) (a0r (a0k K rfl) (mv 0) a0d (fun _ _=>rfl)) a0d (fun _ _=>rfl)) (a0a (b3q (a7r hr) (mv 1) (mv 2) (fun _ _=>rfl)) (a0a a0i (a0a (mv 1) a0b)))))) (a0e (a0q (i:=4) (hs:=a1p) a7b.nd rfl (by walk_at "or1") (a0l G_c1 (hr.mono (by walk_at "r")) rfl T.m_c1 T.F_c1.kp T.b_c1 .nil a0p (a0a (a0r (a0k K rfl) (a0r (a0k K rfl) (mv 0) a0d (fun _ _=>rfl)) a0d (fun _ _=>rfl)) (a0a (b3q (a7r hr) (mv 1) (mv 2) (fun _ _=>rfl)) (a0a a0i (a0a (mv 1) a0b)))))) (a0g (a0m (a0n (a1h K rfl) (a0n (a1h K rfl) (mv 3) (a1j (a0a (pe_f3 (mv 2)) a0b))) (mv 4))))))),?_⟩
 rename_i v d
 obtain⟨sg,ks,tb,hd,hw,hT,⟨⟨r,s⟩,hsg⟩,q⟩:=h
 obtain⟨me,mp⟩:=hT.marks
 obtain⟨a,b,us,rfl,hs,hb,hk⟩:=a4g hd
 have hw0:=hw
 obtain⟨⟨w1,w2,w3⟩,w4⟩:=hw0
 have h2:ks.length=2:=by
  rcases w3 with⟨rfl,_⟩|⟨rfl,h⟩|⟨_,_,_,h⟩|⟨_,_,h⟩
  ·rw[me]at hsg;cases hsg
  ·exact h
  ·exact h
  ·rw[h]at hsg;cases hsg
 obtain⟨k1,k2,rfl⟩:∃k1 k2,ks=[k1,k2]:=by
  match ks,h2 with
  | [x,y],_=>exact⟨x,y,rfl⟩
 obtain⟨x1,x2,rfl,g1,g2⟩:=c7w hk
 have hsge:sg≠emptyS:=by rintro rfl;rw[me]at hsg;cases hsg
 have hsgp:sg≠pairS:=by rintro rfl;rw[mp]at hsg;cases hsg
 obtain⟨wk1,wk2,_⟩:=w4
 obtain⟨ta,hta,hg⟩:=hT.got hsg
 have hsl:sg.cps.toList.length<=12:=by
  have e:sg.cps.toList.length=sg.length:=by simp[Str.length]
  omega
 walk_at "s"
 refine a0w hs (v:=.str sg) rfl ?_
 walk_at "s"
 refine a0w hs (v:=.ref b) rfl ?_
 walk_at "s"
 refine a0w hb (v:=x1) rfl ?_
 walk_at "s"
 refine⟨d,.ref ta,rfl,hg,?_⟩
 walk_at "s"
 refine⟨k1,tb,r,s,g1,wk1,hT,hta,fun p us1 i1 H1 s1 hp1 h1 hI1 ht1 hm1 ho1 hl1=>?_⟩
 obtain⟨ta2,hta2,hg2⟩:=(hT.mono s1).got hsg
 walk_at "s"
 refine a0w (s1.tup hs) (v:=.ref b) rfl ?_
 walk_at "s"
 refine a0w (s1.tup hb) (v:=x2) rfl ?_
 walk_at "s"
 refine⟨d,.ref ta2,rfl,hg2,?_⟩
 walk_at "s"
 refine⟨k2,tb,r,s,g2.mono s1,wk2,hT.mono s1,hta2,fun p' us2 i2 H2 s2 hp2 h2' hI2 ht2 hm2 ho2 hl2=>?_⟩
 have u1:=hI1.len
 have u2:=hI2.len
 walk_at "s"
 refine⟨ln (by show 1<=100000;decide),?_⟩
 walk_at "s"
 refine⟨sg,rfl,ln (by show 1+sg.length+1<=100000;omega),?_⟩
 walk_at "s"
 refine⟨ln (by show 1<=100000;decide),fun p3 hp3=>?_⟩
 refine a6j ((a0f hp3 _) _ _ (s2 _ _ h1)) a0c (ln (by show _+1<=_;omega)) fun p4 hp4=>?_
 walk_at "s"
 refine a6j a0c ((a0f hp4 _) _ _ ((a0f hp3 _) _ _ h2')) (ln (by rw[Za];show _+1+_<=_;omega)) fun p5 hp5=>?_
 have s4:=((s1.trans s2).trans (a0f hp3 _)).trans (a0f hp4 (.lst (us1++[V.str (ofString " "++sg++ofString " ")])))
 refine q p5 _ (i1++[.inr ([32]++sg.cps.toList++[32])]++i2) _ (s4.trans (a0f hp5 _)) (s4.free hp5) a0c ?_ ?_ ?_ ?_ ?_
 ·exact(((((hI1.mono s2).mono (a0f hp3 _)).mono (a0f hp4 _)).mono (a0f hp5 _)).append (it_s (spc sg))).append (((hI2.mono (a0f hp3 _)).mono (a0f hp4 _)).mono (a0f hp5 _))
 ·rw[b7e hsg hsgp hsge,a3a,a3a,a5u,ht1,ht2]
  unfold a8n
  simp
 ·rw[a2q,a2q,a5i]
  simp only[Trm.size,Trm.sizeL]
  omega
 ·refine a4i (a4i ho1 (a5t ?_)) ho2
  rw[Za,Za]
  show 1+_+1<=_
  omega
 ·rw[Za,Za]
  show _+1+_<=_
  omega
theorem d3m(T:Txt K mg t)(G_b3:FnOk P w K mg base CX0 1 t.a_b3 t.d_b3 ["term"] (a8p K))(G_e0:FnOk P w K mg base CX0 2 t.a_e0 t.d_e0 ["term"] (a7i K))(G_f7:FnOk P w K mg base CX0 3 t.a_f7 t.d_f7 ["term"] (a7j K))(G_d8:FnOk P w K mg base CX0 3 t.a_d8 t.d_d8 ["term","signs"] (a7h K))(G_e2:FnOk P w K mg base CX0 1 t.a_e2 t.d_e2 ["n"] (a6f)):FnOk P w K mg base CX0 4 t.a_e4 t.d_e4 ["term","signs"] (b2w K):=by
 refine T.F_e4.ok d1t (fun vs H Q E h=>?_) (fun cdv A outer s H vs Q E hr h=>?_)
 ·unfold b2w at h
  split at h
  ·rfl
  ·exact h.elim
 unfold b2w at h
 split at h
 rotate_left
 ·exact h.elim
 refine⟨_,(a0e (a0v (a0s a1e (a0r (a0k K rfl) (mv 0) a0d (fun _ _=>rfl)) a0i (a0t _)) (a0g (a0m (a1j (a0a (a0l G_e2 (hr.mono (by walk_at "r")) rfl T.m_e2 T.F_e2.kp T.b_e2 .nil a0p (a0a (a0r (a0k K rfl) (mv 0) a0d (fun _ _=>rfl)) a0b)) a0b)))) a0u) (a0e (a0v (a0s a1e (a0r (a0k K rfl) (mv 0) a0d (fun _ _=>rfl)) a0i (a0t _)) (a0g (a0m (a1j (a0a (a0r (a0k K rfl) (mv 0) a0d (fun _ _=>rfl)) a0b)))) a0u) (a0e (a0v (a1w K rfl (a0l G_b3 (hr.mono (by walk_at "r")) rfl T.m_b3 T.F_b3.kp T.b_b3 .nil a0p (a0a (mv 0) a0b))) (a0g (a0m (a0l G_f7 (hr.mono (by walk_at "r")) rfl T.m_f7 T.F_f7.kp T.b_f7 .nil a0p (a0a (mv 0) a0b)))) a0u) (a0e (a0v (a0s (d1f (a7r hr)) (a0r (a0k K rfl) (mv 0) a0d (fun _ _=>rfl)) (mv 1) (by with_unfolding_all rfl)) (a0g (a0m (a0l G_d8 (hr.mono (by walk_at "r")) rfl T.m_d8 T.F_d8.kp T.b_d8 .nil a0p (a0a (mv 0) (a0a (mv 1) a0b))))) a0u) (a0g (a0m (a0l G_e0 (hr.mono (by walk_at "r")) rfl T.m_e0 T.F_e0.kp T.b_e0 .nil a0p (a0a (mv 0) a0b)))))))),?_⟩
 rename_i v d
 obtain⟨t0,tb,hd,hw,hT,hz,q⟩:=h
 walk_at "s"
 cases t0 with
 |num n=>
  obtain⟨a,rfl,hs⟩:=a5x hd
  have hn:=c5o hw.1 hw.2
  refine a0w hs (v:=.str numS) rfl ?_
  walk_at "s"
  rw[Zm,d4]
  walk_at "D"
  refine a0w hs (v:=.int n) rfl ?_
  refine⟨hw.1,hw.2,?_⟩
  walk_at "s"
  refine⟨ln (by show 1<=100000;decide),fun p hp=>?_⟩
  refine q p _ [.inr (numT n)] _ (a0f hp _) hp a0c (.cons rfl .nil) ?_ ?_ (a5t (by omega)) (by simp)
  ·rw[a5u,tx]
  ·rw[a5i];simp only[Trm.size];omega
 |any x=>
  obtain⟨a,rfl,hs⟩:=a5y hd
  have hw:x.length<=12:=hw
  have e:x.cps.toList.length=x.length:=by simp[Str.length]
  refine a0w hs (v:=.str anyS) rfl ?_
  walk_at "s"
  rw[Zm,d5]
  walk_at "C"
  refine a0w hs (v:=.str anyS) rfl ?_
  walk_at "s"
  rw[Zm,d9]
  walk_at "D"
  refine a0w hs (v:=.str x) rfl ?_
  walk_at "s"
  refine⟨ln (by show 1<=100000;decide),fun p hp=>?_⟩
  refine q p _ [.inr x.cps.toList] _ (a0f hp _) hp a0c (.cons (Z9 V.str (b5c x).symm) .nil) ?_ ?_ (a5t (by omega)) (by simp)
  ·rw[a5u,tx]
  ·rw[a5i];simp only[Trm.size];omega
 |app sg ks=>
  obtain⟨a,b,us,rfl,hs,hb,hk⟩:=a4g hd
  refine a0w hs (v:=.str appS) rfl ?_
  walk_at "s"
  rw[Zm,d6]
  walk_at "C"
  refine a0w hs (v:=.str appS) rfl ?_
  walk_at "s"
  rw[Zm,d8]
  walk_at "C"
  refine⟨_,hd,?_⟩
  walk_at "s"
  refine iteB (fun e=>?_) (fun e=>?_)
  ·walk_at "s"
   exact⟨_,tb,hd,hw,e,hz,q⟩
  ·have hnp:sg≠pairS:=by
    rintro rfl
    obtain⟨⟨_,_,w3⟩,_⟩:=hw
    rw[isP,Zg rfl,Wx]at e
    rcases w3 with⟨h,_⟩|⟨_,h⟩|⟨_,h,_⟩|⟨_,h,_⟩
    ·exact absurd h (by decide+kernel)
    ·exact Zl e h
    ·exact h rfl
    ·exact h rfl
   walk_at "s"
   refine a0w hs (v:=.str sg) rfl ?_
   rcases hT.get sg with⟨e1,g⟩|⟨ta,r,s,e1,hta,g⟩
   ·refine⟨d,none,rfl,g,?_⟩
    walk_at "A"
    exact⟨sg,ks,tb,hd,hw,e1,hnp,q⟩
   ·refine⟨d,some (.ref ta),rfl,g,?_⟩
    walk_at "B"
    exact⟨sg,ks,tb,hd,hw,hT,⟨_,e1⟩,q⟩
theorem d5z(T:Txt K mg t)(G_e4:FnOk P w K mg base CX0 4 t.a_e4 t.d_e4 ["term","signs"] (b2w K)):FnOk P w K mg base CX0 5 t.a_d9 t.d_d9 ["term","signs"] (b5g K):=by
 refine T.F_d9.ok b1u (fun vs H Q E h=>?_) (fun cdv A outer s H vs Q E hr h=>?_)
 ·unfold b5g at h
  split at h
  ·rfl
  ·exact h.elim
 unfold b5g at h
 split at h
 rotate_left
 ·exact h.elim
 refine⟨_,(a0e (a0q (i:=2) (hs:=a8i) b1u.nd rfl (by walk_at "or1") (a1j a0b)) (a0e (a0q (i:=3) (hs:=a8i) b1u.nd rfl (by walk_at "or1") (a1j (a0a (mv 0) a0b))) (a0e (a3x Yh (a1w K rfl (mv 3)) (a0e (a0q (i:=4) (hs:=a1p) b1u.nd rfl (by walk_at "or1") (a9w K rfl Zu Xi X6 b1n (mv 3))) (a0g (a0v (a1w K rfl (a0z (kc_is K rfl) rfl T.n_i8 boot_isinstance (a0a (mv 4) (a0a (c4c rfl T.n_h9 Tl) a0b)))) (a0g (a1a (a3t K rfl Zu Z6 Z8 a2j (mv 2) (a0a (mv 4) a0b)))) (a0e (a0q (i:=5) (hs:=a1p) b1u.nd rfl (by walk_at "or1") (a0l G_e4 (hr.mono (by walk_at "r")) rfl T.m_e4 T.F_e4.kp T.b_e4 .nil a0p (a0a (mv 4) (a0a (mv 1) a0b)))) (a0e (a1a (a9w K rfl Zu Tz F.type_list_reverse c8p (mv 5))) (a0g (a1a (a3t K rfl Zu Wm V9 (b5t K rfl) (mv 3) (a0a (mv 5) a0b)))))))))) (a0g (a0m (a3t K rfl F.plainAttrs_str F.slot_str_join F.type_str_join (km_join K rfl) a0i (a0a (mv 2) a0b))))))),?_⟩
 rename_i v d
 obtain⟨t0,tb,hd,hw,hT,hz,q⟩:=h
 have htl:=b6n tb t0 hw
 walk_at "s"
 refine⟨Z3 _,fun pt hpt=>?_⟩
 walk_at "s"
 refine⟨ln (by show 1<=100000;decide),fun pd hpd=>?_⟩
 walk_at "s"
 have s0:Same H (upd (upd H pt (.lst [])) pd (.lst [v])):=(a0f hpt _).trans (a0f hpd _)
 have hpd0:H pd=none:=(a0f hpt _).free hpd
 have hne:pt≠pd:=by
  intro e
  subst e
  rw[a0c]at hpd
  cases hpd
 refine a3c (fun n σ' H'=>∃(o4 o5:Option V)(zs:List (List Nat))(us:List V)(its:List Itm),σ'=[some v,some (.ref d),some (.ref pt),some (.ref pd),o4,o5]/\Same H H'/\H' pt=some (.lst (zs.map fun z=>V.str ⟨z.toArray⟩))/\H' pd=some (.lst us)/\ItL K H' us its/\n=rowM its/\(∀i∈its,itOk tb i)/\zs.flatten++rowT tb its.reverse=(tx tb t0).1/\zs.length+n<=480) (8*t0.size) ⟨none,none,[],[v],[.inl t0],rfl,s0,by rw[a0j hne];exact a0c,a0c,.cons (show Den K _ v t0.data from hd.mono s0) .nil,(b6o t0).symm,c0b hw,by simp[rowT,itT],by simp;omega⟩ (fun n σ' H' R hP kT kF=>?_)
 obtain⟨o4,o5,zs,us,its,rfl,s1,h1,h2,h3,h4,h5,h6,h7⟩:=hP
 walk_at "s"
 refine .inl ⟨us,SqL.of h2,?_⟩
 rcases Wu its with e|⟨its',it,e⟩
 ·subst e
  cases h3
  refine kF H' ?_
  walk_at "s"
  refine⟨rfl,?_⟩
  walk_at "s"
  have h6:zs.flatten=(tx tb t0).1:=by simpa[rowT]using h6
  refine⟨zs.map fun z=>⟨z.toArray⟩,?_,?_,?_⟩
  ·rw[Y9];exact SqL.of h1
  ·have e1:(((zs.map fun z=>(⟨z.toArray⟩:Str)).map (·.length)).sum)=zs.flatten.length:=by
    rw[Y9,List.length_flatten]
    exact Z9 List.sum (V4 fun z _=>str_len z)
   have e2:(ofString "").length=0:=by rw[cnone];rfl
   show _+_*(ofString "").length<=_
   rw[e1,e2,h6]
   omega
  ·have key:=q H' s1
   rw[<-h6,<-d5y zs,<-cnone]at key
   exact key
 ·have e:its=its'++[it]:=by simpa using e
  subst e
  obtain⟨us',u,rfl,g1,g2⟩:=h3.snoc
  rw[a2q]at h4
  have hne2:(us'++[u]).isEmpty=false:=by simp
  rw[hne2]
  refine kT H' (fun D' e1 e2 hnx hct=>?_)
  walk_at "s"
  refine⟨.inl ⟨rfl,_,SqL.of h2⟩,?_⟩
  refine b1p h2 ?_
  walk_at "s"
  rw[Xr,a3a]at h6
  have h5':∀i∈its',itOk tb i:=fun i hi=>h5 i (Y1 _ hi)
  have h5l:=h5 it (Yc _ Zj)
  have h1':(upd H' pd (.lst us')) pt=some (.lst (zs.map fun z=>V.str ⟨z.toArray⟩)):=by rw[a0j hne];exact h1
  cases it with
  |inr z=>
   have g2:u=.str ⟨z.toArray⟩:=g2
   subst g2
   walk_at "B"
   refine⟨.inl ⟨rfl,_,SqL.of h1'⟩,?_⟩
   walk_at "s"
   refine a1u h1' (ln1 (by rw[length_map];omega)) ?_
   rw[a5i]at h4
   refine hnx _ _ (rowM its') (by omega) ⟨_,_,zs++[z],us',its',rfl,a1n (a1n s1 hpd0) hpt,by rw[a0c,Zq];rfl,by rw[a0j hne.symm];exact a0c,(g1.lst h2).lst h1',rfl,h5',?_,?_⟩
   ·rw[<-h6,Tx,Zx]
    simp[rowT,itT]
   ·rw[Za]
    show _+1+_<=_
    omega
  |inl t1=>
   have g2:Den K H' u t1.data:=g2
   obtain⟨a1,xs1,rfl,hs1⟩:=c5r g2
   rw[b6o]at h4
   refine c9m (a8t h2 _ _ hs1) ?_
   walk_at "A"
   have sP:Same H (upd H' pd (.lst us')):=a1n s1 hpd0
   refine⟨t1,tb,g2.lst h2,h5l,hT.mono sP,by omega,fun p us1 its1 H2 s2 hp2 hr2 hI2 ht2 hm2 ho2 hl2=>?_⟩
   have hpd2:H2 pd=some (.lst us'):=s2 _ _ a0c
   have hpne:pd≠p:=a1c a0c hp2
   have hptp:pt≠p:=a1c h1' hp2
   have hH2:H p=none:=sP.free hp2
   have u1:=hI2.len
   walk_at "s"
   refine⟨.inl ⟨rfl,_,SqL.of hr2⟩,?_⟩
   refine⟨us1,hr2,?_⟩
   walk_at "s"
   have hpd3:(upd H2 p (.lst us1.reverse)) pd=some (.lst us'):=by rw[a0j hpne];exact hpd2
   refine⟨.inl ⟨rfl,_,SqL.of hpd3⟩,?_⟩
   walk_at "s"
   refine d1a hpd3 a0c (ln (by have k1:=c5s its';have k2:=g1.len;rw[Z7];omega)) ?_
   refine hnx _ _ (rowM (its'++its1.reverse)) (by rw[a2q,c5q];omega) ⟨_,_,zs,us'++us1.reverse,its'++its1.reverse,rfl,a1n (a1n (sP.trans s2) hH2) hpd0,?_,a0c,?_,rfl,a4i h5' (fun i hi=>ho2 i (Vl.mp hi)),?_,?_⟩
   ·rw[a0j hne,a0j hptp]
    exact s2 _ _ h1'
   ·exact((((g1.lst h2).mono s2).lst hr2).lst hpd3).append ((hI2.reverse.lst hr2).lst hpd3)
   ·rw[<-h6,Xr,Xm,a3a,ht2]
    simp[rowT,itT]
   ·rw[a2q,c5q];omega
end
theorem mks_ok{tb:Tb}(h:∀x∈tb,a7u x.1):a2f tb:=fun x g e=>h _ (a9g e)
theorem tab_is{K:W.Frag}{H:Hp}{pd:Addr}{kvs:List (Key×V)}{tb:Tb}(hd:H pd=some (.dK kvs))(hT:TR K H kvs tb)(hM:a2f tb):a5q K H pd (lkT tb):=by
 refine⟨kvs,hd,fun x=>?_,fun x p e=>?_⟩
 ·rcases hT.val x with⟨e1,e2⟩|⟨a,g,e1,e2,e3⟩
  ·rw[e1];exact e2
  ·rw[e1];exact⟨a,g.1,g.2,rfl,e3,e2⟩
 ·obtain⟨z,h1,h2,h3,h4,_⟩:=hM x p e
  exact⟨z,h1,h2,h3,h4⟩
structure b6t(l:List Nat)(k:Nat):Prop where
 co:∃A R,l=A++40::R/\A.length=k/\(A=[]\/∃A' c,A=A'++[c]/\(c=32\/c=40\/c=91))
abbrev a7k:Sp:=fun vs H Q _=>match vs with| [.str s,.int a]=>∃(l A R:List Nat),s=⟨l.toArray⟩/\l.length<=3000/\l=A++40::R/\a=(A.length:Int)/\A.count 41<=A.count 40/\l.count 41=l.count 40/\∀B C,R=B++41::C->Q (.int ((A.length+1+B.length:Nat):Int)) H|_=>False
abbrev b0z:Sp:=fun vs H Q _=>match vs with| [.str s]=>∃l:List Nat,s=⟨l.toArray⟩/\l.length<=3000/\∀(p:Addr)(ks:List Nat) H',Same H H'->H' p=some (.lst (ks.map fun k:Nat=>V.int (k:Int)))->ks.length<=3000->(∀k∈ks,b6t l k)->Q (.ref p) H'|_=>False
abbrev b3b(K:W.Frag):Sp:=fun vs H Q _=>match vs with| [.str s,.ref pd]=>∃(l:List Nat)(tb:Tb),s=⟨l.toArray⟩/\TxTb K H l pd tb/\b4y (RdT tb) l (fun y=>∀(v:V) H',Same H H'->Den K H' v y.data->Q v H') (∀H',Same H H'->Q .non H')|_=>False
theorem b4y.mono{α:Type}{P:List Pc->Option (α×List Pc)->Prop}{l:List Nat}{G G':α->Prop}{R R':Prop}(h:b4y P l G R)(hg:∀y,G y->G' y)(hr:R->R'):b4y P l G' R':=by
 rcases h with⟨a,b⟩|⟨a,o,b,c⟩
 ·exact .inl ⟨a,hr b⟩
 ·refine .inr ⟨a,o,b,?_⟩
  match o,c with
  |some (y,[]),c=>exact hg y c
  |some (_,_::_),c=>exact hr c
  |none,c=>exact hr c
theorem d6a{l:List Nat}{i x:Nat}(h:l[i]? =some x):l.take (i+1)=l.take i++[x]:=by rw[Uw,h];rfl
theorem s40:(ofString "(":Str)=⟨#[40]⟩:=by decide+kernel
theorem s41:(ofString ")":Str)=⟨#[41]⟩:=by decide+kernel
section
variable{P:Program}{w:World}{K:W.Frag}{mg:Str->Option Value}{base:Heap}{t:Ad}
theorem d3n(T:Txt K mg t)(G_c7:FnOk P w K mg base (CXo P w) 8 t.a_c7 t.d_c7 ["text","signs"] (b7c K t.k_a0)):FnOk P w K mg base CX0 9 t.a_c0 t.d_c0 ["_law_text","_law_table_here"] (b3b K):=by
 refine T.F_c0.ok b2q (fun vs H Q E h=>?_) (fun cdv A outer s H vs Q E hr h=>?_)
 ·unfold b3b at h
  split at h
  ·rfl
  ·exact h.elim
 unfold b3b at h
 split at h
 rotate_left
 ·exact h.elim
 refine⟨_,(a0e (a0q (i:=2) b2q.nd rfl (by walk_at "or1") c9x) (a0e (d1n (i:=2) rfl rfl G_c7 (hr.mono (by walk_at "r")) rfl T.m_c7 T.F_c7.kp T.b_c7 .nil (a0a (mv 0) (a0a (mv 1) a0b)) b2q.nd rfl (by walk_at "or1") rfl T.m_a0 T.x_a0 (fun ea=>(a0g (a0q (i:=2) b2q.nd rfl (by walk_at "or1") c9x)))) (a0g (a0m (mv 2))))),?_⟩
 rename_i s pd
 obtain⟨l,tb,rfl,tx,hR⟩:=h
 walk_at "s"
 refine⟨l,tb,rfl,tx,hR.mono (fun y hy v H1 s1 d1=>?_) (fun hr=>?_)⟩
 ·walk_at "s"
  exact hy v H1 s1 d1
 ·intro ea H1 s1 hx ea' e
  cases e
  obtain⟨dx,x1,x2⟩:=hx
  refine⟨t.k_a0,some dx,_,rfl,x1,T.x_a0,by simp,?_⟩
  walk_at "s"
  exact hr H1 s1
theorem c1s(T:Txt K mg t)  :FnOk P w K mg base CX0 1 t.a_e7 t.d_e7 ["_law_text","_law_at"] (a7k):=by
 refine T.F_e7.ok a5h (fun vs H Q E h=>?_) (fun cdv A outer s H vs Q E hr h=>?_)
 ·unfold a7k at h
  split at h
  ·rfl
  ·exact h.elim
 unfold a7k at h
 split at h
 rotate_left
 ·exact h.elim
 refine⟨_,(a0e (a0q (i:=2) a5h.nd rfl (by walk_at "or1") a0d) (a0e (a8g Yh rfl (c1u rfl T.n_h3 (a0a (mv 1) (a0a (a0z (a2d K rfl) rfl T.n_c4 Z0 (a0a (mv 0) a0b)) a0b))) (a6w (i:=3) a5h.nd rfl (by walk_at "or1")) (a0e (a0v (a0s a1e (a0r (a0k K rfl) (mv 0) (mv 3) (fun _ _=>rfl)) a0i (a0t _)) (a0g (a0q (i:=2) (hs:=a3i) a5h.nd rfl (by walk_at "or1") (a0n (a1h K rfl) (mv 2) a0d))) a0u) (a0e (a0v (a0s a1e (a0r (a0k K rfl) (mv 0) (mv 3) (fun _ _=>rfl)) a0i (a0t _)) (a0g (a0q (i:=2) (hs:=a3i) a5h.nd rfl (by walk_at "or1") (a0n b5p (mv 2) a0d))) a0u) (a0g (a0v (a0s a1e (mv 2) a0d (a0t _)) (a0g (a0m (mv 3))) a0u))))) (a0g (a0m a0d)))),?_⟩
 rename_i s a
 obtain⟨l,A,R,rfl,hl,e0,rfl,hA,hE,q⟩:=h
 have hlen:l.length=A.length+1+R.length:=by rw[e0];simp;omega
 walk_at "s"
 refine a9y (ln (by rw[str_len];omega)) ?_
 rw[str_len]
 walk_at "s"
 refine⟨(A.length:Int),(l.length:Int),rfl,by omega,?_⟩
 refine a6z (a7x (A.length:Int) ((l.length:Int)-(A.length:Int)).toNat) (fun i σ' H'=>∃(o3:Option V)(d:Nat),σ'=[some (.str ⟨l.toArray⟩),some (.int (A.length:Int)),some (.int (d:Int)),o3]/\H=H'/\d+((40::R).take i).count 41=((40::R).take i).count 40/\(1<=i->1<=d)) ⟨none,0,rfl,rfl,rfl,fun h=>by omega⟩ (fun _ _ _ _=>trivial) (fun i σ' H' hi hP=>?_) (fun σ' H' hP=>?_)
 ·obtain⟨o3,d,rfl,rfl,hd,hd1⟩:=hP
  have hi:i<(40::R).length:=by simp;omega
  obtain⟨x,hx0⟩:∃x,(40::R)[i]? =some x:=⟨_,Zc hi⟩
  have hx:atI (⟨l.toArray⟩:Str).cps.toList ((A.length:Int)+(i:Int))=some x:=by
   rw[show(A.length:Int)+(i:Int)=((A.length+i:Nat):Int) by omega]
   refine a6y ?_
   rw[show(⟨l.toArray⟩:Str).cps.toList=l by simp,e0,Xf (by omega),show A.length+i-A.length=i by omega]
   exact hx0
  have ht:=d6a hx0
  have c41:((40::R).take (i+1)).count 41=((40::R).take i).count 41+if x=41 then 1 else 0:=by rw[ht,Yr];congr 1;by_cases e:x=41<;>simp[e]
  have c40:((40::R).take (i+1)).count 40=((40::R).take i).count 40+if x=40 then 1 else 0:=by rw[ht,Yr];congr 1;by_cases e:x=40<;>simp[e]
  have i0:i=0->x=40:=fun e=>by rw[e]at hx0;exact(Zo hx0).symm
  walk_at "s"
  refine a3d (ln (by rw[str_len];omega)) hx ?_
  walk_at "s"
  refine iteB (fun e1=>?_) (fun e1=>?_)
  ·have e1:x=40:=a9b (Ze (by rw[Zm,s40]at e1;exact e1))
   subst e1
   walk_at "s"
   refine a3d (ln (by rw[str_len];omega)) hx ?_
   walk_at "s"
   refine iteB (fun e2=>absurd e2 (by rw[Zm,s41];decide+kernel)) (fun e2=>?_)
   walk_at "s"
   refine iteB (fun e3=>absurd (Ze (by rw[Zm]at e3;exact e3)) (by omega)) (fun e3=>?_)
   walk_at "m"
   refine⟨_,d+1,rfl,rfl,?_,fun _=>by omega⟩
   rw[c41,c40,if_neg (by decide),if_pos rfl]
   omega
  ·have e1:x≠40:=fun z=>by rw[z,Zm,s40]at e1;exact absurd e1 (by decide+kernel)
   have h1:1<=i:=by
    cases i with
    |zero=>exact absurd (i0 rfl) e1
    |succ i=>omega
   have hd1:=hd1 h1
   walk_at "s"
   refine a3d (ln (by rw[str_len];omega)) hx ?_
   walk_at "s"
   refine iteB (fun e2=>?_) (fun e2=>?_)
   ·have e2:x=41:=a9b (Ze (by rw[Zm,s41]at e2;exact e2))
    subst e2
    walk_at "s"
    refine iteB (fun e3=>?_) (fun e3=>?_)
    ·have e3:(d:Int)-1=0:=Ze (by rw[Zm]at e3;exact e3)
     walk_at "s"
     obtain⟨j,rfl⟩:∃j,i=j+1:=⟨i-1,by omega⟩
     have hxR:R[j]? =some 41:=hx0
     obtain⟨hj,hj2⟩:=Yy.mp hxR
     have:=q (R.take j) (R.drop (j+1)) (by rw[<-hj2,<-Vf hj,Wt])
     rw[Wd,show min j R.length=j by omega]at this
     rw[show(A.length:Int)+((j+1:Nat):Int)=((A.length+1+j:Nat):Int) by omega]
     exact this
    ·have e3:¬(d:Int)-1=0:=Zl (by rw[Zm]at e3;exact e3)
     walk_at "m"
     refine⟨_,d-1,by rw[show(d:Int)-1=((d-1:Nat):Int) by omega];rfl,rfl,?_,fun _=>by omega⟩
     rw[c41,c40,if_pos rfl,if_neg (by decide)]
     omega
   ·have e2:x≠41:=fun z=>by rw[z,Zm,s41]at e2;exact absurd e2 (by decide+kernel)
    walk_at "s"
    refine iteB (fun e3=>absurd (Ze (by rw[Zm]at e3;exact e3)) (by omega)) (fun e3=>?_)
    walk_at "m"
    refine⟨_,d,rfl,rfl,?_,fun _=>hd1⟩
    rw[c41,c40,if_neg e2,if_neg e1]
    omega
 ·obtain⟨o3,d,rfl,rfl,hd,hd1⟩:=hP
  exfalso
  have e1:((l.length:Int)-(A.length:Int)).toNat=(40::R).length:=by simp;omega
  rw[e1,Vk]at hd
  rw[e1]at hd1
  have:=hd1 (by simp)
  rw[e0,Yr,Yr]at hE
  omega
theorem c9p(T:Txt K mg t)  :FnOk P w K mg base CX0 1 t.a_f3 t.d_f3 ["_law_text"] (b0z):=by
 refine T.F_f3.ok b4r (fun vs H Q E h=>?_) (fun cdv A outer s H vs Q E hr h=>?_)
 ·unfold b0z at h
  split at h
  ·rfl
  ·exact h.elim
 unfold b0z at h
 split at h
 rotate_left
 ·exact h.elim
 refine⟨_,(a0e (a0q (i:=1) (hs:=a8i) b4r.nd rfl (by walk_at "or1") (a1j a0b)) (a0e (a8g Yh rfl (b2i rfl T.n_h3 (a0a (a0z (a2d K rfl) rfl T.n_c4 Z0 (a0a (mv 0) a0b)) a0b)) (a6w (i:=2) b4r.nd rfl (by walk_at "or1")) (a0g (a0v (PW.pt (a5d (a0s a1e (a0r (a0k K rfl) (mv 0) (mv 2) (fun _ _=>rfl)) a0i (a0t _)) (a4f (PW.pt (b6v (a0s a1e (mv 2) a0d (a0t _)) (b3n (a0s a6i (a0r (a0k K rfl) (mv 0) (a0n b5p (mv 2) a0d) (fun _ _=>rfl)) a0i (by with_unfolding_all rfl)))))))) (a0g (a1a (a3t K rfl Zu Z6 Z8 a2j (mv 1) (a0a (mv 2) a0b)))) a0u))) (a0g (a0m (mv 1))))),?_⟩
 rename_i s
 obtain⟨l,rfl,hl,q⟩:=h
 walk_at "s"
 refine⟨ln (by show 0<=100000;decide),fun p hp=>?_⟩
 walk_at "s"
 refine a9y (ln (by rw[str_len];omega)) ?_
 rw[str_len]
 walk_at "s"
 refine⟨(l.length:Int),rfl,by omega,by omega,?_⟩
 refine a6z (a7x 0 (l.length:Int).toNat) (fun i σ' H'=>∃(o2:Option V)(ks:List Nat),σ'=[some (.str ⟨l.toArray⟩),some (.ref p),o2]/\Same H H'/\H' p=some (.lst (ks.map fun k:Nat=>V.int (k:Int)))/\ks.length<=i/\∀k∈ks,b6t l k) ⟨none,[],rfl,a0f hp _,a0c,Zb _,fun _ h=>by cases h⟩ (fun _ _ _ _=>trivial) (fun i σ' H' hi hP=>?_) (fun σ' H' hP=>?_)
 ·obtain⟨o2,ks,rfl,g1,g2,g3,g4⟩:=hP
  have hi:i<l.length:=by simpa using hi
  have el:(⟨l.toArray⟩:Str).cps.toList=l:=by simp
  have hx:atI (⟨l.toArray⟩:Str).cps.toList (0+(i:Int))=some l[i]:=by
   rw[Int.zero_add,el]
   exact a6y (Zc hi)
  have ADD:b6t l i->∃(o2:Option V)(ks':List Nat),[some (V.str ⟨l.toArray⟩),some (V.ref p),some (V.int (0+(i:Int)))]=[some (V.str ⟨l.toArray⟩),some (V.ref p),o2]/\Same H (upd H' p (.lst ((ks.map fun k:Nat=>V.int (k:Int))++[.int (0+(i:Int))])))/\(upd H' p (.lst ((ks.map fun k:Nat=>V.int (k:Int))++[.int (0+(i:Int))]))) p=some (.lst (ks'.map fun k:Nat=>V.int (k:Int)))/\ks'.length<=i+1/\∀k∈ks',b6t l k:=fun hs=>⟨_,ks++[i],rfl,a1n g1 hp,by rw[a0c,Zq,Int.zero_add];rfl,by simp;omega,fun k hk=>by
   rcases Z1.mp hk with h|h
   ·exact g4 k h
   ·rw[Zw.mp h];exact hs⟩
  have spot:l[i]=40->(l.take i=[]\/∃A' c,l.take i=A'++[c]/\(c=32\/c=40\/c=91))->b6t l i:=fun e h=>⟨l.take i,l.drop (i+1),by rw[<-e,<-Vf hi,Wt],by rw[Wd];omega,h⟩
  walk_at "s"
  refine a3d (ln (by rw[str_len];omega)) hx ?_
  walk_at "s"
  refine iteB (fun e1=>?_) (fun e1=>?_)
  ·have e1:l[i]=40:=a9b (Ze (by rw[Zm,s40]at e1;exact e1))
   walk_at "s"
   refine iteB (fun e2=>?_) (fun e2=>?_)
   ·have e2:(0+(i:Int))=0:=Ze (by rw[Zm]at e2;exact e2)
    walk_at "D"
    refine⟨.inl ⟨rfl,_,SqL.of g2⟩,?_⟩
    walk_at "s"
    refine a1u g2 (ln1 (by rw[length_map];omega)) ?_
    exact ADD (spot e1 (.inl (by rw[show i=0 by omega];rfl)))
   ·have e2:¬(0+(i:Int))=0:=Zl (by rw[Zm]at e2;exact e2)
    obtain⟨j,rfl⟩:∃j,i=j+1:=⟨i-1,by omega⟩
    have hj:j<l.length:=by omega
    have hxj:atI (⟨l.toArray⟩:Str).cps.toList (0+((j+1:Nat):Int)-1)=some l[j]:=by
     rw[show(0+((j+1:Nat):Int)-1)=(j:Int) by omega,el]
     exact a6y (Zc hj)
    walk_at "s"
    refine a3d (ln (by rw[str_len];omega)) hxj ?_
    walk_at "s"
    refine iteB (fun e3=>?_) (fun e3=>?_)
    ·rw[Zm,a2r]at e3
     have e3:=Ze e3
     walk_at "s"
     refine⟨.inl ⟨rfl,_,SqL.of g2⟩,?_⟩
     walk_at "s"
     refine a1u g2 (ln1 (by rw[length_map];omega)) ?_
     refine ADD (spot e1 (.inr ⟨l.take j,l[j],by rw[Uw,Zc hj];rfl,?_⟩))
     rw[show(ofString " ([").cps.toList=[32,40,91] by decide+kernel]at e3
     simpa using e3
    ·walk_at "m"
     exact⟨_,ks,rfl,g1,g2,by omega,g4⟩
  ·refine iteF ?_
   walk_at "m"
   exact⟨_,ks,rfl,g1,g2,by omega,g4⟩
 ·obtain⟨o2,ks,rfl,g1,g2,g3,g4⟩:=hP
  walk_at "s"
  exact q p ks H' g1 g2 (by simp at g3;omega) g4
end
theorem cut_A(A r:List Nat):cutS ⟨(A++r).toArray⟩ none (some (A.length:Int))=⟨A.toArray⟩:=by
 have:=b6z [] A r
 unfold cutS HT.sIx at this ⊢
 simpa using this
theorem cut_C(A r:List Nat):cutS ⟨(A++r).toArray⟩ (some (A.length:Int)) none=⟨r.toArray⟩:=by
 unfold cutS
 have e:(⟨(A++r).toArray⟩:Str).length=A.length+r.length:=by rw[str_len,Za]
 rw[e,HT.sIx_nat,W3 (by omega)]
 show(⟨(((A++r).toArray.toList.drop A.length).take (A.length+r.length-A.length)).toArray⟩:Str)=_
 rw[Tw,Uq (Zb _),Um,Y6,Vj,Vk]
theorem br_tb{K:W.Frag}{H:Hp}{pd:Addr}{kvs:List (Key×V)}{tb:Tb}(hd:H pd=some (.dK kvs))(hT:TR K H kvs tb)(hM:a2f tb)(ok:TbOk tb){t:Trm}(hw:wf tb t)(hz:t.size<=40):TxTb K H (40::(tx (lkT tb) t).1++[41]) pd tb:=by
 have r:=rows t.size ok hM t (Zb _) hw
 have hl:=b6n (lkT tb) t (wf_S hM t hw)
 have hc:=r.cnt
 have hg:∀z∈bits (40::(tx (lkT tb) t).1++[41]),PKt tb z:=fun z hz=>by
  rw[a3q]at hz
  simp only[Zk,Z1,Zz,Xl]at hz
  rcases hz with rfl|hz|rfl
  ·exact a4y a1i.1.1
  ·exact r.gd z hz
  ·exact a4y a1i.1.2
 exact⟨by simp;omega,fun z hz=>(hg z hz).2.2,a2t (b5f (by decide) r.pl) (by unfold a1v;decide),⟨kvs,hd,hT⟩,by rw[a3q];simp;omega,fun z hz=>(hg z hz).2.1⟩
theorem br_rd{tb:Tb}(hM:a2f tb)(ok:TbOk tb){t:Trm}(hw:wf tb t)(hz:t.size<=40){G:Trm->Prop}{R:Prop}(h:G t):b4y (RdT tb) (40::(tx (lkT tb) t).1++[41]) G R:=by
 have r:=rows t.size ok hM t (Zb _) hw
 refine .inr ⟨c7u (fun z hz=>?_),some (t,[]),?_,h⟩
 ·rw[a3q]at hz
  simp only[Zk,Z1,Zz,Xl]at hz
  rcases hz with rfl|hz|rfl
  ·exact(a4y (tb:=tb) a1i.1.1).1
  ·exact(r.gd z hz).1
  ·exact(a4y (tb:=tb) a1i.1.2).1
 ·have:=reads_g (Rds.g (b6m r.rd.k)) (show t.size<=1000 by omega) [] (.inl rfl)
  rw[Yo,if_pos ⟨rfl,hz⟩]at this
  rw[a3q]
  exact this
theorem ls_tb{K:W.Frag}{H:Hp}{pd:Addr}{kvs:List (Key×V)}{tb:Tb}(hd:H pd=some (.dK kvs))(hT:TR K H kvs tb)(hM:a2f tb)(ok:TbOk tb){t:Trm}(hw:wf tb t)(hz:t.size<=40){A B C:List Nat}(e:(tx (lkT tb) t).1=A++40::(B++41::C))(ha:A=[]\/∃A' c,A=A'++[c]/\(c=32\/c=40\/c=91)):TxTb K H (A++B++C) pd tb:=by
 have r:=rows t.size ok hM t (Zb _) hw
 have hl:=b6n (lkT tb) t (wf_S hM t hw)
 have hc:=r.cnt
 obtain⟨_,h2,h3⟩:=c8c (c3m t.size hM t (Zb _) hw) e ha
 refine⟨?_,fun z hz=>(r.gd z (h2 z hz)).2.2,fun y hy=>r.pl y ?_,⟨kvs,hd,hT⟩,by omega,fun z hz=>(r.gd z (h2 z hz)).2.1⟩
 ·rw[e]at hl
  simp only[Za,length_cons]at hl ⊢
  omega
 ·rw[e]
  simp only[Z1,Zk]at hy ⊢
  rcases hy with(h|h)|h
  ·exact .inl h
  ·exact .inr (.inr (.inl h))
  ·exact .inr (.inr (.inr (.inr h)))
theorem ls_rd{tb:Tb}(hM:a2f tb)(ok:TbOk tb){t:Trm}(hw:wf tb t)(hz:t.size<=40){A B C:List Nat}(e:(tx (lkT tb) t).1=A++40::(B++41::C))(ha:A=[]\/∃A' c,A=A'++[c]/\(c=32\/c=40\/c=91)){G:Trm->Prop}{R:Prop}(hg:∀y,y≠t->y.size<=40->G y)(hr:R):b4y (RdT tb) (A++B++C) G R:=by
 have r:=rows t.size ok hM t (Zb _) hw
 obtain⟨h1,h2,h3⟩:=c8c (c3m t.size hM t (Zb _) hw) e ha
 have hv:=d3c t.size ok hM t (Zb _) hw
 have hc:=r.cnt
 obtain⟨o,ho⟩:=rd_all ok hM (p:=bits (A++B++C)) (by omega)
 refine .inr ⟨c7u (fun z hz=>(r.gd z (h2 z hz)).1),o,ho,?_⟩
 match o,ho with
 |none,_=>exact hr
 |some (y,_::_),_=>exact hr
 |some (y,[]),ho=>
  have:=d2x ok hM ho
  refine hg y (fun e=>?_) ?_
  ·rw[e]at this
   omega
  ·cases ho with
   |term _ _ _ hz=>exact hz
section
variable{P:Program}{w:World}{K:W.Frag}{mg:Str->Option Value}{base:Heap}{t:Ad}
theorem ok_law(T:Txt K mg t)(G_d3:FnOk P w K mg base CX0 2 t.a_d3 t.d_d3 ["_law_cell","_law_many"] (b0y K))(G_d2:FnOk P w K mg base CX0 3 t.a_d2 t.d_d2 ["_law_cells_here","_law_marks","_law_turn"] (b0x K))(G_d9:FnOk P w K mg base CX0 5 t.a_d9 t.d_d9 ["term","signs"] (b5g K))(G_f3:FnOk P w K mg base CX0 1 t.a_f3 t.d_f3 ["_law_text"] (b0z))(G_a6:FnOk P w K mg base CX0 1 t.a_a6 t.d_a6 ["_law_script","_law_k"] (a6k K))(G_e1:FnOk P w K mg base CX0 2 t.a_e1 t.d_e1 ["_law_script","_law_at","_law_many"] (b0l K))(G_f2:FnOk P w K mg base CX0 1 t.a_f2 t.d_f2 ["_law_table_here","_law_cell"] (b3a K))(G_e7:FnOk P w K mg base CX0 1 t.a_e7 t.d_e7 ["_law_text","_law_at"] (a7k))(G_c0:FnOk P w K mg base CX0 9 t.a_c0 t.d_c0 ["_law_text","_law_table_here"] (b3b K)):FnOk P w K mg base CX0 20 t.a_law t.d_law ["_law_script"] (b3v K):=by
 refine T.F_law.ok a7q (fun vs H Q E h=>?_) (fun cdv A outer s H vs Q E hr h=>?_)
 ·unfold b3v at h
  split at h
  ·rfl
  ·exact h.elim
 unfold b3v at h
 split at h
 rotate_left
 ·exact h.elim
 refine⟨_,(a0e (a0q (i:=1) (hs:=a1p) a7q.nd rfl (by walk_at "or1") (a0l G_d3 (hr.mono (by walk_at "r")) rfl T.m_d3 T.F_d3.kp T.b_d3 .nil a0p (a0a (a0l G_a6 (hr.mono (by walk_at "r")) rfl T.m_a6 T.F_a6.kp T.b_a6 .nil a0p (a0a (mv 0) (a0a a0d a0b))) (a0a (a0n a1m (a0l G_a6 (hr.mono (by walk_at "r")) rfl T.m_a6 T.F_a6.kp T.b_a6 .nil a0p (a0a (mv 0) (a0a a0d a0b))) a0d) a0b)))) (a0e (a0q (i:=2) (hs:=a3i) a7q.nd rfl (by walk_at "or1") (a0n a1y (a0l G_a6 (hr.mono (by walk_at "r")) rfl T.m_a6 T.F_a6.kp T.b_a6 .nil a0p (a0a (mv 0) (a0a a0d a0b))) a0d)) (a0e (a0q (i:=3) (hs:=a1p) a7q.nd rfl (by walk_at "or1") (a0l G_d2 (hr.mono (by walk_at "r")) rfl T.m_d2 T.F_d2.kp T.b_d2 .nil a0p (a0a (a0l G_e1 (hr.mono (by walk_at "r")) rfl T.m_e1 T.F_e1.kp T.b_e1 .nil a0p (a0a (mv 0) (a0a a0d (a0a a0d a0b)))) (a0a (a0l G_f2 (hr.mono (by walk_at "r")) rfl T.m_f2 T.F_f2.kp T.b_f2 .nil a0p (a0a (mv 1) (a0a (a0l G_a6 (hr.mono (by walk_at "r")) rfl T.m_a6 T.F_a6.kp T.b_a6 .nil a0p (a0a (mv 0) (a0a a0d a0b))) a0b))) (a0a (a0n a1m (mv 2) a0d) a0b))))) (a0e (a0q (i:=4) (hs:=a1p) a7q.nd rfl (by walk_at "or1") (a0l G_d9 (hr.mono (by walk_at "r")) rfl T.m_d9 T.F_d9.kp T.b_d9 .nil a0p (a0a (mv 3) (a0a (mv 1) a0b)))) (a0e (a0q (i:=5) (hs:=a1p) a7q.nd rfl (by walk_at "or1") (a0l G_f3 (hr.mono (by walk_at "r")) rfl T.m_f3 T.F_f3.kp T.b_f3 .nil a0p (a0a (mv 4) a0b))) (a0e (a8g Yh rfl (b2i rfl T.n_h3 (a0a (a0z (c4g rfl) rfl T.n_i2 boot_min (a0a a0d (a0a (a0z (a2d K rfl) rfl T.n_c4 Z0 (a0a (mv 5) a0b)) a0b))) a0b)) (a6w (i:=6) a7q.nd rfl (by walk_at "or1")) (a0e (a0q (i:=7) (hs:=a7o) a7q.nd rfl (by walk_at "or1") (a0r (a0k K rfl) (mv 5) (a0n a1m (a0n (a1h K rfl) (a0n a1y (mv 2) a0d) (mv 6)) (a0z (a2d K rfl) rfl T.n_c4 Z0 (a0a (mv 5) a0b))) (fun _ _=>rfl))) (a0e (a0q (i:=8) (hs:=a1p) a7q.nd rfl (by walk_at "or1") (a0l G_e7 (hr.mono (by walk_at "r")) rfl T.m_e7 T.F_e7.kp T.b_e7 .nil a0p (a0a (mv 4) (a0a (mv 7) a0b)))) (a0e (a0q (i:=9) (hs:=a3i) a7q.nd rfl (by walk_at "or1") (a0n (a1h K rfl) (a0n (a1h K rfl) (a3y b1m (mv 4) a6x (a3l (mv 7))) (a3y b1m (mv 4) (a3l (a0n (a1h K rfl) (mv 7) a0d)) (a3l (mv 8)))) (a3y b1m (mv 4) (a3l (a0n (a1h K rfl) (mv 8) a0d)) a6x))) (a0g (a0v (PW.pt (b6v (a0s a1e (mv 8) a0d (a0t _)) (b3n (a0s (c7n K rfl (a7y hr)) (a0l G_c0 (hr.mono (by walk_at "r")) rfl T.m_c0 T.F_c0.kp T.b_c0 .nil a0p (a0a (mv 9) (a0a (mv 1) a0b))) (mv 3) (a0t _))))) (a0g (a0m b2h)) a0u)))))) (a0g (a0m (a3s (c7n K rfl (a7y hr)) (a0l G_c0 (hr.mono (by walk_at "r")) rfl T.m_c0 T.F_c0.kp T.b_c0 .nil a0p (a0a (a0n (a1h K rfl) (a0n (a1h K rfl) a0i (mv 4)) a0i) (a0a (mv 1) a0b))) (mv 3) (a0t _)))))))))),?_⟩
 rename_i a
 obtain⟨ns,hS,hn,q⟩:=h
 walk_at "s"
 refine⟨ns,hS,by decide,by decide,fun c0=>?_⟩
 walk_at "s"
 refine⟨ns,hS,by decide,by decide,fun c1=>?_⟩
 walk_at "s"
 have c17:=Ye c1 (show(0:Int)<7 by decide)
 refine⟨Yl c1 (by decide),by omega,fun pd kvs tb H1 s1 hd hT hTM hmk hnd htl=>?_⟩
 have hM:=mks_ok hmk
 have ok:=hTM.ok
 have htu:=hTM.len
 walk_at "s"
 refine⟨ns,s1.seq hS,by decide,by decide,fun c2=>?_⟩
 walk_at "s"
 refine⟨ns,s1.seq hS,by omega,by omega,by omega,by omega,by omega,fun pcs cs H2 hcs s2 hpcs=>?_⟩
 walk_at "s"
 refine⟨ns,(s1.trans s2).seq hS,by decide,by decide,fun c3=>?_⟩
 walk_at "s"
 refine⟨kvs,tb,s2 _ _ hd,hT.monoT (fun a zs q=>s2.tup q),htl,by omega,hmk,fun pm ws H3 s3 hpm hin=>?_⟩
 walk_at "s"
 refine⟨cs,ws,tb,SqL.of (s3 _ _ hpcs),by omega,hpm,hin,Yl _ (by decide),fun v t0 H4 s4 dt hz hw=>?_⟩
 have s14:=s2.trans (s3.trans s4)
 have kd:=s14 _ _ hd
 have hT:=hT.monoT (fun a zs q=>s14.tup q)
 clear s14 hpm hpcs hd
 walk_at "s"
 refine⟨t0,lkT tb,dt,wf_S hM _ hw,tab_is kd hT hM,by omega,fun H5 s5=>?_⟩
 have hl:=b6n (lkT tb) t0 (wf_S hM t0 hw)
 have hq:=c3m t0.size hM t0 (Zb _) hw
 walk_at "s"
 refine⟨_,rfl,by omega,fun ps ks H6 s6 kp hks hsp=>?_⟩
 have u6:=s5.trans s6
 walk_at "s"
 refine a4l (SqL.of kp) ?_
 walk_at "s"
 rw[length_map]
 obtain⟨m,hm,hm1⟩:∃m:Nat,(if(ks.length:Int)<2 then(ks.length:Int)else 2)=(m:Int)/\m<=ks.length/\m<=2:=by
  by_cases h:(ks.length:Int)<2
  ·exact⟨ks.length,by rw[if_pos h],by omega,by omega⟩
  ·exact⟨2,by rw[if_neg h];rfl,by omega,by omega⟩
 rw[hm]
 refine⟨(m:Int),rfl,by omega,by omega,?_⟩
 refine a6z (a7x 0 (m:Int).toNat) (fun i σ' H'=>∃o6 o7 o8 o9:Option V,σ'=[some (.ref a),some (.ref pd),some (.int (c2/7)),some v,some (.str ⟨(tx (lkT tb) t0).1.toArray⟩),some (.ref ps),o6,o7,o8,o9]/\Same H6 H') ⟨none,none,none,none,rfl,Same.refl _⟩ (fun _ _ _ _=>trivial) (fun i σ' H' hi hP=>?_) (fun σ' H' hP=>?_)
 ·obtain⟨o6,o7,o8,o9,rfl,g1⟩:=hP
  have hi:i<m:=by simpa using hi
  have hpos:(0:Int)<((ks.map fun k:Nat=>V.int (k:Int)).length:Int):=by rw[length_map];omega
  have kp':=g1 _ _ kp
  walk_at "s"
  refine a4l (SqL.of kp') ?_
  refine m2_i hpos ?_
  obtain⟨vv,hv,hv2⟩:=a9x (xs:=ks.map fun k:Nat=>V.int (k:Int)) (Yl (c2/7/30+(0+(i:Int))) (by omega)) (Ye (c2/7/30+(0+(i:Int))) hpos)
  refine a2e (SqL.of kp') hv ?_
  obtain⟨k,hk,rfl⟩:=Yx.mp (a5v hv)
  obtain⟨A,R,e0,rfl,hAe⟩:=(hsp k hk).co
  walk_at "s"
  refine⟨_,A,R,rfl,by omega,e0,rfl,hq.dk A _ e0,hq.eq,fun B C eR=>?_⟩
  subst eR
  have l3:(tx (lkT tb) t0).1.length=A.length+1+B.length+1+C.length:=by rw[e0];simp;omega
  have zl:(⟨(tx (lkT tb) t0).1.toArray⟩:Str).length<=sizeLine:=ln (by rw[str_len];omega)
  have k1:cutS ⟨(tx (lkT tb) t0).1.toArray⟩ none (some (A.length:Int))=⟨A.toArray⟩:=by rw[e0];exact cut_A _ _
  have k2:cutS ⟨(tx (lkT tb) t0).1.toArray⟩ (some ((A.length:Int)+1)) (some ((A.length+1+B.length:Nat):Int))=⟨B.toArray⟩:=by
   have:=b6z (A++[40]) B (41::C)
   rw[show(A++[40])++B++41::C=A++40::(B++41::C) by simp,<-e0]at this
   simpa using this
  have k3:cutS ⟨(tx (lkT tb) t0).1.toArray⟩ (some (((A.length+1+B.length:Nat):Int)+1)) none=⟨C.toArray⟩:=by
   have:=cut_C (A++40::B++[41]) C
   rw[show(A++40::B++[41])++C=A++40::(B++41::C) by simp,<-e0]at this
   rw[<-this]
   congr 2
   simp
   omega
  walk_at "s"
  refine b1o zl ?_
  rw[k1]
  walk_at "s"
  refine b1o zl ?_
  rw[k2]
  refine a8h (ln (by rw[str_len,str_len];omega)) ?_
  rw[a5f]
  walk_at "s"
  refine b1o zl ?_
  rw[k3]
  refine a8h (ln (by rw[str_len,str_len,Za];omega)) ?_
  rw[a5f]
  walk_at "s"
  refine iteB (fun e1=>absurd (Ze (by rw[Zm]at e1;exact e1)) (by omega)) (fun e1=>?_)
  walk_at "s"
  have u7:=u6.trans g1
  refine⟨A++B++C,tb,rfl,ls_tb (u7 _ _ kd) (hT.monoT fun a zs q=>u7.tup q) hM ok hw hz e0 hAe,ls_rd hM ok hw hz e0 hAe (fun y hy hyz v1 H7 s7 d7=>?_) (fun H7 s7=>?_)⟩
  ·walk_at "s"
   refine .inl ⟨y,t0,d7,dt.mono (u7.trans s7),by omega,?_⟩
   rw[d1p.mpr hy]
   walk_at "s"
   refine iteF ?_
   walk_at "m"
   exact⟨_,_,_,_,rfl,g1.trans s7⟩
  ·walk_at "s"
   obtain⟨w,xs,rfl,hw9⟩:=c5r (dt.mono (u7.trans s7))
   refine .inr ⟨w,xs,rfl,rfl,hw9,?_⟩
   walk_at "s"
   refine iteF ?_
   walk_at "m"
   exact⟨_,_,_,_,rfl,g1.trans s7⟩
 ·obtain⟨o6,o7,o8,o9,rfl,g1⟩:=hP
  have u7:=u6.trans g1
  walk_at "s"
  refine a8h (ln (by rw[str_len];show 1+(tx (lkT tb) t0).1.length<=100000;omega)) ?_
  rw[show(ofString "(":Str)=⟨([40]:List Nat).toArray⟩ by decide+kernel,a5f]
  walk_at "s"
  refine a8h (ln (by rw[str_len,Za];show 1+(tx (lkT tb) t0).1.length+1<=100000;omega)) ?_
  rw[show(ofString ")":Str)=⟨([41]:List Nat).toArray⟩ by decide+kernel,a5f]
  walk_at "s"
  refine⟨40::(tx (lkT tb) t0).1++[41],tb,rfl,br_tb (u7 _ _ kd) (hT.monoT fun a zs q=>u7.tup q) hM ok hw hz,br_rd hM ok hw hz (fun v1 H7 s7 d7=>?_)⟩
  walk_at "s"
  refine .inl ⟨t0,t0,d7,dt.mono (u7.trans s7),by omega,?_⟩
  rw[c4o]
  exact q _
end
section
variable{P:Program}{w:World}{K:W.Frag}{mg:Str->Option Value}{base:Heap}{t:Ad}
theorem ok_all(T:Txt K mg t)(D:KD P w K t.c_h0 (b0n t)):FnOk P w K mg base CX0 20 t.a_law t.d_law ["_law_script"] (b3v K):=by
 have h_a3:=b6h (P:=P) (w:=w) (base:=base) T
 have h_c5:=c2u (P:=P) (w:=w) (base:=base) T
 have h_g8:=c0a (P:=P) (w:=w) (base:=base) T
 have h_a4:=b9y (P:=P) (w:=w) (base:=base) T
 have h_c2:=ok_c2 (P:=P) (w:=w) (base:=base) T
 have h_e6:=c8x (P:=P) (w:=w) (base:=base) T
 have h_a5:=ok_a5 (P:=P) (w:=w) (base:=base) T
 have h_b3:=c9n (P:=P) (w:=w) (base:=base) T
 have h_g0:=d4w (P:=P) (w:=w) (base:=base) T
 have h_a9:=c6n (P:=P) (w:=w) (base:=base) T
 have h_e2:=c0g (P:=P) (w:=w) (base:=base) T
 have h_b1:=d3l (P:=P) (w:=w) (base:=base) T
 have h_f5:=c9o (P:=P) (w:=w) (base:=base) T
 have h_d4:=c6o (P:=P) (w:=w) (base:=base) T
 have h_d7:=c2s (P:=P) (w:=w) (base:=base) T
 have h_b6:=c5d (P:=P) (w:=w) (base:=base) T
 have h_d5:=c5f (P:=P) (w:=w) (base:=base) T
 have h_a6:=c6b (P:=P) (w:=w) (base:=base) T
 have h_b5:=c6s (P:=P) (w:=w) (base:=base) T
 have h_e8:=c6t (P:=P) (w:=w) (base:=base) T
 have h_b0:=c6c (P:=P) (w:=w) (base:=base) T
 have h_f8:=d3g (P:=P) (w:=w) (base:=base) T
 have h_f2:=d3j (P:=P) (w:=w) (base:=base) T
 have h_e7:=c1s (P:=P) (w:=w) (base:=base) T
 have h_f3:=c9p (P:=P) (w:=w) (base:=base) T
 have h_a7:=b9z T h_a4
 have h_e9:=c6v T h_b3
 have h_b9:=c8y T h_a5
 have h_b4:=c5e T h_a9
 have h_e0:=c1p T h_b1
 have h_c1:=d3k T h_f5
 have h_c3:=c5c T h_a9
 have h_b2:=c5h T h_a5
 have h_e1:=c9i T h_b5 h_a6
 have h_d3:=c9l T h_b5 h_f8
 have h_c9:=d3h T h_b0 h_e8
 have h_d6:=d3i T h_b0
 have h_b8:=b8s T h_c5
 have h_g7:=b5j T h_a4 h_a3
 have h_f6:=c8z T h_b4
 have h_f1:=c9a T h_b4
 have h_f7:=c1q T h_e9 h_b1
 have h_d8:=c1r T h_c1
 have h_d0:=c1b T h_b6 h_a3
 have h_f0:=b3w T h_a3 h_b6
 have h_e3:=c1c T h_a3
 have h_a8:=d2g T h_b2
 have h_e5:=d2i T h_a5 h_b9 h_a3
 have h_d2:=c9k T h_c9 h_d6
 have h_g2:=b2f T D h_a7 h_a8 h_e5
 have h_e4:=d3m T h_b3 h_e0 h_f7 h_d8 h_e2
 have h_d1:=c6p T h_a9 h_a3 h_d7 h_f0 h_d0 h_d4 h_c3
 have h_b7:=b9w T h_f6 h_a3
 have h_c8:=b9x T h_f1 h_a3
 have h_f4:=c6r T h_e3 h_b2
 have h_g6:=b2e T h_a4 h_a7 h_b8 h_b7
 have h_g4:=b2g T h_a4 h_f4 h_a7 h_a8
 have h_d9:=d5z T h_e4
 have h_g1:=d2f T h_d1
 have h_f9:=c6q T h_a3 h_c2 h_e6 h_a5 h_d5 h_c8 h_b7
 have h_g3:=b4a T h_a7 h_f9 h_a4
 have h_g5:=b4z T h_a8 h_c5 h_g6 h_g3 h_g2 h_g4 h_a3 h_g0
 have h_c7:=ok_c7 T h_g8 h_g5 h_g7 h_g1
 have h_c0:=d3n T h_c7
 exact ok_law T h_d3 h_d2 h_d9 h_f3 h_a6 h_e1 h_f2 h_e7 h_c0
end
theorem walk{l:W.OpenLaw}{q:Program}{loose:List Str}{XP:(Str->Option Value)->Heap->Prop}{YP:World->Heap->Prop}{d:DefRec}{K:Params->W.Frag}(hn:l.most=some 63)(hdf:d.params.defaults=[])
  (hY:∀(w:World)(h:Heap),YP w h->(K w.params).In h)
  (F:∀(w:World)(mg:Str->Option Value)(fa:Addr)(h:Heap),(K w.params).In h->h.Ns mainGlobals mg->mg d.name=some (.ref fa)->
   ∃fd:FuncData,(∀(s:Shared)(u:Value),BindsTo s fd ⟨[u],[]⟩ [("_law_script",u)])/\∀base:Heap,(K w.params).In base->base.Ns mainGlobals mg->FnOk l.prog w (K w.params) mg base CX0 20 fa fd ["_law_script"] (b3v (K w.params))):
  W.WalkO q loose XP YP l.row.toRowW d [] (fun f vs=>PySem.call f vs):=
 L2.walk_of (n:=63) (k:=20) (x:="_law_script") (CX:=fun _=>CX0) (sp:=fun w=>b3v (K w.params)) hn (by decide) hdf ⟨rfl,by decide,by decide,rfl⟩ hY F (fun _ _ a ns hl hO hS=>⟨ns,hS,hl,fun _=>rfl⟩) fun _ _ _ _ _ z=>z
end My
open PySem PySem.W PyProof.Rows L2
set_option maxRecDepth 100000 in
set_option maxHeartbeats 0 in
theorem PySem.Challenge.cw_goaltrail_k10_no_bracket_too_many_holds : PySem.Challenge.rw_goaltrail_k10_no_bracket_too_many.Holds := by
 w_on;refine W.holds_law My.said1 fun said=>?_
 refine W.holds_open (q:=My.Q) (loose:=My.loose) (Xt:=My.Xt) (XP:=W.XL My.Q []) (Yf:=fun s=>My.ads.map s.heap.get?) (Ya:=fun w=>(My.KK w.params).map fun(p:Addr×Obj)=>some p.2) (YP:=W.InK My.KK) (N:=3200) My.left1 (W.InK.of (fun _=>by kernel_rfl)) W.InK.keeps (fun s e=>W.xl_of s (Tt.mp e).1) W.XL.keeps (by rfl) (by rfl) (by rfl) (fun s e=>W.recFacts_of (Tt.mp e).2) (by rfl) (by assumption) (by decide+kernel) ⟨rfl,rfl,rfl,rfl,rfl,by decide+kernel⟩ ?hw ?hc
 (case hw=>w_witness2)
 k_fill
 refine My.walk (l:=PySem.Challenge.rw_goaltrail_k10_no_bracket_too_many) rfl rfl (fun w h Y=>Y) ?F
 case F=>
  intro w mg fa h KX G hmg
  have TT:∃t:My.Ad,My.Txt (L2.KOf KX) mg t/\(∀P:Program,L2.KD P w (L2.KOf KX) t.c_h0 (My.b0n t))/\∀(s:Shared)(u:Value),BindsTo s t.d_law ⟨[u],[]⟩ [("_law_script",u)]:=by
   dsimp only[L2.KOf]
   apply Exists.intro (My.Ad.mk _ _ _ _ _ _ _ _ _ _ _ _ _ _ _ _ _ _ _ _ _ _ _ _ _ _ _ _ _ _ _ _ _ _ _ _ _ _ _ _ _ _ _ _ _ _ _ _ _ _ _ _ _ _ _ _ _ _ _ _ _ _ _ _ _ _ _ _ _ _ _ _ _ _ _ _ _ _ _ _ _ _ _ _ _ _ _ _ _ _ _ _ _ _ _ _ _ _ _ _ _ _ _ _ _ _ _ _ _ _ _ _ _ _ _ _ _ _ _ _ _ _ _ _ _ _ _ _ _ _ _ _ _ _ _ _ _ _ _ _ _ _ _ _ _ _ _ _ _ _ _ _)
   apply And.intro
   case left=>
    constructor
    all_goals try dsimp only
    all_goals try exact W.mg_of KX G (by k_is)
    all_goals try exact W.mg_none_of KX G (by k_is)
    all_goals first|exact xc_of (by k_is) (by simp) (by simp) (by simp) (by simp)|exact⟨[],by simp,rfl⟩|exact⟨[_],by simp,rfl⟩|exact b7a.mk (by k_is) (by k_is) (by k_is)|exact na_of (by k_is)|exact XMk.mk (xc_of (by k_is) (by simp) (by simp) (by simp) (by simp)) (by k_is) (by k_is) (by k_is)|exact XIs.mk (by k_is) (by k_is) (by k_is) (by k_is)|exact XClsM.mk (by k_is) (by k_is) (by k_is) (by k_is)|exact Cls.mk (by k_is) (by k_is) (by k_is) (by k_is)|exact Mk.mk (by k_is) (by k_is) (is_fn (by k_is)) (by k_is)|exact Meth.mk (by k_is) (is_fn (by k_is)) (by k_is)|exact fun_mk (by k_is) (by k_is) (by k_is)|exact funD_mk (by k_is) (by k_is) (by k_is)|exact bi1 fun _=>rfl|exact bi2 fun _ _=>rfl|exact bi3 fun _ _ _=>rfl|exact bi4 fun _ _ _ _=>rfl|exact bd3 (its:=#[.int 0 _]) (by k_is) rfl fun _ _ _=>⟨_,rfl,rfl⟩|exact bd2 (its:=#[.int 0 _]) (by k_is) rfl fun _ _=>⟨_,rfl,rfl⟩|kit_is|exact sq_of (its:=[.str (ofString "end") _,.str (ofString "") _]) (by k_is) (by simp) (.cons ⟨_,rfl⟩ (.cons ⟨_,rfl⟩ .nil))|exact sq_of (its:=[.str (ofString "app") _,.str (ofString "[]") _,.ref _]) (by k_is) (by simp) (.cons ⟨_,rfl⟩ (.cons ⟨_,rfl⟩ (.cons rfl .nil)))|exact sq_of (its:=[]) (by k_is) (by simp) .nil|rfl
   apply And.intro
   case left=>exact fun P=>L2.kd_of (es:=[⟨keyHash w.params (ofString "whole"),.str (ofString "whole") _,.str (ofString "") _⟩,⟨keyHash w.params (ofString "round"),.str (ofString "round") _,.str (ofString ")") _⟩,⟨keyHash w.params (ofString "kids"),.str (ofString "kids") _,.str (ofString ")") _⟩,⟨keyHash w.params (ofString "list"),.str (ofString "list") _,.str (ofString "]") _⟩,⟨keyHash w.params (ofString "rest"),.str (ofString "rest") _,.str (ofString "]") _⟩]) (by k_is) (.cons ⟨_,rfl⟩ (.cons ⟨_,rfl⟩ (.cons ⟨_,rfl⟩ (.cons ⟨_,rfl⟩ (.cons ⟨_,rfl⟩ .nil))))) My.c6m
   exact fun s u=>.of_eq rfl
  obtain⟨t,T,D_h0,e1⟩:=TT
  have e0:=hmg.symm.trans T.m_law
  cases e0
  exact⟨t.d_law,e1,fun base kb nb=>My.ok_all T (D_h0 _)⟩
