import PyProof.Rows.All
import PyProof.StrBlock2
import PyProof.Rows.StrIntSpec
import KE.KItemsList
import KE.KDictLaws
import PyProof.SumWalkG
import KE.KRevIter
import PyProof.ListRange
import PyProof.Rows.SortWalk
import KE.KSortedM
import PyProof.Rows.SortStr
import KE.KIntText
import PyProof.Rows.ListMul
import PyProof.ReprHeadsTuple
import Wide.All
import OpenK.AllK
import Wide.FinOn
import Lean
import PyProof.EqAt
import PyProof.EqKinds
import PyProof.TupleCall
import PyProof.NeKinds
import PyProof.DictUpdate
import KE.KDictList
import KE.KEqDict
import PyProof.Draws
import PyProof.Rows.EnumRows
import PyProof.StationsW
import PyProof.ExcClass3
import PyProof.RulesAs
import PyProof.ExcBaseAll.ValueError
import PyProof.InstStoreFacts
import PyProof.ExcArgsOwn
import PyProof.NsDelKeeps
import KE.RegKIsAll
import PyProof.Rows.LoopZipPat
import PyProof.StrLawsRepr
import KE.KDictOf
import PyProof.WalksS
import PyProof.AttrMissHeap
import PySem.Challenge.RW_goaltrail_k14_how_much_is_read
set_option Elab.async false
set_option linter.all false
set_option maxRecDepth 100000
set_option genSizeOf false
set_option bootstrap.genMatcherCode false
set_option compiler.extract_closed false
open PySem.Str (ofString)
open PySem.PyData (keyHash)
open List (length_cons length_map length_nil)
section
open PySem PySem.Spec PyProof.Rows
def Za:=@List.length_append
def Zb:=@List.getElem?_eq_getElem
def Zc:=@List.mem_cons_of_mem
def Zd:=@wpAny_bind
def Ze:=@List.mem_cons_self
def Zf:=@List.size_toArray
def Zg:=@decide_eq_false
def Zh:=@Heap.get?_push_of_some
def Zi:=@decide_eq_true
def Zj:=@List.mem_cons
def Zk:=@List.map_append
def Zl:=@Nat.le_refl
def Zm:=@of_decide_eq_true
def Zn:=@List.mem_singleton
def Zo:=@of_decide_eq_false
def Zp:=@Bool.false_ne_true
def Zq:=@Option.some.inj
def Zr:=@wpAny_pure
def Zs:=@Heap.lt_size
def Zt:=@Bool.false_xor
def Zu:=@List.map_cons
def Zv:=@List.mem_append
def Zw:=@List.append_assoc
def Zx:=@Nat.lt_of_lt_of_le
def Zy:=@List.not_mem_nil
def Zz:=@Nat.le_trans
def Z0:=@F.plainAttrs_list
def Z1:=@wpAny_loadPart_at
def Z2:=@Heap.get?_push_size
def Z3:=@List.getD_eq_getElem?_getD
def Z4:=@List.cons_append
def Z5:=@Int.emod_lt_of_pos
def Z6:=@PySem.boot_len
def Z7:=@List.mem_map
def Z8:=@Int.toNat_natCast
def Z9:=@List.length_singleton
def Yb:=@List.nil_append
def Yc:=@Nat.ne_of_lt
def Yd:=@Int.emod_nonneg
def Ye:=@Array.getElem?_eq_some_iff
def Yg:=@List.mem_append_right
def Yh:=@List.map_map
def Yi:=@Int.eq_ofNat_of_zero_le
def Yj:=@PassesOwn.never
def Yk:=@List.cons.injEq
def Yl:=@Heap.get?_update_other
def Ym:=@strLen_append
def Yn:=@F.slot_list_append
def Yo:=@Nat.zero_le
def Yp:=@PySem.mem_of_lookup
def Yq:=@List.replicate_succ
def Yr:=@List.append_nil
def Ys:=@congrArg
def Yt:=@List.drop_zero
def Yu:=@List.getElem?_map
def Yv:=@F.type_list_append
def Yw:=@List.length_drop
def Yx:=@wpAny_isSubtype_exc
def Yy:=@PyProof.Rows.slot_tuple_getitem
def Yz:=@List.contains_cons
def Y0:=@List.getElem?_eq_some_iff
def Y1:=@List.length_reverse
def Y2:=@Sum.inr.injEq
def Y3:=@joinParts_cons
def Y4:=@List.reverse_cons
def Y5:=@or_false
def Y6:=@wpAny_truthy_bool
def Y7:=@beq_eq_false_iff_ne
def Y8:=@sizeLine_eq
def Y9:=@Bool.true_and
def Xb:=@List.length_take
def Xe:=@List.all_eq_true
def Xf:=@Bool.and_eq_true
def Xg:=@wpAny_mono
def Xh:=@wpAny_Call_Name_kw
def Xi:=@List.mem_range
def Xj:=@Calls.Constant_str
def Xk:=@Heap.get?_update_self
def Xl:=@wpAny_execs_nil
def Xm:=@boot_isinstance
def Xn:=@F.slot_list_pop
def Xo:=@Bool.eq_iff_iff
def Xp:=@wpAny_newObj_type
def Xq:=@if_false
def Xr:=@List.mem_append_left
def Xs:=@List.map_nil
def Xu:=@List.flatten_cons
def Xv:=@Array.getElem?_setIfInBounds_ne
def Xw:=@List.takeWhile_cons
def Xx:=@Array.length_toList
def Xy:=@W.kia_one
def Xz:=@F.plainAttrs_str
def X5:=@wpAny_field
def X6:=@wpAny_passesOwn
def X7:=@F.type_str_join
def X8:=@F.type_list_pop
def X9:=@F.slot_str_join
def Wa:=@List.all_cons
def Wb:=@PyProof.Rows.callWith_type1
def Wc:=@PassesOwn.leaving
def Wd:=@List.length_range
def We:=@List.mem_of_getElem?
def Wf:=@List.getElem?_append_right
def Wg:=@decide_eq_decide
def Wh:=@List.lookup_cons
def Wi:=@wpAny_holding
def Wj:=@Nat.lt_irrefl
def Wk:=@List.sum_cons
def Wl:=@SeqAt.EqAt.same
def Wm:=@List.find?_cons
def Wn:=@codeAny_mono
def Wo:=@Nat.add_zero
def Wp:=@List.take_of_length_le
def Wq:=@Bool.or_true
def Wr:=@Bool.false_and
def Ws:=@Bool.and_false
def Wt:=@Obj.isFreed_of_fields
def Wu:=@wpAny_execs_cons
def Wv:=@wpAny_call
def Ww:=@codeAny_call_builtin
def Wx:=@F.excBase_ValueError
def Wy:=@List.nodup_cons
def Wz:=@List.dropWhile_cons
def W0:=@W.callWith_K
def W1:=@Nat.sub_zero
def W2:=@wpAny_setField
def W3:=@beq_iff_eq
def W4:=@SeqAt.EqAt.str_str
def W5:=@SeqAt.EqAt.int_int
def W6:=@PySem.StrLaws.reprText_len
def W7:=@JoinedStr_many
def W8:=@List.drop_eq_getElem_cons
def W9:=@wpAny_standAt
def Va:=@joinParts_nil
def Vb:=@List.cons.inj
def Vc:=@List.any_cons
def Vd:=@Option.getD_some
def Ve:=@List.take_length
def Vf:=@List.getElem_mem
def Vg:=@call_meets
def Vh:=@Option.map_eq_some_iff
def Vi:=@Nat.succ_mul
def Vj:=@List.reverse_replicate
def Vk:=@List.getElem?_set_self
def Vl:=@List.dropWhile_sublist
def Vm:=@formatField_str
def Vn:=@Nat.min_eq_left
def Vo:=@List.range_succ
def Vp:=@List.of_mem_zip
def Vq:=@List.foldl_cons
def Vr:=@List.singleton_append
def Vs:=@List.getElem?_eq_none
def Vt:=@Nat.pow_le_pow_right
def Vu:=@List.take_zero
def Vv:=@List.pairwise_append
def Vw:=@List.getElem?_set_ne
def Vx:=@List.dropLast_concat
def Vy:=@Heap.size_push
def Vz:=@FormattedValue_plain
def V0:=@List.filterMap_cons
def V1:=@List.drop_succ_cons
def V2:=@SeqAt.EqAt.str_int
def V3:=@SeqAt.EqAt.int_str
def V4:=@F.slot_list_extend
def V5:=@wpAny_assign_Name
def V6:=@wpAny_Assign_Name
def V7:=@Str.ext'
def V8:=@PySem.Within.cons
def V9:=@Nat.succ.inj
def Ua:=@List.map_set
def Ub:=@Bool.eq_false_iff
def Uc:=@plainObj_wpAny_Assign_Attribute
def Ud:=@wpAny_lookBehind
def Ue:=@pastItsLine_dict
def Uf:=@W.cellsFrom_some
def Ug:=@Nat.lt_succ_self
def Uh:=@W.Fast.te14364793385576792824
def Ui:=@W.Fast.te10110043849684766642
def Uj:=@List.eq_nil_of_length_eq_zero
def Uk:=@W.methodCall_KW
def Ul:=@List.all_append
def Um:=@Bool.or_eq_true
def Uo:=@Array.getD_eq_getD_getElem?
def Up:=@wpAny_newFunctionEnv_cells
def Uq:=@boot_tuple
def Ur:=@Nat.not_lt
def Us:=@Calls.Name_function_global
def Ut:=@wpAny_FormattedValue_repr
def Uu:=@List.getElem?_append_left
def Uv:=@wpAny_comprehension_free
def Uw:=@W.plainGet_of
def Ux:=@Paired.length
def Uy:=@Option.isSome_iff_exists
def Uz:=@List.map_take
def U0:=@List.map_drop
def U2:=@Nat.add_sub_cancel_left
def U3:=@List.pairwise_singleton
def U4:=@wpAny_typeOf
def U5:=@wpAny_nsSet1
def U6:=@subscriptTail_builtinR
def U7:=@seqIndex_neg
def U8:=@Nat.sub_self
def U9:=@Nat.ne_of_gt
def Ta:=@Nat.le_of_lt
def Tc:=@List.takeWhile_sublist
def Td:=@List.length_eq_one_iff
def Te:=@List.all_map
def Tf:=@Calls.callWith_builtin
def Tg:=@codeAny_call_function
def Ti:=@List.getElem?_toArray
def Tj:=@wpAny_pyIter_revIter
def Tk:=@wpAny_loadName_local
def Tl:=@seqIndex_of
def Tm:=@lookup_relabel_local
def Tn:=@boot_int
def To:=@W.kitx_list
def Tp:=@Nat.le_succ
def Tq:=@List.replicate_succ'
def Tr:=@List.mem_of_mem_drop
def Ts:=@List.getLastD_concat
def Tt:=@F.excAttr_ValueError
def Tu:=@F.args_list_extend_2
def Tv:=@Bool.and_eq_true_iff
def Tw:=@Around.frames_deeper
def Tx:=@wpAny_loadName_cell
def Ty:=@entry_tuple_getitem
def Tz:=@SeqAt.RcNeAt.tuples
def T3:=@PySem.wpAt_of_wpAny
def T4:=@Nat.mul_le_mul_left
def T5:=@List.take_succ_cons
def T6:=@List.reverse_append
def T7:=@List.map_congr_left
def T8:=@Heap.get?_update_ne
def T9:=@F.slot_dict_getitem
def Sa:=@F.entry_list_extend
def Sb:=@wpAny_Name
def Sc:=@wpAny_List_spliced
def Sd:=@typeIs_str
def Se:=@typeIs_int
def Sf:=@tupleKind_room_in1
def Sh:=@decide_eq_true_iff
def Si:=@args_tuple_getitem
def Sj:=@Subscript_
def Sk:=@List.mem_filterMap
def Sl:=@List.map_singleton
def Sm:=@F.slot_dict_update
def Sn:=@F.args_tuple_add_2
def So:=@Code.quiet_builtin
def Sq:=@Calls.spliced_cons
end
noncomputable section
namespace L2
open PySem PySem.Spec PyProof.Rows
abbrev Key:=Sum Int Str
def b5v:Key->Value->Bool
 | .inl k,v=>Value.isInt k v
 | .inr x,v=>Value.isStrOf x v
def keyH(w:World):Key->Int
 | .inl k=>hashInt k
 | .inr x=>hashStr w x
theorem a3t:∀{k:Key}{v:Value},b5v k v=true->(∃i t,k=Sum.inl i/\v=Value.int i t)\/(∃x t,k=Sum.inr x/\v=Value.str x t)
 | .inl i,v,h=>by
  obtain⟨t,e⟩:=Value.isInt_shape (k:=i) (v:=v) h
  exact .inl ⟨i,t,rfl,e⟩
 | .inr x,v,h=>by
  obtain⟨t,e⟩:=Value.isStrOf_shape (x:=x) (v:=v) h
  exact .inr ⟨x,t,rfl,e⟩
theorem c9j(i:Int)(t:Tok):b5v (.inl i) (.int i t)=true:=by simp[b5v,Value.isInt]
theorem b4y(x:Str)(t:Tok):b5v (.inr x) (.str x t)=true:=by simp[b5v,Value.isStrOf]
theorem c9k(a b:Int):decide ((Sum.inl a:Key)=Sum.inl b)=(a==b):=by
 by_cases e:a=b
 ·subst e;simp
 ·have h:¬(Sum.inl a:Key)=Sum.inl b:=fun q=>e (Sum.inl.inj q)
  rw[Zg h]
  exact(Y7.mpr e).symm
theorem c9l(a b:Str):decide ((Sum.inr a:Key)=Sum.inr b)=decide (a=b):=by
 by_cases e:a=b
 ·subst e;simp
 ·have h:¬(Sum.inr a:Key)=Sum.inr b:=fun q=>e (Sum.inr.inj q)
  rw[Zg h,Zg e]
theorem c9m(a:Int)(b:Str):decide ((Sum.inl a:Key)=Sum.inr b)=false:=Zg (fun q=>nomatch q)
theorem c9n(a:Str)(b:Int):decide ((Sum.inr a:Key)=Sum.inl b)=false:=Zg (fun q=>nomatch q)
def a2g(prog:Program)(w:World):PySem.KeyKind prog w Key where
 is:=b5v
 hash:=keyH w
 inj:=fun v a b ha hb=>by
  rcases a3t ha with⟨i,t,rfl,rfl⟩|⟨x,t,rfl,rfl⟩
  ·rcases a3t hb with⟨j,u,rfl,e⟩|⟨y,u,rfl,e⟩
   ·injection e with e1 _;rw[e1]
   ·exact nomatch e
  ·rcases a3t hb with⟨j,u,rfl,e⟩|⟨y,u,rfl,e⟩
   ·exact nomatch e
   ·injection e with e1 _;rw[e1]
 byValue:=fun k v h=>by
  rcases a3t h with⟨i,t,rfl,rfl⟩|⟨x,t,rfl,rfl⟩<;>rfl
 pyHash:=fun hv h=>by
  rcases a3t hv with⟨i,t,rfl,rfl⟩|⟨x,t,rfl,rfl⟩
  ·exact wpAny_pyHash_int h
  ·exact wpAny_pyHash_str h
 eqBool:=fun hu hv h=>by
  rcases a3t hu with⟨i,t,rfl,rfl⟩|⟨x,t,rfl,rfl⟩
  ·rcases a3t hv with⟨j,u,rfl,rfl⟩|⟨y,u,rfl,rfl⟩
   ·rw[c9k]at h;exact wpAny_eqBool_int h
   ·rw[c9m]at h;exact V3 i t y u _ _ _ _ h
  ·rcases a3t hv with⟨j,u,rfl,rfl⟩|⟨y,u,rfl,rfl⟩
   ·rw[c9n]at h;exact V2 x t j u _ _ _ _ h
   ·rw[c9l]at h;exact wpAny_eqBool_str h
 «strs»:=fun k x t v h=>by
  rcases a3t h with⟨i,u,rfl,e⟩|⟨y,u,rfl,e⟩
  ·exact nomatch e
  ·injection e with e1 _
   subst e1
   cases v<;>rfl
theorem c5w(prog:Program)(w:World)(i:Int)(t:Tok):(a2g prog w).is (.inl i) (.int i t)=true:=c9j i t
theorem c5x(prog:Program)(w:World)(x:Str)(t:Tok):(a2g prog w).is (.inr x) (.str x t)=true:=b4y x t
inductive V where
 |non|bl(b:Bool)|int(i:Int)|str(x:Str)|byt(b:Array UInt8)|flt(b:UInt64)|ref(a:Addr)|ty(n:String)
 deriving DecidableEq
def RelV:V->Value->Prop
 | .non,u=>u=Value.none
 | .bl b,u=>u=Value.bool b
 | .int i,u=>∃t,u=Value.int i t
 | .str x,u=>∃t,u=Value.str x t
 | .byt b,u=>∃t,u=Value.bytes b t
 | .flt b,u=>∃t,u=Value.float b t
 | .ref a,u=>u=Value.ref a
 | .ty n,u=>u=Value.type n
abbrev Vals:List V->List Value->Prop:=Paired RelV
theorem Vals.length{xs:List V}{us:List Value}(r:Vals xs us):xs.length=us.length:=Ux r
theorem Vals.get:∀{xs:List V}{us:List Value}{i:Nat}{x:V},Vals xs us->xs[i]? =some x->∃u,us[i]? =some u/\RelV x u
 |_,_,_,_,.nil,e=>by simp at e
 |_,_,0,_,.cons r _,e=>by simp at e;subst e;exact⟨_,rfl,r⟩
 |_,_,i+1,x,.cons _ t,e=>by
  obtain⟨u,h1,h2⟩:=Vals.get (i:=i) (x:=x) t (by simpa using e)
  exact⟨u,by simpa using h1,h2⟩
theorem Vals.set{x:V}{u:Value}(r:RelV x u):∀{xs:List V}{us:List Value}(i:Nat),Vals xs us->Vals (xs.set i x) (us.set i u)
 |_,_,_,.nil=>.nil
 |_,_,0,.cons _ t=>.cons r t
 |_,_,i+1,.cons q t=>.cons q (Vals.set r i t)
theorem Vals.append:∀{xs ys:List V}{us ws:List Value},Vals xs us->Vals ys ws->Vals (xs++ys) (us++ws)
 |_,_,_,_,.nil,s=>s
 |_,_,_,_,.cons r t,s=>.cons r (Vals.append t s)
theorem Vals.take:∀{xs:List V}{us:List Value}(n:Nat),Vals xs us->Vals (xs.take n) (us.take n)
 |_,_,0,_=>.nil
 |_,_,_+1,.nil=>.nil
 |_,_,n+1,.cons r t=>.cons r (Vals.take n t)
theorem Vals.drop:∀{xs:List V}{us:List Value}(n:Nat),Vals xs us->Vals (xs.drop n) (us.drop n)
 |_,_,0,r=>r
 |_,_,_+1,.nil=>.nil
 |_,_,n+1,.cons _ t=>Vals.drop n t
def RelO:Option V->Option Value->Prop
 |some v,some u=>RelV v u
 |none,none=>True
 |_,_=>False
def KV{κ:Type}:List (κ×V)->List (κ×Value)->Prop:=Paired fun(p:κ×V) (q:κ×Value)=>p.1=q.1/\RelV p.2 q.2
def kV:Key->V
 | .inl i=>.int i
 | .inr x=>.str x
inductive HO where
 |lst(xs:List V)
 |tup(xs:List V)
 |dK(kvs:List (Key×V))|dT(kvs:List (List Key×V))
 |set(S:Int->Bool)(n:Nat)
 |ins(C dx:Addr)(fs:List (Str×V))
 |own(x:Addr)
 |xd(fs:List (Str×V))
 |met(f x:Addr)
 |rng(lo hi:Int)
 |frz(o:Obj)(u:HO)
 |tbl(ps:Array Value)
 |ext(φ:Heap->Prop)
abbrev Hp:=Addr->Option HO
def upd(H:Hp)(a:Addr)(o:HO):Hp:=fun b=>if b=a then some o else H b
theorem a0b{H:Hp}{a:Addr}{o:HO}:upd H a o a=some o:=by unfold upd;rw[if_pos rfl]
theorem a0j{H:Hp}{a b:Addr}{o:HO}(h:b≠a):upd H a o b=H b:=by unfold upd;rw[if_neg h]
theorem c2d{H:Hp}{a b:Addr}{o u:HO}(h:H a=some o)(h':H b=some u)(d:o≠u):a≠b:=by
 intro e;subst e;rw[h]at h';exact d (Zq h')
theorem a1b{H:Hp}{a b:Addr}{o:HO}(h:H a=some o)(h':H b=none):a≠b:=by
 intro e;subst e;rw[h]at h';cases h'
section
variable(P:Program)(w:World)
def a1y(H:Hp)(h:Heap)(a:Addr):HO->Prop
 | .lst xs=>xs.length<=sizeLine/\∃(its:List Value)(n:Nat),Vals xs its/\h.get? a=some { cls:=.type "list",data:=.seq its.toArray n}
 | .tup xs=>xs.length<=sizeLine/\∃its:List Value,Vals xs its/\IsTup h a its.toArray
 | .dK kvs=>kvs.length<=sizeLine/\(a==sysModules)=false/\∃vs,KV kvs vs/\h.DictOf (a2g P w) a vs
 | .dT kvs=>kvs.length<=sizeLine/\(a==sysModules)=false/\∃xs:List (List Key×Addr×Value),
   Paired (fun(p:List Key×V) (q:List Key×Addr×Value)=>p.1=q.1/\H q.2.1=some (.tup (p.1.map kV))/\RelV p.2 q.2.2) kvs xs/\
   ∃o es ep,h.get? a=some o/\o.ExactDict/\o.data=.dict es ep/\es.toList=xs.map (entryOfKey (tupleKind (a2g P w)))/\(xs.map (·.1)).Nodup
 | .set S n=>h.SetOf (intKind P w) a S n
 | .ins C dx fs=>H dx=some (.own a)/\fs.length<=1000/\dx≠a/\h.get? a=some (W.instObj C dx)/\
   ∃mA,h.Ns1 dx mA/\(∀f,RelO (fs.lookup f) (mA f))/\PySem.Within mA (fs.map (·.1))
 | .own _=>∃o,h.get? a=some o
 | .xd fs=>∃mA,h.Ns1 a mA/\∀f,RelO (fs.lookup f) (mA f)
 | .rng lo hi=>∃t u v,h.get? a=some { cls:=.type "range",data:=.fields #[.int lo t,.int hi u,.int 1 v]}
 | .frz o u=>h.get? a=some o/\a1y H h a u
 | .tbl ps=>h.get? a=some { cls:=.none,data:=.fields ps}
 | .met f x=>h.get? a=some (W.methodObj (.ref f) (.ref x))
 | .ext φ=>φ h/\(∃o,h.get? a=some o)/\∀h1 h2:Heap,φ h1->(∀o,h1.get? a=some o->h2.get? a=some o)->φ h2
def HOk(H:Hp)(h:Heap):Prop:=∀a o,H a=some o->a1y P w H h a o
end
section
variable{P:Program}{w:World}{H H':Hp}{h h':Heap}{a:Addr}{o:HO}
theorem a1y.lt(x:a1y P w H h a o):a<h.objs.size:=by
 cases o with
 |lst xs=>obtain⟨_,_,_,_,e⟩:=x;exact Zs e
 |tup xs=>obtain⟨_,_,_,p⟩:=x;exact p.lt
 |dK kvs=>obtain⟨_,_,_,_,o,_,_,e,_⟩:=x;exact Zs e
 |dT kvs=>obtain⟨_,_,_,_,o,_,_,e,_⟩:=x;exact Zs e
 |set S n=>obtain⟨o,_,_,_,e,_⟩:=x;exact Zs e
 |ins C dx fs=>obtain⟨_,_,_,e,_⟩:=x;exact Zs e
 |own y=>obtain⟨_,e⟩:=x;exact Zs e
 |xd fs=>obtain⟨_,⟨_,_,_,e,_⟩,_⟩:=x;exact Zs e
 |rng lo hi=>obtain⟨_,_,_,e⟩:=x;exact Zs e
 |frz ob u=>obtain⟨e,_⟩:=x;exact Zs e
 |tbl ps=>exact Zs (show h.get? a=some _ from x)
 |met f y=>exact Zs (show h.get? a=some _ from x)
 |ext φ=>obtain⟨_,⟨_,e⟩,_⟩:=x;exact Zs e
theorem Paired.mapP{α β:Type}{F G:α->β->Prop}:∀{l₁:List α}{l₂:List β},Paired F l₁ l₂->(∀a b,F a b->G a b)->Paired G l₁ l₂
 |_,_,.nil,_=>.nil
 |_,_,.cons r t,f=>.cons (f _ _ r) (Paired.mapP t f)
theorem a1y.stay(x:a1y P w H h a o)(k:∀b u,(b=a\/H b=some (.own a))->h.get? b=some u->h'.get? b=some u)
  (ho:∀b,H b=some (.own a)->H' b=some (.own a))(ht:∀b xs,H b=some (.tup xs)->H' b=some (.tup xs)):a1y P w H' h' a o:=by
 induction o with
 |lst xs=>obtain⟨z,its,n,r,e⟩:=x;exact⟨z,its,n,r,k _ _ (.inl rfl) e⟩
 |tup xs=>obtain⟨z,its,r,ob,e,c⟩:=x;exact⟨z,its,r,ob,k _ _ (.inl rfl) e,c⟩
 |dK kvs=>obtain⟨z,y,vs,r,ob,es,ep,e,c⟩:=x;exact⟨z,y,vs,r,ob,es,ep,k _ _ (.inl rfl) e,c⟩
 |dT kvs=>
  obtain⟨z,y,xs,r,ob,es,ep,e,c⟩:=x
  exact⟨z,y,xs,Paired.mapP r fun p q z=>⟨z.1,ht _ _ z.2.1,z.2.2⟩,ob,es,ep,k _ _ (.inl rfl) e,c⟩
 |set S n=>obtain⟨ob,es,ep,t,e,c⟩:=x;exact⟨ob,es,ep,t,k _ _ (.inl rfl) e,c⟩
 |ins C dx fs=>
  obtain⟨d,z,ne,e,mA,⟨od,es,ep,e2,c⟩,r⟩:=x
  exact⟨ho _ d,z,ne,k _ _ (.inl rfl) e,mA,⟨od,es,ep,k _ _ (.inr d) e2,c⟩,r⟩
 |own y=>obtain⟨ob,e⟩:=x;exact⟨ob,k _ _ (.inl rfl) e⟩
 |xd fs=>obtain⟨mA,⟨od,es,ep,e,c⟩,r⟩:=x;exact⟨mA,⟨od,es,ep,k _ _ (.inl rfl) e,c⟩,r⟩
 |rng lo hi=>obtain⟨t,u,v,e⟩:=x;exact⟨t,u,v,k _ _ (.inl rfl) e⟩
 |frz ob u ih=>obtain⟨e,q⟩:=x;exact⟨k _ _ (.inl rfl) e,ih q⟩
 |tbl ps=>
  have e:h.get? a=some { cls:=.none,data:=.fields ps}:=x
  show h'.get? a=some { cls:=.none,data:=.fields ps}
  exact k a _ (.inl rfl) e
 |met f y=>
  have e:h.get? a=some (W.methodObj (.ref f) (.ref y)):=x
  show h'.get? a=some (W.methodObj (.ref f) (.ref y))
  exact k a _ (.inl rfl) e
 |ext φ=>obtain⟨p,⟨o,e⟩,st⟩:=x;exact⟨st _ _ p fun o q=>k _ _ (.inl rfl) q,⟨o,k _ _ (.inl rfl) e⟩,st⟩
theorem HOk.lt(x:HOk P w H h)(e:H a=some o):a<h.objs.size:=(x a o e).lt
theorem HOk.fresh(x:HOk P w H h)(e:h.objs.size<=a):H a=none:=by
 cases q:H a with
 |none=>rfl
 |some u=>exact absurd (Zx (x.lt q) e) (Wj _)
theorem HOk.kept(x:HOk P w H h)(k:∀b u,h.get? b=some u->h'.get? b=some u):HOk P w H h':=fun a o e=>
 (x a o e).stay (fun b u _ q=>k b u q) (fun _ q=>q) fun _ _ q=>q
theorem HOk.laid(x:HOk P w H h)(k:∀b u,h.get? b=some u->h'.get? b=some u)(hp:h.objs.size<=a)(new:a1y P w (upd H a o) h' a o):HOk P w (upd H a o) h':=fun b u e=>by
 have hn:=x.fresh hp
 by_cases hb:b=a
 ·subst hb;rw[a0b]at e;cases e;exact new
 ·rw[a0j hb]at e
  exact(x b u e).stay (fun c v _ q=>k c v q) (fun c q=>by rw[a0j (a1b q hn)];exact q) fun c xs q=>by rw[a0j (a1b q hn)];exact q
end
def Rd(H:Hp)(a:Addr)(u:HO):Prop:=H a=some u\/∃o,H a=some (.frz o u)
theorem Rd.ok{P:Program}{w:World}{H:Hp}{h:Heap}{a:Addr}{u:HO}(r:Rd H a u)(x:HOk P w H h):a1y P w H h a u:=by
 rcases r with r|⟨o,r⟩
 ·exact x a u r
 ·obtain⟨_,q⟩:=x a _ r
  exact q
def Mut:Option HO->Prop
 |some (.lst _)=>True
 |some (.dK _)=>True
 |some (.dT _)=>True
 |some (.set _ _)=>True
 |some (.ins _ _ _)=>True
 |some (.ext _)=>True
 |_=>False
section
variable{P:Program}{w:World}{H:Hp}{h h':Heap}{x e:Addr}{o':HO}
theorem HOk.write(ok:HOk P w H h)(mu:Mut (H x))(he:e=x\/H e=some (.own x))(k:∀b u,b≠e->h.get? b=some u->h'.get? b=some u)(heo:∃u,h'.get? e=some u)
  (new:a1y P w (upd H x o') h' x o'):HOk P w (upd H x o') h':=fun b u q=>by
 have nown:∀c y,H c=some (.own y)->c≠x:=fun c y r z=>by subst z;rw[r]at mu;exact mu
 have ntup:∀c xs,H c=some (.tup xs)->c≠x:=fun c xs r z=>by subst z;rw[r]at mu;exact mu
 by_cases hb:b=x
 ·subst hb;rw[a0b]at q;cases q;exact new
 ·rw[a0j hb]at q
  by_cases hbe:b=e
  ·have q':H b=some (.own x):=by
    rcases he with z|z
    ·exact absurd (hbe.trans z) hb
    ·rw[hbe];exact z
   rw[q]at q';cases q'
   obtain⟨v,hv⟩:=heo
   exact⟨v,by rw[hbe];exact hv⟩
  ·refine(ok b u q).stay (fun c v hc r=>k c v ?_ r) (fun c r=>by rw[a0j (nown c b r)];exact r) fun c xs r=>by rw[a0j (ntup c xs r)];exact r
   rcases hc with rfl|hc
   ·exact hbe
   ·rintro rfl
    rcases he with z|z
    ·exact nown c b hc z
    ·rw[hc]at z;cases z;exact hb rfl
end
structure Un(fs ex:List Addr)(H H':Hp)(h h':Heap):Prop where
 keep:∀b o,h.get? b=some o->H b=none->b∉fs->b∉ex->h'.get? b=some o
 slot:∀b o,h.get? b=some o->H b=none->b∈fs->b∉ex->∃sl,h'.get? b=some { o with slots:=sl}
 free:∀b o,h.get? b=some o->H b=none->b∉ex->H' b=none
 there:∀b o,h.get? b=some o->b∉ex->∃o',h'.get? b=some o'
 tups:∀b xs,H b=some (.tup xs)->H' b=some (.tup xs)
 frzs:∀b o u,H b=some (.frz o u)->H' b=some (.frz o u)
 tbls:∀b ps,H b=some (.tbl ps)->∃more,H' b=some (.tbl (ps++more))
section
variable{fs fs' ex ex':List Addr}{H H1 H2:Hp}{h h1 h2 h':Heap}{a x e:Addr}{o:HO}
theorem Un.any(u:Un fs ex H H1 h h1){b:Addr}{ob:Obj}(q:h.get? b=some ob)(n:H b=none)(hx:b∉ex):∃sl,h1.get? b=some { ob with slots:=sl}:=by
 by_cases hb:b∈fs
 ·exact u.slot b ob q n hb hx
 ·exact⟨ob.slots,u.keep b ob q n hb hx⟩
theorem Un.kept(k:∀b u,h.get? b=some u->h'.get? b=some u):Un fs ex H H h h':=
 ⟨fun b ob q _ _ _=>k b ob q,fun b ob q _ _ _=>⟨ob.slots,k b ob q⟩,fun _ _ _ n _=>n,fun b ob q _=>⟨ob,k b ob q⟩,fun _ _ q=>q,fun _ _ _ q=>q,fun _ ps q=>⟨#[],by rw[q];simp⟩⟩
theorem Un.refl:Un fs ex H H h h:=Un.kept fun _ _ q=>q
theorem Un.laid(k:∀b u,h.get? b=some u->h'.get? b=some u)(hp:h.objs.size<=a)(hn:H a=none):Un fs ex H (upd H a o) h h' where
 keep:=fun b u q _ _ _=>k b u q
 slot:=fun b u q _ _ _=>⟨u.slots,k b u q⟩
 free:=fun b u q n _=>by rw[a0j (Yc (Zx (Zs q) hp))];exact n
 there:=fun b u q _=>⟨u,k b u q⟩
 tups:=fun b xs q=>by rw[a0j (a1b q hn)];exact q
 frzs:=fun b u xs q=>by rw[a0j (a1b q hn)];exact q
 tbls:=fun b ps q=>⟨#[],by rw[a0j (a1b q hn),q];simp⟩
theorem Un.write(mu:Mut (H x))(he:e=x\/H e=some (.own x))(k:∀b u,b≠e->h.get? b=some u->h'.get? b=some u)(heo:∃u,h'.get? e=some u):Un fs ex H (upd H x o) h h':=by
 have hx:∀b,H b=none->b≠x:=fun b n z=>by subst z;rw[n]at mu;exact mu
 have hb:∀b,H b=none->b≠e:=fun b n z=>by
  subst z
  rcases he with r|r
  ·exact hx b n r
  ·rw[n]at r;cases r
 have hm:∀b u,H b=some u->¬Mut (some u)->b≠x:=fun b u q nm z=>by subst z;rw[q]at mu;exact nm mu
 refine⟨fun b u q n _ _=>k b u (hb b n) q,fun b u q n _ _=>⟨u.slots,k b u (hb b n) q⟩,fun b u q n _=>by rw[a0j (hx b n)];exact n,fun b u q _=>?_,
  fun b xs q=>by rw[a0j (hm b _ q fun z=>z)];exact q,fun b u xs q=>by rw[a0j (hm b _ q fun z=>z)];exact q,fun b ps q=>⟨#[],by rw[a0j (hm b _ q fun z=>z),q];simp⟩⟩
 by_cases hbe:b=e
 ·subst hbe;exact heo
 ·exact⟨u,k b u hbe q⟩
end
def trk(h:Heap)(H:Hp):List Addr:=(List.range h.objs.size).filter fun a=>(H a).isSome
def hidT(h:Heap)(H:Hp):Heap:=W.hideAll h (trk h H)
theorem c9o(h:Heap)(H:Hp):(hidT h H).objs.size=h.objs.size:=W.hideAll_size _ _
theorem d2p{h:Heap}{H:Hp}{b:Addr}{o:Obj}(e:h.get? b=some o)(n:H b=none):(hidT h H).get? b=some o:=
 W.hideAll_get _ e fun hm=>by
  have q:(H b).isSome=true:=(List.mem_filter.mp hm).2
  rw[n]at q;simp at q
theorem of_hidT{h:Heap}{H:Hp}{b:Addr}{o:Obj}(e:(hidT h H).get? b=some o):h.get? b=some o/\H b=none:=by
 have e':h.get? b=some o:=W.of_hideAll (trk h H) e
 refine⟨e',?_⟩
 cases q:H b with
 |none=>rfl
 |some x=>
  have hm:b∈trk h H:=List.mem_filter.mpr ⟨Xi.mpr (Zs e'),by simp[q]⟩
  have z:(hidT h H).get? b=none:=W.hideAll_none (trk h H) hm
  rw[z]at e;cases e
def allNews(g h:Heap)(L:Addr):List (Addr×Obj):=(List.range h.objs.size).filterMap fun a=>if a=L\/(g.get? a).isSome=true then none else(h.get? a).map fun o=>(a,o)
def rest(g h:Heap)(L d:Addr):List (Addr×Obj):=(allNews g h L).filter fun p=>decide (p.1≠d)
structure Mod(K:W.Frag)(mg:Str->Option Value)(base:Heap):Prop where
 kin:K.In base
 glob:base.Ns mainGlobals mg
 blt:∃mb,base.Ns builtinsNs mb/\∀x:Str,x≠"__name__"->mb x=bootBuiltins x
 nolimit:base.NoLimit
structure Cx where
 prog:Program
 w:World
 K:W.Frag
 mg:Str->Option Value
 base:Heap
 A:Around
 N:List Str
 s₀:Shared
 H₀:Hp
 env:Env
 outer:List Env
 stack:List Env
 ex:List Addr
 fn:Str->Bool
 calm:Bool
 pn:List (Addr×Obj)
 xe:Value->Shared->Prop
def frs(l:List Env):List Addr:=l.filterMap (·.frame)
abbrev Cx.fs(X:Cx):List Addr:=frs X.outer
def Vis(sc:Scope)(x:Str):Prop:=sc.names.lookup x=some .local\/sc.names.lookup x=some .cell\/sc.names.lookup x=some .free
def Loc(sc:Scope)(x:Str):Prop:=sc.names.lookup x=some .local\/sc.names.lookup x=some .cell
def Look(env:Env)(h:Heap)(m:Str->Option Value)(x:Str)(u:Value):Prop:=
 (env.kindOf x=some .local/\m x=some u)\/((env.kindOf x=some .cell\/env.kindOf x=some .free)/\∃c,env.cells.lookup x=some c/\h.IsCell c (some u))
structure Cx.Ok(X:Cx):Prop where
 mod:Mod X.K X.mg X.base
 kind:X.env.scope.kind=.function
 glob:X.env.globals=mainGlobals
 blt:X.env.builtins=builtinsNs
 above:X.s₀.heap.objs.size<=X.env.locals
 inj:∀x y c,X.env.cells.lookup x=some c->X.env.cells.lookup y=some c->x=y
 has:∀x,(X.env.kindOf x=some .cell\/X.env.kindOf x=some .free)->∃c,X.env.cells.lookup x=some c
 cab:∀x c,X.fn x=true->X.env.cells.lookup x=some c->X.s₀.heap.objs.size<=c
 hd:X.calm=true->X.A.handled=none
 frames:X.A.frames=some X.stack
 stk:X.stack=X.outer\/(X.stack=X.env::X.outer/\X.env.frame=some X.env.locals)
 exf:∀b∈X.ex,b≠X.env.locals/\∀x c,X.env.cells.lookup x=some c->c≠b
 bs:∀b o,X.base.get? b=some o->X.s₀.heap.get? b=some o/\X.H₀ b=none
 bsz:X.base.objs.size<=X.s₀.heap.objs.size
 noex:∀b o,X.base.get? b=some o->b∉X.ex
 exfs:∀b∈X.ex,b∉X.fs
 funs:X.s₀.heap.FunFrames X.base X.outer
 frf:∀b∈X.fs,X.H₀ b=none
structure Inv(X:Cx)(pins:List (Addr×Obj))(σ:List (Option V))(H:Hp)(s:Shared):Prop where
 ok:X.Ok
 os:s.os=X.s₀.os
 bare:AllBare s.gens
 base:Un X.fs X.ex X.H₀ H X.s₀.heap s.heap
 loc:∃m,s.heap.Ns X.env.locals m/\∀(i:Nat)(x:Str)(v:V),X.N[i]? =some x->σ[i]? =some (some v)->Vis X.env.scope x->∃u,RelV v u/\Look X.env s.heap m x u
 cell:∀x c,X.env.cells.lookup x=some c->∃v,s.heap.IsCell c v
 free:H X.env.locals=none
 freeC:∀x c,X.env.cells.lookup x=some c->H c=none
 pin:∀p∈X.pn++pins,s.heap.get? p.1=some p.2/\H p.1=none/\p.1≠X.env.locals/\p.1∉X.fs/\∀v,p.2.data≠.cell v
 hok:HOk X.prog X.w H s.heap
 len:σ.length=X.N.length
section
variable{X:Cx}{pins:List (Addr×Obj)}{σ:List (Option V)}{H H':Hp}{s:Shared}{h':Heap}
theorem Cx.Ok.nofr(ok:X.Ok){b:Addr}{o:Obj}(e:X.base.get? b=some o):b∉X.fs:=fun hb=>by
 have:=(ok.funs.mem hb).1
 rw[e]at this;cases this
theorem Inv.bs(I:Inv X pins σ H s):∀b o,X.base.get? b=some o->s.heap.get? b=some o/\H b=none:=fun b o e=>
 ⟨I.base.keep b o (I.ok.bs b o e).1 (I.ok.bs b o e).2 (I.ok.nofr e) (I.ok.noex b o e),I.base.free b o (I.ok.bs b o e).1 (I.ok.bs b o e).2 (I.ok.noex b o e)⟩
theorem Inv.bk(I:Inv X pins σ H s):∀b o,X.base.get? b=some o->s.heap.get? b=some o:=fun b o e=>(I.bs b o e).1
theorem Inv.mod(I:Inv X pins σ H s):Mod X.K X.mg X.base:=I.ok.mod
theorem Inv.kIn(I:Inv X pins σ H s):X.K.In s.heap:=I.ok.mod.kin.keeps I.bk
theorem Inv.fr(I:Inv X pins σ H s):∃m,Fr X.base X.env.locals s.heap m:=
 let⟨m,hn,_⟩:=I.loc
 ⟨m,hn,I.bk,Zz I.ok.bsz I.ok.above⟩
theorem Inv.lt(I:Inv X pins σ H s):X.env.locals<s.heap.objs.size:=let⟨_,hn,_⟩:=I.loc;hn.lt
theorem Inv.sz(I:Inv X pins σ H s):X.s₀.heap.objs.size<=s.heap.objs.size:=Zz I.ok.above (Ta I.lt)
theorem Inv.nofs(I:Inv X pins σ H s){a:Addr}(h:s.heap.objs.size<=a):a∉X.fs:=fun hb=>by
 obtain⟨_,o,ho,_⟩:=I.ok.funs.mem hb
 exact absurd (Zx (Zs ho) (Zz I.sz h)) (Wj _)
theorem Inv.cne(I:Inv X pins σ H s):∀x c,X.env.cells.lookup x=some c->c≠X.env.locals:=fun x c e z=>by
 obtain⟨v,o,ho,hd⟩:=I.cell x c e
 obtain⟨m,⟨o',es,ep,ho',hd',_⟩,_⟩:=I.loc
 rw[z,ho']at ho;cases ho;rw[hd']at hd;cases hd
theorem Inv.funs(I:Inv X pins σ H s):s.heap.FunFrames X.base X.outer:=by
 have all:∀(l:List Env),(∀b∈frs l,b∈X.fs)->X.s₀.heap.FunFrames X.base l->s.heap.FunFrames X.base l:=by
  intro l
  induction l with
  |nil=>intro _ _;trivial
  |cons env r ih=>
   intro hs hl
   obtain⟨hk,⟨L,o,hf,hn,ho,hd⟩,hr⟩:=hl
   have hL:L∈X.fs:=hs L (by unfold frs;rw[V0,hf];exact Ze)
   obtain⟨sl,e⟩:=I.base.slot L o ho (I.ok.frf L hL) hL fun z=>I.ok.exfs L z hL
   exact⟨hk,⟨L,_,hf,hn,e,hd⟩,ih (fun b hb=>hs b (by unfold frs;rw[V0,hf];exact Zc _ hb)) hr⟩
 exact all X.outer (fun _ hb=>hb) I.ok.funs
theorem Inv.stack(I:Inv X pins σ H s):s.heap.FunFrames X.base X.stack:=by
 rcases I.ok.stk with e|⟨e,hf⟩
 ·rw[e];exact I.funs
 ·rw[e]
  obtain⟨m,hn,_⟩:=I.loc
  refine .cons (by rw[I.ok.kind];decide) hf hn ?_ I.funs
  exact Heap.get?_none_of_le (Zz I.ok.bsz I.ok.above)
theorem Inv.stkSub(I:Inv X pins σ H s):∀b∈frs X.stack,b∈X.env.locals::X.fs:=fun b hb=>by
 rcases I.ok.stk with e|⟨e,hf⟩
 ·rw[e]at hb;exact Zc _ hb
 ·rw[e]at hb
  unfold frs at hb
  rw[V0,hf]at hb
  exact hb
theorem Inv.stkFree(I:Inv X pins σ H s):∀b∈frs X.stack,H b=none:=fun b hb=>by
 rcases Zj.mp (I.stkSub b hb)with e|hb
 ·rw[e];exact I.free
 ·obtain⟨_,o,ho,_⟩:=I.ok.funs.mem hb
  exact I.base.free b o ho (I.ok.frf b hb) fun z=>I.ok.exfs b z hb
theorem Inv.step{g':Array GenState}{t':Nat}{d':Drawn}{ch:List Addr}(I:Inv X pins σ H s)
  (hch:∀b∈ch,(b∈X.ex\/X.s₀.heap.objs.size<=b)/\b≠X.env.locals/\(∀x c,X.env.cells.lookup x=some c->c≠b)/\∀p∈X.pn++pins,p.1≠b)
  (keep:∀b o,b≠X.env.locals->b∉X.fs->b∉ch->s.heap.get? b=some o->H b=none->h'.get? b=some o)
  (slot:∀b o,b≠X.env.locals->b∈X.fs->b∉ch->s.heap.get? b=some o->H b=none->∃sl,h'.get? b=some { o with slots:=sl})(free:∀b o,b∉ch->s.heap.get? b=some o->H b=none->H' b=none)
  (there:∀b o,b∉ch->s.heap.get? b=some o->∃o',h'.get? b=some o')
  (tups:∀b xs,H b=some (.tup xs)->H' b=some (.tup xs))(frzs:∀b o u,H b=some (.frz o u)->H' b=some (.frz o u))(tbls:∀b ps,H b=some (.tbl ps)->∃more,H' b=some (.tbl (ps++more)))
  (ns:∀m,s.heap.Ns X.env.locals m->h'.Ns X.env.locals m)(hok:HOk X.prog X.w H' h')(hg:AllBare g'):
  Inv X pins σ H' { s with heap:=h',gens:=g',drawn:=d',toks:=t'}:=by
 have neL:∀b o,X.s₀.heap.get? b=some o->b≠X.env.locals:=fun b o e=>Yc (Zx (Zs e) I.ok.above)
 have neC:∀b o,X.s₀.heap.get? b=some o->b∉X.ex->b∉ch:=fun b o e hx hb=>by
  rcases(hch b hb).1 with z|z
  ·exact hx z
  ·exact absurd (Zx (Zs e) z) (Wj _)
 have cellK:∀x c,X.env.cells.lookup x=some c->∀v,s.heap.IsCell c v->h'.IsCell c v:=fun x c e v ⟨o,ho,hd⟩=>by
  have nch:c∉ch:=fun z=>(hch c z).2.2.1 x c e rfl
  by_cases hc:c∈X.fs
  ·obtain⟨sl,q⟩:=slot c o (I.cne x c e) hc nch ho (I.freeC x c e)
   exact⟨_,q,hd⟩
  ·exact⟨o,keep c o (I.cne x c e) hc nch ho (I.freeC x c e),hd⟩
 refine⟨I.ok,I.os,hg,⟨fun b o e n hb hx=>?_,fun b o e n hb hx=>?_,fun b o e n hx=>?_,fun b o e hx=>?_,fun b xs e=>tups b xs (I.base.tups b xs e),fun b o xs e=>frzs b o xs (I.base.frzs b o xs e),fun b ps e=>?_⟩,?_,fun x c e=>?_,?_,fun x c e=>?_,fun p hp=>?_,hok,I.len⟩
 ·exact keep b o (neL b o e) hb (neC b o e hx) (I.base.keep b o e n hb hx) (I.base.free b o e n hx)
 ·obtain⟨sl,e1⟩:=I.base.slot b o e n hb hx
  obtain⟨sl',e2⟩:=slot b _ (neL b o e) hb (neC b o e hx) e1 (I.base.free b o e n hx)
  exact⟨sl',e2⟩
 ·obtain⟨o',e1⟩:=I.base.there b o e hx
  exact free b o' (neC b o e hx) e1 (I.base.free b o e n hx)
 ·obtain⟨o',e1⟩:=I.base.there b o e hx
  exact there b o' (neC b o e hx) e1
 ·obtain⟨m1,e1⟩:=I.base.tbls b ps e
  obtain⟨m2,e2⟩:=tbls b _ e1
  exact⟨m1++m2,by rw[e2,Array.append_assoc]⟩
 ·obtain⟨m,hn,hl⟩:=I.loc
  refine⟨m,ns m hn,fun i x v e1 e2 e3=>?_⟩
  obtain⟨u,r,l⟩:=hl i x v e1 e2 e3
  refine⟨u,r,?_⟩
  rcases l with l|⟨k,c,e,z⟩
  ·exact .inl l
  ·exact .inr ⟨k,c,e,cellK x c e _ z⟩
 ·obtain⟨v,z⟩:=I.cell x c e
  exact⟨v,cellK x c e v z⟩
 ·obtain⟨m,⟨o,_,_,ho,_⟩,_⟩:=I.loc
  exact free _ o (fun z=>(hch _ z).2.1 rfl) ho I.free
 ·obtain⟨v,o,ho,hd⟩:=I.cell x c e
  exact free c o (fun z=>(hch c z).2.2.1 x c e rfl) ho (I.freeC x c e)
 ·obtain⟨e,n,ne,nf,d⟩:=I.pin p hp
  have nch:p.1∉ch:=fun z=>(hch p.1 z).2.2.2 p hp rfl
  exact⟨keep p.1 p.2 ne nf nch e n,free p.1 p.2 nch e n,ne,nf,d⟩
theorem Inv.un{t':Nat}(I:Inv X pins σ H s)(u:Un X.fs [] H H' s.heap h')(hok:HOk X.prog X.w H' h'):Inv X pins σ H' { s with heap:=h',toks:=t'}:=by
 obtain⟨m,⟨o,es,ep,ho,r⟩,_⟩:=id I.loc
 obtain⟨sl,hL⟩:=u.any ho I.free (by simp)
 exact I.step (g':=s.gens) (d':=s.drawn) (ch:=[]) (fun _ z=>nomatch z) (fun b o _ hb _ e n=>u.keep b o e n hb (by simp)) (fun b o _ hb _ e n=>u.slot b o e n hb (by simp)) (fun b o _ e n=>u.free b o e n (by simp)) (fun b o _ e=>u.there b o e (by simp)) u.tups u.frzs u.tbls (fun m' hm=>by
  obtain⟨o',es',ep',ho',r'⟩:=hm
  rw[ho]at ho';cases ho'
  exact⟨_,es',ep',hL,r'⟩) hok I.bare
theorem Inv.call{g':Array GenState}{t':Nat}{d':Drawn}{ch:List Addr}(I:Inv X pins σ H s)(u:Un (frs X.stack) ch H H' s.heap h')(hok:HOk X.prog X.w H' h')(hg:AllBare g')
  (hch:∀b∈ch,(b∈X.ex\/X.s₀.heap.objs.size<=b)/\b≠X.env.locals/\(∀x c,X.env.cells.lookup x=some c->c≠b)/\∀p∈X.pn++pins,p.1≠b):
  Inv X pins σ H' { s with heap:=h',gens:=g',drawn:=d',toks:=t'}:=by
 obtain⟨m,⟨o,es,ep,ho,r⟩,_⟩:=id I.loc
 obtain⟨sl,hL⟩:=u.any ho I.free fun z=>(hch _ z).2.1 rfl
 exact I.step (ch:=ch) hch (fun b o hL hb hc e n=>u.keep b o e n (fun z=>(Zj.mp (I.stkSub b z)).elim hL hb) hc) (fun b o _ _ hc e n=>u.any e n hc) (fun b o hc e n=>u.free b o e n hc) (fun b o hc e=>u.there b o e hc) u.tups u.frzs u.tbls (fun m' hm=>by
  obtain⟨o',es',ep',ho',r'⟩:=hm
  rw[ho]at ho';cases ho'
  exact⟨_,es',ep',hL,r'⟩) hok hg
theorem Inv.turned{t':Nat}{it:Addr}(I:Inv X pins σ H s)(k:∀b o,b≠it->s.heap.get? b=some o->h'.get? b=some o)(hn:H it=none)(hL:it≠X.env.locals)
  (h1:it∈X.ex\/X.s₀.heap.objs.size<=it)(h2:∀x c,X.env.cells.lookup x=some c->c≠it)(h3:∀p∈X.pn++pins,p.1≠it):Inv X pins σ H { s with heap:=h',toks:=t'}:=by
 have nit:∀b u,H b=some u->b≠it:=fun b u e z=>by rw[z,hn]at e;cases e
 refine I.step (g':=s.gens) (d':=s.drawn) (ch:=[it]) (fun b hb=>?_) (fun b o _ _ hc e _=>k b o (fun z=>hc (by simp[z])) e) (fun b o _ _ hc e _=>⟨o.slots,k b o (fun z=>hc (by simp[z])) e⟩) (fun _ _ _ _ n=>n)
  (fun b o hc e=>⟨o,k b o (fun z=>hc (by simp[z])) e⟩) (fun _ _ e=>e) (fun _ _ _ e=>e) (fun b ps e=>⟨#[],by rw[e];simp⟩) (fun m hm=>?_) (fun b u e=>?_) I.bare
 ·have e:b=it:=by simpa using hb
  subst e
  exact⟨h1,hL,h2,h3⟩
 ·obtain⟨o,es,ep,ho,r⟩:=hm
  exact⟨o,es,ep,k _ o (Ne.symm hL) ho,r⟩
 ·refine(I.hok b u e).stay (fun c v hc q=>k c v ?_ q) (fun _ q=>q) fun _ _ q=>q
  rcases hc with z|z
  ·rw[z];exact nit b u e
  ·exact nit c _ z
theorem Inv.tok(I:Inv X pins σ H s)(t:Nat):Inv X pins σ H { s with toks:=t}:=I.un (h':=s.heap) (t':=t) Un.refl I.hok
theorem Inv.kept{t':Nat}(I:Inv X pins σ H s)(k:∀b u,s.heap.get? b=some u->h'.get? b=some u):Inv X pins σ H { s with heap:=h',toks:=t'}:=I.un (Un.kept k) (I.hok.kept k)
theorem Inv.laid{a:Addr}{o:HO}{t':Nat}(I:Inv X pins σ H s)(k:∀b u,s.heap.get? b=some u->h'.get? b=some u)(hp:s.heap.objs.size<=a)(new:a1y X.prog X.w (upd H a o) h' a o):
  Inv X pins σ (upd H a o) { s with heap:=h',toks:=t'}:=I.un (Un.laid k hp (I.hok.fresh hp)) (I.hok.laid k hp new)
theorem Inv.write{x e:Addr}{o:HO}{t':Nat}(I:Inv X pins σ H s)(mu:Mut (H x))(he:e=x\/H e=some (.own x))(k:∀b u,b≠e->s.heap.get? b=some u->h'.get? b=some u)(heo:∃u,h'.get? e=some u)
  (new:a1y X.prog X.w (upd H x o) h' x o):Inv X pins σ (upd H x o) { s with heap:=h',toks:=t'}:=I.un (Un.write mu he k heo) (I.hok.write mu he k heo new)
theorem Inv.pins_of{pins':List (Addr×Obj)}(I:Inv X pins σ H s)(h:∀p∈pins',s.heap.get? p.1=some p.2/\H p.1=none/\p.1≠X.env.locals/\p.1∉X.fs/\∀v,p.2.data≠.cell v):Inv X pins' σ H s:=
 ⟨I.ok,I.os,I.bare,I.base,I.loc,I.cell,I.free,I.freeC,fun p hp=>(Zv.mp hp).elim (fun z=>I.pin p (Xr _ z)) (h p),I.hok,I.len⟩
theorem b6x{N:List Str}(hN:N.Nodup){i j:Nat}{x:Str}(a:N[i]? =some x)(b:N[j]? =some x):i=j:=by
 obtain⟨h1,e1⟩:=Y0.mp a
 obtain⟨h2,e2⟩:=Y0.mp b
 exact(List.getElem_inj hN).mp (e1.trans e2.symm)
theorem c0w{M:Model}{A:Around}{E:Value->Shared->Prop}{i:Nat}{x:Str}{v:V}{u:Value}{Q:Unit->Shared->Prop}(I:Inv X pins σ H s)(hN:X.N.Nodup)(hi:X.N[i]? =some x)(hx:Loc X.env.scope x)(r:RelV v u)
  (h:∀s',Inv X pins (σ.set i (some v)) H s'->(∃a,Heap.SameBut a s.heap s'.heap/\(a=X.env.locals\/X.env.cells.lookup x=some a))->Q () s')(hf:X.fn x=true\/X.env.scope.names.lookup x=some .local:=by first|exact .inl rfl|exact .inr rfl|assumption):wpAny M A (storeName X.env x u) Q E s:=by
 obtain⟨m,hn,hl⟩:=id I.loc
 have hcls:(X.env.scope.kind==.class|| (X.env.scope.kind==.module&&X.env.locals !=X.env.globals))=false:=by rw[I.ok.kind];rfl
 have hiσ:i<σ.length:=by rw[I.len];exact(Y0.mp hi).1
 have cne:=I.cne
 have tracked:∀{a:Addr}{h':Heap},(∃o,s.heap.get? a=some o/\H a=none)->Heap.SameBut a s.heap h'->HOk X.prog X.w H h':=fun{a h'} ha hs b ob e=>by
  obtain⟨_,_,hfree⟩:=ha
  refine(I.hok b ob e).stay (fun c w' hc q=>(hs.2 c ?_).trans q) (fun _ q=>q) fun _ _ q=>q
  rintro rfl
  rcases hc with rfl|hc
  ·rw[hfree]at e;cases e
  ·rw[hfree]at hc;cases hc
 rcases hx with hk|hk
 ·refine wpAny_storeName_local hk hn (fun h' hn' hs=>?_) hcls
  obtain⟨oL,_,_,hoL,_⟩:=id hn
  refine h _ ⟨I.ok,I.os,I.bare,⟨fun b o e n hb hx=>?_,fun b o e n hb hx=>?_,I.base.free,fun b o e hx=>?_,I.base.tups,I.base.frzs,I.base.tbls⟩,⟨_,hn',fun j y v' e1 e2 e3=>?_⟩,fun y c e=>?_,I.free,I.freeC,fun p hp=>?_,tracked ⟨oL,hoL,I.free⟩ hs,by simpa using I.len⟩ ⟨_,hs,.inl rfl⟩
  ·exact(hs.2 b (Yc (Zx (Zs e) I.ok.above))).trans (I.base.keep b o e n hb hx)
  ·obtain⟨sl,e1⟩:=I.base.slot b o e n hb hx
   exact⟨sl,(hs.2 b (Yc (Zx (Zs e) I.ok.above))).trans e1⟩
  ·obtain⟨o',e1⟩:=I.base.there b o e hx
   exact⟨o',(hs.2 b (Yc (Zx (Zs e) I.ok.above))).trans e1⟩
  ·by_cases hj:j=i
   ·subst hj
    rw[hi]at e1;cases e1
    rw[Vk hiσ]at e2
    cases e2
    exact⟨u,r,.inl ⟨hk,by simp⟩⟩
   ·rw[Vw (Ne.symm hj)]at e2
    obtain⟨u',r',q⟩:=hl j y v' e1 e2 e3
    refine⟨u',r',?_⟩
    rcases q with⟨k,e⟩|⟨k,c,e,z⟩
    ·refine .inl ⟨k,?_⟩
     have:y≠x:=fun e=>hj (b6x hN e1 (e▸hi))
     simp[this,e]
    ·exact .inr ⟨k,c,e,z.sameBut hs (cne y c e)⟩
  ·obtain⟨w',z⟩:=I.cell y c e
   exact⟨w',z.sameBut hs (cne y c e)⟩
  ·obtain⟨e,n,ne,nf,d⟩:=I.pin p hp
   exact⟨(hs.2 p.1 ne).trans e,n,ne,nf,d⟩
 ·have hfn:X.fn x=true:=by
   rcases hf with z|z
   ·exact z
   ·rw[z]at hk;cases hk
  obtain⟨c,hc⟩:=I.ok.has x (.inl hk)
  obtain⟨w',z⟩:=I.cell x c hc
  refine wpAny_storeName_cell I.ok.kind hk hc z (fun h' hc' hs=>?_)
  obtain⟨oc,hoc,hocd⟩:=id z
  refine h { s with heap:=h'} ⟨I.ok,I.os,I.bare,⟨fun b o e n hb hx=>?_,fun b o e n hb hx=>?_,I.base.free,fun b o e hx=>?_,I.base.tups,I.base.frzs,I.base.tbls⟩,⟨m,hn.sameBut hs (Ne.symm (cne x c hc)),fun j y v' e1 e2 e3=>?_⟩,fun y c' e=>?_,I.free,I.freeC,fun p hp=>?_,tracked ⟨oc,hoc,I.freeC x c hc⟩ hs,by simpa using I.len⟩ ⟨c,hs,.inr hc⟩
  ·exact(hs.2 b (Yc (Zx (Zs e) (I.ok.cab x c hfn hc)))).trans (I.base.keep b o e n hb hx)
  ·obtain⟨sl,e1⟩:=I.base.slot b o e n hb hx
   exact⟨sl,(hs.2 b (Yc (Zx (Zs e) (I.ok.cab x c hfn hc)))).trans e1⟩
  ·obtain⟨o',e1⟩:=I.base.there b o e hx
   exact⟨o',(hs.2 b (Yc (Zx (Zs e) (I.ok.cab x c hfn hc)))).trans e1⟩
  ·by_cases hj:j=i
   ·subst hj
    rw[hi]at e1;cases e1
    rw[Vk hiσ]at e2
    cases e2
    exact⟨u,r,.inr ⟨.inl hk,c,hc,hc'⟩⟩
   ·rw[Vw (Ne.symm hj)]at e2
    obtain⟨u',r',q⟩:=hl j y v' e1 e2 e3
    refine⟨u',r',?_⟩
    rcases q with q|⟨k,c',e,z'⟩
    ·exact .inl q
    ·refine .inr ⟨k,c',e,z'.sameBut hs ?_⟩
     rintro rfl
     exact hj (b6x hN e1 (I.ok.inj _ _ _ e hc▸hi))
  ·by_cases hcc:c'=c
   ·subst hcc;exact⟨_,hc'⟩
   ·obtain⟨w2,z2⟩:=I.cell y c' e
    exact⟨w2,z2.sameBut hs hcc⟩
  ·obtain⟨e,n,ne,nf,d⟩:=I.pin p hp
   refine⟨(hs.2 p.1 ?_).trans e,n,ne,nf,d⟩
   intro q
   rw[q,hoc]at e
   have q':oc=p.2:=Zq e
   exact d w' (by rw[<-q'];exact hocd)
theorem a7r{M:Model}{A:Around}{E:Value->Shared->Prop}{i:Nat}{x:Str}{v:V}{u:Value}{Q:Unit->Shared->Prop}(I:Inv X pins σ H s)(hN:X.N.Nodup)(hi:X.N[i]? =some x)(hx:Loc X.env.scope x)(r:RelV v u)
  (h:∀s',Inv X pins (σ.set i (some v)) H s'->Q () s')(hf:X.fn x=true\/X.env.scope.names.lookup x=some .local:=by first|exact .inl rfl|exact .inr rfl|assumption):wpAny M A (storeName X.env x u) Q E s:=
 c0w I hN hi hx r (fun s' I' _=>h s' I') hf
theorem Inv.call'{s':Shared}{ch:List Addr}(I:Inv X pins σ H s)(ho:s'.os=s.os)(u:Un (frs X.stack) ch H H' s.heap s'.heap)(hok:HOk X.prog X.w H' s'.heap)(hg:AllBare s'.gens)
  (hch:∀b∈ch,(b∈X.ex\/X.s₀.heap.objs.size<=b)/\b≠X.env.locals/\(∀x c,X.env.cells.lookup x=some c->c≠b)/\∀p∈X.pn++pins,p.1≠b):Inv X pins σ H' s':=by
 obtain⟨h',g',d',t',o'⟩:=s'
 have e:o'=s.os:=ho
 subst e
 exact I.call (g':=g') (t':=t') (d':=d') u hok hg hch
end
abbrev XK:=Value->Option Addr->Hp->Prop
abbrev St:=List (Option V)
abbrev VK:=V->Hp->Prop
abbrev TE:=St->Hp->VK->Prop
abbrev TT:=St->Hp->(Bool->Hp->Prop)->Prop
abbrev TA:=St->Hp->(List V->Hp->Prop)->Prop
structure Ends where
 nx:St->Hp->Prop
 rt:VK
 bk:St->Hp->Prop:=fun _ _=>False
 ct:St->Hp->Prop:=fun _ _=>False
abbrev TS:=Ends->St->Hp->Prop
def EP(X:Cx)(pins:List (Addr×Obj))(σ:St)(Q:VK)(u:Value)(s':Shared):Prop:=∃v H',Inv X pins σ H' s'/\RelV v u/\Q v H'
def TP(X:Cx)(pins:List (Addr×Obj))(σ:St)(Q:Bool->Hp->Prop)(b:Bool)(s':Shared):Prop:=∃H',Inv X pins σ H' s'/\Q b H'
def AP(X:Cx)(pins:List (Addr×Obj))(σ:St)(Q:List V->Hp->Prop)(us:List Value)(s':Shared):Prop:=∃vs H',Inv X pins σ H' s'/\Vals vs us/\Q vs H'
def SP(X:Cx)(pins:List (Addr×Obj))(D:Ends)(f:Flow)(s':Shared):Prop:=
 match f with
 | .next=>∃σ' H',Inv X pins σ' H' s'/\D.nx σ' H'
 | .brk=>∃σ' H',Inv X pins σ' H' s'/\D.bk σ' H'
 | .cont=>∃σ' H',Inv X pins σ' H' s'/\D.ct σ' H'
 | .ret u=>∃v σ' H',Inv X pins σ' H' s'/\RelV v u/\D.rt v H'
def PE(X:Cx)(e:Expr)(t:TE):Prop:=
 ∀(pins:List (Addr×Obj))(s:Shared)(σ:St)(H:Hp)(Q:VK),Inv X pins σ H s->t σ H Q->wpAny (model X.prog X.w) X.A (eval e X.env) (EP X pins σ Q) X.xe s
def PT(X:Cx)(e:Expr)(t:TT):Prop:=
 ∀(pins:List (Addr×Obj))(s:Shared)(σ:St)(H:Hp)(Q:Bool->Hp->Prop),Inv X pins σ H s->t σ H Q->wpAny (model X.prog X.w) X.A (isTrue e X.env (eval e X.env)) (TP X pins σ Q) X.xe s
def PW(X:Cx)(e:Expr)(t:TT):Prop:=
 ∀(whole:Sem Value)(pins:List (Addr×Obj))(s:Shared)(σ:St)(H:Hp)(Q:Bool->Hp->Prop),Inv X pins σ H s->t σ H Q->wpAny (model X.prog X.w) X.A (isTrue e X.env whole) (TP X pins σ Q) X.xe s
theorem PW.pt{X:Cx}{e:Expr}{t:TT}(h:PW X e t):PT X e t:=h _
def PA(X:Cx)(es:List Expr)(t:TA):Prop:=
 ∀(pos:Pos)(pins:List (Addr×Obj))(s:Shared)(σ:St)(H:Hp)(Q:List V->Hp->Prop),Inv X pins σ H s->t σ H Q->wpAny (model X.prog X.w) X.A (spliced (backTo pos (starEach es X.env))) (AP X pins σ Q) X.xe s
def PS(X:Cx)(st:Stmt)(t:TS):Prop:=
 ∀(pins:List (Addr×Obj))(s:Shared)(σ:St)(H:Hp)(D:Ends),Inv X pins σ H s->t D σ H->wpAny (model X.prog X.w) X.A (exec st X.env) (SP X pins D) X.xe s
def PSs(X:Cx)(st:List Stmt)(t:TS):Prop:=
 ∀(pins:List (Addr×Obj))(s:Shared)(σ:St)(H:Hp)(D:Ends),Inv X pins σ H s->t D σ H->wpAny (model X.prog X.w) X.A (execs st X.env) (SP X pins D) X.xe s
theorem thn{α:Type}{t:Sem α}{Q Q':α->Shared->Prop}{M:Model}{A:Around}{E:Value->Shared->Prop}{s:Shared}(h:wpAny M A t Q E s)(hQ:∀a s,Q a s->Q' a s):wpAny M A t Q' E s:=Xg h hQ fun _ _ x=>x
section
variable{X:Cx}
def tVar(i:Nat):TE:=fun σ H Q=>∃v,σ[i]? =some (some v)/\Q v H
def tC(v:V):TE:=fun _ H Q=>Q v H
theorem pe_var{i:Nat}{x:Str}{pos:Pos}(hN:X.N[i]? =some x)(hv:Vis X.env.scope x)(hd:(x==("__debug__":Str))=false:=by decide)(hcd:(x==("__classdict__":Str))=false:=by decide):PE X (.Name x pos) (tVar i):=by
 intro pins s σ H Q I h
 obtain⟨v,e,h⟩:=h
 obtain⟨m,hn,hl⟩:=I.loc
 obtain⟨u,r,l⟩:=hl i x v hN e hv
 have fin:EP X pins σ Q u s:=⟨v,H,I,r,h⟩
 rcases l with⟨hk,hm⟩|⟨hk,c,hc,hcell⟩
 ·exact Sb (Tk I.ok.kind hk hn hm fin) hd
 ·rcases hk with hk|hk
  ·exact Sb (Tx I.ok.kind hk hc hcell fin) hd
  ·exact Sb (wpAny_loadName_free I.ok.kind hk hc hcell fin hcd) hd
theorem a0e{i j pos}:PE X (.Constant (.int i) j pos) (tC (.int i)):=fun _ _ _ H _ I h=>wpAny_Constant_int ⟨.int i,H,I.tok _,⟨_,rfl⟩,h⟩
theorem a3b{b j pos}:PE X (.Constant (.bool b) j pos) (tC (.bl b)):=fun _ _ _ H _ I h=>Constant_bool ⟨.bl b,H,I,rfl,h⟩
theorem a0f{x j pos}:PE X (.Constant (.str x) j pos) (tC (.str x)):=fun _ _ _ H _ I h=>Xj ⟨.str x,H,I.tok _,⟨_,rfl⟩,h⟩
def Gl(X:Cx)(x:Str):Prop:=X.env.kindOf x=some .globalImplicit
theorem a8y{E:Value->Shared->Prop}{pins:List (Addr×Obj)}{s:Shared}{σ:St}{H:Hp}{x:Str}{u:Value}{pos:Pos}{Q:Value->Shared->Prop}(I:Inv X pins σ H s)(hg:Gl X x)(hm:X.mg x=some u)(h:Q u s)
  (hd:(x==("__debug__":Str))=false:=by decide):wpAny (model X.prog X.w) X.A (eval (.Name x pos) X.env) Q E s:=
 Us I.ok.kind hg (Calls.loadGlobal_global (by rw[I.ok.glob];exact I.mod.glob.keeps I.bk) hm h) hd
theorem b2x{E:Value->Shared->Prop}{pins:List (Addr×Obj)}{s:Shared}{σ:St}{H:Hp}{x:Str}{u:Value}{pos:Pos}{Q:Value->Shared->Prop}(I:Inv X pins σ H s)(hg:Gl X x)(hm:X.mg x=none)(hv:bootBuiltins x=some u)(h:Q u s)
  (hn:x≠"__name__":=by decide)(hd:(x==("__debug__":Str))=false:=by decide):wpAny (model X.prog X.w) X.A (eval (.Name x pos) X.env) Q E s:=by
 obtain⟨mb,h1,h2⟩:=I.mod.blt
 exact Us I.ok.kind hg (Calls.loadGlobal_builtin (by rw[I.ok.glob];exact I.mod.glob.keeps I.bk) hm (by rw[I.ok.blt];exact h1.keeps I.bk) ((h2 x hn).trans hv) h) hd
theorem a5j{x:Str}{v:V}{u:Value}{pos:Pos}(hg:Gl X x)(hm:X.mg x=some u)(r:RelV v u)(hd:(x==("__debug__":Str))=false:=by decide):PE X (.Name x pos) (tC v):=
 fun _ _ _ H _ I h=>a8y I hg hm ⟨v,H,I,r,h⟩ hd
theorem pe_bltn{x:Str}{v:V}{u:Value}{pos:Pos}(hg:Gl X x)(hm:X.mg x=none)(hv:bootBuiltins x=some u)(r:RelV v u)(hn:x≠"__name__":=by decide)(hd:(x==("__debug__":Str))=false:=by decide):PE X (.Name x pos) (tC v):=
 fun _ _ _ H _ I h=>b2x I hg hm hv ⟨v,H,I,r,h⟩ hn hd
variable{a b:Expr}{ta tb:TE}{pos:Pos}
def PC(X:Cx)(op:CmpOp)(a b:Expr)(t:TE):Prop:=
 ∀(pins:List (Addr×Obj))(s:Shared)(σ:St)(H:Hp)(Q:VK),Inv X pins σ H s->t σ H Q->
  wpAny (model X.prog X.w) X.A (eval a X.env) (fun v s₁=>wpAny (model X.prog X.w) X.A (eval b X.env) (fun u s₂=>wpAny (model X.prog X.w) X.A (compareOp op v u) (EP X pins σ Q) X.xe s₂) X.xe s₁) X.xe s
variable{tA tB':TT}{rest:List Expr}
def tAnd(t u:TT):TT:=fun σ H Q=>t σ H fun c H1=>if c=true then u σ H1 Q else Q false H1
def tOr(t u:TT):TT:=fun σ H Q=>t σ H fun c H1=>if c=true then Q true H1 else u σ H1 Q
def tNot(t:TT):TT:=fun σ H Q=>t σ H fun c H1=>Q (!c) H1
theorem a6u(ha:PT X a tA):PW X (.BoolOp .And [a] pos) tA:=by
 intro wh pins s σ H Q I h
 refine isTrue_and (thn (ha pins s σ H Q I h) fun c s1 e=>?_)
 cases c with
 |true=>exact isTrue_and_nil e
 |false=>exact e
theorem b2y(ha:PT X a tA):PW X (.BoolOp .Or [a] pos) tA:=by
 intro wh pins s σ H Q I h
 refine isTrue_or (thn (ha pins s σ H Q I h) fun c s1 e=>?_)
 cases c with
 |false=>exact isTrue_or_nil e
 |true=>exact e
theorem a8k(ha:PT X a tA)(hb:PW X (.BoolOp .And (b::rest) pos) tB'):PW X (.BoolOp .And (a::b::rest) pos) (tAnd tA tB'):=by
 intro wh pins s σ H Q I h
 refine isTrue_and (thn (ha pins s σ H _ I h) fun c s1 ⟨H1,I1,q1⟩=>?_)
 cases c with
 |true=>exact hb wh pins s1 σ H1 Q I1 q1
 |false=>exact⟨H1,I1,q1⟩
theorem b3y(ha:PT X a tA)(hb:PW X (.BoolOp .Or (b::rest) pos) tB'):PW X (.BoolOp .Or (a::b::rest) pos) (tOr tA tB'):=by
 intro wh pins s σ H Q I h
 refine isTrue_or (thn (ha pins s σ H _ I h) fun c s1 ⟨H1,I1,q1⟩=>?_)
 cases c with
 |true=>exact⟨H1,I1,q1⟩
 |false=>exact hb wh pins s1 σ H1 Q I1 q1
theorem a4i(ha:PT X a tA):PT X (.UnaryOp .Not a pos) (tNot tA):=by
 intro pins s σ H Q I h
 exact isTrue_not (ha pins s σ H (fun c H1=>Q (!c) H1) I h)
def tAndV(ta tb:TE):TE:=fun σ H Q=>ta σ H fun x H1=>∃c,x=.bl c/\if c=true then tb σ H1 Q else Q (.bl false) H1
def tOrV(ta tb:TE):TE:=fun σ H Q=>ta σ H fun x H1=>∃c,x=.bl c/\if c=true then Q (.bl true) H1 else tb σ H1 Q
theorem b2z{op}{t:TE}(h:PE X a t):PE X (.BoolOp op [a] pos) t:=fun pins s σ H Q I hw=>BoolOp_one (h pins s σ H Q I hw)
theorem pe_and(ha:PE X a ta)(hb:PE X (.BoolOp .And (b::rest) pos) tb):PE X (.BoolOp .And (a::b::rest) pos) (tAndV ta tb):=by
 intro pins s σ H Q I h
 refine BoolOp_and (thn (ha pins s σ H _ I h) fun v s1 ⟨x,H1,I1,r1,q1⟩=>?_)
 obtain⟨c,rfl,q1⟩:=q1
 cases r1
 refine Y6 ?_
 cases c with
 |true=>exact hb pins s1 σ H1 Q I1 q1
 |false=>exact⟨.bl false,H1,I1,rfl,q1⟩
theorem pe_or(ha:PE X a ta)(hb:PE X (.BoolOp .Or (b::rest) pos) tb):PE X (.BoolOp .Or (a::b::rest) pos) (tOrV ta tb):=by
 intro pins s σ H Q I h
 refine BoolOp_or (thn (ha pins s σ H _ I h) fun v s1 ⟨x,H1,I1,r1,q1⟩=>?_)
 obtain⟨c,rfl,q1⟩:=q1
 cases r1
 refine Y6 ?_
 cases c with
 |false=>exact hb pins s1 σ H1 Q I1 q1
 |true=>exact⟨.bl true,H1,I1,rfl,q1⟩
def tIf(t:TT)(ta tb:TE):TE:=fun σ H Q=>t σ H fun c H1=>if c=true then ta σ H1 Q else tb σ H1 Q
theorem c3b{c:Expr}(hc:PT X c tA)(ha:PE X a ta)(hb:PE X b tb):PE X (.IfExp c a b pos) (tIf tA ta tb):=by
 intro pins s σ H Q I h
 refine wpAny_IfExp (thn (hc pins s σ H _ I h) fun d s1 ⟨H1,I1,q1⟩=>?_)
 cases d with
 |true=>exact ha pins s1 σ H1 Q I1 q1
 |false=>exact hb pins s1 σ H1 Q I1 q1
end
def SqL(K:W.Frag)(H:Hp)(a:Addr)(xs:List V):Prop:=
 Rd H a (.lst xs)\/
  ∃(o:Obj)(its:Array Value)(n:Nat),K.lookup a=some o/\o.cls=.type "list"/\o.dict=none/\o.data=.seq its n/\its.size<=sizeLine/\Vals xs its.toList
def SqT(K:W.Frag)(H:Hp)(a:Addr)(xs:List V):Prop:=
 Rd H a (.tup xs)\/
  ∃(o:Obj)(its:Array Value)(n:Nat),K.lookup a=some o/\o.cls=.type "tuple"/\o.data=.seq its n/\its.size<=sizeLine/\Vals xs its.toList
def absV:Value->Option V
 | .none=>some .non
 | .bool b=>some (.bl b)
 | .int i _=>some (.int i)
 | .str x _=>some (.str x)
 | .bytes b _=>some (.byt b)
 | .float b _=>some (.flt b)
 | .ref a=>some (.ref a)
 | .type n=>some (.ty n)
 |_=>none
theorem RelV.abs{x:V}{u:Value}(r:RelV x u):absV u=some x:=by
 cases x with
 |non=>cases r;rfl
 |bl _=>cases r;rfl
 |int _=>obtain⟨t,rfl⟩:=r;rfl
 |str _=>obtain⟨t,rfl⟩:=r;rfl
 |byt _=>obtain⟨t,rfl⟩:=r;rfl
 |flt _=>obtain⟨t,rfl⟩:=r;rfl
 |ref _=>cases r;rfl
 |ty _=>cases r;rfl
theorem RelV.inj{x y:V}{u:Value}(r:RelV x u)(q:RelV y u):x=y:=Zq (r.abs.symm.trans q.abs)
theorem Vals.inj:∀{xs ys:List V}{us:List Value},Vals xs us->Vals ys us->xs=ys
 |_,_,_,.nil,.nil=>rfl
 |_,_,_,.cons r t,.cons r' t'=>by rw[r.inj r',Vals.inj t t']
section
variable{X:Cx}{pins:List (Addr×Obj)}{σ:St}{H:Hp}{s:Shared}{a:Addr}{xs ys:List V}
theorem SqL.of{K:W.Frag}(h:H a=some (.lst xs)):SqL K H a xs:=.inl (.inl h)
theorem SqT.of{K:W.Frag}(h:H a=some (.tup xs)):SqT K H a xs:=.inl (.inl h)
theorem Inv.list(I:Inv X pins σ H s)(h:SqL X.K H a xs):∃its:List Value,Vals xs its/\PlainL s.heap a its.toArray/\xs.length<=sizeLine:=by
 rcases h with h|⟨o,its,n,hk,hc,hd,hs,hz,r⟩
 ·obtain⟨z,its,n,r,e⟩:=h.ok I.hok
  exact⟨its,r,⟨_,n,e,rfl,rfl,rfl⟩,z⟩
 ·refine⟨its.toList,r,⟨o,n,I.kIn a o hk,hc,hd,by simpa using hs⟩,?_⟩
  have e:=r.length
  simp only[Xx]at e
  omega
theorem Inv.tuple(I:Inv X pins σ H s)(h:SqT X.K H a xs):∃its:List Value,Vals xs its/\IsTup s.heap a its.toArray/\xs.length<=sizeLine:=by
 rcases h with h|⟨o,its,n,hk,hc,hs,hz,r⟩
 ·obtain⟨z,its,r,p⟩:=h.ok I.hok
  exact⟨its,r,p,z⟩
 ·refine⟨its.toList,r,⟨o,I.kIn a o hk,hc,n,by simpa using hs⟩,?_⟩
  have e:=r.length
  simp only[Xx]at e
  omega
theorem Inv.list_inj(I:Inv X pins σ H s)(h:SqL X.K H a xs)(h':SqL X.K H a ys):xs=ys:=by
 obtain⟨its,r,⟨o,n,e,_,_,d⟩,_⟩:=I.list h
 obtain⟨its',r',⟨o',n',e',_,_,d'⟩,_⟩:=I.list h'
 rw[e]at e';cases e'
 rw[d]at d'
 injection d' with d1 _
 have:its=its':=by simpa using Ys Array.toList d1
 subst this
 exact r.inj r'
theorem Inv.tuple_inj(I:Inv X pins σ H s)(h:SqT X.K H a xs)(h':SqT X.K H a ys):xs=ys:=by
 obtain⟨its,r,⟨o,e,_,n,d⟩,_⟩:=I.tuple h
 obtain⟨its',r',⟨o',e',_,n',d'⟩,_⟩:=I.tuple h'
 rw[e]at e';cases e'
 rw[d]at d'
 injection d' with d1 _
 have:its=its':=by simpa using Ys Array.toList d1
 subst this
 exact r.inj r'
end
abbrev Cx.wish(X:Cx)(E:Value->Shared->Prop):Cx:={ X with xe:=E}
abbrev Cx.nox(X:Cx):Cx:=X.wish fun _ _=>False
theorem Cx.Ok.wish{X:Cx}(ok:X.Ok)(E:Value->Shared->Prop):(X.wish E).Ok:=
 ⟨ok.mod,ok.kind,ok.glob,ok.blt,ok.above,ok.inj,ok.has,ok.cab,ok.hd,ok.frames,ok.stk,ok.exf,ok.bs,ok.bsz,ok.noex,ok.exfs,ok.funs,ok.frf⟩
theorem Cx.Ok.unwish{X:Cx}{E:Value->Shared->Prop}(ok:(X.wish E).Ok):X.Ok:=
 ⟨ok.mod,ok.kind,ok.glob,ok.blt,ok.above,ok.inj,ok.has,ok.cab,ok.hd,ok.frames,ok.stk,ok.exf,ok.bs,ok.bsz,ok.noex,ok.exfs,ok.funs,ok.frf⟩
section
variable{X:Cx}{pins:List (Addr×Obj)}{σ:St}{H:Hp}{s:Shared}{E:Value->Shared->Prop}
theorem Inv.wish(I:Inv X pins σ H s)(E:Value->Shared->Prop):Inv (X.wish E) pins σ H s:=⟨I.ok.wish E,I.os,I.bare,I.base,I.loc,I.cell,I.free,I.freeC,I.pin,I.hok,I.len⟩
theorem Inv.unwish(I:Inv (X.wish E) pins σ H s):Inv X pins σ H s:=⟨I.ok.unwish,I.os,I.bare,I.base,I.loc,I.cell,I.free,I.freeC,I.pin,I.hok,I.len⟩
theorem SP.unwish{D:Ends}{f:Flow}{s':Shared}(h:SP (X.wish E) pins D f s'):SP X pins D f s':=by
 cases f with
 |next=>obtain⟨σ',H',I,q⟩:=h;exact⟨σ',H',I.unwish,q⟩
 |brk=>obtain⟨σ',H',I,q⟩:=h;exact⟨σ',H',I.unwish,q⟩
 |cont=>obtain⟨σ',H',I,q⟩:=h;exact⟨σ',H',I.unwish,q⟩
 |ret u=>obtain⟨v,σ',H',I,r,q⟩:=h;exact⟨v,σ',H',I.unwish,r,q⟩
theorem PSs.nox{st:List Stmt}{t:TS}(h:PSs X.nox st t):PSs X st t:=fun pins s σ H D I hw=>
 Xg (h pins s σ H D (I.wish _) hw) (fun _ _ q=>q.unwish) fun _ _ z=>False.elim z
end
section
variable{X:Cx}{st:Stmt}{rest:List Stmt}{t u:TS}{e:Expr}{te:TE}{pos:Pos}
def tNext:TS:=fun D σ H=>D.nx σ H
def tSeq(t u:TS):TS:=fun D σ H=>t { D with nx:=u D} σ H
theorem a0z:PSs X [] tNext:=fun _ _ σ H _ I h=>Xl ⟨σ,H,I,h⟩
theorem a0g(h1:PS X st t)(h2:PSs X rest u):PSs X (st::rest) (tSeq t u):=by
 intro pins s σ H D I h
 refine Wu (thn (h1 pins s σ H { D with nx:=u D} I h) fun f s1 q=>?_)
 cases f with
 |next=>
  obtain⟨σ',H',I',q⟩:=q
  exact h2 pins s1 σ' H' D I' q
 |ret v=>exact q
 |brk=>exact q
 |cont=>exact q
theorem a0h(h1:PS X st t):PSs X [st] t:=by
 intro pins s σ H D I h
 refine Wu (thn (h1 pins s σ H D I h) fun f s1 q=>?_)
 cases f with
 |next=>exact Xl q
 |ret v=>exact q
 |brk=>exact q
 |cont=>exact q
theorem Inv.quiet{pins:List (Addr×Obj)}{σ:St}{H:Hp}{s:Shared}(I:Inv X pins σ H s):interactive X.env=false:=by simp[interactive,I.ok.kind]
def tDrop(te:TE):TS:=fun D σ H=>te σ H fun _ H1=>D.nx σ H1
theorem a1m(he:PE X e te)(hs:swapsWith e none pos.line X.env=pure false:=by rfl):PS X (.Expr e pos) (tDrop te):=by
 intro pins s σ H D I h
 exact wpAny_Expr_any (thn (he pins s σ H _ I h) fun v s1 ⟨x,H1,I1,r1,q1⟩=>⟨σ,H1,I1,q1⟩) I.quiet hs
def tRet(te:TE):TS:=fun D σ H=>te σ H D.rt
theorem a0o(he:PE X e te):PS X (.Return (some e) pos) (tRet te):=by
 intro pins s σ H D I h
 exact wpAny_Return_some (thn (he pins s σ H _ I h) fun v s1 ⟨x,H1,I1,r1,q1⟩=>⟨x,σ,H1,I1,r1,q1⟩)
def tIfS(c:TT)(t u:TS):TS:=fun D σ H=>c σ H fun b H1=>if b=true then t D σ H1 else u D σ H1
theorem a1e{c:Expr}{a b:List Stmt}{tc:TT}(hc:PT X c tc)(ha:PSs X a t)(hb:PSs X b u):PS X (.If c a b pos) (tIfS tc t u):=by
 intro pins s σ H D I h
 refine wpAny_If (thn (hc pins s σ H _ I h) fun d s1 ⟨H1,I1,q1⟩=>?_)
 cases d with
 |true=>exact ha pins s1 σ H1 D I1 q1
 |false=>exact hb pins s1 σ H1 D I1 q1
def tNever:TS:=fun _ _ _=>False
theorem d2q:PS X st tNever:=fun _ _ _ _ _ _ h=>h.elim
end
abbrev TG:=V->St->Hp->(St->Hp->Prop)->Prop
def PG(X:Cx)(target:Expr)(t:TG):Prop:=
 ∀(pins:List (Addr×Obj))(s:Shared)(σ:St)(H:Hp)(v:V)(u:Value)(Q:St->Hp->Prop),Inv X pins σ H s->RelV v u->t v σ H Q->
  wpAny (model X.prog X.w) X.A (assign target X.env u) (fun _ s'=>∃σ' H',Inv X pins σ' H' s'/\Q σ' H') X.xe s
abbrev TSet:=V->V->V->Hp->(Hp->Prop)->Prop
def PSet(X:Cx)(t:TSet):Prop:=
 ∀(pins:List (Addr×Obj))(s:Shared)(σ:St)(H:Hp)(o i v:V)(ov iv u:Value)(Q:Hp->Prop),Inv X pins σ H s->RelV o ov->RelV i iv->RelV v u->t o i v H Q->
  wpAny (model X.prog X.w) X.A (setItem ov iv u) (fun _ s'=>∃H',Inv X pins σ H' s'/\Q H') X.xe s
abbrev TIp:=V->V->Hp->VK->Prop
def PIp(X:Cx)(op:Operator)(t:TIp):Prop:=
 ∀(pins:List (Addr×Obj))(s:Shared)(σ:St)(H:Hp)(x y:V)(v u:Value)(Q:VK),Inv X pins σ H s->RelV x v->RelV y u->t x y H Q->
  wpAny (model X.prog X.w) X.A (inplaceOp op v u) (EP X pins σ Q) X.xe s
section
variable{X:Cx}{pos:Pos}
def b5w(i:Nat):TG:=fun v σ H Q=>Q (σ.set i (some v)) H
theorem a6b{i:Nat}{x:Str}(hN:X.N.Nodup)(hi:X.N[i]? =some x)(hx:Loc X.env.scope x)(hf:X.fn x=true\/X.env.scope.names.lookup x=some .local:=by first|exact .inl rfl|exact .inr rfl|assumption):PG X (.Name x pos) (b5w i):=by
 intro pins s σ H v u Q I r h
 exact V5 (a7r I hN hi hx r (fun s' I'=>⟨_,H,I',h⟩) hf)
def gSub(to ti:TE)(t:TSet):TG:=fun v σ H Q=>to σ H fun o H1=>ti σ H1 fun i H2=>t o i v H2 fun H3=>Q σ H3
theorem c9p{o i:Expr}{to ti:TE}{t:TSet}(ho:PE X o to)(hi:PE X i ti)(hs:PSet X t)
  (ha:∀v,assign (.Subscript o i pos) X.env v=(do
   let ov <-holding [v] (eval o X.env)
   let iv <-holding [v,ov] (eval i X.env)
   standAt pos
   holding [v,ov,iv] (setItem ov iv v)
   release [v,ov,iv] []):=by intro _;rfl):PG X (.Subscript o i pos) (gSub to ti t):=by
 intro pins s σ H v u Q I r h
 rw[ha]
 refine Zd (Wi (thn (ho pins s σ H _ I h) fun ov s1 ⟨x,H1,I1,r1,q1⟩=>?_))
 refine Zd (Wi (thn (hi pins s1 σ H1 _ I1 q1) fun iv s2 ⟨y,H2,I2,r2,q2⟩=>?_))
 refine Zd (W9 (Zd (Wi (thn (hs pins s2 σ H2 x y v ov iv u _ I2 r1 r2 r q2) fun _ s3 ⟨H3,I3,q3⟩=>?_))))
 exact wpAny_release ⟨σ,H3,I3,q3⟩
def tAsg(te:TE)(g:TG):TS:=fun D σ H=>te σ H fun x H1=>g x σ H1 D.nx
theorem ps_asg{tg e:Expr}{te:TE}{g:TG}(he:PE X e te)(hg:PG X tg g)(hs:swapsWithSole [tg] e pos.line X.env=pure false:=by rfl)(hw:swappedStores [tg] e X.env=pure none:=by rfl)
  (h1:(assignEach [tg] X.env).map (·.2)=[assign tg X.env]:=by rfl):PS X (.Assign [tg] e pos) (tAsg te g):=by
 intro pins s σ H D I h
 refine wpAny_Assign_stores (thn (he pins s σ H _ I h) fun v s1 ⟨x,H1,I1,r1,q1⟩=>?_) hs hw
 rw[h1]
 exact thn (hg pins s1 σ H1 x v _ I1 r1 q1) fun _ s2 q=>q
theorem a0m{i:Nat}{x:Str}{e:Expr}{te:TE}{pos':Pos}(hN:X.N.Nodup)(hi:X.N[i]? =some x)(hx:Loc X.env.scope x)(he:PE X e te)(hs:swapsWith e (some (.Name x pos')) pos.line X.env=pure false:=by rfl)(hf:X.fn x=true\/X.env.scope.names.lookup x=some .local:=by first|exact .inl rfl|exact .inr rfl|assumption):
  PS X (.Assign [.Name x pos'] e pos) (tAsg te (b5w i)):=by
 intro pins s σ H D I h
 refine V6 (thn (he pins s σ H _ I h) fun v s1 ⟨y,H1,I1,r1,q1⟩=>?_) hs
 exact a7r I1 hN hi hx r1 (fun s2 I2=>⟨_,H1,I2,q1⟩) hf
def tAug(i:Nat)(te:TE)(ti:TIp):TS:=fun D σ H=>∃x,σ[i]? =some (some x)/\te σ H fun y H1=>ti x y H1 fun z H2=>D.nx (σ.set i (some z)) H2
theorem ps_aug{i:Nat}{x:Str}{e:Expr}{te:TE}{op:Operator}{ti:TIp}{pos':Pos}(hN:X.N.Nodup)(hi:X.N[i]? =some x)(hx:Loc X.env.scope x)(he:PE X e te)(ho:PIp X op ti)(hf:X.fn x=true\/X.env.scope.names.lookup x=some .local:=by first|exact .inl rfl|exact .inr rfl|assumption):
  PS X (.AugAssign (.Name x pos') op e pos) (tAug i te ti):=by
 intro pins s σ H D I h
 obtain⟨v,e1,h⟩:=h
 obtain⟨m,hn,hl⟩:=I.loc
 have vis:Vis X.env.scope x:=by rcases hx with k|k;exact .inl k;exact .inr (.inl k)
 obtain⟨u,r,l⟩:=hl i x v hi e1 vis
 refine wpAny_AugAssign_Name ?_
 have go:wpAny (model X.prog X.w) X.A (eval e X.env) (fun w s₂=>wpAny (model X.prog X.w) X.A (inplaceOp op u w) (fun r s₃=>wpAny (model X.prog X.w) X.A (storeName X.env x r) (fun _=>SP X pins D .next) X.xe s₃) X.xe s₂) X.xe s:=by
  refine thn (he pins s σ H _ I h) fun w s1 ⟨y,H1,I1,r1,q1⟩=>?_
  refine thn (ho pins s1 σ H1 v y u w _ I1 r r1 q1) fun z s2 ⟨zv,H2,I2,r2,q2⟩=>?_
  exact a7r I2 hN hi hx r2 (fun s3 I3=>⟨_,H2,I3,q2⟩) hf
 rcases l with⟨hk,hm⟩|⟨hk,c,hc,hcell⟩
 ·exact Tk I.ok.kind hk hn hm go
 ·rcases hk with hk|hk
  ·exact Tx I.ok.kind hk hc hcell go
  ·rcases hx with k|k
   ·have:X.env.scope.names.lookup x=some .free:=hk
    rw[k]at this;cases this
   ·have:X.env.scope.names.lookup x=some .free:=hk
    rw[k]at this;cases this
end
section
variable{X:Cx}{pos:Pos}
def c3c(c:TT)(tb:TS):TS:=fun D σ H=>∃W:Nat->St->Hp->Prop,(∃m,W m σ H)/\∀m σ H,W m σ H->
 c σ H fun b H1=>if b=true then ∃N:St->Hp->Prop,(∀σ' H',N σ' H'->∃m',m'<m/\W m' σ' H')/\tb { D with nx:=N,ct:=N,bk:=D.nx} σ H1 else D.nx σ H1
theorem a4o{c:Expr}{body:List Stmt}{tc:TT}{tb:TS}(hp:PassesOwn (model X.prog X.w) X.A X.env X.xe)(hc:PT X c tc)(hb:PSs X body tb):PS X (.While c body [] pos) (c3c tc tb):=by
 intro pins s σ H D I h
 obtain⟨W,⟨m0,w0⟩,turn⟩:=h
 refine wpAny_While (codeAny_whileLoop (fun n s'=>∃σ' H',Inv X pins σ' H' s'/\W n σ' H') ?_ m0 ⟨σ,H,I,w0⟩)
 rintro n s1 ⟨σ1,H1,I1,w1⟩
 refine X6 hp (thn (hc pins s1 σ1 H1 _ I1 (turn n σ1 H1 w1)) fun b s2 ⟨H2,I2,q2⟩=>?_)
 cases b with
 |true=>
  obtain⟨N,hN,q2⟩:=q2
  rw[if_pos rfl]
  refine X6 hp (thn (hb pins s2 σ1 H2 _ I2 q2) fun f s3 q3=>?_)
  cases f with
  |next=>
   obtain⟨σ3,H3,I3,n3⟩:=q3
   obtain⟨m',hm,w3⟩:=hN σ3 H3 n3
   exact⟨m',hm,σ3,H3,I3,w3⟩
  |cont=>
   obtain⟨σ3,H3,I3,n3⟩:=q3
   obtain⟨m',hm,w3⟩:=hN σ3 H3 n3
   exact⟨m',hm,σ3,H3,I3,w3⟩
  |brk=>exact q3
  |ret v=>exact q3
 |false=>
  rw[if_neg Zp]
  exact Xl ⟨σ1,H2,I2,q2⟩
end
structure It where
 go:Nat->Hp->Prop
 yld:Nat->Hp->V->Hp->Prop
 stop:Nat->Hp->Prop
def FpOk(X:Cx)(pins:List (Addr×Obj))(H:Hp)(b:Addr):Prop:=
 H b=none/\b≠X.env.locals/\b∉X.fs/\(b∈X.ex\/X.s₀.heap.objs.size<=b)/\(∀x c,X.env.cells.lookup x=some c->c≠b)/\∀p∈X.pn++pins,p.1≠b
theorem Inv.fpOk{X:Cx}{pins:List (Addr×Obj)}{σ:St}{H H':Hp}{s:Shared}{b:Addr}(I:Inv X pins σ H s)(hb:s.heap.objs.size<=b)(hn:H' b=none):FpOk X pins H' b:=by
 refine⟨hn,U9 (Zx I.lt hb),I.nofs hb,.inr (Zz I.sz hb),fun x c e z=>?_,fun p hp z=>?_⟩
 ·obtain⟨v,q⟩:=I.cell x c e
  exact absurd (Zx q.lt (by rw[z];exact hb)) (Wj _)
 ·exact absurd (Zx (Zs (I.pin p hp).1) (by rw[z];exact hb)) (Wj _)
structure Turn(P:Program)(w:World)(K:W.Frag)(tg:Expr)(J:It)(fp:List Addr)(it:Addr)(tn:Nat->Heap->Prop):Prop where
 mem:it∈fp
 obj:∀i h,tn i h->∀b∈fp,∃o,h.get? b=some o/\∀v,o.data≠.cell v
 keep:∀i h h',tn i h->(∀b∈fp,∀o,h.get? b=some o->h'.get? b=some o)->tn i h'
 item:∀(X:Cx),X.prog=P->X.w=w->X.K=K->X.calm=true->∀(i:Nat)(pins:List (Addr×Obj))(s:Shared)(σ:St)(H:Hp)(E:Value->Shared->Prop),Inv X pins σ H s->(∀b∈fp,FpOk X pins H b)->tn i s.heap->J.go i H->
  wpAny (model P w) X.A (pyNext (.ref it)) (fun r s1=>∃u,r=some u/\
   wpAny (model P w) X.A (letOwnedTupleGo tg (.ref it) u) (fun _ s2=>∃x H',Inv X pins σ H' s2/\RelV x u/\J.yld i H x H'/\tn (i+1) s2.heap/\∀b∈fp,H' b=none) E s1) E s
 done:∀(X:Cx),X.prog=P->X.w=w->X.K=K->X.calm=true->∀(i:Nat)(pins:List (Addr×Obj))(s:Shared)(σ:St)(H:Hp)(E:Value->Shared->Prop),Inv X pins σ H s->(∀b∈fp,FpOk X pins H b)->tn i s.heap->J.stop i H->
  wpAny (model P w) X.A (pyNext (.ref it)) (fun r s1=>r=none/\Inv X pins σ H s1) E s
 self:∀(A:Around)(i:Nat)(s:Shared)(Q:Value->Shared->Prop)(E:Value->Shared->Prop),tn i s.heap->Q (.ref it) s->wpAny (model P w) A (pyIter (.ref it)) Q E s
abbrev TI:=St->Hp->(It->Hp->Prop)->Prop
def PIE(X:Cx)(pins:List (Addr×Obj))(σ:St)(tg:Expr)(R:It->Hp->Prop)(itv:Value)(s2:Shared):Prop:=
 ∃(it:Addr)(fp:List Addr)(tn:Nat->Heap->Prop)(J:It)(H':Hp),itv=.ref it/\Inv X pins σ H' s2/\Turn X.prog X.w X.K tg J fp it tn/\tn 0 s2.heap/\(∀b∈fp,FpOk X pins H' b)/\R J H'
def PI(X:Cx)(tg iter:Expr)(wi:TI):Prop:=
 ∀(pins:List (Addr×Obj))(s:Shared)(σ:St)(H:Hp)(R:It->Hp->Prop),Inv X pins σ H s->wi σ H R->
  wpAny (model X.prog X.w) X.A (eval iter X.env) (fun v s1=>wpAny (model X.prog X.w) X.A (pyIter v) (PIE X pins σ tg R) X.xe s1) X.xe s
theorem b7x{M:Model}{A:Around}{E:Value->Shared->Prop}{s:Shared}{tg:Expr}{it:Addr}{u:Value}{o:Obj}{n:String}{vs:Array Value}{Q:Unit->Shared->Prop}(ho:s.heap.get? it=some o)(hc:o.cls=.type n)(hd:o.data=.fields vs)
  (hn:["enumerate","zip","dict_itemiterator","dict_reverseitemiterator","odict_iterator","itertools.zip_longest","itertools.pairwise"].contains n=false)(hQ:Q () s):wpAny M A (letOwnedTupleGo tg (.ref it) u) Q E s:=by
 unfold letOwnedTupleGo
 cases tg<;>first
  |exact Zr hQ
  | (cases u<;>first
    |exact Zr hQ
    | (refine Zd (wpAny_load ho ?_)
       rw[hc,hd]
       show wpAny M A (if(["enumerate","zip","dict_itemiterator","dict_reverseitemiterator","odict_iterator","itertools.zip_longest","itertools.pairwise"].contains n&&vs[0]? ==some (rawInt _))=true then _ else _) Q E s
       rw[if_neg (by intro h;rw[hn,Wr]at h;cases h)]
       exact Zr hQ))
def Itl(K:W.Frag)(a:Addr):It:=
 ⟨fun i H=>∃xs x,SqL K H a xs/\xs[i]? =some x,fun i H x H'=>H'=H/\∀xs,SqL K H a xs->xs[i]? =some x,fun i H=>∃xs,SqL K H a xs/\xs.length<=i⟩
def Itt(K:W.Frag)(a:Addr):It:=
 ⟨fun i H=>∃xs x,SqT K H a xs/\xs[i]? =some x,fun i H x H'=>H'=H/\∀xs,SqT K H a xs->xs[i]? =some x,fun i H=>∃xs,SqT K H a xs/\xs.length<=i⟩
def Itr(lo:Int)(n:Nat):It:=⟨fun i _=>i<n,fun i H x H'=>H'=H/\x=.int (lo+i),fun i _=>n<=i⟩
theorem c9q{P:Program}{w:World}{K:W.Frag}{tg:Expr}(a it:Addr):Turn P w K tg (Itl K a) [it] it (fun i h=>h.IsListIter it a i) where
 mem:=by simp
 obj:=fun i h st b hb=>by
  have e:b=it:=by simpa using hb
  subst e
  obtain⟨o,e,c,d⟩:=st
  exact⟨o,e,fun v z=>by rw[d]at z;cases z⟩
 keep:=fun i h h' st k=>st.at fun o e=>k it (by simp) o e
 item:=by
  intro X hP hw hK hc i pins s σ H E I hf st hg
  subst hP hw hK
  obtain⟨xs,x,hq,hx⟩:=hg
  obtain⟨its,rv,p,hz⟩:=I.list hq
  obtain⟨u,hu,ru⟩:=rv.get hx
  obtain⟨f0,f1,f2,f3,f4,f5⟩:=hf it (by simp)
  refine wpAny_pyNext_list_item st p.isList (x:=u) (by simpa using hu) fun h' st' sb=>?_
  have I1:Inv X pins σ H { s with heap:=h'}:=I.turned (t':=s.toks) (fun b o hb e=>(sb.2 b hb).trans e) f0 f1 f3 f4 f5
  obtain⟨o,e,c,d⟩:=id st'
  exact⟨u,rfl,b7x (s:={ s with heap:=h'}) e c d (by decide) ⟨x,H,I1,ru,⟨rfl,fun ys hy=>by rw[I.list_inj hy hq];exact hx⟩,st',fun b hb=>(hf b hb).1⟩⟩
 done:=by
  intro X hP hw hK hc i pins s σ H E I hf st hg
  subst hP hw hK
  obtain⟨xs,hq,hx⟩:=hg
  obtain⟨its,rv,p,hz⟩:=I.list hq
  obtain⟨f0,f1,f2,f3,f4,f5⟩:=hf it (by simp)
  have hl:=rv.length
  exact wpAny_pyNext_list_end (I.ok.hd hc) st p.isList (by simp;omega) fun h' eb=>⟨rfl,I.turned (t':=s.toks) (fun b o hb e=>eb b o hb e) f0 f1 f3 f4 f5⟩
 self:=fun _ _ _ _ _ st h=>wpAny_pyIter_listiter st h
theorem c8d{P:Program}{w:World}{K:W.Frag}{tg:Expr}(a it:Addr):Turn P w K tg (Itt K a) [it] it (fun i h=>h.IsTupleIter it a i) where
 mem:=by simp
 obj:=fun i h st b hb=>by
  have e:b=it:=by simpa using hb
  subst e
  obtain⟨o,e,c,d⟩:=st
  exact⟨o,e,fun v z=>by rw[d]at z;cases z⟩
 keep:=fun i h h' st k=>st.at fun o e=>k it (by simp) o e
 item:=by
  intro X hP hw hK hc i pins s σ H E I hf st hg
  subst hP hw hK
  obtain⟨xs,x,hq,hx⟩:=hg
  obtain⟨its,rv,p,hz⟩:=I.tuple hq
  obtain⟨u,hu,ru⟩:=rv.get hx
  obtain⟨f0,f1,f2,f3,f4,f5⟩:=hf it (by simp)
  refine wpAny_pyNext_tuple_item st (show s.heap.IsTuple a its.toArray from p) (x:=u) (by simpa using hu) fun h' st' sb=>?_
  have I1:Inv X pins σ H { s with heap:=h'}:=I.turned (t':=s.toks) (fun b o hb e=>(sb.2 b hb).trans e) f0 f1 f3 f4 f5
  obtain⟨o,e,c,d⟩:=id st'
  exact⟨u,rfl,b7x (s:={ s with heap:=h'}) e c d (by decide) ⟨x,H,I1,ru,⟨rfl,fun ys hy=>by rw[I.tuple_inj hy hq];exact hx⟩,st',fun b hb=>(hf b hb).1⟩⟩
 done:=by
  intro X hP hw hK hc i pins s σ H E I hf st hg
  subst hP hw hK
  obtain⟨xs,hq,hx⟩:=hg
  obtain⟨its,rv,p,hz⟩:=I.tuple hq
  obtain⟨f0,f1,f2,f3,f4,f5⟩:=hf it (by simp)
  have hl:=rv.length
  exact wpAny_pyNext_tuple_end (I.ok.hd hc) st (show s.heap.IsTuple a its.toArray from p) (by simp;omega) fun h' eb=>⟨rfl,I.turned (t':=s.toks) (fun b o hb e=>eb b o hb e) f0 f1 f3 f4 f5⟩
 self:=fun _ _ _ _ _ st h=>wpAny_pyIter_tupleiter st h
theorem c8e{P:Program}{w:World}{K:W.Frag}{tg:Expr}(it:Addr)(lo:Int)(n:Nat):Turn P w K tg (Itr lo n) [it] it (fun i h=>IsRangeIter h it (lo+(i:Nat)*1) ((n:Int)-(i:Nat)) 1) where
 mem:=by simp
 obj:=fun i h st b hb=>by
  have e:b=it:=by simpa using hb
  subst e
  exact⟨_,st,fun v z=>by
   have z':Data.fields _=Data.cell v:=z
   cases z'⟩
 keep:=fun i h h' st k=>k it (by simp) _ st
 item:=by
  intro X hP hw hK hc i pins s σ H E I hf st hg
  subst hP hw hK
  obtain⟨f0,f1,f2,f3,f4,f5⟩:=hf it (by simp)
  have W:=Walks.range (prog:=X.prog) (w:=X.w) (I.ok.hd hc) it lo 1 n
  refine W.item i s _ _ hg st fun v h' tk hv st' kk=>?_
  obtain⟨t,rfl⟩:=hv
  have I1:Inv X pins σ H { s with heap:=h',toks:=tk}:=I.turned (fun b o hb e=>kk b o (by simpa using hb) e) f0 f1 f3 f4 f5
  refine⟨_,rfl,b7x (s:={ s with heap:=h',toks:=tk}) (n:="range_iterator") st' rfl rfl (by decide) ⟨.int (lo+i),H,I1,⟨t,?_⟩,⟨rfl,rfl⟩,st',fun b hb=>(hf b hb).1⟩⟩
  rw[Int.mul_one]
 done:=by
  intro X hP hw hK hc i pins s σ H E I hf st hg
  subst hP hw hK
  obtain⟨f0,f1,f2,f3,f4,f5⟩:=hf it (by simp)
  exact wpAny_pyNext_range_end (I.ok.hd hc) st (by have:n<=i:=hg;omega) fun h' eb=>⟨rfl,I.turned (t':=s.toks) (fun b o hb e=>eb b o hb e) f0 f1 f3 f4 f5⟩
 self:=fun _ _ _ _ _ st h=>wpAny_pyIter_rangeiter st h
section
variable{X:Cx}{tg:Expr}
def iList(K:W.Frag)(tl:TE):TI:=fun σ H R=>tl σ H fun x H1=>∃a,x=.ref a/\(∃xs,SqL K H1 a xs)/\R (Itl K a) H1
def iTup(K:W.Frag)(tl:TE):TI:=fun σ H R=>tl σ H fun x H1=>∃a,x=.ref a/\(∃xs,SqT K H1 a xs)/\R (Itt K a) H1
theorem pi_list{l:Expr}{tl:TE}(hl:PE X l tl):PI X tg l (iList X.K tl):=by
 intro pins s σ H R I h
 refine thn (hl pins s σ H _ I h) fun v s1 ⟨x,H1,I1,r1,q1⟩=>?_
 obtain⟨a,e,⟨xs,hq⟩,q⟩:=q1
 subst e
 cases r1
 obtain⟨its,rv,p,hz⟩:=I1.list hq
 refine wpAny_pyIter_list p.isList ?_
 refine⟨s1.heap.objs.size,[s1.heap.objs.size],_,_,H1,rfl,I1.kept (t':=s1.toks) fun b o e=>Zh _ e,c9q a _,⟨_,Z2 _ rfl,rfl,rfl⟩,fun b hb=>?_,q⟩
 have e:b=s1.heap.objs.size:=by simpa using hb
 subst e
 exact I1.fpOk (Zl _) (I1.hok.fresh (Zl _))
theorem pi_tup{l:Expr}{tl:TE}(hl:PE X l tl):PI X tg l (iTup X.K tl):=by
 intro pins s σ H R I h
 refine thn (hl pins s σ H _ I h) fun v s1 ⟨x,H1,I1,r1,q1⟩=>?_
 obtain⟨a,e,⟨xs,hq⟩,q⟩:=q1
 subst e
 cases r1
 obtain⟨its,rv,p,hz⟩:=I1.tuple hq
 refine wpAny_pyIter_tuple (show s1.heap.IsTuple a its.toArray from p) ?_
 refine⟨s1.heap.objs.size,[s1.heap.objs.size],_,_,H1,rfl,I1.kept (t':=s1.toks) fun b o e=>Zh _ e,c8d a _,⟨_,Z2 _ rfl,rfl,rfl⟩,fun b hb=>?_,q⟩
 have e:b=s1.heap.objs.size:=by simpa using hb
 subst e
 exact I1.fpOk (Zl _) (I1.hok.fresh (Zl _))
theorem c3d{pins:List (Addr×Obj)}{σ:St}{H:Hp}{s:Shared}{R:It->Hp->Prop}{E:Value->Shared->Prop}{lo hi:Int}{t u v:Tok}{tk:Nat}(I:Inv X pins σ H s)(h1:-(2^62)<=lo)(h2:lo<2^62)(h3:-(2^62)<=hi)(h4:hi<2^62)
  (q:R (Itr lo (hi-lo).toNat) H):wpAny (model X.prog X.w) X.A (pyIter (.ref s.heap.objs.size)) (PIE X pins σ tg R) E { s with heap:=s.heap.push { cls:=.type "range",data:=.fields #[.int lo t,.int hi u,.int 1 v]},toks:=tk}:=by
 refine wpAny_pyIter_range (IsRange.new ..) (small_one h1 h2 h3 h4) ?_
 have I1:Inv X pins σ H { s with heap:=s.heap.push { cls:=.type "range",data:=.fields #[.int lo t,.int hi u,.int 1 v]},toks:=tk}:=I.kept fun b o e=>Zh _ e
 refine⟨(s.heap.push { cls:=.type "range",data:=.fields #[.int lo t,.int hi u,.int 1 v]}).objs.size,[(s.heap.push { cls:=.type "range",data:=.fields #[.int lo t,.int hi u,.int 1 v]}).objs.size],_,_,H,rfl,
  I1.kept (t':=tk) fun b o e=>Zh _ e,c8e _ lo (hi-lo).toNat,?_,fun b hb=>?_,q⟩
 ·have e1:lo+((0:Nat):Int)*1=lo:=by simp
  have e2:(((hi-lo).toNat:Nat):Int)-((0:Nat):Int)=Builtin.Range.rangeSize lo hi 1:=by rw[rangeSize_one];split<;>omega
  show IsRangeIter _ _ (lo+((0:Nat):Int)*1) ((((hi-lo).toNat:Nat):Int)-((0:Nat):Int)) 1
  rw[e1,e2]
  exact Z2 _ rfl
 ·have e:b=(s.heap.push { cls:=.type "range",data:=.fields #[.int lo t,.int hi u,.int 1 v]}).objs.size:=by simpa using hb
  subst e
  exact I1.fpOk (Zl _) (I1.hok.fresh (Zl _))
def iRng1(ta:TA):TI:=fun σ H R=>ta σ H fun vs H1=>∃j:Int,vs=[.int j]/\-(2^62)<=j/\j<2^62/\R (Itr 0 j.toNat) H1
def iRng2(ta:TA):TI:=fun σ H R=>ta σ H fun vs H1=>∃i j:Int,vs=[.int i,.int j]/\(-(2^62)<=i/\i<2^62/\-(2^62)<=j/\j<2^62)/\R (Itr i (j-i).toNat) H1
theorem a4w{a:Expr}{ta:TA}{p pos:Pos}(hg:Gl X "range")(hm:X.mg "range"=none)(ha:PA X [a] ta)(hs:starEach [a] X.env=[(false,eval a X.env)]:=by rfl):PI X tg (.Call (.Name "range" p) [a] [] pos) (iRng1 ta):=by
 intro pins s σ H R I h
 refine Call_ (b2x I hg hm boot_range (Wb (thn (ha pos pins s σ H _ I h) fun us s1 ⟨vs,H1,I1,r1,q1⟩=>?_) hs rfl))
 obtain⟨j,e,q1,q2,q⟩:=q1
 subst e
 cases r1 with
 |cons r rr=>
  cases rr
  obtain⟨t,rfl⟩:=r
  exact call_range_1 (c3d I1 (by omega) (by omega) q1 q2 (by simpa using q))
theorem c9r{a b:Expr}{ta:TA}{p pos:Pos}(hg:Gl X "range")(hm:X.mg "range"=none)(ha:PA X [a,b] ta)(hs:starEach [a,b] X.env=[(false,eval a X.env),(false,eval b X.env)]:=by rfl)(hs2:starEach [b] X.env=[(false,eval b X.env)]:=by rfl):
  PI X tg (.Call (.Name "range" p) [a,b] [] pos) (iRng2 ta):=by
 intro pins s σ H R I h
 refine Call_ (b2x I hg hm boot_range (Wb (thn (ha pos pins s σ H _ I h) fun us s1 ⟨vs,H1,I1,r1,q1⟩=>?_) (by rw[hs,hs2]) (by rw[hs2];rfl)))
 obtain⟨i,j,e,⟨q1,q2,q3,q4⟩,q⟩:=q1
 subst e
 cases r1 with
 |cons r rr=>
  cases rr with
  |cons r' rr=>
   cases rr
   obtain⟨t,rfl⟩:=r
   obtain⟨t',rfl⟩:=r'
   exact call_range_2 (c3d I1 q1 q2 q3 q4 q)
def tFor(wi:TI)(g:TG)(tb:TS):TS:=fun D σ H=>wi σ H fun J H1=>∃W:Nat->Nat->St->Hp->Prop,(∃m,W 0 m σ H1)/\∀i m σ H,W i m σ H->
 (J.stop i H/\D.nx σ H)\/(J.go i H/\∃N:St->Hp->Prop,(∀σ' H',N σ' H'->∃m',m'<m/\W (i+1) m' σ' H')/\∀x H',J.yld i H x H'->g x σ H' fun σ2 H2=>tb { D with nx:=N,ct:=N,bk:=D.nx} σ2 H2)
def b3a(fp:List Addr)(h:Heap):List (Addr×Obj):=fp.filterMap fun b=>(h.get? b).map fun o=>(b,o)
theorem b0i{fp:List Addr}{h:Heap}{b:Addr}{o:Obj}(hb:b∈fp)(e:h.get? b=some o):(b,o)∈b3a fp h:=Sk.mpr ⟨b,hb,by rw[e];rfl⟩
theorem c9s{fp:List Addr}{h:Heap}{p:Addr×Obj}(hp:p∈b3a fp h):p.1∈fp/\h.get? p.1=some p.2:=by
 obtain⟨b,hb,e⟩:=Sk.mp hp
 cases q:h.get? b with
 |none=>rw[q]at e;cases e
 |some o=>
  rw[q]at e
  have e':(b,o)=p:=Zq e
  subst e'
  exact⟨hb,q⟩
theorem Inv.pinned{pins:List (Addr×Obj)}{σ:St}{H:Hp}{s:Shared}{fp:List Addr}(I:Inv X pins σ H s)(hf:∀b∈fp,FpOk X pins H b)(ho:∀b∈fp,∃o,s.heap.get? b=some o/\∀v,o.data≠.cell v):Inv X (pins++b3a fp s.heap) σ H s:=
 I.pins_of fun p hp=>(Zv.mp hp).elim (fun z=>I.pin p (Yg _ z)) fun z=>by
  obtain⟨hb,e⟩:=c9s z
  obtain⟨f0,f1,f2,_⟩:=hf p.1 hb
  obtain⟨o,e',d⟩:=ho p.1 hb
  rw[e]at e';cases e'
  exact⟨e,f0,f1,f2,d⟩
theorem Inv.unpinned{pins pl:List (Addr×Obj)}{σ:St}{H:Hp}{s:Shared}(I:Inv X (pins++pl) σ H s):Inv X pins σ H s:=I.pins_of fun p hp=>I.pin p (Yg _ (Xr _ hp))
theorem a7h{iter:Expr}{body:List Stmt}{wi:TI}{g:TG}{tb:TS}{pos:Pos}(hp:PassesOwn (model X.prog X.w) X.A X.env X.xe)(hc:X.calm=true)(hi:PI X tg iter wi)(hg:PG X tg g)(hb:PSs X body tb)
  (hs:∀x,foldedSetIterable iter X.env x=pure x:=by intro _;rfl):PS X (.For tg iter body [] pos) (tFor wi g tb):=by
 intro pins s σ H D I h
 refine wpAny_For (thn (hi pins s σ H _ I h) fun v s1 h1=>thn h1 fun itv s2 h2=>?_) hs
 obtain⟨it,fp,tn,J,H2,e,I2,T,st2,f2,W,⟨m0,w0⟩,turn⟩:=h2
 subst e
 have stat:∀{H':Hp},(∀b∈fp,H' b=none)->∀b∈fp,FpOk X pins H' b:=fun hn b hb=>⟨hn b hb,(f2 b hb).2⟩
 refine codeAny_forLoop_any (fun n s'=>∃i σ' H',Inv X pins σ' H' s'/\tn i s'.heap/\(∀b∈fp,H' b=none)/\W i n σ' H') ?_ m0 ⟨0,σ,H2,I2,st2,fun b hb=>(f2 b hb).1,w0⟩
 rintro n s3 ⟨i,σ3,H3,I3,st3,fr3,w3⟩
 rcases turn i n σ3 H3 w3 with⟨stop,qn⟩|⟨go,N,hN,step⟩
 ·refine X6 hp (thn (T.done X rfl rfl rfl hc i pins s3 σ3 H3 X.xe I3 (stat fr3) st3 stop) fun r s4 ⟨hr,I4⟩=>?_)
  subst hr
  exact Xl ⟨σ3,H3,I4,qn⟩
 ·refine X6 hp (thn (T.item X rfl rfl rfl hc i pins s3 σ3 H3 X.xe I3 (stat fr3) st3 go) fun r s4 ⟨u,hr,h4⟩=>?_)
  subst hr
  refine X6 hp (thn h4 fun _ s5 ⟨x,H5,I5,r5,y5,st5,fr5⟩=>?_)
  have I5':=I5.pinned (stat fr5) (T.obj _ _ st5)
  refine X6 hp (thn (hg _ s5 σ3 H5 x u _ I5' r5 (step x H5 y5)) fun _ s6 ⟨σ6,H6,I6,q6⟩=>?_)
  refine X6 hp (thn (hb _ s6 σ6 H6 _ I6 q6) fun f s7 q7=>?_)
  have again:∀{σ7:St}{H7:Hp},Inv X (pins++b3a fp s5.heap) σ7 H7 s7->N σ7 H7->∃m,m<n/\∃i σ' H',Inv X pins σ' H' s7/\tn i s7.heap/\(∀b∈fp,H' b=none)/\W i m σ' H':=fun{σ7 H7} I7 n7=>by
   obtain⟨m',hm,w7⟩:=hN σ7 H7 n7
   refine⟨m',hm,i+1,σ7,H7,I7.unpinned,T.keep _ _ _ st5 fun b hb o e=>(I7.pin (b,o) (Yg _ (Yg _ (b0i hb e)))).1,fun b hb=>?_,w7⟩
   obtain⟨o,e,d⟩:=T.obj _ _ st5 b hb
   exact(I7.pin (b,o) (Yg _ (Yg _ (b0i hb e)))).2.1
  cases f with
  |next=>obtain⟨σ7,H7,I7,n7⟩:=q7;exact again I7 n7
  |cont=>obtain⟨σ7,H7,I7,n7⟩:=q7;exact again I7 n7
  |brk=>obtain⟨σ7,H7,I7,q7⟩:=q7;exact⟨σ7,H7,I7.unpinned,q7⟩
  |ret v=>obtain⟨x7,σ7,H7,I7,r7,q7⟩:=q7;exact⟨x7,σ7,H7,I7.unpinned,r7,q7⟩
end
abbrev R2:=V->V->Hp->VK->Prop
def OpR(X:Cx)(f:Value->Value->Sem Value)(r:R2):Prop:=
 ∀(pins:List (Addr×Obj))(s:Shared)(σ:St)(H:Hp)(x y:V)(v u:Value)(Q:VK),Inv X pins σ H s->RelV x v->RelV y u->r x y H Q->
  wpAny (model X.prog X.w) X.A (f v u) (EP X pins σ Q) X.xe s
def UnR(X:Cx)(f:Value->Sem Value)(r:V->Hp->VK->Prop):Prop:=
 ∀(pins:List (Addr×Obj))(s:Shared)(σ:St)(H:Hp)(x:V)(v:Value)(Q:VK),Inv X pins σ H s->RelV x v->r x H Q->
  wpAny (model X.prog X.w) X.A (f v) (EP X pins σ Q) X.xe s
def a5t(X:Cx)(f:Value)(r:List V->Hp->VK->Prop):Prop:=
 ∀(pins:List (Addr×Obj))(s:Shared)(σ:St)(H:Hp)(xs:List V)(us:List Value)(Q:VK),Inv X pins σ H s->Vals xs us->r xs H Q->
  wpAny (model X.prog X.w) X.A (call f us) (EP X pins σ Q) X.xe s
def TruR(X:Cx)(r:V->Hp->(Bool->Hp->Prop)->Prop):Prop:=
 ∀(pins:List (Addr×Obj))(s:Shared)(σ:St)(H:Hp)(x:V)(v:Value)(Q:Bool->Hp->Prop),Inv X pins σ H s->RelV x v->r x H Q->
  wpAny (model X.prog X.w) X.A (truthy v) (TP X pins σ Q) X.xe s
def tOp(r:R2)(ta tb:TE):TE:=fun σ H Q=>ta σ H fun x H1=>tb σ H1 fun y H2=>r x y H2 Q
def tUn(r:V->Hp->VK->Prop)(ta:TE):TE:=fun σ H Q=>ta σ H fun x H1=>r x H1 Q
def rI(C:Int->Int->Prop)(g:Int->Int->V):R2:=fun x y H Q=>∃i j,x=.int i/\y=.int j/\C i j/\Q (g i j) H
def rI0(g:Int->Int->V):R2:=fun x y H Q=>∃i j,x=.int i/\y=.int j/\Q (g i j) H
def rU(g:Int->V):V->Hp->VK->Prop:=fun x H Q=>∃i,x=.int i/\Q (g i) H
section
variable{X:Cx}{a b c:Expr}{ta tb tc:TE}{pos:Pos}
theorem binT(ha:PE X a ta)(hb:PE X b tb){pins:List (Addr×Obj)}{s:Shared}{σ:St}{H:Hp}{R:V->V->Hp->Prop}(I:Inv X pins σ H s)
  (h:ta σ H fun x H1=>tb σ H1 fun y H2=>R x y H2){Q:Value->Shared->Prop}{f:Value->Value->Sem Value}
  (hf:∀v u s2 x y H2,Inv X pins σ H2 s2->RelV x v->RelV y u->R x y H2->wpAny (model X.prog X.w) X.A (f v u) Q X.xe s2):
  wpAny (model X.prog X.w) X.A (eval a X.env) (fun v s₁=>wpAny (model X.prog X.w) X.A (eval b X.env) (fun u s₂=>wpAny (model X.prog X.w) X.A (f v u) Q X.xe s₂) X.xe s₁) X.xe s:=by
 refine thn (ha pins s σ H _ I h) fun v s1 ⟨x,H1,I1,r1,q1⟩=>?_
 refine thn (hb pins s1 σ H1 _ I1 q1) fun u s2 ⟨y,H2,I2,r2,q2⟩=>?_
 exact hf v u s2 x y H2 I2 r1 r2 q2
theorem a0l{op:Operator}{r:R2}(ho:OpR X (binaryOp op) r)(ha:PE X a ta)(hb:PE X b tb):PE X (.BinOp a op b pos) (tOp r ta tb):=by
 intro pins s σ H Q I h
 exact wpAny_BinOp (binT ha hb I h fun v u s2 x y H2 I2 rx ry q=>ho pins s2 σ H2 x y v u Q I2 rx ry q)
theorem a7m{op:UnaryOp}{r:V->Hp->VK->Prop}(ho:UnR X (unaryOp op) r)(ha:PE X a ta):PE X (.UnaryOp op a pos) (tUn r ta):=by
 intro pins s σ H Q I h
 exact UnaryOp_ (thn (ha pins s σ H _ I h) fun v s1 ⟨x,H1,I1,r1,q1⟩=>ho pins s1 σ H1 x v Q I1 r1 q1)
theorem opI{f:Value->Value->Sem Value}{C:Int->Int->Prop}{g:Int->Int->Int}
  (rule:∀(i j:Int)(t u:Tok)(s:Shared)(Q:Value->Shared->Prop)(E:Value->Shared->Prop),C i j->Q (.int (g i j) s.toks) { s with toks:=s.toks+1}->wpAny (model X.prog X.w) X.A (f (.int i t) (.int j u)) Q E s):
  OpR X f (rI C fun i j=>.int (g i j)):=by
 intro pins s σ H x y v u Q I rx ry h
 obtain⟨i,j,rfl,rfl,hc,q⟩:=h
 obtain⟨t,rfl⟩:=rx
 obtain⟨t',rfl⟩:=ry
 exact rule i j t t' s _ _ hc ⟨.int (g i j),H,I.tok _,⟨_,rfl⟩,q⟩
theorem opI0{f:Value->Value->Sem Value}{g:Int->Int->Int}
  (rule:∀(i j:Int)(t u:Tok)(s:Shared)(Q:Value->Shared->Prop)(E:Value->Shared->Prop),Q (.int (g i j) s.toks) { s with toks:=s.toks+1}->wpAny (model X.prog X.w) X.A (f (.int i t) (.int j u)) Q E s):
  OpR X f (rI0 fun i j=>.int (g i j)):=by
 intro pins s σ H x y v u Q I rx ry h
 obtain⟨i,j,rfl,rfl,q⟩:=h
 obtain⟨t,rfl⟩:=rx
 obtain⟨t',rfl⟩:=ry
 exact rule i j t t' s _ _ ⟨.int (g i j),H,I.tok _,⟨_,rfl⟩,q⟩
theorem opB0{f:Value->Value->Sem Value}{g:Int->Int->Bool}
  (rule:∀(i j:Int)(t u:Tok)(s:Shared)(Q:Value->Shared->Prop)(E:Value->Shared->Prop),Q (.bool (g i j)) s->wpAny (model X.prog X.w) X.A (f (.int i t) (.int j u)) Q E s):
  OpR X f (rI0 fun i j=>.bl (g i j)):=by
 intro pins s σ H x y v u Q I rx ry h
 obtain⟨i,j,rfl,rfl,q⟩:=h
 obtain⟨t,rfl⟩:=rx
 obtain⟨t',rfl⟩:=ry
 exact rule i j t t' s _ _ ⟨.bl (g i j),H,I,rfl,q⟩
def CDiv(i j:Int):Prop:=0<j/\j<1073741824
def CPow(i j:Int):Prop:=0<=j/\j<=1000000/\i.natAbs<2^64
def CMul(i j:Int):Prop:=(-(2^64)<i/\i<2^64)\/(-(2^64)<j/\j<2^64)
theorem CMul.ok{i j:Int}(h:CMul i j):IntMulOk i j:=by
 rcases h with⟨h1,h2⟩|⟨h1,h2⟩
 ·exact .of_left (intBits_le_64 h1 h2)
 ·exact .of_right (intBits_le_64 h1 h2)
theorem op_add:OpR X (binaryOp .Add) (rI0 fun i j=>.int (i+j)):=opI0 fun _ _ _ _ _ _ _ q=>add_int q
theorem op_sub:OpR X (binaryOp .Sub) (rI0 fun i j=>.int (i-j)):=opI0 fun _ _ _ _ _ _ _ q=>sub_int q
theorem op_fdiv:OpR X (binaryOp .FloorDiv) (rI CDiv fun i j=>.int (i/j)):=opI fun i j _ _ _ _ _ hc q=>by
 have h1:(0:Int)<j:=hc.1
 have h2:j<1073741824:=hc.2
 exact floordiv_int (by omega) (by rw[Int.fdiv_eq_ediv_of_nonneg i (by omega)];exact q) (.inl (PyProof.noPylong_small (by omega)))
theorem op_mod:OpR X (binaryOp .Mod) (rI (fun _ j=>0<j) fun i j=>.int (i%j)):=opI fun i j _ _ _ _ _ hc q=>by
 have h1:(0:Int)<j:=hc
 exact mod_int' (by omega) (by rw[Int.fmod_eq_emod_of_nonneg i (by omega)];exact q)
theorem op_pow:OpR X (binaryOp .Pow) (rI CPow fun i j=>.int (i^j.toNat)):=opI fun _ _ _ _ _ _ _ hc q=>pow_int_small hc.1 hc.2.1 hc.2.2 q
theorem iop_add:OpR X (inplaceOp .Add) (rI0 fun i j=>.int (i+j)):=opI0 fun _ _ _ _ _ _ _ q=>iadd_int q
theorem unI{f:Value->Sem Value}{g:Int->Int}
  (rule:∀(i:Int)(t:Tok)(s:Shared)(Q:Value->Shared->Prop)(E:Value->Shared->Prop),Q (.int (g i) s.toks) { s with toks:=s.toks+1}->wpAny (model X.prog X.w) X.A (f (.int i t)) Q E s):
  UnR X f (rU fun i=>.int (g i)):=by
 intro pins s σ H x v Q I rx h
 obtain⟨i,rfl,q⟩:=h
 obtain⟨t,rfl⟩:=rx
 exact rule i t s _ _ ⟨.int (g i),H,I.tok _,⟨_,rfl⟩,q⟩
theorem un_neg:UnR X (unaryOp .USub) (rU fun i=>.int (-i)):=unI fun _ _ _ _ _ q=>neg_int q
end
def scal:V->V->Bool
 | .non,.non=>true| .non,.int _=>true| .int _,.non=>true| .non,.bl _=>true| .bl _,.non=>true| .non,.str _=>true| .str _,.non=>true
 | .int _,.int _=>true| .bl _,.bl _=>true| .str _,.str _=>true| .byt _,.byt _=>true
 | .int _,.str _=>true| .str _,.int _=>true| .bl _,.str _=>true| .str _,.bl _=>true
 |_,_=>false
def rEq:R2:=fun x y H Q=>scal x y=true/\Q (.bl (decide (x=y))) H
def rNe:R2:=fun x y H Q=>scal x y=true/\Q (.bl (!decide (x=y))) H
theorem c6o{i j:Int}:decide (V.int i=V.int j)=(i==j):=by
 rw[Xo]
 simp
theorem c9t{i j:Bool}:decide (V.bl i=V.bl j)=(i==j):=by
 rw[Xo]
 simp
theorem c6p{i j:Str}:decide (V.str i=V.str j)=(i==j):=by
 rw[Xo]
 simp
theorem c6q{i j:Array UInt8}:decide (V.byt i=V.byt j)=(i.toList==j.toList):=by
 rw[Xo]
 cases i
 cases j
 simp
section
variable{X:Cx}{a b c:Expr}{ta tb tc:TE}{pos:Pos}
theorem a1r{pins:List (Addr×Obj)}{σ:St}{H:Hp}{s:Shared}{Q:VK}{k k':Bool}(I:Inv X pins σ H s)(q:Q (.bl k) H)(e:k=k'):EP X pins σ Q (.bool k') s:=by
 subst e
 exact⟨.bl k,H,I,rfl,q⟩
theorem op_eq:OpR X (compareOp .Eq) rEq:=by
 intro pins s σ H x y v u Q I rx ry h
 obtain⟨hs,q⟩:=h
 cases x with
 |non=>
  cases rx
  cases y with
  |non=>cases ry;exact PySem.EqNone.eq_none_none (a1r I q (by simp))
  |bl j=>cases ry;exact PySem.EqNone.eq_none_bool (a1r I q (by simp))
  |int j=>obtain⟨t',rfl⟩:=ry;exact PySem.EqNone.eq_none_int (a1r I q (by simp))
  |str j=>obtain⟨t',rfl⟩:=ry;exact PySem.EqNone.eq_none_str (a1r I q (by simp))
  |_=>exact absurd (show false=true from hs) Zp
 |bl i=>
  cases rx
  cases y with
  |non=>cases ry;exact PySem.EqNone.eq_bool_none (a1r I q (by simp))
  |bl j=>cases ry;exact eq_bool (a1r I q c9t)
  |str j=>obtain⟨t',rfl⟩:=ry;exact PySem.EqMixed.eq_bool_str (a1r I q (by simp))
  |_=>exact absurd (show false=true from hs) Zp
 |int i=>
  obtain⟨t,rfl⟩:=rx
  cases y with
  |non=>cases ry;exact PySem.EqNone.eq_int_none (a1r I q (by simp))
  |int j=>obtain⟨t',rfl⟩:=ry;exact eq_int (a1r I q c6o)
  |str j=>obtain⟨t',rfl⟩:=ry;exact PySem.EqMixed.eq_int_str (a1r I q (by simp))
  |_=>exact absurd (show false=true from hs) Zp
 |str i=>
  obtain⟨t,rfl⟩:=rx
  cases y with
  |non=>cases ry;exact PySem.EqNone.eq_str_none (a1r I q (by simp))
  |bl j=>cases ry;exact PySem.EqMixed.eq_str_bool (a1r I q (by simp))
  |int j=>obtain⟨t',rfl⟩:=ry;exact PySem.EqMixed.eq_str_int (a1r I q (by simp))
  |str j=>obtain⟨t',rfl⟩:=ry;exact eq_str (a1r I q c6p)
  |_=>exact absurd (show false=true from hs) Zp
 |byt i=>
  obtain⟨t,rfl⟩:=rx
  cases y with
  |byt j=>obtain⟨t',rfl⟩:=ry;exact W.eq_bytes (a1r I q c6q)
  |_=>exact absurd (show false=true from hs) Zp
 |_=>cases y<;>exact absurd (show false=true from hs) Zp
theorem op_ne:OpR X (compareOp .NotEq) rNe:=by
 intro pins s σ H x y v u Q I rx ry h
 obtain⟨hs,q⟩:=h
 cases x with
 |non=>
  cases rx
  cases y with
  |non=>cases ry;exact PySem.EqNone.ne_none_none (a1r I q (by simp))
  |bl j=>cases ry;exact PySem.EqNone.ne_none_bool (a1r I q (by simp))
  |int j=>obtain⟨t',rfl⟩:=ry;exact PySem.EqNone.ne_none_int (a1r I q (by simp))
  |str j=>obtain⟨t',rfl⟩:=ry;exact PySem.EqNone.ne_none_str (a1r I q (by simp))
  |_=>exact absurd (show false=true from hs) Zp
 |bl i=>
  cases rx
  cases y with
  |non=>cases ry;exact PySem.EqNone.ne_bool_none (a1r I q (by simp))
  |bl j=>cases ry;exact ne_bool (a1r I q (Ys not c9t))
  |str j=>obtain⟨t',rfl⟩:=ry;exact PySem.EqMixed.ne_bool_str (a1r I q (by simp))
  |_=>exact absurd (show false=true from hs) Zp
 |int i=>
  obtain⟨t,rfl⟩:=rx
  cases y with
  |non=>cases ry;exact PySem.EqNone.ne_int_none (a1r I q (by simp))
  |int j=>obtain⟨t',rfl⟩:=ry;exact ne_int (a1r I q (Ys not c6o))
  |str j=>obtain⟨t',rfl⟩:=ry;exact PySem.EqMixed.ne_int_str (a1r I q (by simp))
  |_=>exact absurd (show false=true from hs) Zp
 |str i=>
  obtain⟨t,rfl⟩:=rx
  cases y with
  |non=>cases ry;exact PySem.EqNone.ne_str_none (a1r I q (by simp))
  |bl j=>cases ry;exact PySem.EqMixed.ne_str_bool (a1r I q (by simp))
  |int j=>obtain⟨t',rfl⟩:=ry;exact PySem.EqMixed.ne_str_int (a1r I q (by simp))
  |str j=>obtain⟨t',rfl⟩:=ry;exact ne_str (a1r I q (Ys not c6p))
  |_=>exact absurd (show false=true from hs) Zp
 |byt i=>
  obtain⟨t,rfl⟩:=rx
  cases y with
  |byt j=>obtain⟨t',rfl⟩:=ry;exact W.ne_bytes (a1r I q (Ys not c6q))
  |_=>exact absurd (show false=true from hs) Zp
 |_=>cases y<;>exact absurd (show false=true from hs) Zp
theorem op_lt:OpR X (compareOp .Lt) (rI0 fun i j=>.bl (decide (i<j))):=opB0 fun _ _ _ _ _ _ _ q=>lt_int q
theorem op_le:OpR X (compareOp .LtE) (rI0 fun i j=>.bl (decide (i<=j))):=opB0 fun _ _ _ _ _ _ _ q=>le_int q
theorem op_gt:OpR X (compareOp .Gt) (rI0 fun i j=>.bl (decide (j<i))):=opB0 fun _ _ _ _ _ _ _ q=>gt_int q
theorem op_ge:OpR X (compareOp .GtE) (rI0 fun i j=>.bl (decide (j<=i))):=opB0 fun _ _ _ _ _ _ _ q=>ge_int q
theorem c9u:OpR X (compareOp .In) (fun x y H Q=>∃i j,x=.str i/\y=.str j/\Q (.bl (!(Builtin.Str.occurrences j i 0 j.length 1).isEmpty)) H):=by
 intro pins s σ H x y v u Q I rx ry h
 obtain⟨i,j,rfl,rfl,q⟩:=h
 obtain⟨t,rfl⟩:=rx
 obtain⟨t',rfl⟩:=ry
 exact in_str (a1r I q rfl)
theorem OpR.or{f:Value->Value->Sem Value}{r r':R2}(h:OpR X f r)(h':OpR X f r'):OpR X f (fun x y H Q=>r x y H Q\/r' x y H Q):=by
 intro pins s σ H x y v u Q I rx ry q
 rcases q with q|q
 ·exact h pins s σ H x y v u Q I rx ry q
 ·exact h' pins s σ H x y v u Q I rx ry q
theorem a0t(b:Expr){op:CmpOp}(h:op≠.In:=by decide)(h2:op≠.NotIn:=by decide):behindInMarks op b=false:=by
 have e1:(op==CmpOp.In)=false:=by cases op<;>first|rfl|exact absurd rfl h
 have e2:(op==CmpOp.NotIn)=false:=by cases op<;>first|rfl|exact absurd rfl h2
 cases b<;>simp[behindInMarks,e1,e2]
theorem a2l{op:CmpOp}{r:R2}(ho:OpR X (compareOp op) r)(ha:PE X a ta)(hb:PE X b tb)(hm:behindInMarks op b=false):PE X (.Compare a [op] [b] pos) (tOp r ta tb):=by
 intro pins s σ H Q I h
 exact wpAny_Compare1 (binT ha hb I h fun v u s2 x y H2 I2 rx ry q=>ho pins s2 σ H2 x y v u Q I2 rx ry q) hm
def tTest(t:TE):TT:=fun σ H Q=>t σ H fun x H'=>∃k,x=.bl k/\Q k H'
theorem pt_cmpR{op:CmpOp}{r:R2}(ho:OpR X (compareOp op) r)(ha:PE X a ta)(hb:PE X b tb)(hm:behindInMarks op b=false):PT X (.Compare a [op] [b] pos) (tTest (tOp r ta tb)):=by
 intro pins s σ H Q I h
 refine wpAny_isTrue_Compare1 (thn (ha pins s σ H _ I h) fun v s1 ⟨x,H1,I1,r1,q1⟩=>thn (hb pins s1 σ H1 _ I1 q1) fun u s2 ⟨y,H2,I2,r2,q2⟩=>
  thn (ho pins s2 σ H2 x y v u _ I2 r1 r2 q2) fun c s3 ⟨z,H3,I3,r3,k,e,q3⟩=>?_) hm
 subst e
 cases r3
 exact Y6 ⟨H3,I3,q3⟩
def b7y(r r':R2)(ta tb tc:TE):TE:=fun σ H Q=>ta σ H fun x H1=>tb σ H1 fun y H2=>r x y H2 fun z H3=>∃k,z=.bl k/\
 (if k=true then tc σ H3 fun w' H4=>r' y w' H4 Q else Q (.bl false) H3)
theorem d2r{op op':CmpOp}{r r':R2}(ho:OpR X (compareOp op) r)(ho':OpR X (compareOp op') r')(ha:PE X a ta)(hb:PE X b tb)(hc:PE X c tc)
  (hm:lastMarks [op,op'] [b,c]=false:=by with_unfolding_all rfl):PE X (.Compare a [op,op'] [b,c] pos) (b7y r r' ta tb tc):=by
 intro pins s σ H Q I h
 refine Compare_chain (thn (ha pins s σ H _ I h) fun v s1 ⟨x,H1,I1,r1,q1⟩=>chain_link (thn (hb pins s1 σ H1 _ I1 q1) fun u s2 ⟨y,H2,I2,r2,q2⟩=>
  thn (ho pins s2 σ H2 x y v u _ I2 r1 r2 q2) fun d s3 ⟨z,H3,I3,r3,k,e,q3⟩=>?_)) hm
 subst e
 cases r3
 refine Y6 ?_
 cases k with
 |false=>exact ite_ff ⟨.bl false,H3,I3,rfl,q3⟩
 |true=>exact ite_tt (chain_last (thn (hc pins s3 σ H3 _ I3 q3) fun w' s4 ⟨z',H4,I4,r4,q4⟩=>ho' pins s4 σ H4 y z' u w' Q I4 r2 r4 q4))
theorem d2s{op op':CmpOp}{r r':R2}(ho:OpR X (compareOp op) r)(ho':OpR X (compareOp op') r')(ha:PE X a ta)(hb:PE X b tb)(hc:PE X c tc)
  (hm:lastMarks [op,op'] [b,c]=false:=by with_unfolding_all rfl):PT X (.Compare a [op,op'] [b,c] pos) (tTest (b7y r r' ta tb tc)):=by
 intro pins s σ H Q I h
 refine isTrue_chain (thn (ha pins s σ H _ I h) fun v s1 ⟨x,H1,I1,r1,q1⟩=>test_link (thn (hb pins s1 σ H1 _ I1 q1) fun u s2 ⟨y,H2,I2,r2,q2⟩=>
  thn (ho pins s2 σ H2 x y v u _ I2 r1 r2 q2) fun d s3 ⟨z,H3,I3,r3,k,e,q3⟩=>?_)) hm
 subst e
 cases r3
 refine Y6 ?_
 cases k with
 |false=>
  obtain⟨k',e',q'⟩:=q3
  cases e'
  exact ite_ff ⟨H3,I3,q'⟩
 |true=>
  refine ite_tt (test_last (thn (hc pins s3 σ H3 _ I3 q3) fun w' s4 ⟨z',H4,I4,r4,q4⟩=>thn (ho' pins s4 σ H4 y z' u w' _ I4 r2 r4 q4) fun d' s5 ⟨z2,H5,I5,r5,k2,e2,q5⟩=>?_))
  subst e2
  cases r5
  exact Y6 ⟨H5,I5,q5⟩
def TruV(K:W.Frag)(x:V)(H:Hp)(k:Bool):Prop:=
 match x with
 | .non=>k=false
 | .bl b=>k=b
 | .int i=>k=(i !=0)
 | .str y=>y.length<=sizeLine/\k=((y.length:Int) !=0)
 | .byt y=>y.size<=sizeLine/\k=((y.size:Int) !=0)
 | .ref p=>(∃xs,SqL K H p xs/\k= !xs.isEmpty)\/(∃xs,SqT K H p xs/\k= !xs.isEmpty)\/∃kvs,H p=some (.dK kvs)/\k= !kvs.isEmpty
 |_=>False
theorem c8f{κ:Type}{kvs:List (κ×V)}{vs:List (κ×Value)}(r:KV kvs vs):(!vs.isEmpty)= !kvs.isEmpty:=by
 cases r<;>rfl
theorem b7z{xs:List V}{its:List Value}(r:Vals xs its):(!its.toArray.isEmpty)= !xs.isEmpty:=by
 cases r<;>simp
theorem b3b:(sizeLine:Nat)<2^63:=by rw[Y8];decide
theorem c9v:TruR X (fun x H Q=>∃k,TruV X.K x H k/\Q k H):=by
 intro pins s σ H x v Q I rx h
 obtain⟨k,e,q⟩:=h
 have hl:=b3b
 have hs:sizeLine=16777216:=Y8
 cases x with
 |non=>
  cases rx
  have e':k=false:=e
  subst e'
  exact truthy_none ⟨H,I,q⟩
 |bl b=>
  cases rx
  have e':k=b:=e
  subst e'
  exact Y6 ⟨H,I,q⟩
 |int i=>
  obtain⟨t,rfl⟩:=rx
  have e':k=(i !=0):=e
  subst e'
  exact PySem.P.truthy_int ⟨H,I,q⟩
 |str y=>
  obtain⟨t,rfl⟩:=rx
  obtain⟨hy,e'⟩:y.length<=sizeLine/\k=((y.length:Int) !=0):=e
  subst e'
  exact PySem.P.truthy_str (by omega) ⟨H,I.tok _,q⟩
 |byt y=>
  obtain⟨t,rfl⟩:=rx
  obtain⟨hy,e'⟩:y.size<=sizeLine/\k=((y.size:Int) !=0):=e
  subst e'
  exact W.truthy_bytes (by omega) ⟨H,I.tok _,q⟩
 |ref p=>
  cases rx
  have e':(∃xs,SqL X.K H p xs/\k= !xs.isEmpty)\/(∃xs,SqT X.K H p xs/\k= !xs.isEmpty)\/∃kvs,H p=some (.dK kvs)/\k= !kvs.isEmpty:=e
  rcases e' with⟨xs,hx,e'⟩|⟨xs,hx,e'⟩|⟨kvs,hx,e'⟩
  ·subst e'
   obtain⟨its,r,pl,hz⟩:=I.list hx
   have hlen:=r.length
   exact wpAny_truthy_list pl.isList (by simp only[Zf];omega) ⟨H,I.tok _,by rw[b7z r];exact q⟩
  ·subst e'
   obtain⟨its,r,pl,hz⟩:=I.tuple hx
   have hlen:=r.length
   exact truthy_tuple pl (by simp only[Zf];omega) ⟨H,I.tok _,by rw[b7z r];exact q⟩
  ·subst e'
   obtain⟨hz,hS,vs,r,m⟩:kvs.length<=sizeLine/\(p==sysModules)=false/\∃vs,KV kvs vs/\s.heap.DictOf (a2g X.prog X.w) p vs:=I.hok p _ hx
   have hlen:kvs.length=vs.length:=Ux r
   exact wpAny_truthy_dict hS m (by omega) ⟨H,I.tok _,by rw[c8f r];exact q⟩
 |_=>exact(show False from e).elim
theorem c8g:OpR X (binaryOp .Add) (fun x y H Q=>∃i j,x=.str i/\y=.str j/\i.length+j.length<=sizeLine/\Q (.str (i++j)) H):=by
 intro pins s σ H x y v u Q I rx ry h
 obtain⟨i,j,rfl,rfl,hz,q⟩:=h
 obtain⟨t,rfl⟩:=rx
 obtain⟨t',rfl⟩:=ry
 exact add_str (fun t' tk=>⟨.str (i++j),H,I.tok _,⟨_,rfl⟩,q⟩) hz
theorem c5y:OpR X (inplaceOp .Add) (fun x y H Q=>∃i j,x=.str i/\y=.str j/\i.length+j.length<=sizeLine/\Q (.str (i++j)) H):=by
 intro pins s σ H x y v u Q I rx ry h
 obtain⟨i,j,rfl,rfl,hz,q⟩:=h
 obtain⟨t,rfl⟩:=rx
 obtain⟨t',rfl⟩:=ry
 exact iadd_str (fun t' tk=>⟨.str (i++j),H,I.tok _,⟨_,rfl⟩,q⟩) hz
theorem vals1{x:V}{us:List Value}(r:Vals [x] us):∃u,us=[u]/\RelV x u:=by
 cases r with
 |cons r1 r2=>cases r2;exact⟨_,rfl,r1⟩
theorem c2e{x y:V}{us:List Value}(r:Vals [x,y] us):∃u w',us=[u,w']/\RelV x u/\RelV y w':=by
 cases r with
 |cons r1 r2=>
  cases r2 with
  |cons r3 r4=>cases r4;exact⟨_,_,rfl,r1,r3⟩
theorem c3e:a5t X (.type "str") (fun xs H Q=>∃i,xs=[.int i]/\i.natAbs.log2<1920/\Q (.str (toString i)) H):=by
 intro pins s σ H xs us Q I r h
 obtain⟨i,rfl,hz,q⟩:=h
 obtain⟨u,rfl,t,rfl⟩:=vals1 r
 exact PySem.P.str_of_int hz ⟨.str _,H,I.tok _,⟨_,rfl⟩,q⟩
def LenV(K:W.Frag)(x:V)(H:Hp)(n:Nat):Prop:=
 match x with
 | .str y=>y.length<=sizeLine/\n=y.length
 | .byt y=>y.size<=sizeLine/\n=y.size
 | .ref p=>(∃xs,SqL K H p xs/\n=xs.length)\/∃xs,SqT K H p xs/\n=xs.length
 |_=>False
theorem d2t:a5t X (.builtin "len") (fun xs H Q=>∃x n,xs=[x]/\LenV X.K x H n/\Q (.int n) H):=by
 intro pins s σ H xs us Q I r h
 obtain⟨x,n,rfl,e,q⟩:=h
 obtain⟨u,rfl,rx⟩:=vals1 r
 have hl:=b3b
 have hs:sizeLine=16777216:=Y8
 cases x with
 |str y=>
  obtain⟨t,rfl⟩:=rx
  obtain⟨hy,e'⟩:y.length<=sizeLine/\n=y.length:=e
  subst e'
  exact len_str (by omega) ⟨.int _,H,I.tok _,⟨_,rfl⟩,q⟩
 |byt y=>
  obtain⟨t,rfl⟩:=rx
  obtain⟨hy,e'⟩:y.size<=sizeLine/\n=y.size:=e
  subst e'
  exact W.len_bytes (by omega) ⟨.int _,H,I.tok _,⟨_,rfl⟩,q⟩
 |ref p=>
  cases rx
  have e':(∃xs,SqL X.K H p xs/\n=xs.length)\/∃xs,SqT X.K H p xs/\n=xs.length:=e
  rcases e' with⟨xs,hx,e'⟩|⟨xs,hx,e'⟩
  ·subst e'
   obtain⟨its,r',pl,hz⟩:=I.list hx
   have hlen:=r'.length
   exact Calls.call_len_list pl.isList (by simp only[Zf];omega) ⟨.int xs.length,H,I.tok _,⟨_,by simp only[Zf];rw[hlen]⟩,q⟩
  ·subst e'
   obtain⟨its,r',pl,hz⟩:=I.tuple hx
   have hlen:=r'.length
   exact len_tuple pl (by simp only[Zf];omega) ⟨.int xs.length,H,I.tok _,⟨_,by simp only[Zf];rw[hlen]⟩,q⟩
 |_=>exact(show False from e).elim
end
structure ObjM(h:Heap)(x dx C:Addr)(mA:Str->Option Value):Prop where
 obj:h.get? x=some (W.instObj C dx)
 ns:h.Ns1 dx mA
 ne:dx≠x
theorem b2e{h:Heap}{dx:Addr}{mA:Str->Option Value}(n:h.Ns1 dx mA):∃od,h.get? dx=some od/\∀name,W.lookIn name od=some (mA name):=by
 obtain⟨o,es,ep,ho,hd,hk,_,hm⟩:=n
 refine⟨o,ho,fun name=>?_⟩
 have e:=hm name
 unfold nsFind findBy at e
 rw[<-Array.find?_toList]at e
 unfold W.lookIn
 rw[hd]
 dsimp only
 split
 ·rename_i y q
  rw[q]at e
  exact Ys some e
 ·rename_i q
  rw[q]at e
  have a:es.toList.any (·.refKey)=false:=by
   rw[List.any_eq_false]
   intro y hy
   obtain⟨z,t,hkey⟩:=hk y (Array.mem_toList_iff.mp hy)
   simp[DictEntry.refKey,hkey]
  have a':¬es.toList.any (·.refKey)=true:=by rw[a];exact Zp
  rw[if_neg a']
  exact Ys some e
theorem ObjM.look{h:Heap}{x dx C:Addr}{mA:Str->Option Value}(I:ObjM h x dx C mA):∃od,W.InstAt h x (W.instObj C dx) C (some od)/\∀name,W.lookIn name od=some (mA name):=
 let⟨od,ho,hl⟩:=b2e I.ns
 ⟨od,⟨I.obj,rfl,rfl,ho⟩,hl⟩
section
variable{prog:Program}{w:World}{A:Around}{E:Value->Shared->Prop}{s:Shared}{K:W.Frag}{x dx C f:Addr}{mA:Str->Option Value}{name:Str}{v:Value}
theorem get_map{expr:Bool}{Q:Value->Shared->Prop}(X:K.In s.heap)(I:ObjM s.heap x dx C mA)(hg:W.plainGet K C name=true)(hh:W.hasDictIn K C=true)
  (ha:W.findIn K (.ref C) name=some none)(hv:mA name=some v)(hv':W.handedIn v=true)(h:Q v { s with toks:=s.toks+1}):
  wpAny (model prog w) A (getAttr (.ref x) name expr) Q E s:=by
 obtain⟨od,J,hl⟩:=I.look
 exact W.get_value X J (Uw hg).1 (W.findObj_own hh ha rfl (by rw[hl,hv])) hv' h
theorem d2u{pl:Sem Bool}{Q:Value×List Value->Shared->Prop}(X:K.In s.heap)(I:ObjM s.heap x dx C mA)(hg:W.plainGet K C name=true)
  (hf:W.findIn K (.ref C) name=some (some (.ref f)))(ht:W.isFn K (.ref f)=true)(hv:mA name=none)(h:Q (.ref f,[.ref x]) s):
  wpAny (model prog w) A (getMethod (.ref x) name pl) Q E s:=by
 obtain⟨od,J,hl⟩:=I.look
 exact W.method_fn X J (Uw hg).1 (Uw hg).2 hf (W3.mp ht) (by show(W.lookIn name od).map (·.isSome)=some false;rw[hl,hv];rfl) h
theorem set_map{ns:List Str}{Q:Unit->Shared->Prop}(X:K.In s.heap)(I:ObjM s.heap x dx C mA)
  (hs:W.findIn K (.ref C) "__setattr__"=some (some (.builtin "object.__setattr__")))(hp:W.plainOver K C=true)(ht:W.takerIn K C name=some none)(hh:W.hasDictIn K C=true)
  (hw:PySem.Within mA ns)(hsz:ns.length<=sizeLine)
  (h:∀h',ObjM h' x dx C (fun y=>if y=name then some v else mA y)->Heap.SameBut dx s.heap h'->Q () { s with heap:=h',toks:=s.toks+2}):
  wpAny (model prog w) A (setAttr (.ref x) name v) Q E s:=by
 obtain⟨od,J,hl⟩:=I.look
 refine W.set_plain X J hs (W.osa_open (s:={ s with toks:=s.toks+1}) (r:=none) X J hp ht fun b=>?_)
 obtain⟨cd,hc,hd'⟩:=W.any_some hh
 have hx:s.heap.get? x=some ⟨.ref C,some dx,.plain,#[]⟩:=I.obj
 refine Zd (Zr (Zd (Zd (wpAny_loadPart hx (Zd (W.Looks.here (s:={ s with toks:=s.toks+1}) (W.looks_clsIn X hc) ?_))))))
 rw[hd']
 refine Zr (a:=some dx) (Zd (Zr (Zd ?_)))
 refine U5 (s:={ s with toks:=s.toks+1}) I.ns fun h' hn2 hs2=>?_
 obtain⟨oD,esD,epD,hoD,hdD,hcD⟩:=hn2.count (V8 name v hw)
 refine Zd (Ud hoD (by rw[hdD];exact Ue (Zz hcD (by rw[length_cons];omega))) ?_)
 exact Zr (h _ ⟨(hs2.2 _ (Ne.symm I.ne)).trans I.obj,hn2,I.ne⟩ hs2)
theorem d2v{R:Result->Shared->Prop}{vs:List Value}{kw:List (Str×Value)}(X:K.In s.heap)(hm:W.makesIn K C=true)
  (hi:W.findIn K (.ref C) "__init__"=some (some (.ref f)))(hf:W.typeIn K (.ref f)=some (.type "function"))
  (h:codeAny (model prog w) (A.under (.builtin "type.__call__" ⟨.ref C::vs,kw⟩)) (.call (.ref f) ⟨.ref (s.heap.objs.size+1)::vs,kw⟩) (W.InitBack (s.heap.objs.size+1) R)
   { s with heap:=(s.heap.push W.emptyDict).push (W.instObj C s.heap.objs.size)}):
  codeAny (model prog w) A (.call (.ref C) ⟨vs,kw⟩) R s:=by
 obtain⟨hh,g,d,t,os⟩:=s
 exact W.make_core (W.makes_of X hm) (W.looks_findIn X hi) (fun self=>W.bind_fn X self hf) (.inl rfl) h
end
def putF(f:Str)(v:V):List (Str×V)->List (Str×V)
 | []=>[(f,v)]
 | (g,x)::r=>if g=f then(g,v)::r else(g,x)::putF f v r
theorem b2q(f g:Str)(v:V):∀fs:List (Str×V),(putF f v fs).lookup g=if g=f then some v else fs.lookup g
 | []=>by
  show List.lookup g [(f,v)]=_
  by_cases h:g=f
  ·have hb:(g==f)=true:=W3.mpr h
   simp only[List.lookup,hb,if_pos h]
  ·have hb:(g==f)=false:=Y7.mpr h
   simp only[List.lookup,hb,if_neg h]
 | (k,x)::r=>by
  have ih:=b2q f g v r
  rw[show putF f v ((k,x)::r)=(if k=f then(k,v)::r else(k,x)::putF f v r)from rfl]
  by_cases hk:k=f
  ·rw[if_pos hk]
   by_cases h:g=k
   ·have hb:(g==k)=true:=W3.mpr h
    simp only[List.lookup,hb,if_pos (h.trans hk)]
   ·have hb:(g==k)=false:=Y7.mpr h
    simp only[List.lookup,hb,if_neg (fun e:g=f=>h (e.trans hk.symm))]
  ·rw[if_neg hk]
   by_cases h:g=k
   ·have hb:(g==k)=true:=W3.mpr h
    simp only[List.lookup,hb,if_neg (fun e:g=f=>hk (h.symm.trans e))]
   ·have hb:(g==k)=false:=Y7.mpr h
    simp only[List.lookup,hb]
    exact ih
theorem b4z(f:Str)(v:V):∀fs:List (Str×V),f∈(putF f v fs).map (·.1)/\∀g,g∈fs.map (·.1)->g∈(putF f v fs).map (·.1)
 | []=>⟨by simp[putF],fun g h=>by simp at h⟩
 | (k,x)::r=>by
  obtain⟨i1,i2⟩:=b4z f v r
  rw[show putF f v ((k,x)::r)=(if k=f then(k,v)::r else(k,x)::putF f v r)from rfl]
  by_cases hk:k=f
  ·rw[if_pos hk]
   subst hk
   exact⟨by simp,fun g h=>by simpa using h⟩
  ·rw[if_neg hk]
   refine⟨?_,fun g h=>?_⟩
   ·rw[Zu]
    exact Zc _ i1
   ·rw[Zu]at h ⊢
    rcases Zj.mp h with e|e
    ·exact Zj.mpr (.inl e)
    ·exact Zc _ (i2 g e)
theorem b6s(f:Str)(v:V):∀fs:List (Str×V),(putF f v fs).length<=fs.length+1
 | []=>by simp[putF]
 | (k,x)::r=>by
  have ih:=b6s f v r
  rw[show putF f v ((k,x)::r)=(if k=f then(k,v)::r else(k,x)::putF f v r)from rfl]
  by_cases hk:k=f
  ·rw[if_pos hk,length_cons,length_cons];omega
  ·rw[if_neg hk,length_cons,length_cons];omega
theorem RelO.some_of{v:V}{o:Option Value}(r:RelO (some v) o):∃u,o=some u/\RelV v u:=by
 cases o with
 |none=>exact(show False from r).elim
 |some u=>exact⟨u,rfl,r⟩
theorem RelO.none_of{o:Option Value}(r:RelO none o):o=none:=by
 cases o with
 |none=>rfl
 |some u=>exact(show False from r).elim
theorem c0x{v:V}{u:Value}(r:RelV v u):W.handedIn u=true:=by
 cases v with
 |non=>cases(show u=Value.none from r);rfl
 |bl b=>cases(show u=Value.bool b from r);rfl
 |int i=>obtain⟨t,e⟩:=(show ∃t,u=Value.int i t from r);cases e;rfl
 |str x=>obtain⟨t,e⟩:=(show ∃t,u=Value.str x t from r);cases e;rfl
 |byt b=>obtain⟨t,e⟩:=(show ∃t,u=Value.bytes b t from r);cases e;rfl
 |flt b=>obtain⟨t,e⟩:=(show ∃t,u=Value.float b t from r);cases e;rfl
 |ref a=>cases(show u=Value.ref a from r);rfl
 |ty n=>cases(show u=Value.type n from r);rfl
section
variable{P:Program}{w:World}{H H':Hp}{h h':Heap}{a C dx:Addr}{fs fs':List (Str×V)}
theorem b5x(hok:HOk P w H h)(e:H a=some (.ins C dx fs)):∃mA,ObjM h a dx C mA/\(∀f,RelO (fs.lookup f) (mA f))/\PySem.Within mA (fs.map (·.1))/\fs.length<=1000/\H dx=some (.own a):=by
 obtain⟨d,z,ne,ob,mA,n,r,q⟩:=(show a1y P w H h a (.ins C dx fs)from hok a _ e)
 exact⟨mA,⟨ob,n,ne⟩,r,q,z,d⟩
end
structure Cls(K:W.Frag)(C:Addr):Prop where
 pg:W.plainGet K C Str.empty=true
 hd:W.hasDictIn K C=true
 po:W.plainOver K C=true
 sa:W.findIn K (.ref C) "__setattr__"=some (some (.builtin "object.__setattr__"))
theorem Cls.get{K:W.Frag}{C:Addr}(c:Cls K C)(f:Str):W.plainGet K C f=true:=c.pg
def a1z(K:W.Frag)(C:Addr)(f:Str):Prop:=W.findIn K (.ref C) f=some none
theorem a1z.taker{K:W.Frag}{C:Addr}{f:Str}(n:a1z K C f):W.takerIn K C f=some none:=by
 unfold W.takerIn
 rw[show W.findIn K (.ref C) f=some none from n]
 rfl
structure Meth(K:W.Frag)(C:Addr)(m:Str)(f:Addr):Prop where
 at_:W.findIn K (.ref C) m=some (some (.ref f))
 fn:W.isFn K (.ref f)=true
 kp:W.keepIn K (.ref f)=true
section
variable{X:Cx}{pins:List (Addr×Obj)}{σ:St}{H:Hp}{s:Shared}{a C dx:Addr}{fs:List (Str×V)}{f:Str}{v:V}{A:Around}{E:Value->Shared->Prop}
theorem b8a{b:Bool}{Q:Value->Shared->Prop}(I:Inv X pins σ H s)(e:H a=some (.ins C dx fs))(c:Cls X.K C)(n:a1z X.K C f)(l:fs.lookup f=some v)
  (h:∀u s',Inv X pins σ H s'->RelV v u->Q u s'):wpAny (model X.prog X.w) A (getAttr (.ref a) f b) Q E s:=by
 obtain⟨mA,O,r,_,_,_⟩:=b5x I.hok e
 obtain⟨u,hu,ru⟩:=RelO.some_of (v:=v) (o:=mA f) (by rw[<-l];exact r f)
 exact get_map I.kIn O (c.get f) c.hd n hu (c0x ru) (h u _ (I.tok _) ru)
theorem b8b{m:Str}{g:Addr}{pl:Sem Bool}{Q:Value×List Value->Shared->Prop}(I:Inv X pins σ H s)(e:H a=some (.ins C dx fs))(c:Cls X.K C)(k:Meth X.K C m g)(l:fs.lookup m=none)
  (h:Q (.ref g,[.ref a]) s):wpAny (model X.prog X.w) A (getMethod (.ref a) m pl) Q E s:=by
 obtain⟨mA,O,r,_,_,_⟩:=b5x I.hok e
 have hn:mA m=none:=RelO.none_of (by rw[<-l];exact r m)
 exact d2u I.kIn O (c.get m) k.at_ k.fn hn h
theorem b8c{y:V}{u:Value}{Q:Unit->Shared->Prop}(I:Inv X pins σ H s)(e:H a=some (.ins C dx fs))(c:Cls X.K C)(n:a1z X.K C f)(hl:fs.length<1000)(ry:RelV y u)
  (h:∀s',Inv X pins σ (upd H a (.ins C dx (putF f y fs))) s'->Q () s'):wpAny (model X.prog X.w) A (setAttr (.ref a) f u) Q E s:=by
 obtain⟨mA,O,r,wi,_,ho⟩:=b5x I.hok e
 have hz:(fs.map (·.1)).length<=sizeLine:=by rw[length_map,Y8];omega
 refine set_map I.kIn O c.sa c.po n.taker c.hd wi hz fun h' O' sb=>h _ ?_
 have hd:∃o,h'.get? dx=some o:=let⟨o,_,_,e',_⟩:=O'.ns;⟨o,e'⟩
 refine I.write (x:=a) (e:=dx) (by rw[e];exact True.intro) (.inr ho) (fun b q hb z=>(sb.2 b hb).trans z) hd ?_
 refine⟨by rw[a0j O.ne];exact ho,?_,O.ne,O'.obj,_,O'.ns,fun g=>?_,fun g hg=>?_⟩
 ·have:=b6s f y fs;omega
 ·show RelO ((putF f y fs).lookup g) (if g=f then some u else mA g)
  rw[b2q]
  by_cases q:g=f
  ·rw[if_pos q,if_pos q];exact ry
  ·rw[if_neg q,if_neg q];exact r g
 ·by_cases q:g=f
  ·rw[q];exact(b4z f y fs).1
  ·refine(b4z f y fs).2 g (wi g fun z=>hg ?_)
   show(if g=f then some u else mA g)=none
   rw[if_neg q];exact z
theorem Inv.made(I:Inv X pins σ H s):Inv X pins σ (upd (upd H s.heap.objs.size (.own (s.heap.objs.size+1))) (s.heap.objs.size+1) (.ins C s.heap.objs.size []))
  { s with heap:=(s.heap.push W.emptyDict).push (W.instObj C s.heap.objs.size)}:=by
 have e1:(s.heap.push W.emptyDict).get? s.heap.objs.size=some W.emptyDict:=Z2 s.heap rfl
 have e2:((s.heap.push W.emptyDict).push (W.instObj C s.heap.objs.size)).get? (s.heap.objs.size+1)=some (W.instObj C s.heap.objs.size):=by
  have:=Z2 (s.heap.push W.emptyDict) (o:=W.instObj C s.heap.objs.size) rfl
  rwa[Vy]at this
 have e3:(s.heap.push W.emptyDict).Ns s.heap.objs.size (fun _=>none):=⟨W.emptyDict,#[],_,e1,rfl,(fun e he=>absurd he (by simp)),fun _=>rfl⟩
 have I1:=I.laid (a:=s.heap.objs.size) (o:=.own (s.heap.objs.size+1)) (h':=s.heap.push W.emptyDict) (t':=s.toks) (fun b u q=>Zh _ q) (Zl _) ⟨_,e1⟩
 refine I1.laid (a:=s.heap.objs.size+1) (o:=.ins C s.heap.objs.size []) (t':=s.toks) (fun b u q=>Zh _ q) (Nat.le_of_eq (Vy _ _)) ?_
 have ne:s.heap.objs.size≠s.heap.objs.size+1:=Yc (Ug _)
 refine⟨by rw[a0j ne,a0b],Yo _,ne,e2,fun _=>none,(Heap.Ns1.of_empty e3).at fun o q=>Zh _ q,fun _=>True.intro,fun y hy=>absurd rfl hy⟩
theorem c6r{prog:Program}{w:World}{env:Env}{e:Expr}{f:Str}{pos:Pos}{s:Shared}{Q:Value->Shared->Prop}(hb:attributeBase e f env (eval e env)=eval e env)
  (h:wpAny (model prog w) A (eval e env) (fun o s₁=>wpAny (model prog w) A (getAttr o f true) Q E s₁) E s):wpAny (model prog w) A (eval (.Attribute e f pos) env) Q E s:=
 Attribute_any_ h (by rw[arm_eval_Attribute,hb])
end
def tFld(K:W.Frag)(ta:TE)(f:Str):TE:=fun σ H Q=>ta σ H fun x H1=>∃a C dx fs v,x=.ref a/\H1 a=some (.ins C dx fs)/\Cls K C/\a1z K C f/\fs.lookup f=some v/\Q v H1
def sFld(K:W.Frag)(ta tv:TE)(f:Str):TS:=fun D σ H=>tv σ H fun y H1=>ta σ H1 fun x H2=>∃a C dx fs,x=.ref a/\H2 a=some (.ins C dx fs)/\Cls K C/\a1z K C f/\fs.length<1000/\
 D.nx σ (upd H2 a (.ins C dx (putF f y fs)))
def InOp(X:Cx)(op:Operator)(rd:V->V->Hp->VK->Prop):Prop:=
 ∀(pins:List (Addr×Obj))(s:Shared)(σ:St)(H:Hp)(x y:V)(u v:Value)(Q:VK),Inv X pins σ H s->RelV x u->RelV y v->rd x y H Q->wpAny (model X.prog X.w) X.A (inplaceOp op u v) (EP X pins σ Q) X.xe s
def c6s(K:W.Frag)(ta tv:TE)(rd:V->V->Hp->VK->Prop)(f:Str):TS:=fun D σ H=>ta σ H fun x H1=>∃a C dx fs v,x=.ref a/\H1 a=some (.ins C dx fs)/\Cls K C/\a1z K C f/\fs.lookup f=some v/\
 tv σ H1 fun y H2=>rd v y H2 fun z H3=>∃dx' fs',H3 a=some (.ins C dx' fs')/\fs'.length<1000/\D.nx σ (upd H3 a (.ins C dx' (putF f z fs')))
section
variable{X:Cx}{o e value:Expr}{f:Str}{pos pos' tpos:Pos}{ta tv:TE}
theorem a1j(he:PE X e ta)(hb:attributeBase e f X.env (eval e X.env)=eval e X.env):PE X (.Attribute e f pos) (tFld X.K ta f):=by
 intro pins s σ H Q I h
 refine c6r hb (thn (he pins s σ H _ I h) fun u s1 ⟨x,H1,I1,rx,a,C,dx,fs,v,ex,ea,c,n,l,q⟩=>?_)
 subst ex
 obtain rfl:u=Value.ref a:=rx
 exact b8a I1 ea c n l fun u' s2 I2 ru=>⟨v,H1,I2,ru,q⟩
theorem a6l(ha:PE X o ta)(hv:PE X value tv)(hs:swapsWith value (some (.Attribute o f pos')) pos.line X.env=pure false):PS X (.Assign [.Attribute o f pos'] value pos) (sFld X.K ta tv f):=by
 intro pins s σ H D I h
 refine Uc (thn (hv pins s σ H _ I h) fun u s1 ⟨y,H1,I1,ry,q⟩=>thn (ha pins s1 σ H1 _ I1 q) fun ov s2 ⟨x,H2,I2,rx,a,C,dx,fs,ex,ea,c,n,l,q2⟩=>?_) hs
 subst ex
 obtain rfl:ov=Value.ref a:=rx
 exact b8c I2 ea c n l ry fun s3 I3=>⟨σ,_,I3,q2⟩
theorem a7v{op:Operator}{rd:V->V->Hp->VK->Prop}(ha:PE X o ta)(hv:PE X value tv)(hop:InOp X op rd):PS X (.AugAssign (.Attribute o f tpos) op value pos) (c6s X.K ta tv rd f):=by
 intro pins s σ H D I h
 refine wpAny_AugAssign_AttributeAny (thn (ha pins s σ H _ I h) fun ov s1 ⟨x,H1,I1,rx,a,C,dx,fs,v,ex,ea,c,n,l,q⟩=>?_)
 subst ex
 obtain rfl:ov=Value.ref a:=rx
 refine b8a I1 ea c n l fun u s2 I2 ru=>thn (hv pins s2 σ H1 _ I2 q) fun w3 s3 ⟨y,H2,I3,ry,q3⟩=>thn (hop pins s3 σ H2 v y u w3 _ I3 ru ry q3) fun w4 s4 ⟨z,H3,I4,rz,dx',fs',ea',l',q4⟩=>?_
 exact b8c I4 ea' c n l' rz fun s5 I5=>⟨σ,_,I5,q4⟩
end
section
variable{X:Cx}{pins:List (Addr×Obj)}{σ:St}{H:Hp}{s:Shared}{A:Around}{E:Value->Shared->Prop}{Q:Value->Shared->Prop}{c:Value}{b:Bool}
inductive TyOf(K:W.Frag)(H:Hp):V->Value->Prop where
 |non:TyOf K H .non (.type "NoneType")
 |bl (x:Bool):TyOf K H (.bl x) (.type "bool")
 |int (i:Int):TyOf K H (.int i) (.type "int")
 |str (x:Str):TyOf K H (.str x) (.type "str")
 |flt (x:UInt64):TyOf K H (.flt x) (.type "float")
 |lst {a:Addr} {xs:List V} (e:H a=some (.lst xs)):TyOf K H (.ref a) (.type "list")
 |frz {a:Addr} {o:Obj} {xs:List V} (e:H a=some (.frz o (.lst xs))):TyOf K H (.ref a) (.type "list")
 |tup {a:Addr} {xs:List V} (e:H a=some (.tup xs)):TyOf K H (.ref a) (.type "tuple")
 |dK {a:Addr} {kvs:List (Key×V)} (e:H a=some (.dK kvs)):TyOf K H (.ref a) (.type "dict")
 |dT {a:Addr} {kvs:List (List Key×V)} (e:H a=some (.dT kvs)):TyOf K H (.ref a) (.type "dict")
 |ins {a C dx:Addr} {fs:List (Str×V)} (e:H a=some (.ins C dx fs)) (cl:Cls K C) (ha:W.findIn K (.ref C) "__class__"=some (some (.builtin "object.__class__")))
   (hn:W.specialIn K (.builtin "object.__class__") "__get__"=some (some (.builtin "getset_descriptor.__get__"))) (htk:W.takesIn K (.builtin "object.__class__")=some true)
   (hm:W.mroIn K C (.type "object")=some true):TyOf K H (.ref a) (.ref C)
theorem b0a{x:V}{u t:Value}(I:Inv X pins σ H s)(rx:RelV x u)(ty:TyOf X.K H x t)(e:W.kitOne X.K t c=some b)(h:∀tk,Q (.bool b) { s with toks:=tk}):
  wpAny (model X.prog X.w) A (call (.builtin "isinstance") [u,c]) Q E s:=by
 cases ty with
 |non=>cases(show u=Value.none from rx);exact Xy W.kitx_none I.kIn True.intro e (fun z=>nomatch z) h
 |bl y=>cases(show u=Value.bool y from rx);exact Xy W.kitx_bool I.kIn True.intro e (fun z=>nomatch z) h
 |int i=>obtain⟨t,q⟩:=(show ∃t,u=Value.int i t from rx);cases q;exact Xy W.kitx_int I.kIn True.intro e (fun z=>nomatch z) h
 |str y=>obtain⟨t,q⟩:=(show ∃t,u=Value.str y t from rx);cases q;exact Xy W.kitx_str I.kIn True.intro e (fun z=>nomatch z) h
 |flt y=>obtain⟨t,q⟩:=(show ∃t,u=Value.float y t from rx);cases q;exact Xy W.kitx_float I.kIn True.intro e (fun z=>nomatch z) h
 | @lst a xs ea=>
  cases(show u=Value.ref a from rx)
  obtain⟨_,_,n,_,h1⟩:=(show a1y X.prog X.w H s.heap a (.lst xs)from I.hok a _ ea)
  exact Xy To I.kIn ⟨_,h1,rfl⟩ e (fun z=>nomatch z) h
 | @frz a ob xs ea=>
  cases(show u=Value.ref a from rx)
  obtain⟨_,_,_,n,_,h1⟩:=(show a1y X.prog X.w H s.heap a (.frz ob (.lst xs))from I.hok a _ ea)
  exact Xy To I.kIn ⟨_,h1,rfl⟩ e (fun z=>nomatch z) h
 | @tup a xs ea=>
  cases(show u=Value.ref a from rx)
  obtain⟨_,_,_,p⟩:=(show a1y X.prog X.w H s.heap a (.tup xs)from I.hok a _ ea)
  obtain⟨o,h1,h2,_⟩:=p
  exact Xy W.kitx_tuple I.kIn ⟨o,h1,h2⟩ e (fun z=>nomatch z) h
 | @dK a kvs ea=>
  cases(show u=Value.ref a from rx)
  obtain⟨_,_,vs,_,p⟩:=(show a1y X.prog X.w H s.heap a (.dK kvs)from I.hok a _ ea)
  obtain⟨o,es,ep,h1,h2,_⟩:=p
  exact Xy W.kitx_dict I.kIn ⟨o,h1,h2.1⟩ e (fun z=>nomatch z) h
 | @dT a kvs ea=>
  cases(show u=Value.ref a from rx)
  obtain⟨_,_,xs,_,o,es,ep,h1,h2,_⟩:=(show a1y X.prog X.w H s.heap a (.dT kvs)from I.hok a _ ea)
  exact Xy W.kitx_dict I.kIn ⟨o,h1,h2.1⟩ e (fun z=>nomatch z) h
 | @ins a C dx fs ea cl ha hn htk hm=>
  cases(show u=Value.ref a from rx)
  obtain⟨mA,O,_⟩:=b5x I.hok ea
  obtain⟨od,J,_⟩:=O.look
  exact Xy (W.kitx_own (cl.get _) cl.hd ha hn htk hm) I.kIn J e (fun z=>nomatch z) h
end
structure Room(k:Nat)(A:Around):Prop where
 hd:A.handled=none
 dp:A.depth+3*k+5<recursionLimit
 un:A.units+16*k+200<cLine
 gd:A.guards=some []
theorem Room.mono{j k:Nat}{A:Around}(r:Room k A)(h:j<=k):Room j A:=⟨r.hd,by have:=r.dp;omega,by have:=r.un;omega,r.gd⟩
theorem Room.deeper{k:Nat}{A:Around}(r:Room (k+1) A)(env:Env):Room k (A.deeper env):=
 ⟨r.hd,by have:=r.dp;show A.depth+1+3*k+5<_;omega,by have:=r.un;show A.units+3+16*k+200<_;omega,r.gd⟩
theorem c8h{A:Around}{C:Addr}{us:List Value}{kw:List (Str×Value)}:(A.under (.builtin "type.__call__" ⟨.ref C::us,kw⟩)).depth=A.depth+1:=by
 first|rfl|simp[Around.under,Code.weight,Code.isCreation,Code.isGuard,Code.isCaller,Code.frames,Code.isFrame,guardIds]
theorem c8i{A:Around}{C:Addr}{us:List Value}{kw:List (Str×Value)}:(A.under (.builtin "type.__call__" ⟨.ref C::us,kw⟩)).units=A.units+1:=by
 first|rfl|simp[Around.under,Code.cUnits,Code.frames,Code.isFrame]
theorem c5z{A:Around}{C:Addr}{us:List Value}{kw:List (Str×Value)}:(A.under (.builtin "type.__call__" ⟨.ref C::us,kw⟩)).guards=A.guards:=by
 first|rfl|simp[Around.under,Code.guards,Code.isGuard,guardIds,pushGuards]
theorem Room.make{k:Nat}{A:Around}(r:Room (k+1) A)(C:Addr)(us:List Value)(kw:List (Str×Value)):Room k (A.under (.builtin "type.__call__" ⟨.ref C::us,kw⟩)):=
 ⟨r.hd,by have:=r.dp;rw[c8h];omega,by have:=r.un;rw[c8i];omega,c5z.trans r.gd⟩
theorem Room.depth{k:Nat}{A:Around}(r:Room k A):A.depth<recursionLimit:=by have:=r.dp;omega
theorem Room.units{k:Nat}{A:Around}(r:Room k A):A.units+64<cLine:=by have:=r.un;omega
def tNil:TA:=fun _ H Q=>Q [] H
def b8d(ta:TE)(tr:TA):TA:=fun σ H Q=>ta σ H fun x H1=>tr σ H1 fun xs H2=>Q (x::xs) H2
section
variable{X:Cx}{e:Expr}{es:List Expr}{te:TE}{t:TA}{pos:Pos}
theorem a0c:PA X [] tNil:=fun _ _ _ _ H Q I h=>Calls.spliced_nil ⟨[],H,I,.nil,h⟩
theorem b9w(ha:PE X e te)(hr:PA X es t)(hs:starEach (e::es) X.env=(false,eval e X.env)::starEach es X.env:=by rfl):PA X (e::es) (b8d te t):=by
 intro pos pins s σ H Q I h
 rw[hs]
 show wpAny _ _ (spliced ((false,eval e X.env)::backTo pos (starEach es X.env))) _ _ s
 refine Sq (thn (ha pins s σ H _ I h) fun u s1 ⟨x,H1,I1,r1,q1⟩=>?_)
 exact thn (hr pos pins s1 σ H1 _ I1 q1) fun us s2 ⟨xs,H2,I2,r2,q2⟩=>⟨x::xs,H2,I2,.cons r1 r2,q2⟩
def tTup(t:TA):TE:=fun σ H Q=>t σ H fun xs H1=>xs.length<=sizeLine/\∀p,H1 p=none->Q (.ref p) (upd H1 p (.tup xs))
def tLst(t:TA):TE:=fun σ H Q=>t σ H fun xs H1=>xs.length<=sizeLine/\∀p,H1 p=none->Q (.ref p) (upd H1 p (.lst xs))
theorem a0y{x1}(h:PA X es t):PE X (.Tuple es x1 pos) (tTup t):=by
 intro pins s σ H Q I hq
 refine wpAny_Tuple_spliced (thn (h pos pins s σ H _ I hq) fun us s1 ⟨xs,H1,I1,r,z,q⟩=>⟨by rw[<-r.length];exact z,?_⟩)
 have hf:H1 s1.heap.objs.size=none:=I1.hok.fresh (Zl _)
 refine⟨.ref s1.heap.objs.size,upd H1 s1.heap.objs.size (.tup xs),I1.laid (t':=s1.toks) (fun b u e=>Zh _ e) (Zl _) ?_,rfl,q _ hf⟩
 exact⟨z,us,r,⟨_,Z2 _ rfl,rfl,_,rfl⟩⟩
theorem a1w(h:PA X es t):PE X (.List es pos) (tLst t):=by
 intro pins s σ H Q I hq
 refine Sc (thn (h pos pins s σ H _ I hq) fun us s1 ⟨xs,H1,I1,r,z,q⟩=>⟨by rw[<-r.length];exact z,?_⟩)
 have hf:H1 s1.heap.objs.size=none:=I1.hok.fresh (Zl _)
 refine⟨.ref s1.heap.objs.size,upd H1 s1.heap.objs.size (.lst xs),I1.laid (t':=s1.toks) (fun b u e=>Zh _ e) (Zl _) ?_,rfl,q _ hf⟩
 exact⟨z,us,0,r,Z2 _ rfl⟩
end
abbrev Sp:=List V->Hp->VK->XK->Prop
abbrev CXT:=List Env->Hp->Shared->XK->Value->Shared->Prop
structure Env0(P:Program)(w:World)(K:W.Frag)(mg:Str->Option Value)(base:Heap)(A:Around)(outer:List Env)(s:Shared)(H:Hp):Prop where
 frames:A.frames=some outer
 mod:Mod K mg base
 bs:∀b o,base.get? b=some o->s.heap.get? b=some o/\H b=none
 bsz:base.objs.size<=s.heap.objs.size
 funs:s.heap.FunFrames base outer
 frf:∀b∈frs outer,H b=none
 hok:HOk P w H s.heap
 bare:AllBare s.gens
def CE(outer:List Env)(P:Program)(w:World)(H:Hp)(s:Shared)(Q:VK)(u:Value)(s':Shared):Prop:=
 ∃v H',s'.os=s.os/\AllBare s'.gens/\Un (frs outer) [] H H' s.heap s'.heap/\HOk P w H' s'.heap/\RelV v u/\Q v H'
def CR(CX:CXT)(outer:List Env)(P:Program)(w:World)(H:Hp)(s:Shared)(Q:VK)(E:XK)(r:Result)(s':Shared):Prop:=
 match r with
 | .ok (.ret u)=>CE outer P w H s Q u s'
 | .ok _=>False
 | .error e=>CX outer H s E e s'
structure FnOk(P:Program)(w:World)(K:W.Frag)(mg:Str->Option Value)(base:Heap)(CX:CXT)(k:Nat)(f:Addr)(fd:FuncData)(ps:List Str)(sp:Sp):Prop where
 len:∀vs H Q E,sp vs H Q E->vs.length=ps.length
 run:∀(A:Around)(outer:List Env)(s:Shared)(H:Hp)(args:Args)(us:List Value)(vs:List V)(Q:VK)(E:XK),Room k A->Env0 P w K mg base A outer s H->BindsTo s fd args (ps.zip us)->Vals vs us->sp vs H Q E->
  codeAny (model P w) A (.call (.ref f) args) (CR CX outer P w H s Q E) s
theorem Env0.make{P:Program}{w:World}{K:W.Frag}{mg:Str->Option Value}{base:Heap}{A:Around}{outer:List Env}{s:Shared}{H:Hp}(e:Env0 P w K mg base A outer s H)(C:Addr)(us:List Value)(kw:List (Str×Value)):
  Env0 P w K mg base (A.under (.builtin "type.__call__" ⟨.ref C::us,kw⟩)) outer s H:=⟨by first|exact e.frames| (simpa[Around.under,Code.envs,Code.isFrame,pushEnvs]using e.frames),e.mod,e.bs,e.bsz,e.funs,e.frf,e.hok,e.bare⟩
section
variable{X:Cx}{pins:List (Addr×Obj)}{σ:St}{H:Hp}{s s':Shared}
theorem Inv.env0(I:Inv X pins σ H s):Env0 X.prog X.w X.K X.mg X.base X.A X.stack s H:=
 ⟨I.ok.frames,I.ok.mod,I.bs,Zz I.ok.bsz I.sz,I.stack,I.stkFree,I.hok,I.bare⟩
theorem Inv.after{Q:VK}{u:Value}(I:Inv X pins σ H s)(h:CE X.stack X.prog X.w H s Q u s'):EP X pins σ Q u s':=by
 obtain⟨v,H',os,bare,un,hok,r,q⟩:=h
 obtain⟨hh,g,d,t,os'⟩:=s'
 obtain rfl:os'=s.os:=os
 exact⟨v,H',I.call (h':=hh) (g':=g) (d':=d) (t':=t) (ch:=[]) un hok bare (fun b z=>absurd z (by simp)),r,q⟩
end
def c2f(sp:Sp)(dvs:List V)(E:XK)(t:TA):TE:=fun σ H Q=>t σ H fun vs H1=>sp (vs++dvs) H1 Q E
def tMeth(C:Addr)(m:Str)(sp:Sp)(dvs:List V)(E:XK)(ta:TE)(t:TA):TE:=fun σ H Q=>ta σ H fun x H1=>∃a dx fs,x=.ref a/\H1 a=some (.ins C dx fs)/\fs.lookup m=none/\
 t σ H1 fun vs H2=>sp (x::(vs++dvs)) H2 Q E
def tMake(C:Addr)(sp:Sp)(dvs:List V)(E:XK)(t:TA):TE:=fun σ H Q=>t σ H fun vs H1=>∀x dx,H1 x=none->H1 dx=none->dx≠x->
 sp (.ref x::(vs++dvs)) (upd (upd H1 dx (.own x)) x (.ins C dx [])) (fun v H2=>v=.non/\Q (.ref x) H2) E
def Binds(K:W.Frag)(fd:FuncData)(ps:List Str)(ds:List Value):Prop:=
 ∀(s:Shared)(us:List Value),K.In s.heap->(us++ds).length=ps.length->BindsTo s fd ⟨us,[]⟩ (ps.zip (us++ds))
theorem Binds.all{K:W.Frag}{fd:FuncData}{ps:List Str}(h:∀us:List Value,us.length=ps.length->bindArgs fd ⟨us,[]⟩=pure (ps.zip us)):Binds K fd ps []:=fun s us _ hl=>by
 rw[Yr]at hl ⊢
 exact .of_eq (h us hl)
def a7i(CX:CXT)(X:Cx)(E:XK):Prop:=∀(pins:List (Addr×Obj))(σ:St)(H:Hp)(s:Shared)(e:Value)(s':Shared),Inv X pins σ H s->CX X.stack H s E e s'->X.xe e s'
section
variable{X:Cx}{CX:CXT}{k:Nat}{f C:Addr}{fd:FuncData}{ps:List Str}{sp:Sp}{dvs:List V}{ds:List Value}{E:XK}{x m:Str}{p pos apos:Pos}{e o:Expr}{es:List Expr}{ta:TE}{t:TA}
theorem c3f{pins:List (Addr×Obj)}{σ:St}{H:Hp}{s:Shared}{Q:VK}{us:List Value}{vs:List V}(F:FnOk X.prog X.w X.K X.mg X.base CX k f fd ps sp)(hr:Room k X.A)(hb:Binds X.K fd ps ds)(hd:Vals dvs ds)(hx:a7i CX X E)
  (I:Inv X pins σ H s)(r:Vals vs us)(h:sp (vs++dvs) H Q E):wpAny (model X.prog X.w) X.A (call (.ref f) us) (EP X pins σ Q) X.xe s:=by
 have r2:Vals (vs++dvs) (us++ds):=r.append hd
 have hl:(us++ds).length=ps.length:=by rw[<-r2.length];exact F.len _ _ _ _ h
 refine Wv (Wn (F.run X.A X.stack s H ⟨us,[]⟩ (us++ds) (vs++dvs) Q E hr I.env0 (hb s us I.kIn hl) r2 h) fun r s' hq=>?_)
 cases r with
 |error e=>exact hx pins σ H s e s' I hq
 |ok fl=>
  cases fl with
  |ret u=>exact I.after hq
  |next=>exact False.elim hq
  |brk=>exact False.elim hq
  |cont=>exact False.elim hq
theorem a0p(F:FnOk X.prog X.w X.K X.mg X.base CX k f fd ps sp)(hr:Room k X.A)(hg:Gl X x)(hm:X.mg x=some (.ref f))(hk:W.keepIn X.K (.ref f)=true)(hb:Binds X.K fd ps ds)(hd:Vals dvs ds)(hx:a7i CX X E)
  (ha:PA X (e::es) t)(hdb:(x==("__debug__":Str))=false:=by decide)(he:starEach (e::es) X.env=(false,eval e X.env)::starEach es X.env:=by rfl)(hpl:(backTo pos (starEach es X.env)).any (·.1)=false:=by rfl):
  PE X (.Call (.Name x p) (e::es) [] pos) (c2f sp dvs E t):=by
 intro pins s σ H Q I h
 refine Xh (a8y I hg hm ?_ hdb)
 refine W0 (h₀:=X.base) I.ok.mod.kin hk (thn (ha pos pins s σ H _ I h) fun us s1 ⟨vs,H1,I1,r,q⟩=>⟨I1.kIn,?_⟩) he hpl
 exact c3f F hr hb hd hx I1 r q
theorem a2m{pl:Sem Bool}(he:PE X o ta)(c:Cls X.K C)(hm:Meth X.K C m f)(F:FnOk X.prog X.w X.K X.mg X.base CX k f fd ps sp)(hr:Room k X.A)(hb:Binds X.K fd ps ds)(hd:Vals dvs ds)(hx:a7i CX X E)(ha:PA X (e::es) t)
  (hst:starEach (e::es) X.env=(false,eval e X.env)::starEach es X.env:=by rfl)(hpl:(backTo pos (starEach es X.env)).any (·.1)=false:=by rfl)
  (ht:eval (.Call (.Attribute o m apos) (e::es) [] pos) X.env=(do
   let ov <-eval o X.env
   standAt apos.atName
   let(f,first) <-holding [ov] (getMethod ov m pl)
   callWith pos f first (backTo pos (starEach (e::es) X.env)) (backToKw pos (keywordEach [] X.env))):=by rfl):
  PE X (.Call (.Attribute o m apos) (e::es) [] pos) (tMeth C m sp dvs E ta t):=by
 intro pins s σ H Q I h
 refine Uk (pl:=pl) (thn (he pins s σ H _ I h) fun u s1 ⟨x,H1,I1,rx,a,dx,fs,ex,ea,l,q⟩=>?_) ht
 subst ex
 obtain rfl:u=Value.ref a:=rx
 refine b8b I1 ea c hm l ?_
 refine W0 (first:=[.ref a]) (h₀:=X.base) I.ok.mod.kin hm.kp (thn (ha pos pins s1 σ H1 _ I1 q) fun us s2 ⟨vs,H2,I2,r,q2⟩=>⟨I2.kIn,?_⟩) hst hpl
 exact c3f (us:=.ref a::us) (vs:=.ref a::vs) F hr hb hd hx I2 (.cons rfl r) q2
theorem a3p{pl:Sem Bool}(he:PE X o ta)(c:Cls X.K C)(hm:Meth X.K C m f)(F:FnOk X.prog X.w X.K X.mg X.base CX k f fd ps sp)(hr:Room k X.A)(hb:Binds X.K fd ps ds)(hd:Vals dvs ds)(hx:a7i CX X E)
  (ht:eval (.Call (.Attribute o m apos) [] [] pos) X.env=(do
   let ov <-eval o X.env
   standAt apos.atName
   let(f,first) <-holding [ov] (getMethod ov m pl)
   callWith pos f first (backTo pos (starEach [] X.env)) (backToKw pos (keywordEach [] X.env))):=by rfl):
  PE X (.Call (.Attribute o m apos) [] [] pos) (tMeth C m sp dvs E ta tNil):=by
 intro pins s σ H Q I h
 refine Uk (pl:=pl) (thn (he pins s σ H _ I h) fun u s1 ⟨x,H1,I1,rx,a,dx,fs,ex,ea,l,q⟩=>?_) ht
 subst ex
 obtain rfl:u=Value.ref a:=rx
 refine b8b I1 ea c hm l ?_
 exact W.callWith_K0 (first:=[.ref a]) I1.kIn hm.kp (c3f (us:=[.ref a]) (vs:=[.ref a]) F hr hb hd hx I1 (.cons rfl .nil) q)
structure Mk(K:W.Frag)(C f:Addr):Prop where
 makes:W.makesIn K C=true
 init:W.findIn K (.ref C) "__init__"=some (some (.ref f))
 fn:W.isFn K (.ref f)=true
 kp:W.keepIn K (.ref C)=true
theorem d2w{pins:List (Addr×Obj)}{σ:St}{H:Hp}{s:Shared}{Q:VK}{us:List Value}{vs:List V}(M:Mk X.K C f)(F:FnOk X.prog X.w X.K X.mg X.base CX k f fd ps sp)(hr:Room (k+1) X.A)(hb:Binds X.K fd ps ds)(hd:Vals dvs ds)
  (hx:a7i CX X E)(I:Inv X pins σ H s)(r:Vals vs us)
  (h:∀x dx,H x=none->H dx=none->dx≠x->sp (.ref x::(vs++dvs)) (upd (upd H dx (.own x)) x (.ins C dx [])) (fun v H2=>v=.non/\Q (.ref x) H2) E):
  wpAny (model X.prog X.w) X.A (call (.ref C) us) (EP X pins σ Q) X.xe s:=by
 have hq:=h (s.heap.objs.size+1) s.heap.objs.size (I.hok.fresh (Tp _)) (I.hok.fresh (Zl _)) (Yc (Ug _))
 have I2:=Inv.made (C:=C) I
 have r2:Vals (V.ref (s.heap.objs.size+1)::(vs++dvs)) (Value.ref (s.heap.objs.size+1)::(us++ds)):=.cons rfl (r.append hd)
 have hl:(Value.ref (s.heap.objs.size+1)::us++ds).length=ps.length:=by
  have e:=r2.length
  rw[F.len _ _ _ _ hq]at e
  exact e.symm
 refine Wv (d2v (f:=f) I.kIn M.makes M.init (W3.mp M.fn) (Wn (F.run _ X.stack _ _ ⟨Value.ref (s.heap.objs.size+1)::us,[]⟩ (Value.ref (s.heap.objs.size+1)::(us++ds)) _ _ E (hr.make C us [])
  (I2.env0.make C us []) (hb _ (Value.ref (s.heap.objs.size+1)::us) I2.kIn hl) r2 hq) fun r s' hq'=>?_))
 cases r with
 |error e=>exact hx pins σ _ _ e s' I2 hq'
 |ok fl=>
  cases fl with
  |ret u=>
   obtain⟨v,H',I3,rv,ev,q3⟩:=I2.after hq'
   subst ev
   exact⟨rv,⟨V.ref (s.heap.objs.size+1),H',I3,rfl,q3⟩⟩
  |next=>exact False.elim hq'
  |brk=>exact False.elim hq'
  |cont=>exact False.elim hq'
theorem b3c(M:Mk X.K C f)(F:FnOk X.prog X.w X.K X.mg X.base CX k f fd ps sp)(hr:Room (k+1) X.A)(hg:Gl X x)(hm:X.mg x=some (.ref C))(hb:Binds X.K fd ps ds)(hd:Vals dvs ds)(hx:a7i CX X E)
  (ha:PA X (e::es) t)(hdb:(x==("__debug__":Str))=false:=by decide)(he:starEach (e::es) X.env=(false,eval e X.env)::starEach es X.env:=by rfl)(hpl:(backTo pos (starEach es X.env)).any (·.1)=false:=by rfl):
  PE X (.Call (.Name x p) (e::es) [] pos) (tMake C sp dvs E t):=by
 intro pins s σ H Q I h
 refine Xh (a8y I hg hm ?_ hdb)
 refine W0 (h₀:=X.base) I.ok.mod.kin M.kp (thn (ha pos pins s σ H _ I h) fun us s1 ⟨vs,H1,I1,r,q⟩=>⟨I1.kIn,?_⟩) he hpl
 exact d2w M F hr hb hd hx I1 r q
end
def PK(X:Cx)(kws:List Keyword)(t:TA):Prop:=
 ∀(pos:Pos)(pins:List (Addr×Obj))(s:Shared)(σ:St)(H:Hp)(Q:List V->Hp->Prop),Inv X pins σ H s->t σ H Q->wpAny (model X.prog X.w) X.A (evalAll ((backToKw pos (keywordEach kws X.env)).map (·.2))) (AP X pins σ Q) X.xe s
structure a0q(N P:List Str)(sc:Scope):Prop where
 kind:sc.kind=.function
 co:sc.isCoroutine=false
 gen:sc.isGenerator=false
 nd:N.Nodup
 pre:N.take P.length=P
 par:∀x∈P,sc.names.lookup x=some .local\/sc.names.lookup x=some .cell
 nofree:∀y∈sc.names,y.2≠.free
theorem c0y{kindOf:Str->Option NameKind}{x:Str}:∀{binds:List (Str×Value)}{m:Str->Option Value},(∀v,(x,v)∉binds)->bindL kindOf binds m x=m x
 | [],_,_=>rfl
 | (n,v)::r,m,h=>by
  unfold bindL
  rw[c0y fun w hw=>h w (Zc _ hw)]
  split
  ·have:x≠n:=by rintro rfl;exact h v Ze
   simp[this]
  ·rfl
theorem c0z{kindOf:Str->Option NameKind}{x:Str}:∀{binds:List (Str×Value)}{m:Str->Option Value},(∀v,(x,v)∉binds)->bindC kindOf binds m x=m x
 | [],_,_=>rfl
 | (n,v)::r,m,h=>by
  unfold bindC
  rw[c0z fun w hw=>h w (Zc _ hw)]
  split
  ·rfl
  ·have:x≠n:=by rintro rfl;exact h v Ze
   simp[this]
theorem c1a{kindOf:Str->Option NameKind}{x:Str}{v:Value}:∀{P:List Str}{vs:List Value}{i:Nat}{m:Str->Option Value},P.Nodup->P[i]? =some x->vs[i]? =some v->kindOf x=some .local->
  bindL kindOf (P.zip vs) m x=some v
 | [],_,_,_,_,h,_,_=>by simp at h
 |_::_,[],_,_,_,_,h,_=>by simp at h
 |p::P,w::vs,0,m,nd,h1,h2,hk=>by
  simp at h1 h2;subst h1;subst h2
  show bindL kindOf ((p,w)::P.zip vs) m p=_
  unfold bindL
  rw[c0y fun v hv=>(Wy.mp nd).1 (Vp hv).1,if_pos hk]
  simp
 |p::P,w::vs,i+1,m,nd,h1,h2,hk=>by
  show bindL kindOf ((p,w)::P.zip vs) m x=_
  unfold bindL
  exact c1a (i:=i) (Wy.mp nd).2 (by simpa using h1) (by simpa using h2) hk
theorem c1b{kindOf:Str->Option NameKind}{x:Str}{v:Value}:∀{P:List Str}{vs:List Value}{i:Nat}{m:Str->Option Value},P.Nodup->P[i]? =some x->vs[i]? =some v->kindOf x≠some .local->
  bindC kindOf (P.zip vs) m x=some v
 | [],_,_,_,_,h,_,_=>by simp at h
 |_::_,[],_,_,_,_,h,_=>by simp at h
 |p::P,w::vs,0,m,nd,h1,h2,hk=>by
  simp at h1 h2;subst h1;subst h2
  show bindC kindOf ((p,w)::P.zip vs) m p=_
  unfold bindC
  rw[c0z fun v hv=>(Wy.mp nd).1 (Vp hv).1,if_neg hk]
  simp
 |p::P,w::vs,i+1,m,nd,h1,h2,hk=>by
  show bindC kindOf ((p,w)::P.zip vs) m x=_
  unfold bindC
  exact c1b (i:=i) (Wy.mp nd).2 (by simpa using h1) (by simpa using h2) hk
def start(N:List Str)(vs:List V):St:=vs.map some++List.replicate (N.length-vs.length) none
def cxOf(CX:CXT)(P:Program)(w:World)(K:W.Frag)(mg:Str->Option Value)(base:Heap)(N:List Str)(qual:Str)(scope:Scope)(f:Addr)(cd:Value)(A:Around)(outer:List Env)(s:Shared)(H:Hp)(E:XK):Cx where
 prog:=P
 w:=w
 K:=K
 mg:=mg
 base:=base
 A:=A.deeper (envOfC qual scope s.heap.objs.size f cd)
 N:=N
 s₀:=s
 H₀:=H
 env:=envOfC qual scope s.heap.objs.size f cd
 outer:=outer
 stack:=envOfC qual scope s.heap.objs.size f cd::outer
 ex:=[]
 calm:=true
 fn:=fun _=>true
 pn:=[]
 xe:=fun e s'=>wpAny (model P w) (A.deeper (envOfC qual scope s.heap.objs.size f cd)) (leaving (envOfC qual scope s.heap.objs.size f cd) e) (fun _ s''=>CX outer H s E e s'') (fun e' s''=>CX outer H s E e' s'') s'
theorem c3g{sc:Scope}{n:Nat}{x:Str}(h:sc.names.lookup x=some .cell):∃c,(cellsFrom n sc.names []).lookup x=some c:=by
 have q:=Uf sc.names n [] (.inl h)
 exact Uy.mp q
theorem c1c{CX:CXT}{P:Program}{w:World}{K:W.Frag}{mg:Str->Option Value}{base:Heap}{N ps:List Str}{qual:Str}{scope:Scope}{f:Addr}{cd:Value}{A:Around}{outer:List Env}{s s1:Shared}{H:Hp}{E:XK}{us:List Value}{vs:List V}
  (S:a0q N ps scope)(hd:A.handled=none)(e0:Env0 P w K mg base A outer s H)(hl:vs.length=ps.length)(r:Vals vs us)
  (x:InCallC s s.heap.objs.size (bindL (envOfC qual scope s.heap.objs.size f cd).kindOf (ps.zip us) fun _=>none) (cellsFrom (s.heap.objs.size+1) scope.names []) (bindC (envOfC qual scope s.heap.objs.size f cd).kindOf (ps.zip us) fun _=>none) s1):
  Inv (cxOf CX P w K mg base N qual scope f cd A outer s H E) [] (start N vs) H s1:=by
 have hpl:ps.length<=N.length:=by have:=Ys List.length S.pre;rw[Xb]at this;omega
 obtain⟨h1,tk,rfl,hk⟩:=x.done
 have noA:∀b:Addr,b∉(cxOf CX P w K mg base N qual scope f cd A outer s H E).ex:=fun b z=>absurd (show b∈([]:List Addr)from z) (by simp)
 refine⟨⟨e0.mod,S.kind,rfl,rfl,Zl _,fun y z c h1 h2=>?_,fun y hy=>?_,fun y c _ h=>?_,fun _=>hd,Tw e0.frames,.inr ⟨rfl,rfl⟩,fun b z=>absurd z (noA b),e0.bs,e0.bsz,fun b _ _=>noA b,fun b z=>absurd z (noA b),e0.funs,e0.frf⟩,
  rfl,e0.bare,Un.kept hk,⟨_,x.toInCall.ns,fun i y v h1 h2 h3=>?_⟩,fun y c h=>⟨_,x.cell y c h⟩,e0.hok.fresh (Zl _),fun y c h=>?_,fun p hp=>absurd (show p∈([]:List (Addr×Obj))from hp) (by simp),e0.hok.kept hk,?_⟩
 ·exact name_of_addr x.apart (Yp h1) (Yp h2)
 ·have hy:scope.names.lookup y=some .cell\/scope.names.lookup y=some .free:=hy
  rcases hy with hy|hy
  ·exact c3g hy
  ·exact absurd rfl (S.nofree _ (Yp hy))
 ·exact Ta (x.above y c (Yp h))
 ·have hi:i<vs.length:=by
   unfold start at h2
   by_cases hi:i<vs.length
   ·exact hi
   ·rw[Wf (by simpa using hi)]at h2
    rw[List.getElem?_replicate]at h2
    split at h2<;>cases h2
  have ha:vs[i]? =some v:=by
   unfold start at h2
   rw[Uu (by simpa using hi),Yu]at h2
   cases e:vs[i]? with
   |none=>rw[e]at h2;cases h2
   |some a=>rw[e]at h2;cases h2;rfl
  obtain⟨u,hu,rv⟩:=r.get ha
  have hp:ps[i]? =some y:=by
   rw[<-S.pre,List.getElem?_take_of_lt (by omega)];exact h1
  have ndP:ps.Nodup:=by rw[<-S.pre];exact S.nd.sublist (List.take_sublist _ _)
  refine⟨u,rv,?_⟩
  rcases S.par y (We hp)with k|k
  ·exact .inl ⟨k,c1a ndP hp hu k⟩
  ·obtain⟨c,e⟩:=c3g (n:=s.heap.objs.size+1) k
   refine .inr ⟨.inl k,c,e,?_⟩
   have q:=x.cell y c e
   rw[c1b ndP hp hu (by show scope.names.lookup y≠_;rw[k];decide)]at q
   exact q
 ·exact e0.hok.fresh (Ta (x.above y c (Yp h)))
 ·unfold start
  show _=N.length
  rw[Za,length_map,List.length_replicate]
  omega
theorem fn_of{CX:CXT}{P:Program}{w:World}{K:W.Frag}{mg:Str->Option Value}{base:Heap}{k:Nat}{f:Addr}{name qual:Str}{params:Arguments}{body:List Stmt}{scope:Scope}{dV kV doc pm cdv ct oc:Value}{an od:Option Addr}
  {osl:Array (Option Value)}{N ps:List Str}{sp:Sp}(lk:K.lookup f=some ⟨oc,od,.func (W.fnOf name qual params body scope dV kV doc pm an cdv ct),osl⟩)(hcd:W.codeIn K cdv qual=true)(S:a0q N ps scope)
  (len:∀vs H Q E,sp vs H Q E->vs.length=ps.length)
  (hbody:∀(A:Around)(outer:List Env)(s:Shared)(H:Hp)(vs:List V)(Q:VK)(E:XK),Room k (A.deeper (envOfC qual scope s.heap.objs.size f cdv))->sp vs H Q E->
   ∃t,PSs (cxOf CX P w K mg base N qual scope f cdv A outer s H E) body t/\t { nx:=fun _ H'=>Q .non H',rt:=Q} (start N vs) H):
  FnOk P w K mg base CX (k+1) f (W.fnOf name qual params body scope dV kV doc pm an cdv ct) ps sp:=by
 refine⟨len,fun A outer s H args us vs Q E hr e0 hb r hsp=>?_⟩
 have hl:=len _ _ _ _ hsp
 have KX:K.In s.heap:=e0.mod.kin.keeps fun b o e=>(e0.bs b o e).1
 have lim:s.heap.NoLimit:=e0.mod.nolimit.keeps fun b o e=>(e0.bs b o e).1
 have hkind:∀y∈ps.zip us,scope.names.lookup y.1=some .local\/(scope.names.lookup y.1=some .cell/\((cellsFrom (s.heap.objs.size+1) scope.names []).lookup y.1).isSome=true):=fun⟨n,v⟩ hy=>by
  rcases S.par n (Vp hy).1 with q|q
  ·exact .inl q
  ·exact .inr ⟨q,Uf _ _ _ (.inl q)⟩
 refine Tg hr.depth (KX _ _ lk) rfl S.co S.gen rfl (W.codeRec_of KX hcd) (hb _ _ _ _ ?_)
 refine Up S.kind hkind fun env he s1 x=>?_
 subst he
 refine⟨lim.keeps x.toInCall.keep,codeAny_func ?_⟩
 obtain⟨t,ht,hq⟩:=hbody A outer s H vs Q E (hr.deeper _) hsp
 have I:Inv (cxOf CX P w K mg base N qual scope f cdv A outer s H E) [] (start N vs) H s1:=c1c S hr.hd e0 hl r x
 refine Xg (ht [] s1 (start N vs) H _ I hq) (fun fl s' hs=>?_) fun e s' hs=>hs
 have fin:∀{σ':St}{H':Hp}{v:V}{u:Value},Inv (cxOf CX P w K mg base N qual scope f cdv A outer s H E) [] σ' H' s'->RelV v u->Q v H'->CE outer P w H s Q u s':=
  fun{σ' H' v u} J rv q=>⟨v,H',J.os,J.bare,J.base,J.hok,rv,q⟩
 cases fl with
 |ret u=>
  obtain⟨v,σ',H',J,rv,q⟩:=hs
  exact fin J rv q
 |next=>
  obtain⟨σ',H',J,q⟩:=hs
  exact fin (v:=V.non) (u:=Value.none) J rfl q
 |brk=>
  obtain⟨_,_,_,q⟩:=hs
  exact False.elim q
 |cont=>
  obtain⟨_,_,_,q⟩:=hs
  exact False.elim q
section
variable{X:Cx}{x:Str}{p pos:Pos}{e:Expr}{es:List Expr}{t:TA}{id T:String}{r:List V->Hp->VK->Prop}
def tCB(r:List V->Hp->VK->Prop)(t:TA):TE:=fun σ H Q=>t σ H fun vs H1=>r vs H1 Q
theorem a1k(hc:a5t X (.builtin id) r)(hg:Gl X x)(hm:X.mg x=none)(hv:bootBuiltins x=some (.builtin id))(ha:PA X (e::es) t)(hn:x≠"__name__":=by decide)(hdb:(x==("__debug__":Str))=false:=by decide)
  (he:starEach (e::es) X.env=(false,eval e X.env)::starEach es X.env:=by rfl)(hpl:(backTo pos (starEach es X.env)).any (·.1)=false:=by rfl):PE X (.Call (.Name x p) (e::es) [] pos) (tCB r t):=by
 intro pins s σ H Q I h
 refine Xh (b2x I hg hm hv ?_ hn hdb)
 exact PyProof.Rows.callWith_builtin1 (thn (ha pos pins s σ H _ I h) fun us s1 ⟨vs,H1,I1,r1,q1⟩=>hc pins s1 σ H1 vs us Q I1 r1 q1) he hpl
theorem a6m(hc:a5t X (.type T) r)(hg:Gl X x)(hm:X.mg x=none)(hv:bootBuiltins x=some (.type T))(ha:PA X (e::es) t)(hn:x≠"__name__":=by decide)(hdb:(x==("__debug__":Str))=false:=by decide)
  (he:starEach (e::es) X.env=(false,eval e X.env)::starEach es X.env:=by rfl)(hpl:(backTo pos (starEach es X.env)).any (·.1)=false:=by rfl):PE X (.Call (.Name x p) (e::es) [] pos) (tCB r t):=by
 intro pins s σ H Q I h
 refine Xh (b2x I hg hm hv ?_ hn hdb)
 exact Wb (thn (ha pos pins s σ H _ I h) fun us s1 ⟨vs,H1,I1,r1,q1⟩=>hc pins s1 σ H1 vs us Q I1 r1 q1) he hpl
end
end L2
namespace HT
open PySem PyProof.Rows
section
open PySem.SeqAt
open PySem.AutoSeq1 (wpAny_loadPart')
open PySem.MeetsSeq PySem.MeetsSeq2 PySem.MeetsSeq3
end
section
variable{prog:Program}{w:World}{A:Around}{E:Value->Shared->Prop}{s:Shared}
theorem cat_tup{t b:Addr}{vs ws:List Value}{Q:Value->Shared->Prop}(ht:IsTup s.heap t vs.toArray)(hb:IsTup s.heap b ws.toArray)(hv:vs≠[])
  (h1:ws=[]->Q (.ref t) s)(h2:ws≠[]->Q (.ref s.heap.objs.size) { s with heap:=s.heap.push { cls:=.type "tuple",data:=.seq (vs++ws).toArray}})
  (hsz:vs.length+ws.length<=sizeLine):wpAny (model prog w) A (binaryOp .Add (.ref t) (.ref b)) Q E s:=by
 obtain⟨⟨cls,dd,data,sl⟩,ho,hc,n,hd⟩:=id ht
 obtain⟨⟨cls2,dd2,data2,sl2⟩,ho2,hc2,n2,hd2⟩:=id hb
 simp only at hc hd hc2 hd2
 subst hc hd hc2 hd2
 have e:vs.toArray++ws.toArray=(vs++ws).toArray:=by simp
 by_cases hw:ws=[]
 ·exact concat_meets ⟨_,ho,rfl⟩ ⟨_,ho2,rfl⟩ noFill_tuple_add seq_tuple_add F.slot_tuple_add F.entry_tuple_add (Sn _ _)
   (tuple_addW1 t b vs.toArray ws.toArray n n2 dd dd2 sl sl2 (by simpa using hv) (by simp[hw])) ⟨ho,ho2,h1 hw⟩
 ·refine concat_meets ⟨_,ho,rfl⟩ ⟨_,ho2,rfl⟩ noFill_tuple_add seq_tuple_add F.slot_tuple_add F.entry_tuple_add (Sn _ _)
   (tuple_addW2 t b vs.toArray ws.toArray n n2 dd dd2 sl sl2 (by simpa using hv) (by simpa using hw) (by rw[Zf,Zf];exact hsz)) ⟨ho,ho2,?_⟩
  rw[e]
  exact h2 hw
def sIx(n d:Nat):Option Int->Nat
 |none=>d
 |some v=>if v<0 then(v+(n:Int)).toNat else min v.toNat n
theorem sIx_nat(n d k:Nat):sIx n d (some (k:Int))=min k n:=by
 show(if(k:Int)<0 then((k:Int)+(n:Int)).toNat else min (k:Int).toNat n)=min k n
 rw[if_neg (by omega),Z8]
theorem sIx_le(n d:Nat)(hd:d<=n)(o:Option Int):sIx n d o<=n:=by
 cases o with
 |none=>exact hd
 |some v=>
  show(if v<0 then(v+(n:Int)).toNat else min v.toNat n)<=n
  by_cases hv:v<0
  ·rw[if_pos hv];omega
  ·rw[if_neg hv];exact Nat.min_le_right _ _
theorem c6t(v:Int)(n d:Nat):(if v<0 then max (v+(n:Int)) 0 else min v (n:Int))=((sIx n d (some v):Nat):Int):=by
 show(if v<0 then max (v+(n:Int)) 0 else min v (n:Int))=(((if v<0 then(v+(n:Int)).toNat else min v.toNat n):Nat):Int)
 by_cases hv:v<0
 ·simp only[if_pos hv];omega
 ·simp only[if_neg hv];omega
theorem c8j(lo hi:Option Int)(n:Nat):Builtin.Slice.sliceAdjust lo hi 1 (n:Int)=(((sIx n 0 lo:Nat):Int),((sIx n n hi:Nat):Int)):=by
 have h1:¬((1:Int)<0):=by omega
 unfold Builtin.Slice.sliceAdjust
 simp only[h1,Xq]
 refine Prod.ext ?_ ?_
 ·cases lo with
  |none=>rfl
  |some v=>exact c6t v n 0
 ·cases hi with
  |none=>rfl
  |some v=>exact c6t v n n
theorem c8k(i j:Nat):Builtin.Slice.slicePlaces (i:Int) (j:Int) 1=j-i:=by
 unfold Builtin.Slice.slicePlaces
 have h1:(1:Int)>0:=by omega
 simp only[h1,if_true,Int.ediv_one]
 split<;>omega
theorem b8e{v:Value}{o:Option Int}{Q:Option Int->Shared->Prop}(p:IsPart v o)(h:Q o s):wpAny (model prog w) A (Builtin.Slice.slicePartIndex v) Q E s:=by
 cases p with
 |none=>exact slicePart_none h
 |int i t=>exact slicePart_int h
theorem sliceApplied_gen{sl:Addr}{vl vu:Value}{lo hi:Option Int}{n:Nat}{Q:Int×Int×Nat->Shared->Prop}(hs:s.heap.IsSliceOf sl vl vu .none)(pl:IsPart vl lo)(pu:IsPart vu hi)
  (h:Q (((sIx n 0 lo:Nat):Int),1,sIx n n hi-sIx n 0 lo) s):wpAny (model prog w) A (Builtin.Slice.sliceApplied (.ref sl) (pure (n:Int))) Q E s:=by
 obtain⟨os,hos,hcs,hds⟩:=id hs
 unfold Builtin.Slice.sliceApplied Builtin.Slice.sliceFields
 refine Zd (Zd (X5 hos hds (x:=vl) rfl (Zd (X5 hos hds (x:=vu) rfl (Zd (X5 hos hds (x:=.none) rfl (Zr ?_)))))))
 refine Zd (slicePart_none ?_)
 show wpAny _ _ (if((1:Int)==0)=true then _ else _) _ _ s
 rw[if_neg (by decide)]
 refine Zd (b8e pl (Zd (b8e pu (Zd (Zr ?_)))))
 show wpAny _ _ (match Builtin.Slice.sliceAdjust lo hi 1 (n:Int)with| (lo,hi)=>pure (lo,(1:Int),Builtin.Slice.slicePlaces lo hi 1)) _ _ s
 rw[c8j lo hi n]
 show wpAny _ _ (pure (((sIx n 0 lo:Nat):Int),(1:Int),Builtin.Slice.slicePlaces ((sIx n 0 lo:Nat):Int) ((sIx n n hi:Nat):Int) 1)) _ _ s
 rw[c8k]
 exact Zr h
theorem d2x(xs:Array Value)(i k:Nat):((List.range k).filterMap fun(m:Nat)=>xs[((i:Int)+(m:Int)*1).toNat]?).toArray=((xs.toList.drop i).take k).toArray:=by
 have e:(fun(m:Nat)=>xs[((i:Int)+(m:Int)*1).toNat]?)=fun m=>xs[i+m]?:=by
  funext m
  have:((i:Int)+(m:Int)*1).toNat=i+m:=by omega
  rw[this]
 rw[e]
 have:=pick_run xs i k
 rw[List.filterMap_map]at this
 have e2:((fun x=>xs[x]?)∘fun x=>i+x)=fun m=>xs[i+m]?:=rfl
 rw[e2]at this
 rw[this]
theorem getItem_tuple_cut{t sl:Addr}{items:Array Value}{vl vu:Value}{lo hi:Option Int}{Q:Value->Shared->Prop}(ht:IsTup s.heap t items)(hs:s.heap.IsSliceOf sl vl vu .none)(pl:IsPart vl lo)(pu:IsPart vu hi)
  (hw:¬(sIx items.size 0 lo=0/\sIx items.size items.size hi=items.size))
  (h:Q (.ref s.heap.objs.size) { s with heap:=s.heap.push { cls:=.type "tuple",data:=.seq ((items.toList.drop (sIx items.size 0 lo)).take (sIx items.size items.size hi-sIx items.size 0 lo)).toArray}})
  (hsz:items.size<=sizeLine):wpAny (model prog w) A (getItem (.ref t) (.ref sl)) Q E s:=by
 have htake:sizeOk (.seq ((items.toList.drop (sIx items.size 0 lo)).take (sIx items.size items.size hi-sIx items.size 0 lo)).toArray):=by
  show((items.toList.drop (sIx items.size 0 lo)).take (sIx items.size items.size hi-sIx items.size 0 lo)).toArray.size<=sizeLine
  rw[Zf,Xb,Yw,Xx]
  omega
 have hj:sIx items.size items.size hi<=items.size:=sIx_le _ _ (Zl _) hi
 obtain⟨os,hos,hcs,hds⟩:=id hs
 have hTs:s.TypeIs (.ref sl) "slice":=⟨os,hos,hcs⟩
 unfold getItem
 try with_reducible refine Wi ?_
 first|refine Zd (Zr ?_)|skip
 refine Zd (wpAny_sequenceKey ht.typeIs (by decide) ?_)
 refine Zd (wpAny_callSpecial?_slot (name:=ofString "__getitem__") ht.typeIs Yy
  (wpAny_call_entry Yy ht.typeIs Ty ?_ (Si _ _)))
 show wpAny _ _ (Builtin.Tuple.tupleItemsOf (.ref t)>>=_) _ _ s
 refine Zd (tupleItemsOf_ ht ?_)
 refine Zd (U4 hTs ?_)
 rw[if_pos (by decide)]
 refine Zd (sliceApplied_gen hs pl pu ?_)
 have hno:¬((((sIx items.size 0 lo:Nat):Int)==0&&(1:Int)==1&&(sIx items.size items.size hi-sIx items.size 0 lo)==items.size)=true):=by
  intro q
  rw[Xf,Xf]at q
  have q1:((sIx items.size 0 lo:Nat):Int)=0:=eq_of_beq q.1.1
  have q2:sIx items.size items.size hi-sIx items.size 0 lo=items.size:=eq_of_beq q.2
  exact hw ⟨by omega,by omega⟩
 show wpAny _ _ (if(((sIx items.size 0 lo:Nat):Int)==0&&(1:Int)==1&&(sIx items.size items.size hi-sIx items.size 0 lo)==items.size)=true then _ else _) _ _ s
 rw[if_neg hno,d2x]
 first
  |exact Zd (m:=Builtin.Tuple.tupleExact _) (Xp (Zr ⟨_,rfl,Zr h⟩) htake)
  |exact Zd (m:=Builtin.Tuple.tupleExact _) (Xp (Zd (Zr (Zr ⟨_,rfl,Zr h⟩))) htake)
  |exact Zd (Zd (m:=Builtin.Tuple.tupleExact _) (Xp (Zr (Zr ⟨_,rfl,Zr h⟩)) htake))
  |exact Zd (Zd (m:=Builtin.Tuple.tupleExact _) (Xp (Zr ⟨_,rfl,Zr h⟩) htake))
end
end HT
namespace L2
open PySem PySem.Spec PyProof.Rows
abbrev TO:=St->Hp->(Option Int->Hp->Prop)->Prop
def PO(X:Cx)(e:Option Expr)(t:TO):Prop:=
 ∀(pins:List (Addr×Obj))(s:Shared)(σ:St)(H:Hp)(Q:Option Int->Hp->Prop),Inv X pins σ H s->t σ H Q->
  wpAny (model X.prog X.w) X.A (evalPart e X.env) (fun u s'=>∃o H',Inv X pins σ H' s'/\IsPart u o/\Q o H') X.xe s
def c6u:TO:=fun _ H Q=>Q none H
def tPart(t:TE):TO:=fun σ H Q=>t σ H fun x H1=>∃i,x=.int i/\Q (some i) H1
section
variable{X:Cx}{e:Expr}{te:TE}{lo hi:Option Expr}{tl th:TO}{pos p2:Pos}
theorem a5k:PO X none c6u:=by
 intro pins s σ H Q I h
 rw[evalPart_none]
 exact Zr ⟨none,H,I,.none,h⟩
theorem po_some(h:PE X e te):PO X (some e) (tPart te):=by
 intro pins s σ H Q I hw
 rw[evalPart_some]
 refine thn (h pins s σ H _ I hw) fun u s1 ⟨x,H1,I1,r1,q1⟩=>?_
 obtain⟨i,rfl,q⟩:=q1
 obtain⟨t,rfl⟩:=r1
 exact⟨some i,H1,I1,.int i t,q⟩
def SlR(X:Cx)(r:V->Option Int->Option Int->Hp->VK->Prop):Prop:=
 ∀(pins:List (Addr×Obj))(s:Shared)(σ:St)(H:Hp)(x:V)(v vl vu:Value)(lo hi:Option Int)(sl:Addr)(Q:VK),Inv X pins σ H s->RelV x v->s.heap.IsSliceOf sl vl vu .none->IsPart vl lo->IsPart vu hi->r x lo hi H Q->
  ∃T id,typeLookup (.type T) "__getitem__"=pure (some (.builtin id))/\s.TypeIs v T/\wpAny (model X.prog X.w) X.A (getItem v (.ref sl)) (EP X pins σ Q) X.xe s
def tSl(r:V->Option Int->Option Int->Hp->VK->Prop)(te:TE)(tl th:TO):TE:=fun σ H Q=>te σ H fun x H1=>tl σ H1 fun l H2=>th σ H2 fun u H3=>r x l u H3 Q
theorem a3q{r:V->Option Int->Option Int->Hp->VK->Prop}(hr:SlR X r)(he:PE X e te)(hl:PO X lo tl)(hu:PO X hi th):PE X (.Subscript e (.Slice lo hi none p2) pos) (tSl r te tl th):=by
 intro pins s σ H Q I h
 refine Sj (thn (he pins s σ H _ I h) fun v s1 ⟨x,H1,I1,r1,q1⟩=>?_)
 refine wpAny_Slice (thn (hl pins s1 σ H1 _ I1 q1) fun vl s2 ⟨l,H2,I2,pl,q2⟩=>thn (hu pins s2 σ H2 _ I2 q2) fun vu s3 ⟨u,H3,I3,pu,q3⟩=>?_)
 rw[evalPart_none]
 refine Zr ?_
 have I4:Inv X pins σ H3 { s3 with heap:=s3.heap.push { cls:=.type "slice",data:=.fields #[vl,vu,.none]}}:=I3.kept (t':=s3.toks) fun b ob q=>Zh _ q
 obtain⟨T,id,hT,ht,hg⟩:=hr pins { s3 with heap:=s3.heap.push { cls:=.type "slice",data:=.fields #[vl,vu,.none]}} σ H3 x v vl vu l u s3.heap.objs.size Q I4 r1 (Heap.IsSliceOf.new ..) pl pu q3
 show wpAny (model X.prog X.w) X.A (subscriptTail e (.Slice lo hi none p2) v (.ref s3.heap.objs.size)) (EP X pins σ Q) X.xe { s3 with heap:=s3.heap.push { cls:=.type "slice",data:=.fields #[vl,vu,.none]}}
 exact tail_any (ops:=[.ref s3.heap.objs.size,v]) ht hT hg (by with_unfolding_all rfl)
def cutV(xs:List V)(lo hi:Option Int):List V:=(xs.drop (HT.sIx xs.length 0 lo)).take (HT.sIx xs.length xs.length hi-HT.sIx xs.length 0 lo)
theorem b6t(xs:List V)(lo hi:Option Int):(cutV xs lo hi).length<=xs.length:=by
 unfold cutV
 rw[Xb,Yw]
 omega
def rSlT(K:W.Frag):V->Option Int->Option Int->Hp->VK->Prop:=fun x lo hi H Q=>∃a xs,x=.ref a/\SqT K H a xs/\
 ¬(HT.sIx xs.length 0 lo=0/\HT.sIx xs.length xs.length hi=xs.length)/\∀p,H p=none->Q (.ref p) (upd H p (.tup (cutV xs lo hi)))
theorem sl_tup:SlR X (rSlT X.K):=by
 intro pins s σ H x v vl vu lo hi sl Q I rx hs pl pu h
 obtain⟨a,xs,rfl,hx,hw,q⟩:=h
 cases rx
 obtain⟨its,r,ht,hz⟩:=I.tuple hx
 have hlen:its.toArray.size=xs.length:=by rw[Zf];exact r.length.symm
 refine⟨"tuple",_,Yy.lookup,ht.typeIs,?_⟩
 refine HT.getItem_tuple_cut ht hs pl pu (by rw[hlen];exact hw) ?_ (by rw[hlen];exact hz)
 rw[hlen]
 refine⟨.ref s.heap.objs.size,_,I.laid (t':=s.toks) (o:=.tup (cutV xs lo hi)) (fun b ob q=>Zh _ q) (Zl _) ?_,rfl,q _ (I.hok.fresh (Zl _))⟩
 exact⟨Zz (b6t xs lo hi) hz,_,(r.drop (HT.sIx xs.length 0 lo)).take (HT.sIx xs.length xs.length hi-HT.sIx xs.length 0 lo),IsTup.new _ _⟩
def rCatT(K:W.Frag):R2:=fun x y H Q=>∃a b xs ys,x=.ref a/\y=.ref b/\SqT K H a xs/\SqT K H b ys/\xs≠[]/\xs.length+ys.length<=sizeLine/\
 (ys=[]->Q (.ref a) H)/\(ys≠[]->∀p,H p=none->Q (.ref p) (upd H p (.tup (xs++ys))))
theorem Vals.nil_iff{xs:List V}{us:List Value}(r:Vals xs us):us=[]↔xs=[]:=by
 cases r with
 |nil=>simp
 |cons _ _=>simp
theorem op_catT:OpR X (binaryOp .Add) (rCatT X.K):=by
 intro pins s σ H x y v u Q I rx ry h
 obtain⟨a,b,xs,ys,rfl,rfl,ha,hb,hx,hz,q1,q2⟩:=h
 cases rx
 cases ry
 obtain⟨its,r1,p1,_⟩:=I.tuple ha
 obtain⟨its2,r2,p2,_⟩:=I.tuple hb
 refine HT.cat_tup p1 p2 (fun z=>hx (r1.nil_iff.mp z)) (fun z=>⟨.ref a,H,I,rfl,q1 (r2.nil_iff.mp z)⟩) (fun z=>?_) (by rw[<-r1.length,<-r2.length];exact hz)
 refine⟨.ref s.heap.objs.size,_,I.laid (t':=s.toks) (o:=.tup (xs++ys)) (fun b ob q=>Zh _ q) (Zl _) ?_,rfl,q2 (fun w=>z (r2.nil_iff.mpr w)) _ (I.hok.fresh (Zl _))⟩
 exact⟨by rw[Za];exact hz,_,r1.append r2,IsTup.new _ _⟩
end
def ixN(n:Nat)(i:Int):Option Nat:=if 0<=i then(if i<n then some i.toNat else none)else if -(n:Int)<=i then some (i+n).toNat else none
def atI{α:Type}(xs:List α)(i:Int):Option α:=(ixN xs.length i).bind fun j=>xs[j]?
theorem b9x{n:Nat}{i:Int}{j:Nat}(h:ixN n i=some j):seqIndex? i n=some j/\j<n/\-(n:Int)<=i/\i<n:=by
 unfold ixN at h
 by_cases h0:0<=i
 ·rw[if_pos h0]at h
  by_cases h1:i<n
  ·rw[if_pos h1]at h
   have e:i.toNat=j:=Zq h
   exact⟨by rw[Tl h0 h1,e],by omega,by omega,h1⟩
  ·rw[if_neg h1]at h;cases h
 ·rw[if_neg h0]at h
  by_cases h1:-(n:Int)<=i
  ·rw[if_pos h1]at h
   have e:(i+n).toNat=j:=Zq h
   exact⟨by rw[U7 (by omega) h1,e],by omega,h1,by omega⟩
  ·rw[if_neg h1]at h;cases h
theorem b3d{α:Type}{xs:List α}{i:Int}{v:α}(h:atI xs i=some v):∃j,seqIndex? i xs.length=some j/\xs[j]? =some v/\j<xs.length/\-(xs.length:Int)<=i/\i<xs.length:=by
 unfold atI at h
 cases e:ixN xs.length i with
 |none=>rw[e]at h;cases h
 |some j=>
  rw[e]at h
  obtain⟨h1,h2,h3,h4⟩:=b9x e
  exact⟨j,h1,h,h2,h3,h4⟩
theorem a6v{α:Type}{xs:List α}{j:Nat}{v:α}(h:xs[j]? =some v):atI xs (j:Int)=some v:=by
 have hj:j<xs.length:=(Y0.mp h).1
 have e:ixN xs.length (j:Int)=some j:=by
  unfold ixN
  rw[if_pos (by omega),if_pos (by omega)];simp
 unfold atI;rw[e];exact h
theorem c3h{α:Type}(xs:List α)(v:α):atI (xs++[v]) (-1)=some v:=by
 have hl:(xs++[v]).length=xs.length+1:=by simp
 have e:ixN (xs++[v]).length (-1)=some xs.length:=by
  unfold ixN
  rw[hl,if_neg (by decide),if_pos (by omega)]
  congr 1
  omega
 unfold atI
 rw[e]
 show(xs++[v])[xs.length]? =some v
 simp
def c6v(b:Expr):Prop:=∀o i,subscripted b false o i=operate [o,i] (getItem o i)
def IxR(X:Cx)(r:R2):Prop:=
 ∀(value slice:Expr)(pins:List (Addr×Obj))(s:Shared)(σ:St)(H:Hp)(x y:V)(v u:Value)(Q:VK),Inv X pins σ H s->RelV x v->RelV y u->r x y H Q->
  subscripted slice false v u=operate [v,u] (getItem v u)->wpAny (model X.prog X.w) X.A (subscriptTail value slice v u) (EP X pins σ Q) X.xe s
def MtR(X:Cx)(id:String)(r:V->List V->Hp->VK->Prop):Prop:=
 ∀(pins:List (Addr×Obj))(s:Shared)(σ:St)(H:Hp)(x:V)(xs:List V)(v:Value)(us:List Value)(Q:VK),Inv X pins σ H s->RelV x v->Vals xs us->r x xs H Q->
  wpAny (model X.prog X.w) X.A (call (.builtin id) (v::us)) (EP X pins σ Q) X.xe s
section
variable{X:Cx}{a b:Expr}{ta tb:TE}{pos:Pos}
theorem IxR.or{r r':R2}(h:IxR X r)(h':IxR X r'):IxR X (fun x y H Q=>r x y H Q\/r' x y H Q):=by
 intro value slice pins s σ H x y v u Q I rx ry q hs
 rcases q with q|q
 ·exact h value slice pins s σ H x y v u Q I rx ry q hs
 ·exact h' value slice pins s σ H x y v u Q I rx ry q hs
theorem a0s{r:R2}(hr:IxR X r)(ha:PE X a ta)(hb:PE X b tb)(hs:c6v b):PE X (.Subscript a b pos) (tOp r ta tb):=by
 intro pins s σ H Q I h
 exact Sj (binT ha hb I h fun v u s2 x y H2 I2 rx ry q=>hr a b pins s2 σ H2 x y v u Q I2 rx ry q (hs _ _))
def rIxL(K:W.Frag):R2:=fun x y H Q=>∃p xs i v,x=.ref p/\y=.int i/\SqL K H p xs/\atI xs i=some v/\Q v H
def rIxT(K:W.Frag):R2:=fun x y H Q=>∃p xs i v,x=.ref p/\y=.int i/\SqT K H p xs/\atI xs i=some v/\Q v H
def rIxS:R2:=fun x y H Q=>∃z i c,x=.str z/\y=.int i/\z.length<=sizeLine/\atI z.cps.toList i=some c/\Q (.str ⟨#[c]⟩) H
theorem ix_list:IxR X (rIxL X.K):=by
 intro value slice pins s σ H x y v u Q I rx ry h hs
 obtain⟨p,xs,i,z,rfl,rfl,hq,he,q⟩:=h
 cases rx
 obtain⟨t,rfl⟩:=ry
 obtain⟨its,r,pl,hz⟩:=I.list hq
 obtain⟨j,h1,h2,h3,h4,h5⟩:=b3d he
 obtain⟨w,ew,rw'⟩:=r.get h2
 have hl:=r.length
 have hn:=b3b
 have fin:EP X pins σ Q w s:=⟨z,H,I,rw',q⟩
 by_cases h0:0<=i
 ·have hj:i.toNat=j:=by
   rw[Tl h0 h5]at h1
   exact Zq h1
  exact item_listR pl.isList h0 (by omega) (by rw[hj];simpa using ew) fin hs
 ·have hj:(i+(its.toArray.size:Int)).toNat=j:=by
   rw[U7 (by omega) h4]at h1
   rw[Zf,<-hl]
   exact Zq h1
  exact U6 (x:=w) pl.isList.typeIs slot_list_getitem.lookup
   (wpAny_getItem_list_neg (Q:=fun r s'=>r=w/\EP X pins σ Q r s') pl.isList (by omega) (by rw[Zf]<;>omega) (by omega) (by rw[hj];simpa using ew) ⟨rfl,fin⟩) hs
theorem ix_tup:IxR X (rIxT X.K):=by
 intro value slice pins s σ H x y v u Q I rx ry h hs
 obtain⟨p,xs,i,z,rfl,rfl,hq,he,q⟩:=h
 cases rx
 obtain⟨t,rfl⟩:=ry
 obtain⟨its,r,pl,hz⟩:=I.tuple hq
 obtain⟨j,h1,h2,h3,h4,h5⟩:=b3d he
 obtain⟨w,ew,rw'⟩:=r.get h2
 have hl:=r.length
 have hn:=b3b
 have fin:EP X pins σ Q w s:=⟨z,H,I,rw',q⟩
 exact U6 (x:=w) pl.typeIs slot_tuple_getitem.lookup
  (getItem_tuple (j:=j) (Q:=fun r s'=>r=w/\EP X pins σ Q r s') pl (by omega) (by omega) (by rw[Zf,<-hl];exact h1) (by simpa using ew) ⟨rfl,fin⟩) hs
theorem ix_str:IxR X rIxS:=by
 intro value slice pins s σ H x y v u Q I rx ry h hs
 obtain⟨z,i,c,rfl,rfl,hz,he,q⟩:=h
 obtain⟨t,rfl⟩:=rx
 obtain⟨t',rfl⟩:=ry
 obtain⟨j,h1,h2,h3,h4,h5⟩:=b3d he
 have hl:z.cps.toList.length=z.length:=by simp[Str.length]
 rw[hl]at h1 h4 h5
 have hn:=b3b
 exact tail_any (Sd s z t) slot_str_getitem.lookup (getItem_str (c:=c) (by
  have e1:decide (i< -(2^63:Int))=false:=Zg (by omega)
  have e2:decide (i>=2^63)=false:=Zg (by omega)
  rw[e1,e2,Bool.or_false]) (by rw[h1];simpa using h2) ⟨.str ⟨#[c]⟩,H,I.tok _,⟨_,rfl⟩,q⟩) hs
def rIx(K:W.Frag):R2:=fun x y H Q=>rIxL K x y H Q\/rIxT K x y H Q\/rIxS x y H Q
theorem ix_seq:IxR X (rIx X.K):=ix_list.or (ix_tup.or ix_str)
theorem c8l(its:List Value)(n j:Nat)(u:Value):Obj.mapSeq (·.setIfInBounds j u) { cls:=.type "list",data:=.seq its.toArray n}={ cls:=.type "list",data:=.seq (its.set j u).toArray n}:=by
 simp[Obj.mapSeq]
theorem Inv.lst{pins:List (Addr×Obj)}{σ:St}{H:Hp}{s:Shared}{p:Addr}{xs:List V}(I:Inv X pins σ H s)(h:H p=some (.lst xs)):
  ∃(its:List Value)(n:Nat),Vals xs its/\s.heap.get? p=some { cls:=.type "list",data:=.seq its.toArray n}/\xs.length<=sizeLine:=by
 obtain⟨z,its,n,r,e⟩:=I.hok p _ h
 exact⟨its,n,r,e,z⟩
theorem Inv.lstUpd{pins:List (Addr×Obj)}{σ:St}{H:Hp}{s:Shared}{p:Addr}{xs ys:List V}{its its':List Value}{n n':Nat}{f:Obj->Obj}(I:Inv X pins σ H s)(h:H p=some (.lst xs))
  (ho:s.heap.get? p=some { cls:=.type "list",data:=.seq its.toArray n})(hf:f { cls:=.type "list",data:=.seq its.toArray n}={ cls:=.type "list",data:=.seq its'.toArray n'})(r:Vals ys its')(hz:ys.length<=sizeLine)(t:Nat):
  Inv X pins σ (upd H p (.lst ys)) { s with heap:=s.heap.update p f,toks:=t}:=by
 have e:(s.heap.update p f).get? p=some { cls:=.type "list",data:=.seq its'.toArray n'}:=by
  rw[Xk f ho (by rw[hf]<;>rfl),hf]
 refine I.write (x:=p) (e:=p) (by rw[h];trivial) (.inl rfl) (fun b u hb q=>(Yl _ _ (Ne.symm hb)).trans q) ⟨_,e⟩ ?_
 exact⟨hz,its',n',r,e⟩
def rSetL:V->V->V->Hp->(Hp->Prop)->Prop:=fun o i v H Q=>∃p xs k j,o=.ref p/\i=.int k/\H p=some (.lst xs)/\ixN xs.length k=some j/\Q (upd H p (.lst (xs.set j v)))
theorem c3i:PSet X rSetL:=by
 intro pins s σ H o i v ov iv u Q I ro ri rv h
 obtain⟨p,xs,k,j,rfl,rfl,hp,hj,q⟩:=h
 cases ro
 obtain⟨t,rfl⟩:=ri
 obtain⟨its,n,r,ho,hz⟩:=I.lst hp
 obtain⟨h1,h2,h3,h4⟩:=b9x hj
 have hl:=r.length
 have hn:=b3b
 have I':Inv X pins σ (upd H p (.lst (xs.set j v))) { s with heap:=s.heap.update p (Obj.mapSeq (·.setIfInBounds j u))}:=
  I.lstUpd hp ho (c8l its n j u) (r.set rv j) (by rw[List.length_set];exact hz) s.toks
 by_cases h0:0<=k
 ·have hk:k.toNat=j:=by
   rw[Tl h0 h4]at h1
   exact Zq h1
  exact W.ki_setAt ho h0 (by omega) (by rw[Zf,<-hl];exact h4) (by rw[hk];exact⟨_,I',q⟩)
 ·have hk:(k+(its.toArray.size:Int)).toNat=j:=by
   rw[U7 (by omega) h3]at h1
   rw[Zf,<-hl]
   exact Zq h1
  exact W.ki_setBack ho (by omega) (by rw[Zf,<-hl];exact h3) (by omega) (by rw[hk];exact⟨_,I',q⟩)
theorem b5a(lo hi:Option Int)(n:Nat):(sliceBounds lo hi none n).1=((HT.sIx n 0 lo:Nat):Int)/\(sliceBounds lo hi none n).2.1=((HT.sIx n n hi:Nat):Int)/\(sliceBounds lo hi none n).2.2=1:=by
 refine⟨?_,?_,rfl⟩
 ·cases lo with
  |none=>simp[sliceBounds,HT.sIx]
  |some i=>
   simp only[sliceBounds,HT.sIx,Option.getD_none,show(1:Int)>0 by decide,if_true]
   by_cases h:i<0
   ·simp only[h,if_true]<;>omega
   ·simp only[h,Xq]<;>omega
 ·cases hi with
  |none=>simp[sliceBounds,HT.sIx]
  |some i=>
   simp only[sliceBounds,HT.sIx,Option.getD_none,show(1:Int)>0 by decide,if_true]
   by_cases h:i<0
   ·simp only[h,if_true]<;>omega
   ·simp only[h,Xq]<;>omega
theorem c1t(its:List Value)(lo hi:Option Int):slicePick its.toArray lo hi none=((its.drop (HT.sIx its.length 0 lo)).take (HT.sIx its.length its.length hi-HT.sIx its.length 0 lo)).toArray:=by
 obtain⟨h1,h2,h3⟩:=b5a lo hi its.toArray.size
 unfold slicePick
 rw[h1,h2,h3]
 simp only[sliceRange_one,pick_run,Zf]<;>rfl
def rSlL(K:W.Frag):V->Option Int->Option Int->Hp->VK->Prop:=fun x lo hi H Q=>∃a xs,x=.ref a/\SqL K H a xs/\∀p,H p=none->Q (.ref p) (upd H p (.lst (cutV xs lo hi)))
theorem sl_list:SlR X (rSlL X.K):=by
 intro pins s σ H x v vl vu lo hi sl Q I rx hs pl pu h
 obtain⟨a,xs,rfl,hx,q⟩:=h
 cases rx
 obtain⟨its,r,ht,hz⟩:=I.list hx
 have hlen:=r.length
 refine⟨"list",_,slot_list_getitem.lookup,ht.isList.typeIs,?_⟩
 refine wpAny_getItem_list_slice ht.isList hs pl pu .none (by simp) ?_ (by rw[Zf]<;>omega)
 rw[c1t,<-hlen]
 refine⟨.ref s.heap.objs.size,_,I.laid (t':=s.toks) (o:=.lst (cutV xs lo hi)) (fun b ob q=>Zh _ q) (Zl _) ?_,rfl,q _ (I.hok.fresh (Zl _))⟩
 exact⟨Zz (b6t xs lo hi) hz,_,0,(r.drop (HT.sIx xs.length 0 lo)).take (HT.sIx xs.length xs.length hi-HT.sIx xs.length 0 lo),Z2 _ rfl⟩
def b2f:V->Bool
 | .non=>true
 | .bl _=>true
 | .int _=>true
 | .str _=>true
 |_=>false
def eqV:V->V->Bool
 | .non,.non=>true
 | .bl a,.bl b=>a==b
 | .bl a,.int b=>(if a then 1 else 0)==b
 | .int a,.bl b=>a==(if b then 1 else 0)
 | .int a,.int b=>a==b
 | .str a,.str b=>a==b
 |_,_=>false
theorem eqAt_V{A:Around}{s:Shared}{y x:V}{u v:Value}(ry:RelV y u)(rx:RelV x v)(fy:b2f y=true)(fx:b2f x=true):SeqAt.EqAt A s u v (eqV y x):=by
 cases y with
 |non=>
  cases ry
  cases x with
  |non=>cases rx;exact Wl _
  |bl b=>cases rx;exact SeqAt.EqAt.none_bool b
  |int b=>obtain⟨t,rfl⟩:=rx;exact SeqAt.EqAt.none_int b t
  |str b=>obtain⟨t,rfl⟩:=rx;exact SeqAt.EqAt.none_str b t
  |_=>exact absurd (show false=true from fx) Zp
 |bl a=>
  cases ry
  cases x with
  |non=>cases rx;exact SeqAt.EqAt.bool_none a
  |bl b=>cases rx;exact SeqAt.EqAt.bool_bool a b
  |int b=>obtain⟨t,rfl⟩:=rx;exact SeqAt.EqAt.bool_int a b t
  |str b=>obtain⟨t,rfl⟩:=rx;exact SeqAt.EqAt.bool_str a b t
  |_=>exact absurd (show false=true from fx) Zp
 |int a=>
  obtain⟨t',rfl⟩:=ry
  cases x with
  |non=>cases rx;exact SeqAt.EqAt.int_none a t'
  |bl b=>cases rx;exact SeqAt.EqAt.int_bool a t' b
  |int b=>obtain⟨t,rfl⟩:=rx;exact W5 a t' b t
  |str b=>obtain⟨t,rfl⟩:=rx;exact V3 a t' b t
  |_=>exact absurd (show false=true from fx) Zp
 |str a=>
  obtain⟨t',rfl⟩:=ry
  cases x with
  |non=>cases rx;exact SeqAt.EqAt.str_none a t'
  |bl b=>cases rx;exact SeqAt.EqAt.str_bool a t' b
  |int b=>obtain⟨t,rfl⟩:=rx;exact V2 a t' b t
  |str b=>obtain⟨t,rfl⟩:=rx;exact W4 a t' b t
  |_=>exact absurd (show false=true from fx) Zp
 |_=>exact absurd (show false=true from fy) Zp
def eqU(x:V)(u:Value):Bool:=match u with
 | .none=>eqV .non x
 | .bool b=>eqV (.bl b) x
 | .int i _=>eqV (.int i) x
 | .str z _=>eqV (.str z) x
 |_=>false
theorem c9w{x y:V}{u:Value}(r:RelV y u)(f:b2f y=true):eqU x u=eqV y x:=by
 cases y with
 |non=>cases r;rfl
 |bl b=>cases r;rfl
 |int i=>obtain⟨t,rfl⟩:=r;rfl
 |str z=>obtain⟨t,rfl⟩:=r;rfl
 |_=>exact absurd (show false=true from f) Zp
theorem b9y{x:V}:∀{xs:List V}{us:List Value},Vals xs us->xs.all b2f=true->us.any (eqU x)=xs.any fun y=>eqV y x
 |_,_,.nil,_=>rfl
 |y::xs,u::us,.cons r t,f=>by
  rw[Wa,Xf]at f
  rw[Vc,Vc,c9w r f.1,b9y t f.2]
theorem b6y{A:Around}{s:Shared}{x:V}{v:Value}(rx:RelV x v)(fx:b2f x=true):∀{xs:List V}{us:List Value},Vals xs us->xs.all b2f=true->∀u∈us,SeqAt.EqAt A s u v (eqU x u)
 |_,_,.nil,_=>fun u hu=>by cases hu
 |y::xs,u::us,.cons r t,f=>fun u' hu=>by
  rw[Wa,Xf]at f
  rcases Zj.mp hu with rfl|hu
  ·rw[c9w r f.1];exact eqAt_V r rx f.1 fx
  ·exact b6y rx fx t f.2 u' hu
def inV(x:V)(xs:List V):Bool:=xs.any fun y=>eqV y x
def rIn(K:W.Frag)(neg:Bool):R2:=fun x y H Q=>∃p xs,y=.ref p/\(SqL K H p xs\/SqT K H p xs)/\b2f x=true/\xs.all b2f=true/\Q (.bl (if neg then !inV x xs else inV x xs)) H
theorem c9x:OpR X (compareOp .In) (rIn X.K false):=by
 intro pins s σ H x y v u Q I rx ry h
 obtain⟨p,xs,rfl,hq,fx,fs,q⟩:=h
 cases ry
 rcases hq with hq|hq
 ·obtain⟨its,r,pl,hz⟩:=I.list hq
  refine SeqAt.in_listAt (eqU x) pl.isList (fun w hw=>b6y rx fx r fs w (by simpa using hw)) ⟨.bl _,H,I,rfl,?_⟩
  rw[show its.toArray.any (eqU x)=its.any (eqU x) by simp,b9y r fs]
  exact q
 ·obtain⟨its,r,pl,hz⟩:=I.tuple hq
  refine SeqAt.in_tupleAt (eqU x) pl (fun w hw=>b6y rx fx r fs w (by simpa using hw)) ⟨.bl _,H,I,rfl,?_⟩
  rw[show its.toArray.any (eqU x)=its.any (eqU x) by simp,b9y r fs]
  exact q
theorem c1u:a5t X (.type "tuple") (fun xs H Q=>∃p ys,xs=[.ref p]/\((SqL X.K H p ys/\∀l,H l=none->Q (.ref l) (upd H l (.tup ys)))\/(SqT X.K H p ys/\Q (.ref p) H))):=by
 intro pins s σ H xs us Q I r h
 obtain⟨p,ys,rfl,h⟩:=h
 obtain⟨u,rfl,rx⟩:=vals1 r
 cases rx
 rcases h with⟨hq,q⟩|⟨hq,q⟩
 ·obtain⟨its,r',pl,hz⟩:=I.list hq
  have hlen:=r'.length
  refine call_tuple_list pl.isList (fun h' kp=>?_) (by simp only[Zf]<;>omega)
  have I1:Inv X pins σ H { s with heap:=h'}:=I.kept (t':=s.toks) kp
  have I2:Inv X pins σ (upd H h'.objs.size (.tup ys)) { s with heap:=h'.push { cls:=.type "tuple",data:=.seq its.toArray}}:=
   I1.laid (t':=s.toks) (fun b o e=>Zh _ e) (Zl _) (show a1y X.prog X.w _ _ _ (.tup ys)from⟨hz,its,r',IsTup.new _ _⟩)
  exact⟨.ref h'.objs.size,_,I2,rfl,q _ (I1.hok.fresh (Zl _))⟩
 ·obtain⟨its,r',pl,hz⟩:=I.tuple hq
  exact call_tuple_same pl ⟨.ref p,H,I,rfl,q⟩
def tyV(K:W.Frag)(T:String)(x:V)(H:Hp):Prop:=match x with
 | .str _=>T="str"
 | .int _=>T="int"
 | .ref p=>(T="list"/\∃xs,SqL K H p xs)\/(T="tuple"/\∃o,K.lookup p=some o/\o.cls=.type "tuple"/\o.dict=none)\/
   (T="dict"/\((∃kvs,H p=some (.dK kvs))\/∃kvs,H p=some (.dT kvs)))\/(T="set"/\∃S n,H p=some (.set S n))
 |_=>False
theorem c9y{pins:List (Addr×Obj)}{σ:St}{H:Hp}{s:Shared}{T:String}{x:V}{v:Value}(I:Inv X pins σ H s)(r:RelV x v)(ty:tyV X.K T x H):
  s.TypeIs v T/\∀a,v=.ref a->∃ob,s.heap.get? a=some ob/\ob.dict=none:=by
 cases x with
 |str z=>
  obtain⟨t,rfl⟩:=r
  cases(show T="str" from ty)
  exact⟨Sd s z t,fun _ e=>nomatch e⟩
 |int i=>
  obtain⟨t,rfl⟩:=r
  cases(show T="int" from ty)
  exact⟨Se s i t,fun _ e=>nomatch e⟩
 |ref p=>
  cases r
  rcases ty with⟨rfl,xs,hq⟩|⟨rfl,o,hk,hc,hd⟩|⟨rfl,hk⟩|⟨rfl,S,n,hk⟩
  ·obtain⟨its,_,pl,_⟩:=I.list hq
   refine⟨pl.isList.typeIs,fun a e=>?_⟩
   cases e
   obtain⟨o,n,e,c,hd,_⟩:=pl
   exact⟨o,e,hd⟩
  ·refine⟨⟨o,I.kIn p o hk,hc⟩,fun a e=>?_⟩
   cases e
   exact⟨o,I.kIn _ o hk,hd⟩
  ·have z:∃o,s.heap.get? p=some o/\o.ExactDict:=by
    rcases hk with⟨kvs,hk⟩|⟨kvs,hk⟩
    ·obtain⟨_,_,_,_,o,_,_,e,ex,_⟩:=I.hok p _ hk
     exact⟨o,e,ex⟩
    ·obtain⟨_,_,_,_,o,_,_,e,ex,_⟩:=I.hok p _ hk
     exact⟨o,e,ex⟩
   obtain⟨o,e,ex⟩:=z
   refine⟨⟨o,e,ex.1⟩,fun a e2=>?_⟩
   cases e2
   exact⟨o,e,ex.2.1⟩
  ·obtain⟨o,_,_,_,e,ex,_⟩:=I.hok p _ hk
   refine⟨⟨o,e,ex.1⟩,fun a e2=>?_⟩
   cases e2
   exact⟨o,e,ex.2.1⟩
 |_=>exact False.elim ty
def tBM0(K:W.Frag)(T:String)(r:V->List V->Hp->VK->Prop)(to:TE):TE:=fun σ H Q=>to σ H fun x H1=>tyV K T x H1/\r x [] H1 Q
def tBM(K:W.Frag)(T:String)(r:V->List V->Hp->VK->Prop)(to:TE)(t:TA):TE:=fun σ H Q=>to σ H fun x H1=>tyV K T x H1/\t σ H1 fun xs H2=>r x xs H2 Q
variable{o e:Expr}{es:List Expr}{to:TE}{t:TA}{name:Str}{apos cpos:Pos}{T id:String}{r:V->List V->Hp->VK->Prop}
theorem pe_bm0(pa:PlainAttrs T)(slot:Slot T name id)(hty:typeOf (.builtin id)=pure (.type "method_descriptor"))(hm:MtR X id r)(ho:PE X o to)
  (hbase:attributeBase o name X.env (eval o X.env)=eval o X.env:=by rfl)(hline:(apos.endLine==cpos.line)=true:=by rfl):PE X (.Call (.Attribute o name apos) [] [] cpos) (tBM0 X.K T r to):=by
 intro pins s σ H Q I h
 refine wpAny_Call_method0_late hbase hline (thn (ho pins s σ H _ I h) fun v s1 ⟨x,H1,I1,r1,ty,q1⟩=>?_)
 obtain⟨h1,h2⟩:=c9y I1 r1 ty
 exact⟨T,id,pa,slot,hty,h1,h2,Tf rfl (PySem.evalArgs_none (hm pins s1 σ H1 x [] v [] Q I1 r1 .nil q1))⟩
theorem pe_bm(pa:PlainAttrs T)(slot:Slot T name id)(hty:typeOf (.builtin id)=pure (.type "method_descriptor"))(hm:MtR X id r)(ho:PE X o to)(ha:PA X (e::es) t)
  (hbase:attributeBase o name X.env (eval o X.env)=eval o X.env:=by rfl)
  (hfew:((backTo cpos (starEach (e::es) X.env)).all (fun x=>!x.1)&&(backToKw cpos (keywordEach [] X.env)).all (fun x=>x.1.isSome)
   &&decide ((e::es).length+([]:List Keyword).length+(if([]:List Keyword).isEmpty then 0 else 1)<30))=true:=by rfl)
  (hline:(apos.endLine==cpos.line)=true:=by rfl)(hs:starEach (e::es) X.env=(false,eval e X.env)::starEach es X.env:=by rfl)(hplain:(backTo cpos (starEach es X.env)).any (·.1)=false:=by rfl):
  PE X (.Call (.Attribute o name apos) (e::es) [] cpos) (tBM X.K T r to t):=by
 intro pins s σ H Q I h
 refine wpAny_Call_method_late hbase hfew hline rfl (thn (ho pins s σ H _ I h) fun v s1 ⟨x,H1,I1,r1,ty,q1⟩=>?_)
 obtain⟨h1,h2⟩:=c9y I1 r1 ty
 refine⟨T,id,pa,slot,hty,h1,h2,?_⟩
 have hA:=ha cpos pins s1 σ H1 _ I1 q1
 rw[hs]at hA ⊢
 refine Tf (by show(false|| (backTo cpos (starEach es X.env)).any (·.1))=false;rw[hplain]<;>rfl) (Calls.evalArgs_plain ?_)
 exact thn hA fun us s2 ⟨vs,H2,I2,r2,q2⟩=>hm pins s2 σ H2 x vs v us Q I2 r1 r2 q2
end
def MtM(X:Cx)(id:String)(r:V->List V->Hp->VK->Prop):Prop:=
 ∀(pins:List (Addr×Obj))(s:Shared)(σ:St)(H:Hp)(x:V)(xs:List V)(v:Value)(us:List Value)(Q:VK),Inv X pins σ H s->RelV x v->Vals xs us->r x xs H Q->
  wpAny (model X.prog X.w) X.A (call (.builtin id) (v::us)) (EP X pins σ Q) X.xe s
theorem Vals.one:∀{x:V}{us:List Value},Vals [x] us->∃u,us=[u]/\RelV x u
 |_,_,.cons r .nil=>⟨_,rfl,r⟩
theorem Vals.zero:∀{us:List Value},Vals [] us->us=[]
 |_,.nil=>rfl
theorem Vals.dropLast{xs:List V}{us:List Value}(h:Vals xs us):Vals xs.dropLast us.dropLast:=by
 induction h with
 |nil=>exact .nil
 |cons r t ih=>
  cases t with
  |nil=>exact .nil
  |cons q t'=>exact .cons r ih
theorem Vals.rep{xs:List V}{us:List Value}(h:Vals xs us):∀k:Nat,Vals (List.replicate k xs).flatten (List.replicate k us).flatten
 |0=>.nil
 |k+1=>by
  rw[Yq,Yq,Xu,Xu]
  exact Vals.append h (Vals.rep h k)
theorem c8m{α:Type}(l:List α):l.eraseIdx (l.length-1)=l.dropLast:=by
 induction l with
 |nil=>rfl
 |cons a r ih=>
  cases r with
  |nil=>rfl
  |cons b r=>
   have e:(a::b::r).length-1=((b::r).length-1)+1:=by
    have h1:(a::b::r).length=r.length+2:=rfl
    have h2:(b::r).length=r.length+1:=rfl
    omega
   rw[e,List.eraseIdx_cons_succ,ih]
   all_goals rfl
theorem foldl_rep(its:List Value):∀(k:Nat)(acc:List Value),
  List.foldl (fun x1 x2=>x1++x2) acc.toArray (List.replicate k its.toArray)=(acc++(List.replicate k its).flatten).toArray
 |0,acc=>by simp
 |k+1,acc=>by
  have e:acc.toArray++its.toArray=(acc++its).toArray:=by simp
  have e2:(acc++its)++(List.replicate k its).flatten=acc++(List.replicate (k+1) its).flatten:=by
   rw[Yq,Xu,Zw]
  rw[<-e2,<-foldl_rep its k (acc++its),<-e,Yq,Vq]
section
variable{X:Cx}{pins:List (Addr×Obj)}{σ:St}{H:Hp}{s:Shared}{l b:Addr}{xs ys zs:List V}
theorem Inv.lset{its its':List Value}{n:Nat}{f:Array Value->Array Value}{t':Nat}(I:Inv X pins σ H s)(hH:H l=some (.lst xs))
  (e:s.heap.get? l=some { cls:=.type "list",data:=.seq its.toArray n})(hf:f its.toArray=its'.toArray)(hv:Vals ys its')(hz:ys.length<=sizeLine):
  Inv X pins σ (upd H l (.lst ys)) { s with heap:=s.heap.update l (Obj.mapSeq f),toks:=t'}:=by
 have q:=PySem.IsL.update e f
 rw[hf]at q
 refine I.write (x:=l) (e:=l) (by rw[hH];exact trivial) (.inl rfl) (fun b' u hb hu=>(Yl s.heap (Obj.mapSeq f) (Ne.symm hb)).trans hu) ⟨_,q⟩ ?_
 exact⟨hz,its',_,hv,q⟩
theorem Inv.lnew{its:List Value}{t':Nat}(I:Inv X pins σ H s)(hv:Vals ys its)(hz:ys.length<=sizeLine):
  Inv X pins σ (upd H s.heap.objs.size (.lst ys)) { s with heap:=s.heap.push { cls:=.type "list",data:=.seq its.toArray},toks:=t'}:=
 I.laid (fun _ _ q=>Zh _ q) (Zl _) ⟨hz,its,0,hv,Z2 _ rfl⟩
theorem Inv.fresh(I:Inv X pins σ H s):H s.heap.objs.size=none:=I.hok.fresh (Zl _)
theorem Inv.lstM(I:Inv X pins σ H s)(hH:H l=some (.lst xs)):xs.length<=sizeLine/\∃(its:List Value)(n:Nat),Vals xs its/\xs.length=its.length/\s.heap.get? l=some { cls:=.type "list",data:=.seq its.toArray n}:=by
 obtain⟨z,its,n,r,e⟩:=I.hok l _ hH
 exact⟨z,its,n,r,r.length,e⟩
theorem b6z{n:Nat}(h:n<=sizeLine):Builtin.List.listTooLong n=false:=by
 unfold Builtin.List.listTooLong
 exact Zg (by omega)
end
section
variable{X:Cx}
def rAppend:V->List V->Hp->VK->Prop:=fun x vs H Q=>∃l xs y,x=.ref l/\vs=[y]/\H l=some (.lst xs)/\xs.length<sizeLine/\Q .non (upd H l (.lst (xs++[y])))
theorem c1d:MtM X "list.append" rAppend:=by
 intro pins s σ H x vs v us Q I rx rv h
 obtain⟨l,xs,y,rfl,rfl,hH,hz,q⟩:=h
 cases rx
 obtain⟨u,rfl,ru⟩:=rv.one
 obtain⟨z,its,n,r,hl,e⟩:=I.lstM hH
 refine Vg Yn ⟨_,e,rfl⟩ F.entry_list_append (F.args_list_append_2 _ _) (PySem.list_append l its.toArray n u (by rw[Zf];omega)) ⟨e,?_⟩
 refine⟨.non,_,I.lset (its':=its++[u]) hH e (by simp) (r.append (.cons ru .nil)) ?_,rfl,q⟩
 rw[Za,Z9]
 omega
def rExtend:V->List V->Hp->VK->Prop:=fun x vs H Q=>∃l b xs zs,x=.ref l/\vs=[.ref b]/\H l=some (.lst xs)/\H b=some (.lst zs)/\xs.length+zs.length<=sizeLine/\Q .non (upd H l (.lst (xs++zs)))
theorem c9z:MtM X "list.extend" rExtend:=by
 intro pins s σ H x vs v us Q I rx rv h
 obtain⟨l,b,xs,zs,rfl,rfl,hH,hB,hz,q⟩:=h
 cases rx
 obtain⟨u,rfl,ru⟩:=rv.one
 cases ru
 obtain⟨z,its,n,r,hl,e⟩:=I.lstM hH
 obtain⟨z2,its2,n2,r2,hl2,e2⟩:=I.lstM hB
 have hsz:its.toArray.size+its2.toArray.size<=sizeLine:=by rw[Zf,Zf];omega
 have hlong:¬(!its.toArray.isEmpty&&Builtin.List.listTooLong (its.toArray.size+its2.toArray.size))=true:=by
  rw[b6z hsz,Ws]
  exact Zp
 refine Vg V4 ⟨_,e,rfl⟩ Sa (Tu _ _)
  (AutoSeq1.list_extend_list_list_0 l its.toArray n b its2.toArray n2 hlong (by rw[Zf];omega) (by omega)) ⟨e,e2,?_⟩
 refine⟨.non,_,I.lset (its':=its++its2) hH e (by simp) (r.append r2) ?_,rfl,q⟩
 rw[Za]
 omega
def rPop:V->List V->Hp->VK->Prop:=fun x vs H Q=>∃l xs y,x=.ref l/\vs=[]/\H l=some (.lst xs)/\xs[xs.length-1]? =some y/\Q y (upd H l (.lst xs.dropLast))
theorem mt_pop:MtM X "list.pop" rPop:=by
 intro pins s σ H x vs v us Q I rx rv h
 obtain⟨l,xs,y,rfl,rfl,hH,hy,q⟩:=h
 cases rx
 have hus:=rv.zero
 subst hus
 obtain⟨z,its,n,r,hl,e⟩:=I.lstM hH
 obtain⟨u,hu,ru⟩:=r.get hy
 have hy':its.toArray[its.toArray.size-1]? =some u:=by
  show its.toArray[its.length-1]? =some u
  rw[<-Array.getElem?_toList,<-hl]
  exact hu
 refine Vg Xn ⟨_,e,rfl⟩ F.entry_list_pop (F.args_list_pop_1 _) (MeetsSeq.list_pop_last l its.toArray n u hy' (by rw[Zf];omega)) ⟨e,?_⟩
 refine⟨y,_,I.lset (its':=its.dropLast) hH e ?_ r.dropLast ?_,ru,q⟩
 ·show its.toArray.eraseIdxIfInBounds (its.toArray.size-1)=its.dropLast.toArray
  rw[Zf,List.eraseIdxIfInBounds_toArray,c8m]
 ·rw[List.length_dropLast]
  omega
def rCat:R2:=fun x y H Q=>∃l b xs zs,x=.ref l/\y=.ref b/\H l=some (.lst xs)/\H b=some (.lst zs)/\xs.length+zs.length<=sizeLine/\∀p,H p=none->Q (.ref p) (upd H p (.lst (xs++zs)))
theorem op_cat:OpR X (binaryOp .Add) rCat:=by
 intro pins s σ H x y v u Q I rx ry h
 obtain⟨l,b,xs,zs,rfl,rfl,hH,hB,hz,q⟩:=h
 cases rx
 cases ry
 obtain⟨z,its,n,r,hl,e⟩:=I.lstM hH
 obtain⟨z2,its2,n2,r2,hl2,e2⟩:=I.lstM hB
 refine PySem.P.add_list e e2 ?_ (by rw[Zf,Zf];omega)
 have ea:its.toArray++its2.toArray=(its++its2).toArray:=by simp
 rw[ea]
 exact⟨.ref _,_,I.lnew (t':=s.toks) (r.append r2) (by rw[Za];omega),rfl,q _ I.fresh⟩
def rRep:R2:=fun x y H Q=>∃l k xs,x=.ref l/\y=.int k/\H l=some (.lst xs)/\-(2^63)<=k/\k<2^63/\xs.length*k.toNat<=sizeLine/\
 ∀p,H p=none->Q (.ref p) (upd H p (.lst (List.replicate k.toNat xs).flatten))
theorem len_rep{α:Type}(xs:List α)(k:Nat):(List.replicate k xs).flatten.length=k*xs.length:=by
 induction k with
 |zero=>simp
 |succ k ih=>rw[Yq,Xu,Za,ih,Vi,Nat.add_comm]
theorem op_rep:OpR X (binaryOp .Mult) rRep:=by
 intro pins s σ H x y v u Q I rx ry h
 obtain⟨l,k,xs,rfl,rfl,hH,h1,h2,hz,q⟩:=h
 cases rx
 obtain⟨t,rfl⟩:=ry
 obtain⟨z,its,n,r,hl,e⟩:=I.lstM hH
 have hlen:its.toArray.size*k.toNat<=sizeLine:=by rw[Zf,<-hl];exact hz
 have hcap:¬its.toArray.size*k.toNat>(2^63-1)/8:=by
  have:(sizeLine:Nat)<=(2^63-1)/8:=by decide
  omega
 have hfit:¬(!Builtin.List.listFitsIndex k)=true:=by
  rw[fitsIndex_both h1 h2]
  exact Zp
 have hlong:¬Builtin.List.listTooLong (its.toArray.size*k.toNat)=true:=by
  rw[b6z hlen]
  exact Zp
 have hnew:List.foldl (fun x1 x2=>x1++x2) #[] (List.replicate (if its.toArray.isEmpty=true then 0 else k.toNat) its.toArray)=(List.replicate k.toNat its).flatten.toArray:=by
  have f0:∀m:Nat,List.foldl (fun x1 x2=>x1++x2) #[] (List.replicate m its.toArray)=(List.replicate m its).flatten.toArray:=fun m=>by
   have:=foldl_rep its m []
   rw[Yb]at this
   exact this
  rw[f0]
  cases its with
  |nil=>simp
  |cons a r'=>rw[if_neg (by simp)]
 refine wpAny_binaryOp_repeat_ref (T:="list") (U:="int") (by decide) ⟨_,e,rfl⟩ (fun s'=>Se s' k t) noFill_list_mul F.fills_int_mul F.slot_int_rmul repeat_list F.slot_int_index.lookup
  (Vg F.slot_int_rmul (Se s k t) F.entry_int_rmul (F.args_int_rmul_2 _ _) (int___rmul___int_list k t l its.toArray n)
   ⟨e,rfl,⟨_,e,rfl⟩,Vg F.slot_list_mul ⟨_,e,rfl⟩ F.entry_list_mul (F.args_list_mul_2 _ _) (AutoListH.list___mul___list_int_3 l its.toArray n k t hfit hcap hlong) ⟨e,?_⟩⟩)
 rw[hnew]
 exact⟨.ref _,_,I.lnew (t':=s.toks) (r.rep k.toNat) (by rw[len_rep,Nat.mul_comm];exact hz),rfl,q _ I.fresh⟩
end
section
variable{κ:Type}[DecidableEq κ]
def valV(kvs:List (κ×V))(k:κ):Option V:=(kvs.find? fun kv=>decide (kv.1=k)).map (·.2)
def putK(kvs:List (κ×V))(k:κ)(v:V):List (κ×V):=
 if(kvs.any fun kv=>decide (kv.1=k))=true then kvs.map (fun kv=>if kv.1=k then(kv.1,v)else kv)else kvs++[(k,v)]
theorem b3z{p:κ×V}{r:List (κ×V)}{k:κ}(e:p.1=k):valV (p::r) k=some p.2:=by simp[valV,Wm,e]
theorem b1d{p:κ×V}{r:List (κ×V)}{k:κ}(e:¬p.1=k):valV (p::r) k=valV r k:=by simp[valV,Wm,e]
theorem c3j(k:κ):∀kvs:List (κ×V),(kvs.any fun kv=>decide (kv.1=k))=(valV kvs k).isSome
 | []=>rfl
 |p::r=>by
  rw[Vc]
  by_cases e:p.1=k
  ·simp only[b3z e,Zi e,Bool.true_or,Option.isSome_some]
  ·rw[b1d e,Zg e,Bool.false_or];exact c3j k r
theorem c6a(kvs:List (κ×V))(k:κ)(v:V):(putK kvs k v).length<=kvs.length+1:=by
 unfold putK
 split
 ·rw[length_map];omega
 ·rw[Za,length_cons,length_nil];omega
theorem d2y{kvs:List (κ×V)}{k:κ}(v:V)(h:valV kvs k=none):putK kvs k v=kvs++[(k,v)]:=by
 unfold putK
 rw[c3j,h]
 exact if_neg (by decide)
theorem RelO.isSome_eq{o:Option V}{u:Option Value}(r:RelO o u):o.isSome=u.isSome:=by
 cases o with
 |none=>cases u with
  |none=>rfl
  |some _=>exact(show False from r).elim
 |some _=>cases u with
  |none=>exact(show False from r).elim
  |some _=>rfl
theorem KV.val{kvs:List (κ×V)}{vs:List (κ×Value)}(r:KV kvs vs)(k:κ):RelO (valV kvs k) (valueAt vs k):=by
 unfold KV at r
 induction r with
 |nil=>exact True.intro
 | @cons p q ps qs h t ih=>
  obtain⟨h1,h2⟩:=h
  by_cases e:p.1=k
  ·have e':q.1=k:=h1.symm.trans e
   have b:valueAt (q::qs) k=some q.2:=by simp[valueAt,Wm,e']
   rw[b3z e,b];exact h2
  ·have e':¬q.1=k:=fun z=>e (h1.trans z)
   have b:valueAt (q::qs) k=valueAt qs k:=by simp[valueAt,Wm,e']
   rw[b1d e,b];exact ih
theorem KV.any{kvs:List (κ×V)}{vs:List (κ×Value)}(r:KV kvs vs)(k:κ):(kvs.any fun kv=>decide (kv.1=k))=vs.any fun kv=>decide (kv.1=k):=by
 unfold KV at r
 induction r with
 |nil=>rfl
 |cons h t ih=>rw[Vc,Vc,ih,h.1]
theorem KV.repl{kvs:List (κ×V)}{vs:List (κ×Value)}(r:KV kvs vs)(k:κ){y:V}{u:Value}(ry:RelV y u):
  KV (kvs.map fun kv=>if kv.1=k then(kv.1,y)else kv) (vs.map fun kv=>if kv.1=k then(kv.1,u)else kv):=by
 unfold KV at r ⊢
 induction r with
 |nil=>exact .nil
 | @cons p q ps qs h t ih=>
  rw[Zu,Zu]
  refine .cons ?_ ih
  obtain⟨h1,h2⟩:=h
  by_cases e:p.1=k
  ·rw[if_pos e,if_pos (h1.symm.trans e)];exact⟨h1,ry⟩
  ·rw[if_neg e,if_neg (fun z=>e (h1.trans z))];exact⟨h1,h2⟩
theorem KV.put{kvs:List (κ×V)}{vs:List (κ×Value)}(r:KV kvs vs)(k:κ){y:V}{u:Value}(ry:RelV y u):KV (putK kvs k y) (stored vs k u):=by
 unfold putK stored
 rw[r.any k]
 by_cases e:(vs.any fun kv=>decide (kv.1=k))=true
 ·rw[if_pos e,if_pos e];exact r.repl k ry
 ·rw[if_neg e,if_neg e];exact Paired.snoc r ⟨rfl,ry⟩
theorem KV.length{kvs:List (κ×V)}{vs:List (κ×Value)}(r:KV kvs vs):kvs.length=vs.length:=Ux r
end
theorem b8f{P:Program}{w:World}{k:Key}{u:Value}(r:RelV (kV k) u):(a2g P w).is k u=true:=by
 cases k with
 |inl i=>obtain⟨t,e⟩:=(show ∃t,u=Value.int i t from r);subst e;exact c5w P w i t
 |inr x=>obtain⟨t,e⟩:=(show ∃t,u=Value.str x t from r);subst e;exact c5x P w x t
theorem c1e{P:Program}{w:World}:∀{ks:List Key}{us:List Value},Vals (ks.map kV) us->ItemsAre (a2g P w) ks us
 | [],_,r=>by rw[Xs]at r;cases r;exact .nil
 |k::ks,_,r=>by
  rw[Zu]at r
  cases r with
  |cons h t=>exact .cons (b8f h) (c1e t)
abbrev KT(H:Hp):List (List Key×V)->List (List Key×Addr×Value)->Prop:=Paired fun p q=>p.1=q.1/\H q.2.1=some (.tup (p.1.map kV))/\RelV p.2 q.2.2
theorem KT.val{H:Hp}{kvs:List (List Key×V)}{xs:List (List Key×Addr×Value)}(r:KT H kvs xs)(k:List Key):RelO (valV kvs k) ((atKey xs k).map (·.2)):=by
 induction r with
 |nil=>exact True.intro
 | @cons p q ps qs h t ih=>
  obtain⟨h1,_,h2⟩:=h
  by_cases e:p.1=k
  ·have e':q.1=k:=h1.symm.trans e
   have b:atKey (q::qs) k=some q.2:=by simp[atKey,Wm,e']
   rw[b3z e,b];exact h2
  ·have e':¬q.1=k:=fun z=>e (h1.trans z)
   have b:atKey (q::qs) k=atKey qs k:=by simp[atKey,Wm,e']
   rw[b1d e,b];exact ih
section
variable{P:Program}{w:World}{H:Hp}{h:Heap}{a:Addr}
theorem rd_of{u:HO}(ok:HOk P w H h)(e:Rd H a u):a1y P w H h a u:=e.ok ok
theorem c2g{kvs:List (Key×V)}(ok:HOk P w H h)(e:Rd H a (.dK kvs)):kvs.length<=sizeLine/\(a==sysModules)=false/\∃vs,KV kvs vs/\h.DictOf (a2g P w) a vs:=
 show a1y P w H h a (.dK kvs)from rd_of ok e
theorem dk_of{kvs:List (Key×V)}(ok:HOk P w H h)(e:H a=some (.dK kvs)):kvs.length<=sizeLine/\(a==sysModules)=false/\∃vs,KV kvs vs/\h.DictOf (a2g P w) a vs:=c2g ok (.inl e)
theorem c3k{ks:List Key}(ok:HOk P w H h)(e:H a=some (.tup (ks.map kV))):(tupleKind (a2g P w)).is h ks a:=by
 obtain⟨_,its,r,o,h1,h2,n,h3⟩:=(show a1y P w H h a (.tup (ks.map kV))from ok a _ e)
 exact⟨o,its.toArray,n,h1,h2,h3,by simpa using c1e r⟩
theorem dt_rd{kvs:List (List Key×V)}(ok:HOk P w H h)(e:Rd H a (.dT kvs)):kvs.length<=sizeLine/\(a==sysModules)=false/\
  ∃xs,KT H kvs xs/\h.DictOfH (tupleKind (a2g P w)) a xs:=by
 obtain⟨z,y,xs,r,o,es,ep,h1,h2,h3,h4,h5⟩:=(show a1y P w H h a (.dT kvs)from rd_of ok e)
 refine⟨z,y,xs,r,o,es,ep,h1,h2,h3,h4,fun x hx=>?_,h5⟩
 have all:∀{l:List (List Key×V)}{m:List (List Key×Addr×Value)},KT H l m->∀x∈m,(tupleKind (a2g P w)).is h x.1 x.2.1:=by
  intro l m q
  induction q with
  |nil=>intro x hx;exact nomatch hx
  | @cons p q ps qs hq t ih=>
   intro x hx
   rcases Zj.mp hx with e|hx
   ·subst e
    exact c3k ok (by rw[<-hq.1];exact hq.2.1)
   ·exact ih x hx
 exact all r x hx
end
def DGet(H:Hp)(a:Addr)(y:V)(r:Option V):Prop:=
 (∃kvs k,Rd H a (.dK kvs)/\y=kV k/\r=valV kvs k)\/∃kvs k b,Rd H a (.dT kvs)/\y=.ref b/\H b=some (.tup (k.map kV))/\r=valV kvs k
theorem DGet.k{H:Hp}{a:Addr}{kvs:List (Key×V)}{k:Key}(e:H a=some (.dK kvs)):DGet H a (kV k) (valV kvs k):=.inl ⟨kvs,k,.inl e,rfl,rfl⟩
section
variable{X:Cx}{pins:List (Addr×Obj)}{σ:St}{H:Hp}{s:Shared}{a:Addr}{y v:V}{u r:Value}{o:Option V}{A:Around}{E:Value->Shared->Prop}
theorem Inv.big(I:Inv X pins σ H s):sysModules<s.heap.objs.size:=by
 have h:mainGlobals<s.heap.objs.size:=(I.mod.glob.keeps I.bk).lt
 exact Nat.lt_trans (by decide) h
theorem d0a{Q:Value->Shared->Prop}(hu:A.units+1<cLine)(I:Inv X pins σ H s)(g:DGet H a y (some v))(ry:RelV y u)(h:∀w' s',Inv X pins σ H s'->RelV v w'->Q w' s'):
  wpAny (model X.prog X.w) A (getItem (.ref a) u) Q E s:=by
 rcases g with⟨kvs,k,e,ey,l⟩|⟨kvs,k,b,e,ey,eb,l⟩
 ·subst ey
  obtain⟨z,hd,vs,rel,dd⟩:=c2g I.hok e
  obtain⟨w',hw,rw'⟩:=RelO.some_of (v:=v) (o:=valueAt vs k) (by rw[l];exact rel.val k)
  exact wpAny_getItem_of (b8f ry) dd.mapOf hw (h w' _ (I.tok _) rw')
 ·subst ey
  cases(show u=Value.ref b from ry)
  obtain⟨z,hd,xs,rel,dd⟩:=dt_rd I.hok e
  obtain⟨w',hw,rw'⟩:=RelO.some_of (v:=v) (o:=(atKey xs k).map (·.2)) (by rw[l];exact rel.val k)
  obtain⟨p,hp,hp2⟩:=Vh.mp hw
  refine wpAny_getItem_heap (Sf hu) (c3k I.hok eb) dd hp ?_
  rw[hp2]
  exact h w' _ (I.tok _) rw'
theorem d_notIn{Q:Value->Shared->Prop}(hu:A.units+1<cLine)(I:Inv X pins σ H s)(g:DGet H a y o)(ry:RelV y u)(h:∀s',Inv X pins σ H s'->Q (.bool (!o.isSome)) s'):
  wpAny (model X.prog X.w) A (compareOp .NotIn u (.ref a)) Q E s:=by
 rcases g with⟨kvs,k,e,ey,l⟩|⟨kvs,k,b,e,ey,eb,l⟩
 ·subst ey
  obtain⟨z,hd,vs,rel,dd⟩:=c2g I.hok e
  refine wpAny_notIn_of (b8f ry) hd dd.mapOf ?_
  rw[<-(rel.val k).isSome_eq,<-l]
  exact h _ (I.tok _)
 ·subst ey
  cases(show u=Value.ref b from ry)
  obtain⟨z,hd,xs,rel,dd⟩:=dt_rd I.hok e
  refine wpAny_notIn_heap (Sf hu) (c3k I.hok eb) hd dd ?_
  have q:=(rel.val k).isSome_eq
  rw[Option.isSome_map]at q
  rw[<-q,<-l]
  exact h _ (I.tok _)
theorem c6w{h':Heap}{t':Nat}{ob:HO}(I:Inv X pins σ H s)(mu:Mut (H a))(hs:Heap.SameBut a s.heap h')(he:∃q,h'.get? a=some q)(new:a1y X.prog X.w (upd H a ob) h' a ob):
  Inv X pins σ (upd H a ob) { s with heap:=h',toks:=t'}:=
 I.write (x:=a) (e:=a) mu (.inl rfl) (fun b q hb z=>(hs.2 b hb).trans z) he new
theorem d0b{P:Program}{w:World}{H':Hp}{h':Heap}{kvs:List (Key×V)}{vs:List (Key×Value)}(z:kvs.length<=sizeLine)(hd:(a==sysModules)=false)(rel:KV kvs vs)(dd:h'.DictOf (a2g P w) a vs):
  a1y P w H' h' a (.dK kvs):=⟨z,hd,vs,rel,dd⟩
end
def NoSl(i:Expr):Prop:=∀ov iv,subscripted i false ov iv=operate [ov,iv] (getItem ov iv)
theorem c6x{prog:Program}{w:World}{A:Around}{E:Value->Shared->Prop}{s:Shared}{env:Env}{value slice:Expr}{pos:Pos}{T id:String}{Q:Value->Shared->Prop}
  (hl:typeLookup (.type T) "__getitem__"=pure (some (.builtin id)))(hs:NoSl slice)
  (h:wpAny (model prog w) A (eval value env) (fun o s₁=>wpAny (model prog w) A (eval slice env) (fun i s₂=>s₂.TypeIs o T/\wpAny (model prog w) A (getItem o i) Q E s₂) E s₁) E s):
  wpAny (model prog w) A (eval (.Subscript value slice pos) env) Q E s:=by
 refine Sj (Xg h (fun o s₁ h₁=>Xg h₁ (fun i s₂ h₂=>?_) fun _ _ x=>x) fun _ _ x=>x)
 obtain⟨hT,h₂⟩:=h₂
 unfold subscriptTail
 refine Zd ?_
 rw[getitemInPython_of_ne hT.not_modules]
 refine Zd (wpAny_specialOf hT hl ?_)
 have fin:wpAny (model prog w) A (subscripted slice false o i) (fun r s₃=>wpAny (model prog w) A (letTemporaryGo value o r>>=fun _=>pure r) Q E s₃) E s₂:=by
  rw[hs o i]
  exact wpAny_operating (Xg h₂ (fun r s₃ h₃=>Zd (wpAny_letTemporaryGo (Zr h₃))) fun _ _ x=>x)
 first
  |exact Zr (Zd fin)
  |exact Zd (Zr (Zd fin))
  |exact Zd fin
theorem c6b{X:Cx}{pins:List (Addr×Obj)}{σ:St}{H:Hp}{s:Shared}{a:Addr}{y:V}{o:Option V}(I:Inv X pins σ H s)(g:DGet H a y o):s.TypeIs (.ref a) "dict":=by
 rcases g with⟨kvs,k,e,_,_⟩|⟨kvs,k,b,e,_,_,_⟩
 ·obtain⟨_,_,vs,_,dd⟩:=c2g I.hok e
  exact dd.typeIs
 ·obtain⟨_,_,xs,_,dd⟩:=dt_rd I.hok e
  exact dd.typeIs
def tDGet(td ty:TE):TE:=fun σ H Q=>td σ H fun x H1=>ty σ H1 fun y H2=>∃a v,x=.ref a/\DGet H2 a y (some v)/\Q v H2
section
variable{X:Cx}{o i e value:Expr}{pos pos' tpos:Pos}{td ty tv:TE}
theorem c6y(hu:X.A.units+1<cLine)(ho:PE X o td)(hi:PE X i ty)(hs:NoSl i):PE X (.Subscript o i pos) (tDGet td ty):=by
 intro pins s σ H Q I h
 refine c6x T9.lookup hs (thn (ho pins s σ H _ I h) fun u s1 ⟨x,H1,I1,rx,q1⟩=>thn (hi pins s1 σ H1 _ I1 q1) fun iv s2 ⟨y,H2,I2,ry,a,v,ex,g,q2⟩=>?_)
 subst ex
 obtain rfl:u=Value.ref a:=rx
 exact⟨c6b I2 g,d0a hu I2 g ry fun w' s3 I3 rw'=>⟨v,H2,I3,rw',q2⟩⟩
end
theorem d2z{P:Program}{w:World}{H:Hp}(h:Heap)(hb:sysModules<h.objs.size):a1y P w H (h.push { cls:=.type "dict",data:=.dict #[]}) h.objs.size (.dK []):=
 ⟨Yo _,Y7.mpr (Ne.symm (Yc hb)),[],.nil,Heap.DictOf.new h⟩
def b1e:List (TE×TE)->St->Hp->(List (V×V)->Hp->Prop)->Prop
 | [],_,H,Q=>Q [] H
 | (tk,tv)::r,σ,H,Q=>tk σ H fun x H1=>tv σ H1 fun y H2=>b1e r σ H2 fun ps H3=>Q ((x,y)::ps) H3
abbrev VV:List (V×V)->List (Value×Value)->Prop:=Paired fun p q=>RelV p.1 q.1/\RelV p.2 q.2
def PPs(X:Cx)(pos:Pos)(keys:List (Option Expr))(values:List Expr)(trs:List (TE×TE)):Prop:=
 ∀(pins:List (Addr×Obj))(s:Shared)(σ:St)(H:Hp)(Q:List (V×V)->Hp->Prop),Inv X pins σ H s->b1e trs σ H Q->
  wpAny (model X.prog X.w) X.A (evalPairs (pairTrees keys values X.env pos)) (fun vs s'=>∃ps H',Inv X pins σ H' s'/\VV ps vs/\Q ps H') X.xe s
theorem pps_nil{X:Cx}{pos:Pos}:PPs X pos [] [] []:=fun pins s σ H Q I h=>pairTrees_nil_walk ⟨[],H,I,.nil,h⟩
theorem d3a{X:Cx}{pos:Pos}{k v:Expr}{ks:List (Option Expr)}{vs:List Expr}{tk tv:TE}{trs:List (TE×TE)}(hk:PE X k tk)(hv:PE X v tv)(hr:PPs X pos ks vs trs):
  PPs X pos (some k::ks) (v::vs) ((tk,tv)::trs):=fun pins s σ H Q I h=>
 pairTrees_cons_walk (thn (hk pins s σ H _ I h) fun u s1 ⟨x,H1,I1,rx,q1⟩=>thn (hv pins s1 σ H1 _ I1 q1) fun w2 s2 ⟨y,H2,I2,ry,q2⟩=>
  thn (hr pins s2 σ H2 _ I2 q2) fun ws s3 ⟨ps,H3,I3,rel,q3⟩=>⟨(x,y)::ps,H3,I3,.cons ⟨rx,ry⟩ rel,q3⟩)
def a5l(kvs more:List (Key×V)):List (Key×V):=more.foldl (fun acc kv=>putK acc kv.1 kv.2) kvs
theorem KV.merge:∀{more:List (Key×V)}{rs:List (Key×Value)}{kvs:List (Key×V)}{vs:List (Key×Value)},KV more rs->KV kvs vs->KV (a5l kvs more) (merged vs rs):=by
 intro more rs kvs vs r
 unfold KV at r
 induction r generalizing kvs vs with
 |nil=>intro q;exact q
 | @cons p q ps qs h t ih=>
  intro r0
  have e:KV (putK kvs p.1 p.2) (stored vs q.1 q.2):=by
   have:=r0.put p.1 h.2
   rw[<-h.1];exact this
  exact ih e
theorem b0e:∀(more kvs:List (Key×V)),(a5l kvs more).length<=kvs.length+more.length
 | [],kvs=>by show kvs.length<=kvs.length+0;omega
 |p::r,kvs=>by
  have h1:=b0e r (putK kvs p.1 p.2)
  have h2:=c6a kvs p.1 p.2
  show(a5l (putK kvs p.1 p.2) r).length<=_
  rw[length_cons];omega
theorem b8g{P:Program}{w:World}:∀{kvs:List (Key×V)}{ws:List (Value×Value)},VV (kvs.map fun kv=>(kV kv.1,kv.2)) ws->∃rs,Carries (a2g P w) ws rs/\KV kvs rs
 | [],_,r=>by rw[Xs]at r;cases r;exact⟨[],True.intro,.nil⟩
 |p::kvs,_,r=>by
  rw[Zu]at r
  cases r with
  | @cons a b as bs h t=>
   obtain⟨rs,c,q⟩:=b8g (P:=P) (w:=w) t
   obtain⟨b1,b2⟩:=b
   exact⟨(p.1,b2)::rs,⟨b8f h.1,rfl,c⟩,.cons ⟨rfl,h.2⟩ q⟩
def tDisp(trs:List (TE×TE)):TE:=fun σ H Q=>∀p,H p=none->b1e trs σ (upd H p (.dK [])) fun ps H2=>H2 p=some (.dK [])/\∃kvs:List (Key×V),ps=kvs.map (fun kv=>(kV kv.1,kv.2))/\kvs.length<=15/\Q (.ref p) (upd H2 p (.dK (a5l [] kvs)))
theorem pe_disp{X:Cx}{pos:Pos}{keys:List (Option Expr)}{values:List Expr}{trs:List (TE×TE)}(h:PPs X pos keys values trs)(hall:keys.all (·.isSome)=true)(hl:keys.length=values.length)(h0:keys≠[])
  (h15:keys.length<=15):PE X (.Dict keys values pos) (tDisp trs):=by
 intro pins s σ H Q I q
 have hn:=I.hok.fresh (Zl s.heap.objs.size)
 have I1:=I.laid (a:=s.heap.objs.size) (o:=.dK []) (h':=s.heap.push { cls:=.type "dict",data:=.dict #[]}) (t':=s.toks) (fun _ _ q=>Zh _ q) (Zl _) (d2z s.heap I.big)
 refine wpAny_Dict_walk (knd:=a2g X.prog X.w) hall hl h0 h15 (thn (h pins _ σ _ _ I1 (q _ hn)) fun ws s2 ⟨ps,H2,I2,rel,e,kvs,ep,lk,q2⟩=>?_)
 subst ep
 obtain⟨rs,c,rk⟩:=b8g (P:=X.prog) (w:=X.w) rel
 obtain⟨z,hd,vs0,r0,dd⟩:=dk_of I2.hok e
 cases r0
 refine⟨rs,c,dd,fun h' dd' hs=>⟨.ref s.heap.objs.size,_,?_,rfl,q2⟩⟩
 have hz:(a5l [] kvs).length<=sizeLine:=by
  have h1:=b0e kvs []
  rw[length_nil]at h1
  rw[Y8];omega
 have he:∃q,h'.get? s.heap.objs.size=some q:=let⟨q,_,_,hq,_⟩:=dd';⟨q,hq⟩
 exact c6w I2 (by rw[e];exact True.intro) hs he (d0b hz hd (rk.merge .nil) dd')
end L2
namespace Att
open PySem PySem.W PySem.Calls PyProof.Rows
theorem b8h{P:Params}{h:Heap}:∀(ns:List Int)(vs:List Value),WellAll P h vs (ns.map WData.int)->IntsAre vs ns:=by
 intro ns
 induction ns with
 |nil=>
  intro vs w
  rw[Xs]at w
  cases w
  exact .nil
 |cons n ns ih=>
  intro vs w
  rw[Zu]at w
  cases w with
  |cons a b=>
   cases a
   exact .cons _ _ (ih _ b)
theorem d0c{l:OpenLaw}{n:Nat}(hn:l.most=some n){P:Params}{h:Heap}{args:List WData}{vals:List Value}
  (hpre:l.row.toRowW.claim.pre args=true)(hwl:WellAll P h vals args):
  ∃a vs ns,vals=[Value.ref a]/\args=[WData.list (ns.map WData.int)]/\h.get? a=some { cls:=.type "list",data:=.seq vs.toArray}/\IntsAre vs ns/\ns.length<=n:=by
 have hsh:WShape.hasAll [] args [.list .int]=true:=(pre_splitW hpre).1
 have hc:l.pre.holds [] { args:=args}=true:=(pre_splitW hpre).2
 obtain⟨d,r,rfl,h1,h2⟩:=hasAllW_cons hsh
 obtain rfl:=hasAllW_nil h2
 obtain⟨xs,rfl,h3⟩:=hasW_list h1
 obtain⟨ns,rfl⟩:=items_int h3
 have hlen:ns.length<=n:=by
  unfold OpenLaw.pre at hc
  have h4:(WTm.not (.lt (.lit (.int (n:Int))) (.len (.arg 0)))).holds [] { args:=[.list (ns.map .int)]}=true:=by
   have h4:=(holds_andW hc).1
   rw[hn]at h4
   exact h4
  have h5:=condW_of h4 (w_not (w_lt w_lit (w_len_list (w_arg rfl))))
  rw[length_map]at h5
  refine Nat.le_of_not_lt fun q=>?_
  have q':(n:Int)<((ns.length:Nat):Int):=by omega
  first
   | (rw[Zi q']at h5;exact absurd h5 (by decide))
   | (simp at h5;omega)
 cases hwl with
 |cons w1 w2=>
  cases w2
  cases w1 with
  |list ho hall=>exact⟨_,_,ns,rfl,rfl,ho,b8h ns _ hall,hlen⟩
theorem d0d(l:OpenLaw)(args:List WData):l.row.toRowW.claim.post args (.bool true) args=true:=
 postW_of (r:=l.row.toRowW) (X:=(true==true))
  (show WShape.has [] (.bool true) .bool=true by first|rfl|decide|simp[WShape.has,WShape.arms,WShape.armsAll])
  (show(WTm.eq .res (.lit (.bool true))).value [] { args:=args,res:=some (.bool true),after:=args}=some (.bool (true==true))from w_eq_bool (w_res rfl) w_lit) rfl
theorem attach_call{l:OpenLaw}{n:Nat}{q:Program}{loose:List Str}{XP:(Str->Option Value)->Heap->Prop}{YP:World->Heap->Prop}{d:DefRec}
  (hn:l.most=some n)(hdf:d.params.defaults=[])
  (call:∀(w:World)(s₀ s₁:Shared)(mg mb:Str->Option Value)(fa:Addr)(o:Obj)(pm cd doc:Value)(a:Addr)(vs:List Value)(ns:List Int),
   Ground q loose [] XP w s₀ mg mb s₁.heap->YP w s₁.heap->
   s₁.heap.get? fa=some o->o.data=.func (docDef d.name d.params d.body d.scope pm cd doc)->s₁.heap.CodeRec cd d.name->mg d.name=some (.ref fa)->
   s₁.heap.get? a=some { cls:=.type "list",data:=.seq vs.toArray}->IntsAre vs ns->ns.length<=n->s₁.gens= #[]->
   codeAny (model l.prog w) callerA (.call (.ref fa) ⟨[.ref a],[]⟩) (fun r s'=>r=.ok (.ret (.bool true))/\OldK s₁.heap s'.heap/\s'.os=s₁.os/\AllBare s'.gens) s₁):
  WalkO q loose XP YP l.row.toRowW d [] (fun f vs=>PySem.call f vs):=by
 intro w s₀ s₁ mg mb G Y fa o pm cd doc dV kV ho hd hcd hD hmg hg args vals as hpre hlay hrd hwl hlo
 obtain rfl:dV=.none:=Dflts.none hD hdf
 obtain rfl:kV=.none:=Dflts.noKw hD
 obtain⟨a,vs,ns,rfl,rfl,hobj,hints,hlen⟩:=d0c hn hpre hwl
 refine enter_call (Wn (call w s₀ s₁ mg mb fa o pm cd doc a vs ns G Y ho (fd_plain hd) hcd hmg hobj hints hlen hg) fun r s' hq=>?_)
 obtain⟨rfl,h2,h3,h4⟩:=hq
 exact⟨.inl ⟨.bool true,.bool true,[],rfl,fun _=>rfl,.bool true,d0d l _,fun _=>⟨List.Pairwise.nil,fun _ hm=>(nomatch hm)⟩⟩,h2,h3,h4⟩
end Att
namespace L2
open PySem PySem.Spec PyProof.Rows
theorem c1f:∀{vs:List Value}{ns:List Int},IntsAre vs ns->Vals (ns.map V.int) vs
 |_,_,.nil=>.nil
 |_,_,.cons n t h=>.cons ⟨t,rfl⟩ (c1f h)
def Only(H:Hp):Prop:=∀b,H b=none\/∃o xs,H b=some (.frz o (.lst xs))
theorem d3b{P:Program}{w:World}{K:W.Frag}{mg mb:Str->Option Value}{CX:CXT}{k:Nat}{fa a:Addr}{fd:FuncData}{x:Str}{sp:Sp}{s₁:Shared}{vs:List Value}{ns:List Int}
  (KX:K.In s₁.heap)(hns:s₁.heap.Ns mainGlobals mg)(hb:s₁.heap.Ns builtinsNs mb)(hbb:∀x:Str,x≠"__name__"->mb x=bootBuiltins x)(hlim:s₁.heap.NoLimit)(hg:s₁.gens= #[])
  (ha:s₁.heap.get? a=some { cls:=.type "list",data:=.seq vs.toArray})(hi:IntsAre vs ns)(hl:ns.length<=sizeLine)(hr:Room k callerA)
  (F:∀base:Heap,K.In base->base.Ns mainGlobals mg->FnOk P w K mg base CX k fa fd [x] sp)(hbind:∀(s:Shared)(u:Value),BindsTo s fd ⟨[u],[]⟩ [(x,u)])
  (hsp:∀H:Hp,Only H->SqL K H a (ns.map V.int)->sp [.ref a] H (fun v _=>v=.bl true) fun _ _ _=>False)
  (hCX:∀H e s',CX [] H s₁ (fun _ _ _=>False) e s'->False):
  codeAny (model P w) callerA (.call (.ref fa) ⟨[.ref a],[]⟩) (fun r s'=>r=.ok (.ret (.bool true))/\OldK s₁.heap s'.heap/\s'.os=s₁.os/\AllBare s'.gens) s₁:=by
 have rv:=c1f hi
 have lenV:=hi.length
 have core:∀H:Hp,Only H->SqL K H a (ns.map V.int)->HOk P w H s₁.heap->(∀b,H b≠none->b=a)->(H a≠none->K.lookup a=none)->
   codeAny (model P w) callerA (.call (.ref fa) ⟨[.ref a],[]⟩) (fun r s'=>r=.ok (.ret (.bool true))/\OldK s₁.heap s'.heap/\s'.os=s₁.os/\AllBare s'.gens) s₁:=by
  intro H hO hS hok hA hK
  have base_of:∀{b:Addr}{o:Obj},s₁.heap.get? b=some o->H b=none->(hidT s₁.heap H).get? b=some o:=fun e n=>d2p e n
  have noA:∀{b:Addr}{o:Obj}{es:Array DictEntry}{ep:Nat},s₁.heap.get? b=some o->o.data=.dict es ep->H b=none:=fun{b o es ep} e d=>by
   cases q:H b with
   |none=>rfl
   |some u=>
    have e':b=a:=hA b (by rw[q];simp)
    subst e'
    rw[ha]at e;cases e
    have d':Data.seq vs.toArray _=Data.dict es ep:=d
    cases d'
  have nsK:∀{b:Addr}{m:Str->Option Value},s₁.heap.Ns b m->(hidT s₁.heap H).Ns b m:=fun{b m} ⟨o,es,ep,e,d,r⟩=>⟨o,es,ep,base_of e (noA e d),d,r⟩
  have hKb:K.In (hidT s₁.heap H):=fun b o e=>base_of (KX b o e) (by
   cases q:H b with
   |none=>rfl
   |some u=>
    have e':b=a:=hA b (by rw[q];simp)
    subst e'
    rw[hK (by rw[q];simp)]at e;cases e)
  have hM:Mod K mg (hidT s₁.heap H):=⟨hKb,nsK hns,⟨mb,nsK hb,hbb⟩,let⟨mc,h1,h2⟩:=hlim;⟨mc,nsK h1,h2⟩⟩
  have e0:Env0 P w K mg (hidT s₁.heap H) callerA [] s₁ H:=⟨rfl,hM,fun b o e=>of_hidT e,Nat.le_of_eq (c9o _ _),trivial,fun b hb=>absurd (show b∈([]:List Addr)from hb) (by simp),hok,.of_eq hg⟩
  refine Wn ((F _ hKb (nsK hns)).run callerA [] s₁ H ⟨[.ref a],[]⟩ [.ref a] [.ref a] _ _ hr e0 (hbind s₁ (.ref a)) (.cons rfl .nil) (hsp H hO hS)) fun r s' h=>?_
  cases r with
  |error e=>exact(hCX H e s' h).elim
  |ok fl=>
   cases fl with
   |next=>exact False.elim h
   |brk=>exact False.elim h
   |cont=>exact False.elim h
   |ret u=>
    obtain⟨v,H',os,bare,un,hok',r',q⟩:=h
    have q':v=.bl true:=q
    subst q'
    obtain rfl:u=Value.bool true:=r'
    refine⟨rfl,OldK.of_keep fun b o e=>?_,os,bare⟩
    cases q:H b with
    |none=>exact un.keep b o e q (by intro z;exact absurd (show b∈([]:List Addr)from z) (by simp)) (by simp)
    |some u=>
     rcases hO b with z|⟨ob,xs,z⟩
     ·rw[q]at z;cases z
     ·have z2:=un.frzs b ob _ z
      obtain⟨e1,_⟩:=hok b _ z
      obtain⟨e2,_⟩:=hok' b _ z2
      rw[e]at e1;cases e1
      exact e2
 cases hk:K.lookup a with
 |some o=>
  have e:=KX a o hk
  rw[ha]at e
  cases e
  refine core (fun _=>none) (fun _=>.inl rfl) (.inr ⟨_,vs.toArray,_,hk,rfl,rfl,rfl,by rw[Zf,lenV];exact hl,by simpa using rv⟩) (fun b u z=>by have z':(none:Option HO)=some u:=z;cases z') (fun b z=>absurd rfl z) fun z=>absurd rfl z
 |none=>
  refine core (fun b=>if b=a then some (.frz { cls:=.type "list",data:=.seq vs.toArray} (.lst (ns.map V.int)))else none) (fun b=>?_) (.inl (.inr ⟨{ cls:=.type "list",data:=.seq vs.toArray},if_pos rfl⟩)) (fun b u z=>?_) (fun b z=>?_) fun _=>hk
  ·by_cases hb:b=a
   ·exact .inr ⟨_,_,if_pos hb⟩
   ·exact .inl (if_neg hb)
  ·by_cases hb:b=a
   ·have z':=(if_pos hb).symm.trans z
    cases z'
    subst hb
    exact⟨ha,by rw[length_map];exact hl,vs,_,rv,ha⟩
   ·have z':=(if_neg hb).symm.trans z
    cases z'
  ·by_cases hb:b=a
   ·exact hb
   ·exact absurd (if_neg hb) z
abbrev KOf{K:W.Frag}{h:Heap}(_:K.In h):W.Frag:=K
theorem walk_of{l:W.OpenLaw}{n k:Nat}{q:Program}{loose:List Str}{XP:(Str->Option Value)->Heap->Prop}{YP:World->Heap->Prop}{d:DefRec}{K:Params->W.Frag}{CX:World->CXT}{sp:World->Sp}{x:Str}
  (hn:l.most=some n)(hn2:n<=sizeLine)(hdf:d.params.defaults=[])(hr:Room k callerA)
  (hY:∀(w:World)(h:Heap),YP w h->(K w.params).In h)
  (F:∀(w:World)(mg:Str->Option Value)(fa:Addr)(h:Heap),(K w.params).In h->h.Ns mainGlobals mg->mg d.name=some (.ref fa)->
   ∃fd:FuncData,(∀(s:Shared)(u:Value),BindsTo s fd ⟨[u],[]⟩ [(x,u)])/\
    ∀base:Heap,(K w.params).In base->base.Ns mainGlobals mg->FnOk l.prog w (K w.params) mg base (CX w) k fa fd [x] (sp w))
  (hsp:∀(w:World)(H:Hp)(a:Addr)(ns:List Int),ns.length<=n->Only H->SqL (K w.params) H a (ns.map V.int)->sp w [.ref a] H (fun v _=>v=.bl true) fun _ _ _=>False)
  (hCX:∀(w:World)(H:Hp)(s:Shared)(e:Value)(s':Shared),CX w [] H s (fun _ _ _=>False) e s'->False):
  W.WalkO q loose XP YP l.row.toRowW d [] (fun f vs=>PySem.call f vs):=by
 refine Att.attach_call hn hdf fun w s₀ s₁ mg mb fa o pm cd doc a vs ns G Y ho hd hcd hmg hobj hints hlen hg=>?_
 have KX:=hY w _ Y
 obtain⟨fd,hb,hF⟩:=F w mg fa _ KX G.T.g hmg
 exact d3b KX G.T.g G.T.b G.T.builtins G.T.nolimit hg hobj hints (Zz hlen hn2) hr hF hb (fun H hO hS=>hsp w H a ns hlen hO hS) fun H e s'=>hCX w H s₁ e s'
noncomputable def inClass(s:Stmt)(j:Nat):Stmt:=match s with
 | .ClassDef _ _ _ body _ _ _ _ _ _ _=>body.getD j (.Pass ⟨0,0,0,0⟩)
 |_=>.Pass ⟨0,0,0,0⟩
def a7w(s:Stmt):Arguments:=match s with
 | .FunctionDef _ a _ _ _ _ _ _ _ _=>a
 |_=>{ posonlyargs:=[],args:=[],vararg:=none,kwonlyargs:=[],kw_defaults:=[],kwarg:=none,defaults:=[]}
def a4u(s:Stmt):List Stmt:=match s with
 | .FunctionDef _ _ b _ _ _ _ _ _ _=>b
 |_=>[]
def a0i(s:Stmt):Scope:=match s with
 | .FunctionDef _ _ _ _ _ _ sc _ _ _=>sc
 |_=>{ kind:=.function,names:=[],isGenerator:=false,isCoroutine:=false}
abbrev CX0:CXT:=fun _ _ _ _ _ _=>False
abbrev E0:XK:=fun _ _ _=>False
theorem a0r{X:Cx}:a7i CX0 X E0:=fun _ _ _ _ _ _ _ h=>h.elim
structure Fun(K:W.Frag)(x qual:Str)(st:Stmt)(f:Addr)(fd:FuncData):Prop where
 ex:∃(oc:Value)(od:Option Addr)(kV doc pm:Value)(an:Option Addr)(cdv ct:Value)(osl:Array (Option Value)),
  fd=W.fnOf x qual (a7w st) (a4u st) (a0i st) .none kV doc pm an cdv ct/\K.lookup f=some ⟨oc,od,.func fd,osl⟩/\W.codeIn K cdv qual=true
 kp:W.keepIn K (.ref f)=true
section
variable{P:Program}{w:World}{K:W.Frag}{mg:Str->Option Value}{base:Heap}
theorem Fun.ok{x qual:Str}{st:Stmt}{f:Addr}{fd:FuncData}{N ps:List Str}{k:Nat}{sp:Sp}(F:Fun K x qual st f fd)(S:a0q N ps (a0i st))(len:∀vs H Q E,sp vs H Q E->vs.length=ps.length)
  (hbody:∀(cdv:Value)(A:Around)(outer:List Env)(s:Shared)(H:Hp)(vs:List V)(Q:VK)(E:XK),Room k (A.deeper (envOfC qual (a0i st) s.heap.objs.size f cdv))->sp vs H Q E->
   ∃t,PSs (cxOf CX0 P w K mg base N qual (a0i st) f cdv A outer s H E).nox (a4u st) t/\t { nx:=fun _ H'=>Q .non H',rt:=Q} (start N vs) H):FnOk P w K mg base CX0 (k+1) f fd ps sp:=by
 obtain⟨oc,od,kV,doc,pm,an,cdv,ct,osl,rfl,lk,hcd⟩:=F.ex
 refine fn_of lk hcd S len fun A outer s H vs Q E hr hsp=>?_
 obtain⟨t,h,q⟩:=hbody cdv A outer s H vs Q E hr hsp
 exact⟨t,h.nox,q⟩
theorem fun_mk{x qual:Str}{st:Stmt}{f:Addr}{oc:Value}{od an:Option Addr}{osl:Array (Option Value)}{kV doc pm cdv ct:Value}(l:K.lookup f=some ⟨oc,od,.func (W.fnOf x qual (a7w st) (a4u st) (a0i st) .none kV doc pm an cdv ct),osl⟩)
  (c:W.codeIn K cdv qual=true)(k:W.keepIn K (.ref f)=true):Fun K x qual st f (W.fnOf x qual (a7w st) (a4u st) (a0i st) .none kV doc pm an cdv ct):=⟨⟨oc,od,kV,doc,pm,an,cdv,ct,osl,rfl,l,c⟩,k⟩
end
theorem hu_of{A:Around}{k:Nat}(hr:Room k A):A.units+1<cLine:=Nat.lt_of_le_of_lt (Nat.add_le_add_left (by decide:1<=64) _) hr.units
theorem iteF{A B:Prop}(h:B):if false=true then A else B:=by
 rw[if_neg Zp]
 exact h
theorem iteT{A B:Prop}(h:A):if true=true then A else B:=by
 rw[if_pos rfl]
 exact h
def Same(H H':Hp):Prop:=∀b o,H b=some o->H' b=some o
theorem Same.refl(H:Hp):Same H H:=fun _ _ h=>h
theorem Same.trans{H H1 H2:Hp}(a:Same H H1)(b:Same H1 H2):Same H H2:=fun c o h=>b c o (a c o h)
theorem Same.free{H H':Hp}(e:Same H H'){l:Addr}(h:H' l=Option.none):H l=Option.none:=by
 cases q:H l with
 |none=>rfl
 |some o=>
  rw[e l o q]at h
  cases h
theorem Same.seq{K:W.Frag}{H H':Hp}{a:Addr}{xs:List V}(e:Same H H')(h:SqL K H a xs):SqL K H' a xs:=by
 rcases h with(h|⟨o,h⟩)|h
 ·exact .inl (.inl (e _ _ h))
 ·exact .inl (.inr ⟨o,e _ _ h⟩)
 ·exact .inr h
end L2
set_option maxHeartbeats 4000000
namespace My
open PySem PySem.W PySem.Calls PyProof.Rows
theorem b8i{tb:String->Option Builtin}{p:Program}{w:World}{n₀:Nat}{ann:Option Value}:∀{n:Nat}{s s':Shared}{t:Thread}{f:Flow}{c:Code}{q:Pos},segRun tb p w n₀ ann 0 n s t=some (f,s',c,q)->topRun tb p w n₀ ann n s t=some s'
 |0,_,_,_,_,_,_,h=>by cases h
 |n+1,s,s',t,f,c,q,h=>by
  unfold segRun at h
  unfold topRun
  cases he:endAt 0 t with
  |some x=>
   rw[he]at h
   cases h
   have:through t=true:=by
    unfold endAt at he
    unfold through
    obtain⟨cur,code,pos,st⟩:=t
    cases st with
    |nil=>split at he<;>simp_all
    |cons a b=>simp at he
   rw[this]
  |none=>
   have:through t=false:=by
    unfold endAt at he
    unfold through
    obtain⟨cur,code,pos,st⟩:=t
    cases st with
    |nil=>
     dsimp only at he ⊢
     split at he
     ·cases he
     ·rename_i h1
      simp only[List.isEmpty_nil,Y9]
      split
      ·exact(h1 _ rfl rfl).elim
      ·rfl
    |cons a b=>rfl
   rw[he]at h
   rw[this]
   cases hk:stepOk n₀ ann t with
   |false=>rw[hk]at h;cases h
   |true=>
    rw[hk]at h
    cases hs:step (denote tb) p w s t with
    |halt o x=>rw[hs]at h;cases h
    |go s₂ t₂=>rw[hs]at h;exact b8i h
noncomputable def bootT(P:Params):BT:=.node (boot_o_0 P) (.node (boot_o_1 P) (.node (boot_o_3 P) (.node (boot_o_7 P) .nil .nil) .nil) (.node (boot_o_5 P) (.node (boot_o_9 P) .nil .nil) .nil)) (.node (boot_o_2 P) (.node (boot_o_4 P) (.node (boot_o_8 P) .nil .nil) .nil) (.node (boot_o_6 P) (.node (boot_o_10 P) .nil .nil) .nil))
theorem boot_abs(P:Params):absHeap (bootT P) 11 {}=boot_heap P:=by kernel_rfl
noncomputable def bootS(w:World)(os:OsState):SharedT:=⟨bootT w.params,11,{},#[],boot_drawn,boot_toks,os⟩
noncomputable def looks{α:Type}(p q:Program)(loose:List Str)(Xt:Shared->Bool)(Yf:Shared->α)(g0:Bool)(h₀:Heap)(s:Shared):=
 ((staticsOk (importedModules p.main.body) h₀ s.heap&&namesBound p s.heap&&gensDone s&&laidKept h₀ s.heap),openSeen q loose (importedModules p.main.body) Xt g0 s,Yf s)
theorem left_of{p q:Program}{loose:List Str}{Xt:Shared->Bool}{α:Type}{Yf:Shared->α}{Ya:World->α}{N M:Nat}{g0:Bool}
  (e:opening p=plainProg p.main.scope.names)(hN:Nat.ble 600 N=true)(f:∀s,fenceModules? p s=some s)
  (size:∀w:World,((boot_heap w.params).isNs mainGlobals,(boot_heap w.params).nsMap mainGlobals "__annotations__")=(true,some (.ref 6)))
  (le:Nat.ble M N=true)
  (run:∀w:World,(fun os=>(segRunT treeTable p w 11 (some (.ref 6)) 0 M (bootS w os) (topStub p)).map fun r=>looks p q loose Xt Yf g0 (boot_heap w.params) r.2.1.abs)=fun _=>some (true,openGood q loose,Ya w)):
  LeftO p q loose Xt Yf Ya N g0:=fun w=>by
 obtain⟨⟨h,gs,d,k,os⟩,e1,e2⟩:=Vh.mp (boot_open e hN f w)
 obtain⟨rfl,rfl,rfl,rfl⟩:h=boot_heap w.params/\gs= #[]/\d=boot_drawn/\k=boot_toks:=by simpa using e2
 obtain⟨z1,z3⟩:_/\_:=by simpa only[Prod.mk.injEq]using size w
 obtain⟨⟨fl,s,c,ps⟩,r1,r2⟩:=Vh.mp (congrFun (run w) os)
 obtain⟨l1,l2,l3⟩:_/\_/\_:=by simpa only[looks,Prod.mk.injEq]using r2
 have r:=topRun_mono (N-M) _ _ _ _ (b8i (segRun_of r1))
 rw[show M+(N-M)=N by have:=Nat.le_of_ble_eq_true le;omega]at r
 have t:topFrom treeTable p w N ⟨boot_heap w.params,#[],boot_drawn,boot_toks,os⟩=some s.abs:=by
  unfold topFrom
  dsimp only
  rw[z1]
  show(topRun treeTable p w 11 _ N ⟨boot_heap w.params,#[],boot_drawn,boot_toks,os⟩ (topStub p)).bind _=_
  rw[z3]
  have r':topRun treeTable p w 11 (some (.ref 6)) N ⟨boot_heap w.params,#[],boot_drawn,boot_toks,os⟩ (topStub p)=some s.abs:=by
   rw[<-boot_abs];exact r
  rw[r']
  show(match staticsOk (importedModules p.main.body) (boot_heap w.params) s.abs.heap&&namesBound p s.abs.heap&&gensDone s.abs&&laidKept (boot_heap w.params) s.abs.heap with|true=>some s.abs|false=>none)=some s.abs
  rw[l1]
 unfold openEnds
 rw[e1]
 show((topFrom treeTable p w N ⟨boot_heap w.params,#[],boot_drawn,boot_toks,os⟩).map _)=_
 rw[t]
 exact Ys some (by dsimp only;rw[l2,l3])
theorem d0e(w:World):((boot_heap w.params).isNs mainGlobals,(boot_heap w.params).nsMap mainGlobals "__annotations__")=(true,some (.ref 6)):=by kernel_rfl
end My
lay_quick PySem.W.topStub PySem.W.openGood PySem.W.SharedT.abs PySem.W.xlAt PySem.W.recOk PySem.W.view My.looks
namespace L2
open PySem PySem.Spec PyProof.Rows
def clOf(env:Env):List (Str×NameKind)->List (Str×Addr)->List (Str×Addr)
 | [],acc=>acc
 | (n,k)::r,acc=>if k=.free then clOf env r ((n,(env.cells.lookup n).getD 0)::acc)else clOf env r acc
theorem b7a{env:Env}(f:(Str×NameKind)->List (Str×Addr)->Sem (ForInStep (List (Str×Addr))))
  (h1:∀n r c,env.cells.lookup n=some c->f (n,.free) r=pure (.yield ((n,c)::r)))(h2:∀n k r,k≠.free->f (n,k) r=pure (.yield r)):
  ∀(l:List (Str×NameKind))(acc:List (Str×Addr)),(∀y∈l,y.2=.free->∃c,env.cells.lookup y.1=some c)->forIn l acc f=pure (clOf env l acc)
 | [],acc,_=>by rw[List.forIn_nil];rfl
 | (n,k)::r,acc,h=>by
  have hr:∀y∈r,y.2=.free->∃c,env.cells.lookup y.1=some c:=fun y hy=>h y (Zc _ hy)
  rw[List.forIn_cons]
  by_cases hk:k=.free
  ·subst hk
   obtain⟨c,hc⟩:=h _ Ze rfl
   have hc:env.cells.lookup n=some c:=hc
   rw[h1 n acc c hc]
   have ih:=b7a f h1 h2 r ((n,c)::acc) hr
   show(forIn r ((n,c)::acc) f)=_
   rw[ih]
   unfold clOf
   rw[if_pos rfl,hc]
   rw[<-clOf.eq_def]
   rfl
  ·rw[h2 n k acc hk]
   have ih:=b7a f h1 h2 r acc hr
   show(forIn r acc f)=_
   rw[ih]
   conv=>rhs;unfold clOf
   rw[if_neg hk]
theorem b8j{scope:Scope}{env:Env}(h:∀y∈scope.names,y.2=.free->∃c,env.cells.lookup y.1=some c):closureFor scope env=pure (clOf env scope.names []):=by
 unfold closureFor
 have e:=b7a (env:=env) (fun x r=>if x.2==NameKind.free then do let c <-cellOf env x.1;pure (ForInStep.yield ((x.1,c)::r))else pure (ForInStep.yield r))
  (fun n r c hc=>by
   have e:cellOf env n=pure c:=by unfold cellOf;rw[hc]
   show(if(NameKind.free==NameKind.free)=true then _ else _)=_
   rw[if_pos (by decide),e]
   rfl)
  (fun n k r hk=>by
   show(if(k==NameKind.free)=true then _ else _)=_
   rw[if_neg (by intro z;exact hk (eq_of_beq z))]) scope.names [] h
 exact(Ys (fun m=>m>>=fun cs=>(pure cs:Sem (List (Str×Addr)))) e)
theorem b7b{env:Env}:∀(l:List (Str×NameKind))(acc:List (Str×Addr))(y:Str)(c:Addr),(∀y∈l,y.2=.free->∃c,env.cells.lookup y.1=some c)->(∀y c,acc.lookup y=some c->env.cells.lookup y=some c)->
  (clOf env l acc).lookup y=some c->env.cells.lookup y=some c
 | [],acc,y,c,_,ha,e=>ha y c e
 | (n,k)::r,acc,y,c,h,ha,e=>by
  have hr:∀y∈r,y.2=.free->∃c,env.cells.lookup y.1=some c:=fun y hy=>h y (Zc _ hy)
  unfold clOf at e
  by_cases hk:k=.free
  ·rw[if_pos hk]at e
   refine b7b r _ y c hr (fun z d q=>?_) e
   rw[Wh]at q
   cases hz:z==n with
   |true=>
    rw[hz]at q
    have q':(env.cells.lookup n).getD 0=d:=Zq q
    obtain⟨c',hc'⟩:=h _ Ze hk
    have hc':env.cells.lookup n=some c':=hc'
    rw[hc']at q'
    have q':c'=d:=q'
    rw[eq_of_beq hz,hc',q']
   |false=>
    rw[hz]at q
    exact ha z d q
  ·rw[if_neg hk]at e
   exact b7b r acc y c hr ha e
theorem b7c{env:Env}:∀(l:List (Str×NameKind))(acc:List (Str×Addr))(y:Str),(∃c,acc.lookup y=some c)->∃c,(clOf env l acc).lookup y=some c
 | [],_,_,h=>h
 | (n,k)::r,acc,y,h=>by
  unfold clOf
  by_cases hk:k=.free
  ·rw[if_pos hk]
   refine b7c r _ y ?_
   rw[Wh]
   cases hz:y==n with
   |true=>exact⟨_,rfl⟩
   |false=>exact h
  ·rw[if_neg hk]
   exact b7c r acc y h
theorem b4a{env:Env}:∀(l:List (Str×NameKind))(acc:List (Str×Addr))(y:Str),(y,NameKind.free)∈l->∃c,(clOf env l acc).lookup y=some c
 | [],_,_,h=>by simp at h
 | (n,k)::r,acc,y,h=>by
  unfold clOf
  by_cases hk:k=.free
  ·rw[if_pos hk]
   rcases Zj.mp h with e|e
   ·refine b7c r _ y ?_
    have e1:y=n:=Ys Prod.fst e
    rw[Wh,e1]
    simp
   ·exact b4a r _ y e
  ·rw[if_neg hk]
   rcases Zj.mp h with e|e
   ·exact absurd (Ys Prod.snd e).symm hk
   ·exact b4a r acc y e
theorem a8z(scope:Scope)(env:Env)(y:Str):(relabel scope env).names.lookup y=(scope.names.lookup y).map fun k=>if(k==NameKind.free&&env.scope.kind==.function&&env.kindOf y==some .cell)=true then .cell else k:=by
 show(scope.names.map _).lookup y=_
 induction scope.names with
 |nil=>rfl
 |cons p r ih=>
  obtain⟨n,k⟩:=p
  rw[Zu,Wh (a:=y) (k:=n) (b:=k)]
  cases hz:y==n with
  |true=>
   have e:y=n:=eq_of_beq hz
   subst e
   show List.lookup y ((if(k==NameKind.free&&env.scope.kind==.function&&env.kindOf y==some .cell)=true then(y,NameKind.cell)else(y,k))::_)=some (if _ then _ else _)
   by_cases hc:(k==NameKind.free&&env.scope.kind==.function&&env.kindOf y==some .cell)=true
   ·rw[if_pos hc,if_pos hc];simp
   ·rw[if_neg hc,if_neg hc];simp
  |false=>
   show List.lookup y ((if(k==NameKind.free&&env.scope.kind==.function&&env.kindOf n==some .cell)=true then(n,NameKind.cell)else(n,k))::_)=_
   by_cases hc:(k==NameKind.free&&env.scope.kind==.function&&env.kindOf n==some .cell)=true
   ·rw[if_pos hc,Wh,hz];exact ih
   ·rw[if_neg hc,Wh,hz];exact ih
def a3c(X:Cx)(scope:Scope)(x:Str)(N':List Str)(C:Addr)(s:Shared)(H:Hp)(fp:List Addr)(pn:List (Addr×Obj)):Cx where
 prog:=X.prog
 w:=X.w
 K:=X.K
 mg:=X.mg
 base:=X.base
 A:=X.A
 N:=x::N'
 s₀:=s
 H₀:=H
 env:=compEnvC scope (clOf X.env scope.names []) C X.env
 outer:=X.stack
 stack:=X.stack
 ex:=fp
 fn:=fun _=>false
 calm:=X.calm
 pn:=pn
 xe:=fun _ _=>False
section
variable{X:Cx}{pins:List (Addr×Obj)}{σ:St}{H:Hp}{s:Shared}
structure b3e(X:Cx)(scope:Scope)(x:Str)(N':List Str):Prop where
 loc:scope.names.lookup x=some .local
 nocell:∀y∈scope.names,y.2≠.cell
 kind:scope.kind=.function
 names:∀y∈scope.names,y.2=.local->scope.names.lookup y.1=some .local
 free:∀y∈scope.names,y.2=.free->X.env.kindOf y.1=some .cell\/X.env.kindOf y.1=some .free
 nin:x∉N'
 nd:N'.Nodup
 len:N'.length=X.N.length
 sub:∀(i:Nat)(y:Str),N'[i]? =some y->X.N[i]? =some y\/scope.names.lookup y=none
 only:∀y∈scope.names,y.2=.local->y.1=x\/y.1∉N'
theorem Inv.compIn{scope:Scope}{x:Str}{N':List Str}{fp:List Addr}{h1:Heap}{tk:Nat}{m:Str->Option Value}(S:b3e X scope x N')(I:Inv X pins σ H s)(hf:∀b∈fp,FpOk X pins H b)(hfl:∀b∈fp,b<s.heap.objs.size)
  (hn:h1.Ns s.heap.objs.size m)(hsb:∀b o,s.heap.get? b=some o->h1.get? b=some o):
  Inv (a3c X scope x N' s.heap.objs.size s H fp (X.pn++pins)) [] (none::σ) H { s with heap:=h1,toks:=tk}:=by
 have hcells:∀y∈scope.names,y.2=.free->∃c,X.env.cells.lookup y.1=some c:=fun y hy hk=>I.ok.has y.1 (S.free y hy hk)
 have sub:∀y c,(clOf X.env scope.names []).lookup y=some c->X.env.cells.lookup y=some c:=fun y c e=>b7b _ _ y c hcells (fun z d q=>by simp at q) e
 have lk:∀(y:Str)(k:NameKind),(relabel scope X.env).names.lookup y=some k->k=.cell\/k=.free->scope.names.lookup y=some .free:=fun y k e hk=>by
  rw[a8z]at e
  cases q:scope.names.lookup y with
  |none=>rw[q]at e;cases e
  |some k0=>
   rw[q]at e
   have e':(if(k0==NameKind.free&&X.env.scope.kind==.function&&X.env.kindOf y==some .cell)=true then NameKind.cell else k0)=k:=Zq e
   by_cases hc:(k0==NameKind.free&&X.env.scope.kind==.function&&X.env.kindOf y==some .cell)=true
   ·simp only[Xf]at hc
    rw[eq_of_beq hc.1.1]
   ·rw[if_neg hc]at e'
    subst e'
    rcases hk with hk|hk
    ·exact absurd hk (S.nocell _ (Yp q))
    ·rw[hk]
 have lt:∀{b:Addr}{o:Obj},s.heap.get? b=some o->b≠s.heap.objs.size:=fun e=>Yc (Zs e)
 refine⟨⟨I.ok.mod,by show(relabel scope X.env).kind=_;exact S.kind,I.ok.glob,I.ok.blt,Zl _,fun y z c e1 e2=>I.ok.inj y z c (sub y c e1) (sub z c e2),fun y hy=>?_,fun y c hz=>(by cases hz),I.ok.hd,I.ok.frames,.inl rfl,
  fun b hb=>⟨Yc (hfl b hb),fun y c e=>(hf b hb).2.2.2.2.1 y c (sub y c e)⟩,I.bs,Zz I.ok.bsz I.sz,fun b o e hb=>?_,fun b hb hz=>?_,I.stack,I.stkFree⟩,
  rfl,I.bare,Un.kept hsb,⟨m,hn,fun i y v h1 h2 h3=>?_⟩,fun y c e=>?_,I.hok.fresh (Zl _),fun y c e=>I.freeC y c (sub y c e),fun p hp=>?_,I.hok.kept hsb,?_⟩
 ·have hy:(relabel scope X.env).names.lookup y=some .cell\/(relabel scope X.env).names.lookup y=some .free:=hy
  have q:scope.names.lookup y=some .free:=hy.elim (fun z=>lk y _ z (.inl rfl)) fun z=>lk y _ z (.inr rfl)
  exact b4a _ _ y (Yp q)
 ·obtain⟨_,_,_,f3,_,_⟩:=hf b hb
  rcases f3 with f3|f3
  ·exact I.ok.noex b o e f3
  ·exact absurd (Zx (Zs e) (Zz I.ok.bsz f3)) (Wj _)
 ·have hz:b∈frs X.stack:=hz
  obtain⟨_,f1,f2,_⟩:=hf b hb
  rcases Zj.mp (I.stkSub b hz)with z|z
  ·exact f1 z
  ·exact f2 z
 ·cases i with
  |zero=>simp at h2
  |succ i=>
   have h1:N'[i]? =some y:=by simpa[a3c]using h1
   have h2:σ[i]? =some (some v):=by simpa using h2
   have hne:N'[i]? ≠some x:=fun z=>S.nin (We z)
   have h3:Vis (relabel scope X.env) y:=h3
   obtain⟨m',hn',hl'⟩:=I.loc
   have q:scope.names.lookup y=some .free:=by
    rcases h3 with z|z|z
    ·exfalso
     rw[a8z]at z
     cases q:scope.names.lookup y with
     |none=>rw[q]at z;cases z
     |some k0=>
      rw[q]at z
      have e':(if(k0==NameKind.free&&X.env.scope.kind==.function&&X.env.kindOf y==some .cell)=true then NameKind.cell else k0)=.local:=Zq z
      by_cases hc:(k0==NameKind.free&&X.env.scope.kind==.function&&X.env.kindOf y==some .cell)=true
      ·rw[if_pos hc]at e';cases e'
      ·rw[if_neg hc]at e'
       subst e'
       rcases S.only _ (Yp q) rfl with w|w
       ·exact hne (by rw[h1];exact Ys some w)
       ·exact w (We h1)
    ·exact lk y _ z (.inl rfl)
    ·exact lk y _ z (.inr rfl)
   obtain⟨c,hc⟩:=b4a (env:=X.env) scope.names [] y (Yp q)
   have hk:X.env.kindOf y=some .cell\/X.env.kindOf y=some .free:=S.free _ (Yp q) rfl
   have h1':X.N[i]? =some y:=(S.sub i y h1).resolve_right fun z=>by rw[q]at z;cases z
   obtain⟨u,r,l⟩:=hl' i y v h1' h2 (.inr hk)
   refine⟨u,r,?_⟩
   have kd:(compEnvC scope (clOf X.env scope.names []) s.heap.objs.size X.env).kindOf y=some .cell\/(compEnvC scope (clOf X.env scope.names []) s.heap.objs.size X.env).kindOf y=some .free:=by
    rcases h3 with z|z|z
    ·exfalso
     rw[a8z,q]at z
     have e':(if(NameKind.free==NameKind.free&&X.env.scope.kind==.function&&X.env.kindOf y==some .cell)=true then NameKind.cell else NameKind.free)=.local:=Zq z
     by_cases hc:(NameKind.free==NameKind.free&&X.env.scope.kind==.function&&X.env.kindOf y==some .cell)=true
     ·rw[if_pos hc]at e';cases e'
     ·rw[if_neg hc]at e';cases e'
    ·exact .inl z
    ·exact .inr z
   rcases l with⟨a,_⟩|⟨_,c',hc',ic⟩
   ·rcases hk with k|k<;>(rw[k]at a;cases a)
   ·have e:X.env.cells.lookup y=some c:=sub y c hc
    rw[e]at hc'
    cases hc'
    obtain⟨o,ho,hd⟩:=ic
    exact .inr ⟨kd,c,hc,⟨o,hsb _ _ ho,hd⟩⟩
 ·obtain⟨v,o,ho,hd⟩:=I.cell y c (sub y c e)
  exact⟨v,o,hsb _ _ ho,hd⟩
 ·have hp:p∈X.pn++pins:=by
   have hp:p∈(X.pn++pins)++[]:=hp
   rwa[Yr]at hp
  obtain⟨e,n,ne,nf,d⟩:=I.pin p hp
  refine⟨hsb _ _ e,n,lt e,fun hz=>?_,d⟩
  have hz:p.1∈frs X.stack:=hz
  rcases Zj.mp (I.stkSub _ hz)with z|z
  ·exact ne z
  ·exact nf z
 ·show(none::σ).length=(x::N').length
  rw[length_cons,length_cons,I.len,S.len]
def PTs(X:Cx)(ifs:List Expr)(t:TT):Prop:=
 ∀(pins:List (Addr×Obj))(s:Shared)(σ:St)(H:Hp)(Q:Bool->Hp->Prop)(E:Value->Shared->Prop),Inv X pins σ H s->t σ H Q->
  wpAny (model X.prog X.w) X.A (forIn ifs true fun c r=>if r=true then do let ok <-isTrue c X.env (eval c X.env);pure (ForInStep.yield ok)else pure (ForInStep.yield r)) (TP X pins σ Q) E s
def tYes:TT:=fun _ H Q=>Q true H
theorem a9a:PTs X [] tYes:=fun _ _ _ H _ _ I h=>wpAny_tests_nil ⟨H,I,h⟩
theorem d0f{prog:Program}{w:World}{A:Around}{R:Result->Shared->Prop}{s:Shared}{elt target iter:Expr}{ifs:List Expr}{scope:Scope}{pos:Pos}{it acc:Value}{env:Env}(J:Nat->Shared->Prop)
  (turn:∀n s,J n s->wpAny (model prog w) A (pyNext it) (fun r s1=>match r with
   |none=>R (.ok .next) s1
   |some v=>wpAny (model prog w) A (letOwnedTupleGo target it v) (fun _ s2=>wpAny (model prog w) A (assign target env v) (fun _ s3=>
     wpAny (model prog w) A (forIn ifs true fun c r=>if r=true then do let ok <-isTrue c env (eval c env);pure (ForInStep.yield ok)else pure (ForInStep.yield r)) (fun ok s4=>
      if ok=true then wpAny (model prog w) A (eval elt env) (fun y s5=>wpAny (model prog w) A (call (.builtin "list.append") [acc,y]) (fun _ s6=>∃m,m<n/\J m s6) (fun _ _=>False) s5) (fun _ _=>False) s4
      else ∃m,m<n/\J m s4) (fun _ _=>False) s3) (fun _ _=>False) s2) (fun _ _=>False) s1) (fun _ _=>False) s)
  (n:Nat)(h:J n s):codeAny (model prog w) A (.compLoop (.ListComp elt [⟨target,iter,ifs,0⟩] scope pos) 0 it acc env) R s:=by
 have no:∀{α:Type}{t:Sem α}{Q:α->Shared->Prop}{E:Value->Shared->Prop}{s:Shared},wpAny (model prog w) A t Q (fun _ _=>False) s->wpAny (model prog w) A t Q E s:=
  fun q=>Xg q (fun _ _ z=>z) fun _ _ z=>z.elim
 refine codeAny_loop rfl J (fun n s hJ=>?_) n h
 refine wpAny_noted (m:=compTurn (.ListComp elt [⟨target,iter,ifs,0⟩] scope pos) 0 it acc env) ?_
 rw[compTurn_list]
 refine Zd (W9 (Zd (no (thn (turn n s hJ) fun r s1 q1=>?_))))
 cases r with
 |none=>exact Zr q1
 |some v=>
  refine no ?_
  refine Zd (thn q1 fun _ s2 q2=>Zd (thn q2 fun _ s3 q3=>Zd (thn q3 fun ok s4 q4=>?_)))
  cases ok with
  |false=>exact Zr ⟨rfl,q4⟩
  |true=>exact Zd (Zd (thn q4 fun y s5 q5=>Zd (thn q5 fun _ s6 q6=>Zr (Zr ⟨rfl,q6⟩))))
def c2h(J:It)(tt:TT)(te:TE)(σ:St)(Q:VK)(D:Addr)(H1:Hp):Prop:=∃W:Nat->Nat->List V->Hp->Prop,(∃m,W 0 m [] (upd H1 D (.lst [])))/\
 ∀i m ys H',W i m ys H'->(J.stop i H'/\Q (.ref D) H')\/(J.go i H'/\∀v H2,J.yld i H' v H2->tt (some v::σ) H2 fun b H3=>
  if b=true then te (some v::σ) H3 fun y H4=>H4 D=some (.lst ys)/\ys.length<sizeLine/\∃m',m'<m/\W (i+1) m' (ys++[y]) (upd H4 D (.lst (ys++[y])))
  else ∃m',m'<m/\W (i+1) m' ys H3)
def c2i(wi:TI)(tt:TT)(te:TE):TE:=fun σ H Q=>wi σ H fun J H1=>∀D,H1 D=none->c2h J tt te σ Q D H1
theorem c1g{elt iter:Expr}{x:Str}{N':List Str}{px:Pos}{ifs:List Expr}{scope:Scope}{pos:Pos}{tt:TT}{te:TE}(hc:X.calm=true)(S:b3e X scope x N')
  (ht:∀C s H fp pn,PTs (a3c X scope x N' C s H fp pn) ifs tt)(he:∀C s H fp pn,PE (a3c X scope x N' C s H fp pn) elt te){Q:VK}{itv:Value}{s2:Shared}{RR:Value->Addr->Result->Shared->Prop}
  (h2:PIE X pins σ (.Name x px) (fun J H1=>∀D,H1 D=none->c2h J tt te σ Q D H1) itv s2)
  (hend:∀(D C:Addr)(H6:Hp)(s7:Shared)(m7:Str->Option Value),Inv X pins σ H6 s7->s7.heap.Ns C m7->FpOk X pins H6 C->Q (.ref D) H6->RR (.ref D) C (.ok .next) s7):
  wpAny (model X.prog X.w) X.A (newList []) (fun acc s3=>wpAny (model X.prog X.w) X.A (newFunctionEnv scope X.env.globals (clOf X.env scope.names []) [] X.env.qual none .none (some X.env)) (fun cenv s4=>
   codeAny (model X.prog X.w) X.A (.compStart (.ListComp elt [⟨.Name x px,iter,ifs,0⟩] scope pos) 0 itv acc { cenv with scope:=relabel scope X.env}) (RR acc cenv.locals) s4) X.xe s3) X.xe s2:=by
 obtain⟨it,fp,tn,J,H2,e,I2,T,st2,f2,hW⟩:=h2
 subst e
 have hlt:∀b∈fp,b<s2.heap.objs.size:=fun b hb=>by
  obtain⟨o,ho,_⟩:=T.obj _ _ st2 b hb
  exact Zs ho
 obtain⟨W,⟨m0,w0⟩,hturn⟩:=hW s2.heap.objs.size (I2.hok.fresh (Zl _))
 refine Xp ?_ (by show 0<=sizeLine;exact Yo _)
 have I3:Inv X pins σ (upd H2 s2.heap.objs.size (.lst [])) { s2 with heap:=s2.heap.push { cls:=.type "list",data:=.seq ([]:List Value).toArray}}:=I2.lnew (t':=s2.toks) .nil (Yo _)
 have f3:∀b∈fp,FpOk X pins (upd H2 s2.heap.objs.size (.lst [])) b:=fun b hb=>by
  obtain⟨g0,g⟩:=f2 b hb
  exact⟨by rw[a0j (Yc (hlt b hb))];exact g0,g⟩
 have st3:tn 0 (s2.heap.push { cls:=.type "list",data:=.seq ([]:List Value).toArray}):=T.keep _ _ _ st2 fun b _ o e=>Zh _ e
 have hlt3:∀b∈fp,b<(s2.heap.push { cls:=.type "list",data:=.seq ([]:List Value).toArray}).objs.size:=fun b hb=>by rw[Vy];exact Nat.lt_succ_of_lt (hlt b hb)
 generalize hs3:({ s2 with heap:=s2.heap.push { cls:=.type "list",data:=.seq ([]:List Value).toArray}}:Shared)=s3 at I3
 have eh:s3.heap=s2.heap.push { cls:=.type "list",data:=.seq ([]:List Value).toArray}:=by rw[<-hs3]
 rw[<-eh]at st3 hlt3
 show wpAny _ _ (newFunctionEnv scope X.env.globals (clOf X.env scope.names []) [] X.env.qual none .none (some X.env)) _ _ _
 refine wpAny_newFunctionEnv S.nocell (by intro y hy;simp at hy) (fun h4 hns4 hsb4=>?_) S.kind
 have hk4:∀b o,s3.heap.get? b=some o->h4.get? b=some o:=fun b o e=>(hsb4.2 b (Yc (Zs e))).trans (Zh _ e)
 have I4:=Inv.compIn (tk:=s3.toks+([]:List (Str×Value)).length) S I3 f3 hlt3 hns4 hk4
 have st4:tn 0 h4:=T.keep _ _ _ st3 fun b _ o e=>hk4 b o e
 have fx:∀{H':Hp},(∀b∈fp,H' b=none)->∀b∈fp,FpOk (a3c X scope x N' s3.heap.objs.size s3 (upd H2 s2.heap.objs.size (.lst [])) fp (X.pn++pins)) [] H' b:=fun{H'} hn b hb=>by
  obtain⟨_,g1,g2,g3,g4,g5⟩:=f3 b hb
  refine⟨hn b hb,Yc (hlt3 b hb),I4.ok.exfs b hb,.inl hb,fun y c e=>(I4.ok.exf b hb).2 y c e,fun p hp=>g5 p ?_⟩
  have hp:p∈(X.pn++pins)++[]:=hp
  rwa[Yr]at hp
 have loop:∀s5:Shared,(∃(i n:Nat)(o:Option V)(ys:List V)(H5:Hp),Inv (a3c X scope x N' s3.heap.objs.size s3 (upd H2 s2.heap.objs.size (.lst [])) fp (X.pn++pins)) [] (o::σ) H5 s5/\tn i s5.heap/\(∀b∈fp,H5 b=none)/\W i n ys H5)->
   codeAny (model X.prog X.w) X.A (.compLoop (.ListComp elt [⟨.Name x px,iter,ifs,0⟩] scope pos) 0 (.ref it) (.ref s2.heap.objs.size) (compEnvC scope (clOf X.env scope.names []) s3.heap.objs.size X.env))
    (RR (.ref s2.heap.objs.size) s3.heap.objs.size) s5:=by
  rintro s5 ⟨i5,n5,o5,ys5,H5,I5,st5,fr5,w5⟩
  refine d0f (fun n s'=>∃(i:Nat)(o:Option V)(ys:List V)(H5:Hp),Inv (a3c X scope x N' s3.heap.objs.size s3 (upd H2 s2.heap.objs.size (.lst [])) fp (X.pn++pins)) [] (o::σ) H5 s'/\tn i s'.heap/\(∀b∈fp,H5 b=none)/\W i n ys H5) ?_ n5 ⟨i5,o5,ys5,H5,I5,st5,fr5,w5⟩
  rintro n s6 ⟨i,o,ys,H6,I6,st6,fr6,w6⟩
  rcases hturn i n ys H6 w6 with⟨stop,qn⟩|⟨go,step⟩
  ·refine thn (T.done (a3c X scope x N' s3.heap.objs.size s3 (upd H2 s2.heap.objs.size (.lst [])) fp (X.pn++pins)) rfl rfl rfl hc i [] s6 _ H6 _ I6 (fx fr6) st6 stop) fun r s7 ⟨hr,I7⟩=>?_
   subst hr
   obtain⟨m7,hn7,_⟩:=id I7.loc
   have I8:Inv X pins σ H6 s7:=I3.call' I7.os I7.base I7.hok I7.bare fun b hb=>by
    obtain⟨_,g1,g2,g3,g4,g5⟩:=f3 b hb
    exact⟨g3,g1,g4,g5⟩
   have f8:FpOk X pins H6 s3.heap.objs.size:=I3.fpOk (Zl _) I7.free
   exact hend _ _ H6 s7 m7 I8 hn7 f8 qn
  ·refine thn (T.item (a3c X scope x N' s3.heap.objs.size s3 (upd H2 s2.heap.objs.size (.lst [])) fp (X.pn++pins)) rfl rfl rfl hc i [] s6 _ H6 _ I6 (fx fr6) st6 go) fun r s7 ⟨u,hr,h7⟩=>?_
   subst hr
   refine thn h7 fun _ s8 ⟨v,H8,I8,r8,y8,st8,fr8⟩=>?_
   have I8':=I8.pinned (fx fr8) (T.obj _ _ st8)
   refine V5 (a7r I8' (i:=0) (Wy.mpr ⟨S.nin,S.nd⟩) rfl (.inl (Tm S.loc)) r8 (fun s9 I9=>?_) (.inr (Tm S.loc)))
   have I9:Inv (a3c X scope x N' s3.heap.objs.size s3 (upd H2 s2.heap.objs.size (.lst [])) fp (X.pn++pins)) ([]++b3a fp s8.heap) (some v::σ) H8 s9:=I9
   refine thn (ht _ _ _ _ _ _ s9 (some v::σ) H8 _ _ I9 (step v H8 y8)) fun b s10 ⟨H10,I10,q10⟩=>?_
   have back:∀{s':Shared}{H':Hp}{ys':List V}{m':Nat},Inv (a3c X scope x N' s3.heap.objs.size s3 (upd H2 s2.heap.objs.size (.lst [])) fp (X.pn++pins)) ([]++b3a fp s8.heap) (some v::σ) H' s'->W (i+1) m' ys' H'->
     ∃(i:Nat)(o:Option V)(ys:List V)(H5:Hp),Inv (a3c X scope x N' s3.heap.objs.size s3 (upd H2 s2.heap.objs.size (.lst [])) fp (X.pn++pins)) [] (o::σ) H5 s'/\tn i s'.heap/\(∀b∈fp,H5 b=none)/\W i m' ys H5:=fun{s' H' ys' m'} I' w'=>by
    refine⟨i+1,some v,ys',H',I'.unpinned,T.keep _ _ _ st8 fun b hb o e=>(I'.pin (b,o) (Yg _ (Yg _ (b0i hb e)))).1,fun b hb=>?_,w'⟩
    obtain⟨o,e,d⟩:=T.obj _ _ st8 b hb
    exact(I'.pin (b,o) (Yg _ (Yg _ (b0i hb e)))).2.1
   cases b with
   |false=>
    rw[if_neg Zp]at q10 ⊢
    obtain⟨m',hm,w'⟩:=q10
    exact⟨m',hm,back I10 w'⟩
   |true=>
    rw[if_pos rfl]at q10 ⊢
    refine thn (he _ _ _ _ _ _ s10 (some v::σ) H10 _ I10 q10) fun y s11 ⟨yv,H11,I11,r11,hD,hz,m',hm,w'⟩=>?_
    have ap:=c1d (X:=a3c X scope x N' s3.heap.objs.size s3 (upd H2 s2.heap.objs.size (.lst [])) fp (X.pn++pins)) _ s11 (some v::σ) H11 (.ref s2.heap.objs.size) [yv] (.ref s2.heap.objs.size) [y] (fun _ H'=>W (i+1) m' (ys++[yv]) H') I11 rfl (.cons r11 .nil) ⟨_,ys,yv,rfl,rfl,hD,hz,w'⟩
    exact thn ap fun _ s12 ⟨_,H12,I12,_,w12⟩=>⟨m',hm,back I12 w12⟩
 have l4:=loop { s3 with heap:=h4,toks:=s3.toks+([]:List (Str×Value)).length} ⟨0,m0,none,[],_,I4,st4,fun b hb=>(f3 b hb).1,w0⟩
 exact codeAny_compStart_list l4 (T.self _ _ _ _ _ st4 l4)
theorem b3f{elt iter:Expr}{x:Str}{N':List Str}{px:Pos}{ifs:List Expr}{scope:Scope}{pos:Pos}{wi:TI}{tt:TT}{te:TE}(hc:X.calm=true)(hi:PI X (.Name x px) iter wi)(S:b3e X scope x N')
  (ht:∀C s H fp pn,PTs (a3c X scope x N' C s H fp pn) ifs tt)(he:∀C s H fp pn,PE (a3c X scope x N' C s H fp pn) elt te)(hs:∀x,foldedSetIterable iter X.env x=pure x:=by intro _;rfl):
  PE X (.ListComp elt [⟨.Name x px,iter,ifs,0⟩] scope pos) (c2i wi tt te):=by
 intro pins s σ H Q I h
 have hcells:∀y∈scope.names,y.2=.free->∃c,X.env.cells.lookup y.1=some c:=fun y hy hk=>I.ok.has y.1 (S.free y hy hk)
 rw[eval_ListComp]
 refine Uv (use:=none) rfl hs (b8j hcells) S.kind S.names (thn (hi pins s σ H _ I h) fun xv s1 h1=>thn h1 fun itv s2 h2=>?_)
 refine c1g (RR:=fun acc C=>compPost (model X.prog X.w) X.A X.xe none (EP X pins σ Q) acc C) hc S ht he h2 fun D C H6 s7 m7 I8 hn7 f8 qn=>?_
 refine⟨m7,hn7,fun h' hs'=>?_⟩
 obtain⟨g0,g1,g2,g3,g4,g5⟩:=f8
 exact⟨.ref D,H6,I8.turned (t':=s7.toks) (fun b o hb e=>(hs'.2 b hb).trans e) g0 g1 g3 g4 g5,rfl,qn⟩
theorem ps_comp{elt iter:Expr}{x y:Str}{N':List Str}{i:Nat}{px py:Pos}{ifs:List Expr}{scope:Scope}{pos spos:Pos}{wi:TI}{tt:TT}{te:TE}(hN:X.N.Nodup)(hiy:X.N[i]? =some y)(hy:Loc X.env.scope y)(hc:X.calm=true)(hi:PI X (.Name x px) iter wi)(S:b3e X scope x N')
  (ht:∀C s H fp pn,PTs (a3c X scope x N' C s H fp pn) ifs tt)(he:∀C s H fp pn,PE (a3c X scope x N' C s H fp pn) elt te)
  (hsw:swapsWith (.ListComp elt [⟨.Name x px,iter,ifs,0⟩] scope pos) (some (.Name y py)) spos.line X.env=pure true:=by rfl)(hs:∀x,foldedSetIterable iter X.env x=pure x:=by intro _;rfl)
  (hf:X.fn y=true\/X.env.scope.names.lookup y=some .local:=by first|exact .inl rfl|exact .inr rfl|assumption):
  PS X (.Assign [.Name y py] (.ListComp elt [⟨.Name x px,iter,ifs,0⟩] scope pos) spos) (tAsg (c2i wi tt te) (b5w i)):=by
 intro pins s σ H D I h
 have hcells:∀y∈scope.names,y.2=.free->∃c,X.env.cells.lookup y.1=some c:=fun y hy hk=>I.ok.has y.1 (S.free y hy hk)
 rw[exec_Assign_Name_used _ _ _ _ hsw]
 refine Zd (W9 (Zd ?_))
 show wpAny _ X.A (do let _ <-comprehension (.ListComp elt [⟨.Name x px,iter,ifs,0⟩] scope pos) scope X.env _ (newList []) false (eval iter X.env) (some (assign (.Name y py) X.env))) _ _ s
 refine Zd (thn (Uv (use:=some (assign (.Name y py) X.env)) (Q:=fun _ s'=>SP X pins D .next s') rfl hs (b8j hcells) S.kind S.names
  (thn (hi pins s σ H _ I h) fun xv s1 h1=>thn h1 fun itv s2 h2=>?_)) fun _ s' hq=>Zr (Zr hq))
 refine c1g (RR:=fun acc C=>compPost (model X.prog X.w) X.A X.xe (some (assign (.Name y py) X.env)) (fun _ s'=>SP X pins D .next s') acc C) hc S ht he h2 fun L C H6 s7 m7 I8 hn7 f8 qn=>?_
 obtain⟨g0,g1,g2,g3,g4,g5⟩:=f8
 show wpAny _ X.A (assign (.Name y py) X.env (.ref L)) _ _ _
 refine V5 (c0w I8 hN hiy hy (v:=.ref L) (u:=.ref L) rfl (fun s8 I9 hch=>?_) hf)
 obtain⟨a,hsb,ha⟩:=hch
 have hCa:C≠a:=by
  rcases ha with z|z
  ·rw[z];exact g1
  ·exact fun w=>g4 _ _ z w.symm
 refine⟨m7,hn7.sameBut hsb hCa,fun h' hs'=>?_⟩
 exact⟨_,H6,I9.turned (t':=s8.toks) (fun b o hb e=>(hs'.2 b hb).trans e) g0 g1 g3 g4 g5,qn⟩
end
def d0g(sc scope:Scope)(N N':List Str)(x:Str):Bool:=
 decide (scope.names.lookup x=some .local)&&scope.names.all (fun y=>decide (y.2≠.cell))&&decide (scope.kind=.function)&&scope.names.all (fun y=>decide (y.2=.local->scope.names.lookup y.1=some .local))&&
 scope.names.all (fun y=>decide (y.2=.free->sc.names.lookup y.1=some .cell\/sc.names.lookup y.1=some .free))&&decide (x∉N')&&decide N'.Nodup&&decide (N'.length=N.length)&&
 (List.range N'.length).all (fun i=>match N'[i]? with|some y=>decide (N[i]? =some y\/scope.names.lookup y=none)|none=>true)&&scope.names.all (fun y=>decide (y.2=.local->y.1=x\/y.1∉N'))
theorem a9b{X:Cx}{scope:Scope}{x:Str}(sc:Scope)(N N':List Str)(hsc:X.env.scope=sc)(hN:X.N=N)(h:d0g sc scope N N' x=true):b3e X scope x N':=by
 subst hsc hN
 unfold d0g at h
 simp only[Xf,Xe,decide_eq_true_eq]at h
 obtain⟨⟨⟨⟨⟨⟨⟨⟨⟨h1,h2⟩,h3⟩,h4⟩,h5⟩,h6⟩,h7⟩,h7'⟩,h8'⟩,h8⟩:=h
 refine⟨h1,h2,h3,h4,h5,h6,h7,h7',fun i y e=>?_,h8⟩
 have hi:i<N'.length:=(Y0.mp e).1
 have z:=h8' i (Xi.mpr hi)
 rw[e]at z
 exact Zm z
def Its(x:Str):It:=⟨fun i _=>i<x.cps.size,fun i H v H'=>H'=H/\∃c,x.cps[i]? =some c/\v=.str ⟨#[c]⟩,fun i _=>x.cps.size=i⟩
theorem c3l{P:Program}{w:World}{K:W.Frag}{tg:Expr}{it:Addr}{x:Str}{t:Tok}{ty:String}
  (hty:["enumerate","zip","dict_itemiterator","dict_reverseitemiterator","odict_iterator","itertools.zip_longest","itertools.pairwise"].contains ty=false)
  (hW:∀A':Around,A'.handled=none->Walks P w A' it [it] [it] x.cps.size (SignAt x) (fun i h=>h.IsStrIter it ty x t i))
  (hself:∀(A:Around)(i:Nat)(s:Shared)(Q:Value->Shared->Prop)(E:Value->Shared->Prop),s.heap.IsStrIter it ty x t i->Q (.ref it) s->wpAny (model P w) A (pyIter (.ref it)) Q E s):
  Turn P w K tg (Its x) [it] it (fun i h=>h.IsStrIter it ty x t i) where
 mem:=by simp
 obj:=fun i h st b hb=>by
  have e:b=it:=by simpa using hb
  subst e
  obtain⟨o,e,c,d⟩:=st
  exact⟨o,e,fun v z=>by rw[d]at z;cases z⟩
 keep:=fun i h h' st k=>by
  obtain⟨o,e,r⟩:=st
  exact⟨o,k it (by simp) o e,r⟩
 item:=by
  intro X hP hw hK hc i pins s σ H E I hf st hg
  subst hP hw hK
  obtain⟨f0,f1,f2,f3,f4,f5⟩:=hf it (by simp)
  refine(hW X.A (I.ok.hd hc)).item i s _ _ hg st fun v h' tk hv st' kk=>?_
  obtain⟨c,u,hx,rfl⟩:=hv
  have I1:Inv X pins σ H { s with heap:=h',toks:=tk}:=I.turned (fun b o hb e=>kk b o (by simpa using hb) e) f0 f1 f3 f4 f5
  obtain⟨o,e,c',d⟩:=id st'
  exact⟨_,rfl,b7x (s:={ s with heap:=h',toks:=tk}) e c' d hty ⟨.str ⟨#[c]⟩,H,I1,⟨u,rfl⟩,⟨rfl,c,hx,rfl⟩,st',fun b hb=>(hf b hb).1⟩⟩
 done:=by
  intro X hP hw hK hc i pins s σ H E I hf st hg
  subst hP hw hK
  obtain⟨f0,f1,f2,f3,f4,f5⟩:=hf it (by simp)
  have hg:x.cps.size=i:=hg
  subst hg
  exact(hW X.A (I.ok.hd hc)).done s _ _ st fun h' tk kk=>⟨rfl,I.turned (fun b o hb e=>kk b o (by simpa using hb) e) f0 f1 f3 f4 f5⟩
 self:=hself
section
variable{X:Cx}{tg:Expr}
def iStr(tl:TE):TI:=fun σ H R=>tl σ H fun v H1=>∃x,v=.str x/\R (Its x) H1
theorem d0h{l:Expr}{tl:TE}(hl:PE X l tl):PI X tg l (iStr tl):=by
 intro pins s σ H R I h
 refine thn (hl pins s σ H _ I h) fun v s1 ⟨z,H1,I1,r1,q1⟩=>?_
 obtain⟨x,e,q⟩:=q1
 subst e
 obtain⟨t,rfl⟩:=r1
 have fp:∀b∈[s1.heap.objs.size],FpOk X pins H1 b:=fun b hb=>by
  have e:b=s1.heap.objs.size:=by simpa using hb
  subst e
  exact I1.fpOk (Zl _) (I1.hok.fresh (Zl _))
 cases ha:x.cps.all (· <128)
 ·refine wpAny_pyIter_wide ha ?_
  exact⟨s1.heap.objs.size,[s1.heap.objs.size],_,_,H1,rfl,I1.kept (t':=s1.toks) fun b o e=>Zh _ e,c3l (ty:="str_iterator") (t:=t) (by decide) (fun A' hA=>Walks.strWide hA _ x t) (fun _ _ _ _ _ st hq=>wpAny_pyIter_striter_wide st hq),⟨_,Z2 _ rfl,rfl,rfl⟩,fp,q⟩
 ·refine wpAny_pyIter_ascii ha ?_
  exact⟨s1.heap.objs.size,[s1.heap.objs.size],_,_,H1,rfl,I1.kept (t':=s1.toks) fun b o e=>Zh _ e,c3l (ty:="str_ascii_iterator") (t:=t) (by decide) (fun A' hA=>Walks.strAscii hA _ x t) (fun _ _ _ _ _ st hq=>wpAny_pyIter_striter_ascii st hq),⟨_,Z2 _ rfl,rfl,rfl⟩,fp,q⟩
end
structure Row(J:It)(n:Nat)(vs:Nat->V)(Ok:Hp->Prop):Prop where
 go:∀i H,i<n->Ok H->J.go i H
 yld:∀i H v H',i<n->Ok H->J.yld i H v H'->H'=H/\v=vs i
 stop:∀H,Ok H->J.stop n H
theorem a3u(lo:Int)(n:Nat):Row (Itr lo n) n (fun i=>.int (lo+i)) (fun _=>True):=⟨fun i H h _=>h,fun i H v H' _ _ h=>h,fun H _=>Zl n⟩
theorem c6z(x:Str):Row (Its x) x.cps.size (fun i=>.str ⟨#[x.cps.getD i 0]⟩) (fun _=>True):=⟨fun i H h _=>h,fun i H v H' hi _ h=>by
 obtain⟨e,c,hc,rfl⟩:=h
 refine⟨e,?_⟩
 have:x.cps.getD i 0=c:=by rw[Uo,hc];rfl
 rw[this],fun H _=>rfl⟩
theorem b7d{K:W.Frag}{a:Addr}{xs:List V}:Row (Itl K a) xs.length (fun i=>xs.getD i .non) (fun H=>SqL K H a xs):=⟨fun i H h q=>⟨xs,xs[i],q,by simp[h]⟩,fun i H v H' hi q h=>by
 obtain⟨e,y⟩:=h
 refine⟨e,?_⟩
 have:=y xs q
 rw[Z3,this];rfl,fun H q=>⟨xs,q,Zl _⟩⟩
theorem row_tup{K:W.Frag}{a:Addr}{xs:List V}:Row (Itt K a) xs.length (fun i=>xs.getD i .non) (fun H=>SqT K H a xs):=⟨fun i H h q=>⟨xs,xs[i],q,by simp[h]⟩,fun i H v H' hi q h=>by
 obtain⟨e,y⟩:=h
 refine⟨e,?_⟩
 have:=y xs q
 rw[Z3,this];rfl,fun H q=>⟨xs,q,Zl _⟩⟩
def ForW(J:It)(g:TG)(tb:TS)(D:Ends)(σ:St)(H:Hp):Prop:=∃W:Nat->Nat->St->Hp->Prop,(∃m,W 0 m σ H)/\∀i m σ H,W i m σ H->
   (J.stop i H/\D.nx σ H)\/(J.go i H/\∃N:St->Hp->Prop,(∀σ' H',N σ' H'->∃m',m'<m/\W (i+1) m' σ' H')/\∀x H',J.yld i H x H'->g x σ H' fun σ2 H2=>tb { D with nx:=N,ct:=N,bk:=D.nx} σ2 H2)
theorem a5m{J:It}{n:Nat}{vs:Nat->V}{Ok:Hp->Prop}(R:Row J n vs Ok){g:TG}{tb:TS}{D:Ends}{σ:St}{H:Hp}(Pv:Nat->St->Hp->Prop)(h0:Pv 0 σ H)(hok:∀i σ H,Pv i σ H->Ok H)
  (hs:∀i σ H,i<n->Pv i σ H->g (vs i) σ H fun σ2 H2=>tb { D with nx:=Pv (i+1),ct:=Pv (i+1),bk:=D.nx} σ2 H2)(hd:∀σ H,Pv n σ H->D.nx σ H):
  ForW J g tb D σ H:=by
 refine⟨fun i m σ H=>m=n-i/\i<=n/\Pv i σ H,⟨n,by simp,Yo _,h0⟩,?_⟩
 rintro i m σ H ⟨rfl,hi,p⟩
 by_cases hlt:i<n
 ·refine .inr ⟨R.go i H hlt (hok i σ H p),Pv (i+1),fun σ' H' p'=>⟨n-(i+1),by omega,rfl,hlt,p'⟩,fun x H' y=>?_⟩
  obtain⟨e1,e2⟩:=R.yld i H x H' hlt (hok i σ H p) y
  subst e1 e2
  exact hs i σ _ hlt p
 ·have e:i=n:=by omega
  subst e
  exact .inl ⟨R.stop H (hok i σ H p),hd σ H p⟩
theorem a7s{J:It}{n:Nat}{vs:Nat->V}{Ok:Hp->Prop}(R:Row J n vs Ok){te:TE}{Q:VK}{σ:St}{H1:Hp}{D:Addr}(Pv:Nat->List V->Hp->Prop)(hn:n<=sizeLine)(h0:Pv 0 [] (upd H1 D (.lst [])))(hok:∀i ys H,Pv i ys H->Ok H)
  (hs:∀i ys H (Q':VK),i<n->ys.length=i->Pv i ys H->(∀y H4,H4 D=some (.lst ys)->Pv (i+1) (ys++[y]) (upd H4 D (.lst (ys++[y])))->Q' y H4)->te (some (vs i)::σ) H Q')
  (hd:∀ys H,ys.length=n->Pv n ys H->Q (.ref D) H):
  c2h J tYes te σ Q D H1:=by
 refine⟨fun i m ys H=>m=n-i/\i<=n/\ys.length=i/\Pv i ys H,⟨n,by simp,Yo _,rfl,h0⟩,?_⟩
 rintro i m ys H ⟨rfl,hi,hl,p⟩
 by_cases hlt:i<n
 ·refine .inr ⟨R.go i H hlt (hok i ys H p),fun v H2 y=>?_⟩
  obtain⟨e1,e2⟩:=R.yld i H v H2 hlt (hok i ys H p) y
  subst e1 e2
  exact hs i ys _ _ hlt hl p fun v H4 q1 q2=>⟨q1,by omega,n-(i+1),by omega,rfl,hlt,by simp[hl],q2⟩
 ·have e:i=n:=by omega
  subst e
  exact .inl ⟨R.stop H (hok _ ys H p),hd ys H hl p⟩
def cutS(z:Str)(lo hi:Option Int):Str:=⟨((z.cps.toList.drop (HT.sIx z.length 0 lo)).take (HT.sIx z.length z.length hi-HT.sIx z.length 0 lo)).toArray⟩
theorem c3m(lo hi:Option Int)(n:Nat):Builtin.Str.strSliceIndices lo hi 1 n=(List.range (HT.sIx n n hi-HT.sIx n 0 lo)).map (fun k=>HT.sIx n 0 lo+k):=by
 obtain⟨h1,h2,h3⟩:=b5a lo hi n
 have e:Builtin.Str.strSliceIndices lo hi 1 n=Builtin.Str.strSliceIndices (some (sliceBounds lo hi none n).1) (some (sliceBounds lo hi none n).2.1) 1 n:=by
  have a:(0:Int)<=(sliceBounds lo hi none n).1/\(sliceBounds lo hi none n).1<=n:=by
   rw[h1];have:=HT.sIx_le n 0 (Yo _) lo;omega
  have b:(0:Int)<=(sliceBounds lo hi none n).2.1/\(sliceBounds lo hi none n).2.1<=n:=by
   rw[h2];have:=HT.sIx_le n n (Zl _) hi;omega
  have c:∀v:Int,0<=v/\v<=n->max (0:Int) (min (if v<0 then v+n else v) n)=v:=fun v hv=>by
   rw[if_neg (by omega)];omega
  show Builtin.Str.strSliceIndices lo hi 1 n=sliceRange (max (0:Int) (min (if(sliceBounds lo hi none n).1<0 then(sliceBounds lo hi none n).1+n else(sliceBounds lo hi none n).1) n)) (max (0:Int) (min (if(sliceBounds lo hi none n).2.1<0 then(sliceBounds lo hi none n).2.1+n else(sliceBounds lo hi none n).2.1) n)) 1
  rw[c _ a,c _ b]
  cases lo<;>cases hi<;>rfl
 rw[e,h1,h2]
 by_cases hab:HT.sIx n 0 lo<=HT.sIx n n hi
 ·exact PySem.StrLaws.strSliceIndices_plain hab (HT.sIx_le n n (Zl _) hi)
 ·have z:HT.sIx n n hi-HT.sIx n 0 lo=0:=by omega
  rw[z]
  have la:=HT.sIx_le n 0 (Yo _) lo
  have lb:=HT.sIx_le n n (Zl _) hi
  show sliceRange (max (0:Int) (min (if((HT.sIx n 0 lo:Nat):Int)<0 then((HT.sIx n 0 lo:Nat):Int)+n else((HT.sIx n 0 lo:Nat):Int)) n)) (max (0:Int) (min (if((HT.sIx n n hi:Nat):Int)<0 then((HT.sIx n n hi:Nat):Int)+n else((HT.sIx n n hi:Nat):Int)) n)) 1=[]
  have e1:max (0:Int) (min (if((HT.sIx n 0 lo:Nat):Int)<0 then((HT.sIx n 0 lo:Nat):Int)+n else((HT.sIx n 0 lo:Nat):Int)) n)=((HT.sIx n 0 lo:Nat):Int):=by rw[if_neg (by omega)];omega
  have e2:max (0:Int) (min (if((HT.sIx n n hi:Nat):Int)<0 then((HT.sIx n n hi:Nat):Int)+n else((HT.sIx n n hi:Nat):Int)) n)=((HT.sIx n n hi:Nat):Int):=by rw[if_neg (by omega)];omega
  rw[e1,e2]
  unfold sliceRange
  have hlt:¬((HT.sIx n 0 lo:Nat):Int)<((HT.sIx n n hi:Nat):Int):=by omega
  simp[hlt]
theorem c8n(z:Str)(lo hi:Option Int):(⟨((Builtin.Str.strSliceIndices lo hi 1 z.length).filterMap (z.cps[·]?)).toArray⟩:Str)=cutS z lo hi:=by
 rw[c3m]
 unfold cutS
 congr 2
 have la:=HT.sIx_le z.length 0 (Yo _) lo
 have lb:=HT.sIx_le z.length z.length (Zl _) hi
 by_cases hab:HT.sIx z.length 0 lo<=HT.sIx z.length z.length hi
 ·have h:=PySem.StrLaws.picks z.cps.toList (HT.sIx z.length z.length hi-HT.sIx z.length 0 lo) (HT.sIx z.length 0 lo) (by simp only[Xx];unfold Str.length at lb ⊢;unfold Str.length at hab;omega)
  simpa using h
 ·have e:HT.sIx z.length z.length hi-HT.sIx z.length 0 lo=0:=by omega
  rw[e];simp
theorem d3c(z:Str)(lo hi:Option Int):(cutS z lo hi).length=min (HT.sIx z.length z.length hi-HT.sIx z.length 0 lo) (z.length-HT.sIx z.length 0 lo):=by
 unfold cutS Str.length
 simp
theorem sl_str{X:Cx}:SlR X (fun x lo hi H Q=>∃z,x=.str z/\z.length<=sizeLine/\Q (.str (cutS z lo hi)) H):=by
 intro pins s σ H x v vl vu lo hi sl Q I rx hs pl pu h
 obtain⟨z,rfl,hz,q⟩:=h
 obtain⟨t,rfl⟩:=rx
 refine⟨"str",_,F.slot_str_getitem.lookup,Sd _ _ _,?_⟩
 obtain⟨l,el,e1⟩:∃l:Option (Int×Tok),vl=partValue l/\l.map (·.1)=lo:=by
  cases pl with
  |none=>exact⟨none,rfl,rfl⟩
  |int i t=>exact⟨some (i,t),rfl,rfl⟩
 obtain⟨u,eu,e2⟩:∃u:Option (Int×Tok),vu=partValue u/\u.map (·.1)=hi:=by
  cases pu with
  |none=>exact⟨none,rfl,rfl⟩
  |int i t=>exact⟨some (i,t),rfl,rfl⟩
 subst el eu e1 e2
 refine wpAny_getItem_str_slice (l:=l) (u:=u) (st:=none) (by obtain⟨o,ho,hc,hd⟩:=hs;exact⟨o,ho,hc,hd⟩) rfl ?_
 have pk:(slicePicked z l u none)=Builtin.Str.strSliceIndices (l.map (·.1)) (u.map (·.1)) 1 z.length:=rfl
 unfold sliceMade
 rw[pk]
 by_cases hw:((((none:Option (Int×Tok)).map (·.1)).getD 1==1)&&(Builtin.Str.strSliceIndices (l.map (·.1)) (u.map (·.1)) 1 z.length).length==z.length)=true
 ·rw[if_pos hw]
  have hl:(Builtin.Str.strSliceIndices (l.map (·.1)) (u.map (·.1)) 1 z.length).length=z.length:=by
   rw[Xf]at hw
   exact eq_of_beq hw.2
  rw[c3m,length_map,Wd]at hl
  have la:=HT.sIx_le z.length 0 (Yo _) (l.map (·.1))
  have lb:=HT.sIx_le z.length z.length (Zl _) (u.map (·.1))
  have e:cutS z (l.map (·.1)) (u.map (·.1))=z:=by
   by_cases hz0:z.length=0
   ·have hn:z.cps.toList=[]:=by
     apply Uj
     simpa[Str.length]using hz0
    unfold cutS
    rw[hn]
    obtain⟨cps⟩:=z
    have:cps= #[]:=by simpa using hn
    subst this
    simp
   ·have a0:HT.sIx z.length 0 (l.map (·.1))=0:=by omega
    have b0:HT.sIx z.length z.length (u.map (·.1))=z.length:=by omega
    unfold cutS
    rw[a0,b0,W1,Yt]
    obtain⟨cps⟩:=z
    show(⟨(List.take cps.size cps.toList).toArray⟩:Str)=⟨cps⟩
    rw[<-Xx,Ve]
  show EP X pins σ Q (.str z t) s
  refine⟨.str z,H,I,⟨t,rfl⟩,?_⟩
  rw[e]at q
  exact q
 ·rw[if_neg hw,c8n]
  refine⟨?_,.str _,H,I.tok _,⟨_,rfl⟩,q⟩
  rw[d3c]
  omega
def mVar(i:Nat):TE:=fun σ H Q=>match σ[i]? with|some (some v)=>Q v H|_=>False
def mB(Q:Bool->Hp->Prop):VK:=fun z H'=>match z with| .bl k=>Q k H'|_=>False
theorem c2j(Q:Bool->Hp->Prop):mB Q=fun z H'=>∃k,z=.bl k/\Q k H':=by
 funext z H'
 cases z<;>simp[mB]
section
variable{X:Cx}{a b c e:Expr}{ta tb tc te:TE}{pos:Pos}
theorem mv(i:Nat){x:Str}{pos:Pos}(hN:X.N[i]? =some x:=by rfl)(hv:Vis X.env.scope x:=by first|exact Or.inl rfl|exact Or.inr (Or.inl rfl)|exact Or.inr (Or.inr rfl))(hd:(x==("__debug__":Str))=false:=by decide)
  (hcd:(x==("__classdict__":Str))=false:=by decide):PE X (.Name x pos) (mVar i):=by
 intro pins s σ H Q I h
 refine pe_var hN hv hd hcd pins s σ H Q I ?_
 unfold mVar at h
 split at h
 ·rename_i v q;exact⟨v,q,h⟩
 ·exact h.elim
def m2(C:Int->Int->Prop)(g:Int->Int->V):R2:=fun x y H Q=>match x,y with
 | .int i,.int j=>C i j/\Q (g i j) H
 |_,_=>False
def m20(g:Int->Int->V):R2:=fun x y H Q=>match x,y with
 | .int i,.int j=>Q (g i j) H
 |_,_=>False
theorem m2_to{C:Int->Int->Prop}{g:Int->Int->V}{x y:V}{H:Hp}{Q:VK}(h:m2 C g x y H Q):rI C g x y H Q:=by
 cases x<;>cases y<;>first|exact(show False from h).elim|exact⟨_,_,rfl,rfl,h⟩
theorem b5b{g:Int->Int->V}{x y:V}{H:Hp}{Q:VK}(h:m20 g x y H Q):rI0 g x y H Q:=by
 cases x<;>cases y<;>first|exact(show False from h).elim|exact⟨_,_,rfl,rfl,h⟩
theorem OpR.imp{f:Value->Value->Sem Value}{r r':R2}(h:OpR X f r)(k:∀x y H Q,r' x y H Q->r x y H Q):OpR X f r':=fun pins s σ H x y v u Q I rx ry q=>h pins s σ H x y v u Q I rx ry (k x y H Q q)
def mAdd(K:W.Frag):R2:=fun x y H Q=>match x,y with
 | .int i,.int j=>Q (.int (i+j)) H
 | .str i,.str j=>i.length+j.length<=sizeLine/\Q (.str (i++j)) H
 | .ref p,.ref q=>(∃xs ys,H p=some (.lst xs)/\H q=some (.lst ys)/\xs.length+ys.length<=sizeLine/\∀d,H d=none->Q (.ref d) (upd H d (.lst (xs++ys))))\/
   ∃xs ys,SqT K H p xs/\SqT K H q ys/\xs≠[]/\xs.length+ys.length<=sizeLine/\(ys=[]->Q (.ref p) H)/\(ys≠[]->∀d,H d=none->Q (.ref d) (upd H d (.tup (xs++ys))))
 |_,_=>False
theorem mo_add:OpR X (binaryOp .Add) (mAdd X.K):=by
 refine(op_add.or (c8g.or (op_cat.or op_catT))).imp fun x y H Q h=>?_
 cases x<;>cases y<;>first
  |exact(show False from h).elim
  |exact .inl ⟨_,_,rfl,rfl,h⟩
  |exact .inr (.inl ⟨_,_,rfl,rfl,h⟩)
  | (rcases h with⟨xs,ys,h1,h2,h3,h4⟩|⟨xs,ys,h1,h2,h3,h4,h5⟩
     ·exact .inr (.inr (.inl ⟨_,_,xs,ys,rfl,rfl,h1,h2,h3,h4⟩))
     ·exact .inr (.inr (.inr ⟨_,_,xs,ys,rfl,rfl,h1,h2,h3,h4,h5⟩)))
theorem b0b:OpR X (binaryOp .Sub) (m20 fun i j=>.int (i-j)):=op_sub.imp fun _ _ _ _ h=>b5b h
def mMul:R2:=fun x y H Q=>match x,y with
 | .int i,.int j=>IntMulOk i j/\Q (.int (i*j)) H
 | .ref l,.int k=>∃xs,H l=some (.lst xs)/\-(2^63)<=k/\k<2^63/\xs.length*k.toNat<=sizeLine/\∀p,H p=none->Q (.ref p) (upd H p (.lst (List.replicate k.toNat xs).flatten))
 |_,_=>False
theorem op_mulW:OpR X (binaryOp .Mult) (rI (fun i j=>IntMulOk i j) fun i j=>.int (i*j)):=opI fun _ _ _ _ _ _ _ hc q=>mul_int q hc
theorem b8k:OpR X (binaryOp .Mult) mMul:=by
 refine(op_mulW.or op_rep).imp fun x y H Q h=>?_
 cases x<;>cases y<;>first
  |exact(show False from h).elim
  |exact .inl ⟨_,_,rfl,rfl,h⟩
  | (obtain⟨xs,h1,h2,h3,h4,h5⟩:=h;exact .inr ⟨_,_,xs,rfl,rfl,h1,h2,h3,h4,h5⟩)
theorem a2h:OpR X (binaryOp .FloorDiv) (m2 CDiv fun i j=>.int (i/j)):=op_fdiv.imp fun _ _ _ _ h=>m2_to h
theorem a1u:OpR X (binaryOp .Mod) (m2 (fun _ j=>0<j) fun i j=>.int (i%j)):=op_mod.imp fun _ _ _ _ h=>m2_to h
theorem mo_pow:OpR X (binaryOp .Pow) (m2 CPow fun i j=>.int (i^j.toNat)):=op_pow.imp fun _ _ _ _ h=>m2_to h
theorem a4x:OpR X (compareOp .Lt) (m20 fun i j=>.bl (decide (i<j))):=op_lt.imp fun _ _ _ _ h=>b5b h
theorem c2k:OpR X (compareOp .LtE) (m20 fun i j=>.bl (decide (i<=j))):=op_le.imp fun _ _ _ _ h=>b5b h
theorem c2m:OpR X (compareOp .Gt) (m20 fun i j=>.bl (decide (j<i))):=op_gt.imp fun _ _ _ _ h=>b5b h
theorem mo_ge:OpR X (compareOp .GtE) (m20 fun i j=>.bl (decide (j<=i))):=op_ge.imp fun _ _ _ _ h=>b5b h
def mEq(n:Bool):R2:=fun x y H Q=>match x,y with
 | .int i,.int j=>Q (.bl (n^^decide (i=j))) H
 | .str i,.str j=>Q (.bl (n^^decide (i=j))) H
 | .bl i,.bl j=>Q (.bl (n^^decide (i=j))) H
 | .non,.non=>Q (.bl (n^^true)) H
 | .non,.int _=>Q (.bl n) H
 | .non,.str _=>Q (.bl n) H
 | .non,.bl _=>Q (.bl n) H
 | .int _,.non=>Q (.bl n) H
 | .str _,.non=>Q (.bl n) H
 | .bl _,.non=>Q (.bl n) H
 | .int _,.str _=>Q (.bl n) H
 | .str _,.int _=>Q (.bl n) H
 | .bl _,.str _=>Q (.bl n) H
 | .str _,.bl _=>Q (.bl n) H
 |_,_=>False
theorem a1s:OpR X (compareOp .Eq) (mEq false):=by
 refine op_eq.imp fun x y H Q h=>?_
 cases x<;>cases y<;>first
  |exact(show False from h).elim
  |exact⟨rfl,by simpa[mEq]using h⟩
theorem b5y:OpR X (compareOp .NotEq) (mEq true):=by
 refine op_ne.imp fun x y H Q h=>?_
 cases x<;>cases y<;>first
  |exact(show False from h).elim
  |exact⟨rfl,by simpa[mEq]using h⟩
def c2n(t:TE):TT:=fun σ H Q=>t σ H (mB Q)
theorem c3n(t:TE):c2n t=tTest t:=by
 funext σ H Q
 show t σ H (mB Q)=t σ H _
 rw[c2j]
theorem a0v{op:CmpOp}{r:R2}(ho:OpR X (compareOp op) r)(ha:PE X a ta)(hb:PE X b tb)(hm:behindInMarks op b=false):PT X (.Compare a [op] [b] pos) (c2n (tOp r ta tb)):=by
 rw[c3n];exact pt_cmpR ho ha hb hm
def b5c(r r':R2)(ta tb tc:TE):TE:=fun σ H Q=>ta σ H fun x H1=>tb σ H1 fun y H2=>r x y H2 (mB fun k H3=>if k=true then tc σ H3 fun w' H4=>r' y w' H4 Q else Q (.bl false) H3)
theorem c1h(r r':R2)(ta tb tc:TE):b5c r r' ta tb tc=b7y r r' ta tb tc:=by
 funext σ H Q
 unfold b5c b7y
 simp only[c2j]
theorem d3d{op op':CmpOp}{r r':R2}(ho:OpR X (compareOp op) r)(ho':OpR X (compareOp op') r')(ha:PE X a ta)(hb:PE X b tb)(hc:PE X c tc)
  (hm:lastMarks [op,op'] [b,c]=false:=by with_unfolding_all rfl):PE X (.Compare a [op,op'] [b,c] pos) (b5c r r' ta tb tc):=by
 rw[c1h];exact d2r ho ho' ha hb hc hm
theorem b7e{op op':CmpOp}{r r':R2}(ho:OpR X (compareOp op) r)(ho':OpR X (compareOp op') r')(ha:PE X a ta)(hb:PE X b tb)(hc:PE X c tc)
  (hm:lastMarks [op,op'] [b,c]=false:=by with_unfolding_all rfl):PT X (.Compare a [op,op'] [b,c] pos) (c2n (b5c r r' ta tb tc)):=by
 rw[c3n,c1h];exact d2s ho ho' ha hb hc hm
def mTru(K:W.Frag)(Q:Bool->Hp->Prop):VK:=fun x H=>match x with
 | .non=>Q false H
 | .bl b=>Q b H
 | .int i=>Q (decide (i≠0)) H
 | .str y=>y.length<=sizeLine/\Q (decide (y.length≠0)) H
 | .ref p=>(∃xs,SqL K H p xs/\Q (!xs.isEmpty) H)\/(∃xs,SqT K H p xs/\Q (!xs.isEmpty) H)\/∃kvs,H p=some (.dK kvs)/\Q (!kvs.isEmpty) H
 |_=>False
theorem c7a{K:W.Frag}{Q:Bool->Hp->Prop}{x:V}{H:Hp}(h:mTru K Q x H):∃k,TruV K x H k/\Q k H:=by
 cases x with
 |non=>exact⟨_,rfl,h⟩
 |bl b=>exact⟨_,rfl,h⟩
 |int i=>
  have h:Q (decide (i≠0)) H:=h
  refine⟨i !=0,rfl,?_⟩
  have e:(i !=0)=decide (i≠0):=by
   rw[Xo];simp
  rw[e];exact h
 |str y=>
  obtain⟨h1,h⟩:y.length<=sizeLine/\Q (decide (y.length≠0)) H:=h
  refine⟨((y.length:Int) !=0),⟨h1,rfl⟩,?_⟩
  have e:((y.length:Int) !=0)=decide (y.length≠0):=by
   rw[Xo];simp
  rw[e];exact h
 |ref p=>
  rcases h with⟨xs,h1,h2⟩|⟨xs,h1,h2⟩|⟨xs,h1,h2⟩
  ·exact⟨_,.inl ⟨xs,h1,rfl⟩,h2⟩
  ·exact⟨_,.inr (.inl ⟨xs,h1,rfl⟩),h2⟩
  ·exact⟨_,.inr (.inr ⟨xs,h1,rfl⟩),h2⟩
 |_=>exact(show False from h).elim
def mTrue(K:W.Frag)(ta:TE):TT:=fun σ H Q=>ta σ H (mTru K Q)
theorem mt_tru(ha:PE X a ta)(he:∀whole,isTrue a X.env whole=(do let v <-whole;standAt a.pos;holding [v] (truthy v)):=by intro _;rfl):PT X a (mTrue X.K ta):=by
 intro pins s σ H Q I h
 exact isTrue_plain (thn (ha pins s σ H _ I h) fun v s1 ⟨x,H1,I1,r1,q1⟩=>c9v pins s1 σ H1 x v Q I1 r1 (c7a q1)) (he _)
def c2o(ta tb:TE):TE:=fun σ H Q=>ta σ H (mB fun c H1=>if c=true then tb σ H1 Q else Q (.bl false) H1)
def mOrV(ta tb:TE):TE:=fun σ H Q=>ta σ H (mB fun c H1=>if c=true then Q (.bl true) H1 else tb σ H1 Q)
variable{rest:List Expr}
theorem b5d(ha:PE X a ta)(hb:PE X (.BoolOp .And (b::rest) pos) tb):PE X (.BoolOp .And (a::b::rest) pos) (c2o ta tb):=by
 have e:c2o ta tb=tAndV ta tb:=by funext σ H Q;unfold c2o tAndV;rw[c2j]
 rw[e];exact pe_and ha hb
theorem me_or(ha:PE X a ta)(hb:PE X (.BoolOp .Or (b::rest) pos) tb):PE X (.BoolOp .Or (a::b::rest) pos) (mOrV ta tb):=by
 have e:mOrV ta tb=tOrV ta tb:=by funext σ H Q;unfold mOrV tOrV;rw[c2j]
 rw[e];exact pe_or ha hb
def mIx(K:W.Frag):R2:=fun x y H Q=>match x,y with
 | .ref p,.int i=>(∃xs v,SqL K H p xs/\atI xs i=some v/\Q v H)\/∃xs v,SqT K H p xs/\atI xs i=some v/\Q v H
 | .str z,.int i=>z.length<=sizeLine/\∃c,atI z.cps.toList i=some c/\Q (.str ⟨#[c]⟩) H
 |_,_=>False
theorem mi_seq:IxR X (mIx X.K):=by
 intro value slice pins s σ H x y v u Q I rx ry h hs
 refine ix_seq value slice pins s σ H x y v u Q I rx ry ?_ hs
 cases x<;>cases y<;>first
  |exact(show False from h).elim
  | (rcases h with⟨xs,v,h1,h2,h3⟩|⟨xs,v,h1,h2,h3⟩
     ·exact .inl ⟨_,xs,_,v,rfl,rfl,h1,h2,h3⟩
     ·exact .inr (.inl ⟨_,xs,_,v,rfl,rfl,h1,h2,h3⟩))
  | (obtain⟨h1,c,h2,h3⟩:=h;exact .inr (.inr ⟨_,_,c,rfl,rfl,h1,h2,h3⟩))
def inS(i j:Str):Bool:=!(Builtin.Str.occurrences j i 0 j.length 1).isEmpty
def mInS(n:Bool):R2:=fun x y H Q=>match x,y with
 | .str i,.str j=>Q (.bl (n^^inS i j)) H
 |_,_=>False
theorem a7j:OpR X (compareOp .In) (mInS false):=c9u.imp fun x y H Q h=>by
 cases x<;>cases y<;>first|exact(show False from h).elim|exact⟨_,_,rfl,rfl,by simpa[mInS,inS]using h⟩
def mSlS:V->Option Int->Option Int->Hp->VK->Prop:=fun x lo hi H Q=>match x with
 | .str z=>z.length<=sizeLine/\Q (.str (cutS z lo hi)) H
 |_=>False
theorem c3o:SlR X mSlS:=by
 intro pins s σ H x v vl vu lo hi sl Q I rx hs pl pu h
 refine sl_str pins s σ H x v vl vu lo hi sl Q I rx hs pl pu ?_
 cases x<;>first|exact(show False from h).elim|exact⟨_,rfl,h.1,h.2⟩
def mI(R:Option Int->Hp->Prop):VK:=fun x H1=>match x with| .int i=>R (some i) H1|_=>False
def c2p(t:TE):TO:=fun σ H Q=>t σ H (mI Q)
theorem a3r(h:PE X e te):PO X (some e) (c2p te):=by
 have q:c2p te=tPart te:=by
  funext σ H Q
  unfold c2p tPart
  congr 1
  funext x H1
  cases x<;>simp[mI]
 rw[q];exact po_some h
def mLen(K:W.Frag):List V->Hp->VK->Prop:=fun vs H Q=>match vs with
 | [.str y]=>y.length<=sizeLine/\Q (.int y.length) H
 | [.ref p]=>(∃xs,SqL K H p xs/\Q (.int xs.length) H)\/∃xs,SqT K H p xs/\Q (.int xs.length) H
 |_=>False
theorem mc_len:a5t X (.builtin "len") (mLen X.K):=by
 intro pins s σ H xs us Q I r h
 refine d2t pins s σ H xs us Q I r ?_
 unfold mLen at h
 split at h
 ·exact⟨_,_,rfl,⟨h.1,rfl⟩,h.2⟩
 ·rcases h with⟨ys,h1,h2⟩|⟨ys,h1,h2⟩
  ·exact⟨_,_,rfl,.inl ⟨ys,h1,rfl⟩,h2⟩
  ·exact⟨_,_,rfl,.inr ⟨ys,h1,rfl⟩,h2⟩
 ·exact h.elim
theorem b7f(K:W.Frag)(t:Value):W.kitOne K t t=some true:=by
 unfold W.kitOne
 rw[if_pos (by simp)]
theorem c7b:∀{bs:List Bool}{us:List Value},Vals (bs.map V.bl) us->us=bs.map Value.bool
 | [],_,.nil=>rfl
 |b::bs,_,.cons r t=>by
  have r:_=Value.bool b:=r
  rw[Zu,r,c7b t]
theorem all_range(bs:List Bool):((List.range bs.length).all fun i=>bs.getD i true)=bs.all id:=by
 rw[Xo,Xe,Xe]
 constructor
 ·intro h x hx
  obtain⟨i,hi,e⟩:=List.getElem_of_mem hx
  have:=h i (Xi.mpr hi)
  rw[Z3,Zb hi]at this
  simpa[e]using this
 ·intro h i hi
  have hi:=Xi.mp hi
  rw[Z3,Zb hi]
  exact h _ (Vf hi)
def mAll(K:W.Frag)(f:List Bool->Bool):List V->Hp->VK->Prop:=fun vs H Q=>match vs with
 | [.ref p]=>∃bs:List Bool,SqL K H p (bs.map V.bl)/\Q (.bl (f bs)) H
 |_=>False
theorem d0i{pins:List (Addr×Obj)}{s:Shared}{σ:St}{H:Hp}{p:Addr}{bs:List Bool}{Q:VK}(hc:X.calm=true)(I:Inv X pins σ H s)(hs:SqL X.K H p (bs.map V.bl))(f:(Nat->Bool)->Nat->Bool)(q:Q (.bl (f (fun i=>bs.getD i true) bs.length)) H){E:Value->Shared->Prop}:
  wpAny (model X.prog X.w) X.A.in1 (pyIter (.ref p)) (fun it s2=>∃J fp wr n P St tr,it=.ref J/\Walks X.prog X.w X.A.in1 J fp wr n P St/\St 0 s2.heap/\TruthOf X.prog X.w X.A.in1 P tr/\
   ∀h' tk,(∀b o,b∉wr->s2.heap.get? b=some o->h'.get? b=some o)->EP X pins σ Q (.bool (f tr n)) { s2 with heap:=h',toks:=tk}) E s:=by
 obtain⟨its,r,pl,hz⟩:=I.list hs
 have e:=c7b r
 subst e
 have hl:p<s.heap.objs.size:=by
  obtain⟨o,n,h1,_⟩:=pl
  exact Zs h1
 refine wpAny_pyIter_list pl.isList ?_
 refine⟨s.heap.objs.size,[s.heap.objs.size,p],[s.heap.objs.size],(bs.map Value.bool).toArray.size,_,_,fun i=>bs.getD i true,rfl,Walks.list (A:=X.A.in1) (show X.A.in1.handled=none from I.ok.hd hc) s.heap.objs.size p (Yc hl) (bs.map Value.bool).toArray,
  ⟨⟨_,Z2 _ rfl,rfl,rfl⟩,pl.isList.at fun o e=>Zh _ e⟩,fun i v s' Q' E' hv hq=>?_,fun h' tk hk=>?_⟩
 ·have hv:(bs.map Value.bool).toArray[i]? =some v:=hv
  rw[Ti,Yu]at hv
  cases e:bs[i]? with
  |none=>rw[e]at hv;cases hv
  |some b=>
   rw[e]at hv
   have hv:Value.bool b=v:=Zq hv
   subst hv
   have hq:Q' (bs.getD i true) s':=hq
   rw[Z3,e]at hq
   exact Y6 hq
 ·refine⟨.bl _,H,I.kept (fun b o e=>hk b o ?_ (Zh _ e)),rfl,by simpa using q⟩
  intro z
  have z:b=s.heap.objs.size:=by simpa using z
  exact absurd (Zs e) (by rw[z];exact Wj _)
theorem mc_all(hc:X.calm=true):a5t X (.builtin "all") (mAll X.K fun bs=>bs.all id):=by
 intro pins s σ H xs us Q I r h
 unfold mAll at h
 split at h
 ·obtain⟨u,rfl,r1⟩:=vals1 r
  cases r1
  obtain⟨bs,hs,q⟩:=h
  exact call_all_walk (d0i hc I hs (fun tr n=>(List.range n).all tr) (by rw[all_range];exact q))
 ·exact h.elim
theorem strs_of{ys:List Str}:∀{us:List Value},Vals (ys.map V.str) us->StrsAre us ys:=by
 induction ys with
 |nil=>intro us r;rw[Xs]at r;cases r;exact .nil
 |cons n ns ih=>
  intro us r
  rw[Zu]at r
  cases r with
  |cons r1 r2=>
   obtain⟨t,e⟩:=r1
   subst e
   exact .cons n t (ih r2)
def b8l(K:W.Frag):V->List V->Hp->VK->Prop:=fun x vs H Q=>match x,vs with
 | .str sep,[.ref p]=>∃ys:List Str,SqL K H p (ys.map V.str)/\(ys.map (·.length)).sum+ys.length*sep.length<=16777216/\Q (.str (Txt.join sep ys)) H
 |_,_=>False
theorem mm_join:MtR X "str.join" (b8l X.K):=by
 intro pins s σ H x xs v us Q I rx rs h
 unfold b8l at h
 split at h
 ·obtain⟨t,rfl⟩:=rx
  obtain⟨u,rfl,r1⟩:=vals1 rs
  cases r1
  obtain⟨ys,hs,hz,q⟩:=h
  obtain⟨its,r,pl,_⟩:=I.list hs
  exact PyProof.Rows.join_list pl.isList (by simpa using strs_of r) hz fun t' k=>⟨.str _,H,I.tok _,⟨_,rfl⟩,q⟩
 ·exact h.elim
end
section
variable{X:Cx}{a b c e:Expr}{ta tb tc te:TE}{pos:Pos}
def mNotV(K:W.Frag)(ta:TE):TE:=fun σ H Q=>ta σ H (mTru K fun b H'=>Q (.bl (!b)) H')
theorem me_not(ha:PE X a ta):PE X (.UnaryOp .Not a pos) (mNotV X.K ta):=by
 intro pins s σ H Q I h
 refine UnaryOp_ (thn (ha pins s σ H _ I h) fun v s1 ⟨x,H1,I1,r1,q1⟩=>?_)
 exact not_of (thn (c9v pins s1 σ H1 x v _ I1 r1 (c7a q1)) fun b s2 ⟨H2,I2,q2⟩=>⟨.bl (!b),H2,I2,rfl,q2⟩)
def b9z:V->List V->Hp->VK->Prop:=fun x vs H Q=>match x,vs with
 | .ref l,[y]=>∃xs,H l=some (.lst xs)/\xs.length<sizeLine/\Q .non (upd H l (.lst (xs++[y])))
 |_,_=>False
theorem a3v:MtR X "list.append" b9z:=by
 intro pins s σ H x xs v us Q I rx rs h
 refine c1d pins s σ H x xs v us Q I rx rs ?_
 unfold b9z at h
 split at h
 ·obtain⟨ys,h1,h2,h3⟩:=h
  exact⟨_,ys,_,rfl,rfl,h1,h2,h3⟩
 ·exact h.elim
def mPop:V->List V->Hp->VK->Prop:=fun x vs H Q=>match x,vs with
 | .ref l,[]=>∃xs y,H l=some (.lst (xs++[y]))/\Q y (upd H l (.lst xs))
 |_,_=>False
theorem b1f:MtR X "list.pop" mPop:=by
 intro pins s σ H x xs v us Q I rx rs h
 refine mt_pop pins s σ H x xs v us Q I rx rs ?_
 unfold mPop at h
 split at h
 ·obtain⟨ys,y,h1,h2⟩:=h
  exact⟨_,_,y,rfl,rfl,h1,by simp,by rw[Vx];exact h2⟩
 ·exact h.elim
def mUn(g:Int->Int):V->Hp->VK->Prop:=fun x H Q=>match x with| .int i=>Q (.int (g i)) H|_=>False
theorem a5y:UnR X (unaryOp .USub) (mUn fun i=>-i):=by
 intro pins s σ H x v Q I rx h
 refine un_neg pins s σ H x v Q I rx ?_
 cases x<;>first|exact(show False from h).elim|exact⟨_,rfl,h⟩
end
section
variable{X:Cx}
theorem a2v{x:Str}{z:Str}{tk:Tok}{pos:Pos}(hg:Gl X x)(hm:X.mg x=some (.str z tk))(hd:(x==("__debug__":Str))=false:=by decide):PE X (.Name x pos) (tC (.str z)):=a5j hg hm ⟨tk,rfl⟩ hd
theorem b0w{x:Str}{z:Int}{tk:Tok}{pos:Pos}(hg:Gl X x)(hm:X.mg x=some (.int z tk))(hd:(x==("__debug__":Str))=false:=by decide):PE X (.Name x pos) (tC (.int z)):=a5j hg hm ⟨tk,rfl⟩ hd
end
section
variable{X:Cx}{a b c e o:Expr}{es:List Expr}{ta tb tc te to:TE}{t:TA}{pos:Pos}{tg l:Expr}{tl:TE}
theorem b1g{x:Str}{n:String}{pos:Pos}(hg:Gl X x)(hm:X.mg x=none)(hv:bootBuiltins x=some (.type n))(hn:x≠"__name__":=by decide)(hd:(x==("__debug__":Str))=false:=by decide):PE X (.Name x pos) (tC (.ty n)):=pe_bltn hg hm hv rfl hn hd
theorem a1f(K:W.Frag)(h:X.K=K):OpR X (binaryOp .Add) (mAdd K):=h▸mo_add
theorem a1n(K:W.Frag)(h:X.K=K)(ha:PE X a ta)(he:∀whole,isTrue a X.env whole=(do let v <-whole;standAt a.pos;holding [v] (truthy v)):=by intro _;rfl):PT X a (mTrue K ta):=h▸mt_tru ha he
theorem ke_not(K:W.Frag)(h:X.K=K)(ha:PE X a ta):PE X (.UnaryOp .Not a pos) (mNotV K ta):=h▸me_not ha
theorem a0n(K:W.Frag)(h:X.K=K):IxR X (mIx K):=h▸mi_seq
theorem a3d(K:W.Frag)(h:X.K=K):a5t X (.builtin "len") (mLen K):=h▸mc_len
theorem d0j(K:W.Frag)(h:X.K=K)(hc:X.calm=true):a5t X (.builtin "all") (mAll K fun bs=>bs.all id):=h▸mc_all hc
theorem a9c(K:W.Frag)(h:X.K=K):MtR X "str.join" (b8l K):=h▸mm_join
theorem b7g(K:W.Frag)(h:X.K=K)(hl:PE X l tl):PI X tg l (iList K tl):=h▸pi_list hl
theorem kpi_tup(K:W.Frag)(h:X.K=K)(hl:PE X l tl):PI X tg l (iTup K tl):=h▸pi_tup hl
theorem b1h(K:W.Frag)(h:X.K=K){name:Str}{apos cpos:Pos}{T id:String}{r:V->List V->Hp->VK->Prop}(pa:PlainAttrs T)(slot:Slot T name id)(hty:typeOf (.builtin id)=pure (.type "method_descriptor"))(hm:MtR X id r)(ho:PE X o to)
  (hbase:attributeBase o name X.env (eval o X.env)=eval o X.env:=by rfl)(hline:(apos.endLine==cpos.line)=true:=by rfl):PE X (.Call (.Attribute o name apos) [] [] cpos) (tBM0 K T r to):=h▸pe_bm0 pa slot hty hm ho hbase hline
theorem a3x(K:W.Frag)(h:X.K=K){name:Str}{apos cpos:Pos}{T id:String}{r:V->List V->Hp->VK->Prop}(pa:PlainAttrs T)(slot:Slot T name id)(hty:typeOf (.builtin id)=pure (.type "method_descriptor"))(hm:MtR X id r)(ho:PE X o to)(ha:PA X (e::es) t)
  (hbase:attributeBase o name X.env (eval o X.env)=eval o X.env:=by rfl)
  (hfew:((backTo cpos (starEach (e::es) X.env)).all (fun x=>!x.1)&&(backToKw cpos (keywordEach [] X.env)).all (fun x=>x.1.isSome)
   &&decide ((e::es).length+([]:List Keyword).length+(if([]:List Keyword).isEmpty then 0 else 1)<30))=true:=by rfl)
  (hline:(apos.endLine==cpos.line)=true:=by rfl)(hs:starEach (e::es) X.env=(false,eval e X.env)::starEach es X.env:=by rfl)(hplain:(backTo cpos (starEach es X.env)).any (·.1)=false:=by rfl):
  PE X (.Call (.Attribute o name apos) (e::es) [] cpos) (tBM K T r to t):=h▸pe_bm pa slot hty hm ho ha hbase hfew hline hs hplain
theorem a9p{b c:Bool}(h:(false^^b)=c):b=c:=by cases b<;>exact h
end
theorem a3i(c:Nat)(j:Str):inS ⟨#[c]⟩ j=decide (c∈j.cps.toList):=PySem.StrLaws.found_one j c
theorem b8m{α:Type}{xs:List α}{i:Int}(h0:0<=i)(h1:i<(xs.length:Int)):∃v,atI xs i=some v/\xs[i.toNat]? =some v:=by
 have hk:i.toNat<xs.length:=by omega
 have ek:i=((i.toNat:Nat):Int):=by omega
 have q:xs[i.toNat]? =some xs[i.toNat]:=Zb hk
 refine⟨xs[i.toNat],?_,q⟩
 have:=a6v q
 rw[<-ek]at this
 exact this
theorem a0d{H:Hp}{p:Addr}(h:H p=none)(o:HO):Same H (upd H p o):=fun b u q=>by rw[a0j (a1b q h)];exact q
theorem a2k{H H':Hp}{p:Addr}{o:HO}(e:Same H H')(h:H p=none):Same H (upd H' p o):=fun b u q=>by rw[a0j (a1b q h)];exact e b u q
theorem Same.tup{K:W.Frag}{H H':Hp}{a:Addr}{xs:List V}(e:Same H H')(h:SqT K H a xs):SqT K H' a xs:=by
 rcases h with(h|⟨o,h⟩)|h
 ·exact .inl (.inl (e _ _ h))
 ·exact .inl (.inr ⟨o,e _ _ h⟩)
 ·exact .inr h
theorem cdiv_i{i j:Int}(h1:0<j)(h2:j<1073741824):CDiv i j:=⟨h1,h2⟩
theorem b6u{i j:Int}(h:-(2^64)<j/\j<2^64):IntMulOk i j:=CMul.ok (.inr h)
theorem c8o{i j:Int}(h:-(2^64)<i/\i<2^64):IntMulOk i j:=CMul.ok (.inl h)
section
variable{K:W.Frag}{σ:St}{H:Hp}{Q:VK}{D:Ends}{ta tb tc te:TE}{t u:TS}{A B:TT}{P:Bool->Hp->Prop}{v x y:V}{i j:Int}{n:Nat}{b:Bool}{p q:Str}
theorem mVar_i(h:σ[n]? =some (some v))(k:Q v H):mVar n σ H Q:=by unfold mVar;rw[h];exact k
theorem tC_i(k:Q v H):tC v σ H Q:=k
theorem tOp_i{r:R2}(k:ta σ H fun x H1=>tb σ H1 fun y H2=>r x y H2 Q):tOp r ta tb σ H Q:=k
theorem tUn_i{r:V->Hp->VK->Prop}(k:ta σ H fun x H1=>r x H1 Q):tUn r ta σ H Q:=k
theorem mUn_i{g:Int->Int}(k:Q (.int (g i)) H):mUn g (.int i) H Q:=k
theorem m20_i{g:Int->Int->V}(k:Q (g i j) H):m20 g (.int i) (.int j) H Q:=k
theorem m2_i{C:Int->Int->Prop}{g:Int->Int->V}(c:C i j)(k:Q (g i j) H):m2 C g (.int i) (.int j) H Q:=⟨c,k⟩
theorem mAdd_i(k:Q (.int (i+j)) H):mAdd K (.int i) (.int j) H Q:=k
theorem b8n(c:p.length+q.length<=sizeLine)(k:Q (.str (p++q)) H):mAdd K (.str p) (.str q) H Q:=⟨c,k⟩
theorem b8o(c:IntMulOk i j)(k:Q (.int (i*j)) H):mMul (.int i) (.int j) H Q:=⟨c,k⟩
theorem mEq_i(k:Q (.bl (b^^decide (i=j))) H):mEq b (.int i) (.int j) H Q:=k
theorem mEq_s(k:Q (.bl (b^^decide (p=q))) H):mEq b (.str p) (.str q) H Q:=k
theorem mInS_i(k:Q (.bl (b^^inS p q)) H):mInS b (.str p) (.str q) H Q:=k
theorem mB_i(k:P b H):mB P (.bl b) H:=k
theorem mTest_i(k:ta σ H (mB P)):c2n ta σ H P:=k
theorem mTrue_i(k:ta σ H (mTru K P)):mTrue K ta σ H P:=k
theorem mTru_b(k:P b H):mTru K P (.bl b) H:=k
theorem d3e{r r':R2}(k:ta σ H fun x H1=>tb σ H1 fun y H2=>r x y H2 (mB fun k H3=>if k=true then tc σ H3 fun w' H4=>r' y w' H4 Q else Q (.bl false) H3)):b5c r r' ta tb tc σ H Q:=k
theorem mAndV_i(k:ta σ H (mB fun c H1=>if c=true then tb σ H1 Q else Q (.bl false) H1)):c2o ta tb σ H Q:=k
theorem mOrV_i(k:ta σ H (mB fun c H1=>if c=true then Q (.bl true) H1 else tb σ H1 Q)):mOrV ta tb σ H Q:=k
theorem mNotV_i(k:ta σ H (mTru K fun b H'=>Q (.bl (!b)) H')):mNotV K ta σ H Q:=k
theorem tIf_i(k:A σ H fun c H1=>if c=true then ta σ H1 Q else tb σ H1 Q):tIf A ta tb σ H Q:=k
theorem tAnd_i(k:A σ H fun c H1=>if c=true then B σ H1 P else P false H1):tAnd A B σ H P:=k
theorem tOr_i(k:A σ H fun c H1=>if c=true then P true H1 else B σ H1 P):tOr A B σ H P:=k
theorem tNot_i(k:A σ H fun c H1=>P (!c) H1):tNot A σ H P:=k
theorem b8p(k:t { D with nx:=u D} σ H):tSeq t u D σ H:=k
theorem b0x(k:D.nx σ H):tNext D σ H:=k
theorem tRet_i(k:te σ H D.rt):tRet te D σ H:=k
theorem tIfS_i(k:A σ H fun b H1=>if b=true then t D σ H1 else u D σ H1):tIfS A t u D σ H:=k
theorem tAsg_i{g:TG}(k:te σ H fun x H1=>g x σ H1 D.nx):tAsg te g D σ H:=k
theorem tDrop_i(k:te σ H fun _ H1=>D.nx σ H1):tDrop te D σ H:=k
theorem a5n{N:St->Hp->Prop}(k:N (σ.set n (some v)) H):b5w n v σ H N:=k
theorem tCB_i{r:List V->Hp->VK->Prop}{a:TA}(k:a σ H fun vs H1=>r vs H1 Q):tCB r a σ H Q:=k
theorem tCons_i{a:TA}{R:List V->Hp->Prop}(k:ta σ H fun x H1=>a σ H1 fun xs H2=>R (x::xs) H2):b8d ta a σ H R:=k
theorem tNil_i{R:List V->Hp->Prop}(k:R [] H):tNil σ H R:=k
theorem tBM_i{T:String}{r:V->List V->Hp->VK->Prop}{a:TA}(k:ta σ H fun x H1=>tyV K T x H1/\a σ H1 fun xs H2=>r x xs H2 Q):tBM K T r ta a σ H Q:=k
theorem tBM0_i{T:String}{r:V->List V->Hp->VK->Prop}(k:ta σ H fun x H1=>tyV K T x H1/\r x [] H1 Q):tBM0 K T r ta σ H Q:=k
theorem tTup_i{a:TA}(k:a σ H fun xs H1=>xs.length<=sizeLine/\∀p,H1 p=none->Q (.ref p) (upd H1 p (.tup xs))):tTup a σ H Q:=k
theorem tLst_i{a:TA}(k:a σ H fun xs H1=>xs.length<=sizeLine/\∀p,H1 p=none->Q (.ref p) (upd H1 p (.lst xs))):tLst a σ H Q:=k
theorem tSl_i{r:V->Option Int->Option Int->Hp->VK->Prop}{tl th:TO}(k:te σ H fun x H1=>tl σ H1 fun l H2=>th σ H2 fun u H3=>r x l u H3 Q):tSl r te tl th σ H Q:=k
theorem d0k{R:Option Int->Hp->Prop}(k:R none H):c6u σ H R:=k
theorem mPart_i{R:Option Int->Hp->Prop}(k:te σ H (mI R)):c2p te σ H R:=k
theorem mI_i{R:Option Int->Hp->Prop}(k:R (some i) H):mI R (.int i) H:=k
theorem c3p{lo hi:Option Int}(c:p.length<=sizeLine)(k:Q (.str (cutS p lo hi)) H):mSlS (.str p) lo hi H Q:=⟨c,k⟩
theorem b3g(c:p.length<=sizeLine)(k:Q (.int p.length) H):mLen K [.str p] H Q:=⟨c,k⟩
theorem b0c{a:Addr}{xs:List V}(c:SqL K H a xs)(k:Q (.int xs.length) H):mLen K [.ref a] H Q:=.inl ⟨xs,c,k⟩
theorem b5e{a:Addr}{xs:List V}(c:SqT K H a xs)(k:Q (.int xs.length) H):mLen K [.ref a] H Q:=.inr ⟨xs,c,k⟩
theorem a2f{a:Addr}{xs:List V}(c:SqL K H a xs)(e:atI xs i=some v)(k:Q v H):mIx K (.ref a) (.int i) H Q:=.inl ⟨xs,v,c,e,k⟩
theorem a1c{a:Addr}{xs:List V}(c:SqT K H a xs)(e:atI xs i=some v)(k:Q v H):mIx K (.ref a) (.int i) H Q:=.inr ⟨xs,v,c,e,k⟩
theorem a4y{c:Nat}(z:p.length<=sizeLine)(e:atI p.cps.toList i=some c)(k:Q (.str ⟨#[c]⟩) H):mIx K (.str p) (.int i) H Q:=⟨z,c,e,k⟩
theorem a3j{a:Addr}{xs:List V}(e:H a=some (.lst xs))(c:xs.length<sizeLine)(k:Q .non (upd H a (.lst (xs++[v])))):b9z (.ref a) [v] H Q:=⟨xs,e,c,k⟩
theorem iteB{c d:Prop}(h1:b=true->c)(h2:b=false->d):if b=true then c else d:=by
 cases b with
 |true=>exact h1 rfl
 |false=>exact h2 rfl
theorem d3f{sp:Sp}{E:XK}{a:TA}(k:a σ H fun vs H1=>sp vs H1 Q E):c2f sp [] E a σ H Q:=by
 unfold c2f
 have e:(fun(vs:List V) (H1:Hp)=>sp (vs++[]) H1 Q E)=fun vs H1=>sp vs H1 Q E:=by funext vs H1;rw[Yr]
 rw[e];exact k
theorem tFor_i{wi:TI}{g:TG}(k:wi σ H fun J H1=>ForW J g t D σ H1):tFor wi g t D σ H:=k
theorem iStr_i{R:It->Hp->Prop}(k:ta σ H fun v H1=>∃x,v=.str x/\R (Its x) H1):iStr ta σ H R:=k
theorem iList_i{R:It->Hp->Prop}(k:ta σ H fun x H1=>∃a,x=.ref a/\(∃xs,SqL K H1 a xs)/\R (Itl K a) H1):iList K ta σ H R:=k
theorem iTup_i{R:It->Hp->Prop}(k:ta σ H fun x H1=>∃a,x=.ref a/\(∃xs,SqT K H1 a xs)/\R (Itt K a) H1):iTup K ta σ H R:=k
theorem iRng1_i{a:TA}{R:It->Hp->Prop}(k:a σ H fun vs H1=>∃j:Int,vs=[.int j]/\-(2^62)<=j/\j<2^62/\R (Itr 0 j.toNat) H1):iRng1 a σ H R:=k
theorem tComp_i{wi:TI}{tt:TT}(k:wi σ H fun J H1=>∀D,H1 D=none->c2h J tt te σ Q D H1):c2i wi tt te σ H Q:=k
theorem a9d(Post:St->Hp->Prop)(h1:∀σ' H',Post σ' H'->u D σ' H')(h2:(∀σ' H',Post σ' H'->u D σ' H')->t { D with nx:=u D} σ H):tSeq t u D σ H:=h2 h1
theorem b2g{z:Str}{i:Int}(h0:0<=i)(h1:i<(z.length:Int)):∃c,atI z.cps.toList i=some c:=by
 obtain⟨c,hc,_⟩:=b8m (xs:=z.cps.toList) h0 (by simp only[Xx];exact h1)
 exact⟨c,hc⟩
end
mutual
inductive Den(K:W.Frag)(H:Hp):V->PyData->Prop
 |non:Den K H .non .none
 |bl (b:Bool):Den K H (.bl b) (.bool b)
 |int (i:Int):Den K H (.int i) (.int i)
 |str (x:Str):Den K H (.str x) (.str x)
 |tup {a:Addr} {us:List V} {ds:List PyData}:SqT K H a us->DenL K H us ds->Den K H (.ref a) (.tuple ds)
inductive DenL(K:W.Frag)(H:Hp):List V->List PyData->Prop
 |nil:DenL K H [] []
 |cons {u:V} {us:List V} {d:PyData} {ds:List PyData}:Den K H u d->DenL K H us ds->DenL K H (u::us) (d::ds)
end
mutual
theorem Den.monoT{K:W.Frag}{H H':Hp}(e:∀a xs,SqT K H a xs->SqT K H' a xs):∀{v:V}{d:PyData},Den K H v d->Den K H' v d
 |_,_,.non=>.non
 |_,_,.bl b=>.bl b
 |_,_,.int i=>.int i
 |_,_,.str x=>.str x
 |_,_,.tup h l=>.tup (e _ _ h) (DenL.monoT e l)
theorem DenL.monoT{K:W.Frag}{H H':Hp}(e:∀a xs,SqT K H a xs->SqT K H' a xs):∀{v:List V}{d:List PyData},DenL K H v d->DenL K H' v d
 |_,_,.nil=>.nil
 |_,_,.cons h l=>.cons (Den.monoT e h) (DenL.monoT e l)
end
theorem Den.mono{K:W.Frag}{H H':Hp}(e:Same H H'){v:V}{d:PyData}(h:Den K H v d):Den K H' v d:=h.monoT fun _ _ q=>e.tup q
theorem DenL.mono{K:W.Frag}{H H':Hp}(e:Same H H'){v:List V}{d:List PyData}(h:DenL K H v d):DenL K H' v d:=h.monoT fun _ _ q=>e.tup q
theorem b3h{K:W.Frag}{H:Hp}{p:Addr}{ys:List V}{o:HO}(h:H p=some (.lst ys)):∀a xs,SqT K H a xs->SqT K (upd H p o) a xs:=fun a xs q=>by
 rcases q with(q|⟨o',q⟩)|q
 ·exact .inl (.inl (by rw[a0j (c2d q h (fun z=>by cases z))];exact q))
 ·exact .inl (.inr ⟨o',by rw[a0j (c2d q h (fun z=>by cases z))];exact q⟩)
 ·exact .inr q
theorem Den.lst{K:W.Frag}{H:Hp}{p:Addr}{ys:List V}{o:HO}(h:H p=some (.lst ys)){v:V}{d:PyData}(q:Den K H v d):Den K (upd H p o) v d:=q.monoT (b3h h)
theorem DenL.lst{K:W.Frag}{H:Hp}{p:Addr}{ys:List V}{o:HO}(h:H p=some (.lst ys)){v:List V}{d:List PyData}(q:DenL K H v d):DenL K (upd H p o) v d:=q.monoT (b3h h)
section
variable{K:W.Frag}{H:Hp}
theorem DenL.length:∀{us:List V}{ds:List PyData},DenL K H us ds->us.length=ds.length
 |_,_,.nil=>rfl
 |_,_,.cons _ l=>by rw[length_cons,length_cons,DenL.length l]
theorem DenL.get:∀{us:List V}{ds:List PyData}{i:Nat}{u:V},DenL K H us ds->us[i]? =some u->∃d,ds[i]? =some d/\Den K H u d
 |_,_,_,_,.nil,e=>by simp at e
 |_,_,0,_,.cons h _,e=>by simp at e;subst e;exact⟨_,rfl,h⟩
 |_,_,i+1,u,.cons _ l,e=>by
  obtain⟨d,h1,h2⟩:=DenL.get (i:=i) (u:=u) l (by simpa using e)
  exact⟨d,by simpa using h1,h2⟩
theorem DenL.append:∀{us vs:List V}{ds es:List PyData},DenL K H us ds->DenL K H vs es->DenL K H (us++vs) (ds++es)
 |_,_,_,_,.nil,l=>l
 |_,_,_,_,.cons h t,l=>.cons h (DenL.append t l)
theorem DenL.take:∀{us:List V}{ds:List PyData}(n:Nat),DenL K H us ds->DenL K H (us.take n) (ds.take n)
 |_,_,0,_=>.nil
 |_,_,_+1,.nil=>.nil
 |_,_,n+1,.cons h t=>.cons h (DenL.take n t)
theorem DenL.drop:∀{us:List V}{ds:List PyData}(n:Nat),DenL K H us ds->DenL K H (us.drop n) (ds.drop n)
 |_,_,0,l=>l
 |_,_,_+1,.nil=>.nil
 |_,_,n+1,.cons _ t=>DenL.drop n t
end
section
variable{X:Cx}{pins:List (Addr×Obj)}{σ:St}{H:Hp}{s:Shared}
theorem b1i:∀{ds:List PyData}{i:Nat}{d:PyData},ds[i]? =some d->d.depth<=PyData.depthAll ds
 | [],_,_,e=>by simp at e
 |x::r,0,d,e=>by simp at e;subst e;unfold PyData.depthAll;omega
 |x::r,i+1,d,e=>by
  have:=b1i (ds:=r) (i:=i) (d:=d) (by simpa using e)
  unfold PyData.depthAll;omega
theorem eq_same(I:Inv X pins σ H s):∀(n:Nat)(A:Around)(d:PyData)(v v':V)(u u':Value),d.depth<=n->A.units+n<cLine->Den X.K H v d->Den X.K H v' d->RelV v u->RelV v' u'->SeqAt.EqAt A s u u' true:=by
 intro n
 induction n with
 |zero=>
  intro A d v v' u u' hd hu h h' r r'
  cases h with
  |non=>cases h';cases r;cases r';exact Wl _
  |bl b=>cases h';cases r;cases r';exact Wl _
  |int i=>
   cases h'
   obtain⟨t,rfl⟩:=r
   obtain⟨t',rfl⟩:=r'
   have:=W5 (A:=A) (s:=s) i t i t'
   simpa using this
  |str x=>
   cases h'
   obtain⟨t,rfl⟩:=r
   obtain⟨t',rfl⟩:=r'
   have:=W4 (A:=A) (s:=s) x t x t'
   simpa using this
  |tup _ _=>simp[PyData.depth]at hd
 |succ n ih=>
  intro A d v v' u u' hd hu h h' r r'
  cases h with
  |non=>cases h';cases r;cases r';exact Wl _
  |bl b=>cases h';cases r;cases r';exact Wl _
  |int i=>
   cases h'
   obtain⟨t,rfl⟩:=r
   obtain⟨t',rfl⟩:=r'
   have:=W5 (A:=A) (s:=s) i t i t'
   simpa using this
  |str x=>
   cases h'
   obtain⟨t,rfl⟩:=r
   obtain⟨t',rfl⟩:=r'
   have:=W4 (A:=A) (s:=s) x t x t'
   simpa using this
  | @tup a us ds hs hl=>
   cases h' with
   | @tup b us' _ hs' hl'=>
    cases r
    cases r'
    by_cases e:a=b
    ·subst e;exact Wl _
    ·obtain⟨its,rv,p,_⟩:=I.tuple hs
     obtain⟨its',rv',p',_⟩:=I.tuple hs'
     have l1:=rv.length
     have l2:=rv'.length
     have l3:=hl.length
     have l4:=hl'.length
     have hd':PyData.depthAll ds<=n:=by simp only[PyData.depth]at hd;omega
     have key:=SeqAt.RcAt.tuples (A:=A) (e:=fun _=>true) (show s.heap.IsTuple a its.toArray from p) (show s.heap.IsTuple b its'.toArray from p') (by omega) (fun j h1 h2=>by
      have h1:j<its.length:=by simpa using h1
      have h2:j<its'.length:=by simpa using h2
      have x1:us[j]? =some us[j]:=Zb (by omega)
      have x2:us'[j]? =some us'[j]:=Zb (by omega)
      obtain⟨d,e1,d1⟩:=hl.get x1
      obtain⟨d',e2,d2⟩:=hl'.get x2
      rw[e1]at e2;cases e2
      obtain⟨w1,y1,z1⟩:=rv.get x1
      obtain⟨w2,y2,z2⟩:=rv'.get x2
      have q1:its.toArray[j]=w1:=by
       have:=Zb h1
       rw[y1]at this
       simpa using(Zq this).symm
      have q2:its'.toArray[j]=w2:=by
       have:=Zb h2
       rw[y2]at this
       simpa using(Zq this).symm
      rw[q1,q2]
      exact ih A.in1 d _ _ _ _ (Zz (b1i e1) hd') (by show A.units+1+n<cLine;omega) d1 d2 z1 z2)
     have e3:its.toArray.size=its'.toArray.size:=by simp only[Zf];omega
     rw[e3]at key
     have e4:((List.range (min its'.toArray.size its'.toArray.size)).all (fun _=>true)&&its'.toArray.size==its'.toArray.size)=true:=by simp
     rw[e4]at key
     exact SeqAt.EqAt.of_refs e key
end
section
variable{X:Cx}{a b c e:Expr}{ta tb tc te:TE}{pos:Pos}{tg l:Expr}{tl:TE}
def dEq(K:W.Frag)(n:Bool):R2:=fun x y H Q=>∃(p q:Addr)(us us':List V)(ds:List PyData),x=.ref p/\y=.ref q/\((SqT K H p us/\SqT K H q us')\/(SqL K H p us/\SqL K H q us'))/\DenL K H us ds/\DenL K H us' ds/\PyData.depthAll ds<=149/\Q (.bl (!n)) H
theorem b4b{pins:List (Addr×Obj)}{σ:St}{H:Hp}{s:Shared}(I:Inv X pins σ H s){A:Around}{us us':List V}{ds:List PyData}{its its':List Value}(hl:DenL X.K H us ds)(hl':DenL X.K H us' ds)(rv:Vals us its)(rv':Vals us' its')(hd:PyData.depthAll ds<=149)(hu:A.units+150<cLine):
  ∀j (h1:j<its.toArray.size) (h2:j<its'.toArray.size),SeqAt.EqAt A.in1 s its.toArray[j] its'.toArray[j] true:=fun j h1 h2=>by
 have l1:=rv.length
 have l2:=rv'.length
 have l3:=hl.length
 have l4:=hl'.length
 have h1:j<its.length:=by simpa using h1
 have h2:j<its'.length:=by simpa using h2
 have x1:us[j]? =some us[j]:=Zb (by omega)
 have x2:us'[j]? =some us'[j]:=Zb (by omega)
 obtain⟨d,e1,d1⟩:=hl.get x1
 obtain⟨d',e2,d2⟩:=hl'.get x2
 rw[e1]at e2;cases e2
 obtain⟨w1,y1,z1⟩:=rv.get x1
 obtain⟨w2,y2,z2⟩:=rv'.get x2
 have q1:its.toArray[j]=w1:=by
  have:=Zb h1
  rw[y1]at this
  simpa using(Zq this).symm
 have q2:its'.toArray[j]=w2:=by
  have:=Zb h2
  rw[y2]at this
  simpa using(Zq this).symm
 rw[q1,q2]
 exact eq_same I 149 A.in1 d _ _ _ _ (Zz (b1i e1) hd) (by show A.units+1+149<cLine;omega) d1 d2 z1 z2
theorem ko_eqD(K:W.Frag)(hK:X.K=K)(hu:X.A.units+150<cLine):OpR X (compareOp .Eq) (dEq K false):=by
 subst hK
 intro pins s σ H x y v u Q I rx ry h
 obtain⟨p,q,us,us',ds,rfl,rfl,h,hl,hl',hd,k⟩:=h
 cases rx
 cases ry
 rcases h with⟨hs,hs'⟩|⟨hs,hs'⟩
 ·obtain⟨its,rv,p1,_⟩:=I.tuple hs
  obtain⟨its',rv',p2,_⟩:=I.tuple hs'
  have e3:its.toArray.size=its'.toArray.size:=by simp only[Zf];rw[<-rv.length,<-rv'.length,hl.length,hl'.length]
  refine SeqAt.eq_tupleAt (e:=fun _=>true) (show s.heap.IsTuple p its.toArray from p1) (show s.heap.IsTuple q its'.toArray from p2) (by omega) (b4b I hl hl' rv rv' hd hu) ?_
  rw[e3]
  exact⟨.bl true,H,I,by simp[RelV],k⟩
 ·obtain⟨its,rv,p1,_⟩:=I.list hs
  obtain⟨its',rv',p2,_⟩:=I.list hs'
  have e3:its.toArray.size=its'.toArray.size:=by simp only[Zf];rw[<-rv.length,<-rv'.length,hl.length,hl'.length]
  refine SeqAt.eq_listAt (e:=fun _=>true) p1.isList p2.isList e3 (by omega) (b4b I hl hl' rv rv' hd hu) ?_
  exact⟨.bl true,H,I,by simp[RelV],k⟩
theorem d0l(K:W.Frag)(hK:X.K=K)(hu:X.A.units+150<cLine):OpR X (compareOp .NotEq) (dEq K true):=by
 subst hK
 intro pins s σ H x y v u Q I rx ry h
 obtain⟨p,q,us,us',ds,rfl,rfl,h,hl,hl',hd,k⟩:=h
 cases rx
 cases ry
 rcases h with⟨hs,hs'⟩|⟨hs,hs'⟩
 ·obtain⟨its,rv,p1,_⟩:=I.tuple hs
  obtain⟨its',rv',p2,_⟩:=I.tuple hs'
  have e3:its.toArray.size=its'.toArray.size:=by simp only[Zf];rw[<-rv.length,<-rv'.length,hl.length,hl'.length]
  refine Tz (e:=fun _=>true) (show s.heap.IsTuple p its.toArray from p1) (show s.heap.IsTuple q its'.toArray from p2) (by omega) (b4b I hl hl' rv rv' hd hu) X.prog X.w _ _ ?_
  rw[e3]
  exact⟨.bl false,H,I,by simp[RelV],k⟩
 ·obtain⟨its,rv,p1,_⟩:=I.list hs
  obtain⟨its',rv',p2,_⟩:=I.list hs'
  have e3:its.toArray.size=its'.toArray.size:=by simp only[Zf];rw[<-rv.length,<-rv'.length,hl.length,hl'.length]
  refine SeqAt.RcNeAt.lists (e:=fun _=>true) p1.isList p2.isList e3 (by omega) (b4b I hl hl' rv rv' hd hu) X.prog X.w _ _ ?_
  exact⟨.bl false,H,I,by simp[RelV],k⟩
theorem a7x{k:Nat}{A:Around}(hr:Room k A):A.units+150<cLine:=by have:=hr.un;omega
def mSlL(K:W.Frag):V->Option Int->Option Int->Hp->VK->Prop:=fun x lo hi H Q=>∃a xs,x=.ref a/\SqL K H a xs/\∀p,H p=none->Q (.ref p) (upd H p (.lst (cutV xs lo hi)))
theorem a7y(K:W.Frag)(h:X.K=K):SlR X (mSlL K):=h▸sl_list
def mTup(K:W.Frag):List V->Hp->VK->Prop:=fun vs H Q=>∃p ys,vs=[.ref p]/\((SqL K H p ys/\∀l,H l=none->Q (.ref l) (upd H l (.tup ys)))\/(SqT K H p ys/\Q (.ref p) H))
theorem c3q(K:W.Frag)(h:X.K=K):a5t X (.type "tuple") (mTup K):=h▸c1u
end
open PySem.AutoSeq1 in
open PySem.MeetsSeq PySem.MeetsSeq2 PySem.MeetsSeq3 in
theorem c8p(l:Addr)(items:Array Value)(n:Nat)(b:Addr)(items2:Array Value)(n2:Nat)(dd:Option Addr)(sl:Array (Option Value))(hs0:¬(!items.isEmpty&&Builtin.List.listTooLong (items.size+items2.size))=true)(hs1:items.size<=sizeLine)(hs2:items.size+items2.size<=sizeLine+1):
  Meets (Builtin.«list.extend» ⟨[.ref l,.ref b],[]⟩) (fun _ R s=>s.heap.get? l=some { cls:=.type "list",dict:=none,data:=.seq items n,slots:=#[]}/\s.heap.get? b=some { cls:=.type "tuple",dict:=dd,data:=.seq items2 n2,slots:=sl}/\
   R (.ok (.ret Value.none)) { s with heap:=s.heap.update l (Obj.mapSeq fun x=>x++items2),toks:=s.toks}):=
 .of_wp fun prog w A R s h=>by
  obtain⟨hp,g,d,tk,os⟩:=s
  obtain⟨hl,hb,h⟩:=h
  have f1:=idx_int
  have f2:=PySem.AutoSeq1.sub_tuple_tuple
  have f3:=PySem.AutoSeq1.sub_list_list
  have f4:=PySem.AutoSeq1.sub_tuple_list
  have f5:=PySem.AutoSeq1.sub_list_tuple
  have hz':(items++items2).size<=sizeLine+1:=by rw[Array.size_append];exact hs2
  wp_walk using(wpAny_updateSeq hl rfl (hz:=hs1) (_hz':=hz')),wpAny_loadPart' hl,wpAny_loadPart' hb
  exact⟨_,rfl,h⟩
section
variable{X:Cx}
def mExt(K:W.Frag):V->List V->Hp->VK->Prop:=fun x vs H Q=>∃l b xs zs,x=.ref l/\vs=[.ref b]/\H l=some (.lst xs)/\(H b=some (.lst zs)\/SqT K H b zs)/\xs.length+zs.length<=sizeLine/\Q .non (upd H l (.lst (xs++zs)))
theorem d0m(K:W.Frag)(hK:X.K=K):MtR X "list.extend" (mExt K):=by
 subst hK
 intro pins s σ H x vs v us Q I rx rv h
 obtain⟨l,b,xs,zs,e1,e2,hH,hB,hz,q⟩:=h
 rcases hB with hB|hB
 ·exact c9z pins s σ H x vs v us Q I rx rv ⟨l,b,xs,zs,e1,e2,hH,hB,hz,q⟩
 ·subst e1 e2
  cases rx
  obtain⟨u,rfl,ru⟩:=rv.one
  cases ru
  obtain⟨z,its,n,r,hl,e⟩:=I.lstM hH
  obtain⟨its2,r2,pl,z2⟩:=I.tuple hB
  obtain⟨⟨cls,dd,data,sl⟩,ho,hc,n2,hd⟩:=pl
  simp only at hc hd
  subst hc hd
  have hl2:=r2.length
  have hsz:its.toArray.size+its2.toArray.size<=sizeLine:=by rw[Zf,Zf];omega
  have hlong:¬(!its.toArray.isEmpty&&Builtin.List.listTooLong (its.toArray.size+its2.toArray.size))=true:=by
   rw[b6z hsz,Ws]
   exact Zp
  refine Vg V4 ⟨_,e,rfl⟩ Sa (Tu _ _) (c8p l its.toArray n b its2.toArray n2 dd sl hlong (by rw[Zf];omega) (by omega)) ⟨e,ho,?_⟩
  refine⟨.non,_,I.lset (its':=its++its2) hH e (by simp) (r.append r2) ?_,rfl,q⟩
  rw[Za]
  omega
end
section
variable{prog:Program}{w:World}{A:Around}{E:Value->Shared->Prop}{s:Shared}
theorem b6p{t sl:Addr}{items:Array Value}{vl vu:Value}{lo hi:Option Int}{Q:Value->Shared->Prop}(ht:IsTup s.heap t items)(hs:s.heap.IsSliceOf sl vl vu .none)(pl:IsPart vl lo)(pu:IsPart vu hi)
  (hw:HT.sIx items.size 0 lo=0/\HT.sIx items.size items.size hi=items.size)(h:Q (.ref t) s):wpAny (model prog w) A (getItem (.ref t) (.ref sl)) Q E s:=by
 obtain⟨os,hos,hcs,hds⟩:=id hs
 have hTs:s.TypeIs (.ref sl) "slice":=⟨os,hos,hcs⟩
 unfold getItem
 try with_reducible refine Wi ?_
 first|refine Zd (Zr ?_)|skip
 refine Zd (wpAny_sequenceKey ht.typeIs (by decide) ?_)
 refine Zd (wpAny_callSpecial?_slot (name:=ofString "__getitem__") ht.typeIs Yy
  (wpAny_call_entry Yy ht.typeIs Ty ?_ (Si _ _)))
 show wpAny _ _ (Builtin.Tuple.tupleItemsOf (.ref t)>>=_) _ _ s
 refine Zd (tupleItemsOf_ ht ?_)
 refine Zd (U4 hTs ?_)
 rw[if_pos (by decide)]
 refine Zd (HT.sliceApplied_gen hs pl pu ?_)
 show wpAny _ _ (if(((HT.sIx items.size 0 lo:Nat):Int)==0&&(1:Int)==1&&(HT.sIx items.size items.size hi-HT.sIx items.size 0 lo)==items.size)=true then _ else _) _ _ s
 rw[if_pos (by rw[hw.1,hw.2];simp)]
 refine Zd ?_
 unfold Builtin.Tuple.tupleIsExact
 refine Zd (U4 ht.typeIs (Zr ?_))
 rw[if_pos (by decide)]
 exact Zd (wpAny_rule (Zr ⟨_,rfl,Zr h⟩))
end
section
variable{X:Cx}
def c3r(xs:List V)(lo hi:Option Int):Prop:=HT.sIx xs.length 0 lo=0/\HT.sIx xs.length xs.length hi=xs.length
def mSlT(K:W.Frag):V->Option Int->Option Int->Hp->VK->Prop:=fun x lo hi H Q=>∃a xs,x=.ref a/\SqT K H a xs/\(c3r xs lo hi->Q (.ref a) H)/\(¬c3r xs lo hi->∀p,H p=none->Q (.ref p) (upd H p (.tup (cutV xs lo hi))))
theorem d0n(K:W.Frag)(hK:X.K=K):SlR X (mSlT K):=by
 subst hK
 intro pins s σ H x v vl vu lo hi sl Q I rx hs pl pu h
 obtain⟨a,xs,rfl,hx,h1,h2⟩:=h
 by_cases hw:c3r xs lo hi
 ·cases rx
  obtain⟨its,r,ht,hz⟩:=I.tuple hx
  have hlen:its.toArray.size=xs.length:=by rw[Zf];exact r.length.symm
  exact⟨"tuple",_,Yy.lookup,ht.typeIs,b6p ht hs pl pu (by rw[hlen];exact hw) ⟨.ref a,H,I,rfl,h1 hw⟩⟩
 ·exact sl_tup pins s σ H _ v vl vu lo hi sl Q I rx hs pl pu ⟨a,xs,rfl,hx,hw,h2 hw⟩
theorem c3s{K:W.Frag}{H:Hp}{a:Addr}{us:List V}{ds:List PyData}{lo hi:Option Int}{Q:VK}(hs:SqT K H a us)(hl:DenL K H us ds)
  (q:∀p H',Same H H'->Den K H' (.ref p) (.tuple ((ds.drop (HT.sIx ds.length 0 lo)).take (HT.sIx ds.length ds.length hi-HT.sIx ds.length 0 lo)))->Q (.ref p) H'):mSlT K (.ref a) lo hi H Q:=by
 have l:=hl.length
 refine⟨a,us,rfl,hs,fun hw=>?_,fun hw p hp=>?_⟩
 ·obtain⟨w1,w2⟩:=hw
  refine q a H (Same.refl H) ?_
  rw[<-l,w1,w2,Yt,W1,l,Ve]
  exact .tup hs hl
 ·refine q p _ (a0d hp _) (.tup (SqT.of a0b) ?_)
  unfold cutV
  rw[<-l]
  exact((hl.drop _).take _).mono (a0d hp _)
end
section
variable{σ:St}{H:Hp}{D:Ends}{t:TS}{c:TT}
def d0o(c:TT)(t:TS)(D:Ends)(σ:St)(H:Hp):Prop:=c3c c t D σ H
theorem d3g(k:d0o c t D σ H):c3c c t D σ H:=k
theorem a3w(Pv:Nat->St->Hp->Prop)(n:Nat)(h0:Pv n σ H)
  (hs:∀n σ H (R:Bool->Hp->Prop),Pv n σ H->(∀H1,(∀(D':Ends),D'.rt=D.rt->D'.bk=D.nx->(∀σ' H' m,m<n->Pv m σ' H'->D'.nx σ' H')->(∀σ' H' m,m<n->Pv m σ' H'->D'.ct σ' H')->t D' σ H1)->R true H1)->(∀H1,D.nx σ H1->R false H1)->c σ H R):d0o c t D σ H:=by
 refine⟨Pv,⟨n,h0⟩,fun m σ H p=>?_⟩
 refine hs m σ H _ p (fun H1 k=>?_) (fun H1 k=>k)
 exact⟨fun σ' H'=>∃m',m'<m/\Pv m' σ' H',fun _ _ h=>h,k _ rfl rfl (fun _ _ m' hm hp=>⟨m',hm,hp⟩) (fun _ _ m' hm hp=>⟨m',hm,hp⟩)⟩
end
theorem kit_ty{K:W.Frag}{T n:String}{b:Bool}(h:(if(Value.type T==Value.type n)=true then some true else if W.kitMeta n=true then(fastBuiltinMro T).map (·.contains (.type n))else none)=some b):W.kitOne K (.type T) (.type n)=some b:=h
section
variable{X:Cx}{a:Expr}{ta:TE}
def tyN(K:W.Frag)(H:Hp):V->String->Prop
 | .non,T=>T="NoneType"
 | .bl _,T=>T="bool"
 | .int _,T=>T="int"
 | .str _,T=>T="str"
 | .ref p,T=>(T="list"/\∃xs,SqL K H p xs)\/(T="tuple"/\∃xs,SqT K H p xs)\/(T="dict"/\∃kvs,H p=some (.dK kvs))
 |_,_=>False
def mIs(K:W.Frag):List V->Hp->VK->Prop:=fun vs H Q=>∃x n T b,vs=[x,.ty n]/\tyN K H x T/\(∀K':W.Frag,W.kitOne K' (.type T) (.type n)=some b)/\Q (.bl b) H
theorem b8q(K:W.Frag)(hK:X.K=K):a5t X (.builtin "isinstance") (mIs K):=by
 subst hK
 intro pins s σ H xs us Q I r h
 obtain⟨x,n,T,b,rfl,ht,hk,q⟩:=h
 obtain⟨u,w',rfl,r1,r2⟩:=c2e r
 cases r2
 have fin:∀tk,EP X pins σ Q (.bool b) { s with toks:=tk}:=fun tk=>⟨.bl b,H,I.tok _,rfl,q⟩
 cases x with
 |non=>cases ht;exact b0a I r1 .non (hk _) fin
 |bl y=>cases ht;exact b0a I r1 (.bl y) (hk _) fin
 |int i=>cases ht;exact b0a I r1 (.int i) (hk _) fin
 |str z=>cases ht;exact b0a I r1 (.str z) (hk _) fin
 |ref p=>
  cases r1
  rcases ht with⟨rfl,xs,hs⟩|⟨rfl,xs,hs⟩|⟨rfl,kvs,hs⟩
  ·obtain⟨its,_,⟨o,n',h1,h2,_⟩,_⟩:=I.list hs
   exact Xy To I.kIn ⟨o,h1,h2⟩ (hk _) (fun z=>nomatch z) fin
  ·obtain⟨its,_,⟨o,h1,h2,_⟩,_⟩:=I.tuple hs
   exact Xy W.kitx_tuple I.kIn ⟨o,h1,h2⟩ (hk _) (fun z=>nomatch z) fin
  ·exact b0a (x:=.ref p) I rfl (.dK hs) (hk _) fin
 |_=>exact(show False from ht).elim
end
section
variable{K:W.Frag}{H:Hp}{Q:VK}{i:Int}{p:Str}{b:Bool}{a:Addr}{xs:List V}
theorem is_str(k:Q (.bl true) H):mIs K [.str p,.ty "str"] H Q:=⟨_,_,_,true,rfl,rfl,fun _=>b7f _ _,k⟩
theorem is_int(k:Q (.bl true) H):mIs K [.int i,.ty "int"] H Q:=⟨_,_,_,true,rfl,rfl,fun _=>b7f _ _,k⟩
theorem c6c(k:Q (.bl false) H):mIs K [.int i,.ty "bool"] H Q:=⟨_,_,_,false,rfl,rfl,fun _=>kit_ty (by decide+kernel),k⟩
theorem d0p(c:SqT K H a xs)(k:Q (.bl true) H):mIs K [.ref a,.ty "tuple"] H Q:=⟨_,_,_,true,rfl,.inr (.inl ⟨rfl,xs,c⟩),fun _=>b7f _ _,k⟩
theorem b0y{α:Type}{xs:List α}{i:Int}{v:α}(h:atI xs i=some v):v∈xs:=by
 obtain⟨j,_,e,_⟩:=b3d h
 exact We e
theorem b5z(l m:List Nat):(⟨l.toArray⟩:Str)++⟨m.toArray⟩=⟨(l++m).toArray⟩:=by
 apply V7
 show l.toArray++m.toArray=(l++m).toArray
 simp
theorem str_len(l:List Nat):(⟨l.toArray⟩:Str).length=l.length:=by simp[Str.length]
theorem ints_at{ns:List Int}{i:Int}{v:V}(h:atI (ns.map V.int) i=some v):∃n,v=.int n:=by
 have:=b0y h
 obtain⟨n,_,e⟩:=Z7.mp this
 exact⟨n,e.symm⟩
theorem b0d{lo hi:Option Int}(c:SqL K H a xs)(k:∀p,H p=none->Q (.ref p) (upd H p (.lst (cutV xs lo hi)))):mSlL K (.ref a) lo hi H Q:=⟨a,xs,rfl,c,k⟩
theorem d0q(c:SqL K H a xs)(k:∀l,H l=none->Q (.ref l) (upd H l (.tup xs))):mTup K [.ref a] H Q:=⟨a,xs,rfl,.inl ⟨c,k⟩⟩
theorem mExt_t{zs:List V}{l:Addr}(e:H l=some (.lst xs))(c:SqT K H a zs)(z:xs.length+zs.length<=sizeLine)(k:Q .non (upd H l (.lst (xs++zs)))):mExt K (.ref l) [.ref a] H Q:=⟨l,a,xs,zs,rfl,rfl,e,.inr c,z,k⟩
theorem b1j{l:Addr}{v:V}(e:H l=some (.lst (xs++[v])))(k:Q v (upd H l (.lst xs))):mPop (.ref l) [] H Q:=⟨xs,v,e,k⟩
theorem a5o{q:Addr}{ys:List V}(e1:H a=some (.lst xs))(e2:H q=some (.lst ys))(z:xs.length+ys.length<=sizeLine)(k:∀d,H d=none->Q (.ref d) (upd H d (.lst (xs++ys)))):mAdd K (.ref a) (.ref q) H Q:=.inl ⟨xs,ys,e1,e2,z,k⟩
theorem iRng2_i{σ:St}{ta:TA}{R:It->Hp->Prop}(k:ta σ H fun vs H1=>∃i j:Int,vs=[.int i,.int j]/\(-(2^62)<=i/\i<2^62/\-(2^62)<=j/\j<2^62)/\R (Itr i (j-i).toNat) H1):iRng2 ta σ H R:=k
end
abbrev a2p:Str:=ofString "abcdefghijklmnopqrstuvwxyz"
abbrev a3e:Str:=ofString "ABCDEFGHIJKLMNOPQRSTUVWXYZ"
abbrev figS:Str:=ofString "0123456789"
abbrev b8r:Str:=ofString "+-*/:<=>&^?@#!;$"
abbrev c2q:Str:=ofString "abcdefghijklmnopqrstuvwxyzABCDEFGHIJKLMNOPQRSTUVWXYZ0123456789"
abbrev one(c:Nat):Str:=⟨#[c]⟩
abbrev a8l(K:W.Frag):Sp:=fun vs H Q _=>match vs with| [.ref a,.int k]=>∃ns:List Int,SqL K H a (ns.map V.int)/\0<=k/\k<=1000/\∀v,Q (.int v) H|_=>False
abbrev a6c:Sp:=fun vs H Q _=>match vs with| [.int c,.int m]=>0<=m/\m<=100/\∀(p:Addr)(ns:List Int)(H':Hp),ns.length=m.toNat->Same H H'->H' p=some (.lst (ns.map V.int))->Q (.ref p) H'|_=>False
abbrev a8m:Sp:=fun vs H Q _=>match vs with| [.int n]=>Q (.bl true) H|_=>False
theorem ln{n:Nat}(h:n<=100000):n<=sizeLine:=by rw[Y8];omega
theorem ln1{n:Nat}(h:n<100000):n<sizeLine:=by rw[Y8];omega
theorem c3t:ofString "<-"=⟨[60,45].toArray⟩:=by decide+kernel
theorem tl62:c2q.length=62:=by decide+kernel
section
variable{X:Cx}{e:Expr}{te:TE}{pos:Pos}
def mAug(i:Nat)(te:TE)(ti:TIp):TS:=fun D σ H=>∃x,σ[i]? =some (some x)/\te σ H fun y H1=>ti x y H1 fun z H2=>D.nx (σ.set i (some z)) H2
theorem b3i{i:Nat}{x:Str}{op:Operator}{ti:TIp}{pos':Pos}(hN:X.N.Nodup)(hi:X.N[i]? =some x)(hx:Loc X.env.scope x)(he:PE X e te)(ho:PIp X op ti)(hf:X.fn x=true\/X.env.scope.names.lookup x=some .local:=by first|exact .inl rfl|exact .inr rfl|assumption):
  PS X (.AugAssign (.Name x pos') op e pos) (mAug i te ti):=ps_aug hN hi hx he ho hf
def mIAdd:TIp:=fun x y H Q=>match x,y with
 | .int i,.int j=>Q (.int (i+j)) H
 | .str i,.str j=>i.length+j.length<=sizeLine/\Q (.str (i++j)) H
 |_,_=>False
theorem a6n:PIp X .Add mIAdd:=by
 intro pins s σ H x y v u Q I rx ry h
 refine(OpR.or iop_add c5y) pins s σ H x y v u Q I rx ry ?_
 cases x<;>cases y<;>first
  |exact(show False from h).elim
  |exact .inl ⟨_,_,rfl,rfl,h⟩
  |exact .inr ⟨_,_,rfl,rfl,h.1,h.2⟩
end
section
variable{σ:St}{H:Hp}{Q:VK}{D:Ends}{te:TE}{n:Nat}{v:V}{i j:Int}
theorem mAug_i{ti:TIp}(h:σ[n]? =some (some v))(k:te σ H fun y H1=>ti v y H1 fun z H2=>D.nx (σ.set n (some z)) H2):mAug n te ti D σ H:=⟨v,h,k⟩
theorem mIAdd_i(k:Q (.int (i+j)) H):mIAdd (.int i) (.int j) H Q:=k
end
inductive Trm where
 |num(n:Int)
 |any(x:Str)
 |app(sg:Str)(ks:List Trm)
abbrev numS:Str:=ofString "num"
abbrev anyS:Str:=ofString "any"
abbrev appS:Str:=ofString "app"
mutual
def Trm.data:Trm->PyData
 | .num n=>.tuple [.str numS,.int n]
 | .any x=>.tuple [.str anyS,.str x]
 | .app sg ks=>.tuple [.str appS,.str sg,.tuple (Trm.dataL ks)]
def Trm.dataL:List Trm->List PyData
 | []=>[]
 |t::r=>t.data::Trm.dataL r
end
mutual
def Trm.size:Trm->Nat
 | .num _=>1
 | .any _=>1
 | .app _ ks=>1+Trm.sizeL ks
def Trm.sizeL:List Trm->Nat
 | []=>0
 |t::r=>t.size+Trm.sizeL r
end
theorem Trm.size_pos:∀t:Trm,1<=t.size
 | .num _=>Zl 1
 | .any _=>Zl 1
 | .app _ ks=>by unfold Trm.size;omega
theorem Trm.dataL_map:∀ts:List Trm,Trm.dataL ts=ts.map Trm.data
 | []=>rfl
 |t::r=>by rw[Trm.dataL,Trm.dataL_map r,Zu]
theorem Trm.sizeL_map:∀ts:List Trm,Trm.sizeL ts=(ts.map Trm.size).sum
 | []=>rfl
 |t::r=>by rw[Trm.sizeL,Trm.sizeL_map r,Zu,Wk]
theorem Trm.sizeL_app(a b:List Trm):Trm.sizeL (a++b)=Trm.sizeL a+Trm.sizeL b:=by
 rw[Trm.sizeL_map,Trm.sizeL_map,Trm.sizeL_map,Zk,List.sum_append]
theorem Trm.len_le(ts:List Trm):ts.length<=Trm.sizeL ts:=by
 induction ts with
 |nil=>simp
 |cons t r ih=>
  have:=t.size_pos
  rw[Trm.sizeL,length_cons];omega
section
variable{K:W.Frag}{H:Hp}{v:V}
theorem b6a{n:Int}(h:Den K H v (Trm.num n).data):∃a,v=.ref a/\SqT K H a [.str numS,.int n]:=by
 unfold Trm.data at h
 cases h with
 |tup hs hl=>
  cases hl with
  |cons h1 hl=>
   cases hl with
   |cons h2 hl=>
    cases hl
    cases h1
    cases h2
    exact⟨_,rfl,hs⟩
theorem b6b{x:Str}(h:Den K H v (Trm.any x).data):∃a,v=.ref a/\SqT K H a [.str anyS,.str x]:=by
 unfold Trm.data at h
 cases h with
 |tup hs hl=>
  cases hl with
  |cons h1 hl=>
   cases hl with
   |cons h2 hl=>
    cases hl
    cases h1
    cases h2
    exact⟨_,rfl,hs⟩
theorem b6c{sg:Str}{ks:List Trm}(h:Den K H v (Trm.app sg ks).data):∃a b us,v=.ref a/\SqT K H a [.str appS,.str sg,.ref b]/\SqT K H b us/\DenL K H us (Trm.dataL ks):=by
 unfold Trm.data at h
 cases h with
 |tup hs hl=>
  cases hl with
  |cons h1 hl=>
   cases hl with
   |cons h2 hl=>
    cases hl with
    |cons h3 hl=>
     cases hl
     cases h1
     cases h2
     cases h3 with
     |tup hb hk=>exact⟨_,_,_,rfl,hs,hb,hk⟩
theorem a6d{a:Addr}{n:Int}(h:SqT K H a [.str numS,.int n]):Den K H (.ref a) (Trm.num n).data:=by
 unfold Trm.data
 exact .tup h (.cons (.str _) (.cons (.int _) .nil))
theorem b3j{a:Addr}{x:Str}(h:SqT K H a [.str anyS,.str x]):Den K H (.ref a) (Trm.any x).data:=by
 unfold Trm.data
 exact .tup h (.cons (.str _) (.cons (.str _) .nil))
theorem a2d{a b:Addr}{sg:Str}{ks:List Trm}{us:List V}(h:SqT K H a [.str appS,.str sg,.ref b])(hb:SqT K H b us)(hk:DenL K H us (Trm.dataL ks)):Den K H (.ref a) (Trm.app sg ks).data:=by
 unfold Trm.data
 exact .tup h (.cons (.str _) (.cons (.str _) (.cons (.tup hb hk) .nil)))
theorem c3u{t:Trm}(h:Den K H v t.data):∃a us ds,v=.ref a/\SqT K H a us/\DenL K H us ds/\t.data=.tuple ds:=by
 cases t with
 |num n=>unfold Trm.data at h ⊢;cases h with|tup hs hl=>exact⟨_,_,_,rfl,hs,hl,rfl⟩
 |any x=>unfold Trm.data at h ⊢;cases h with|tup hs hl=>exact⟨_,_,_,rfl,hs,hl,rfl⟩
 |app sg ks=>unfold Trm.data at h ⊢;cases h with|tup hs hl=>exact⟨_,_,_,rfl,hs,hl,rfl⟩
theorem DenL.snoc{us:List V}{ds:List PyData}{d:PyData}(h:DenL K H us (ds++[d])):∃us' u,us=us'++[u]/\DenL K H us' ds/\Den K H u d:=by
 induction ds generalizing us with
 |nil=>
  cases h with
  |cons h1 h2=>
   cases h2
   exact⟨[],_,rfl,.nil,h1⟩
 |cons x r ih=>
  cases h with
  |cons h1 h2=>
   obtain⟨us',u,rfl,a,b⟩:=ih h2
   exact⟨_::us',u,rfl,.cons h1 a,b⟩
theorem DenL.nil_inv{us:List V}(h:DenL K H us []):us=[]:=by cases h;rfl
theorem DenL.at{us:List V}{ds:List PyData}{i:Int}{d:PyData}(h:DenL K H us ds)(e:atI ds i=some d):∃u,atI us i=some u/\Den K H u d:=by
 obtain⟨j,h1,h2,h3,h4,h5⟩:=b3d e
 have hl:=h.length
 have hj:j<us.length:=by omega
 obtain⟨d',e1,e2⟩:=h.get (Zb hj)
 rw[h2]at e1
 cases e1
 refine⟨us[j],?_,e2⟩
 unfold atI at e ⊢
 rw[hl]
 cases q:ixN ds.length i with
 |none=>rw[q]at e;cases e
 |some k=>
  rw[q]at e
  have:=(b9x q).1
  rw[h1]at this
  cases this
  exact Zb hj
end
def Itv(K:W.Frag)(a:Addr)(n:Nat):It:=⟨fun i H=>∃xs,SqL K H a xs/\xs.length=n/\i<n,fun i H x H'=>H'=H/\∀xs,SqL K H a xs->xs[n-1-i]? =some x,fun i _=>i=n⟩
theorem d3h{P:Program}{w:World}{K:W.Frag}{tg:Expr}(a it:Addr)(n:Nat):Turn P w K tg (Itv K a n) [it] it (fun i h=>h.IsRevIter it a ((n:Int)-1-(i:Nat))) where
 mem:=by simp
 obj:=fun i h st b hb=>by
  have e:b=it:=by simpa using hb
  subst e
  obtain⟨o,e,c,d⟩:=st
  exact⟨o,e,fun v z=>by rw[d]at z;cases z⟩
 keep:=fun i h h' st k=>st.at fun o e=>k it (by simp) o e
 item:=by
  intro X hP hw hK hc i pins s σ H E I hf st hg
  subst hP hw hK
  obtain⟨xs,hq,hn,hi⟩:=hg
  obtain⟨its,rv,p,hz⟩:=I.list hq
  have hj:n-1-i<xs.length:=by omega
  obtain⟨u,hu,ru⟩:=rv.get (Zb hj)
  obtain⟨f0,f1,f2,f3,f4,f5⟩:=hf it (by simp)
  have e1:(n:Int)-1-(i:Nat)=((n-1-i:Nat):Int):=by omega
  rw[e1]at st
  refine wpAny_pyNext_rev_item st p.isList (x:=u) (by simpa using hu) fun h' st' sb=>?_
  have I1:Inv X pins σ H { s with heap:=h'}:=I.turned (t':=s.toks) (fun b o hb e=>(sb.2 b hb).trans e) f0 f1 f3 f4 f5
  obtain⟨o,e,c,d⟩:=id st'
  have e2:((n-1-i:Nat):Int)-1=(n:Int)-1-((i+1:Nat):Int):=by omega
  rw[e2]at st'
  exact⟨u,rfl,b7x (s:={ s with heap:=h'}) e c d (by decide) ⟨xs[n-1-i],H,I1,ru,⟨rfl,fun ys hy=>by rw[I.list_inj hy hq];exact Zb hj⟩,st',fun b hb=>(hf b hb).1⟩⟩
 done:=by
  intro X hP hw hK hc i pins s σ H E I hf st hg
  subst hP hw hK
  obtain⟨f0,f1,f2,f3,f4,f5⟩:=hf it (by simp)
  have hg:i=n:=hg
  subst hg
  have e1:(i:Int)-1-(i:Nat)= -1:=by omega
  rw[e1]at st
  exact wpAny_pyNext_rev_end (I.ok.hd hc) st fun h' eb=>⟨rfl,I.turned (t':=s.toks) (fun b o hb e=>eb b o hb e) f0 f1 f3 f4 f5⟩
 self:=fun _ _ _ _ _ st h=>Tj st h
section
variable{X:Cx}{tg:Expr}
def iRev(K:W.Frag)(ta:TA):TI:=fun σ H R=>ta σ H fun vs H1=>∃a xs,vs=[.ref a]/\SqL K H1 a xs/\R (Itv K a xs.length) H1
theorem kpi_rev(K:W.Frag)(hK:X.K=K){a:Expr}{ta:TA}{p pos:Pos}(hg:Gl X "reversed")(hm:X.mg "reversed"=none)(ha:PA X [a] ta)(hs:starEach [a] X.env=[(false,eval a X.env)]:=by rfl):PI X tg (.Call (.Name "reversed" p) [a] [] pos) (iRev K ta):=by
 subst hK
 intro pins s σ H R I h
 refine Call_ (b2x I hg hm boot_reversed (Wb (thn (ha pos pins s σ H _ I h) fun us s1 ⟨vs,H1,I1,r1,q1⟩=>?_) hs rfl))
 obtain⟨l,xs,e,hq,q⟩:=q1
 subst e
 cases r1 with
 |cons r rr=>
  cases rr
  cases r
  obtain⟨its,rv,pl,hz⟩:=I1.list hq
  have hlen:=rv.length
  refine call_reversed_list pl.isList (Tj (l:=l) (i:=(its.toArray.size:Int)-1) ⟨_,Z2 _ rfl,rfl,rfl⟩ ?_)
  refine⟨s1.heap.objs.size,[s1.heap.objs.size],_,_,H1,rfl,I1.kept (t':=s1.toks) fun b o e=>Zh _ e,d3h l _ xs.length,?_,fun b hb=>?_,q⟩
  ·have e1:(xs.length:Int)-1-((0:Nat):Int)=(its.toArray.size:Int)-1:=by simp only[Zf];omega
   show Heap.IsRevIter _ _ _ ((xs.length:Int)-1-((0:Nat):Int))
   rw[e1]
   exact⟨_,Z2 _ rfl,rfl,rfl⟩
  ·have e:b=s1.heap.objs.size:=by simpa using hb
   subst e
   exact I1.fpOk (Zl _) (I1.hok.fresh (Zl _))
end
theorem row_rev{K:W.Frag}{a:Addr}{xs:List V}:Row (Itv K a xs.length) xs.length (fun i=>xs.getD (xs.length-1-i) .non) (fun H=>SqL K H a xs):=⟨fun i H h q=>⟨xs,q,rfl,h⟩,fun i H v H' hi q h=>by
 obtain⟨e,y⟩:=h
 refine⟨e,?_⟩
 have:=y xs q
 rw[Z3,this];rfl,fun H q=>rfl⟩
theorem iRev_i{K:W.Frag}{σ:St}{H:Hp}{ta:TA}{R:It->Hp->Prop}(k:ta σ H fun vs H1=>∃a xs,vs=[.ref a]/\SqL K H1 a xs/\R (Itv K a xs.length) H1):iRev K ta σ H R:=k
abbrev a8n:Str:=ofString "[|]"
def mkL:List Trm->Trm->Trm
 | [],r=>r
 |a::l,r=>.app a8n [a,mkL l r]
theorem c7c(k:Nat)(h:k<10):(Nat.digitChar k).toNat=48+k:=by
 have:k=0\/k=1\/k=2\/k=3\/k=4\/k=5\/k=6\/k=7\/k=8\/k=9:=by omega
 rcases this with rfl|rfl|rfl|rfl|rfl|rfl|rfl|rfl|rfl|rfl<;>rfl
def a1i(n:Nat):List Nat:=(Nat.toDigits 10 n).map Char.toNat
theorem a9e{n:Nat}(h:n<10):a1i n=[48+n]:=by
 unfold a1i
 rw[Nat.toDigits_of_lt_base h,Zu,Xs,c7c n h]
theorem b0z{n:Nat}(h:10<=n):a1i n=a1i (n/10)++[48+n%10]:=by
 unfold a1i
 rw[Nat.toDigits_of_base_le (by decide) h,Zk,Zu,Xs,c7c _ (Nat.mod_lt _ (by decide))]
theorem b6d:∀n:Nat,(∀y∈a1i n,48<=y/\y<=57)/\∃x r,a1i n=x::r/\(n≠0->x≠48):=by
 intro n
 induction n using Nat.strongRecOn with
 |ind n ih=>
  by_cases h:n<10
  ·rw[a9e h]
   refine⟨fun y hy=>?_,_,[],rfl,fun h0=>by omega⟩
   rw[Zn.mp hy];omega
  ·have h:10<=n:=by omega
   rw[b0z h]
   obtain⟨h1,x,r,h2,h3⟩:=ih (n/10) (by omega)
   refine⟨fun y hy=>?_,x,r++[48+n%10],by rw[h2];rfl,fun _=>h3 (by omega)⟩
   rcases Zv.mp hy with hy|hy
   ·exact h1 y hy
   ·rw[Zn.mp hy];omega
theorem b7h{n k:Nat}(hk:1<=k)(h:n<10^k):(a1i n).length<=k:=by
 unfold a1i
 rw[length_map]
 exact digits10_le hk h
theorem b7i(n:Nat):((toString (n:Int):String):Str)=⟨(a1i n).toArray⟩:=text_ofNat n
section
variable{X:Cx}
def mStr:List V->Hp->VK->Prop:=fun vs H Q=>match vs with
 | [.int i]=>i.natAbs.log2<1920/\Q (.str (toString i)) H
 |_=>False
theorem d0r:a5t X (.type "str") mStr:=by
 intro pins s σ H xs us Q I r h
 refine c3e pins s σ H xs us Q I r ?_
 unfold mStr at h
 split at h
 ·exact⟨_,rfl,h.1,h.2⟩
 ·exact h.elim
theorem d0s{i:Int}(h0:0<=i)(h1:i<10^30):i.natAbs.log2<1920:=by
 by_cases h:i.natAbs=0
 ·rw[h];decide
 ·refine(Nat.log2_lt h).mpr ?_
  refine Zx (m:=10^30) (by omega) ?_
  refine Zz (m:=2^100) (by decide+kernel) (Vt (by decide) (by decide))
theorem d0t{i:Int}{H:Hp}{Q:VK}(h0:0<=i)(h1:i<10^30)(k:Q (.str ⟨(a1i i.toNat).toArray⟩) H):mStr [.int i] H Q:=by
 refine⟨d0s h0 h1,?_⟩
 obtain⟨n,rfl⟩:=Yi h0
 have e:=b7i n
 rw[Z8]at k
 rw[<-e]at k
 exact k
theorem ko_inV(K:W.Frag)(h:X.K=K):OpR X (compareOp .In) (rIn K false):=h▸c9x
end
theorem c3v{pre:List Nat}{x:Nat}{r:List Nat}:atI (pre++x::r) (pre.length:Int)=some x:=by
 refine a6v ?_
 rw[Wf (Zl _),U8]
 rfl
theorem c7d(pre z r:List Nat):cutS ⟨(pre++z++r).toArray⟩ (some (pre.length:Int)) (some ((pre.length+z.length:Nat):Int))=⟨z.toArray⟩:=by
 unfold cutS
 have e:(⟨(pre++z++r).toArray⟩:Str).length=pre.length+z.length+r.length:=by rw[str_len,Za,Za]
 rw[e,HT.sIx_nat,HT.sIx_nat,Vn (by omega),Vn (by omega)]
 show(⟨(((pre++z++r).toArray.toList.drop pre.length).take (pre.length+z.length-pre.length)).toArray⟩:Str)=_
 rw[List.toList_toArray,Zw,List.drop_append_of_le_length (Zl _),List.drop_length,Yb,U2,List.take_append_of_le_length (Zl _),Ve]
section
variable{X:Cx}
def mUpd:V->List V->Hp->VK->Prop:=fun x vs H Q=>∃(a b:Addr)(kvs more:List (Key×V)),x=.ref a/\vs=[.ref b]/\a≠b/\H a=some (.dK kvs)/\H b=some (.dK more)/\kvs.length+more.length<=sizeLine/\Q .non (upd H a (.dK (a5l kvs more)))
theorem d0u:MtR X "dict.update" mUpd:=by
 intro pins s σ H x vs v us Q I rx rv h
 obtain⟨a,b,kvs,more,rfl,rfl,hab,ha,hb,hz,q⟩:=h
 cases rx
 obtain⟨u,rfl,ru⟩:=rv.one
 cases ru
 obtain⟨z1,d1,vs1,r1,dd1⟩:=dk_of I.hok ha
 obtain⟨z2,d2,vs2,r2,dd2⟩:=dk_of I.hok hb
 have hl:=b0e more kvs
 refine call_meetsIn Sm dd1.typeIs F.entry_dict_update (F.args_dict_update_2 _ _) (meets_dict_update (a2g X.prog X.w) a b hab d2) ⟨vs1,vs2,dd1,dd2,by rw[<-r1.length,<-r2.length];exact hz,fun h' g1 g2 hs=>?_⟩
 refine⟨.non,_,?_,rfl,q⟩
 have he:∃q,h'.get? a=some q:=let⟨q,_,_,hq,_⟩:=g1;⟨q,hq⟩
 exact c6w I (by rw[ha];exact True.intro) hs he (d0b (by omega) d1 (r2.merge r1) g1)
theorem mUpd_i{a b:Addr}{kvs more:List (Key×V)}{H:Hp}{Q:VK}(hab:a≠b)(ha:H a=some (.dK kvs))(hb:H b=some (.dK more))(hz:kvs.length+more.length<=sizeLine)(k:Q .non (upd H a (.dK (a5l kvs more)))):mUpd (.ref a) [.ref b] H Q:=⟨a,b,kvs,more,rfl,rfl,hab,ha,hb,hz,k⟩
end
section
variable{X:Cx}
def rDIn(n:Bool):R2:=fun x y H Q=>∃a o,y=.ref a/\DGet H a x o/\Q (.bl (n^^o.isSome)) H
theorem ko_ninD(hu:X.A.units+1<cLine):OpR X (compareOp .NotIn) (rDIn true):=by
 intro pins s σ H x y v u Q I rx ry h
 obtain⟨a,o,rfl,g,q⟩:=h
 cases ry
 exact d_notIn hu I g rx fun s3 I3=>⟨.bl _,H,I3,rfl,by simpa using q⟩
end
section
variable{σ:St}{H:Hp}{Q:VK}{D:Ends}{td ty tx tv:TE}
theorem tDGet_i(k:td σ H fun x H1=>ty σ H1 fun y H2=>∃a v,x=.ref a/\DGet H2 a y (some v)/\Q v H2):tDGet td ty σ H Q:=k
theorem tDisp_i{trs:List (TE×TE)}(k:∀p,H p=none->b1e trs σ (upd H p (.dK [])) fun ps H2=>H2 p=some (.dK [])/\∃kvs:List (Key×V),ps=kvs.map (fun kv=>(kV kv.1,kv.2))/\kvs.length<=15/\Q (.ref p) (upd H2 p (.dK (a5l [] kvs)))):tDisp trs σ H Q:=k
theorem d3i{tk tv:TE}{r:List (TE×TE)}{R:List (V×V)->Hp->Prop}(k:tk σ H fun x H1=>tv σ H1 fun y H2=>b1e r σ H2 fun ps H3=>R ((x,y)::ps) H3):b1e ((tk,tv)::r) σ H R:=k
theorem d3j{R:List (V×V)->Hp->Prop}(k:R [] H):b1e [] σ H R:=k
end
def But(p:Addr)(H H':Hp):Prop:=∀b o,b≠p->H b=some o->H' b=some o
theorem a6w{p:Addr}{H:Hp}(o:HO):But p H (upd H p o):=fun b u n h=>by rw[a0j n];exact h
open PySem PySem.Spec PyProof.Rows PySem.W
open PySem.AutoSeq1 (wpAny_loadPart')
section
variable{X:Cx}
theorem c7e{A:Around}{s:Shared}{a b:Key}{u v:Value}(ra:RelV (kV a) u)(rb:RelV (kV b) v):SeqAt.EqAt A s u v (decide (a=b)):=by
 cases a with
 |inl i=>
  obtain⟨t,rfl⟩:=ra
  cases b with
  |inl j=>
   obtain⟨t',rfl⟩:=rb
   rw[c9k]
   have:=W5 (A:=A) (s:=s) i t j t'
   simpa[PyData.eqv]using this
  |inr y=>
   obtain⟨t',rfl⟩:=rb
   rw[c9m]
   exact V3 i t y t'
 |inr x=>
  obtain⟨t,rfl⟩:=ra
  cases b with
  |inl j=>
   obtain⟨t',rfl⟩:=rb
   rw[c9n]
   exact V2 x t j t'
  |inr y=>
   obtain⟨t',rfl⟩:=rb
   rw[c9l]
   have:=W4 (A:=A) (s:=s) x t y t'
   have e:(x==y)=decide (x=y):=by
    by_cases h:x=y
    ·subst h;simp
    ·rw[Zg h];exact Y7.mpr h
   rw[<-e]
   simpa[PyData.eqv]using this
theorem d0v(k1 k2:List Key):((List.range (min k1.length k2.length)).all (fun j=>decide (k1[j]? =k2[j]?))&&(k1.length==k2.length))=decide (k1=k2):=by
 by_cases h:k1=k2
 ·subst h
  simp
 ·rw[Zg h]
  cases hl:(k1.length==k2.length)with
  |false=>rw[Ws]
  |true=>
   have hl:k1.length=k2.length:=eq_of_beq hl
   rw[Bool.and_true]
   refine Ub.mpr fun z=>h ?_
   apply List.ext_getElem?
   intro j
   by_cases hj:j<k1.length
   ·exact Zm (Xe.mp z j (Xi.mpr (by omega)))
   ·rw[Vs (by omega),Vs (by omega)]
def mEqKs(K:W.Frag):R2:=fun x y H Q=>∃(p q:Addr)(k1 k2:List Key),x=.ref p/\y=.ref q/\SqT K H p (k1.map kV)/\SqT K H q (k2.map kV)/\Q (.bl (decide (k1=k2))) H
theorem c7f(K:W.Frag)(hK:X.K=K)(hu:X.A.units+150<cLine):OpR X (compareOp .Eq) (mEqKs K):=by
 subst hK
 intro pins s σ H x y v u Q I rx ry h
 obtain⟨p,q,k1,k2,rfl,rfl,hp,hq,k⟩:=h
 cases rx
 cases ry
 obtain⟨its,rv,p1,_⟩:=I.tuple hp
 obtain⟨its',rv',p2,_⟩:=I.tuple hq
 have l1:=rv.length
 have l2:=rv'.length
 rw[length_map]at l1 l2
 refine SeqAt.eq_tupleAt (e:=fun j=>decide (k1[j]? =k2[j]?)) (show s.heap.IsTuple p its.toArray from p1) (show s.heap.IsTuple q its'.toArray from p2) (by omega) (fun j h1 h2=>?_) ?_
 ·have g1:j<its.length:=by simpa using h1
  have g2:j<its'.length:=by simpa using h2
  have j1:j<k1.length:=by omega
  have j2:j<k2.length:=by omega
  obtain⟨w1,y1,z1⟩:=rv.get (show(k1.map kV)[j]? =some (kV k1[j]) by rw[Yu,Zb j1];rfl)
  obtain⟨w2,y2,z2⟩:=rv'.get (show(k2.map kV)[j]? =some (kV k2[j]) by rw[Yu,Zb j2];rfl)
  have q1:its.toArray[j]=w1:=by
   have:=Zb g1
   rw[y1]at this
   simpa using(Zq this).symm
  have q2:its'.toArray[j]=w2:=by
   have:=Zb g2
   rw[y2]at this
   simpa using(Zq this).symm
  rw[q1,q2]
  have:=c7e (A:=X.A.in1) (s:=s) z1 z2
  rw[show decide (k1[j]? =k2[j]?)=decide (k1[j]=k2[j]) by rw[Zb j1,Zb j2];simp]
  exact this
 ·have e:((List.range (min its.toArray.size its'.toArray.size)).all (fun j=>decide (k1[j]? =k2[j]?))&&(its.toArray.size==its'.toArray.size))=decide (k1=k2):=by
   rw[Zf,Zf,<-l1,<-l2]
   exact d0v k1 k2
  rw[e]
  exact⟨.bl _,H,I,rfl,k⟩
end
structure QE(X:Cx)(e:Expr)(t:TE):Prop where
 pe:PE X e t
structure QP(X:Cx)(pos:Pos)(keys:List (Option Expr))(values:List Expr)(trs:List (TE×TE)):Prop where
 pp:PPs X pos keys values trs
structure QS(X:Cx)(st:Stmt)(t:TS):Prop where
 ps:PS X st t
structure QSs(X:Cx)(l:List Stmt)(t:TS):Prop where
 pss:PSs X l t
section
variable{X:Cx}{pos pos':Pos}{e k v:Expr}{te tk tv:TE}{st:Stmt}{rest:List Stmt}{t u:TS}
theorem d0w:QP X pos [] [] []:=⟨pps_nil⟩
theorem a6e{ks:List (Option Expr)}{vs:List Expr}{trs:List (TE×TE)}(hk:PE X k tk)(hv:PE X v tv)(hr:QP X pos ks vs trs):QP X pos (some k::ks) (v::vs) ((tk,tv)::trs):=⟨d3a hk hv hr.pp⟩
theorem c7g{keys:List (Option Expr)}{values:List Expr}{trs:List (TE×TE)}(h:QP X pos keys values trs)(hall:keys.all (·.isSome)=true)(hl:keys.length=values.length)(h0:keys≠[])(h15:keys.length<=15):QE X (.Dict keys values pos) (tDisp trs):=⟨pe_disp h.pp hall hl h0 h15⟩
theorem c3w{i:Nat}{x:Str}(hN:X.N.Nodup)(hi:X.N[i]? =some x)(hx:Loc X.env.scope x)(he:QE X e te)(hs:swapsWith e (some (.Name x pos')) pos.line X.env=pure false)(hf:X.fn x=true\/X.env.scope.names.lookup x=some .local):QS X (.Assign [.Name x pos'] e pos) (tAsg te (b5w i)):=⟨a0m hN hi hx he.pe hs hf⟩
theorem qs_upd(K:W.Frag)(hK:X.K=K){o:Expr}{to:TE}{apos cpos:Pos}(ho:PE X o to)(he:QE X e te)
  (hbase:attributeBase o "update" X.env (eval o X.env)=eval o X.env)
  (hfew:((backTo cpos (starEach [e] X.env)).all (fun x=>!x.1)&&(backToKw cpos (keywordEach [] X.env)).all (fun x=>x.1.isSome)&&decide (([e]:List Expr).length+([]:List Keyword).length+(if([]:List Keyword).isEmpty then 0 else 1)<30))=true)
  (hline:(apos.endLine==cpos.line)=true)(hs:starEach [e] X.env=(false,eval e X.env)::starEach [] X.env)(hplain:(backTo cpos (starEach [] X.env)).any (·.1)=false)(hsw:swapsWith (.Call (.Attribute o "update" apos) [e] [] cpos) none pos.line X.env=pure false):
  QS X (.Expr (.Call (.Attribute o "update" apos) [e] [] cpos) pos) (tDrop (tBM K "dict" mUpd to (b8d te tNil))):=
 ⟨a1m (a3x K hK F.plainAttrs_dict Sm F.type_dict_update d0u ho (b9w he.pe a0c hs) hbase hfew hline hs hplain) hsw⟩
theorem a0u(h1:QS X st t)(h2:QSs X rest u):QSs X (st::rest) (tSeq t u):=⟨a0g h1.ps h2.pss⟩
theorem a1t(h1:QS X st t):QSs X [st] t:=⟨a0h h1.ps⟩
end
def TbIs(h:Heap)(T:Addr):Prop:=∃oT ts,h.get? T=some oT/\oT.data=.fields ts/\ts[3]? =some Value.none
structure Left(fs:List Addr)(ea:Addr)(o:Obj)(ok:Addr->Prop)(h h':Heap):Prop where
 keep:∀b u,b≠ea->¬ok b->b∉fs->h.get? b=some u->h'.get? b=some u
 slot:∀b u,b≠ea->¬ok b->h.get? b=some u->∃sl,h'.get? b=some { u with slots:=sl}
 there:∀b u,h.get? b=some u->∃u',h'.get? b=some u'
 tb:∃T,h.objs.size<=T/\TbIs h' T/\h'.get? ea=some (o.mapFields (·.setIfInBounds 1 (.ref T)))
theorem a7z{o:Obj}{vs:Array Value}(f:Array Value->Array Value)(h:o.data=.fields vs):(o.mapFields f).data=.fields (f vs):=Obj.data_mapFields h f
theorem c7h(o:Obj)(f:Array Value->Array Value):(o.mapFields f).dict=o.dict:=by
 unfold Obj.mapFields
 split<;>rfl
section
variable{M:Model}{A:Around}{E:Value->Shared->Prop}
theorem b6v{s:Shared}{base:Heap}{env:Env}{outer:List Env}{L ea:Addr}{o:Obj}{vs:Array Value}{hd0:Value}{had:Bool}{Q:Unit->Shared->Prop}
  (fr:A.frames=some (env::outer))(ff:s.heap.FunFrames base (env::outer))(fe:env.frame=some L)(ge:s.heap.get? ea=some o)(gd:o.data=.fields vs)(g1:1<vs.size)
  (q:∀h',Left (frs (env::outer)) ea o (fun _=>False) s.heap h'->Q () { s with heap:=h'}):
  wpAny M A (do let a <-frameOf env;let pl <-entryPlaceOf L had;let b <-EntryCells.newEntry hd0 a .none (rawInt L) .none pl;setField (.ref ea) 1 b) (fun _ s1=>wpAny M A (setFlight (.ref ea) none) Q E s1) E s:=by
 have nea:ea∉frs (env::outer):=fun z=>by
  obtain⟨_,u,hu,hn⟩:=ff.mem z
  rw[ge]at hu
  cases hu
  exact hn vs gd
 refine Zd (wpAny_frameOf_fun fr ff fe fun hA sA=>?_)
 refine Zd (wpAny_entryPlaceOf fun pl hpl=>?_)
 unfold EntryCells.newEntry newFields
 refine Zd (Xp ?_ (hpl.sizeOk5 _ _ _ _ _))
 generalize hob:({ cls:=.type "traceback",dict:=none,data:=.fields ([hd0,.ref L,.none,rawInt L,.none]++(if pl.isEmpty then List.replicate 6 Value.none else pl)).toArray}:Obj)=ob
 have obd:ob.data=.fields ([hd0,.ref L,.none,rawInt L,.none]++(if pl.isEmpty then List.replicate 6 Value.none else pl)).toArray:=by rw[<-hob]
 have eA:hA.get? ea=some o:=(sA.2.1 ea nea).trans ge
 have eB:=Zh (h:=hA) ob eA
 have nT:hA.objs.size≠ea:=U9 (Zs eA)
 refine W2 eB gd g1 ?_
 have dC:=a7z (·.setIfInBounds 1 (Value.ref hA.objs.size)) gd
 have eC:=Xk (Obj.mapFields (·.setIfInBounds 1 (Value.ref hA.objs.size))) eB (Wt dC)
 have tC:=(Yl (hA.push ob) (Obj.mapFields (·.setIfInBounds 1 (Value.ref hA.objs.size))) (Ne.symm nT)).trans (Z2 hA (by cases ob;cases hob;rfl))
 have sz3:3<([hd0,.ref L,.none,rawInt L,.none]++(if pl.isEmpty then List.replicate 6 Value.none else pl)).toArray.size:=by
  simp only[Zf,Za,length_cons,length_nil]
  omega
 unfold setFlight
 refine Zd (X5 eC dC (x:=.ref hA.objs.size) (by simp[g1]) ?_)
 rw[if_pos (show(Value.ref hA.objs.size !=Value.none)=true from by simp)]
 refine W2 tC obd sz3 (q _ ?_)
 have kept:∀b u,b≠ea->hA.get? b=some u->(((hA.push ob).update ea (Obj.mapFields (·.setIfInBounds 1 (Value.ref hA.objs.size)))).update hA.objs.size (Obj.mapFields (·.setIfInBounds 3 ((none:Option Addr).elim Value.none fun f=>rawInt f)))).get? b=some u:=fun b u hb hu=>by
  rw[Yl _ _ (U9 (Zs hu)),Yl _ _ (Ne.symm hb)]
  exact Zh _ hu
 refine⟨fun b u hb _ hf hu=>kept b u hb ((sA.2.1 b hf).trans hu),fun b u hb _ hu=>?_,fun b u hu=>?_,hA.objs.size,?_,?_,?_⟩
 ·obtain⟨sl,e⟩:=sA.2.2 b u hu
  exact⟨sl,kept b _ hb e⟩
 ·by_cases hb:b=ea
  ·subst hb
   exact⟨_,by rw[Yl _ _ nT];exact eC⟩
  ·obtain⟨sl,e⟩:=sA.2.2 b u hu
   exact⟨_,kept b _ hb e⟩
 ·rw[sA.1]
  exact Zl _
 ·exact⟨_,_,Xk _ tC (Wt (a7z _ obd)),a7z _ obd,by simp[sz3]⟩
 ·rw[Yl _ _ nT]
  exact eC
theorem b5f{s:Shared}{base:Heap}{env:Env}{outer:List Env}{L ea:Addr}{o:Obj}{vs:Array Value}{ok:Addr->Prop}{Q:Unit->Shared->Prop}
  (fr:A.frames=some (env::outer))(ff:s.heap.FunFrames base (env::outer))(fe:env.frame=some L)(ge:s.heap.get? ea=some o)(gd:o.data=.fields vs)
  (tb:vs[1]? =some .none\/∃T,vs[1]? =some (.ref T)/\T≠ea/\ok T/\TbIs s.heap T)
  (q:∀h',Left (frs (env::outer)) ea o ok s.heap h'->Q () { s with heap:=h'}):wpAny M A (noteFrame (.ref ea) env) (fun _ s1=>wpAny M A (setFlight (.ref ea) none) Q E s1) E s:=by
 unfold noteFrame
 simp only[fe]
 rcases tb with g|⟨T,g,nT,kT,oT,ts,hT,dT,t3⟩
 ·refine Zd (X5 ge gd g ?_)
  rw[if_neg (by decide)]
  refine b6v fr ff fe ge gd (Ye.mp g).1 fun h' l=>q h' ⟨fun b u hb _=>l.keep b u hb id,fun b u hb _=>l.slot b u hb id,l.there,l.tb⟩
 ·refine Zd (X5 ge gd g ?_)
  rw[if_pos (show(Value.ref T !=Value.none)=true from by simp)]
  refine Zd (X5 hT dT t3 ?_)
  rw[if_neg (show ¬((Value.none==rawInt L)=true)from by simp[rawInt])]
  refine Zd (W2 hT dT (Ye.mp t3).1 ?_)
  have oth:∀b,b≠T->(s.heap.update T (Obj.mapFields (·.setIfInBounds 3 Value.none))).get? b=s.heap.get? b:=fun b hb=>Yl _ _ (Ne.symm hb)
  have self:=Xk (Obj.mapFields (·.setIfInBounds 3 Value.none)) hT (Wt (a7z _ dT))
  have nrec:∀b u,s.heap.get? b=some u->(∀ws,u.data≠.fields ws)->b≠T:=fun b u hu hn z=>by
   subst z
   rw[hT]at hu
   cases hu
   exact hn ts dT
  refine b6v fr (ff.of_keeps fun b u hu hn=>⟨u,(oth b (nrec b u hu hn)).trans hu,rfl⟩) fe ((oth ea (Ne.symm nT)).trans ge) gd (Ye.mp g).1 fun h' l=>q h' ⟨fun b u hb hk hf hu=>l.keep b u hb id hf ((oth b (fun z=>hk (z▸kT))).trans hu),fun b u hb hk hu=>l.slot b u hb id ((oth b (fun z=>hk (z▸kT))).trans hu),fun b u hu=>?_,?_⟩
  ·by_cases hb:b=T
   ·subst hb
    exact l.there b _ self
   ·exact l.there b u ((oth b hb).trans hu)
  ·obtain⟨T2,h1,h2,h3⟩:=l.tb
   exact⟨T2,by rw[Heap.size_after_update]at h1;exact h1,h2,h3⟩
end
open PySem PySem.W
abbrev newS:String:="ValueError.__new__"
structure XCls(K:Frag)(C:Addr)(bm:List Value):Prop where
 obj:∃nm q N bs sn sub ab col dd k0 k1 k2 k3 k5,K.lookup C=some (excClassObj nm q C N bs bm true sn sub ab col dd k0 k1 k2 k3 k5 newS)
 hasV:bm.contains (.type "ValueError")=true
 hasB:bm.contains (.type "BaseException")=true
 noA:bm.contains (.type "AttributeError")=false
 noN:bm.contains (.type "NameError")=false
section
variable{prog:Program}{w:World}{A:Around}{E:Value->Shared->Prop}{R:Result->Shared->Prop}{h:Heap}{g:Array GenState}{d:Drawn}{t:Nat}{os:OsState}
variable{nm q:Str}{C N:Addr}{bs bm:List Value}{sn:List Str}{sub:List Value}{ab:Bool}{col:Option Bool}{dd:Option Addr}{k0 k1 k2 k3 k5:Option Value}
theorem x_check(hV:bm.contains (.type "ValueError")=true){rest:List Value}{Q:Unit->Shared->Prop}(hC:h.get? C=some (excClassObj nm q C N bs bm true sn sub ab col dd k0 k1 k2 k3 k5 newS))(hq:Q () ⟨h,g,d,t,os⟩):
  wpAny (model prog w) A (checkBuiltinCall newS ⟨.ref C::rest,[]⟩) Q E ⟨h,g,d,t,os⟩:=by
 have F:=Wx
 have hc:(Value.ref C::bm).contains (.type "ValueError")=true:=by rw[Yz,hV,Wq]
 have hs:=F.noStar
 simp only[checkBuiltinCall,F.newKind,F.newSplit,F.newRow]
 repeat (first|refine Z1 hC ?_| (refine Yx hC ?_;rw[hc])|refine wpAny_staticBase_exc hC ?_|refine wpAny_madeBy_exc hC ?_|simp only[bne_self_eq_false,Bool.false_eq_true,Xq]|wp_step)
 exact hq
theorem x_new(hV:bm.contains (.type "ValueError")=true)(hA:bm.contains (.type "AttributeError")=false)(hN:bm.contains (.type "NameError")=false){rest:List Value}(hC:h.get? C=some (excClassObj nm q C N bs bm true sn sub ab col dd k0 k1 k2 k3 k5 newS))
  (hq:R (.ok (.ret (.ref (h.objs.size+1)))) ⟨(h.push { cls:=.type "tuple",data:=.seq rest.toArray}).push { cls:=.ref C,data:=.fields #[.ref h.objs.size,.none,.none,.none,.bool false,.none]},g,d,t,os⟩)(hl:rest.length<=sizeLine):
  codeAny (model prog w) A (.builtin newS ⟨.ref C::rest,[]⟩) R ⟨h,g,d,t,os⟩:=by
 have F:=Wx
 have he:=F.ends
 have c1:(Value.ref C::bm).contains (.type "ValueError")=true:=by rw[Yz,hV,Wq]
 have c2:(Value.ref C::bm).contains (.type "AttributeError")=false:=by rw[Yz,hA];rfl
 have c3:(Value.ref C::bm).contains (.type "NameError")=false:=by rw[Yz,hN];rfl
 refine codeAny_builtinAt F.entry ?_
 unfold Builtin.«BaseException.__new__»
 refine PySem.wpAt_bind ?_
 show PySem.wpAt _ _ _ (stack>>=_) _ _ _
 refine PySem.wpAt_bind (PySem.wpAt_stack fun p below=>T3 ?_)
 wp_walk
 refine T3 ?_
 rw[F.owner]
 repeat (first|with_reducible refine wpAny_madeHere_exc F.canon hC ?_|with_reducible refine Z1 hC ?_| (with_reducible refine Yx hC ?_;first|rw[c1]|rw[c2]|rw[c3])|wp_step)
 show R _ _
 rw[Vy]
 exact hq
theorem x_tcall{K:Frag}{fI:Addr}(KX:K.In h)(X:XCls K C bm)(hI:findIn K (.ref C) "__init__"=some (some (.ref fI)))(hf:typeIn K (.ref fI)=some (.type "function")){rest:List Value}{Q:PySem.Fin->Shared->Prop}(hl:rest.length<=sizeLine)
  (hq:wpAny (model prog w) A (call (.ref fI) (.ref (h.objs.size+1)::rest)) (fun r s'=>r=.none/\Q (.done (.ret (.ref (h.objs.size+1)))) s') E ⟨((h.push { cls:=.type "tuple",data:=.seq rest.toArray}).push { cls:=.ref C,data:=.fields #[.ref h.objs.size,.none,.none,.none,.bool false,.none]}),g,d,t,os⟩):
  wpAny (model prog w) A (Builtin.«type.__call__» ⟨.ref C::rest,[]⟩) Q E ⟨h,g,d,t,os⟩:=by
 obtain⟨nm,q,N,bs,sn,sub,ab,col,dd,k0,k1,k2,k3,k5,hC'⟩:=X.obj
 have hC:=KX _ _ hC'
 have F:=Wx
 repeat (first|with_reducible refine Z1 hC ?_|with_reducible refine wpAny_madeBy_exc hC ?_|wp_step)
 refine codeAny_call_builtin_code (So _ F.quiet) (x_check X.hasV hC ?_)
 refine x_new X.hasV X.noA X.noN hC ?_ hl
 show wpAny _ _ _ _ _ _
 have kp:∀b o,h.get? b=some o->((h.push { cls:=.type "tuple",data:=.seq rest.toArray}).push { cls:=.ref C,data:=.fields #[.ref h.objs.size,.none,.none,.none,.bool false,.none]}).get? b=some o:=fun b o e=>Zh _ (Zh _ e)
 have hC2:=kp _ _ hC
 have KX2:K.In ((h.push { cls:=.type "tuple",data:=.seq rest.toArray}).push { cls:=.ref C,data:=.fields #[.ref h.objs.size,.none,.none,.none,.bool false,.none]}):=KX.keeps kp
 have hget:((h.push { cls:=.type "tuple",data:=.seq rest.toArray}).push { cls:=.ref C,data:=.fields #[.ref h.objs.size,.none,.none,.none,.bool false,.none]}).get? (h.objs.size+1)=some { cls:=.ref C,data:=.fields #[.ref h.objs.size,.none,.none,.none,.bool false,.none]}:=by heap_get
 have cC:(Value.ref C::bm).contains (.ref C)=true:=by simp
 unfold isInstance
 repeat (first|with_reducible refine Z1 hget ?_| (with_reducible refine Yx hC2 ?_;rw[cC])|wp_step)
 show wpAny _ _ (typeLookup (.ref C) _) _ _ _
 refine(looks_findIn KX2 hI).here ?_
 refine Wi (Zd ((bind_fn KX2 _ hf).here ?_))
 refine Zd (Xg hq (fun r s' hr=>?_) fun _ _ x=>x)
 obtain⟨rfl,hQ⟩:=hr
 wp_walk
 exact hQ
theorem x_call{K:Frag}{fI:Addr}(KX:K.In h)(X:XCls K C bm)(hI:findIn K (.ref C) "__init__"=some (some (.ref fI)))(hf:typeIn K (.ref fI)=some (.type "function")){rest:List Value}{Q:Value->Shared->Prop}(hl:rest.length<=sizeLine)
  (hq:wpAny (model prog w) (A.under (.builtin "type.__call__" ⟨.ref C::rest,[]⟩)) (call (.ref fI) (.ref (h.objs.size+1)::rest)) (fun r s'=>r=.none/\Q (.ref (h.objs.size+1)) s') E ⟨((h.push { cls:=.type "tuple",data:=.seq rest.toArray}).push { cls:=.ref C,data:=.fields #[.ref h.objs.size,.none,.none,.none,.bool false,.none]}),g,d,t,os⟩):
  wpAny (model prog w) A (call (.ref C) rest) Q E ⟨h,g,d,t,os⟩:=by
 obtain⟨nm,q,N,bs,sn,sub,ab,col,dd,k0,k1,k2,k3,k5,hC'⟩:=X.obj
 have hC:=KX _ _ hC'
 have f1:=tc_lookup
 have f2:=tc_bind (.ref C)
 have hT:(⟨h,g,d,t,os⟩:Shared).TypeIs (.ref C) "type":=⟨_,hC,rfl⟩
 refine Wv (codeAny_of_tree ?_)
 show wpAny _ _ (callAny (.ref C) _) _ _ _
 repeat (any_goals (first|assumption|with_reducible refine Z1 hC ?_|wp_step))
 refine⟨rfl,?_⟩
 exact codeAny_call_builtin_at (So _ (by decide+kernel)) entry_typeCall (wpAny_check_type_call_sub hC (x_tcall KX X hI hf hl hq))
end
section
variable{prog:Program}{w:World}{A:Around}{E:Value->Shared->Prop}{R:Result->Shared->Prop}{h:Heap}{g:Array GenState}{d:Drawn}{t:Nat}{os:OsState}{K:Frag}{C e:Addr}{bm:List Value}{o:Obj}{vs:Array Value}
theorem x_init(KX:K.In h)(X:XCls K C bm)(he:h.get? e=some o)(hc:o.cls=.ref C)(hd:o.data=.fields vs){t0:Addr}(h0:vs[0]? =some (.ref t0)){v:Value}{Q:Value->Shared->Prop}
  (hq:Q .none ⟨(h.push { cls:=.type "tuple",data:=.seq [v].toArray}).update e (Obj.mapFields (·.setIfInBounds 0 (.ref h.objs.size))),g,d,t,os⟩):
  wpAny (model prog w) A (call (.builtin "ValueError.__init__") [.ref e,v]) Q E ⟨h,g,d,t,os⟩:=by
 obtain⟨nm,q,N,bs,sn,sub,ab,col,dd,k0,k1,k2,k3,k5,hC'⟩:=X.obj
 have hC:=KX _ _ hC'
 have F:=Wx
 have c1:(Value.ref C::bm).contains (.type "ValueError")=true:=by rw[Yz,X.hasV,Wq]
 have hs:=F.noStar
 have ck:∀Q':Unit->Shared->Prop,Q' () ⟨h,g,d,t,os⟩->∀A' E',wpAny (model prog w) A' (checkBuiltinCall "ValueError.__init__" ⟨[.ref e,v],[]⟩) Q' E' ⟨h,g,d,t,os⟩:=by
  intro Q' hq' A' E'
  simp only[checkBuiltinCall,F.initKind,F.initSplit,F.initRow]
  repeat (first| (with_reducible refine Z1 he ?_;rw[hc])|with_reducible refine Z1 hC ?_| (with_reducible refine Yx hC ?_;rw[c1])|wp_step)
  exact hq'
 refine Wv (Ww F.init.plain F.initEntry (ck _ ?_ _ _))
 unfold Builtin.«BaseException.__init__»
 dsimp only
 rw[if_neg (by simp)]
 unfold newTuple Builtin.BaseException.bexcPut
 have hz:0<vs.size:=(Ye.mp h0).1
 have he1:=Zh (h:=h) { cls:=.type "tuple",data:=.seq [v].toArray} he
 refine Zd (Xp (Zd (Zd (X5 he1 hd h0 (Zd (W2 he1 hd hz ?_))))) (by show[v].toArray.size<=sizeLine;rw[Zf,Y8];simp))
 exact wpAny_letGo (Zr hq)
theorem x_raise{M:Model}{env:Env}{s:Shared}{x:Sem Value}{Q:Flow->Shared->Prop}(hh:A.handled=none)
  (hx:wpAny M A x (fun v s1=>∃e o vs C bm,v=.ref e/\XCls K C bm/\K.In s1.heap/\s1.heap.get? e=some o/\o.cls=.ref C/\o.data=.fields vs/\vs[1]? =some .none/\E (.ref e) s1) E s):
  wpAny M A (raiseStmt env (some x) none) Q E s:=by
 unfold raiseStmt
 refine Zd (Xg hx (fun v s1 h1=>?_) fun _ _ x=>x)
 obtain⟨e,o,vs,C,bm,rfl,X,KX,he,hc,hd,h1,hE⟩:=h1
 obtain⟨hp,g,d,tk,os⟩:=s1
 obtain⟨nm,q,N,bs,sn,sub,ab,col,dd,k0,k1,k2,k3,k5,hC'⟩:=X.obj
 have hC:=KX _ _ hC'
 have cB:(Value.ref C::bm).contains (.type "BaseException")=true:=by rw[Yz,X.hasB,Wq]
 obtain⟨oc,od,odt,osl⟩:=o
 dsimp only at hc hd
 subst hc hd
 repeat (first|with_reducible refine Z1 he ?_|with_reducible refine Z1 hC ?_| (with_reducible refine Yx hC ?_;rw[cB])| (with_reducible refine X5 he rfl h1 ?_)|wp_step)
 exact wpAny_raiseNew_none hh hE
theorem x_get(KX:K.In h)(X:XCls K C bm)(ga:findIn K (.ref C) "__getattribute__"=some (some (.builtin "BaseException.__getattribute__")))(gx:findIn K (.ref C) "__getattr__"=some none){name:Str}(hn:findIn K (.ref C) name=some none)
  (he:h.get? e=some o)(hc:o.cls=.ref C){dx:Addr}(hdx:o.dict=some dx)(hd:o.data=.fields vs){mA:Str->Option Value}(hm:h.Ns1 dx mA){v:Value}(hv:mA name=some v)(hh:handedIn v=true){expr:Bool}{Q:Value->Shared->Prop}(hq:Q v ⟨h,g,d,t+1,os⟩):
  wpAny (model prog w) A (getAttr (.ref e) name expr) Q E ⟨h,g,d,t,os⟩:=by
 obtain⟨nm,q,N,bs,sn,sub,ab,col,dd,k0,k1,k2,k3,k5,hC'⟩:=X.obj
 have hC:=KX _ _ hC'
 have cB:(Value.ref C::bm).contains (.type "BaseException")=true:=by rw[Yz,X.hasB,Wq]
 have FB:=Tt
 obtain⟨oc,od,odt,osl⟩:=o
 dsimp only at hc hd hdx
 subst hc hd hdx
 have f3:=FB.ga.bind (.ref e)
 have hx0:(expr&&onTheHeap (Value.builtin "BaseException.__getattribute__"))=false:=by cases expr<;>rfl
 have hx2:(Value.builtin "BaseException.__getattribute__"==Value.builtin "object.__getattribute__")=false:=by decide+kernel
 have hx1:(onTheHeap (Value.ref C)&&Value.builtin "BaseException.__getattribute__"==Value.builtin "object.__getattribute__")=false:=by rw[hx2];rfl
 unfold getAttr getAttrBy
 repeat (any_goals (first|assumption|with_reducible refine Z1 he ?_|with_reducible refine(looks_findIn KX ga).here ?_|with_reducible refine(looks_findIn KX gx).here ?_|wp_step))
 have hk:builtinKind "BaseException.__getattribute__"=some .slot:=by decide+kernel
 have hsp:splitId "BaseException.__getattribute__"=some ("BaseException","__getattribute__"):=by decide+kernel
 have hargs:=F.args_bexc_ga (.ref e) (.str name t)
 have ck:∀(Q':Unit->Shared->Prop)(u:Nat),Q' () ⟨h,g,d,u,os⟩->∀A' E',wpAny (model prog w) A' (checkBuiltinCall "BaseException.__getattribute__" ⟨[.ref e,.str name t],[]⟩) Q' E' ⟨h,g,d,u,os⟩:=by
  intro Q' u hq' A' E'
  simp only[checkBuiltinCall,hk,hsp]
  refine Zd ?_
  unfold isInstance
  repeat (first|with_reducible refine Z1 he ?_| (with_reducible refine Yx hC ?_;rw[cB])|wp_step)
  exact hq'
 refine Ww FB.ga.plain F.entry_bexc_ga (ck _ _ ?_ _ _)
 obtain⟨od,hod,hl⟩:=b2e hm
 have J:InstAt h e ⟨.ref C,some dx,.fields vs,osl⟩ C (some od):=⟨he,rfl,rfl,hod⟩
 have hdI:hasDictIn K C=true:=by unfold hasDictIn clsIn;rw[show List.lookup C K=_ from hC'];rfl
 have L0:=J.type (M:=model prog w)
 have L1:=looks_find (M:=model prog w) KX J (findObj_own hdI hn rfl (by rw[hl,hv]))
 unfold Builtin.«object.__getattribute__»
 refine Zd (wpAny_of_eq (a:=(Value.ref e,[Value.str name t])) rfl ?_)
 refine Zd (Zr (Zd (L0.at (Zd (L1.at ?_)))))
 refine Zr ?_
 show wpAny _ _ (handedOut v) _ _ _
 rw[handedOut_of hh]
 exact Zr hq
theorem c3x(self:Value)(what:Str):∀l:List Value,(∀v∈l,∃a,v=Value.ref a)->∀r,refuseLoop self what (l++r)=refuseLoop self what r
 | [],_,_=>rfl
 |v::l,h,r=>by
  obtain⟨a,rfl⟩:=h v Ze
  rw[Z4,refuseLoop_ref,c3x self what l (fun v hv=>h v (Zc _ hv)) r]
def XUp(bm:List Value):Prop:=∃l:List Value,(∀v∈l,∃a,v=Value.ref a)/\bm=l++[.type "ValueError",.type "Exception",.type "BaseException",.type "object"]
theorem x_set(KX:K.In h)(X:XCls K C bm)(U:XUp bm)(sa:findIn K (.ref C) "__setattr__"=some (some (.builtin "object.__setattr__"))){name:Str}(hn:findIn K (.ref C) name=some none)
  (he:h.get? e=some o)(hc:o.cls=.ref C)(hd:o.data=.fields vs){mA:Str->Option Value}{ns:List Str}(hw:PySem.Within mA ns)(hz:ns.length<=1000)(hm:(o.dict=none/\∀n,mA n=none)\/∃dx,o.dict=some dx/\dx≠e/\h.Ns1 dx mA){v:Value}{Q:Unit->Shared->Prop}
  (hq:∀h' dx tk,(o.dict=some dx\/(o.dict=none/\h.objs.size<=dx))->h'.get? e=some { o with dict:=some dx}->dx≠e->h'.Ns1 dx (fun y=>if y=name then some v else mA y)->(∀b u,b≠e->b≠dx->h.get? b=some u->h'.get? b=some u)->Q () ⟨h',g,d,tk,os⟩):
  wpAny (model prog w) A (setAttr (.ref e) name v) Q E ⟨h,g,d,t,os⟩:=by
 obtain⟨nm,q,N,bs,sn,sub,ab,col,dd,k0,k1,k2,k3,k5,hC'⟩:=X.obj
 have hC:=KX _ _ hC'
 obtain⟨l,hl,hbm⟩:=U
 have SF:=F.store_ValueError
 have hpass:refuseLoop (.ref e) "__setattr__" (.ref C::bm)=pure ():=by
  rw[refuseLoop_ref,hbm,c3x _ _ l hl]
  exact SF.passes (.ref e)
 have cO:(Value.ref C::bm).contains (.type "object")=true:=by rw[Yz,hbm];simp
 obtain⟨oc,od,odt,osl⟩:=o
 dsimp only at hc hd
 subst hc hd
 have f3:=SF.slot.bind (.ref e)
 have ck:∀(Q':Unit->Shared->Prop)(u:Nat)(nv:Value),Q' () ⟨h,g,d,u,os⟩->∀A' E',wpAny (model prog w) A' (checkBuiltinCall "object.__setattr__" ⟨[.ref e,nv,v],[]⟩) Q' E' ⟨h,g,d,u,os⟩:=by
  intro Q' u nv hq' A' E'
  have ha:=SF.args (.ref e) nv v
  simp only[checkBuiltinCall,SF.kind,SF.split]
  refine Zd ?_
  unfold isInstance
  repeat (first|with_reducible refine Z1 he ?_| (with_reducible refine Yx hC ?_;rw[cO])|wp_step)
  exact hq'
 unfold setAttr callSpecial? specialOf
 repeat (any_goals (first|assumption|with_reducible refine Z1 he ?_|with_reducible refine(looks_findIn KX sa).here ?_|wp_step))
 refine Ww SF.slot.plain SF.entry (ck _ _ _ ?_ _ _)
 unfold Builtin.«object.__setattr__»
 repeat (first|rw[refuse_eq]|rw[hpass]|with_reducible refine Z1 he ?_|with_reducible refine wpAny_mroOf_exc hC ?_|with_reducible refine(looks_findIn KX hn).here ?_|wp_step)
 rcases hm with⟨hdn,hmA⟩|⟨dx,hdx,hne,hns⟩
 ·dsimp only at hdn
  subst hdn
  dsimp only
  rw[if_neg (by simp[typeHasDict])]
  have he1:(h.push { cls:=.type "dict",data:=.dict #[]}).get? e=some ⟨.ref C,none,.fields vs,osl⟩:=Zh _ he
  have nes:e≠h.objs.size:=Yc (Zs he)
  refine Zd (wpAny_alloc' ?_)
  refine Zd (wpAny_update' he1 ?_)
  refine Zr ?_
  have gd:=(T8 (h.push { cls:=.type "dict",data:=.dict #[]}) h.objs.size e (fun o=>{ cls:=o.cls,dict:=some h.objs.size,data:=o.data,slots:=o.slots}) nes.symm).trans (Heap.get?_push_at rfl rfl)
  have nd:((h.push { cls:=.type "dict",data:=.dict #[]}).update e fun o=>{ cls:=o.cls,dict:=some h.objs.size,data:=o.data,slots:=o.slots}).Ns h.objs.size (fun _=>none):=⟨_,#[],_,gd,rfl,fun _ z=>absurd z (by simp),fun _=>rfl⟩
  show wpAny _ _ (Builtin.ObjectAttr.storeInDict h.objs.size (.str name _) name v) _ _ _
  unfold Builtin.ObjectAttr.storeInDict Builtin.ObjectAttr.newKeyGuard
  refine Zd (Zr (Zd (U5 (Heap.Ns1.of_empty nd) fun h' hn' hs=>?_)))
  obtain⟨oD,esD,epD,hoD,hdD,hcD⟩:=hn'.count (V8 name v PySem.Within.nil)
  refine Zd (Ud hoD (by rw[hdD];exact Ue (Zz hcD (by rw[length_cons,length_nil,Y8];omega))) ?_)
  wp_walk
  have ge':h'.get? e=some ⟨.ref C,some h.objs.size,.fields vs,osl⟩:=(hs.2 e nes).trans (Xk _ he1 rfl)
  refine hq h' h.objs.size _ (.inr ⟨rfl,Zl _⟩) ge' nes.symm ?_ (fun b u hb hbd hu=>?_)
  ·obtain⟨o',es,ep,e1,e2,e3,eu,e4⟩:=hn'
   exact⟨o',es,ep,e1,e2,e3,eu,fun y=>by rw[e4 y];by_cases hy:y=name<;>simp[hy,hmA]⟩
  ·exact(hs.2 b hbd).trans ((T8 _ _ _ _ hb).trans (Zh _ hu))
 ·dsimp only at hdx
  subst hdx
  dsimp only
  refine Zr ?_
  show wpAny _ _ (Builtin.ObjectAttr.storeInDict dx (.str name _) name v) _ _ _
  unfold Builtin.ObjectAttr.storeInDict Builtin.ObjectAttr.newKeyGuard
  refine Zd (Zr (Zd (U5 hns fun h' hn' hs=>?_)))
  obtain⟨oD,esD,epD,hoD,hdD,hcD⟩:=hn'.count (V8 name v hw)
  refine Zd (Ud hoD (by rw[hdD];exact Ue (Zz hcD (by rw[length_cons,Y8];omega))) ?_)
  wp_walk
  exact hq h' dx _ (.inl rfl) ((hs.2 e hne.symm).trans he) hne hn' (fun b u hb hbd hu=>(hs.2 b hbd).trans hu)
theorem x_match(KX:K.In h)(X:XCls K C bm)(he:h.get? e=some o)(hc:o.cls=.ref C){C':Addr}{bm':List Value}(X':XCls K C' bm'){Q:Bool->Shared->Prop}(hq:Q ((Value.ref C::bm).contains (.ref C')) ⟨h,g,d,t,os⟩):
  wpAny (model prog w) A (excMatches (.ref e) (.ref C')) Q E ⟨h,g,d,t,os⟩:=by
 obtain⟨nm,q,N,bs,sn,sub,ab,col,dd,k0,k1,k2,k3,k5,hC'⟩:=X.obj
 have hC:=KX _ _ hC'
 obtain⟨nm',q',N',bs',sn',sub',ab',col',dd',l0,l1,l2,l3,l5,hD'⟩:=X'.obj
 have hD:=KX _ _ hD'
 have cB:(Value.ref C'::bm').contains (.type "BaseException")=true:=by rw[Yz,X'.hasB,Wq]
 have f:=tc_notTuple
 generalize hb:(Value.ref C::bm).contains (.ref C')=b at hq
 unfold excMatches
 repeat (first| (with_reducible refine Z1 he ?_;rw[hc])|with_reducible refine Z1 hD ?_| (with_reducible refine Yx hD ?_;rw[cB])| (with_reducible refine Yx hC ?_;rw[hb])|wp_step)
 cases b<;>(wp_walk;exact hq)
end
def XFp(e C:Addr)(dx:Option Addr)(fr:Bool)(h:Heap):Prop:=∃o vs t0 x,h.get? e=some o/\o.cls=.ref C/\o.dict=dx/\o.data=.fields vs/\vs[0]? =some (Value.ref t0)/\vs[1]? =some x/\(fr=true->x=.none)/\vs[2]? =some Value.none
def XF(e C:Addr)(dx:Option Addr)(fr:Bool):HO:=.ext (XFp e C dx fr)
theorem XFp.on{e C:Addr}{dx:Option Addr}{fr:Bool}{h h':Heap}(x:XFp e C dx fr h)(k:∀o,h.get? e=some o->h'.get? e=some o):XFp e C dx fr h':=by
 obtain⟨o,vs,t0,y,a,b⟩:=x
 exact⟨o,vs,t0,y,k o a,b⟩
theorem b8s{P:Program}{w:World}{H:Hp}{h:Heap}{e C:Addr}{dx:Option Addr}{fr:Bool}(x:XFp e C dx fr h):a1y P w H h e (XF e C dx fr):=⟨x,let⟨o,_,_,_,a,_⟩:=x;⟨o,a⟩,fun _ _ z k=>z.on k⟩
theorem a9q{P:Program}{w:World}{H:Hp}{h:Heap}{e C:Addr}{dx:Option Addr}{fr:Bool}(ok:HOk P w H h)(a:H e=some (XF e C dx fr)):XFp e C dx fr h:=(ok e _ a).1
theorem d3k{H:Hp}{a:Addr}{o:HO}(h:H a=some o):upd H a o=H:=by
 funext b
 by_cases e:b=a
 ·subst e;rw[a0b,h]
 ·rw[a0j e]
def TbOf(s:Shared)(ea:Addr)(H':Hp)(h:Heap):Prop:=∃o vs T,h.get? ea=some o/\o.data=.fields vs/\vs[1]? =some (Value.ref T)/\T≠ea/\s.heap.objs.size<=T/\H' T=none/\TbIs h T
def CXo(P:Program)(w:World):CXT:=fun outer H s E e s'=>∃ea C dx H',e=.ref ea/\H' ea=some (XF ea C dx false)/\s'.os=s.os/\AllBare s'.gens/\Un (frs outer) [] H H' s.heap s'.heap/\HOk P w H' s'.heap/\TbOf s ea H' s'.heap/\E (.ref C) (some ea) H'
section
variable{X:Cx}{pins:List (Addr×Obj)}{σ:St}{H:Hp}{s:Shared}
def TOk(X:Cx)(pins:List (Addr×Obj))(H:Hp)(T:Addr):Prop:=X.s₀.heap.objs.size<=T/\T≠X.env.locals/\(∀x c,X.env.cells.lookup x=some c->c≠T)/\(∀p∈X.pn++pins,p.1≠T)/\H T=none
theorem c3y{h':Heap}{ea C:Addr}{dx:Option Addr}{fr:Bool}{o:Obj}{ok:Addr->Prop}{ch:List Addr}(I:Inv X pins σ H s)(hx:H ea=some (XF ea C dx fr))(ge:s.heap.get? ea=some o)(l:Left (frs X.stack) ea o ok s.heap h')(hok:∀T,ok T->T∈ch)(hch:∀T∈ch,TOk X pins H T)(hnew:fr=false):
  Inv X pins σ H { s with heap:=h'}:=by
 subst hnew
 have ntr:∀b u,H b=some u->¬ok b:=fun b u e z=>by rw[(hch b (hok b z)).2.2.2.2]at e;cases e
 have nfr:∀b u,H b=some u->b∉frs X.stack:=fun b u e z=>by rw[I.stkFree b z]at e;cases e
 have hk:HOk X.prog X.w H h':=fun a u e=>by
  by_cases ha:a=ea
  ·subst ha
   rw[hx]at e
   cases e
   obtain⟨o',vs,t0,y,a1,a2,a3,a4,a5,a6,_,a8⟩:=a9q I.hok hx
   rw[ge]at a1
   cases a1
   obtain⟨T,_,_,gT⟩:=l.tb
   refine b8s ⟨_,_,t0,.ref T,gT,?_,?_,a7z _ a4,?_,?_,(fun z=>by cases z),?_⟩
   ·rw[Obj.cls_mapFields];exact a2
   ·rw[c7h];exact a3
   ·rw[Xv (by decide)];exact a5
   ·have:=(Ye.mp a6).1
    simp[this]
   ·rw[Xv (by decide)];exact a8
  ·refine(I.hok a u e).stay (fun b v hb q=>?_) (fun _ q=>q) fun _ _ q=>q
   rcases hb with rfl|hb
   ·exact l.keep b v ha (ntr b u e) (nfr b u e) q
   ·refine l.keep b v (fun z=>?_) (ntr b _ hb) (nfr b _ hb) q
    rw[z,hx]at hb
    cases hb
 refine I.step (g':=s.gens) (d':=s.drawn) (t':=s.toks) (ch:=ch) (fun b hb=>⟨.inr (hch b hb).1,(hch b hb).2.1,(hch b hb).2.2.1,(hch b hb).2.2.2.1⟩) (fun b u hL hf hc e n=>?_) (fun b u hL hf hc e n=>?_) (fun _ _ _ _ n=>n) (fun b u hc e=>l.there b u e) (fun _ _ e=>e) (fun _ _ _ e=>e) (fun b ps e=>⟨#[],by rw[e];simp⟩) (fun m hm=>?_) hk I.bare
 ·refine l.keep b u (fun z=>by rw[z,hx]at n;cases n) (fun z=>hc (hok b z)) (fun z=>?_) e
  rcases Zj.mp (I.stkSub b z)with z|z
  ·exact hL z
  ·exact hf z
 ·exact l.slot b u (fun z=>by rw[z,hx]at n;cases n) (fun z=>hc (hok b z)) e
 ·obtain⟨u,es,ep,e,r⟩:=hm
  obtain⟨sl,e2⟩:=l.slot _ u (fun z=>by have:=I.free;rw[z,hx]at this;cases this) (fun z=>(hch _ (hok _ z)).2.1 rfl) e
  exact⟨_,es,ep,e2,r⟩
theorem c0a{T:Addr}(I:Inv X pins σ H s)(h:s.heap.objs.size<=T){H':Hp}(hn:H' T=none):TOk X pins H' T:=by
 refine⟨Zz I.sz h,fun z=>?_,fun x c e z=>?_,fun p hp z=>?_,hn⟩
 ·rw[z]at h;exact absurd I.lt (Ur.mpr h)
 ·obtain⟨v,o,ho,_⟩:=I.cell x c e
  rw[z]at ho
  exact absurd (Zs ho) (Ur.mpr h)
 ·obtain⟨hp1,_⟩:=I.pin p hp
  rw[z]at hp1
  exact absurd (Zs hp1) (Ur.mpr h)
theorem c7i{ea:Addr}{o:Obj}{vs:Array Value}{ok:Addr->Prop}{fs:List Addr}{h':Heap}(I:Inv X pins σ H s)(ge:s.heap.get? ea=some o)(gd:o.data=.fields vs)(g1:1<vs.size)(l:Left fs ea o ok s.heap h'):TbOf s ea H h':=by
 obtain⟨T,h1,h2,h3⟩:=l.tb
 exact⟨_,_,T,h3,a7z _ gd,by simp[g1],fun z=>absurd (Zs ge) (by rw[<-z];exact Ur.mpr h1),h1,I.hok.fresh h1,h2⟩
end
section
variable{P:Program}{w:World}{K:Frag}{mg:Str->Option Value}{base:Heap}{N:List Str}{qual:Str}{scope:Scope}{f:Addr}{cd:Value}{A:Around}{outer:List Env}{s:Shared}{H:Hp}{E:XK}
theorem xe_of{pins:List (Addr×Obj)}{σ:St}{H':Hp}{s2:Shared}{ea C:Addr}{dx:Option Addr}(I:Inv (cxOf (CXo P w) P w K mg base N qual scope f cd A outer s H E) pins σ H' s2)(hx:H' ea=some (XF ea C dx false))
  (tb:∀vs o,s2.heap.get? ea=some o->o.data=.fields vs->vs[1]? =some .none\/∃T,vs[1]? =some (.ref T)/\T≠ea/\TOk (cxOf (CXo P w) P w K mg base N qual scope f cd A outer s H E) pins H' T/\TbIs s2.heap T)(hE:E (.ref C) (some ea) H'):
  (cxOf (CXo P w) P w K mg base N qual scope f cd A outer s H E).xe (.ref ea) s2:=by
 obtain⟨o,vs,t0,y,a1,a2,a3,a4,a5,a6,_⟩:=a9q I.hok hx
 have g1:=(Ye.mp a6).1
 show wpAny _ _ (leaving _ (.ref ea)) _ _ s2
 have fin:∀(ok:Addr->Prop)(ch:List Addr)(h':Heap),(∀T,ok T->T∈ch)->(∀T∈ch,TOk (cxOf (CXo P w) P w K mg base N qual scope f cd A outer s H E) pins H' T)->Left (frs (cxOf (CXo P w) P w K mg base N qual scope f cd A outer s H E).stack) ea o ok s2.heap h'->CXo P w outer H s E (.ref ea) { s2 with heap:=h'}:=fun ok ch h' hok hch l=>by
  have I2:=c3y I hx a1 l hok hch rfl
  refine⟨ea,C,dx,H',rfl,hx,I2.os,I2.bare,I2.base,I2.hok,?_,hE⟩
  obtain⟨o2,vs2,T,b1,b2,b3,b4,b5,b6,b7⟩:=c7i I a1 a4 g1 l
  exact⟨o2,vs2,T,b1,b2,b3,b4,Zz I.sz b5,b6,b7⟩
 refine Zd ?_
 rcases tb vs o a1 a4 with z|⟨T,z1,z2,z3,z4⟩
 ·exact b5f (ok:=fun _=>False) I.ok.frames I.stack rfl a1 a4 (.inl z) fun h' l=>fin _ [] h' (fun _ z=>z.elim) (fun _ z=>absurd z Zy) l
 ·exact b5f (ok:=fun b=>b=T) I.ok.frames I.stack rfl a1 a4 (.inr ⟨T,z1,z2,rfl,z4⟩) fun h' l=>fin _ [T] h' (fun _ z=>Zn.mpr z) (fun b z=>by rw[Zn.mp z];exact z3) l
theorem a2r:a7i (CXo P w) (cxOf (CXo P w) P w K mg base N qual scope f cd A outer s H E) E:=by
 intro pins σ H1 s1 e s2 I h
 obtain⟨ea,C,dx,H',rfl,hx,os,bare,un,hok,tb,hE⟩:=h
 have I2:=I.call' (ch:=[]) os un hok bare (fun _ z=>absurd z Zy)
 obtain⟨o,vs,T,b1,b2,b3,b4,b5,b6,b7⟩:=tb
 refine xe_of I2 hx (fun vs' o' c1 c2=>.inr ⟨T,?_,b4,?_,b7⟩) hE
 ·rw[b1]at c1;cases c1
  rw[b2]at c2;cases c2
  exact b3
 ·exact c0a I b5 b6
end
section
variable{X:Cx}{pins:List (Addr×Obj)}{σ:St}{H:Hp}{s:Shared}{pos apos np:Pos}{a b o e value:Expr}{es:List Expr}{t:TA}{te ta tv:TE}{f x:Str}
theorem b2h:bootBuiltins "ValueError"=some (.type "ValueError"):=by rfl
def d0x(K:Frag)(t:TA):TE:=fun σ H Q=>t σ H fun vs H2=>∃e C dx fr bm y,vs=[.ref e,y]/\H2 e=some (XF e C dx fr)/\XCls K C bm/\Q .non H2
theorem d3l{pl:Sem Bool}(hg:Gl X "ValueError")(hm:X.mg "ValueError"=none)(ha:PA X [a,b] t)(hst:starEach [a,b] X.env=(false,eval a X.env)::starEach [b] X.env:=by rfl)(hpl:(backTo pos (starEach [b] X.env)).any (·.1)=false:=by rfl)
  (ht:eval (.Call (.Attribute (.Name "ValueError" np) "__init__" apos) [a,b] [] pos) X.env=(do
   let ov <-eval (.Name "ValueError" np) X.env
   standAt apos.atName
   let(f,first) <-holding [ov] (getMethod ov "__init__" pl)
   callWith pos f first (backTo pos (starEach [a,b] X.env)) (backToKw pos (keywordEach [] X.env))):=by rfl):
  PE X (.Call (.Attribute (.Name "ValueError" np) "__init__" apos) [a,b] [] pos) (d0x X.K t):=by
 intro pins s σ H Q I h
 refine Uk (pl:=pl) (thn ((b1g (X:=X) (pos:=np) hg hm b2h) pins s σ H (fun v H1=>v=.ty "ValueError"/\H1=H) I ⟨rfl,rfl⟩) fun u s1 ⟨y,H1,I1,ry,e1,e2⟩=>?_) ht
 subst e1 e2
 obtain rfl:u=Value.type "ValueError":=ry
 obtain⟨m,F⟩:=I1.fr
 refine method_type F I1.ok.mod.kin (by kernel_rfl) (by decide+kernel) (v:=.builtin "ValueError.__init__") (by kernel_rfl) (by decide+kernel) ?_
 have I2:=I1.tok (s1.toks+1)
 refine callWith_builtin1 (thn (ha pos pins _ σ H1 _ I2 h) fun us s2 ⟨vs,H2,I3,r,q⟩=>?_) hst hpl
 obtain⟨ea,C,dx,fr,bm,y,rfl,hx,Xc,q⟩:=q
 obtain⟨u1,us1,rfl,r1,r2⟩:∃u1 us1,us=u1::us1/\RelV (.ref ea) u1/\Vals [y] us1:=by cases r with|cons p q=>exact⟨_,_,rfl,p,q⟩
 obtain⟨u2,rfl,r3⟩:=r2.one
 obtain rfl:u1=Value.ref ea:=r1
 obtain⟨ob,ws,t0,z,a1,a2,a3,a4,a5,a6,a7,a8⟩:=a9q I3.hok hx
 obtain⟨hp,g,d,tk,os⟩:=s2
 refine x_init I3.kIn Xc a1 a2 a4 a5 ?_
 refine⟨.non,H2,?_,rfl,q⟩
 have k1:∀b u,b≠ea->hp.get? b=some u->((hp.push { cls:=.type "tuple",data:=.seq [u2].toArray}).update ea (Obj.mapFields (·.setIfInBounds 0 (.ref hp.objs.size)))).get? b=some u:=fun b u hb hu=>by
  rw[Yl _ _ (Ne.symm hb)]
  exact Zh _ hu
 have k2:=Xk (Obj.mapFields (·.setIfInBounds 0 (.ref hp.objs.size))) (Zh { cls:=.type "tuple",data:=.seq [u2].toArray} a1) (Wt (a7z _ a4))
 have sz0:=(Ye.mp a5).1
 have:=I3.write (t':=tk) (o:=XF ea C dx fr) (x:=ea) (e:=ea) (by rw[hx];exact True.intro) (.inl rfl) k1 ⟨_,k2⟩ (b8s ⟨_,_,hp.objs.size,z,k2,by rw[Obj.cls_mapFields];exact a2,by rw[c7h];exact a3,a7z _ a4,by simp[sz0],by rw[Xv (by decide)];exact a6,a7,by rw[Xv (by decide)];exact a8⟩)
 rw[d3k hx]at this
 exact this
structure a6i(K:Frag)(C:Addr):Prop where
 ga:findIn K (.ref C) "__getattribute__"=some (some (.builtin "BaseException.__getattribute__"))
 gx:findIn K (.ref C) "__getattr__"=some none
 sa:findIn K (.ref C) "__setattr__"=some (some (.builtin "object.__setattr__"))
def tXSet(K:Frag)(ta tv:TE)(f:Str):TS:=fun D σ H=>tv σ H fun y H1=>ta σ H1 fun x H2=>∃e C bm fr,x=.ref e/\XCls K C bm/\XUp bm/\a6i K C/\a1z K C f/\
 ((H2 e=some (XF e C none fr)/\∀dx,H2 dx=none->dx≠e->D.nx σ (upd (upd H2 dx (.xd [(f,y)])) e (XF e C (some dx) fr)))\/(∃dx fs,H2 e=some (XF e C (some dx) fr)/\H2 dx=some (.xd fs)/\fs.length<=900/\D.nx σ (upd H2 dx (.xd (putF f y fs)))))
theorem d0y{mA:Str->Option Value}{fs:List (Str×V)}(h:∀f,RelO (fs.lookup f) (mA f)):PySem.Within mA (fs.map (·.1)):=fun y hy=>by
 cases e:fs.lookup y with
 |none=>
  have:=h y
  rw[e]at this
  exact absurd (RelO.none_of this) hy
 |some v=>
  have:=List.mem_map_of_mem (f:=(·.1)) (Yp e)
  exact this
theorem ps_xset(ha:PE X o ta)(hv:PE X value tv)(hs:swapsWith value (some (.Attribute o f apos)) pos.line X.env=pure false:=by rfl):PS X (.Assign [.Attribute o f apos] value pos) (tXSet X.K ta tv f):=by
 intro pins s σ H D I h
 refine Uc (thn (hv pins s σ H _ I h) fun u s1 ⟨y,H1,I1,ry,q⟩=>thn (ha pins s1 σ H1 _ I1 q) fun ov s2 ⟨x,H2,I2,rx,ea,C,bm,fr,ex,Xc,U,Xa,n,q2⟩=>?_) hs
 subst ex
 obtain rfl:ov=Value.ref ea:=rx
 obtain⟨hp,g,d,tk,os⟩:=s2
 rcases q2 with⟨hx,q3⟩|⟨dx,fs,hx,hd,hl,q3⟩
 ·obtain⟨ob,ws,t0,z,a1,a2,a3,a4,a5,a6,a7⟩:=a9q I2.hok hx
  refine x_set (mA:=fun _=>none) (ns:=[]) I2.kIn Xc U Xa.sa n a1 a2 a4 (fun y hy=>absurd rfl hy) (by simp) (.inl ⟨a3,fun _=>rfl⟩) fun h' dx tk' hdx g1 g2 g3 g4=>?_
  have hsz:hp.objs.size<=dx:=by
   rcases hdx with z|z
   ·rw[a3]at z;cases z
   ·exact z.2
  refine⟨σ,_,?_,q3 dx (I2.hok.fresh hsz) g2⟩
  have gg:∀b u,b≠ea->hp.get? b=some u->h'.get? b=some u:=fun b u hb hu=>g4 b u hb (Yc (Zx (Zs hu) hsz)) hu
  have hfree:=I2.hok.fresh hsz
  have okd:a1y X.prog X.w (upd (upd H2 dx (.xd [(f,y)])) ea (XF ea C (some dx) fr)) h' dx (.xd [(f,y)]):=⟨_,g3,fun k=>by
   by_cases hk:k=f
   ·subst hk
    simp only[List.lookup,beq_self_eq_true,if_true]
    exact ry
   ·have hb:(k==f)=false:=Y7.mpr hk
    simp only[List.lookup,hb,if_neg hk]
    exact trivial⟩
  have okh:HOk X.prog X.w (upd (upd H2 dx (.xd [(f,y)])) ea (XF ea C (some dx) fr)) h':=fun b v hb=>by
   by_cases h1:b=ea
   ·subst h1
    rw[a0b]at hb
    cases hb
    exact b8s ⟨_,ws,t0,z,g1,a2,rfl,a4,a5,a6,a7⟩
   ·rw[a0j h1]at hb
    by_cases h2:b=dx
    ·subst h2
     rw[a0b]at hb
     cases hb
     exact okd
    ·rw[a0j h2]at hb
     have nd:∀c u,H2 c=some u->c≠dx:=fun c u hc z=>by rw[z,hfree]at hc;cases hc
     refine(I2.hok b v hb).stay (fun c w' hc qq=>gg c w' ?_ qq) (fun c qq=>?_) fun c xs qq=>?_
     ·rcases hc with rfl|hc
      ·exact h1
      ·exact fun zz=>by rw[zz,hx]at hc;cases hc
     ·rw[a0j (fun zz=>by rw[zz,hx]at qq;cases qq),a0j (nd c _ qq)];exact qq
     ·rw[a0j (fun zz=>by rw[zz,hx]at qq;cases qq),a0j (nd c _ qq)];exact qq
  refine I2.un (t':=tk') ?_ okh
  refine⟨fun b u e n hb hx'=>gg b u (fun zz=>by rw[zz,hx]at n;cases n) e,fun b u e n hb hx'=>⟨u.slots,gg b u (fun zz=>by rw[zz,hx]at n;cases n) e⟩,fun b u e n hx'=>?_,fun b u e hx'=>?_,fun b xs e=>?_,fun b u xs e=>?_,fun b ps e=>⟨#[],?_⟩⟩
  ·rw[a0j (fun zz=>by rw[zz,hx]at n;cases n),a0j (Yc (Zx (Zs e) hsz))];exact n
  ·by_cases h1:b=ea
   ·subst h1;exact⟨_,g1⟩
   ·exact⟨u,gg b u h1 e⟩
  ·rw[a0j (fun zz=>by rw[zz,hx]at e;cases e),a0j (fun zz=>by rw[zz,hfree]at e;cases e)];exact e
  ·rw[a0j (fun zz=>by rw[zz,hx]at e;cases e),a0j (fun zz=>by rw[zz,hfree]at e;cases e)];exact e
  ·rw[a0j (fun zz=>by rw[zz,hx]at e;cases e),a0j (fun zz=>by rw[zz,hfree]at e;cases e),e];simp
 ·obtain⟨ob,ws,t0,z,a1,a2,a3,a4,a5,a6,a7⟩:=a9q I2.hok hx
  obtain⟨mA,hm,hr⟩:=(show a1y X.prog X.w H2 hp dx (.xd fs)from I2.hok dx _ hd)
  have hne:dx≠ea:=fun zz=>by rw[zz,hx]at hd;cases hd
  refine x_set (mA:=mA) (ns:=fs.map (·.1)) I2.kIn Xc U Xa.sa n a1 a2 a4 (d0y hr) (by rw[length_map];omega) (.inr ⟨dx,a3,hne,hm⟩) fun h' dx' tk' hdx g1 g2 g3 g4=>?_
  obtain rfl:dx'=dx:=by
   rcases hdx with z|z
   ·rw[a3]at z;exact(Zq z).symm
   ·rw[a3]at z;cases z.1
  refine⟨σ,_,?_,q3⟩
  have gg:∀b u,b≠dx'->hp.get? b=some u->h'.get? b=some u:=fun b u hb hu=>by
   by_cases h1:b=ea
   ·subst h1
    rw[a1]at hu
    cases hu
    rw[g1,<-a3]
   ·exact g4 b u h1 hb hu
  have nw:a1y X.prog X.w (upd H2 dx' (.xd (putF f y fs))) h' dx' (.xd (putF f y fs)):=⟨_,g3,fun k=>by
   rw[b2q]
   by_cases hk:k=f
   ·rw[if_pos hk,if_pos hk]
    exact ry
   ·rw[if_neg hk,if_neg hk]
    exact hr k⟩
  have okh:HOk X.prog X.w (upd H2 dx' (.xd (putF f y fs))) h':=fun b v hb=>by
   by_cases h1:b=dx'
   ·subst h1
    rw[a0b]at hb
    cases hb
    exact nw
   ·rw[a0j h1]at hb
    refine(I2.hok b v hb).stay (fun c w' hc qq=>gg c w' ?_ qq) (fun c qq=>?_) fun c xs qq=>?_
    ·rcases hc with rfl|hc
     ·exact h1
     ·exact fun zz=>by rw[zz,hd]at hc;cases hc
    ·rw[a0j (fun zz=>by rw[zz,hd]at qq;cases qq)];exact qq
    ·rw[a0j (fun zz=>by rw[zz,hd]at qq;cases qq)];exact qq
  refine I2.un (t':=tk') ?_ okh
  refine⟨fun b u e n hb hx'=>gg b u (fun zz=>by rw[zz,hd]at n;cases n) e,fun b u e n hb hx'=>⟨u.slots,gg b u (fun zz=>by rw[zz,hd]at n;cases n) e⟩,fun b u e n hx'=>?_,fun b u e hx'=>?_,fun b xs e=>?_,fun b u xs e=>?_,fun b ps e=>⟨#[],?_⟩⟩
  ·rw[a0j (fun zz=>by rw[zz,hd]at n;cases n)];exact n
  ·by_cases h1:b=dx'
   ·subst h1
    exact let⟨u,_,_,e,_⟩:=g3;⟨u,e⟩
   ·exact⟨u,gg b u h1 e⟩
  ·rw[a0j (fun zz=>by rw[zz,hd]at e;cases e)];exact e
  ·rw[a0j (fun zz=>by rw[zz,hd]at e;cases e)];exact e
  ·rw[a0j (fun zz=>by rw[zz,hd]at e;cases e),e];simp
def tXGet(K:Frag)(ta:TE)(f:Str):TE:=fun σ H Q=>ta σ H fun x H1=>∃e C bm dx fs fr v,x=.ref e/\H1 e=some (XF e C (some dx) fr)/\XCls K C bm/\a6i K C/\a1z K C f/\H1 dx=some (.xd fs)/\fs.lookup f=some v/\Q v H1
theorem pe_xget(he:PE X e ta)(hb:attributeBase e f X.env (eval e X.env)=eval e X.env:=by rfl):PE X (.Attribute e f pos) (tXGet X.K ta f):=by
 intro pins s σ H Q I h
 refine c6r hb (thn (he pins s σ H _ I h) fun u s1 ⟨x,H1,I1,rx,ea,C,bm,dx,fs,fr,v,ex,hx,Xc,Xa,n,hd,l,q⟩=>?_)
 subst ex
 obtain rfl:u=Value.ref ea:=rx
 obtain⟨hp,g,d,tk,os⟩:=s1
 obtain⟨ob,ws,t0,z,a1,a2,a3,a4,a5,a6,a7⟩:=a9q I1.hok hx
 obtain⟨mA,hm,hr⟩:=(show a1y X.prog X.w H1 hp dx (.xd fs)from I1.hok dx _ hd)
 obtain⟨u,hu,ru⟩:=RelO.some_of (v:=v) (o:=mA f) (by rw[<-l];exact hr f)
 exact x_get I1.kIn Xc Xa.ga Xa.gx n a1 a2 a3 a4 hm hu (c0x ru) ⟨v,H1,I1.tok _,ru,q⟩
end
section
variable{X:Cx}{CX:CXT}{k:Nat}{f C:Addr}{fd:FuncData}{ps:List Str}{sp:Sp}{dvs:List V}{ds:List Value}{E:XK}{x m:Str}{p pos apos np:Pos}{e o:Expr}{es:List Expr}{ta te:TE}{t:TA}{bm:List Value}
structure XMk(K:Frag)(C:Addr)(bm:List Value)(f:Addr):Prop where
 cls:XCls K C bm
 init:findIn K (.ref C) "__init__"=some (some (.ref f))
 fn:typeIn K (.ref f)=some (.type "function")
 kp:keepIn K (.ref C)=true
theorem run_exc{pins:List (Addr×Obj)}{σ:St}{H:Hp}{s:Shared}{Q:VK}{us:List Value}{vs:List V}(M:XMk X.K C bm f)(F:FnOk X.prog X.w X.K X.mg X.base CX k f fd ps sp)(hr:Room (k+1) X.A)(hb:Binds X.K fd ps ds)(hd:Vals dvs ds)
  (hx:a7i CX X E)(I:Inv X pins σ H s)(r:Vals vs us)(hl0:us.length<=1000)
  (h:∀e,H e=none->sp (.ref e::(vs++dvs)) (upd H e (XF e C none true)) (fun v H2=>v=.non/\Q (.ref e) H2) E):
  wpAny (model X.prog X.w) X.A (call (.ref C) us) (EP X pins σ Q) X.xe s:=by
 obtain⟨hp,g,d,tk,os⟩:=s
 have hq:=h (hp.objs.size+1) (I.hok.fresh (Tp _))
 have I2:Inv X pins σ (upd H (hp.objs.size+1) (XF (hp.objs.size+1) C none true)) ⟨(hp.push { cls:=.type "tuple",data:=.seq us.toArray}).push { cls:=.ref C,data:=.fields #[.ref hp.objs.size,.none,.none,.none,.bool false,.none]},g,d,tk,os⟩:=by
  refine I.laid (t':=tk) (fun b u e=>Zh _ (Zh _ e)) (Tp _) (b8s ⟨{ cls:=.ref C,data:=.fields #[.ref hp.objs.size,.none,.none,.none,.bool false,.none]},#[.ref hp.objs.size,.none,.none,.none,.bool false,.none],hp.objs.size,.none,?_,rfl,rfl,rfl,rfl,rfl,(fun _=>rfl),rfl⟩)
  heap_get
 have r2:Vals (V.ref (hp.objs.size+1)::(vs++dvs)) (Value.ref (hp.objs.size+1)::(us++ds)):=.cons rfl (r.append hd)
 have hl:(Value.ref (hp.objs.size+1)::us++ds).length=ps.length:=by
  have q:=r2.length
  rw[F.len _ _ _ _ hq]at q
  exact q.symm
 refine x_call I.kIn M.cls M.init M.fn (by rw[Y8];omega) (Wv (Wn (F.run _ X.stack _ _ ⟨Value.ref (hp.objs.size+1)::us,[]⟩ (Value.ref (hp.objs.size+1)::(us++ds)) _ _ E (hr.make C us []) (I2.env0.make C us []) (hb _ (Value.ref (hp.objs.size+1)::us) I2.kIn hl) r2 hq) fun r s' hq'=>?_))
 cases r with
 |error e=>exact hx pins σ _ _ e s' I2 hq'
 |ok fl=>
  cases fl with
  |ret u=>
   obtain⟨v,H',I3,rv,ev,q3⟩:=I2.after hq'
   subst ev
   exact⟨rv,⟨V.ref (hp.objs.size+1),H',I3,rfl,q3⟩⟩
  |next=>exact False.elim hq'
  |brk=>exact False.elim hq'
  |cont=>exact False.elim hq'
def d0z(C:Addr)(sp:Sp)(dvs:List V)(E:XK)(t:TA):TE:=fun σ H Q=>t σ H fun vs H1=>vs.length<=1000/\∀e,H1 e=none->sp (.ref e::(vs++dvs)) (upd H1 e (XF e C none true)) (fun v H2=>v=.non/\Q (.ref e) H2) E
theorem a4p(M:XMk X.K C bm f)(F:FnOk X.prog X.w X.K X.mg X.base CX k f fd ps sp)(hr:Room (k+1) X.A)(hg:Gl X x)(hm:X.mg x=some (.ref C))(hb:Binds X.K fd ps ds)(hd:Vals dvs ds)(hx:a7i CX X E)
  (ha:PA X (e::es) t)(hdb:(x==("__debug__":Str))=false:=by decide)(he:starEach (e::es) X.env=(false,eval e X.env)::starEach es X.env:=by rfl)(hpl:(backTo pos (starEach es X.env)).any (·.1)=false:=by rfl):
  PE X (.Call (.Name x p) (e::es) [] pos) (d0z C sp dvs E t):=by
 intro pins s σ H Q I h
 refine Xh (a8y I hg hm ?_ hdb)
 refine W0 (h₀:=X.base) I.ok.mod.kin M.kp (thn (ha pos pins s σ H _ I h) fun us s1 ⟨vs,H1,I1,r,ql,q⟩=>⟨I1.kIn,?_⟩) he hpl
 exact run_exc M F hr hb hd hx I1 r (show us.length<=1000 by rw[<-r.length];exact ql) q
def XeOk(X:Cx)(EX:XK):Prop:=∀(pins:List (Addr×Obj))(σ:St)(H:Hp)(s:Shared)(ea C:Addr)(dx:Option Addr),Inv X pins σ H s->H ea=some (XF ea C dx false)->(∃o vs,s.heap.get? ea=some o/\o.data=.fields vs/\vs[1]? =some Value.none)->EX (.ref C) (some ea) H->X.xe (.ref ea) s
theorem a5p{P:Program}{w:World}{K:Frag}{mg:Str->Option Value}{base:Heap}{N:List Str}{qual:Str}{scope:Scope}{f:Addr}{cd:Value}{A:Around}{outer:List Env}{s:Shared}{H:Hp}{E:XK}:XeOk (cxOf (CXo P w) P w K mg base N qual scope f cd A outer s H E) E:=fun pins σ H' s2 ea C dx I hx ⟨o,vs,g1,g2,g3⟩ hE=>
 xe_of I hx (fun vs' o' c1 c2=>.inl (by rw[g1]at c1;cases c1;rw[g2]at c2;cases c2;exact g3)) hE
def d1a(EX:XK)(K:Frag)(te:TE):TS:=fun _ σ H=>te σ H fun v H1=>∃e C dx bm,v=.ref e/\XCls K C bm/\H1 e=some (XF e C dx true)/\EX (.ref C) (some e) (upd H1 e (XF e C dx false))
theorem a4q{EX:XK}(hc:X.calm=true)(hE:XeOk X EX)(he:PE X e te):PS X (.Raise (some e) none pos) (d1a EX X.K te):=by
 intro pins s σ H D I h
 show wpAny _ _ (do standAt pos;raiseStmt X.env (some (do let v <-eval e X.env;standAt pos;pure v)) none) _ _ s
 refine Zd (W9 (x_raise (K:=X.K) (I.ok.hd hc) (Zd (thn (he pins s σ H _ I h) fun v s1 ⟨y,H1,I1,ry,q⟩=>Zd (W9 (Zr ?_))))))
 obtain⟨ea,C,dx,bm,rfl,Xc,hx,hq⟩:=q
 obtain rfl:v=Value.ref ea:=ry
 obtain⟨ob,ws,t0,z,a1,a2,a3,a4,a5,a6,a7,a8⟩:=a9q I1.hok hx
 have a6:ws[1]? =some Value.none:=by rw[a6,a7 rfl]
 refine⟨ea,ob,ws,C,bm,rfl,Xc,I1.kIn,a1,a2,a4,a6,?_⟩
 have I2:Inv X pins σ (upd H1 ea (XF ea C dx false)) s1:=by
  have:=I1.write (t':=s1.toks) (h':=s1.heap) (o:=XF ea C dx false) (x:=ea) (e:=ea) (by rw[hx];exact True.intro) (.inl rfl) (fun _ _ _ z=>z) ⟨_,a1⟩ (b8s ⟨ob,ws,t0,.none,a1,a2,a3,a4,a5,a6,(fun z=>by cases z),a8⟩)
  exact this
 exact hE pins σ _ s1 ea C dx I2 a0b ⟨ob,ws,a1,a4,a6⟩ hq
structure XClsM(K:Frag)(C:Addr)(m:Str)(f:Addr):Prop where
 ga:specialIn K (.ref C) "__getattribute__"=some (some (.builtin "type.__getattribute__"))
 rd:readsIn K C (.type "type")=true
 at_:findCls K (.ref C) (.type "type") m=some (.val (.ref f))
 kp:keepIn K (.ref f)=true
end
theorem Fun.okX{P:Program}{w:World}{K:Frag}{mg:Str->Option Value}{base:Heap}{x qual:Str}{st:Stmt}{f:Addr}{fd:FuncData}{N ps:List Str}{k:Nat}{sp:Sp}(F:Fun K x qual st f fd)(S:a0q N ps (a0i st))(len:∀vs H Q E,sp vs H Q E->vs.length=ps.length)
  (hbody:∀(cdv:Value)(A:Around)(outer:List Env)(s:Shared)(H:Hp)(vs:List V)(Q:VK)(E:XK),Room k (A.deeper (envOfC qual (a0i st) s.heap.objs.size f cdv))->sp vs H Q E->
   ∃t,PSs (cxOf (CXo P w) P w K mg base N qual (a0i st) f cdv A outer s H E) (a4u st) t/\t { nx:=fun _ H'=>Q .non H',rt:=Q} (start N vs) H):FnOk P w K mg base (CXo P w) (k+1) f fd ps sp:=by
 obtain⟨oc,od,kV,doc,pm,an,cdv,ct,osl,rfl,lk,hcd⟩:=F.ex
 exact fn_of lk hcd S len fun A outer s H vs Q E hr hsp=>hbody cdv A outer s H vs Q E hr hsp
def Cx.inX(X:Cx)(ea:Addr):Cx:={ X with A:=X.A.mark (some (.ref ea)),calm:=false,xe:=fun _ _=>False}
section
variable{X:Cx}{pins:List (Addr×Obj)}{σ:St}{H:Hp}{s:Shared}{ea:Addr}
theorem Inv.inX(I:Inv X pins σ H s)(ea:Addr):Inv (X.inX ea) pins σ H s:=
 ⟨⟨I.ok.mod,I.ok.kind,I.ok.glob,I.ok.blt,I.ok.above,I.ok.inj,I.ok.has,I.ok.cab,(fun z=>by cases z),I.ok.frames,I.ok.stk,I.ok.exf,I.ok.bs,I.ok.bsz,I.ok.noex,I.ok.exfs,I.ok.funs,I.ok.frf⟩,I.os,I.bare,I.base,I.loc,I.cell,I.free,I.freeC,I.pin,I.hok,I.len⟩
theorem Inv.outX(ok:X.Ok)(I:Inv (X.inX ea) pins σ H s):Inv X pins σ H s:=⟨ok,I.os,I.bare,I.base,I.loc,I.cell,I.free,I.freeC,I.pin,I.hok,I.len⟩
theorem b6e{M:Model}{A:Around}{E:Value->Shared->Prop}{n:Nat}{nm:Str}{pos:Pos}{Q:Unit->Shared->Prop}(I:Inv X pins σ H s)(hN:X.N.Nodup)(hn:X.N[n]? =some nm)(hk:X.env.kindOf nm=some .local)(h:∀s',Inv X pins (σ.set n none) H s'->Q () s'):
  wpAny M A (do bindName X.env nm .none;unbindBehindTheSuite X.env nm pos) Q E s:=by
 obtain⟨m,hm,hl⟩:=id I.loc
 have hcls:(X.env.scope.kind==.class|| (X.env.scope.kind==.module&&X.env.locals !=X.env.globals))=false:=by rw[I.ok.kind];rfl
 refine wpAny_nameGoes_keeps hk hm hcls fun h' v hm' hs=>h _ ?_
 have ne0:∀b o,X.s₀.heap.get? b=some o->b≠X.env.locals:=fun b o e=>Yc (Zx (Zs e) I.ok.above)
 refine⟨I.ok,I.os,I.bare,⟨fun b o e n hb hx=>(hs.2 b (ne0 b o e)).trans (I.base.keep b o e n hb hx),fun b o e n hb hx=>?_,I.base.free,fun b o e hx=>?_,I.base.tups,I.base.frzs,I.base.tbls⟩,⟨_,hm',fun j y v' e1 e2 e3=>?_⟩,fun y c e=>?_,I.free,I.freeC,fun p hp=>?_,fun b u e=>?_,by simpa using I.len⟩
 ·obtain⟨sl,e1⟩:=I.base.slot b o e n hb hx
  exact⟨sl,(hs.2 b (ne0 b o e)).trans e1⟩
 ·obtain⟨o',e1⟩:=I.base.there b o e hx
  exact⟨o',(hs.2 b (ne0 b o e)).trans e1⟩
 ·by_cases hj:j=n
  ·subst hj
   have hlt:j<σ.length:=by rw[I.len];exact(Y0.mp hn).1
   rw[Vk hlt]at e2
   cases e2
  ·rw[Vw (Ne.symm hj)]at e2
   obtain⟨u',r',q⟩:=hl j y v' e1 e2 e3
   refine⟨u',r',?_⟩
   rcases q with⟨k,e⟩|⟨k,c,e,z⟩
   ·refine .inl ⟨k,?_⟩
    have:y≠nm:=fun e=>hj (b6x hN e1 (e▸hn))
    simp[this,e]
   ·exact .inr ⟨k,c,e,z.sameBut hs (I.cne y c e)⟩
 ·obtain⟨w',z⟩:=I.cell y c e
  exact⟨w',z.sameBut hs (I.cne y c e)⟩
 ·obtain⟨e,n',ne,nf,d⟩:=I.pin p hp
  exact⟨(hs.2 p.1 ne).trans e,n',ne,nf,d⟩
 ·refine(I.hok b u e).stay (fun c w' hc q=>(hs.2 c ?_).trans q) (fun _ q=>q) fun _ _ q=>q
  rintro rfl
  rcases hc with z|z
  ·rw[<-z,I.free]at e;cases e
  ·rw[I.free]at z;cases z
theorem fly_ok{M:Model}{A:Around}{E:Value->Shared->Prop}{T:Addr}{o:Obj}{vs:Array Value}{Q:Unit->Shared->Prop}(I:Inv X pins σ H s)(ge:s.heap.get? ea=some o)(gd:o.data=.fields vs)(g1:vs[1]? =some (.ref T))(hT:TOk X pins H T)(tb:TbIs s.heap T)
  (q:∀s',Inv X pins σ H s'->Q () s'):wpAny M A (setFlight (.ref ea) none) Q E s:=by
 obtain⟨oT,ts,h1,h2,h3⟩:=tb
 unfold setFlight
 refine Zd (X5 ge gd g1 ?_)
 rw[if_pos (show(Value.ref T !=Value.none)=true from by simp)]
 refine W2 h1 h2 (Ye.mp h3).1 (q _ ?_)
 exact I.turned (t':=s.toks) (it:=T) (fun b u hb hu=>by rw[Yl _ _ (Ne.symm hb)];exact hu) hT.2.2.2.2 hT.2.1 (.inr hT.1) hT.2.2.1 hT.2.2.2.1
abbrev Ends.gone(D:Ends)(n:Nat):Ends:={ nx:=fun σ' H'=>D.nx (σ'.set n none) H',rt:=D.rt,bk:=fun σ' H'=>D.bk (σ'.set n none) H',ct:=fun σ' H'=>D.ct (σ'.set n none) H'}
def MetAt(X:Cx)(pins:List (Addr×Obj))(H:Hp)(ea:Addr)(h:Heap):Prop:=∃o vs T,h.get? ea=some o/\o.data=.fields vs/\vs[1]? =some (Value.ref T)/\T≠ea/\TOk X pins H T/\TbIs h T
theorem d1b{C C':Addr}{dx:Option Addr}{bm bm':List Value}{cx nm:Str}{cp hpos:Pos}{n:Nat}{b0:Stmt}{suite:List Stmt}{ts:TS}{D:Ends}(hst:X.stack=X.env::X.outer)(hfr:X.env.frame=some X.env.locals)(I:Inv X pins σ H s)(hx:H ea=some (XF ea C dx false))(tb:MetAt X pins H ea s.heap)
  (Xc:XCls X.K C bm)(Xd:XCls X.K C' bm')(hm:(Value.ref C::bm).contains (.ref C')=true)(hg:Gl X cx)(hmc:X.mg cx=some (.ref C'))(hdb:(cx==("__debug__":Str))=false)(hN:X.N.Nodup)(hn:X.N[n]? =some nm)(hk:X.env.kindOf nm=some .local)(hloc:Loc X.env.scope nm)(hf:X.fn nm=true\/X.env.scope.names.lookup nm=some .local)
  (hs:PSs (X.inX ea) (b0::suite) ts)(h:ts (D.gone n) (σ.set n (some (.ref ea))) H):
  wpAny (model X.prog X.w) X.A (noteFrame (.ref ea) X.env) (fun _ s2=>wpAny (model X.prog X.w) X.A (setFlight (.ref ea) none) (fun _ s3=>wpAny (model X.prog X.w) X.A (handleBy (.ref ea) X.env [.ExceptHandler (some (.Name cx cp)) (some nm) (b0::suite) hpos]) (SP X pins D) X.xe s3) X.xe s2) X.xe s:=by
 obtain⟨o,vs,T,a1,a2,a3,a4,a5,a6⟩:=tb
 have frs':X.A.frames=some (X.env::X.outer):=by rw[<-hst];exact I.ok.frames
 have ff:s.heap.FunFrames X.base (X.env::X.outer):=by rw[<-hst];exact I.stack
 refine b5f (ok:=fun b=>b=T) frs' ff hfr a1 a2 (.inr ⟨T,a3,a4,rfl,a6⟩) fun h' l=>?_
 rw[<-hst]at l
 have I2:=c3y I hx a1 l (ch:=[T]) (fun _ z=>Zn.mpr z) (fun b z=>by rw[Zn.mp z];exact a5) rfl
 obtain⟨o2,vs2,T2,c1,c2,c3,c4,c5,c6,c7⟩:=c7i I a1 a2 (Ye.mp a3).1 l
 have c8:TOk X pins H T2:=c0a I c5 c6
 generalize hs3:({ s with heap:=h'}:Shared)=s3 at I2
 have c1:s3.heap.get? ea=some o2:=by rw[<-hs3];exact c1
 have c7:TbIs s3.heap T2:=by rw[<-hs3];exact c7
 refine wpAny_handleBy_cons (codeAny_handlers_test (a8y (X:=X.inX ea) (I2.inX ea) hg hmc ?_ hdb)) (by intro q;cases q)
 obtain⟨ob,ws,t0,z,d1,d2,d3,d4,d5,d6,d7⟩:=a9q I2.hok hx
 obtain⟨hp,g,d,tk,os⟩:=s3
 refine x_match I2.kIn Xc d1 d2 Xd ?_
 rw[hm]
 refine codeAny_handlers_suite_as ?_
 refine fly_ok I2 c1 c2 c3 c8 c7 fun s5 I5=>?_
 refine a7r I5 hN hn hloc (v:=.ref ea) rfl (fun s6 I6=>?_) hf
 refine Xg (hs pins s6 _ H (D.gone n) (I6.inX ea) h) (fun f s7 q7=>?_) fun _ _ z=>z.elim
 have ok:=I.ok
 cases f with
 |next=>obtain⟨σ',H',I',q⟩:=q7;exact b6e (I'.outX ok) hN hn hk fun s8 I8=>⟨_,H',I8,q⟩
 |brk=>obtain⟨σ',H',I',q⟩:=q7;exact b6e (I'.outX ok) hN hn hk fun s8 I8=>⟨_,H',I8,q⟩
 |cont=>obtain⟨σ',H',I',q⟩:=q7;exact b6e (I'.outX ok) hN hn hk fun s8 I8=>⟨_,H',I8,q⟩
 |ret u=>obtain⟨v,σ',H',I',r,q⟩:=q7;exact b6e (I'.outX ok) hN hn hk fun s8 I8=>⟨v,_,H',I8,r,q⟩
end
section
variable{X:Cx}{k:Nat}{f C':Addr}{fd:FuncData}{ps:List Str}{sp:Sp}{dvs:List V}{ds:List Value}{x y nm cx:Str}{p pos apos cp hpos py tpos:Pos}{e:Expr}{es:List Expr}{t:TA}{bm':List Value}{b0:Stmt}{suite:List Stmt}{ts:TS}{i n:Nat}
def tTry(K:Frag)(C':Addr)(sp:Sp)(dvs:List V)(t:TA)(ok:Ends->St->V->Hp->Prop)(hd:Ends->St->Addr->Hp->Prop):TS:=fun D σ H=>t σ H fun vs H1=>sp (vs++dvs) H1 (fun v H2=>ok D σ v H2) (fun c eo H2=>∀ea,eo=some ea->∃C dx bm,c=.ref C/\H2 ea=some (XF ea C dx false)/\XCls K C bm/\(Value.ref C::bm).contains (.ref C')=true/\hd D σ ea H2)
theorem c3z{pins:List (Addr×Obj)}{s:Shared}{σ:St}{H:Hp}{D:Ends}{ok:Ends->St->V->Hp->Prop}{hd:Ends->St->Addr->Hp->Prop}{Eh:Value->Shared->Prop}(F:FnOk X.prog X.w X.K X.mg X.base (CXo X.prog X.w) k f fd ps sp)(hr:Room k X.A)(hg:Gl X x)(hm:X.mg x=some (.ref f))(hk:keepIn X.K (.ref f)=true)(hb:Binds X.K fd ps ds)(hvd:Vals dvs ds)(ha:PA X.nox (e::es) t)
  (hE:∀ea C dx bm H' s',Inv X pins σ H' s'->H' ea=some (XF ea C dx false)->MetAt X pins H' ea s'.heap->XCls X.K C bm->(Value.ref C::bm).contains (.ref C')=true->hd D σ ea H'->Eh (.ref ea) s')
  (I:Inv X pins σ H s)(h:tTry X.K C' sp dvs t ok hd D σ H)(hdb:(x==("__debug__":Str))=false)(he:starEach (e::es) X.env=(false,eval e X.env)::starEach es X.env)(hpl:(backTo pos (starEach es X.env)).any (·.1)=false):
  wpAny (model X.prog X.w) X.A (eval (.Call (.Name x p) (e::es) [] pos) X.env) (EP X pins σ (ok D σ)) Eh s:=by
 refine Xh (a8y I hg hm ?_ hdb)
 refine W0 (h₀:=X.base) I.ok.mod.kin hk (Xg (ha pos pins s σ H _ (I.wish _) h) (fun us s1 ⟨vs,H1,I1,r,q⟩=>⟨I1.kIn,?_⟩) fun _ _ z=>z.elim) he hpl
 have I1:=I1.unwish
 have r2:Vals (vs++dvs) (us++ds):=r.append hvd
 have hl:(us++ds).length=ps.length:=by rw[<-r2.length];exact F.len _ _ _ _ q
 refine Wv (Wn (F.run X.A X.stack s1 H1 ⟨us,[]⟩ (us++ds) (vs++dvs) _ _ hr I1.env0 (hb s1 us I1.kIn hl) r2 q) fun r s' hq=>?_)
 cases r with
 |error e=>
  obtain⟨ea,C,dx,H',rfl,hx,os,bare,un,hok,tb,hu⟩:=hq
  have I2:=I1.call' (ch:=[]) os un hok bare (fun _ z=>absurd z Zy)
  obtain⟨o,vs',T,b1,b2,b3,b4,b5,b6,b7⟩:=tb
  obtain⟨C2,dx2,bm,e1,e2,e3,e4,e5⟩:=hu ea rfl
  exact hE ea C2 dx2 bm H' s' I2 e2 ⟨o,vs',T,b1,b2,b3,b4,c0a I1 b5 b6,b7⟩ e3 e4 e5
 |ok fl=>
  cases fl with
  |ret u=>exact I1.after hq
  |next=>exact False.elim hq
  |brk=>exact False.elim hq
  |cont=>exact False.elim hq
end
structure FunD(K:Frag)(x qual:Str)(st:Stmt)(f:Addr)(fd:FuncData)(dV:Value):Prop where
 ex:∃(oc:Value)(od:Option Addr)(kV doc pm:Value)(an:Option Addr)(cdv ct:Value)(osl:Array (Option Value)),
  fd=fnOf x qual (a7w st) (a4u st) (a0i st) dV kV doc pm an cdv ct/\K.lookup f=some ⟨oc,od,.func fd,osl⟩/\codeIn K cdv qual=true
 kp:keepIn K (.ref f)=true
section
variable{P:Program}{w:World}{K:Frag}{mg:Str->Option Value}{base:Heap}
theorem FunD.ok{dV:Value}{x qual:Str}{st:Stmt}{f:Addr}{fd:FuncData}{N ps:List Str}{k:Nat}{sp:Sp}(F:FunD K x qual st f fd dV)(S:a0q N ps (a0i st))(len:∀vs H Q E,sp vs H Q E->vs.length=ps.length)
  (hbody:∀(cdv:Value)(A:Around)(outer:List Env)(s:Shared)(H:Hp)(vs:List V)(Q:VK)(E:XK),Room k (A.deeper (envOfC qual (a0i st) s.heap.objs.size f cdv))->sp vs H Q E->
   ∃t,PSs (cxOf CX0 P w K mg base N qual (a0i st) f cdv A outer s H E).nox (a4u st) t/\t { nx:=fun _ H'=>Q .non H',rt:=Q} (start N vs) H):FnOk P w K mg base CX0 (k+1) f fd ps sp:=by
 obtain⟨oc,od,kV,doc,pm,an,cdv,ct,osl,rfl,lk,hcd⟩:=F.ex
 refine fn_of lk hcd S len fun A outer s H vs Q E hr hsp=>?_
 obtain⟨t,h,q⟩:=hbody cdv A outer s H vs Q E hr hsp
 exact⟨t,h.nox,q⟩
theorem funD_mk{dV:Value}{x qual:Str}{st:Stmt}{f:Addr}{oc:Value}{od an:Option Addr}{osl:Array (Option Value)}{kV doc pm cdv ct:Value}(l:K.lookup f=some ⟨oc,od,.func (fnOf x qual (a7w st) (a4u st) (a0i st) dV kV doc pm an cdv ct),osl⟩)
  (c:codeIn K cdv qual=true)(k:keepIn K (.ref f)=true):FunD K x qual st f (fnOf x qual (a7w st) (a4u st) (a0i st) dV kV doc pm an cdv ct) dV:=⟨⟨oc,od,kV,doc,pm,an,cdv,ct,osl,rfl,l,c⟩,k⟩
end
end L2
namespace Att
open PySem PySem.W PySem.Calls PyProof.Rows
end Att
namespace L2
open PySem PySem.Spec PyProof.Rows
open PySem PySem.Spec PyProof.Rows PySem.W
section
variable{X:Cx}
theorem c7j{e:Expr}{f:Str}{pos:Pos}{ta:TE}(K:Frag)(h:X.K=K)(he:PE X e ta)(hb:attributeBase e f X.env (eval e X.env)=eval e X.env:=by rfl):PE X (.Attribute e f pos) (tXGet K ta f):=h▸pe_xget he hb
end
section
variable{K:Frag}{σ:St}{H:Hp}{Q:VK}{D:Ends}{t:TA}{te ta tv:TE}{f:Str}{sp:Sp}{dvs:List V}{E EX:XK}{C C':Addr}
theorem d3m(k:te σ H fun v H1=>∃e C dx bm,v=.ref e/\XCls K C bm/\H1 e=some (XF e C dx true)/\EX (.ref C) (some e) (upd H1 e (XF e C dx false))):d1a EX K te D σ H:=k
theorem d3n(k:t σ H fun vs H1=>vs.length<=1000/\∀e,H1 e=none->sp (.ref e::(vs++dvs)) (upd H1 e (XF e C none true)) (fun v H2=>v=.non/\Q (.ref e) H2) E):d0z C sp dvs E t σ H Q:=k
theorem tTry_i{ok:Ends->St->V->Hp->Prop}{hd:Ends->St->Addr->Hp->Prop}(k:t σ H fun vs H1=>sp (vs++dvs) H1 (fun v H2=>ok D σ v H2) (fun c eo H2=>∀ea,eo=some ea->∃C dx bm,c=.ref C/\H2 ea=some (XF ea C dx false)/\XCls K C bm/\(Value.ref C::bm).contains (.ref C')=true/\hd D σ ea H2)):tTry K C' sp dvs t ok hd D σ H:=k
theorem tXGet_i(k:ta σ H fun x H1=>∃e C bm dx fs fr v,x=.ref e/\H1 e=some (XF e C (some dx) fr)/\XCls K C bm/\a6i K C/\a1z K C f/\H1 dx=some (.xd fs)/\fs.lookup f=some v/\Q v H1):tXGet K ta f σ H Q:=k
theorem d3o(k:t σ H fun vs H2=>∃e C dx fr bm y,vs=[.ref e,y]/\H2 e=some (XF e C dx fr)/\XCls K C bm/\Q .non H2):d0x K t σ H Q:=k
theorem tXSet_i(k:tv σ H fun y H1=>ta σ H1 fun x H2=>∃e C bm fr,x=.ref e/\XCls K C bm/\XUp bm/\a6i K C/\a1z K C f/\
 ((H2 e=some (XF e C none fr)/\∀dx,H2 dx=none->dx≠e->D.nx σ (upd (upd H2 dx (.xd [(f,y)])) e (XF e C (some dx) fr)))\/(∃dx fs,H2 e=some (XF e C (some dx) fr)/\H2 dx=some (.xd fs)/\fs.length<=900/\D.nx σ (upd H2 dx (.xd (putF f y fs)))))):tXSet K ta tv f D σ H:=k
end
def rowS:Str:=ofString "row"
structure Born(H H':Hp)(e C:Addr)(fr:Bool)(fs:List (Str×V)):Prop where
 ex:∃dx,H dx=none/\dx≠e/\H' e=some (XF e C (some dx) fr)/\H' dx=some (.xd fs)
 keep:∀b,b≠e->∀o,H b=some o->H' b=some o
def IsX(H:Hp)(ea C:Addr)(fs:List (Str×V)):Prop:=∃dx,H ea=some (XF ea C (some dx) false)/\H dx=some (.xd fs)
abbrev a1g(K:Frag):Sp:=fun vs H Q _=>match vs with
 | [.ref e,v,.int r]=>∃C bm fr,XCls K C bm/\XUp bm/\a6i K C/\a1z K C rowS/\H e=some (XF e C none fr)/\∀H',Born H H' e C fr [(rowS,.int r)]->Q .non H'
 |_=>False
theorem a2n{H H1 H2:Hp}{e C:Addr}{fs:List (Str×V)}(hn:H e=none)(s:Same H H1)(h1:H1 e=none)(b:Born (upd H1 e (XF e C none true)) H2 e C true fs):∃dx,H2 e=some (XF e C dx true)/\IsX (upd H2 e (XF e C dx false)) e C fs/\Same H (upd H2 e (XF e C dx false)):=by
 obtain⟨⟨dx,a1,a2,a3,a4⟩,k⟩:=b
 refine⟨some dx,a3,⟨dx,a0b,by rw[a0j a2];exact a4⟩,fun c o hc=>?_⟩
 have hce:c≠e:=fun z=>by rw[z,hn]at hc;cases hc
 rw[a0j hce]
 exact k c hce o (by rw[a0j hce];exact s c o hc)
structure a5g(k:Nat)(A:Around):Prop where
 dp:A.depth+3*k+5<recursionLimit
 un:A.units+16*k+200<cLine
theorem a5g.mono{j k:Nat}{A:Around}(r:a5g k A)(h:j<=k):a5g j A:=⟨by have:=r.dp;omega,by have:=r.un;omega⟩
theorem a5g.deeper{k:Nat}{A:Around}(r:a5g (k+1) A)(env:Env):a5g k (A.deeper env):=
 ⟨by have:=r.dp;show A.depth+1+3*k+5<_;omega,by have:=r.un;show A.units+3+16*k+200<_;omega⟩
theorem a5g.depth{k:Nat}{A:Around}(r:a5g k A):A.depth<recursionLimit:=by have:=r.dp;omega
theorem Room.marked{k:Nat}{A:Around}(r:Room k A)(v:Option Value):a5g k (A.mark v):=⟨r.dp,r.un⟩
theorem a5g.of{k:Nat}{A:Around}(r:Room k A):a5g k A:=⟨r.dp,r.un⟩
structure a8o(P:Program)(w:World)(K:Frag)(mg:Str->Option Value)(base:Heap)(k:Nat)(f:Addr)(fd:FuncData)(ps:List Str)(sp:Sp):Prop where
 len:∀vs H Q E,sp vs H Q E->vs.length=ps.length
 run:∀(A:Around)(outer:List Env)(s:Shared)(H:Hp)(args:Args)(us:List Value)(vs:List V)(Q:VK)(E:XK),a5g k A->Env0 P w K mg base A outer s H->BindsTo s fd args (ps.zip us)->Vals vs us->sp vs H Q E->
  codeAny (model P w) A (.call (.ref f) args) (CR CX0 outer P w H s Q E) s
theorem a8o.fn{P:Program}{w:World}{K:Frag}{mg:Str->Option Value}{base:Heap}{k:Nat}{f:Addr}{fd:FuncData}{ps:List Str}{sp:Sp}(F:a8o P w K mg base k f fd ps sp):FnOk P w K mg base CX0 k f fd ps sp:=
 ⟨F.len,fun A outer s H args us vs Q E hr=>F.run A outer s H args us vs Q E (.of hr)⟩
def cxN(P:Program)(w:World)(K:Frag)(mg:Str->Option Value)(base:Heap)(N:List Str)(qual:Str)(scope:Scope)(f:Addr)(cd:Value)(A:Around)(outer:List Env)(s:Shared)(H:Hp)(E:XK):Cx:=
 { cxOf CX0 P w K mg base N qual scope f cd A outer s H E with calm:=false,xe:=fun _ _=>False}
section
variable{P:Program}{w:World}{K:Frag}{mg:Str->Option Value}{base:Heap}{N ps:List Str}{qual:Str}{scope:Scope}{f:Addr}{cd:Value}{A:Around}{outer:List Env}{s s1:Shared}{H:Hp}{E:XK}{us:List Value}{vs:List V}
theorem c8q(S:a0q N ps scope)(e0:Env0 P w K mg base A outer s H)(hl:vs.length=ps.length)(r:Vals vs us)
  (x:InCallC s s.heap.objs.size (bindL (envOfC qual scope s.heap.objs.size f cd).kindOf (ps.zip us) fun _=>none) (cellsFrom (s.heap.objs.size+1) scope.names []) (bindC (envOfC qual scope s.heap.objs.size f cd).kindOf (ps.zip us) fun _=>none) s1):
  Inv (cxN P w K mg base N qual scope f cd A outer s H E) [] (start N vs) H s1:=by
 have e1:Env0 P w K mg base { A with handled:=none} outer s H:=⟨e0.frames,e0.mod,e0.bs,e0.bsz,e0.funs,e0.frf,e0.hok,e0.bare⟩
 have I:=c1c (CX:=CX0) (E:=E) S rfl e1 hl r x
 exact⟨⟨I.ok.mod,I.ok.kind,I.ok.glob,I.ok.blt,I.ok.above,I.ok.inj,I.ok.has,I.ok.cab,(fun z=>by cases z),Tw e0.frames,I.ok.stk,I.ok.exf,I.ok.bs,I.ok.bsz,I.ok.noex,I.ok.exfs,I.ok.funs,I.ok.frf⟩,I.os,I.bare,I.base,I.loc,I.cell,I.free,I.freeC,I.pin,I.hok,I.len⟩
end
theorem fn_ofN{P:Program}{w:World}{K:W.Frag}{mg:Str->Option Value}{base:Heap}{k:Nat}{f:Addr}{name qual:Str}{params:Arguments}{body:List Stmt}{scope:Scope}{dV kV doc pm cdv ct oc:Value}{an od:Option Addr}
  {osl:Array (Option Value)}{N ps:List Str}{sp:Sp}(lk:K.lookup f=some ⟨oc,od,.func (W.fnOf name qual params body scope dV kV doc pm an cdv ct),osl⟩)(hcd:W.codeIn K cdv qual=true)(S:a0q N ps scope)
  (len:∀vs H Q E,sp vs H Q E->vs.length=ps.length)
  (hbody:∀(A:Around)(outer:List Env)(s:Shared)(H:Hp)(vs:List V)(Q:VK)(E:XK),a5g k (A.deeper (envOfC qual scope s.heap.objs.size f cdv))->sp vs H Q E->
   ∃t,PSs (cxN P w K mg base N qual scope f cdv A outer s H E) body t/\t { nx:=fun _ H'=>Q .non H',rt:=Q} (start N vs) H):
  a8o P w K mg base (k+1) f (W.fnOf name qual params body scope dV kV doc pm an cdv ct) ps sp:=by
 refine⟨len,fun A outer s H args us vs Q E hr e0 hb r hsp=>?_⟩
 have hl:=len _ _ _ _ hsp
 have KX:K.In s.heap:=e0.mod.kin.keeps fun b o e=>(e0.bs b o e).1
 have lim:s.heap.NoLimit:=e0.mod.nolimit.keeps fun b o e=>(e0.bs b o e).1
 have hkind:∀y∈ps.zip us,scope.names.lookup y.1=some .local\/(scope.names.lookup y.1=some .cell/\((cellsFrom (s.heap.objs.size+1) scope.names []).lookup y.1).isSome=true):=fun⟨n,v⟩ hy=>by
  rcases S.par n (Vp hy).1 with q|q
  ·exact .inl q
  ·exact .inr ⟨q,Uf _ _ _ (.inl q)⟩
 refine Tg hr.depth (KX _ _ lk) rfl S.co S.gen rfl (W.codeRec_of KX hcd) (hb _ _ _ _ ?_)
 refine Up S.kind hkind fun env he s1 x=>?_
 subst he
 refine⟨lim.keeps x.toInCall.keep,codeAny_func ?_⟩
 obtain⟨t,ht,hq⟩:=hbody A outer s H vs Q E (hr.deeper _) hsp
 have I:Inv (cxN P w K mg base N qual scope f cdv A outer s H E) [] (start N vs) H s1:=c8q S e0 hl r x
 refine Xg (ht [] s1 (start N vs) H _ I hq) (fun fl s' hs=>?_) fun e s' hs=>hs.elim
 have fin:∀{σ':St}{H':Hp}{v:V}{u:Value},Inv (cxN P w K mg base N qual scope f cdv A outer s H E) [] σ' H' s'->RelV v u->Q v H'->CE outer P w H s Q u s':=
  fun{σ' H' v u} J rv q=>⟨v,H',J.os,J.bare,J.base,J.hok,rv,q⟩
 cases fl with
 |ret u=>
  obtain⟨v,σ',H',J,rv,q⟩:=hs
  exact fin J rv q
 |next=>
  obtain⟨σ',H',J,q⟩:=hs
  exact fin (v:=V.non) (u:=Value.none) J rfl q
 |brk=>
  obtain⟨_,_,_,q⟩:=hs
  exact False.elim q
 |cont=>
  obtain⟨_,_,_,q⟩:=hs
  exact False.elim q
theorem Fun.okN{P:Program}{w:World}{K:Frag}{mg:Str->Option Value}{base:Heap}{x qual:Str}{st:Stmt}{f:Addr}{fd:FuncData}{N ps:List Str}{k:Nat}{sp:Sp}(F:Fun K x qual st f fd)(S:a0q N ps (a0i st))(len:∀vs H Q E,sp vs H Q E->vs.length=ps.length)
  (hbody:∀(cdv:Value)(A:Around)(outer:List Env)(s:Shared)(H:Hp)(vs:List V)(Q:VK)(E:XK),a5g k (A.deeper (envOfC qual (a0i st) s.heap.objs.size f cdv))->sp vs H Q E->
   ∃t,PSs (cxN P w K mg base N qual (a0i st) f cdv A outer s H E) (a4u st) t/\t { nx:=fun _ H'=>Q .non H',rt:=Q} (start N vs) H):a8o P w K mg base (k+1) f fd ps sp:=by
 obtain⟨oc,od,kV,doc,pm,an,cdv,ct,osl,rfl,lk,hcd⟩:=F.ex
 exact fn_ofN lk hcd S len fun A outer s H vs Q E hr hsp=>hbody cdv A outer s H vs Q E hr hsp
section
variable{X:Cx}{k:Nat}{f:Addr}{fd:FuncData}{ps:List Str}{sp:Sp}{dvs:List V}{ds:List Value}{x:Str}{p pos:Pos}{e:Expr}{es:List Expr}{t:TA}
theorem run_fnN{pins:List (Addr×Obj)}{σ:St}{H:Hp}{s:Shared}{Q:VK}{us:List Value}{vs:List V}(F:a8o X.prog X.w X.K X.mg X.base k f fd ps sp)(hr:a5g k X.A)(hb:Binds X.K fd ps ds)(hd:Vals dvs ds)
  (I:Inv X pins σ H s)(r:Vals vs us)(h:sp (vs++dvs) H Q E0):wpAny (model X.prog X.w) X.A (call (.ref f) us) (EP X pins σ Q) X.xe s:=by
 have r2:Vals (vs++dvs) (us++ds):=r.append hd
 have hl:(us++ds).length=ps.length:=by rw[<-r2.length];exact F.len _ _ _ _ h
 refine Wv (Wn (F.run X.A X.stack s H ⟨us,[]⟩ (us++ds) (vs++dvs) Q E0 hr I.env0 (hb s us I.kIn hl) r2 h) fun r s' hq=>?_)
 cases r with
 |error e=>exact(show False from hq).elim
 |ok fl=>
  cases fl with
  |ret u=>exact I.after hq
  |next=>exact False.elim hq
  |brk=>exact False.elim hq
  |cont=>exact False.elim hq
theorem c4a(F:a8o X.prog X.w X.K X.mg X.base k f fd ps sp)(hr:a5g k X.A)(hg:Gl X x)(hm:X.mg x=some (.ref f))(hk:W.keepIn X.K (.ref f)=true)(hb:Binds X.K fd ps ds)(hd:Vals dvs ds)
  (ha:PA X (e::es) t)(hdb:(x==("__debug__":Str))=false:=by decide)(he:starEach (e::es) X.env=(false,eval e X.env)::starEach es X.env:=by rfl)(hpl:(backTo pos (starEach es X.env)).any (·.1)=false:=by rfl):
  PE X (.Call (.Name x p) (e::es) [] pos) (c2f sp dvs E0 t):=by
 intro pins s σ H Q I h
 refine Xh (a8y I hg hm ?_ hdb)
 refine W0 (h₀:=X.base) I.ok.mod.kin hk (thn (ha pos pins s σ H _ I h) fun us s1 ⟨vs,H1,I1,r,q⟩=>⟨I1.kIn,?_⟩) he hpl
 exact run_fnN F hr hb hd I1 r q
end
structure XIs(K:Frag)(C:Addr):Prop where
 ha:findIn K (.ref C) "__class__"=some (some (.builtin "object.__class__"))
 hn:specialIn K (.builtin "object.__class__") "__get__"=some (some (.builtin "getset_descriptor.__get__"))
 htk:takesIn K (.builtin "object.__class__")=some true
 hm:mroIn K C (.type "object")=some true
section
variable{prog:Program}{w:World}{A:Around}{E:Value->Shared->Prop}{s:Shared}{K:Frag}{C e:Addr}{bm:List Value}{ox od:Obj}
theorem x_class{Q:Option Value->Shared->Prop}(KX:K.In s.heap)(X:XCls K C bm)(XA:a6i K C)(Z:XIs K C)(J:InstAt s.heap e ox C (some od))(hq:Q (some (.ref C)) { s with toks:=s.toks+1}):
  wpAny (model prog w) A (getAttr? (.ref e) "__class__") Q E s:=by
 obtain⟨h,g,d,t,os⟩:=s
 obtain⟨oxc,oxd,oxt,oxs⟩:=ox
 have hoc0:oxc=.ref C:=J.cls
 subst hoc0
 have KX:K.In h:=KX
 have J:InstAt h e ⟨.ref C,oxd,oxt,oxs⟩ C (some od):=J
 obtain⟨nm,q,N,bs,sn,sub,ab,col,dd,k0,k1,k2,k3,k5,hC'⟩:=X.obj
 have hC:=KX _ _ hC'
 have cB:(Value.ref C::bm).contains (.type "BaseException")=true:=by rw[Yz,X.hasB,Wq]
 have FB:=Tt
 have he:h.get? e=some ⟨.ref C,oxd,oxt,oxs⟩:=J.at_
 have ga:=XA.ga
 have gx:=XA.gx
 have f3:=FB.ga.bind (.ref e)
 have hx0:(false&&onTheHeap (Value.builtin "BaseException.__getattribute__"))=false:=rfl
 have hx2:(Value.builtin "BaseException.__getattribute__"==Value.builtin "object.__getattribute__")=false:=by decide+kernel
 have hx1:(onTheHeap (Value.ref C)&&Value.builtin "BaseException.__getattribute__"==Value.builtin "object.__getattribute__")=false:=by rw[hx2];rfl
 have L0:=J.type (M:=model prog w)
 have hcs:(clsIn K C).isSome=true:=by unfold clsIn;rw[show List.lookup C K=_ from hC'];rfl
 have L1:=looks_find (M:=model prog w) KX J (findObj_data hcs Z.ha Z.hn Z.htk)
 unfold getAttr? getAttrBy? getAttrBy
 repeat (any_goals (first|assumption|with_reducible refine Z1 he ?_|with_reducible refine(looks_findIn KX ga).here ?_|with_reducible refine(looks_findIn KX gx).here ?_|wp_step|dsimp only))
 have hk:builtinKind "BaseException.__getattribute__"=some .slot:=by decide+kernel
 have hsp:splitId "BaseException.__getattribute__"=some ("BaseException","__getattribute__"):=by decide+kernel
 have hargs:=F.args_bexc_ga (.ref e) (.str "__class__" t)
 have ck:∀(Q':Unit->Shared->Prop)(u:Nat),Q' () ⟨h,g,d,u,os⟩->∀A' E',wpAny (model prog w) A' (checkBuiltinCall "BaseException.__getattribute__" ⟨[.ref e,.str "__class__" t],[]⟩) Q' E' ⟨h,g,d,u,os⟩:=by
  intro Q' u hq' A' E'
  simp only[checkBuiltinCall,hk,hsp]
  refine Zd ?_
  unfold isInstance
  repeat (first|with_reducible refine Z1 he ?_| (with_reducible refine Yx hC ?_;rw[cB])|wp_step)
  exact hq'
 refine Ww FB.ga.plain F.entry_bexc_ga (ck _ _ ?_ _ _)
 unfold Builtin.«object.__getattribute__»
 refine Zd (wpAny_of_eq (a:=(Value.ref e,[Value.str "__class__" t])) rfl ?_)
 refine Zd (Zr (Zd (L0.at (Zd (L1.at ?_)))))
 show wpAny _ _ (holding [Value.builtin "object.__class__"] (call (.builtin "getset_descriptor.__get__") [.builtin "object.__class__",.ref e,.ref C])>>=ret) _ _ _
 refine Zd (Wi (Wv (class_get (od:=some od) KX J Z.hm ?_)))
 refine Zr ?_
 exact handed_on rfl (Zr hq)
theorem c4b(X:XCls K C bm)(XA:a6i K C)(Z:XIs K C):KitX K (.ref e) (.ref C) (fun h=>∃ox od,InstAt h e ox C (some od)) where
 ty:=fun _ _ _ I=>by obtain⟨ox,od,I⟩:=I;exact I.type
 it:=fun _ _ KX _=>by
  obtain⟨nm,q,N,bs,sn,sub,ab,col,dd,k0,k1,k2,k3,k5,hC'⟩:=X.obj
  intro A' Q' E' s' k q
  unfold isType loadHead
  exact Zd (wpAny_loadPart (k _ _ (KX _ _ hC')) (Zr q))
 ne:=fun h tp dd its n sl KX htp=>by
  obtain⟨nm,q,N,bs,sn,sub,ab,col,dd,k0,k1,k2,k3,k5,hC'⟩:=X.obj
  refine Ub.mpr fun q=>?_
  have e:C=tp:=Value.ref.inj (W3.mp q)
  subst e
  have z:=(KX _ _ hC').symm.trans htp
  exact nomatch (show Data.cls _=Data.seq its.toArray n from Ys Obj.data (Zq z))
 ca:=fun KX I k=>by obtain⟨ox,od,I⟩:=I;exact x_class KX X XA Z I k
end
section
variable{X:Cx}
def isOf(K:Frag)(C:Addr)(b:Bool):V->Prop
 | .ref D=>kitOne K (.ref C) (.ref D)=some b
 | .ty T=>kitOne K (.ref C) (.type T)=some b
 |_=>False
def mIsX(K:Frag):List V->Hp->VK->Prop:=fun vs H Q=>∃ea C dx fr bm fs c b,vs=[.ref ea,c]/\H ea=some (XF ea C (some dx) fr)/\H dx=some (.xd fs)/\XCls K C bm/\a6i K C/\XIs K C/\isOf K C b c/\Q (.bl b) H
theorem d1c(K:Frag)(hK:X.K=K):a5t X (.builtin "isinstance") (mIsX K):=by
 subst hK
 intro pins s σ H xs us Q I r h
 obtain⟨ea,C,dx,fr,bm,fs,c,b,rfl,hx,hd,Xc,Xa,Z,hc,q⟩:=h
 obtain⟨u,w',rfl,r1,r2⟩:=c2e r
 obtain rfl:u=Value.ref ea:=r1
 have fin:∀tk,EP X pins σ Q (.bool b) { s with toks:=tk}:=fun tk=>⟨.bl b,H,I.tok _,rfl,q⟩
 obtain⟨ob,ws,t0,z,a1,a2,a3,a4,a5,a6,a7⟩:=a9q I.hok hx
 obtain⟨mA,hm,hr⟩:=(show a1y X.prog X.w H s.heap dx (.xd fs)from I.hok dx _ hd)
 obtain⟨od,hod,hl⟩:=b2e hm
 obtain⟨oc,odi,odt,osl⟩:=ob
 dsimp only at a2 a3 a4
 subst a2 a3 a4
 have J:∃ox od,InstAt s.heap ea ox C (some od):=⟨⟨.ref C,some dx,.fields ws,osl⟩,od,a1,rfl,rfl,hod⟩
 cases c with
 |ref D=>
  obtain rfl:w'=Value.ref D:=r2
  exact kia_one (c4b Xc Xa Z) I.kIn J hc (fun z=>nomatch z) fin
 |ty T=>
  obtain rfl:w'=Value.type T:=r2
  exact kia_one (c4b Xc Xa Z) I.kIn J hc (fun z=>nomatch z) fin
 |_=>exact(show False from hc).elim
theorem isX_i{K:Frag}{H:Hp}{Q:VK}{ea C dx:Addr}{fr:Bool}{bm:List Value}{fs:List (Str×V)}{c:V}{b:Bool}(h1:H ea=some (XF ea C (some dx) fr))(h2:H dx=some (.xd fs))(Xc:XCls K C bm)(Xa:a6i K C)(Z:XIs K C)(h:isOf K C b c)(k:Q (.bl b) H):mIsX K [.ref ea,c] H Q:=
 ⟨ea,C,dx,fr,bm,fs,c,b,rfl,h1,h2,Xc,Xa,Z,h,k⟩
end
section
variable{X:Cx}{pos:Pos}{e:Expr}{te:TE}
def tF3i(te:TE):TE:=fun σ H Q=>te σ H fun x H1=>∃i:Int,x=.int i/\i.natAbs.log2<1920/\(ofString (toString i)).length<=100/\∀z:Str,Q (.str z) H1
theorem d1d{a b:Str}{j1 j2 p1 p2 p3}(he:PE X e te)(ha:a.length<=1000:=by decide+kernel)(hb:b.length<=1000:=by decide+kernel):PE X (.JoinedStr [.Constant (.str a) j1 p1,.FormattedValue e (-1) none p2,.Constant (.str b) j2 p3] pos) (tF3i te):=by
 intro pins s σ H Q I h
 have z9:100000<=sizeLine:=by decide
 refine W7 (Y3 (Xj ?_))
 have hz:∀{x:Str},x.length<=sizeLine->(Str.empty++x).length<=sizeLine:=fun{x} q=>by rw[Ym];show 0+x.length<=_;omega
 have ea:∀x:Str,Str.empty++x=x:=fun x=>by apply V7;show(#[]:Array Nat)++x.cps=x.cps;simp
 ·refine⟨hz (by omega),Y3 (Vz (thn (he pins _ σ H _ (I.tok _) h) fun v s1 ⟨x,H1,I1,r1,q1⟩=>?_))⟩
  obtain⟨i,rfl,hl,hy,q⟩:=q1
  obtain⟨t,rfl⟩:=r1
  refine formatField_int_small hl ?_
  rw[ea]
  generalize ofString (toString i)=y at hy ⊢
  refine⟨by rw[Ym];omega,?_⟩
  show wpAny _ _ (joinParts (a++y) [eval (.Constant (.str b) j2 p3) X.env]) _ _ _
  refine Y3 (Xj ⟨by rw[Ym,Ym];omega,Va ?_ (by rw[Ym,Ym];omega)⟩)
  exact⟨.str (a++y++b),H1,((I1.tok _).tok _).tok _,⟨_,rfl⟩,q _⟩
theorem tF3i_i{σ:St}{H:Hp}{Q:VK}(k:te σ H fun x H1=>∃i:Int,x=.int i/\i.natAbs.log2<1920/\(ofString (toString i)).length<=100/\∀z:Str,Q (.str z) H1):tF3i te σ H Q:=k
end
def onX(H:Hp)(C:Addr)(E:XK):Prop:=∀ea H',Same H H'->IsX H' ea C [(rowS,.int 0)]->E (.ref C) (some ea) H'
theorem onX.mono{H H1:Hp}{C:Addr}{E:XK}(h:onX H C E)(s:Same H H1):onX H1 C E:=fun ea H' s' i=>h ea H' (s.trans s') i
theorem c1i(a:V):List.lookup (ofString "row") [(rowS,a)]=some a:=by
 have h1:(ofString "row"==rowS)=true:=by decide+kernel
 simp only[List.lookup,h1]
section
variable{X:Cx}{es rest:List Expr}{k:Nat}{pos:Pos}{env:Env}{te:TE}{t:TA}
def notStar:Expr->Bool
 | .Starred _ _=>false
 |_=>true
theorem b7j{e:Expr}(h:notStar e=true):starEach (e::rest) env=(false,eval e env)::starEach rest env:=by
 rw[starEach]
 intro a p z
 rw[z]at h
 cases h
theorem a0a{e:Expr}(ha:PE X e te)(hr:PA X rest t)(h:notStar e=true:=by rfl):PA X (e::rest) (b8d te t):=b9w ha hr (b7j h)
theorem b1k{n:Option Expr}{l:Nat}:swapsWith (.Tuple es k pos) n l env=pure false:=rfl
theorem a7k{n:Option Expr}{l:Nat}:swapsWith (.List es pos) n l env=pure false:=rfl
theorem a2y{a b:Expr}{op:Operator}{n:Option Expr}{l:Nat}:swapsWith (.BinOp a op b pos) n l env=pure false:=rfl
theorem a8p{a b:Expr}{n:Option Expr}{l:Nat}:swapsWith (.Subscript a b pos) n l env=pure false:=rfl
theorem a1q{a:Expr}{kw:List Keyword}{n:Option Expr}{l:Nat}:swapsWith (.Call a es kw pos) n l env=pure false:=rfl
end
structure QA(X:Cx)(es:List Expr)(t:TA):Prop where
 pa:PA X es t
section
variable{X:Cx}{a b e:Expr}{es rest:List Expr}{k:Nat}{pos pos':Pos}{te ta tb:TE}{t:TA}{u v:TS}{st:Stmt}{x:Str}
theorem a0x(h:PE X e te):QE X e te:=⟨h⟩
theorem a1l(h:PS X st u):QS X st u:=⟨h⟩
theorem a1d:QA X [] tNil:=⟨a0c⟩
theorem a0k(ha:QE X e te)(hr:QA X rest t)(h:notStar e=true):QA X (e::rest) (b8d te t):=⟨b9w ha.pe hr.pa (b7j h)⟩
theorem a1h(h:QA X es t):QE X (.Tuple es k pos) (tTup t):=⟨a0y h.pa⟩
theorem c4c(h:QA X es t):QE X (.List es pos) (tLst t):=⟨a1w h.pa⟩
theorem qe_ix{r:R2}(hr:IxR X r)(ha:QE X a ta)(hb:QE X b tb)(hs:c6v b):QE X (.Subscript a b pos) (tOp r ta tb):=⟨a0s hr ha.pe hb.pe hs⟩
theorem b3k(he:QE X e te):QS X (.Return (some e) pos) (tRet te):=⟨a0o he.pe⟩
theorem a5h{c:Expr}{l m:List Stmt}{tc:TT}(hc:PT X c tc)(ha:QSs X l u)(hb:QSs X m v):QS X (.If c l m pos) (tIfS tc u v):=⟨a1e hc ha.pss hb.pss⟩
theorem a4v:QSs X [] tNext:=⟨a0z⟩
end
theorem c4d:∀{ds:List Addr}{us:List Value},Vals (ds.map V.ref) us->us=ds.map Value.ref
 | [],_,.nil=>rfl
 |d::ds,_,.cons r t=>by
  have e:=c4d t
  obtain rfl:_=Value.ref d:=r
  rw[e]
  rfl
section
variable{X:Cx}
def mIsXT(K:Frag):List V->Hp->VK->Prop:=fun vs H Q=>∃ea C dx fr bm fs tp,∃(ds:List Addr)(b:Bool),vs=[.ref ea,.ref tp]/\H ea=some (XF ea C (some dx) fr)/\H dx=some (.xd fs)/\XCls K C bm/\a6i K C/\XIs K C/\SqT K H tp (ds.map V.ref)/\kitAny K (.ref C) (ds.map Value.ref)=some b/\Q (.bl b) H
theorem kc_isXT(K:Frag)(hK:X.K=K):a5t X (.builtin "isinstance") (mIsXT K):=by
 subst hK
 intro pins s σ H xs us Q I r h
 obtain⟨ea,C,dx,fr,bm,fs,tp,ds,b,rfl,hx,hd,Xc,Xa,Z,ht,hc,q⟩:=h
 obtain⟨u,w',rfl,r1,r2⟩:=c2e r
 obtain rfl:u=Value.ref ea:=r1
 obtain rfl:w'=Value.ref tp:=r2
 have fin:∀tk,EP X pins σ Q (.bool b) { s with toks:=tk}:=fun tk=>⟨.bl b,H,I.tok _,rfl,q⟩
 obtain⟨ob,ws,t0,z,a1,a2,a3,a4,a5,a6,a7⟩:=a9q I.hok hx
 obtain⟨mA,hm,hr⟩:=(show a1y X.prog X.w H s.heap dx (.xd fs)from I.hok dx _ hd)
 obtain⟨od,hod,hl⟩:=b2e hm
 obtain⟨oc,odi,odt,osl⟩:=ob
 dsimp only at a2 a3 a4
 subst a2 a3 a4
 have J:∃ox od,InstAt s.heap ea ox C (some od):=⟨⟨.ref C,some dx,.fields ws,osl⟩,od,a1,rfl,rfl,hod⟩
 obtain⟨its,rv,⟨⟨c1,c2,c3,c4⟩,g1,g2,n,g3⟩,_⟩:=I.tuple ht
 dsimp only at g2 g3
 subst g2 g3
 have e:=c4d rv
 subst e
 exact kia_tup (c4b Xc Xa Z) I.kIn J g1 hc (fun z=>nomatch z) fin
theorem isXT_i{K:Frag}{H:Hp}{Q:VK}{ea C dx tp:Addr}{fr:Bool}{bm:List Value}{fs:List (Str×V)}(ds:List Addr){b:Bool}(h1:H ea=some (XF ea C (some dx) fr))(h2:H dx=some (.xd fs))(Xc:XCls K C bm)(Xa:a6i K C)(Z:XIs K C)(ht:SqT K H tp (ds.map V.ref))(h:kitAny K (.ref C) (ds.map Value.ref)=some b)(k:Q (.bl b) H):mIsXT K [.ref ea,.ref tp] H Q:=
 ⟨ea,C,dx,fr,bm,fs,tp,ds,b,rfl,h1,h2,Xc,Xa,Z,ht,h,k⟩
end
section
variable{X:Cx}{pos:Pos}{e:Expr}{te:TE}
def tFr(te:TE):TE:=fun σ H Q=>te σ H fun x H1=>∃y,x=.str y/\(∀c∈y.cps.toList,c<16^8)/\y.length<=5000/\∀z:Str,Q (.str z) H1
theorem pe_fr{b:Str}{j2 p2 p3}(he:PE X e te)(hb:b.length<=1000:=by decide+kernel):PE X (.JoinedStr [.FormattedValue e 114 none p2,.Constant (.str b) j2 p3] pos) (tFr te):=by
 intro pins s σ H Q I h
 have z9:100000<=sizeLine:=by decide
 have ea:∀x:Str,Str.empty++x=x:=fun x=>by apply V7;show(#[]:Array Nat)++x.cps=x.cps;simp
 refine W7 (Y3 (Ut (thn (he pins _ σ H _ I h) fun v s1 ⟨x,H1,I1,r1,q1⟩=>?_)))
 obtain⟨y,rfl,hc,hl,q⟩:=q1
 obtain⟨t,rfl⟩:=r1
 have hy:=W6 y hc
 refine pyReprObj_str ?_ (by omega)
 generalize reprText y=y' at hy ⊢
 refine Vm (fun t' tk=>?_) (by omega)
 have hz:(Str.empty++y').length<=sizeLine:=by rw[ea];omega
 refine⟨hz,?_⟩
 rw[ea]
 show wpAny _ _ (joinParts y' [eval (.Constant (.str b) j2 p3) X.env]) _ _ _
 refine Y3 (Xj ⟨by rw[Ym];omega,Va ?_ (by rw[Ym];omega)⟩)
 exact⟨.str (y'++b),H1,((I1.tok _).tok _).tok _,⟨_,rfl⟩,q _⟩
theorem tFr_i{σ:St}{H:Hp}{Q:VK}(k:te σ H fun x H1=>∃y,x=.str y/\(∀c∈y.cps.toList,c<16^8)/\y.length<=5000/\∀z:Str,Q (.str z) H1):tFr te σ H Q:=k
def tF2(te:TE):TE:=fun σ H Q=>te σ H fun x H1=>∃y,x=.str y/\y.length<=5000/\∀z:Str,Q (.str z) H1
theorem pe_f2{a:Str}{j1 p1 p2}(he:PE X e te)(ha:a.length<=1000:=by decide+kernel):PE X (.JoinedStr [.Constant (.str a) j1 p1,.FormattedValue e (-1) none p2] pos) (tF2 te):=by
 intro pins s σ H Q I h
 have z9:100000<=sizeLine:=by decide
 have ea:∀x:Str,Str.empty++x=x:=fun x=>by apply V7;show(#[]:Array Nat)++x.cps=x.cps;simp
 refine W7 (Y3 (Xj ?_))
 have hz:(Str.empty++a).length<=sizeLine:=by rw[ea];omega
 refine⟨hz,Y3 (Vz (thn (he pins _ σ H _ (I.tok _) h) fun v s1 ⟨x,H1,I1,r1,q1⟩=>?_))⟩
 rw[ea]
 obtain⟨y,rfl,hl,q⟩:=q1
 obtain⟨t,rfl⟩:=r1
 refine Vm (fun t' tk=>?_) (by omega)
 refine⟨by rw[Ym];omega,?_⟩
 refine Va ?_ (by rw[Ym];omega)
 exact⟨.str (a++y),H1,(I1.tok _).tok _,⟨_,rfl⟩,q _⟩
theorem tF2_i{σ:St}{H:Hp}{Q:VK}(k:te σ H fun x H1=>∃y,x=.str y/\y.length<=5000/\∀z:Str,Q (.str z) H1):tF2 te σ H Q:=k
end
namespace FD
end FD
section
variable{prog:Program}{w:World}{A:Around}{R:Result->Shared->Prop}
def c4e{K:Type}[DecidableEq K](knd:PySem.KeyKind prog w K)(ts:List Addr)(kvs:List (K×Value))(h:Heap):Prop:=∀(i:Nat)(T:Addr),ts[i]? =some T->∃(kk:K)(key val:Value),kvs[i]? =some (kk,val)/\knd.is kk key=true/\IsTup h T #[key,val]
theorem c4e.keep{K:Type}[DecidableEq K]{knd:PySem.KeyKind prog w K}{ts:List Addr}{kvs:List (K×Value)}{h h':Heap}(x:c4e knd ts kvs h)(k:∀T∈ts,∀o,h.get? T=some o->h'.get? T=some o):c4e knd ts kvs h':=fun i T e=>by
 obtain⟨kk,key,val,e1,e2,o,ho,r⟩:=x i T e
 exact⟨kk,key,val,e1,e2,o,k T (We e) o ho,r⟩
end
abbrev Rws:=List (Str×Trm)
section
variable{X:Cx}
def mNeKs(K:W.Frag):R2:=fun x y H Q=>∃(p:Addr)(k1:List Key),x=.ref p/\SqT K H p (k1.map kV)/\((y=.non/\Q (.bl true) H)\/∃(q:Addr)(k2:List Key),y=.ref q/\SqT K H q (k2.map kV)/\Q (.bl (!decide (k1=k2))) H)
theorem c7k(K:W.Frag)(hK:X.K=K)(hu:X.A.units+150<cLine):OpR X (compareOp .NotEq) (mNeKs K):=by
 subst hK
 intro pins s σ H x y v u Q I rx ry h
 obtain⟨p,k1,rfl,hp,h⟩:=h
 cases rx
 obtain⟨its,rv,p1,_⟩:=I.tuple hp
 rcases h with⟨rfl,k⟩|⟨q,k2,rfl,hq,k⟩
 ·cases ry
  exact SeqAt.RcNeAt.tuple_none (show s.heap.IsTuple p its.toArray from p1) (by omega) X.prog X.w _ _ ⟨.bl true,H,I,rfl,k⟩
 cases ry
 obtain⟨its',rv',p2,_⟩:=I.tuple hq
 have l1:=rv.length
 have l2:=rv'.length
 rw[length_map]at l1 l2
 refine Tz (e:=fun j=>decide (k1[j]? =k2[j]?)) (show s.heap.IsTuple p its.toArray from p1) (show s.heap.IsTuple q its'.toArray from p2) (by omega) (fun j h1 h2=>?_) X.prog X.w _ _ ?_
 ·have g1:j<its.length:=by simpa using h1
  have g2:j<its'.length:=by simpa using h2
  have j1:j<k1.length:=by omega
  have j2:j<k2.length:=by omega
  obtain⟨w1,y1,z1⟩:=rv.get (show(k1.map kV)[j]? =some (kV k1[j]) by rw[Yu,Zb j1];rfl)
  obtain⟨w2,y2,z2⟩:=rv'.get (show(k2.map kV)[j]? =some (kV k2[j]) by rw[Yu,Zb j2];rfl)
  have q1:its.toArray[j]=w1:=by
   have:=Zb g1
   rw[y1]at this
   simpa using(Zq this).symm
  have q2:its'.toArray[j]=w2:=by
   have:=Zb g2
   rw[y2]at this
   simpa using(Zq this).symm
  rw[q1,q2]
  have e0:decide (k1[j]? =k2[j]?)=decide (k1[j]=k2[j]):=by rw[Zb j1,Zb j2];exact Wg.mpr ⟨fun h=>Zq h,fun h=>by rw[h]⟩
  rw[e0]
  exact c7e z1 z2
 ·rw[Zf,Zf,<-l1,<-l2,d0v]
  exact⟨.bl _,H,I,rfl,k⟩
end
section
variable{K:W.Frag}{σ:St}{H:Hp}{Q:VK}{D:Ends}{ta tv:TE}{t:TA}{f m:Str}{C:Addr}{sp:Sp}{dvs:List V}{E:XK}
theorem tFld_i(k:ta σ H fun x H1=>∃a C dx fs v,x=.ref a/\H1 a=some (.ins C dx fs)/\Cls K C/\a1z K C f/\fs.lookup f=some v/\Q v H1):tFld K ta f σ H Q:=k
theorem sFld_i(k:tv σ H fun y H1=>ta σ H1 fun x H2=>∃a C dx fs,x=.ref a/\H2 a=some (.ins C dx fs)/\Cls K C/\a1z K C f/\fs.length<1000/\D.nx σ (upd H2 a (.ins C dx (putF f y fs)))):sFld K ta tv f D σ H:=k
theorem tMeth_i(k:ta σ H fun x H1=>∃a dx fs,x=.ref a/\H1 a=some (.ins C dx fs)/\fs.lookup m=none/\t σ H1 fun vs H2=>sp (x::(vs++dvs)) H2 Q E):tMeth C m sp dvs E ta t σ H Q:=k
theorem tMake_i(k:t σ H fun vs H1=>∀x dx,H1 x=none->H1 dx=none->dx≠x->sp (.ref x::(vs++dvs)) (upd (upd H1 dx (.own x)) x (.ins C dx [])) (fun v H2=>v=.non/\Q (.ref x) H2) E):tMake C sp dvs E t σ H Q:=k
theorem d1e{rd:V->V->Hp->VK->Prop}(k:ta σ H fun x H1=>∃a C dx fs v,x=.ref a/\H1 a=some (.ins C dx fs)/\Cls K C/\a1z K C f/\fs.lookup f=some v/\
 tv σ H1 fun y H2=>rd v y H2 fun z H3=>∃dx' fs',H3 a=some (.ins C dx' fs')/\fs'.length<1000/\D.nx σ (upd H3 a (.ins C dx' (putF f z fs')))):c6s K ta tv rd f D σ H:=k
end
section
variable{X:Cx}
def KD(P:Program)(w:World)(K:W.Frag)(a:Addr)(kvs:List (Key×V)):Prop:=∀h:Heap,K.In h->∃vs,KV kvs vs/\h.DictOf (a2g P w) a vs
def tGetK(kvs:List (Key×V))(ty:TE):TE:=fun σ H Q=>ty σ H fun y H1=>∃k v,y=kV k/\valV kvs k=some v/\Q v H1
theorem pe_getK{n:Str}{a:Addr}{kvs:List (Key×V)}{i:Expr}{ty:TE}{p pos:Pos}(D:KD X.prog X.w X.K a kvs)(hg:Gl X n)(hm:X.mg n=some (.ref a))(hi:PE X i ty)(hs:NoSl i)(hd:(n==("__debug__":Str))=false:=by decide):
  PE X (.Subscript (.Name n p) i pos) (tGetK kvs ty):=by
 intro pins s σ H Q I h
 have g:PE X (.Name n p) (tC (.ref a)):=a5j hg hm rfl hd
 refine c6x T9.lookup hs (thn (g pins s σ H (fun x H1=>x=.ref a/\ty σ H1 fun y H2=>∃k v,y=kV k/\valV kvs k=some v/\Q v H2) I ⟨rfl,h⟩) fun u s1 ⟨x,H1,I1,rx,ex,q1⟩=>thn (hi pins s1 σ H1 _ I1 q1) fun iv s2 ⟨y,H2,I2,ry,k,v,ey,g,q2⟩=>?_)
 subst ex
 obtain rfl:u=Value.ref a:=rx
 subst ey
 obtain⟨vs,rel,dd⟩:=D s2.heap (I2.mod.kin.keeps I2.bk)
 obtain⟨w',hw,rw'⟩:=RelO.some_of (v:=v) (o:=valueAt vs k) (by rw[<-g];exact rel.val k)
 exact⟨dd.typeIs,wpAny_getItem_of (b8f ry) dd.mapOf hw ⟨v,H2,I2.tok _,rw',q2⟩⟩
inductive DRow(pm:Params):List DictEntry->List (Key×V)->List (Key×Value)->Prop
 |nil:DRow pm [] [] []
 |cons {x:Str} {t:Tok} {v:V} {u:Value} {es:List DictEntry} {kvs:List (Key×V)} {vs:List (Key×Value)}:RelV v u->DRow pm es kvs vs->DRow pm (⟨keyHash pm x,.str x t,u⟩::es) ((Sum.inr x,v)::kvs) ((Sum.inr x,u)::vs)
theorem DRow.facts{P:Program}{w:World}{es:List DictEntry}{kvs:List (Key×V)}{vs:List (Key×Value)}(d:DRow w.params es kvs vs):KV kvs vs/\(∀e∈es,∃k,(a2g P w).is k e.key=true/\e.hash=(a2g P w).hash k)/\Pairs (a2g P w) es vs/\vs.map (·.1)=kvs.map (·.1):=by
 induction d with
 |nil=>exact⟨.nil,fun e he=>by simp at he,.nil,rfl⟩
 | @cons x t v u es kvs vs r d ih=>
  obtain⟨h1,h2,h3,h4⟩:=ih
  refine⟨.cons ⟨rfl,r⟩ h1,fun e he=>?_,.cons (b4y x t) rfl h3,by rw[Zu,Zu,h4]⟩
  rcases Zj.mp he with z|z
  ·subst z
   exact⟨Sum.inr x,b4y x t,rfl⟩
  ·exact h2 e z
theorem kd_of{P:Program}{w:World}{K:W.Frag}{a:Addr}{es:List DictEntry}{n:Nat}{kvs:List (Key×V)}{vs:List (Key×Value)}(h:K.lookup a=some ⟨.type "dict",none,.dict es.toArray n,#[]⟩)(d:DRow w.params es kvs vs)(hn:(kvs.map (·.1)).Nodup):KD P w K a kvs:=fun hp hi=>by
 obtain⟨h1,h2,h3,h4⟩:=d.facts (P:=P)
 exact⟨vs,h1,_,_,_,hi a _ h,⟨rfl,rfl,rfl⟩,rfl,fun e he=>h2 e (by simpa using he),by simpa using h3,by rw[h4];exact hn⟩
end
theorem gSub_i{to ti:TE}{t:TSet}{v:V}{σ:St}{H:Hp}{N:St->Hp->Prop}(k:to σ H fun o H1=>ti σ H1 fun i H2=>t o i v H2 fun H3=>N σ H3):gSub to ti t v σ H N:=k
open PySem PySem.Spec PyProof.Rows PySem.W PySem.NumText PySem.Calls
section
variable{X:Cx}
theorem d1f{m:Nat}(hl:(ofString (toString ((m:Nat):Int))).length<=640):PySem.intText? (ofString (toString ((m:Nat):Int)))=some ((m:Nat):Int):=by
 have hd:AllDigits (ofString (toString ((m:Nat):Int))).cps.toList:=by
  intro c hc
  rw[KIN.signs_num]at hc
  obtain⟨ch,hch,e⟩:=Z7.mp hc
  have r:=digit_range (Nat.isDigit_of_mem_toDigits (by decide) (by decide) hch)
  rw[<-e]
  exact r
 have hne:(ofString (toString ((m:Nat):Int))).cps.toList≠[]:=by
  rw[KIN.signs_num]
  intro e
  have h:=toDigits_len_ge 10 m
  rw[List.map_eq_nil_iff.mp e]at h
  exact absurd h (by decide)
 have e:=intText_digits hd hne (Zz hl (by decide))
 rw[KIN.signs_num,KIN.val_back]at e
 exact e
def mIntB:List V->Hp->VK->Prop:=fun xs H Q=>∃n:Nat,xs=[.str (ofString (toString (n:Int)))]/\(ofString (toString (n:Int))).length<=640/\Q (.int (n:Int)) H
theorem c0b:a5t X (.type "int") mIntB:=by
 intro pins s σ H xs us Q I r h
 obtain⟨n,rfl,h0,q⟩:=h
 obtain⟨u,rfl,r1⟩:=vals1 r
 obtain⟨t,rfl⟩:=r1
 exact KIN.call_text (d1f h0) h0 ⟨.int n,H,I.tok _,⟨_,rfl⟩,q⟩
end
theorem su0{us:List Value}{P:List Value->Prop}(hl:us.length=0)(h:P []):P us:=by cases us with|nil=>exact h|cons a r=>cases hl
theorem su1{us:List Value}{P:List Value->Prop}(hl:us.length=1)(h:∀a,P [a]):P us:=by cases us with|nil=>cases hl|cons a r=>exact su0 (P:=fun r=>P (a::r)) (V9 hl) (h a)
theorem su2{us:List Value}{P:List Value->Prop}(hl:us.length=2)(h:∀a b,P [a,b]):P us:=by cases us with|nil=>cases hl|cons a r=>exact su1 (P:=fun r=>P (a::r)) (V9 hl) (h a)
theorem su3{us:List Value}{P:List Value->Prop}(hl:us.length=3)(h:∀a b c,P [a,b,c]):P us:=by cases us with|nil=>cases hl|cons a r=>exact su2 (P:=fun r=>P (a::r)) (V9 hl) (h a)
theorem su4{us:List Value}{P:List Value->Prop}(hl:us.length=4)(h:∀a b c d,P [a,b,c,d]):P us:=by cases us with|nil=>cases hl|cons a r=>exact su3 (P:=fun r=>P (a::r)) (V9 hl) (h a)
section
variable{K:Frag}{fd:FuncData}{a b c d e f:Str}
theorem bi1(h:∀x,bindArgs fd ⟨[x],[]⟩=pure [(a,x)]):Binds K fd [a] []:=.all fun us hl=>su1 (P:=fun us=>bindArgs fd ⟨us,[]⟩=pure (([a]:List Str).zip us)) hl h
theorem bi2(h:∀x y,bindArgs fd ⟨[x,y],[]⟩=pure [(a,x),(b,y)]):Binds K fd [a,b] []:=.all fun us hl=>su2 (P:=fun us=>bindArgs fd ⟨us,[]⟩=pure (([a,b]:List Str).zip us)) hl h
theorem bi3(h:∀x y z,bindArgs fd ⟨[x,y,z],[]⟩=pure [(a,x),(b,y),(c,z)]):Binds K fd [a,b,c] []:=.all fun us hl=>su3 (P:=fun us=>bindArgs fd ⟨us,[]⟩=pure (([a,b,c]:List Str).zip us)) hl h
theorem bi4(h:∀x y z u,bindArgs fd ⟨[x,y,z,u],[]⟩=pure [(a,x),(b,y),(c,z),(d,u)]):Binds K fd [a,b,c,d] []:=.all fun us hl=>su4 (P:=fun us=>bindArgs fd ⟨us,[]⟩=pure (([a,b,c,d]:List Str).zip us)) hl h
end
section
variable{K:Frag}
theorem na_of{C:Addr}{x:Str}(h:findIn K (.ref C) x=some none):a1z K C x:=h
theorem xc_of{nm q:Str}{C N:Addr}{bs bm:List Value}{sn:List Str}{sub:List Value}{ab:Bool}{col:Option Bool}{dd:Option Addr}{k0 k1 k2 k3 k5:Option Value}(h:K.lookup C=some (excClassObj nm q C N bs bm true sn sub ab col dd k0 k1 k2 k3 k5 newS))(h1:bm.contains (.type "ValueError")=true)(h2:bm.contains (.type "BaseException")=true)(h3:bm.contains (.type "AttributeError")=false)(h4:bm.contains (.type "NameError")=false):XCls K C bm:=⟨⟨_,_,_,_,_,_,_,_,_,_,_,_,_,_,h⟩,h1,h2,h3,h4⟩
theorem is_fn{f:Addr}(h:typeIn K (.ref f)=some (.type "function")):isFn K (.ref f)=true:=W3.mpr h
theorem sq_of{c:Addr}{od:Option Addr}{its:List Value}{n:Nat}{sl:Array (Option Value)}{xs:List V}(h:K.lookup c=some ⟨.type "tuple",od,.seq its.toArray n,sl⟩)(hl:its.length<=1000)(r:Vals xs its)(H:Hp):SqT K H c xs:=.inr ⟨_,_,_,h,rfl,rfl,ln (by show its.toArray.size<=100000;rw[Zf];omega),r⟩
end
section
variable{K:Frag}{fd:FuncData}{a b c:Str}{v:Addr}{od:Option Addr}{n:Nat}{sl:Array (Option Value)}{its:Array Value}{d:Value}
theorem bd3(h:K.lookup v=some ⟨.type "tuple",od,.seq its n,sl⟩)(hd:fd.defaults=.ref v)(h1:∀x y z,∃k:Option (Array Value)->Sem (List (Str×Value)),bindArgs fd ⟨[x,y,z],[]⟩=seqItems? fd.defaults>>=k/\k (some its)=pure [(a,x),(b,y),(c,z)]):Binds K fd [a,b,c] []:=fun s us KX hl=>by
 rw[Yr]at hl ⊢
 exact su3 (P:=fun us=>BindsTo s fd ⟨us,[]⟩ ([a,b,c].zip us)) hl fun x y z=>by
  obtain⟨k,e1,e2⟩:=h1 x y z
  exact .of_defaults (T:=v) hd (KX _ _ h) rfl e1 e2
theorem bd2(h:K.lookup v=some ⟨.type "tuple",od,.seq its n,sl⟩)(hd:fd.defaults=.ref v)(h1:∀x y,∃k:Option (Array Value)->Sem (List (Str×Value)),bindArgs fd ⟨[x,y],[]⟩=seqItems? fd.defaults>>=k/\k (some its)=pure [(a,x),(b,y),(c,d)]):Binds K fd [a,b,c] [d]:=fun s us KX hl=>by
 exact su2 (P:=fun us=>BindsTo s fd ⟨us,[]⟩ ([a,b,c].zip (us++[d]))) (by simpa using hl) fun x y=>by
  obtain⟨k,e1,e2⟩:=h1 x y
  exact .of_defaults (T:=v) hd (KX _ _ h) rfl e1 e2
end
section
variable{X:Cx}{pos:Pos}{e:Expr}{te:TE}
def sho(y:Str):Prop:=(∀c∈y.cps.toList,c<16^8)/\y.length<=1000
def tFrT(K:Frag)(te:TE):TE:=fun σ H Q=>te σ H fun x H1=>∃(b:Addr)(y1 y2:Str),x=.ref b/\SqT K H1 b [.str y1,.str y2]/\sho y1/\sho y2/\∀z:Str,Q (.str z) H1
theorem pe_frT{a:Str}{j1 p1 p2}(K:Frag)(hK:X.K=K)(hgd:X.A.guards=some [])(hu:X.A.units+150<cLine)(he:PE X e te)(ha:a.length<=1000:=by decide+kernel):PE X (.JoinedStr [.Constant (.str a) j1 p1,.FormattedValue e 114 none p2] pos) (tFrT K te):=by
 intro pins s σ H Q I h
 have z9:100000<=sizeLine:=by decide
 have hz:∀{x:Str},x.length<=sizeLine->(Str.empty++x).length<=sizeLine:=fun{x} q=>by rw[Ym];show 0+x.length<=_;omega
 have ea:∀x:Str,Str.empty++x=x:=fun x=>by apply V7;show(#[]:Array Nat)++x.cps=x.cps;simp
 refine W7 (Y3 (Xj ?_))
 refine⟨hz (by omega),Y3 (Ut (thn (he pins _ σ H _ (I.tok _) h) fun v s1 ⟨x,H1,I1,r1,q1⟩=>?_))⟩
 obtain⟨b,y1,y2,rfl,sq,h1,h2,q⟩:=q1
 obtain rfl:v=Value.ref b:=r1
 subst hK
 obtain⟨its,vs,tp,_⟩:=I1.tuple sq
 obtain⟨u1,u2,rfl,⟨t1,rfl⟩,⟨t2,rfl⟩⟩:=c2e vs
 have l1:=W6 y1 h1.1
 have l2:=W6 y2 h2.1
 have b1:=h1.2
 have b2:=h2.2
 obtain⟨o,ho,hc,n,hd⟩:=tp
 have ht:(tupleText [reprText y1,reprText y2]).length<=90000:=by
  unfold tupleText
  rw[Ym,Ym]
  have:=join_length_add [reprText y1,reprText y2] (by simp)
  simp only[piled]at this
  have e1:(("(":String):Str).length=1:=rfl
  have e2:((if([reprText y1,reprText y2]:List Str).length==1 then ",)" else ")":String):Str).length=1:=rfl
  rw[e1,e2]
  simp at this
  omega
 refine wpAny_pyReprObj_tuple (g:=[]) ⟨o,ho,hc⟩ hgd (fun _ z=>by cases z) (by omega) ho hd (.cons (.str y1 t1 (by omega)) (.cons (.str y2 t2 (by omega)) .nil)) (fun u tk=>?_) (by omega)
 generalize tupleText [reprText y1,reprText y2]=y' at ht ⊢
 refine Vm (fun t' tk=>?_) (by omega)
 rw[ea]
 refine⟨by rw[Ym];omega,Va ?_ (by rw[Ym];omega)⟩
 exact⟨.str (a++y'),H1,((I1.tok _).tok _).tok _,⟨_,rfl⟩,q _⟩
theorem tFrT_i{K:Frag}{σ:St}{H:Hp}{Q:VK}(k:te σ H fun x H1=>∃(b:Addr)(y1 y2:Str),x=.ref b/\SqT K H1 b [.str y1,.str y2]/\sho y1/\sho y2/\∀z:Str,Q (.str z) H1):tFrT K te σ H Q:=k
end
section
variable{X:Cx}{k:Nat}{f C':Addr}{fd:FuncData}{ps:List Str}{sp:Sp}{dvs:List V}{ds:List Value}{x nm cx:Str}{p pos apos cp hpos tpos:Pos}{e:Expr}{es:List Expr}{t:TA}{bm':List Value}{b0:Stmt}{suite:List Stmt}{ts tb tb2:TS}{n:Nat}
def PTry(X:Cx)(C':Addr)(hd:Ends->St->Addr->Hp->Prop)(sts:List Stmt)(tb:TS):Prop:=∀(pins:List (Addr×Obj))(s:Shared)(σ:St)(H:Hp)(D:Ends)(Eh:Value->Shared->Prop),
 (∀ea C dx bm H' s',Inv X pins σ H' s'->H' ea=some (XF ea C dx false)->MetAt X pins H' ea s'.heap->XCls X.K C bm->(Value.ref C::bm).contains (.ref C')=true->hd D σ ea H'->Eh (.ref ea) s')->
 Inv X pins σ H s->tb D σ H->wpAny (model X.prog X.w) X.A (execs sts X.env) (SP X pins D) Eh s
theorem pt_if{hd:Ends->St->Addr->Hp->Prop}{c:Expr}{a b:List Stmt}{tc:TT}(hc:PT X.nox c tc)(ha:PTry X C' hd a tb)(hb:PTry X C' hd b tb2):PTry X C' hd [.If c a b pos] (tIfS tc tb tb2):=by
 intro pins s σ H D Eh hE I h
 have fin:∀f s1,SP X pins D f s1->(match f with| .next=>wpAny (model X.prog X.w) X.A (execs [] X.env) (SP X pins D) Eh s1|f=>SP X pins D f s1):=fun f s1 q=>by
  cases f with
  |next=>exact Xl q
  |brk=>exact q
  |cont=>exact q
  |ret _=>exact q
 refine Wu (wpAny_If (Xg (hc pins s σ H _ (I.wish _) h) (fun d s1 ⟨H1,I1,q1⟩=>?_) fun _ _ z=>z.elim))
 have I1:=I1.unwish
 cases d with
 |true=>exact thn (ha pins s1 σ H1 D Eh hE I1 q1) fin
 |false=>exact thn (hb pins s1 σ H1 D Eh hE I1 q1) fin
theorem c6d{body:List Stmt}(hst:X.stack=X.env::X.outer)(hfr:X.env.frame=some X.env.locals)(hN:X.N.Nodup)(hgc:Gl X cx)(hmc:X.mg cx=some (.ref C'))(Xd:XCls X.K C' bm')(hn:X.N[n]? =some nm)(hkn:X.env.kindOf nm=some .local)(hlo:Loc X.env.scope nm)(hs:∀ea,PSs (X.inX ea) (b0::suite) ts)
  (hb:PTry X C' (fun D σ ea H2=>ts (D.gone n) (σ.set n (some (.ref ea))) H2) body tb)
  (hfn:X.fn nm=true\/X.env.scope.names.lookup nm=some .local:=by first|exact .inl rfl|exact .inr rfl)(hdc:(cx==("__debug__":Str))=false:=by decide):
  PS X (.Try body [.ExceptHandler (some (.Name cx cp)) (some nm) (b0::suite) hpos] [] [] tpos) tb:=by
 intro pins s σ H D I h
 refine wpAny_Try_except (thn (hb pins s σ H D _ (fun ea C dx bm H' s' I' hx tb Xc hc hh=>d1b hst hfr I' hx tb Xc Xd hc hgc hmc hdc hN hn hkn hlo hfn (hs ea) hh) I h) fun f s1 q=>?_)
 cases f with
 |next=>exact Xl q
 |brk=>exact q
 |cont=>exact q
 |ret _=>exact q
end
section
variable{X:Cx}{k:Nat}{f C':Addr}{fd:FuncData}{ps:List Str}{sp:Sp}{dvs:List V}{ds:List Value}{x y:Str}{p py pos apos:Pos}{e:Expr}{es:List Expr}{t:TA}{i:Nat}
theorem d1g{hd:Ends->St->Addr->Hp->Prop}(F:FnOk X.prog X.w X.K X.mg X.base (CXo X.prog X.w) k f fd ps sp)(hr:Room k X.A)(hg:Gl X x)(hm:X.mg x=some (.ref f))(hk:keepIn X.K (.ref f)=true)(hb:Binds X.K fd ps ds)(hvd:Vals dvs ds)(ha:PA X.nox (e::es) t)
  (hN:X.N.Nodup)(hi:X.N[i]? =some y)(hy:Loc X.env.scope y)(hf:X.fn y=true\/X.env.scope.names.lookup y=some .local:=by first|exact .inl rfl|exact .inr rfl)
  (hsw:swapsWith (.Call (.Name x p) (e::es) [] pos) (some (.Name y py)) apos.line X.env=pure false:=by rfl)(hdb:(x==("__debug__":Str))=false:=by decide)
  (he:starEach (e::es) X.env=(false,eval e X.env)::starEach es X.env:=by rfl)(hpl:(backTo pos (starEach es X.env)).any (·.1)=false:=by rfl):
  PTry X C' hd [.Assign [.Name y py] (.Call (.Name x p) (e::es) [] pos) apos] (tTry X.K C' sp dvs t (fun D σ v H2=>D.nx (σ.set i (some v)) H2) hd):=by
 intro pins s σ H D Eh hE I h
 refine Wu (V6 (thn (c3z (D:=D) F hr hg hm hk hb hvd ha hE I h hdb he hpl) fun v s1 ⟨z,H1,I1,r1,q1⟩=>?_) hsw)
 exact a7r I1 hN hi hy r1 (fun s2 I2=>Xl ⟨_,H1,I2,q1⟩) hf
theorem pt_setl{hd:Ends->St->Addr->Hp->Prop}{lpos:Pos}(F:FnOk X.prog X.w X.K X.mg X.base (CXo X.prog X.w) k f fd ps sp)(hr:Room k X.A)(hg:Gl X x)(hm:X.mg x=some (.ref f))(hk:keepIn X.K (.ref f)=true)(hb:Binds X.K fd ps ds)(hvd:Vals dvs ds)(ha:PA X.nox (e::es) t)
  (hN:X.N.Nodup)(hi:X.N[i]? =some y)(hy:Loc X.env.scope y)(hf:X.fn y=true\/X.env.scope.names.lookup y=some .local:=by first|exact .inl rfl|exact .inr rfl)
  (hdb:(x==("__debug__":Str))=false:=by decide)
  (he:starEach (e::es) X.env=(false,eval e X.env)::starEach es X.env:=by rfl)(hpl:(backTo pos (starEach es X.env)).any (·.1)=false:=by rfl):
  PTry X C' hd [.Assign [.Name y py] (.List [.Call (.Name x p) (e::es) [] pos] lpos) apos] (tTry X.K C' sp dvs t (fun D σ v H2=>∀q,H2 q=none->D.nx (σ.set i (some (.ref q))) (upd H2 q (.lst [v]))) hd):=by
 intro pins s σ H D Eh hE I h
 refine Wu (V6 (Sc ?_) a7k)
 rw[b7j (e:=.Call (.Name x p) (e::es) [] pos) (rest:=[]) rfl]
 refine Sq (thn (c3z (D:=D) F hr hg hm hk hb hvd ha hE I h hdb he hpl) fun u s1 ⟨v,H1,I1,r1,q1⟩=>?_)
 refine Calls.spliced_nil ⟨by show 1<=sizeLine;decide,?_⟩
 have hfr:H1 s1.heap.objs.size=none:=I1.hok.fresh (Zl _)
 have I2:Inv X pins σ (upd H1 s1.heap.objs.size (.lst [v])) _:=I1.laid (t':=s1.toks) (fun b u e=>Zh _ e) (Zl _) ⟨by show 1<=sizeLine;decide,[u],0,.cons r1 .nil,Z2 _ rfl⟩
 exact a7r (v:=.ref s1.heap.objs.size) I2 hN hi hy rfl (fun s2 I3=>Xl ⟨_,_,I3,q1 _ hfr⟩) hf
end
section
variable{X:Cx}{pos:Pos}{e:Expr}{te:TE}
def tFT(te:TE):TE:=fun σ H Q=>te σ H fun x H1=>∃y,x=.str y/\y.length<=5000/\∀z:Str,Q (.str z) H1
theorem pe_fT{b:Str}{j2 p2 p3}(he:PE X e te)(hb:b.length<=1000:=by decide+kernel):PE X (.JoinedStr [.FormattedValue e (-1) none p2,.Constant (.str b) j2 p3] pos) (tFT te):=by
 intro pins s σ H Q I h
 have z9:100000<=sizeLine:=by decide
 have ea:∀x:Str,Str.empty++x=x:=fun x=>by apply V7;show(#[]:Array Nat)++x.cps=x.cps;simp
 refine W7 (Y3 (Vz (thn (he pins _ σ H _ I h) fun v s1 ⟨x,H1,I1,r1,q1⟩=>?_)))
 obtain⟨y,rfl,hy,q⟩:=q1
 obtain⟨t,rfl⟩:=r1
 refine Vm (fun t' tk=>?_) (by omega)
 have hz:(Str.empty++y).length<=sizeLine:=by rw[ea];omega
 refine⟨hz,?_⟩
 rw[ea]
 show wpAny _ _ (joinParts y [eval (.Constant (.str b) j2 p3) X.env]) _ _ _
 refine Y3 (Xj ⟨by rw[Ym];omega,Va ?_ (by rw[Ym];omega)⟩)
 exact⟨.str (y++b),H1,((I1.tok _).tok _).tok _,⟨_,rfl⟩,q _⟩
theorem tFT_i{σ:St}{H:Hp}{Q:VK}(k:te σ H fun x H1=>∃y,x=.str y/\y.length<=5000/\∀z:Str,Q (.str z) H1):tFT te σ H Q:=k
end
section
variable{X:Cx}
def mRepT:R2:=fun x y H Q=>∃(p:List Nat)(k:Int),x=.str ⟨p.toArray⟩/\y=.int k/\0<=k/\k<=1000/\1<=p.length/\p.length<=10/\Q (.str ⟨((List.replicate k.toNat p).flatten).toArray⟩) H
theorem c4f(p:List Nat):∀(n:Nat)(a:List Nat),(List.replicate n p.toArray).foldl (· ++ ·) a.toArray=(a++(List.replicate n p).flatten).toArray
 |0,a=>by simp
 |n+1,a=>by
  rw[Yq,Vq,show a.toArray++p.toArray=(a++p).toArray by simp,c4f p n (a++p),Zw,Yq,Xu]
theorem txt_mul{p:List Nat}(hp:1<=p.length){k:Int}(h0:0<=k):Txt.mul ⟨p.toArray⟩ k=⟨((List.replicate k.toNat p).flatten).toArray⟩:=by
 unfold Txt.mul
 split
 ·have:k=0:=by omega
  subst this;rfl
 ·split
  ·rename_i h1 h2
   have:k=1:=by
    rw[Um]at h2
    rcases h2 with h2|h2
    ·simpa using h2
    ·rw[str_len]at h2;simp at h2;rw[h2]at hp;simp at hp
   subst this
   show _=(⟨((List.replicate 1 p).flatten).toArray⟩:Str)
   simp
  ·have:=c4f p k.toNat []
   rw[Yb]at this
   exact Ys Str.mk this
theorem b1a:OpR X (binaryOp .Mult) mRepT:=by
 intro pins s σ H x y v u Q I rx ry h
 obtain⟨p,k,rfl,rfl,h0,h1,hp,hp2,q⟩:=h
 obtain⟨t,rfl⟩:=rx
 obtain⟨t',rfl⟩:=ry
 have e1:(⟨p.toArray⟩:Str).length=p.length:=str_len p
 refine SB.mul ⟨?_,fun _ _=>?_,fun _ _=>?_⟩ fun t' k'=>⟨.str _,H,I.tok _,⟨_,rfl⟩,?_⟩
 ·rw[Zg (by omega),Zg (by omega)];rfl
 ·rw[e1]
  have h2:(0:Int)<k:=by omega
  have:(10:Int)<=(2^63-1)/k:=Int.le_ediv_of_mul_le h2 (by omega)
  omega
 ·rw[e1]
  have:p.length*k.toNat<=10*1000:=Nat.mul_le_mul hp2 (by omega)
  exact Zg (show ¬(p.length*k.toNat>sizeLine) by rw[Y8];omega)
 ·rw[txt_mul hp h0];exact q
theorem b1b{p:List Nat}{s:Str}{k:Int}{H:Hp}{Q:VK}(e:s=⟨p.toArray⟩)(hp:1<=p.length)(hp2:p.length<=10)(h0:0<=k)(h1:k<=1000)(q:Q (.str ⟨((List.replicate k.toNat p).flatten).toArray⟩) H):mRepT (.str s) (.int k) H Q:=⟨p,k,by rw[e],rfl,h0,h1,hp,hp2,q⟩
def mNeTL(K:Frag):R2:=fun x y H Q=>dEq K true x y H Q\/∃(p q:Addr)(us vs:List V),x=.ref p/\y=.ref q/\SqT K H p us/\SqL K H q vs/\Q (.bl true) H
theorem ko_neTL(K:Frag)(hK:X.K=K)(hu:X.A.units+150<cLine):OpR X (compareOp .NotEq) (mNeTL K):=by
 intro pins s σ H x y v u Q I rx ry h
 rcases h with h|⟨p,q,us,vs,rfl,rfl,hp,hq,k⟩
 ·exact d0l K hK hu pins s σ H x y v u Q I rx ry h
 subst hK
 cases rx
 cases ry
 obtain⟨its,rv,p1,_⟩:=I.tuple hp
 obtain⟨its',rv',p2,_⟩:=I.list hq
 exact SeqAt.RcNeAt.tuple_list (show s.heap.IsTuple p its.toArray from p1) p2.isList (by omega) X.prog X.w _ _ ⟨.bl true,H,I,rfl,k⟩
end
section
variable{X:Cx}
theorem c7l{elt iter:Expr}{x y:Str}{N':List Str}{i:Nat}{px py:Pos}{ifs:List Expr}{scope:Scope}{pos spos:Pos}{wi:TI}{tt:TT}{te:TE}(hN:X.N.Nodup)(hiy:X.N[i]? =some y)(hy:Loc X.env.scope y)(hc:X.calm=true)(hi:PI X (.Name x px) iter wi)(S:b3e X scope x N')
  (ht:∀C s H fp pn,PTs (a3c X scope x N' C s H fp pn) ifs tt)(he:∀C s H fp pn,QE (a3c X scope x N' C s H fp pn) elt te)
  (hsw:swapsWith (.ListComp elt [⟨.Name x px,iter,ifs,0⟩] scope pos) (some (.Name y py)) spos.line X.env=pure true)(hs:∀x,foldedSetIterable iter X.env x=pure x)
  (hf:X.fn y=true\/X.env.scope.names.lookup y=some .local):
  QS X (.Assign [.Name y py] (.ListComp elt [⟨.Name x px,iter,ifs,0⟩] scope pos) spos) (tAsg (c2i wi tt te) (b5w i)):=⟨ps_comp hN hiy hy hc hi S ht (fun C s H fp pn=>(he C s H fp pn).pe) hsw hs hf⟩
theorem d1h{tg e:Expr}{te:TE}{g:TG}{pos:Pos}(he:QE X e te)(hg:PG X tg g)(hs:swapsWithSole [tg] e pos.line X.env=pure false)(hw:swappedStores [tg] e X.env=pure none)
  (h1:(assignEach [tg] X.env).map (·.2)=[assign tg X.env]):QS X (.Assign [tg] e pos) (tAsg te g):=⟨ps_asg he.pe hg hs hw h1⟩
end
end L2
namespace My
open PySem PySem.Spec PyProof.Rows L2
local macro_rules | `(tactic| walk_at "r") => `(tactic| first | decide | exact Zl _ | exact Nat.le_add_left_of_le (by decide) | omega)
local macro_rules | `(tactic| walk_at "or1") => `(tactic| first | exact Or.inl rfl | exact Or.inr rfl)
local macro_rules | `(tactic| walk_at "q") => `(tactic| first | refine tAsg_i ?_ | refine a5n ?_ | refine tRet_i ?_ | refine tIfS_i ?_ | refine b0x ?_ | refine tDrop_i ?_ | refine mTest_i ?_ | refine mTrue_i ?_ | refine mTru_b ?_ | refine mB_i ?_ | refine tOp_i ?_ | refine tUn_i ?_ | refine mUn_i ?_ | refine m20_i ?_ | refine mAdd_i ?_ | refine mEq_i ?_ | refine mEq_s ?_ | refine mInS_i ?_ | (refine' mVar_i ?hv ?_; (case hv => with_unfolding_all rfl)) | refine tC_i ?_ | refine d3e ?_ | refine mAndV_i ?_ | refine mOrV_i ?_ | refine mNotV_i ?_ | refine tIf_i ?_ | refine tAnd_i ?_ | refine tOr_i ?_ | refine tNot_i ?_ | refine tCB_i ?_ | refine d3f ?_ | refine tCons_i ?_ | refine tNil_i ?_ | refine tBM_i ?_ | refine tBM0_i ?_ | refine tTup_i ?_ | refine tLst_i ?_ | refine tSl_i ?_ | refine d0k ?_ | refine mPart_i ?_ | refine mI_i ?_ | refine is_str ?_ | refine is_int ?_ | refine c6c ?_ | refine tDGet_i ?_ | refine tDisp_i ?_ | refine d3i ?_ | refine d3j ?_ | refine iRng2_i ?_ | refine iRev_i ?_ | refine d3g ?_ | (refine' mAug_i ?hw ?_; (case hw => with_unfolding_all rfl)) | refine mIAdd_i ?_ | refine tFor_i ?_ | refine d3m ?_ | refine d3n ?_ | refine tTry_i ?_ | refine tXGet_i ?_ | refine d3o ?_ | refine tXSet_i ?_ | refine tF3i_i ?_ | refine tMeth_i ?_ | refine tFld_i ?_ | refine sFld_i ?_ | refine d1e ?_ | refine tMake_i ?_ | refine gSub_i ?_ | refine tFrT_i ?_ | refine tFT_i ?_ | refine tFr_i ?_ | refine tF2_i ?_ | refine iStr_i ?_ | refine iList_i ?_ | refine iTup_i ?_ | refine iRng1_i ?_ | refine tComp_i ?_ | (refine m2_i ?hc ?_; (case hc => first | (show (0 : Int) < _; decide) | exact cdiv_i (by decide) (by decide))))
local macro_rules | `(tactic| walk_at "s") => `(tactic| repeat (with_reducible first | refine b8p ?_ | walk_at "q"))
local macro_rules | `(tactic| walk_at "A") => `(tactic| (walk_at "s"; refine iteF ?_; walk_at "s"))
local macro_rules | `(tactic| walk_at "B") => `(tactic| (walk_at "s"; refine iteT ?_; walk_at "s"))
local macro_rules | `(tactic| walk_at "C") => `(tactic| (refine iteF ?_; walk_at "s"))
local macro_rules | `(tactic| walk_at "D") => `(tactic| (refine iteT ?_; walk_at "s"))
local macro_rules | `(tactic| walk_at "m") => `(tactic| repeat (with_reducible walk_at "q"))
noncomputable def top(i:Nat):Stmt:=PySem.Challenge.pw_goaltrail_k14_how_much_is_read.main.body.getD i (.Pass ⟨0,0,0,0⟩)
abbrev a4j:Stmt:=inClass (top 1) 0
abbrev b1l:Stmt:=inClass (top 41) 0
abbrev a9f:Stmt:=inClass (top 42) 0
abbrev a9g:Stmt:=inClass (top 42) 1
abbrev a9h:Stmt:=inClass (top 42) 2
abbrev a6g:Stmt:=inClass (top 42) 3
abbrev a5d:Stmt:=inClass (top 42) 4
abbrev a8q:Stmt:=inClass (top 42) 5
abbrev a5u:Stmt:=inClass (top 42) 6
abbrev a5e:Stmt:=inClass (top 42) 7
abbrev a5f:Stmt:=inClass (top 42) 8
abbrev a6h:Stmt:=inClass (top 42) 9
abbrev a5v:Stmt:=inClass (top 42) 10
abbrev a6o:Stmt:=inClass (top 42) 11
abbrev s_num:Stmt:=top 16
abbrev b5g:Stmt:=top 17
abbrev s_a6:Stmt:=top 18
abbrev b5h:Stmt:=top 19
abbrev c0c:Stmt:=top 20
abbrev b4c:Stmt:=top 21
abbrev a9r:Stmt:=top 22
abbrev b5i:Stmt:=top 23
abbrev b5j:Stmt:=top 24
abbrev b7k:Stmt:=top 29
abbrev b4d:Stmt:=top 30
abbrev b4e:Stmt:=top 31
abbrev b2r:Stmt:=top 32
abbrev b1m:Stmt:=top 33
abbrev b0f:Stmt:=top 34
abbrev a5w:Stmt:=top 35
abbrev a9s:Stmt:=top 36
abbrev a9i:Stmt:=top 43
abbrev a9j:Stmt:=top 44
abbrev b2s:Stmt:=top 45
abbrev b4f:Stmt:=top 46
abbrev b4g:Stmt:=top 47
abbrev b0g:Stmt:=top 48
abbrev b2t:Stmt:=top 49
abbrev b7l:Stmt:=top 50
abbrev b7m:Stmt:=top 51
abbrev c4g:Stmt:=top 52
abbrev b2u:Stmt:=top 53
abbrev b1n:Stmt:=top 54
abbrev b2v:Stmt:=top 56
abbrev b5k:Stmt:=top 57
abbrev b4h:Stmt:=top 58
abbrev b7n:Stmt:=top 59
abbrev a7t:Stmt:=top 60
abbrev b4i:Stmt:=top 61
abbrev b5l:Stmt:=top 62
abbrev a5z:Stmt:=top 63
abbrev b1o:Stmt:=top 64
abbrev b3l:Stmt:=top 65
abbrev b7o:Stmt:=top 66
abbrev b5m:Stmt:=top 67
abbrev b7p:Stmt:=top 68
abbrev b5n:Stmt:=top 69
abbrev s_law:Stmt:=top 70
theorem b5o:a0q ["self","words","row"] ["self","words","row"] (a0i a4j):=⟨rfl,rfl,rfl,by decide+kernel,rfl,by decide+kernel,by decide+kernel⟩
theorem c1v:a0q ["self","kind","word"] ["self","kind","word"] (a0i b1l):=⟨rfl,rfl,rfl,by decide+kernel,rfl,by decide+kernel,by decide+kernel⟩
theorem b8t:a0q ["self","row","signs"] ["self","row","signs"] (a0i a9f):=⟨rfl,rfl,rfl,by decide+kernel,rfl,by decide+kernel,by decide+kernel⟩
theorem b2i:a0q ["self","ahead","place"] ["self","ahead"] (a0i a9g):=⟨rfl,rfl,rfl,by decide+kernel,rfl,by decide+kernel,by decide+kernel⟩
theorem b8u:a0q ["self","text"] ["self","text"] (a0i a9h):=⟨rfl,rfl,rfl,by decide+kernel,rfl,by decide+kernel,by decide+kernel⟩
theorem a4k:a0q ["self","going","whole"] ["self"] (a0i a6g):=⟨rfl,rfl,rfl,by decide+kernel,rfl,by decide+kernel,by decide+kernel⟩
theorem a3l:a0q ["self","going","behind"] ["self"] (a0i a5d):=⟨rfl,rfl,rfl,by decide+kernel,rfl,by decide+kernel,by decide+kernel⟩
theorem b7q:a0q ["self","kind","word","long"] ["self","kind","word","long"] (a0i a8q):=⟨rfl,rfl,rfl,by decide+kernel,rfl,by decide+kernel,by decide+kernel⟩
theorem a8a:a0q ["self","sides"] ["self"] (a0i a5u):=⟨rfl,rfl,rfl,by decide+kernel,rfl,by decide+kernel,by decide+kernel⟩
theorem a7g:a0q ["self","level"] ["self"] (a0i a5e):=⟨rfl,rfl,rfl,by decide+kernel,rfl,by decide+kernel,by decide+kernel⟩
theorem a4t:a0q ["self","level","piece"] ["self"] (a0i a5f):=⟨rfl,rfl,rfl,by decide+kernel,rfl,by decide+kernel,by decide+kernel⟩
theorem a8r:a0q ["self","text","found"] ["self","text"] (a0i a6h):=⟨rfl,rfl,rfl,by decide+kernel,rfl,by decide+kernel,by decide+kernel⟩
theorem a8b:a0q ["self","terms"] ["self"] (a0i a5v):=⟨rfl,rfl,rfl,by decide+kernel,rfl,by decide+kernel,by decide+kernel⟩
theorem b4w:a0q ["self"] ["self"] (a0i a6o):=⟨rfl,rfl,rfl,by decide+kernel,rfl,by decide+kernel,by decide+kernel⟩
theorem sc_c8:a0q ["n"] ["n"] (a0i s_num):=⟨rfl,rfl,rfl,by decide+kernel,rfl,by decide+kernel,by decide+kernel⟩
theorem c8r:a0q ["name"] ["name"] (a0i b5g):=⟨rfl,rfl,rfl,by decide+kernel,rfl,by decide+kernel,by decide+kernel⟩
theorem sc_a6:a0q ["sign","kids"] ["sign","kids"] (a0i s_a6):=⟨rfl,rfl,rfl,by decide+kernel,rfl,by decide+kernel,by decide+kernel⟩
theorem b0j:a0q ["things","rest","term","thing"] ["things","rest"] (a0i b5h):=⟨rfl,rfl,rfl,by decide+kernel,rfl,by decide+kernel,by decide+kernel⟩
theorem b1p:a0q ["term","count","todo","part"] ["term"] (a0i c0c):=⟨rfl,rfl,rfl,by decide+kernel,rfl,by decide+kernel,by decide+kernel⟩
theorem c6e:a0q ["sign"] ["sign"] (a0i b4c):=⟨rfl,rfl,rfl,by decide+kernel,rfl,by decide+kernel,by decide+kernel⟩
theorem c4h:a0q ["text","firsts"] ["text","firsts"] (a0i a9r):=⟨rfl,rfl,rfl,by decide+kernel,rfl,by decide+kernel,by decide+kernel⟩
theorem c8s:a0q ["text"] ["text"] (a0i b5i):=⟨rfl,rfl,rfl,by decide+kernel,rfl,by decide+kernel,by decide+kernel⟩
theorem c8t:a0q ["text"] ["text"] (a0i b5j):=⟨rfl,rfl,rfl,by decide+kernel,rfl,by decide+kernel,by decide+kernel⟩
theorem a8c:a0q ["text","row","at","piece"] ["text"] (a0i b7k):=⟨rfl,rfl,rfl,by decide+kernel,rfl,by decide+kernel,by decide+kernel⟩
theorem b6w:a0q ["text","at","first"] ["text","at"] (a0i b4d):=⟨rfl,rfl,rfl,by decide+kernel,rfl,by decide+kernel,by decide+kernel⟩
theorem b2w:a0q ["text","at","end"] ["text","at"] (a0i b4e):=⟨rfl,rfl,rfl,by decide+kernel,rfl,by decide+kernel,by decide+kernel⟩
theorem b1q:a0q ["text","at","end"] ["text","at"] (a0i b2r):=⟨rfl,rfl,rfl,by decide+kernel,rfl,by decide+kernel,by decide+kernel⟩
theorem c1w:a0q ["run"] ["run"] (a0i b1m):=⟨rfl,rfl,rfl,by decide+kernel,rfl,by decide+kernel,by decide+kernel⟩
theorem c0d:a0q ["run"] ["run"] (a0i b0f):=⟨rfl,rfl,rfl,by decide+kernel,rfl,by decide+kernel,by decide+kernel⟩
theorem b3m:a0q ["run"] ["run"] (a0i a5w):=⟨rfl,rfl,rfl,by decide+kernel,rfl,by decide+kernel,by decide+kernel⟩
theorem c4i:a0q ["run"] ["run"] (a0i a9s):=⟨rfl,rfl,rfl,by decide+kernel,rfl,by decide+kernel,by decide+kernel⟩
theorem b8v:a0q ["text"] ["text"] (a0i a9i):=⟨rfl,rfl,rfl,by decide+kernel,rfl,by decide+kernel,by decide+kernel⟩
theorem b8w:a0q ["text"] ["text"] (a0i a9j):=⟨rfl,rfl,rfl,by decide+kernel,rfl,by decide+kernel,by decide+kernel⟩
theorem c4j:a0q ["text"] ["text"] (a0i b2s):=⟨rfl,rfl,rfl,by decide+kernel,rfl,by decide+kernel,by decide+kernel⟩
theorem c6f:a0q ["piece"] ["piece"] (a0i b4f):=⟨rfl,rfl,rfl,by decide+kernel,rfl,by decide+kernel,by decide+kernel⟩
theorem c6g:a0q ["level","mark","signs"] ["level","mark","signs"] (a0i b4g):=⟨rfl,rfl,rfl,by decide+kernel,rfl,by decide+kernel,by decide+kernel⟩
theorem c0e:a0q ["earlier","later"] ["earlier","later"] (a0i b0g):=⟨rfl,rfl,rfl,by decide+kernel,rfl,by decide+kernel,by decide+kernel⟩
theorem b1r:a0q ["level","right","left"] ["level"] (a0i b2t):=⟨rfl,rfl,rfl,by decide+kernel,rfl,by decide+kernel,by decide+kernel⟩
theorem d1i:a0q ["level"] ["level"] (a0i b7l):=⟨rfl,rfl,rfl,by decide+kernel,rfl,by decide+kernel,by decide+kernel⟩
theorem d1j:a0q ["level"] ["level"] (a0i b7m):=⟨rfl,rfl,rfl,by decide+kernel,rfl,by decide+kernel,by decide+kernel⟩
theorem c0f:a0q ["text","signs","reading","term"] ["text","signs"] (a0i c4g):=⟨rfl,rfl,rfl,by decide+kernel,rfl,by decide+kernel,by decide+kernel⟩
theorem a6p:a0q ["text","signs","reading","head","goals"] ["text","signs"] (a0i b2u):=⟨rfl,rfl,rfl,by decide+kernel,rfl,by decide+kernel,by decide+kernel⟩
theorem b0h:a0q ["text","signs","reading","goals"] ["text","signs"] (a0i b1n):=⟨rfl,rfl,rfl,by decide+kernel,rfl,by decide+kernel,by decide+kernel⟩
theorem c4k:a0q ["_law_script","_law_k"] ["_law_script","_law_k"] (a0i b2v):=⟨rfl,rfl,rfl,by decide+kernel,rfl,by decide+kernel,by decide+kernel⟩
theorem c8u:a0q ["_law_found"] ["_law_found"] (a0i b5k):=⟨rfl,rfl,rfl,by decide+kernel,rfl,by decide+kernel,by decide+kernel⟩
theorem a7l:a0q ["_law_cell","_law_many","_law_found","_law_number","_law_k"] ["_law_cell","_law_many"] (a0i b4h):=⟨rfl,rfl,rfl,by decide+kernel,rfl,by decide+kernel,by decide+kernel⟩
theorem a8d:a0q ["_law_found","_law_due","_law_left","_law_pair","_law_one","_law_other","_law_k"] ["_law_found","_law_due"] (a0i b7n):=⟨rfl,rfl,rfl,by decide+kernel,rfl,by decide+kernel,by decide+kernel⟩
theorem b6q:a0q ["_law_e"] ["_law_e"] (a0i a7t):=⟨rfl,rfl,rfl,by decide+kernel,rfl,by decide+kernel,by decide+kernel⟩
theorem c1j:a0q ["_law_cell","_law_head","_law_many","_law_some"] ["_law_cell","_law_head","_law_many"] (a0i b4i):=⟨rfl,rfl,rfl,by decide+kernel,rfl,by decide+kernel,by decide+kernel⟩
theorem b0k:a0q ["_law_cell","_law_rest","_law_many","_law_name","_law_word"] ["_law_cell","_law_rest"] (a0i b5l):=⟨rfl,rfl,rfl,by decide+kernel,rfl,by decide+kernel,by decide+kernel⟩
theorem a9k:a0q ["_law_cell","_law_many","_law_text"] ["_law_cell"] (a0i a5z):=⟨rfl,rfl,rfl,by decide+kernel,rfl,by decide+kernel,by decide+kernel⟩
theorem a3k:a0q ["_law_cell","_law_rest","_law_many","_law_text","_law_number","_law_term"] ["_law_cell","_law_rest"] (a0i b1o):=⟨rfl,rfl,rfl,by decide+kernel,rfl,by decide+kernel,by decide+kernel⟩
theorem a3s:a0q ["_law_cell","_law_many","_law_at","_law_kind","_law_texts","_law_things","_law_term","_law_thing","_law_sign","_law_k"] ["_law_cell"] (a0i b3l):=⟨rfl,rfl,rfl,by decide+kernel,rfl,by decide+kernel,by decide+kernel⟩
theorem a4z:a0q ["_law_cell","_law_term","_law_many","_law_k"] ["_law_cell"] (a0i b7o):=⟨rfl,rfl,rfl,by decide+kernel,rfl,by decide+kernel,by decide+kernel⟩
theorem b0l:a0q ["_law_term","_law_many","_law_kid"] ["_law_term"] (a0i b5m):=⟨rfl,rfl,rfl,by decide+kernel,rfl,by decide+kernel,by decide+kernel⟩
theorem a4l:a0q ["_law_text","_law_table","_law_way","_law_found","_law_good","_law_e"] ["_law_text","_law_table","_law_way"] (a0i b7p):=⟨rfl,rfl,rfl,by decide+kernel,rfl,by decide+kernel,by decide+kernel⟩
theorem b8x:a0q ["_law_found","_law_dues","_law_good","_law_k"] ["_law_found","_law_dues","_law_good"] (a0i b5n):=⟨rfl,rfl,rfl,by decide+kernel,rfl,by decide+kernel,by decide+kernel⟩
theorem a5a:a0q ["_law_script","_law_table","_law_way","_law_cell","_law_case","_law_good","_law_at","_law_texts","_law_dues"] ["_law_script"] (a0i s_law):=⟨rfl,rfl,rfl,by decide+kernel,rfl,by decide+kernel,by decide+kernel⟩
set_option genInjectivity false in
structure Ad where
 k_g2:Addr
 k_a0:Addr
 k_g8:Addr
 k_g4:Addr
 k_g5:Addr
 k_a2:Addr
 k_a1:Addr
 a_a3:Addr
 d_a3:FuncData
 v_a3:Addr
 w_a3_0:Tok
 a_d0:Addr
 d_d0:FuncData
 a_b3:Addr
 d_b3:FuncData
 a_a5:Addr
 d_a5:FuncData
 a_a4:Addr
 d_a4:FuncData
 a_a9:Addr
 d_a9:FuncData
 a_f9:Addr
 d_f9:FuncData
 a_c5:Addr
 d_c5:FuncData
 a_f7:Addr
 d_f7:FuncData
 a_f6:Addr
 d_f6:FuncData
 a_f8:Addr
 d_f8:FuncData
 a_c3:Addr
 d_c3:FuncData
 a_c4:Addr
 d_c4:FuncData
 a_b2:Addr
 d_b2:FuncData
 a_c8:Addr
 d_c8:FuncData
 a_e4:Addr
 d_e4:FuncData
 a_a6:Addr
 d_a6:FuncData
 a_c7:Addr
 d_c7:FuncData
 a_f5:Addr
 d_f5:FuncData
 a_a8:Addr
 d_a8:FuncData
 a_b8:Addr
 d_b8:FuncData
 a_f0:Addr
 d_f0:FuncData
 a_e8:Addr
 d_e8:FuncData
 a_b1:Addr
 d_b1:FuncData
 a_d4:Addr
 d_d4:FuncData
 a_d6:Addr
 d_d6:FuncData
 a_c9:Addr
 d_c9:FuncData
 a_e0:Addr
 d_e0:FuncData
 a_d3:Addr
 d_d3:FuncData
 a_e6:Addr
 d_e6:FuncData
 a_c0:Addr
 d_c0:FuncData
 a_c2:Addr
 d_c2:FuncData
 a_d2:Addr
 d_d2:FuncData
 a_d9:Addr
 d_d9:FuncData
 a_f3:Addr
 d_f3:FuncData
 a_e9:Addr
 d_e9:FuncData
 a_e2:Addr
 d_e2:FuncData
 a_b5:Addr
 d_b5:FuncData
 a_a7:Addr
 d_a7:FuncData
 a_e3:Addr
 d_e3:FuncData
 a_d1:Addr
 d_d1:FuncData
 a_f4:Addr
 d_f4:FuncData
 a_e1:Addr
 d_e1:FuncData
 a_b0:Addr
 d_b0:FuncData
 a_b6:Addr
 d_b6:FuncData
 a_b9:Addr
 d_b9:FuncData
 a_e5:Addr
 d_e5:FuncData
 a_f2:Addr
 d_f2:FuncData
 a_c6:Addr
 d_c6:FuncData
 a_d7:Addr
 d_d7:FuncData
 a_d5:Addr
 d_d5:FuncData
 a_e7:Addr
 d_e7:FuncData
 a_d8:Addr
 d_d8:FuncData
 a_f1:Addr
 d_f1:FuncData
 a_b4:Addr
 d_b4:FuncData
 a_b7:Addr
 d_b7:FuncData
 a_c1:Addr
 d_c1:FuncData
 a_law:Addr
 d_law:FuncData
 c_g6:Addr
 t_h5:Tok
 c_g1:Addr
 c_g1_2:Addr
 c_g3:Addr
 t_i0:Tok
 t_h1:Tok
 t_h2:Tok
 t_h8:Tok
 t_i2:Tok
 t_i4:Tok
 t_h6:Tok
 t_h0:Tok
 t_h9:Tok
 t_i3:Tok
 t_h3:Tok
structure Txt(K:W.Frag)(mg:Str->Option Value)(t:Ad):Prop where
 m_g2:mg "TrailError"=some (.ref t.k_g2)
 x_g2:XCls K t.k_g2 [.type "ValueError",.type "Exception",.type "BaseException",.type "object"]
 u_g2:XUp [.type "ValueError",.type "Exception",.type "BaseException",.type "object"]
 at_g2:a6i K t.k_g2
 no_g2_row:a1z K t.k_g2 "row"
 mk_g2:XMk K t.k_g2 [.type "ValueError",.type "Exception",.type "BaseException",.type "object"] t.a_a3
 m_a0:mg "NoText"=some (.ref t.k_a0)
 x_a0:XCls K t.k_a0 [.ref t.k_g2,.type "ValueError",.type "Exception",.type "BaseException",.type "object"]
 u_a0:XUp [.ref t.k_g2,.type "ValueError",.type "Exception",.type "BaseException",.type "object"]
 at_a0:a6i K t.k_a0
 no_a0_row:a1z K t.k_a0 "row"
 mk_a0:XMk K t.k_a0 [.ref t.k_g2,.type "ValueError",.type "Exception",.type "BaseException",.type "object"] t.a_a3
 is_a0:XIs K t.k_a0
 iz_a0_ValueError:W.kitOne K (.ref t.k_a0) (.type "ValueError")=some true
 iz_a0_NoText:W.kitOne K (.ref t.k_a0) (.ref t.k_a0)=some true
 iy_a0_NoSign_NoRule_Big:W.kitAny K (.ref t.k_a0) [.ref t.k_g8,.ref t.k_g4,.ref t.k_g5]=some false
 m_g8:mg "NoSign"=some (.ref t.k_g8)
 m_g4:mg "NoRule"=some (.ref t.k_g4)
 m_g5:mg "Big"=some (.ref t.k_g5)
 m_a2:mg "Level"=some (.ref t.k_a2)
 cl_a2:Cls K t.k_a2
 no_a2_kind:a1z K t.k_a2 "kind"
 no_a2_word:a1z K t.k_a2 "word"
 no_a2_done:a1z K t.k_a2 "done"
 no_a2_sides:a1z K t.k_a2 "sides"
 no_a2_waiting:a1z K t.k_a2 "waiting"
 mk_a2:Mk K t.k_a2 t.a_d0
 m_a1:mg "Reading"=some (.ref t.k_a1)
 cl_a1:Cls K t.k_a1
 no_a1_row:a1z K t.k_a1 "row"
 no_a1_signs:a1z K t.k_a1 "signs"
 no_a1_at:a1z K t.k_a1 "at"
 no_a1_levels:a1z K t.k_a1 "levels"
 mk_a1:Mk K t.k_a1 t.a_b3
 me_a5:Meth K t.k_a1 "seen" t.a_a5
 me_a4:Meth K t.k_a1 "sees" t.a_a4
 me_a9:Meth K t.k_a1 "take_term" t.a_a9
 me_f9:Meth K t.k_a1 "take_openers" t.a_f9
 me_c5:Meth K t.k_a1 "begin" t.a_c5
 me_f7:Meth K t.k_a1 "take_thing" t.a_f7
 me_f6:Meth K t.k_a1 "take_closers" t.a_f6
 me_f8:Meth K t.k_a1 "take_between" t.a_f8
 me_c3:Meth K t.k_a1 "take_sign" t.a_c3
 me_c4:Meth K t.k_a1 "take_terms" t.a_c4
 me_b2:Meth K t.k_a1 "take_end" t.a_b2
 F_a3:FunD K "__init__" "TrailError.__init__" a4j t.a_a3 t.d_a3 (.ref t.v_a3)
 b_a3:Binds K t.d_a3 ["self","words","row"] []
 bd_a3:Binds K t.d_a3 ["self","words","row"] [.int 0 t.w_a3_0]
 F_d0:Fun K "__init__" "Level.__init__" b1l t.a_d0 t.d_d0
 b_d0:Binds K t.d_d0 ["self","kind","word"] []
 F_b3:Fun K "__init__" "Reading.__init__" a9f t.a_b3 t.d_b3
 b_b3:Binds K t.d_b3 ["self","row","signs"] []
 F_a5:Fun K "seen" "Reading.seen" a9g t.a_a5 t.d_a5
 b_a5:Binds K t.d_a5 ["self","ahead"] []
 F_a4:Fun K "sees" "Reading.sees" a9h t.a_a4 t.d_a4
 b_a4:Binds K t.d_a4 ["self","text"] []
 F_a9:Fun K "take_term" "Reading.take_term" a6g t.a_a9 t.d_a9
 b_a9:Binds K t.d_a9 ["self"] []
 F_f9:Fun K "take_openers" "Reading.take_openers" a5d t.a_f9 t.d_f9
 b_f9:Binds K t.d_f9 ["self"] []
 F_c5:Fun K "begin" "Reading.begin" a8q t.a_c5 t.d_c5
 b_c5:Binds K t.d_c5 ["self","kind","word","long"] []
 F_f7:Fun K "take_thing" "Reading.take_thing" a5u t.a_f7 t.d_f7
 b_f7:Binds K t.d_f7 ["self"] []
 F_f6:Fun K "take_closers" "Reading.take_closers" a5e t.a_f6 t.d_f6
 b_f6:Binds K t.d_f6 ["self"] []
 F_f8:Fun K "take_between" "Reading.take_between" a5f t.a_f8 t.d_f8
 b_f8:Binds K t.d_f8 ["self"] []
 F_c3:Fun K "take_sign" "Reading.take_sign" a6h t.a_c3 t.d_c3
 b_c3:Binds K t.d_c3 ["self","text"] []
 F_c4:Fun K "take_terms" "Reading.take_terms" a5v t.a_c4 t.d_c4
 b_c4:Binds K t.d_c4 ["self"] []
 F_b2:Fun K "take_end" "Reading.take_end" a6o t.a_b2 t.d_b2
 b_b2:Binds K t.d_b2 ["self"] []
 F_c8:Fun K "num" "num" s_num t.a_c8 t.d_c8
 b_c8:Binds K t.d_c8 ["n"] []
 m_c8:mg "num"=some (.ref t.a_c8)
 F_e4:Fun K "unknown" "unknown" b5g t.a_e4 t.d_e4
 b_e4:Binds K t.d_e4 ["name"] []
 m_e4:mg "unknown"=some (.ref t.a_e4)
 F_a6:Fun K "app" "app" s_a6 t.a_a6 t.d_a6
 b_a6:Binds K t.d_a6 ["sign","kids"] []
 m_a6:mg "app"=some (.ref t.a_a6)
 F_c7:Fun K "list_of" "list_of" b5h t.a_c7 t.d_c7
 b_c7:Binds K t.d_c7 ["things","rest"] []
 m_c7:mg "list_of"=some (.ref t.a_c7)
 F_f5:Fun K "parts" "parts" c0c t.a_f5 t.d_f5
 b_f5:Binds K t.d_f5 ["term"] []
 m_f5:mg "parts"=some (.ref t.a_f5)
 F_a8:Fun K "is_inner" "is_inner" b4c t.a_a8 t.d_a8
 b_a8:Binds K t.d_a8 ["sign"] []
 m_a8:mg "is_inner"=some (.ref t.a_a8)
 F_b8:Fun K "is_called" "is_called" a9r t.a_b8 t.d_b8
 b_b8:Binds K t.d_b8 ["text","firsts"] []
 m_b8:mg "is_called"=some (.ref t.a_b8)
 F_f0:Fun K "is_word" "is_word" b5i t.a_f0 t.d_f0
 b_f0:Binds K t.d_f0 ["text"] []
 m_f0:mg "is_word"=some (.ref t.a_f0)
 F_e8:Fun K "is_name" "is_name" b5j t.a_e8 t.d_e8
 b_e8:Binds K t.d_e8 ["text"] []
 m_e8:mg "is_name"=some (.ref t.a_e8)
 F_b1:Fun K "pieces" "pieces" b7k t.a_b1 t.d_b1
 b_b1:Binds K t.d_b1 ["text"] []
 m_b1:mg "pieces"=some (.ref t.a_b1)
 F_d4:Fun K "piece_at" "piece_at" b4d t.a_d4 t.d_d4
 b_d4:Binds K t.d_d4 ["text","at"] []
 m_d4:mg "piece_at"=some (.ref t.a_d4)
 F_d6:Fun K "mark_run" "mark_run" b4e t.a_d6 t.d_d6
 b_d6:Binds K t.d_d6 ["text","at"] []
 m_d6:mg "mark_run"=some (.ref t.a_d6)
 F_c9:Fun K "inner_run" "inner_run" b2r t.a_c9 t.d_c9
 b_c9:Binds K t.d_c9 ["text","at"] []
 m_c9:mg "inner_run"=some (.ref t.a_c9)
 F_e0:Fun K "mark_piece" "mark_piece" b1m t.a_e0 t.d_e0
 b_e0:Binds K t.d_e0 ["run"] []
 m_e0:mg "mark_piece"=some (.ref t.a_e0)
 F_d3:Fun K "inner_piece" "inner_piece" b0f t.a_d3 t.d_d3
 b_d3:Binds K t.d_d3 ["run"] []
 m_d3:mg "inner_piece"=some (.ref t.a_d3)
 F_e6:Fun K "below_nought_piece" "below_nought_piece" a5w t.a_e6 t.d_e6
 b_e6:Binds K t.d_e6 ["run"] []
 m_e6:mg "below_nought_piece"=some (.ref t.a_e6)
 F_c0:Fun K "is_number" "is_number" a9s t.a_c0 t.d_c0
 b_c0:Binds K t.d_c0 ["run"] []
 m_c0:mg "is_number"=some (.ref t.a_c0)
 F_c2:Fun K "checked_word" "checked_word" a9i t.a_c2 t.d_c2
 b_c2:Binds K t.d_c2 ["text"] []
 m_c2:mg "checked_word"=some (.ref t.a_c2)
 F_d2:Fun K "checked_name" "checked_name" a9j t.a_d2 t.d_d2
 b_d2:Binds K t.d_d2 ["text"] []
 m_d2:mg "checked_name"=some (.ref t.a_d2)
 F_d9:Fun K "number_of" "number_of" b2s t.a_d9 t.d_d9
 b_d9:Binds K t.d_d9 ["text"] []
 m_d9:mg "number_of"=some (.ref t.a_d9)
 F_f3:Fun K "thing_of" "thing_of" b4f t.a_f3 t.d_f3
 b_f3:Binds K t.d_f3 ["piece"] []
 m_f3:mg "thing_of"=some (.ref t.a_f3)
 F_e9:Fun K "add_mark" "add_mark" b4g t.a_e9 t.d_e9
 b_e9:Binds K t.d_e9 ["level","mark","signs"] []
 m_e9:mg "add_mark"=some (.ref t.a_e9)
 F_e2:Fun K "binds_first" "binds_first" b0g t.a_e2 t.d_e2
 b_e2:Binds K t.d_e2 ["earlier","later"] []
 m_e2:mg "binds_first"=some (.ref t.a_e2)
 F_b5:Fun K "join_last" "join_last" b2t t.a_b5 t.d_b5
 b_b5:Binds K t.d_b5 ["level"] []
 m_b5:mg "join_last"=some (.ref t.a_b5)
 F_a7:Fun K "finish" "finish" b7l t.a_a7 t.d_a7
 b_a7:Binds K t.d_a7 ["level"] []
 m_a7:mg "finish"=some (.ref t.a_a7)
 F_e3:Fun K "closed" "closed" b7m t.a_e3 t.d_e3
 b_e3:Binds K t.d_e3 ["level"] []
 m_e3:mg "closed"=some (.ref t.a_e3)
 F_d1:Fun K "read" "read" c4g t.a_d1 t.d_d1
 b_d1:Binds K t.d_d1 ["text","signs"] []
 m_d1:mg "read"=some (.ref t.a_d1)
 F_f4:Fun K "read_rule" "read_rule" b2u t.a_f4 t.d_f4
 b_f4:Binds K t.d_f4 ["text","signs"] []
 m_f4:mg "read_rule"=some (.ref t.a_f4)
 F_e1:Fun K "read_goals" "read_goals" b1n t.a_e1 t.d_e1
 b_e1:Binds K t.d_e1 ["text","signs"] []
 m_e1:mg "read_goals"=some (.ref t.a_e1)
 F_b0:Fun K "_law_cell_at" "_law_cell_at" b2v t.a_b0 t.d_b0
 b_b0:Binds K t.d_b0 ["_law_script","_law_k"] []
 m_b0:mg "_law_cell_at"=some (.ref t.a_b0)
 F_b6:Fun K "_law_whole" "_law_whole" b5k t.a_b6 t.d_b6
 b_b6:Binds K t.d_b6 ["_law_found"] []
 m_b6:mg "_law_whole"=some (.ref t.a_b6)
 F_b9:Fun K "_law_stream" "_law_stream" b4h t.a_b9 t.d_b9
 b_b9:Binds K t.d_b9 ["_law_cell","_law_many"] []
 m_b9:mg "_law_stream"=some (.ref t.a_b9)
 F_e5:Fun K "_law_same" "_law_same" b7n t.a_e5 t.d_e5
 b_e5:Binds K t.d_e5 ["_law_found","_law_due"] []
 m_e5:mg "_law_same"=some (.ref t.a_e5)
 F_f2:Fun K "_law_only_no_text" "_law_only_no_text" a7t t.a_f2 t.d_f2
 b_f2:Binds K t.d_f2 ["_law_e"] []
 m_f2:mg "_law_only_no_text"=some (.ref t.a_f2)
 F_c6:Fun K "_law_long" "_law_long" b4i t.a_c6 t.d_c6
 b_c6:Binds K t.d_c6 ["_law_cell","_law_head","_law_many"] []
 m_c6:mg "_law_long"=some (.ref t.a_c6)
 F_d7:Fun K "_law_named" "_law_named" b5l t.a_d7 t.d_d7
 b_d7:Binds K t.d_d7 ["_law_cell","_law_rest"] []
 m_d7:mg "_law_named"=some (.ref t.a_d7)
 F_d5:Fun K "_law_with_kids" "_law_with_kids" a5z t.a_d5 t.d_d5
 b_d5:Binds K t.d_d5 ["_law_cell"] []
 m_d5:mg "_law_with_kids"=some (.ref t.a_d5)
 F_e7:Fun K "_law_numbered" "_law_numbered" b1o t.a_e7 t.d_e7
 b_e7:Binds K t.d_e7 ["_law_cell","_law_rest"] []
 m_e7:mg "_law_numbered"=some (.ref t.a_e7)
 F_d8:Fun K "_law_row" "_law_row" b3l t.a_d8 t.d_d8
 b_d8:Binds K t.d_d8 ["_law_cell"] []
 m_d8:mg "_law_row"=some (.ref t.a_d8)
 F_f1:Fun K "_law_deep" "_law_deep" b7o t.a_f1 t.d_f1
 b_f1:Binds K t.d_f1 ["_law_cell"] []
 m_f1:mg "_law_deep"=some (.ref t.a_f1)
 F_b4:Fun K "_law_parts" "_law_parts" b5m t.a_b4 t.d_b4
 b_b4:Binds K t.d_b4 ["_law_term"] []
 m_b4:mg "_law_parts"=some (.ref t.a_b4)
 F_b7:Fun K "_law_read" "_law_read" b7p t.a_b7 t.d_b7
 b_b7:Binds K t.d_b7 ["_law_text","_law_table","_law_way"] []
 m_b7:mg "_law_read"=some (.ref t.a_b7)
 F_c1:Fun K "_law_meets" "_law_meets" b5n t.a_c1 t.d_c1
 b_c1:Binds K t.d_c1 ["_law_found","_law_dues","_law_good"] []
 m_c1:mg "_law_meets"=some (.ref t.a_c1)
 F_law:Fun K "law" "law" s_law t.a_law t.d_law
 b_law:Binds K t.d_law ["_law_script"] []
 m_law:mg "law"=some (.ref t.a_law)
 n_i5:mg "ValueError"=none
 n_i6:mg "all"=none
 n_i7:mg "bool"=none
 n_h7:mg "int"=none
 n_g9:mg "isinstance"=none
 n_g0:mg "len"=none
 n_g7:mg "range"=none
 n_i8:mg "reversed"=none
 n_i1:mg "str"=none
 n_h4:mg "tuple"=none
 m_g6:mg "BEHIND_ALL"=some (.ref t.c_g6)
 q_g6:∀H:Hp,SqT K H t.c_g6 [.str (ofString "end"),.str (ofString "")]
 m_h5:mg "MOST_PARTS"=some (.int 40 t.t_h5)
 m_g1:mg "EMPTY_LIST"=some (.ref t.c_g1)
 q_g1:∀H:Hp,SqT K H t.c_g1 [.str (ofString "app"),.str (ofString "[]"),.ref t.c_g1_2]
 q_g1_2:∀H:Hp,SqT K H t.c_g1_2 []
 m_g3:mg "CLOSERS"=some (.ref t.c_g3)
 e_g3:(t.c_g3==sysModules)=false
 m_i0:mg "PAIR_SIGN"=some (.str (ofString "[|]") t.t_i0)
 m_h1:mg "SMALL"=some (.str (ofString "abcdefghijklmnopqrstuvwxyz") t.t_h1)
 m_h2:mg "GREAT"=some (.str (ofString "ABCDEFGHIJKLMNOPQRSTUVWXYZ") t.t_h2)
 m_h8:mg "FIGURES"=some (.str (ofString "0123456789") t.t_h8)
 m_i2:mg "MOST_LETTERS"=some (.int 12 t.t_i2)
 m_i4:mg "SINGLE_SIGNS"=some (.str (ofString "()[],|") t.t_i4)
 m_h6:mg "MARK_SIGNS"=some (.str (ofString "+-*/:<=>&^?@#!;$") t.t_h6)
 m_h0:mg "BELOW_NOUGHT"=some (.str (ofString "~") t.t_h0)
 m_h9:mg "ARROW"=some (.str (ofString "<-") t.t_h9)
 m_i3:mg "MOST_FIGURES"=some (.int 30 t.t_i3)
 m_h3:mg "MOST_KIDS"=some (.int 4 t.t_h3)
theorem c6h:([Sum.inr (ofString "whole"),Sum.inr (ofString "round"),Sum.inr (ofString "kids"),Sum.inr (ofString "list"),Sum.inr (ofString "rest")]:List Key).Nodup:=by decide+kernel
def b0m(t:Ad):List (Key×V):=[(Sum.inr (ofString "whole"),.str (ofString "")),(Sum.inr (ofString "round"),.str (ofString ")")),(Sum.inr (ofString "kids"),.str (ofString ")")),(Sum.inr (ofString "list"),.str (ofString "]")),(Sum.inr (ofString "rest"),.str (ofString "]"))]
abbrev a3y:Str:=ofString "()[],|"
abbrev a1x:Str:=ofString "none"
abbrev a9t:Str:=ofString "left"
abbrev inn(c:Nat):Prop:=c∈a2p.cps.toList\/c∈a3e.cps.toList\/c∈figS.cps.toList
abbrev mkc(c:Nat):Prop:=c∈b8r.cps.toList
theorem b6f{y:Nat}(h:y∈figS.cps.toList):inn y:=.inr (.inr h)
theorem a8e{y:Nat}(h:y∈a2p.cps.toList):inn y:=.inl h
theorem b2j{y:Nat}(h:y∈a3e.cps.toList):inn y:=.inr (.inl h)
theorem d3p:∀x∈a2p.cps.toList,x≠60/\x≠126/\x≠32/\x∉a3y.cps.toList/\x∉b8r.cps.toList:=by decide+kernel
theorem c4l:∀x∈a3e.cps.toList,x≠60/\x≠126/\x≠32/\x∉a3y.cps.toList/\x∉b8r.cps.toList/\x∉a2p.cps.toList:=by decide+kernel
theorem d1k:∀x∈figS.cps.toList,x≠60/\x≠126/\x≠32/\x∉a3y.cps.toList/\x∉b8r.cps.toList/\x∉a2p.cps.toList/\x∉a3e.cps.toList:=by decide+kernel
theorem c7m:∀x∈b8r.cps.toList,¬inn x/\x≠126/\x≠32/\x∉a3y.cps.toList:=by decide+kernel
theorem b6g:∀{x:Nat},inn x->x≠60/\x≠126/\x≠32/\x∉a3y.cps.toList/\¬mkc x:=fun h=>by
 rcases h with h|h|h
 ·exact d3p _ h
 ·have:=c4l _ h;exact⟨this.1,this.2.1,this.2.2.1,this.2.2.2.1,this.2.2.2.2.1⟩
 ·have:=d1k _ h;exact⟨this.1,this.2.1,this.2.2.1,this.2.2.2.1,this.2.2.2.2.1⟩
theorem b6h{x y:Nat}(h:(⟨#[x]⟩:Str)=⟨#[y]⟩):x=y:=by
 have h:=Ys (fun s:Str=>s.cps.toList) h
 simpa using h
theorem bl_eq:ofString " "=⟨#[32]⟩:=by decide+kernel
theorem b8y:ofString "~"=⟨#[126]⟩:=by decide+kernel
theorem c2r:ofString "0"=⟨#[48]⟩:=by decide+kernel
theorem c4m{x y:List Nat}(h:(⟨x.toArray⟩:Str)=⟨y.toArray⟩):x=y:=by
 have h:=Ys (fun s:Str=>s.cps.toList) h
 simpa using h
theorem d1l{pre z r:List Nat}{j:Nat}(h:j<z.length):∃y∈z,atI (pre++z++r) ((pre.length+j:Nat):Int)=some y:=by
 refine⟨z[j],Vf h,a6v ?_⟩
 rw[Uu (by rw[Za];omega),Wf (by omega),U2,Zb h]
theorem d1m{pre z r:List Nat}{c:Nat}:atI (pre++z++c::r) ((pre.length+z.length:Nat):Int)=some c:=by
 refine a6v ?_
 rw[Wf (by rw[Za];omega),Za,U8]
 rfl
theorem at0{x:Nat}{r:List Nat}:atI (x::r) 0=some x:=c3v (pre:=[])
theorem in_t{c:Nat}{j:Str}(h:c∈j.cps.toList):inS ⟨#[c]⟩ j=true:=by rw[a3i];exact Zi h
theorem in_f{c:Nat}{j:Str}(h:c∉j.cps.toList):inS ⟨#[c]⟩ j=false:=by rw[a3i];exact Zg h
theorem c2t{b:Bool}{c d:Prop}(h:b=true)(k:c):if b=true then c else d:=by rw[if_pos h];exact k
theorem ite_f{b:Bool}{c d:Prop}(h:b=false)(k:d):if b=true then c else d:=by rw[if_neg (by rw[h];exact Zp)];exact k
abbrev a6f:Sp:=fun vs H Q _=>match vs with| [.str s]=>∃c,s=⟨#[c]⟩/\Q (.bl (decide (inn c))) H|_=>False
abbrev a9u:Sp:=fun vs H Q _=>match vs with| [.str s,.int i]=>∃pre z r:List Nat,s=⟨(pre++z++r).toArray⟩/\i=(pre.length:Int)/\(pre++z++r).length<=90000/\(∀y∈z,mkc y)/\(∀c,r.head? =some c->¬mkc c)/\Q (.str ⟨z.toArray⟩) H|_=>False
abbrev a8s:Sp:=fun vs H Q _=>match vs with| [.str s,.int i]=>∃pre z r:List Nat,s=⟨(pre++z++r).toArray⟩/\i=(pre.length:Int)/\(pre++z++r).length<=90000/\(∀y∈z,inn y)/\(∀c,r.head? =some c->¬inn c)/\Q (.str ⟨z.toArray⟩) H|_=>False
theorem c7n:∀x∈a3y.cps.toList,¬inn x/\x≠126/\x≠32/\¬mkc x:=by decide+kernel
theorem b8z:¬inn 126/\¬mkc 126/\126∉a3y.cps.toList:=by decide+kernel
def runP(c:Nat):Nat->Bool:=if mkc c then(fun d=>decide (mkc d))else if inn c\/c=126 then(fun d=>decide (inn d))else fun _=>false
theorem d1n{c:Nat}(h:mkc c):runP c=fun d=>decide (mkc d):=if_pos h
theorem c4n{c:Nat}(h:inn c):runP c=fun d=>decide (inn d):=by
 unfold runP
 rw[if_neg (b6g h).2.2.2.2,if_pos (.inl h)]
theorem d1o:runP 126=fun d=>decide (inn d):=by
 unfold runP
 rw[if_neg b8z.2.1,if_pos (.inr rfl)]
theorem c4o{c:Nat}(h1:¬mkc c)(h2:¬inn c)(h3:c≠126):runP c=fun _=>false:=by
 unfold runP
 rw[if_neg h1,if_neg (fun z=>z.elim h2 h3)]
def figB(d:Nat):Bool:=decide (d∈figS.cps.toList)
def a2s(z:List Nat):Bool:=decide (1<=z.length)&&(decide (z.length<=30)&&(z.all figB&&(decide (z=[48])||decide (z.head? ≠some 48))))
def kindOf:List Nat->Str
 | []=>a1x
 |c::r=>
  if c∈a3y.cps.toList then ofString "sign"
  else if mkc c then(if c::r=[60,45]then ofString "sign" else ofString "mark")
  else if c=126 then(if r=[48]\/a2s r=false then a1x else ofString "num")
  else if c∈a2p.cps.toList then ofString "word"
  else if c∈a3e.cps.toList then ofString "name"
  else if inn c/\a2s (c::r)=true then ofString "num" else a1x
theorem c1k{c:Nat}{r:List Nat}(h:c∈a3y.cps.toList):kindOf (c::r)=ofString "sign":=if_pos h
theorem d1p{c:Nat}{r:List Nat}(h:mkc c):kindOf (c::r)=if c::r=[60,45]then ofString "sign" else ofString "mark":=by
 rw[kindOf]
 rw[if_neg (c7m c h).2.2.2,if_pos h]
theorem b7r{r:List Nat}:kindOf (126::r)=if r=[48]\/a2s r=false then a1x else ofString "num":=by
 rw[kindOf]
 rw[if_neg b8z.2.2,if_neg b8z.2.1,if_pos rfl]
theorem b1s{c:Nat}{r:List Nat}(h:inn c):kindOf (c::r)=if c∈a2p.cps.toList then ofString "word" else if c∈a3e.cps.toList then ofString "name" else if a2s (c::r)=true then ofString "num" else a1x:=by
 have n:=b6g h
 rw[kindOf]
 rw[if_neg n.2.2.2.1,if_neg n.2.2.2.2,if_neg n.2.1]
 by_cases e:a2s (c::r)=true
 ·rw[if_pos (show inn c/\a2s (c::r)=true from⟨h,e⟩),if_pos e]
 ·rw[if_neg (show ¬(inn c/\a2s (c::r)=true)from fun z=>e z.2),if_neg e]
theorem d3q{c:Nat}{r:List Nat}(h1:¬mkc c)(h2:¬inn c)(h3:c≠126)(h4:c∉a3y.cps.toList):kindOf (c::r)=a1x:=by
 rw[kindOf]
 rw[if_neg h4,if_neg h1,if_neg h3,if_neg (fun z=>h2 (.inl z)),if_neg (fun z=>h2 (.inr (.inl z))),if_neg (fun z=>h2 z.1)]
def knB(z:List Nat):Bool:=decide (kindOf z=a1x)
theorem b1t:ofString "sign"≠a1x/\ofString "mark"≠a1x/\ofString "num"≠a1x/\ofString "word"≠a1x/\ofString "name"≠a1x:=by decide+kernel
theorem c4p{p:Nat->Bool}(r:List Nat):(r.dropWhile p).length<=r.length:=(Vl p).length_le
def bits:List Nat->List (List Nat)
 | []=>[]
 |c::r=>if c=32 then bits r else(c::r.takeWhile (runP c))::bits (r.dropWhile (runP c))
termination_by l=>l.length
decreasing_by
 ·simp
 ·have:=c4p (p:=runP c) r
  simp only[length_cons]
  omega
theorem a7u:bits []=[]:=by rw[bits]
theorem a4m{r:List Nat}:bits (32::r)=bits r:=by rw[bits,if_pos rfl]
theorem b1u{c:Nat}{r:List Nat}(h:c≠32):bits (c::r)=(c::r.takeWhile (runP c))::bits (r.dropWhile (runP c)):=by rw[bits,if_neg h]
def a2a(l:List Nat):Bool:=(bits l).all fun b=>!knB b
def pcD(k:Str)(z:List Nat):PyData:=.tuple [.str k,.str ⟨z.toArray⟩]
def pcB(z:List Nat):PyData:=pcD (kindOf z) z
theorem c0g{K:W.Frag}{H:Hp}{v:V}{k:Str}{z:List Nat}(h:Den K H v (pcD k z)):∃a,v=.ref a/\SqT K H a [.str k,.str ⟨z.toArray⟩]:=by
 unfold pcD at h
 cases h with
 |tup hs hl=>
  cases hl with
  |cons h1 hl=>
   cases hl with
   |cons h2 hl=>
    cases hl
    cases h1
    cases h2
    exact⟨_,rfl,hs⟩
theorem a8t{K:W.Frag}{H:Hp}{a:Addr}{k:Str}{z:List Nat}(h:SqT K H a [.str k,.str ⟨z.toArray⟩]):Den K H (.ref a) (pcD k z):=.tup h (.cons (.str _) (.cons (.str _) .nil))
theorem b9a{p:Nat->Bool}{r:List Nat}{y:Nat}(h:y∈r.takeWhile p):p y=true:=by
 induction r with
 |nil=>simp at h
 |cons a r ih=>
  rw[Xw]at h
  split at h
  ·rename_i e
   rcases Zj.mp h with z|z
   ·rw[z];exact e
   ·exact ih z
  ·simp at h
theorem c0h{p:Nat->Bool}{r:List Nat}{c:Nat}(h:(r.dropWhile p).head? =some c):p c=false:=by
 induction r with
 |nil=>simp at h
 |cons a r ih=>
  rw[Wz]at h
  split at h
  ·exact ih h
  ·rename_i e
   have:a=c:=by simpa using h
   rw[<-this]
   exact Ub.mpr e
theorem c2u(p:Nat->Bool)(r:List Nat):r.takeWhile p++r.dropWhile p=r:=List.takeWhile_append_dropWhile
theorem c2v(r:List Nat):r.takeWhile (fun _=>false)=[]/\r.dropWhile (fun _=>false)=r:=by cases r<;>exact⟨rfl,rfl⟩
def a1a(l:List Nat):Prop:=∀c∈l,c<200
def resK(K:W.Frag)(H:Hp)(C:Addr)(Q:VK)(E:XK)(k:Str)(z:List Nat):Bool->Prop
 |true=>onX H C E
 |false=>∀v H',Same H H'->Den K H' v (pcD k z)->Q v H'
def onG(K:W.Frag)(H:Hp)(C:Addr)(Q:VK)(E:XK)(ds:List PyData):Bool->Prop
 |true=>∀(a:Addr)(us:List V) H',H a=none->Same H H'->H' a=some (.lst us)->DenL K H' us ds->Q (.ref a) H'
 |false=>onX H C E
abbrev a7n(K:W.Frag):Sp:=fun vs H Q _=>match vs with| [.str s]=>∃z:List Nat,s=⟨z.toArray⟩/\∀v H',Same H H'->Den K H' v (pcD (if z=[60,45]then ofString "sign" else ofString "mark") z)->Q v H'|_=>False
abbrev a6q:Sp:=fun vs H Q _=>match vs with| [.str s]=>∃z:List Nat,s=⟨z.toArray⟩/\z.length<=3000/\∀H',Same H H'->Q (.bl (a2s z)) H'|_=>False
abbrev a6x(K:W.Frag)(C:Addr):Sp:=fun vs H Q E=>match vs with| [.str s]=>∃(c:Nat)(r:List Nat),s=⟨(c::r).toArray⟩/\inn c/\(c::r).length<=3000/\a1a (c::r)/\resK K H C Q E (kindOf (c::r)) (c::r) (knB (c::r))|_=>False
abbrev a3z(K:W.Frag)(C:Addr):Sp:=fun vs H Q E=>match vs with| [.str s]=>∃f:List Nat,s=⟨f.toArray⟩/\f.length<=3000/\resK K H C Q E (kindOf (126::f)) (126::f) (knB (126::f))|_=>False
abbrev a9v(K:W.Frag)(C:Addr):Sp:=fun vs H Q E=>match vs with| [.str s,.int i]=>∃(pre:List Nat)(c:Nat)(r:List Nat),s=⟨(pre++c::r).toArray⟩/\i=(pre.length:Int)/\(pre++c::r).length<=3000/\a1a (pre++c::r)/\resK K H C Q E (kindOf (c::r.takeWhile (runP c))) (c::r.takeWhile (runP c)) (knB (c::r.takeWhile (runP c)))|_=>False
abbrev a8f(K:W.Frag)(C:Addr):Sp:=fun vs H Q E=>match vs with| [.str s]=>∃l:List Nat,s=⟨l.toArray⟩/\l.length<=3000/\a1a l/\onG K H C Q E ((bits l).map pcB) (a2a l)|_=>False
theorem nil_or_snoc'{α:Type}(l:List α):l=[]\/∃r x,l=r++[x]:=by
 cases l.eq_nil_or_concat with
 |inl h=>exact .inl h
 |inr h=>obtain⟨r,x,h⟩:=h;exact .inr ⟨r,x,by simpa using h⟩
theorem dl_get{K:W.Frag}{H:Hp}{us:List V}{ts:List Trm}(h:DenL K H us (Trm.dataL ts)){i:Nat}(hi:i<us.length):∃(x:V)(t:Trm),us[i]? =some x/\ts[i]? =some t/\us.getD i .non=x/\Den K H x t.data:=by
 have hx:us[i]? =some us[i]:=Zb hi
 obtain⟨d,e1,e2⟩:=h.get hx
 rw[Trm.dataL_map,Yu]at e1
 cases q:ts[i]? with
 |none=>rw[q]at e1;cases e1
 |some t0=>
  rw[q]at e1
  have e1:t0.data=d:=Zq e1
  subst e1
  exact⟨us[i],t0,hx,rfl,by rw[Z3,hx];rfl,e2⟩
theorem b1v{K:W.Frag}{H:Hp}{us:List V}{ts:List Trm}(h:DenL K H us (Trm.dataL ts)):us.length=ts.length:=by rw[h.length,Trm.dataL_map,length_map]
theorem d3r{α:Type}{ts:List α}{i:Nat}{tk:α}(hi:i<ts.length)(e:ts[ts.length-1-i]? =some tk):ts.drop (ts.length-(i+1))=tk::ts.drop (ts.length-i):=by
 have h1:ts.length-(i+1)=ts.length-1-i:=by omega
 have h2:ts.length-i=(ts.length-1-i)+1:=by omega
 rw[h1,h2]
 obtain⟨hk,e⟩:=Y0.mp e
 rw[W8 hk,e]
theorem b9b{x:Str}(h:decide (x=appS)=false){A B:Prop}(k:B):if(false^^decide (x=appS))=true then A else B:=by rw[Zt,h];exact iteF k
theorem c7o{x:Str}(h:decide (x=appS)=true){A B:Prop}(k:A):if(false^^decide (x=appS))=true then A else B:=by rw[Zt,h];exact iteT k
theorem d1:decide (numS=appS)=false:=by decide+kernel
theorem d2:decide (anyS=appS)=false:=by decide+kernel
theorem d3:decide (appS=appS)=true:=by decide+kernel
theorem a2b{α:Type}(l:List α):l=[]\/∃r x,l=r++[x]:=nil_or_snoc' l
def Cal(fs z:List Nat):Prop:=∃x r,z=x::r/\x∈fs/\r.length<=2000/\∀y∈r,inn y
abbrev a6r:Sp:=fun vs H Q _=>match vs with| [.str s,.str f]=>∃z:List Nat,s=⟨z.toArray⟩/\Cal f.cps.toList z/\(∀y∈f.cps.toList,inn y)/\∀H',Same H H'->Q (.bl (decide (z.length<=12))) H'|_=>False
abbrev b0n:Sp:=fun vs H Q _=>match vs with| [.str s]=>∃z:List Nat,s=⟨z.toArray⟩/\Cal a2p.cps.toList z/\∀H',Same H H'->Q (.bl (decide (z.length<=12))) H'|_=>False
abbrev b0o:Sp:=fun vs H Q _=>match vs with| [.str s]=>∃z:List Nat,s=⟨z.toArray⟩/\Cal a3e.cps.toList z/\∀H',Same H H'->Q (.bl (decide (z.length<=12))) H'|_=>False
def resC(H:Hp)(B:Addr)(Q:VK)(E:XK)(s:Str):Bool->Prop
 |true=>∀H',Same H H'->Q (.str s) H'
 |false=>onX H B E
abbrev a5b(B:Addr):Sp:=fun vs H Q E=>match vs with| [.str s]=>∃z:List Nat,s=⟨z.toArray⟩/\Cal a2p.cps.toList z/\resC H B Q E s (decide (z.length<=12))|_=>False
abbrev a6j(B:Addr):Sp:=fun vs H Q E=>match vs with| [.str s]=>∃z:List Nat,s=⟨z.toArray⟩/\Cal a3e.cps.toList z/\resC H B Q E s (decide (z.length<=12))|_=>False
def valD(z:List Nat):Nat:=z.foldl (fun n d=>10*n+(d-48)) 0
def NumZ(z:List Nat):Prop:=∃x r,z=x::r/\(∀y∈z,y∈figS.cps.toList)/\(r=[]\/x≠48)
theorem c0i:∀y∈figS.cps.toList,48<=y/\y<=57:=by decide+kernel
theorem d1q(z:List Nat)(d:Nat):valD (z++[d])=10*valD z+(d-48):=by unfold valD;rw[List.foldl_append];rfl
theorem c7p:∀(z:List Nat)(a:Nat),(∀y∈z,y∈figS.cps.toList)->z.foldl (fun n d=>10*n+(d-48)) a<(a+1)*10^z.length
 | [],a,_=>by simp
 |d::r,a,h=>by
  have h1:=c0i d (h d (by simp))
  have h2:=c7p r (10*a+(d-48)) (fun y hy=>h y (by simp[hy]))
  rw[Vq,length_cons,Nat.pow_succ]
  have:(10*a+(d-48)+1)*10^r.length<=(a+1)*(10^r.length*10):=by
   rw[Nat.mul_comm (10^r.length) 10,<-Nat.mul_assoc]
   exact Nat.mul_le_mul_right _ (by omega)
  omega
theorem c7q{z:List Nat}(h:∀y∈z,y∈figS.cps.toList):valD z<10^z.length:=by have:=c7p z 0 h;simpa[valD]using this
theorem b4j:∀(n:Nat)(z:List Nat),z.length=n->NumZ z->a1i (valD z)=z/\(z=[48]\/0<valD z):=by
 intro n
 induction n with
 |zero=>
  intro z h k
  obtain⟨x,r,rfl,_⟩:=k
  simp at h
 |succ n ih=>
  intro z hl ⟨x,r,e,hf,hx⟩
  rcases a2b r with hr|⟨r',d,hr⟩
  ·subst hr
   subst e
   have:=c0i x (hf x (by simp))
   have hv:valD [x]=x-48:=by simp[valD]
   rw[hv]
   refine⟨by rw[a9e (by omega)];congr 1;omega,?_⟩
   by_cases z:x=48
   ·exact .inl (by rw[z])
   ·exact .inr (by omega)
  ·have ez:z=(x::r')++[d]:=by rw[e,hr];rfl
   have h0:x≠48:=by
    rcases hx with hx|hx
    ·rw[hr]at hx;simp at hx
    ·exact hx
   obtain⟨i1,i2⟩:=ih (x::r') (by rw[ez]at hl;simpa using hl) ⟨x,r',rfl,fun y hy=>hf y (by rw[ez];exact Xr _ hy),.inr h0⟩
   have hd:=c0i d (hf d (by rw[ez];simp))
   have i2:0<valD (x::r'):=by
    rcases i2 with i2|i2
    ·exact absurd (Vb i2).1 h0
    ·exact i2
   rw[ez,d1q,b0z (by omega),show(10*valD (x::r')+(d-48))/10=valD (x::r') by omega,i1,show 48+(10*valD (x::r')+(d-48))%10=d by omega]
   exact⟨rfl,.inr (by omega)⟩
theorem d1r{z:List Nat}(h:a2s z=true):NumZ z/\z.length<=30:=by
 unfold a2s at h
 simp only[Xf,decide_eq_true_eq,Um,Xe]at h
 obtain⟨h1,h2,h3,h4⟩:=h
 cases z with
 |nil=>simp at h1
 |cons x r=>
  refine⟨⟨x,r,rfl,fun y hy=>Zm (h3 y hy),?_⟩,h2⟩
  rcases h4 with h4|h4
  ·exact .inl (Vb h4).2
  ·exact .inr (by simpa using h4)
abbrev a8u:Sp:=fun vs H Q _=>match vs with| [.str s]=>∃n:Nat,n<10^30/\((s=⟨(a1i n).toArray⟩/\Q (.int (n:Int)) H)\/(s=⟨(126::a1i n).toArray⟩/\Q (.int (-(n:Int))) H))|_=>False
abbrev b9c(K:W.Frag):Sp:=fun vs H Q _=>match vs with| [.int n]=>∀(v:V)(H':Hp),Same H H'->Den K H' v (Trm.num n).data->Q v H'|_=>False
abbrev b0p(K:W.Frag):Sp:=fun vs H Q _=>match vs with| [.str x]=>∀(v:V)(H':Hp),Same H H'->Den K H' v (Trm.any x).data->Q v H'|_=>False
abbrev b1w(K:W.Frag):Sp:=fun vs H Q _=>match vs with| [.str s,.ref p]=>∃(us:List V)(ts:List Trm),SqL K H p us/\DenL K H us (Trm.dataL ts)/\ts.length<=1000/\∀(v:V)(H':Hp),Same H H'->Den K H' v (Trm.app s ts).data->Q v H'|_=>False
abbrev a3f:Trm:=.app (ofString "[]") []
abbrev b0q(K:W.Frag):Sp:=fun vs H Q _=>match vs with| [.ref p,v]=>∃(us:List V)(ts:List Trm)(r:Trm),SqL K H p us/\DenL K H us (Trm.dataL ts)/\ts.length<=1000/\Den K H v r.data/\∀(v':V)(H':Hp),Same H H'->Den K H' v' (mkL ts r).data->Q v' H'|_=>False
abbrev b4k(K:W.Frag):Sp:=fun vs H Q _=>match vs with| [v]=>∃t:Trm,Den K H v t.data/\t.size<=1000/\∀H',Same H H'->Q (.int t.size) H'|_=>False
abbrev onB(H0:Hp)(B:Addr)(E:XK):Prop:=onX H0 B E
abbrev Pc:=List Nat
def valZ:List Nat->Int
 | []=>0
 |c::r=>if c=126 then -(valD r:Int)else(valD (c::r):Int)
def thgZ(z:Pc):Option Trm:=
 if kindOf z=ofString "num" then some (.num (valZ z))
 else if kindOf z=ofString "name" then(if z.length<=12 then some (.any ⟨z.toArray⟩)else none)
 else if kindOf z=ofString "word" then(if z.length<=12 then some (.app ⟨z.toArray⟩ [])else none)
 else none
def Pok(z:Pc):Prop:=∃c r,z=c::r/\(c::r).length<=900/\a1a (c::r)/\(inn c->∀y∈r,inn y)
def resTh(K:W.Frag)(H:Hp)(B:Addr)(Q:VK)(E:XK):Option Trm->Prop
 |some t=>∀(v':V)(H':Hp),Same H H'->Den K H' v' t.data->Q v' H'
 |none=>onX H B E
abbrev a9w(K:W.Frag)(B:Addr):Sp:=fun vs H Q E=>match vs with| [v]=>(∃z:Pc,Den K H v (pcB z)/\Pok z/\resTh K H B Q E (thgZ z))\/(∃a:Addr,v=.ref a/\SqT K H a [.str (ofString "end"),.str (ofString "")]/\onX H B E)|_=>False
abbrev Sg:=Int×Str
abbrev Tb:=List (Str×Sg)
def lkT:Tb->Str->Option Sg
 | [],_=>none
 |r::tb,x=>if r.1=x then some r.2 else lkT tb x
inductive TR(K:W.Frag)(H:Hp):List (Key×V)->Tb->Prop where
 |nil:TR K H [] []
 |cons {x:Str} {a:Addr} {g:Sg} {kvs:List (Key×V)} {tb:Tb}:SqT K H a [.int g.1,.str g.2]->TR K H kvs tb->TR K H ((Sum.inr x,.ref a)::kvs) ((x,g)::tb)
theorem TR.monoT{K:W.Frag}{H H':Hp}{kvs:List (Key×V)}{tb:Tb}(h:TR K H kvs tb)(ht:∀a xs,SqT K H a xs->SqT K H' a xs):TR K H' kvs tb:=by
 induction h with
 |nil=>exact .nil
 |cons d _ ih=>exact .cons (ht _ _ d) ih
theorem TR.val{K:W.Frag}{H:Hp}{kvs:List (Key×V)}{tb:Tb}(h:TR K H kvs tb)(x:Str):(valV kvs (Sum.inr x)=none/\lkT tb x=none)\/∃a g,valV kvs (Sum.inr x)=some (.ref a)/\lkT tb x=some g/\SqT K H a [.int g.1,.str g.2]:=by
 induction h with
 |nil=>exact .inl ⟨rfl,rfl⟩
 | @cons y a g kvs tb d _ ih=>
  by_cases e:y=x
  ·exact .inr ⟨a,g,b3z (by rw[e]),by rw[lkT,if_pos e],d⟩
  ·rw[b1d (fun z=>e (Sum.inr.inj z)),lkT,if_neg e];exact ih
def bf(e l:Sg):Option Bool:=if e.1=l.1 then(if l.2=a1x then none else some (decide (l.2=a9t)))else some (decide (e.1<l.1))
def resB(H:Hp)(C:Addr)(Q:VK)(E:XK):Option Bool->Prop
 |some b=>∀H',Same H H'->Q (.bl b) H'
 |none=>onX H C E
abbrev a6y(K:W.Frag)(C:Addr):Sp:=fun vs H Q E=>match vs with| [.ref a,.ref b]=>∃e l:Sg,SqT K H a [.int e.1,.str e.2]/\SqT K H b [.int l.1,.str l.2]/\resB H C Q E (bf e l)|_=>False
structure Lv where
 kind:Str
 word:Str
 done:List Trm
 sides:List Trm
 wait:List Str
abbrev a1o:Str:=ofString "kind"
abbrev a2e:Str:=ofString "word"
abbrev a3g:Str:=ofString "done"
abbrev a4r:Str:=ofString "sides"
abbrev b4l:Str:=ofString "waiting"
structure Fp where
 l:Addr
 da:Addr
 sa:Addr
 wa:Addr
def fsL(k w:Str)(f:Fp):List (Str×V):=[(a1o,.str k),(a2e,.str w),(a3g,.ref f.da),(a4r,.ref f.sa),(b4l,.ref f.wa)]
theorem a9l(k w:Str)(f:Fp):(fsL k w f).lookup (ofString "kind")=some (.str k):=by
 simp only[fsL,List.lookup,show(ofString "kind"==a1o)=true by decide+kernel]
theorem fl_word(k w:Str)(f:Fp):(fsL k w f).lookup (ofString "word")=some (.str w):=by
 simp only[fsL,List.lookup,show(ofString "word"==a1o)=false by decide+kernel,show(ofString "word"==a2e)=true by decide+kernel]
theorem a6z(k w:Str)(f:Fp):(fsL k w f).lookup (ofString "done")=some (.ref f.da):=by
 simp only[fsL,List.lookup,show(ofString "done"==a1o)=false by decide+kernel,show(ofString "done"==a2e)=false by decide+kernel,show(ofString "done"==a3g)=true by decide+kernel]
theorem a9m(k w:Str)(f:Fp):(fsL k w f).lookup (ofString "sides")=some (.ref f.sa):=by
 simp only[fsL,List.lookup,show(ofString "sides"==a1o)=false by decide+kernel,show(ofString "sides"==a2e)=false by decide+kernel,show(ofString "sides"==a3g)=false by decide+kernel,show(ofString "sides"==a4r)=true by decide+kernel]
theorem a7a(k w:Str)(f:Fp):(fsL k w f).lookup (ofString "waiting")=some (.ref f.wa):=by
 simp only[fsL,List.lookup,show(ofString "waiting"==a1o)=false by decide+kernel,show(ofString "waiting"==a2e)=false by decide+kernel,show(ofString "waiting"==a3g)=false by decide+kernel,show(ofString "waiting"==a4r)=false by decide+kernel,show(ofString "waiting"==b4l)=true by decide+kernel]
structure LvAt(K:W.Frag)(C:Addr)(H:Hp)(f:Fp)(lv:Lv):Prop where
 ob:∃dx,H f.l=some (.ins C dx (fsL lv.kind lv.word f))
 dn:∃us,H f.da=some (.lst us)/\DenL K H us (Trm.dataL lv.done)
 sd:∃us,H f.sa=some (.lst us)/\DenL K H us (Trm.dataL lv.sides)
 wt:H f.wa=some (.lst (lv.wait.map V.str))
 n1:f.da≠f.sa
 n2:f.da≠f.wa
 n3:f.sa≠f.wa
def Fp.all(f:Fp):List Addr:=[f.l,f.da,f.sa,f.wa]
def LF(f:Fp)(H H':Hp):Prop:=∀b o,b∉f.all->H b=some o->H' b=some o
theorem LF.refl(f:Fp)(H:Hp):LF f H H:=fun _ _ _ e=>e
theorem LF.trans{f:Fp}{H H1 H2:Hp}(a:LF f H H1)(b:LF f H1 H2):LF f H H2:=fun c o h e=>b c o h (a c o h e)
theorem LF.of{f:Fp}{H H':Hp}(s:Same H H'):LF f H H':=fun b o _ e=>s b o e
section
variable{K:W.Frag}{C:Addr}{H H':Hp}{f:Fp}{lv:Lv}
theorem LvAt.same(w:LvAt K C H f lv)(s:Same H H'):LvAt K C H' f lv:=by
 obtain⟨⟨dx,h1⟩,⟨us,h2,h3⟩,⟨vs,h4,h5⟩,h6,n1,n2,n3⟩:=w
 exact⟨⟨dx,s _ _ h1⟩,⟨us,s _ _ h2,h3.mono s⟩,⟨vs,s _ _ h4,h5.mono s⟩,s _ _ h6,n1,n2,n3⟩
theorem LvAt.tup(w:LvAt K C H f lv)(g:LF f H H'):∀a xs,SqT K H a xs->SqT K H' a xs:=fun a xs q=>by
 obtain⟨dx,h1⟩:=w.ob
 obtain⟨us,h2,_⟩:=w.dn
 obtain⟨vs,h3,_⟩:=w.sd
 have h4:=w.wt
 have key:∀o,H a=some o->(∀c d fs,o≠.ins c d fs)->(∀ys,o≠.lst ys)->a∉f.all:=fun o e i1 i2 m=>by
  simp only[Fp.all,Zj,Zy,Y5]at m
  rcases m with m|m|m|m
  ·rw[m,h1]at e;exact i1 _ _ _ (Zq e).symm
  ·rw[m,h2]at e;exact i2 _ (Zq e).symm
  ·rw[m,h3]at e;exact i2 _ (Zq e).symm
  ·rw[m,h4]at e;exact i2 _ (Zq e).symm
 rcases q with(q|⟨o,q⟩)|q
 ·exact .inl (.inl (g _ _ (key _ q (fun _ _ _ z=>by cases z) (fun _ z=>by cases z)) q))
 ·exact .inl (.inr ⟨o,g _ _ (key _ q (fun _ _ _ z=>by cases z) (fun _ z=>by cases z)) q⟩)
 ·exact .inr q
theorem LvAt.setS(w:LvAt K C H f lv){us:List V}{ts:List Trm}(d:DenL K H us (Trm.dataL ts)):LvAt K C (upd H f.sa (.lst us)) f { lv with sides:=ts}/\LF f H (upd H f.sa (.lst us)):=by
 have g:LF f H (upd H f.sa (.lst us)):=fun b o hb e=>by rw[a0j (fun z=>hb (by rw[z];simp[Fp.all]))];exact e
 have t:=w.tup g
 obtain⟨⟨dx,h1⟩,⟨vs,h2,h3⟩,⟨ws,h4,h5⟩,h6,n1,n2,n3⟩:=w
 exact⟨⟨⟨dx,by rw[a0j (fun z=>by rw[z,h4]at h1;cases h1)];exact h1⟩,⟨vs,by rw[a0j n1];exact h2,h3.monoT t⟩,⟨us,a0b,d.monoT t⟩,by rw[a0j (Ne.symm n3)];exact h6,n1,n2,n3⟩,g⟩
theorem LvAt.setD(w:LvAt K C H f lv){us:List V}{ts:List Trm}(d:DenL K H us (Trm.dataL ts)):LvAt K C (upd H f.da (.lst us)) f { lv with done:=ts}/\LF f H (upd H f.da (.lst us)):=by
 have g:LF f H (upd H f.da (.lst us)):=fun b o hb e=>by rw[a0j (fun z=>hb (by rw[z];simp[Fp.all]))];exact e
 have t:=w.tup g
 obtain⟨⟨dx,h1⟩,⟨vs,h2,h3⟩,⟨ws,h4,h5⟩,h6,n1,n2,n3⟩:=w
 exact⟨⟨⟨dx,by rw[a0j (fun z=>by rw[z,h2]at h1;cases h1)];exact h1⟩,⟨us,a0b,d.monoT t⟩,⟨ws,by rw[a0j (Ne.symm n1)];exact h4,h5.monoT t⟩,by rw[a0j (Ne.symm n2)];exact h6,n1,n2,n3⟩,g⟩
theorem LvAt.setW(w:LvAt K C H f lv){ms:List Str}:LvAt K C (upd H f.wa (.lst (ms.map V.str))) f { lv with wait:=ms}/\LF f H (upd H f.wa (.lst (ms.map V.str))):=by
 have g:LF f H (upd H f.wa (.lst (ms.map V.str))):=fun b o hb e=>by rw[a0j (fun z=>hb (by rw[z];simp[Fp.all]))];exact e
 have t:=w.tup g
 obtain⟨⟨dx,h1⟩,⟨vs,h2,h3⟩,⟨ws,h4,h5⟩,h6,n1,n2,n3⟩:=w
 exact⟨⟨⟨dx,by rw[a0j (fun z=>by rw[z,h6]at h1;cases h1)];exact h1⟩,⟨vs,by rw[a0j n2];exact h2,h3.monoT t⟩,⟨ws,by rw[a0j n3];exact h4,h5.monoT t⟩,a0b,n1,n2,n3⟩,g⟩
end
def jn:List Trm->List Str->List Trm
 |b::a::r,m::ws=>jn (.app m [a,b]::r) ws
 |r,_=>r
def addM(tb:Tb)(m:Str)(g:Sg):List Trm->List Str->Option (List Trm×List Str)
 |b::a::r,w::ws=>match bf ((lkT tb w).getD (0,a1x)) g with
  |none=>none
  |some true=>addM tb m g (.app w [a,b]::r) ws
  |some false=>some (b::a::r,m::w::ws)
 |r,ws=>some (r,m::ws)
abbrev a6a(K:W.Frag)(C:Addr):Sp:=fun vs H Q _=>match vs with| [.ref l,.str k,.str w]=>∃dx,H l=some (.ins C dx [])/\∀(f:Fp)(H':Hp),f.l=l->LvAt K C H' f ⟨k,w,[],[],[]⟩->(∀b o,b≠l->H b=some o->H' b=some o)->H f.da=none->H f.sa=none->H f.wa=none->Q .non H'|_=>False
abbrev a6s(K:W.Frag)(C:Addr):Sp:=fun vs H Q _=>match vs with| [.ref l]=>∃(f:Fp)(lv:Lv)(ss:List Trm)(a b:Trm)(ms:List Str)(m:Str),f.l=l/\LvAt K C H f lv/\lv.sides=ss++[a,b]/\lv.wait=ms++[m]/\ss.length<=1000/\∀H',LF f H H'->LvAt K C H' f { lv with sides:=ss++[.app m [a,b]],wait:=ms}->Q .non H'|_=>False
abbrev a8g(K:W.Frag)(C:Addr):Sp:=fun vs H Q _=>match vs with| [.ref l]=>∃(f:Fp)(lv:Lv),f.l=l/\LvAt K C H f lv/\lv.sides.length=lv.wait.length+1/\lv.wait.length<=500/\lv.done.length<=500/\∀(x:Trm) H',jn lv.sides.reverse lv.wait.reverse=[x]->LF f H H'->LvAt K C H' f { lv with done:=lv.done++[x],sides:=[],wait:=[]}->Q .non H'|_=>False
def resM(K:W.Frag)(H:Hp)(C B:Addr)(Q:VK)(E:XK)(f:Fp)(lv:Lv):Option (List Trm×List Str)->Prop
 |some r=>∀H',LF f H H'->LvAt K C H' f { lv with sides:=r.1.reverse,wait:=r.2.reverse}->Q .non H'
 |none=>∀ea H',LF f H H'->IsX H' ea B [(rowS,.int 0)]->E (.ref B) (some ea) H'
abbrev a9x(K:W.Frag)(C B:Addr):Sp:=fun vs H Q E=>match vs with| [.ref l,.str m,.ref d]=>∃(f:Fp)(lv:Lv)(kvs:List (Key×V))(tb:Tb)(g:Sg),f.l=l/\LvAt K C H f lv/\H d=some (.dK kvs)/\TR K H kvs tb/\lkT tb m=some g/\(∀w∈lv.wait,(lkT tb w).isSome=true)/\lv.sides.length=lv.wait.length+1/\lv.wait.length<=500/\resM K H C B Q E f lv (addM tb m g lv.sides.reverse lv.wait.reverse)|_=>False
abbrev b3n(K:W.Frag):Sp:=fun vs H Q _=>match vs with| [.ref a]=>∃ns:List Int,SqL K H a (ns.map V.int)/\ns.length<=63/\∀H',Q (.bl true) H'|_=>False
noncomputable def cO(n q:Str)(a b c:Tok)(l m f:Int)(r:Addr)(x:Int)(s:Addr)(v w:Value)(u:Addr)(y:Int)(d:Tok):Obj:=.mk (.type "code") none (.fields (List.toArray ((.str n a)::(.str q b)::(.str "/claim/cut.py" c)::(.int l 0)::(.int m 0)::(.int 0 0)::(.int 0 0)::(.int f 0)::(.ref r)::(.bool true)::(.int x 0)::(.ref s)::.none::v::w::(.ref u)::(.int y 0)::(.int l 0)::(.str "/claim/cut.py" d)::[]))) #[]
noncomputable def fO(n q:Str)(s:Stmt)(m:Value)(c:Addr):Obj:=.mk (.type "function") none (.func (W.fnOf n q (a7w s) (a4u s) (a0i s) .none .none .none m none (.ref c) .none)) #[]
def kb2(P:Params):Obj:=.mk .none none (.dict #[] 0) #[]
def kb3(P:Params):Obj:=.mk (.type "dict") none (.dict (List.toArray ((.mk (keyHash P "__name__") (.str "__name__" 165) (.str "law_goaltrail_k14_how_much_is_read" 727))::(.mk (keyHash P "__doc__") (.str "__doc__" 166) .none)::(.mk (keyHash P "__package__") (.str "__package__" 167) .none)::(.mk (keyHash P "__loader__") (.str "__loader__" 168) (.builtin "__main__.__loader__#opaque"))::(.mk (keyHash P "__spec__") (.str "__spec__" 169) .none)::(.mk (keyHash P "__annotations__") (.str "__annotations__" 170) (.ref 6))::(.mk (keyHash P "__builtins__") (.str "__builtins__" 171) (.ref 4))::(.mk (keyHash P "__file__") (.str "__file__" 173) (.str "/claim/cut.py" 172))::(.mk (keyHash P "__cached__") (.str "__cached__" 174) .none)::(.mk (keyHash P "TrailError") (.str "TrailError" 217) (.ref 32))::(.mk (keyHash P "NoText") (.str "NoText" 233) (.ref 45))::(.mk (keyHash P "NoSign") (.str "NoSign" 249) (.ref 57))::(.mk (keyHash P "NoRule") (.str "NoRule" 265) (.ref 69))::(.mk (keyHash P "Big") (.str "Big" 281) (.ref 81))::(.mk (keyHash P "SMALL") (.str "SMALL" 285) (.str "abcdefghijklmnopqrstuvwxyz" 284))::(.mk (keyHash P "GREAT") (.str "GREAT" 287) (.str "ABCDEFGHIJKLMNOPQRSTUVWXYZ" 286))::(.mk (keyHash P "FIGURES") (.str "FIGURES" 289) (.str "0123456789" 288))::(.mk (keyHash P "MARK_SIGNS") (.str "MARK_SIGNS" 291) (.str "+-*/:<=>&^?@#!;$" 290))::(.mk (keyHash P "ARROW") (.str "ARROW" 293) (.str "<-" 292))::(.mk (keyHash P "PAIR_SIGN") (.str "PAIR_SIGN" 295) (.str "[|]" 294))::(.mk (keyHash P "EMPTY_LIST") (.str "EMPTY_LIST" 298) (.ref 85))::(.mk (keyHash P "MOST_LETTERS") (.str "MOST_LETTERS" 300) (.int 12 299))::(.mk (keyHash P "MOST_PARTS") (.str "MOST_PARTS" 302) (.int 40 301))::(.mk (keyHash P "num") (.str "num" 309) (.ref 92))::(.mk (keyHash P "unknown") (.str "unknown" 316) (.ref 99))::(.mk (keyHash P "app") (.str "app" 324) (.ref 106))::(.mk (keyHash P "list_of") (.str "list_of" 334) (.ref 113))::(.mk (keyHash P "parts") (.str "parts" 344) (.ref 120))::(.mk (keyHash P "is_inner") (.str "is_inner" 351) (.ref 127))::(.mk (keyHash P "is_called") (.str "is_called" 357) (.ref 132))::(.mk (keyHash P "is_word") (.str "is_word" 364) (.ref 139))::(.mk (keyHash P "is_name") (.str "is_name" 371) (.ref 146))::(.mk (keyHash P "SINGLE_SIGNS") (.str "SINGLE_SIGNS" 375) (.str "()[],|" 374))::(.mk (keyHash P "BELOW_NOUGHT") (.str "BELOW_NOUGHT" 377) (.str "~" 376))::(.mk (keyHash P "MOST_FIGURES") (.str "MOST_FIGURES" 379) (.int 30 378))::(.mk (keyHash P "pieces") (.str "pieces" 389) (.ref 153))::(.mk (keyHash P "piece_at") (.str "piece_at" 398) (.ref 160))::(.mk (keyHash P "mark_run") (.str "mark_run" 407) (.ref 167))::(.mk (keyHash P "inner_run") (.str "inner_run" 416) (.ref 174))::(.mk (keyHash P "mark_piece") (.str "mark_piece" 423) (.ref 181))::(.mk (keyHash P "inner_piece") (.str "inner_piece" 430) (.ref 188))::(.mk (keyHash P "below_nought_piece") (.str "below_nought_piece" 437) (.ref 195))::(.mk (keyHash P "is_number") (.str "is_number" 443) (.ref 200))::(.mk (keyHash P "MOST_KIDS") (.str "MOST_KIDS" 447) (.int 4 446))::(.mk (keyHash P "BEHIND_ALL") (.str "BEHIND_ALL" 450) (.ref 201))::(.mk (keyHash P "CLOSERS") (.str "CLOSERS" 466) (.ref 202))::(.mk (keyHash P "Level") (.str "Level" 500) (.ref 219))::(.mk (keyHash P "Reading") (.str "Reading" 627) (.ref 317))::(.mk (keyHash P "checked_word") (.str "checked_word" 634) (.ref 328))::(.mk (keyHash P "checked_name") (.str "checked_name" 641) (.ref 335))::(.mk (keyHash P "number_of") (.str "number_of" 648) (.ref 342))::(.mk (keyHash P "thing_of") (.str "thing_of" 655) (.ref 349))::(.mk (keyHash P "add_mark") (.str "add_mark" 664) (.ref 356))::(.mk (keyHash P "binds_first") (.str "binds_first" 672) (.ref 363))::(.mk (keyHash P "join_last") (.str "join_last" 681) (.ref 370))::(.mk (keyHash P "finish") (.str "finish" 688) (.ref 377))::(.mk (keyHash P "closed") (.str "closed" 695) (.ref 384))::(.mk (keyHash P "read") (.str "read" 705) (.ref 391))::(.mk (keyHash P "read_rule") (.str "read_rule" 716) (.ref 398))::(.mk (keyHash P "read_goals") (.str "read_goals" 726) (.ref 405))::(.mk (keyHash P "_law_cell_at") (.str "_law_cell_at" 736) (.ref 412))::(.mk (keyHash P "_law_whole") (.str "_law_whole" 743) (.ref 419))::(.mk (keyHash P "_law_stream") (.str "_law_stream" 754) (.ref 426))::(.mk (keyHash P "_law_same") (.str "_law_same" 767) (.ref 433))::(.mk (keyHash P "_law_only_no_text") (.str "_law_only_no_text" 774) (.ref 440))::(.mk (keyHash P "_law_long") (.str "_law_long" 780) (.ref 445))::(.mk (keyHash P "_law_named") (.str "_law_named" 791) (.ref 452))::(.mk (keyHash P "_law_with_kids") (.str "_law_with_kids" 797) (.ref 457))::(.mk (keyHash P "_law_numbered") (.str "_law_numbered" 809) (.ref 464))::(.mk (keyHash P "_law_row") (.str "_law_row" 815) (.ref 469))::(.mk (keyHash P "_law_deep") (.str "_law_deep" 825) (.ref 476))::(.mk (keyHash P "_law_parts") (.str "_law_parts" 834) (.ref 483))::(.mk (keyHash P "_law_read") (.str "_law_read" 846) (.ref 490))::(.mk (keyHash P "_law_meets") (.str "_law_meets" 856) (.ref 497))::(.mk (keyHash P "law") (.str "law" 871) (.ref 504))::[])) 75) #[]
def kb22(P:Params):Obj:=.mk (.type "tuple") none (.seq #[(.int 0 201)] 0) #[]
def kb29(P:Params):Obj:=.mk (.type "function") none (.func (W.fnOf "__init__" "TrailError.__init__" (a7w a4j) (a4u a4j) (a0i a4j) (.ref 22) .none .none (.str "goaltrail.errors" 187) none (.ref 28) .none)) #[]
def kb31(P:Params):Obj:=.mk (.type "dict") none (.dict (List.toArray ((.mk (keyHash P "__module__") (.str "__module__" 196) (.str "goaltrail.errors" 187))::(.mk (keyHash P "__firstlineno__") (.str "__firstlineno__" 200) (.int 2 199))::(.mk (keyHash P "__init__") (.str "__init__" 210) (.ref 29))::(.mk (keyHash P "__static_attributes__") (.str "__static_attributes__" 212) (.ref 30))::(.mk (keyHash P "__weakref__") (.str "__weakref__" 214) (.ref 33))::(.mk (keyHash P "__doc__") (.str "__doc__" 215) .none)::[])) 3) #[]
def kb32(P:Params):Obj:=.mk (.type "type") none (.cls (.mk "TrailError" [(.type "ValueError")] [(.ref 32),(.type "ValueError"),(.type "Exception"),(.type "BaseException"),(.type "object")] 31 "TrailError" Bool.true [] [(.ref 45),(.ref 57),(.ref 69),(.ref 81)] Bool.false none Bool.false)) (List.toArray ((some (.ref 15))::none::(some (.str "TrailError" 189))::(some (.str "TrailError" 197))::(some (.builtin "ValueError.__new__"))::(some (.bool true))::[]))
def kb44(P:Params):Obj:=.mk (.type "dict") none (.dict #[(.mk (keyHash P "__module__") (.str "__module__" 225) (.str "goaltrail.errors" 187)),(.mk (keyHash P "__firstlineno__") (.str "__firstlineno__" 229) (.int 7 228)),(.mk (keyHash P "__static_attributes__") (.str "__static_attributes__" 230) (.ref 43)),(.mk (keyHash P "__doc__") (.str "__doc__" 231) .none)] 2) #[]
def kb45(P:Params):Obj:=.mk (.type "type") none (.cls (.mk "NoText" [(.ref 32)] [(.ref 45),(.ref 32),(.type "ValueError"),(.type "Exception"),(.type "BaseException"),(.type "object")] 44 "NoText" Bool.true [] [] Bool.false none Bool.false)) (List.toArray ((some (.ref 36))::none::(some (.str "NoText" 218))::(some (.str "NoText" 226))::(some (.builtin "ValueError.__new__"))::(some (.bool true))::[]))
def kb56(P:Params):Obj:=.mk (.type "dict") none (.dict #[(.mk (keyHash P "__module__") (.str "__module__" 241) (.str "goaltrail.errors" 187)),(.mk (keyHash P "__firstlineno__") (.str "__firstlineno__" 245) (.int 9 244)),(.mk (keyHash P "__static_attributes__") (.str "__static_attributes__" 246) (.ref 55)),(.mk (keyHash P "__doc__") (.str "__doc__" 247) .none)] 2) #[]
def kb57(P:Params):Obj:=.mk (.type "type") none (.cls (.mk "NoSign" [(.ref 32)] [(.ref 57),(.ref 32),(.type "ValueError"),(.type "Exception"),(.type "BaseException"),(.type "object")] 56 "NoSign" Bool.true [] [] Bool.false none Bool.false)) (List.toArray ((some (.ref 48))::none::(some (.str "NoSign" 234))::(some (.str "NoSign" 242))::(some (.builtin "ValueError.__new__"))::(some (.bool true))::[]))
def kb68(P:Params):Obj:=.mk (.type "dict") none (.dict #[(.mk (keyHash P "__module__") (.str "__module__" 257) (.str "goaltrail.errors" 187)),(.mk (keyHash P "__firstlineno__") (.str "__firstlineno__" 261) (.int 11 260)),(.mk (keyHash P "__static_attributes__") (.str "__static_attributes__" 262) (.ref 67)),(.mk (keyHash P "__doc__") (.str "__doc__" 263) .none)] 2) #[]
def kb69(P:Params):Obj:=.mk (.type "type") none (.cls (.mk "NoRule" [(.ref 32)] [(.ref 69),(.ref 32),(.type "ValueError"),(.type "Exception"),(.type "BaseException"),(.type "object")] 68 "NoRule" Bool.true [] [] Bool.false none Bool.false)) (List.toArray ((some (.ref 60))::none::(some (.str "NoRule" 250))::(some (.str "NoRule" 258))::(some (.builtin "ValueError.__new__"))::(some (.bool true))::[]))
def kb80(P:Params):Obj:=.mk (.type "dict") none (.dict #[(.mk (keyHash P "__module__") (.str "__module__" 273) (.str "goaltrail.errors" 187)),(.mk (keyHash P "__firstlineno__") (.str "__firstlineno__" 277) (.int 13 276)),(.mk (keyHash P "__static_attributes__") (.str "__static_attributes__" 278) (.ref 79)),(.mk (keyHash P "__doc__") (.str "__doc__" 279) .none)] 2) #[]
def kb81(P:Params):Obj:=.mk (.type "type") none (.cls (.mk "Big" [(.ref 32)] [(.ref 81),(.ref 32),(.type "ValueError"),(.type "Exception"),(.type "BaseException"),(.type "object")] 80 "Big" Bool.true [] [] Bool.false none Bool.false)) (List.toArray ((some (.ref 72))::none::(some (.str "Big" 266))::(some (.str "Big" 274))::(some (.builtin "ValueError.__new__"))::(some (.bool true))::[]))
def kb84(P:Params):Obj:=.mk (.type "tuple") none (.seq #[] 0) #[]
def kb85(P:Params):Obj:=.mk (.type "tuple") none (.seq #[(.str "app" 296),(.str "[]" 297),(.ref 84)] 0) #[]
def kb201(P:Params):Obj:=.mk (.type "tuple") none (.seq #[(.str "end" 448),(.str "" 449)] 0) #[]
def kb202(P:Params):Obj:=.mk (.type "dict") none (.dict (List.toArray ((.mk (keyHash P "whole") (.str "whole" 451) (.str "" 452))::(.mk (keyHash P "round") (.str "round" 453) (.str ")" 454))::(.mk (keyHash P "kids") (.str "kids" 455) (.str ")" 456))::(.mk (keyHash P "list") (.str "list" 457) (.str "]" 458))::(.mk (keyHash P "rest") (.str "rest" 459) (.str "]" 460))::[])) 5) #[]
def kb218(P:Params):Obj:=.mk (.type "dict") none (.dict (List.toArray ((.mk (keyHash P "__module__") (.str "__module__" 474) (.str "goaltrail.reader" 444))::(.mk (keyHash P "__firstlineno__") (.str "__firstlineno__" 478) (.int 113 477))::(.mk (keyHash P "__init__") (.str "__init__" 487) (.ref 216))::(.mk (keyHash P "__static_attributes__") (.str "__static_attributes__" 493) (.ref 217))::(.mk (keyHash P "__dict__") (.str "__dict__" 495) (.ref 220))::(.mk (keyHash P "__weakref__") (.str "__weakref__" 497) (.ref 221))::(.mk (keyHash P "__doc__") (.str "__doc__" 498) .none)::[])) 4) #[]
def kb219(P:Params):Obj:=.mk (.type "type") none (.cls (.mk "Level" [(.type "object")] [(.ref 219),(.type "object")] 218 "Level" Bool.true [] [] Bool.false none Bool.false)) (List.toArray (none::none::(some (.str "Level" 467))::(some (.str "Level" 475))::(some (.builtin "object.__new__"))::(some (.bool true))::[]))
def kb316(P:Params):Obj:=.mk (.type "dict") none (.dict (List.toArray ((.mk (keyHash P "__module__") (.str "__module__" 508) (.str "goaltrail.reader" 444))::(.mk (keyHash P "__firstlineno__") (.str "__firstlineno__" 512) (.int 121 511))::(.mk (keyHash P "__init__") (.str "__init__" 521) (.ref 237))::(.mk (keyHash P "seen") (.str "seen" 530) (.ref 244))::(.mk (keyHash P "sees") (.str "sees" 538) (.ref 251))::(.mk (keyHash P "take_term") (.str "take_term" 547) (.ref 258))::(.mk (keyHash P "take_openers") (.str "take_openers" 556) (.ref 265))::(.mk (keyHash P "begin") (.str "begin" 566) (.ref 272))::(.mk (keyHash P "take_thing") (.str "take_thing" 574) (.ref 279))::(.mk (keyHash P "take_closers") (.str "take_closers" 582) (.ref 286))::(.mk (keyHash P "take_between") (.str "take_between" 591) (.ref 293))::(.mk (keyHash P "take_sign") (.str "take_sign" 600) (.ref 300))::(.mk (keyHash P "take_terms") (.str "take_terms" 608) (.ref 307))::(.mk (keyHash P "take_end") (.str "take_end" 615) (.ref 314))::(.mk (keyHash P "__static_attributes__") (.str "__static_attributes__" 620) (.ref 315))::(.mk (keyHash P "__dict__") (.str "__dict__" 622) (.ref 318))::(.mk (keyHash P "__weakref__") (.str "__weakref__" 624) (.ref 319))::(.mk (keyHash P "__doc__") (.str "__doc__" 625) .none)::[])) 4) #[]
def kb317(P:Params):Obj:=.mk (.type "type") none (.cls (.mk "Reading" [(.type "object")] [(.ref 317),(.type "object")] 316 "Reading" Bool.true [] [] Bool.false none Bool.false)) (List.toArray (none::none::(some (.str "Reading" 501))::(some (.str "Reading" 509))::(some (.builtin "object.__new__"))::(some (.bool true))::[]))
noncomputable def KK:Params->W.Frag:=fun P=>(nat_lit 2,kb2 P)::(nat_lit 3,kb3 P)::(nat_lit 22,kb22 P)::(nat_lit 28,cO "__init__" "TrailError.__init__" 202 203 204 4 3 3 23 181 24 (.ref 25) (.ref 26) 27 208 209)::(nat_lit 29,kb29 P)::(nat_lit 31,kb31 P)::(nat_lit 32,kb32 P)::(nat_lit 44,kb44 P)::(nat_lit 45,kb45 P)::(nat_lit 56,kb56 P)::(nat_lit 57,kb57 P)::(nat_lit 68,kb68 P)::(nat_lit 69,kb69 P)::(nat_lit 80,kb80 P)::(nat_lit 81,kb81 P)::(nat_lit 84,kb84 P)::(nat_lit 85,kb85 P)::(nat_lit 91,cO "num" "num" 303 304 305 25 1 3 86 181 87 (.ref 88) (.ref 89) 90 307 308)::(nat_lit 92,fO "num" "num" s_num (.str "goaltrail.terms" 282) 91)::(nat_lit 98,cO "unknown" "unknown" 310 311 312 27 1 3 93 181 94 (.ref 95) (.ref 96) 97 314 315)::(nat_lit 99,fO "unknown" "unknown" b5g (.str "goaltrail.terms" 282) 98)::(nat_lit 105,cO "app" "app" 317 318 319 29 2 3 100 181 101 (.ref 102) (.ref 103) 104 322 323)::(nat_lit 106,fO "app" "app" s_a6 (.str "goaltrail.terms" 282) 105)::(nat_lit 112,cO "list_of" "list_of" 325 326 327 31 2 3 107 181 108 (.ref 109) (.ref 110) 111 332 333)::(nat_lit 113,fO "list_of" "list_of" b5h (.str "goaltrail.terms" 282) 112)::(nat_lit 119,cO "parts" "parts" 335 336 337 36 1 3 114 181 115 (.ref 116) (.ref 117) 118 342 343)::(nat_lit 120,fO "parts" "parts" c0c (.str "goaltrail.terms" 282) 119)::(nat_lit 126,cO "is_inner" "is_inner" 345 346 347 45 1 3 121 181 122 (.ref 123) (.ref 124) 125 349 350)::(nat_lit 127,fO "is_inner" "is_inner" b4c (.str "goaltrail.terms" 282) 126)::(nat_lit 131,cO "is_called" "is_called" 352 353 354 47 2 3 128 181 129 .none .none 130 355 356)::(nat_lit 132,fO "is_called" "is_called" a9r (.str "goaltrail.terms" 282) 131)::(nat_lit 138,cO "is_word" "is_word" 358 359 360 51 1 3 133 181 134 (.ref 135) (.ref 136) 137 362 363)::(nat_lit 139,fO "is_word" "is_word" b5i (.str "goaltrail.terms" 282) 138)::(nat_lit 145,cO "is_name" "is_name" 365 366 367 53 1 3 140 181 141 (.ref 142) (.ref 143) 144 369 370)::(nat_lit 146,fO "is_name" "is_name" b5j (.str "goaltrail.terms" 282) 145)::(nat_lit 152,cO "pieces" "pieces" 380 381 382 59 1 3 147 181 148 (.ref 149) (.ref 150) 151 387 388)::(nat_lit 153,fO "pieces" "pieces" b7k (.str "goaltrail.words" 372) 152)::(nat_lit 159,cO "piece_at" "piece_at" 390 391 392 70 2 3 154 181 155 (.ref 156) (.ref 157) 158 396 397)::(nat_lit 160,fO "piece_at" "piece_at" b4d (.str "goaltrail.words" 372) 159)::(nat_lit 166,cO "mark_run" "mark_run" 399 400 401 81 2 3 161 181 162 (.ref 163) (.ref 164) 165 405 406)::(nat_lit 167,fO "mark_run" "mark_run" b4e (.str "goaltrail.words" 372) 166)::(nat_lit 173,cO "inner_run" "inner_run" 408 409 410 86 2 3 168 181 169 (.ref 170) (.ref 171) 172 414 415)::(nat_lit 174,fO "inner_run" "inner_run" b2r (.str "goaltrail.words" 372) 173)::(nat_lit 180,cO "mark_piece" "mark_piece" 417 418 419 91 1 3 175 181 176 (.ref 177) (.ref 178) 179 421 422)::(nat_lit 181,fO "mark_piece" "mark_piece" b1m (.str "goaltrail.words" 372) 180)::(nat_lit 187,cO "inner_piece" "inner_piece" 424 425 426 93 1 3 182 181 183 (.ref 184) (.ref 185) 186 428 429)::(nat_lit 188,fO "inner_piece" "inner_piece" b0f (.str "goaltrail.words" 372) 187)::(nat_lit 194,cO "below_nought_piece" "below_nought_piece" 431 432 433 101 1 3 189 181 190 (.ref 191) (.ref 192) 193 435 436)::(nat_lit 195,fO "below_nought_piece" "below_nought_piece" a5w (.str "goaltrail.words" 372) 194)::(nat_lit 199,cO "is_number" "is_number" 438 439 440 105 1 3 196 181 197 .none .none 198 441 442)::(nat_lit 200,fO "is_number" "is_number" a9s (.str "goaltrail.words" 372) 199)::(nat_lit 201,kb201 P)::(nat_lit 202,kb202 P)::(nat_lit 215,cO "__init__" "Level.__init__" 479 480 481 115 3 3 210 181 211 (.ref 212) (.ref 213) 214 485 486)::(nat_lit 216,fO "__init__" "Level.__init__" b1l (.str "goaltrail.reader" 444) 215)::(nat_lit 218,kb218 P)::(nat_lit 219,kb219 P)::(nat_lit 236,cO "__init__" "Reading.__init__" 513 514 515 123 3 3 231 181 232 (.ref 233) (.ref 234) 235 519 520)::(nat_lit 237,fO "__init__" "Reading.__init__" a9f (.str "goaltrail.reader" 444) 236)::(nat_lit 243,cO "seen" "Reading.seen" 522 523 524 129 2 3 238 181 239 (.ref 240) (.ref 241) 242 528 529)::(nat_lit 244,fO "seen" "Reading.seen" a9g (.str "goaltrail.reader" 444) 243)::(nat_lit 250,cO "sees" "Reading.sees" 531 532 533 133 2 3 245 181 246 (.ref 247) (.ref 248) 249 536 537)::(nat_lit 251,fO "sees" "Reading.sees" a9h (.str "goaltrail.reader" 444) 250)::(nat_lit 257,cO "take_term" "Reading.take_term" 539 540 541 136 1 3 252 181 253 (.ref 254) (.ref 255) 256 545 546)::(nat_lit 258,fO "take_term" "Reading.take_term" a6g (.str "goaltrail.reader" 444) 257)::(nat_lit 264,cO "take_openers" "Reading.take_openers" 548 549 550 152 1 3 259 181 260 (.ref 261) (.ref 262) 263 554 555)::(nat_lit 265,fO "take_openers" "Reading.take_openers" a5d (.str "goaltrail.reader" 444) 264)::(nat_lit 271,cO "begin" "Reading.begin" 557 558 559 165 4 3 266 181 267 (.ref 268) (.ref 269) 270 564 565)::(nat_lit 272,fO "begin" "Reading.begin" a8q (.str "goaltrail.reader" 444) 271)::(nat_lit 278,cO "take_thing" "Reading.take_thing" 567 568 569 169 1 3 273 181 274 (.ref 275) (.ref 276) 277 572 573)::(nat_lit 279,fO "take_thing" "Reading.take_thing" a5u (.str "goaltrail.reader" 444) 278)::(nat_lit 285,cO "take_closers" "Reading.take_closers" 575 576 577 178 1 3 280 181 281 (.ref 282) (.ref 283) 284 580 581)::(nat_lit 286,fO "take_closers" "Reading.take_closers" a5e (.str "goaltrail.reader" 444) 285)::(nat_lit 292,cO "take_between" "Reading.take_between" 583 584 585 185 1 3 287 181 288 (.ref 289) (.ref 290) 291 589 590)::(nat_lit 293,fO "take_between" "Reading.take_between" a5f (.str "goaltrail.reader" 444) 292)::(nat_lit 299,cO "take_sign" "Reading.take_sign" 592 593 594 200 2 3 294 181 295 (.ref 296) (.ref 297) 298 598 599)::(nat_lit 300,fO "take_sign" "Reading.take_sign" a6h (.str "goaltrail.reader" 444) 299)::(nat_lit 306,cO "take_terms" "Reading.take_terms" 601 602 603 206 1 3 301 181 302 (.ref 303) (.ref 304) 305 606 607)::(nat_lit 307,fO "take_terms" "Reading.take_terms" a5v (.str "goaltrail.reader" 444) 306)::(nat_lit 313,cO "take_end" "Reading.take_end" 609 610 611 212 1 3 308 181 309 (.ref 310) (.ref 311) 312 613 614)::(nat_lit 314,fO "take_end" "Reading.take_end" a6o (.str "goaltrail.reader" 444) 313)::(nat_lit 316,kb316 P)::(nat_lit 317,kb317 P)::(nat_lit 327,cO "checked_word" "checked_word" 628 629 630 215 1 3 322 181 323 (.ref 324) (.ref 325) 326 632 633)::(nat_lit 328,fO "checked_word" "checked_word" a9i (.str "goaltrail.reader" 444) 327)::(nat_lit 334,cO "checked_name" "checked_name" 635 636 637 219 1 3 329 181 330 (.ref 331) (.ref 332) 333 639 640)::(nat_lit 335,fO "checked_name" "checked_name" a9j (.str "goaltrail.reader" 444) 334)::(nat_lit 341,cO "number_of" "number_of" 642 643 644 223 1 3 336 181 337 (.ref 338) (.ref 339) 340 646 647)::(nat_lit 342,fO "number_of" "number_of" b2s (.str "goaltrail.reader" 444) 341)::(nat_lit 348,cO "thing_of" "thing_of" 649 650 651 227 1 3 343 181 344 (.ref 345) (.ref 346) 347 653 654)::(nat_lit 349,fO "thing_of" "thing_of" b4f (.str "goaltrail.reader" 444) 348)::(nat_lit 355,cO "add_mark" "add_mark" 656 657 658 235 3 3 350 181 351 (.ref 352) (.ref 353) 354 662 663)::(nat_lit 356,fO "add_mark" "add_mark" b4g (.str "goaltrail.reader" 444) 355)::(nat_lit 362,cO "binds_first" "binds_first" 665 666 667 241 2 3 357 181 358 (.ref 359) (.ref 360) 361 670 671)::(nat_lit 363,fO "binds_first" "binds_first" b0g (.str "goaltrail.reader" 444) 362)::(nat_lit 369,cO "join_last" "join_last" 673 674 675 247 1 3 364 181 365 (.ref 366) (.ref 367) 368 679 680)::(nat_lit 370,fO "join_last" "join_last" b2t (.str "goaltrail.reader" 444) 369)::(nat_lit 376,cO "finish" "finish" 682 683 684 251 1 3 371 181 372 (.ref 373) (.ref 374) 375 686 687)::(nat_lit 377,fO "finish" "finish" b7l (.str "goaltrail.reader" 444) 376)::(nat_lit 383,cO "closed" "closed" 689 690 691 255 1 3 378 181 379 (.ref 380) (.ref 381) 382 693 694)::(nat_lit 384,fO "closed" "closed" b7m (.str "goaltrail.reader" 444) 383)::(nat_lit 390,cO "read" "read" 696 697 698 265 2 3 385 181 386 (.ref 387) (.ref 388) 389 703 704)::(nat_lit 391,fO "read" "read" c4g (.str "goaltrail.reader" 444) 390)::(nat_lit 397,cO "read_rule" "read_rule" 706 707 708 270 2 3 392 181 393 (.ref 394) (.ref 395) 396 714 715)::(nat_lit 398,fO "read_rule" "read_rule" b2u (.str "goaltrail.reader" 444) 397)::(nat_lit 404,cO "read_goals" "read_goals" 717 718 719 278 2 3 399 181 400 (.ref 401) (.ref 402) 403 724 725)::(nat_lit 405,fO "read_goals" "read_goals" b1n (.str "goaltrail.reader" 444) 404)::(nat_lit 411,cO "_law_cell_at" "_law_cell_at" 729 730 731 284 2 3 406 181 407 (.ref 408) (.ref 409) 410 734 735)::(nat_lit 412,fO "_law_cell_at" "_law_cell_at" b2v (.str "law_goaltrail_k14_how_much_is_read" 727) 411)::(nat_lit 418,cO "_law_whole" "_law_whole" 737 738 739 290 1 3 413 181 414 (.ref 415) (.ref 416) 417 741 742)::(nat_lit 419,fO "_law_whole" "_law_whole" b5k (.str "law_goaltrail_k14_how_much_is_read" 727) 418)::(nat_lit 425,cO "_law_stream" "_law_stream" 744 745 746 292 2 3 420 181 421 (.ref 422) (.ref 423) 424 752 753)::(nat_lit 426,fO "_law_stream" "_law_stream" b4h (.str "law_goaltrail_k14_how_much_is_read" 727) 425)::(nat_lit 432,cO "_law_same" "_law_same" 755 756 757 299 2 3 427 181 428 (.ref 429) (.ref 430) 431 765 766)::(nat_lit 433,fO "_law_same" "_law_same" b7n (.str "law_goaltrail_k14_how_much_is_read" 727) 432)::(nat_lit 439,cO "_law_only_no_text" "_law_only_no_text" 768 769 770 315 1 3 434 181 435 (.ref 436) (.ref 437) 438 772 773)::(nat_lit 440,fO "_law_only_no_text" "_law_only_no_text" a7t (.str "law_goaltrail_k14_how_much_is_read" 727) 439)::(nat_lit 444,cO "_law_long" "_law_long" 775 776 777 319 3 3 441 181 442 .none .none 443 778 779)::(nat_lit 445,fO "_law_long" "_law_long" b4i (.str "law_goaltrail_k14_how_much_is_read" 727) 444)::(nat_lit 451,cO "_law_named" "_law_named" 781 782 783 322 2 3 446 181 447 (.ref 448) (.ref 449) 450 789 790)::(nat_lit 452,fO "_law_named" "_law_named" b5l (.str "law_goaltrail_k14_how_much_is_read" 727) 451)::(nat_lit 456,cO "_law_with_kids" "_law_with_kids" 792 793 794 333 1 3 453 181 454 .none .none 455 795 796)::(nat_lit 457,fO "_law_with_kids" "_law_with_kids" a5z (.str "law_goaltrail_k14_how_much_is_read" 727) 456)::(nat_lit 463,cO "_law_numbered" "_law_numbered" 798 799 800 337 2 3 458 181 459 (.ref 460) (.ref 461) 462 807 808)::(nat_lit 464,fO "_law_numbered" "_law_numbered" b1o (.str "law_goaltrail_k14_how_much_is_read" 727) 463)::(nat_lit 468,cO "_law_row" "_law_row" 810 811 812 349 1 3 465 181 466 .none .none 467 813 814)::(nat_lit 469,fO "_law_row" "_law_row" b3l (.str "law_goaltrail_k14_how_much_is_read" 727) 468)::(nat_lit 475,cO "_law_deep" "_law_deep" 816 817 818 370 1 3 470 181 471 (.ref 472) (.ref 473) 474 823 824)::(nat_lit 476,fO "_law_deep" "_law_deep" b7o (.str "law_goaltrail_k14_how_much_is_read" 727) 475)::(nat_lit 482,cO "_law_parts" "_law_parts" 826 827 828 384 1 3 477 181 478 (.ref 479) (.ref 480) 481 832 833)::(nat_lit 483,fO "_law_parts" "_law_parts" b5m (.str "law_goaltrail_k14_how_much_is_read" 727) 482)::(nat_lit 489,cO "_law_read" "_law_read" 835 836 837 391 3 3 484 181 485 (.ref 486) (.ref 487) 488 844 845)::(nat_lit 490,fO "_law_read" "_law_read" b7p (.str "law_goaltrail_k14_how_much_is_read" 727) 489)::(nat_lit 496,cO "_law_meets" "_law_meets" 847 848 849 409 3 3 491 181 492 (.ref 493) (.ref 494) 495 854 855)::(nat_lit 497,fO "_law_meets" "_law_meets" b5n (.str "law_goaltrail_k14_how_much_is_read" 727) 496)::(nat_lit 503,cO "law" "law" 857 858 859 418 1 3 498 181 499 (.ref 500) (.ref 501) 502 869 870)::(nat_lit 504,fO "law" "law" s_law (.str "law_goaltrail_k14_how_much_is_read" 727) 503)::[]
noncomputable def prog:Program:=PySem.Challenge.pw_goaltrail_k14_how_much_is_read
noncomputable def Q:Program:=W.view prog [1,2,3,4,5,7,8,9,10,11,12,13,14,15,16,17,18,19,20,21,22,23,24,26,27,28,29,30,31,32,33,34,35,36,38,39,40,41,42,43,44,45,46,47,48,49,50,51,52,53,54,56,57,58,59,60,61,62,63,64,65,66,67,68,69,70]
noncomputable def loose:List Str:=["TrailError","CLOSERS"]
noncomputable def Xt(s:Shared):Bool:=W.xlAt Q [] s&&W.recOk [] s
noncomputable def ads:List Addr:=[2,3,22,28,29,31,32,44,45,56,57,68,69,80,81,84,85,91,92,98,99,105,106,112,113,119,120,126,127,131,132,138,139,145,146,152,153,159,160,166,167,173,174,180,181,187,188,194,195,199,200,201,202,215,216,218,219,236,237,243,244,250,251,257,258,264,265,271,272,278,279,285,286,292,293,299,300,306,307,313,314,316,317,327,328,334,335,341,342,348,349,355,356,362,363,369,370,376,377,383,384,390,391,397,398,404,405,411,412,418,419,425,426,432,433,439,440,444,445,451,452,456,457,463,464,468,469,475,476,482,483,489,490,496,497,503,504]
noncomputable def RP(w:World):Prop:=(fun os=>(W.segRunT treeTable prog w 11 (some (.ref 6)) 0 3514 (bootS w os) (W.topStub prog)).map fun r=>looks prog Q loose Xt (fun s=>ads.map s.heap.get?) true (W.boot_heap w.params) r.2.1.abs)=fun _=>some (true,W.openGood Q loose,(KK w.params).map fun p=>some p.2)
theorem runF(w:World):RP (w.withFollow "special-get-raises" false):=by
 unfold RP
 delta Xt Q loose
 rw[Ui,Uh,W.Fast.te2530740449226627131,W.Fast.te3486900944545009338,W.Fast.te10845986317416049621,W.Fast.te5655336392911312201,W.Fast.te4757257242682413121,W.Fast.te6483871617321286689,W.Fast.te15055690906229335287]
 kernel_rfl
theorem runT(w:World):RP (w.withFollow "special-get-raises" true):=by
 unfold RP
 delta Xt Q loose
 rw[Ui,Uh,W.Fast.te2530740449226627131,W.Fast.te3486900944545009338,W.Fast.te10845986317416049621,W.Fast.te5655336392911312201,W.Fast.te4757257242682413121,W.Fast.te6483871617321286689,W.Fast.te15055690906229335287]
 kernel_rfl
theorem run1:∀w:World,RP w:=W.byRow2 "special-get-raises" runF runT
theorem left1:W.LeftO prog Q loose Xt (fun s=>ads.map s.heap.get?) (fun w=>(KK w.params).map fun p=>some p.2) 3514:=left_of (by kernel_rfl) (by decide) (fun _=>by kernel_rfl) d0e (by decide) run1
theorem said1:PySem.Challenge.rw_goaltrail_k14_how_much_is_read.wellSaid=true:=by
 w_on
 rw[W.Fast.te9446332074065402090]
 kernel_rfl
section
variable{P:Program}{w:World}{K:W.Frag}{mg:Str->Option Value}{base:Heap}{t:Ad}
theorem b5p(T:Txt K mg t)  :FnOk P w K mg base CX0 1 t.a_a3 t.d_a3 ["self","words","row"] (a1g K):=by
 refine T.F_a3.ok b5o (fun vs H Q E h=>?_) (fun cdv A outer s H vs Q E hr h=>?_)
 ·unfold a1g at h
  split at h
  ·rfl
  ·exact h.elim
 unfold a1g at h
 split at h
 rotate_left
 ·exact h.elim
 refine⟨_,(a0g (a1m (d3l rfl T.n_i5 (a0a (mv 0) (a0a (mv 1) a0c)))) (a0h (ps_xset (mv 0) (mv 2)))),?_⟩
 rename_i e v r
 obtain⟨C,bm,fr,Xc,U,Xa,n1,hx,q⟩:=h
 walk_at "s"
 refine⟨e,C,none,fr,bm,v,rfl,hx,Xc,?_⟩
 walk_at "s"
 refine⟨e,C,bm,fr,rfl,Xc,U,Xa,n1,.inl ⟨hx,fun dx hdx hne=>?_⟩⟩
 refine q _ ⟨⟨dx,hdx,hne,a0b,by rw[a0j hne];exact a0b⟩,fun b hb o ho=>?_⟩
 rw[a0j hb,a0j (fun z=>by rw[z,hdx]at ho;cases ho)]
 exact ho
theorem c6i(T:Txt K mg t)  :FnOk P w K mg base CX0 1 t.a_a8 t.d_a8 ["sign"] (a6f):=by
 refine T.F_a8.ok c6e (fun vs H Q E h=>?_) (fun cdv A outer s H vs Q E hr h=>?_)
 ·unfold a6f at h
  split at h
  ·rfl
  ·exact h.elim
 unfold a6f at h
 split at h
 rotate_left
 ·exact h.elim
 refine⟨_,(a0h (a0o (me_or (a2l a7j (mv 0) (a2v rfl T.m_h1) (by with_unfolding_all rfl)) (me_or (a2l a7j (mv 0) (a2v rfl T.m_h2) (by with_unfolding_all rfl)) (b2z (a2l a7j (mv 0) (a2v rfl T.m_h8) (by with_unfolding_all rfl))))))),?_⟩
 rename_i s
 obtain⟨c,rfl,q⟩:=h
 walk_at "s"
 refine iteB (fun e=>?_) (fun e=>?_)
 ·rw[Zi (.inl (by simpa[a3i]using e))]at q
  exact q
 ·have e1:c∉a2p.cps.toList:=by simpa[a3i]using e
  walk_at "s"
  refine iteB (fun e=>?_) (fun e=>?_)
  ·rw[Zi (.inr (.inl (by simpa[a3i]using e)))]at q
   exact q
  ·have e2:c∉a3e.cps.toList:=by simpa[a3i]using e
   walk_at "s"
   rw[a3i,Zt]
   have e3:decide (inn c)=decide (c∈figS.cps.toList):=by
    rw[Xo,Sh,Sh]
    exact⟨fun h=>h.elim (absurd · e1) fun h=>h.elim (absurd · e2) id,fun h=>.inr (.inr h)⟩
   rw[e3]at q
   exact q
theorem c6j(T:Txt K mg t)  :FnOk P w K mg base CX0 1 t.a_d6 t.d_d6 ["text","at"] (a9u):=by
 refine T.F_d6.ok b2w (fun vs H Q E h=>?_) (fun cdv A outer s H vs Q E hr h=>?_)
 ·unfold a9u at h
  split at h
  ·rfl
  ·exact h.elim
 unfold a9u at h
 split at h
 rotate_left
 ·exact h.elim
 refine⟨_,(a0g (a0m (i:=2) b2w.nd rfl (by walk_at "or1") (mv 1)) (a0g (a4o Yj (PW.pt (a8k (a0v a4x (mv 2) (a1k (a3d K rfl) rfl T.n_g0 Z6 (a0a (mv 0) a0c)) (a0t _)) (a6u (a0v a7j (a0s (a0n K rfl) (mv 0) (mv 2) (fun _ _=>rfl)) (a2v rfl T.m_h6) (by with_unfolding_all rfl))))) (a0h (b3i (i:=2) b2w.nd rfl (by walk_at "or1") a0e a6n))) (a0h (a0o (a3q c3o (mv 0) (a3r (mv 1)) (a3r (mv 2))))))),?_⟩
 rename_i s i
 obtain⟨pre,z,r,rfl,rfl,hz,hm,hr1,q⟩:=h
 walk_at "s"
 refine a3w (fun n σ' H'=>∃(j:Nat)(e:Int),σ'=[some (.str ⟨(pre++z++r).toArray⟩),some (.int (pre.length:Int)),some (.int e)]/\e=((pre.length+j:Nat):Int)/\j<=z.length/\n=z.length-j/\H'=H) z.length ⟨0,_,rfl,rfl,Yo _,rfl,rfl⟩ (fun n σ' H' R hP kT kF=>?_)
 obtain⟨j,e,rfl,he,hj,hn,rfl⟩:=hP
 have hlen:((⟨(pre++z++r).toArray⟩:Str).length)=pre.length+z.length+r.length:=by rw[str_len,Za,Za]
 have hz':(⟨(pre++z++r).toArray⟩:Str).length<=sizeLine:=ln (by rw[str_len];omega)
 walk_at "s"
 refine b3g hz' ?_
 walk_at "s"
 rw[hlen]
 by_cases hjz:j<z.length
 ·refine c2t (Zi (by omega)) ?_
  walk_at "s"
  obtain⟨y,hy,hat⟩:=d1l (pre:=pre) (r:=r) hjz
  subst he
  refine a4y hz' hat ?_
  walk_at "s"
  rw[in_t (hm y hy)]
  refine kT H' (fun D' e1 e2 hnx hct=>?_)
  walk_at "s"
  exact hnx _ _ (z.length-(j+1)) (by omega) ⟨j+1,_,rfl,by omega,by omega,rfl,rfl⟩
 ·have hj:j=z.length:=by omega
  subst hj he
  have fin:∀H1,H1=H'->R false H1:=fun H1 eH=>by
   subst eH
   refine kF _ ?_
   walk_at "s"
   refine c3p hz' ?_
   rw[c7d]
   exact q
  cases r with
  |nil=>
   refine ite_f (Zg (by simp only[length_nil];omega)) ?_
   exact fin _ rfl
  |cons c r=>
   refine c2t (Zi (by simp only[length_cons];omega)) ?_
   walk_at "s"
   refine a4y hz' d1m ?_
   walk_at "s"
   have hc:=hr1 c rfl
   rw[in_f hc]
   exact fin _ rfl
theorem c4q(T:Txt K mg t)(G_a8:FnOk P w K mg base CX0 1 t.a_a8 t.d_a8 ["sign"] (a6f)):FnOk P w K mg base CX0 2 t.a_c9 t.d_c9 ["text","at"] (a8s):=by
 refine T.F_c9.ok b1q (fun vs H Q E h=>?_) (fun cdv A outer s H vs Q E hr h=>?_)
 ·unfold a8s at h
  split at h
  ·rfl
  ·exact h.elim
 unfold a8s at h
 split at h
 rotate_left
 ·exact h.elim
 refine⟨_,(a0g (a0m (i:=2) b1q.nd rfl (by walk_at "or1") (mv 1)) (a0g (a4o Yj (PW.pt (a8k (a0v a4x (mv 2) (a1k (a3d K rfl) rfl T.n_g0 Z6 (a0a (mv 0) a0c)) (a0t _)) (a6u (a1n K rfl (a0p G_a8 (hr.mono (by walk_at "r")) rfl T.m_a8 T.F_a8.kp T.b_a8 .nil a0r (a0a (a0s (a0n K rfl) (mv 0) (mv 2) (fun _ _=>rfl)) a0c)))))) (a0h (b3i (i:=2) b1q.nd rfl (by walk_at "or1") a0e a6n))) (a0h (a0o (a3q c3o (mv 0) (a3r (mv 1)) (a3r (mv 2))))))),?_⟩
 rename_i s i
 obtain⟨pre,z,r,rfl,rfl,hz,hm,hr1,q⟩:=h
 walk_at "s"
 refine a3w (fun n σ' H'=>∃(j:Nat)(e:Int),σ'=[some (.str ⟨(pre++z++r).toArray⟩),some (.int (pre.length:Int)),some (.int e)]/\e=((pre.length+j:Nat):Int)/\j<=z.length/\n=z.length-j/\H'=H) z.length ⟨0,_,rfl,rfl,Yo _,rfl,rfl⟩ (fun n σ' H' R hP kT kF=>?_)
 obtain⟨j,e,rfl,he,hj,hn,rfl⟩:=hP
 have hlen:((⟨(pre++z++r).toArray⟩:Str).length)=pre.length+z.length+r.length:=by rw[str_len,Za,Za]
 have hz':(⟨(pre++z++r).toArray⟩:Str).length<=sizeLine:=ln (by rw[str_len];omega)
 walk_at "s"
 refine b3g hz' ?_
 walk_at "s"
 rw[hlen]
 by_cases hjz:j<z.length
 ·refine c2t (Zi (by omega)) ?_
  walk_at "s"
  obtain⟨y,hy,hat⟩:=d1l (pre:=pre) (r:=r) hjz
  subst he
  refine a4y hz' hat ?_
  walk_at "s"
  refine⟨y,rfl,?_⟩
  walk_at "s"
  rw[Zi (hm y hy)]
  refine kT H' (fun D' e1 e2 hnx hct=>?_)
  walk_at "s"
  exact hnx _ _ (z.length-(j+1)) (by omega) ⟨j+1,_,rfl,by omega,by omega,rfl,rfl⟩
 ·have hj:j=z.length:=by omega
  subst hj he
  have fin:∀H1,H1=H'->R false H1:=fun H1 eH=>by
   subst eH
   refine kF _ ?_
   walk_at "s"
   refine c3p hz' ?_
   rw[c7d]
   exact q
  cases r with
  |nil=>
   refine ite_f (Zg (by simp only[length_nil];omega)) ?_
   exact fin _ rfl
  |cons c r=>
   refine c2t (Zi (by simp only[length_cons];omega)) ?_
   walk_at "s"
   refine a4y hz' d1m ?_
   walk_at "s"
   have hc:=hr1 c rfl
   refine⟨c,rfl,?_⟩
   walk_at "s"
   rw[Zg hc]
   exact fin _ rfl
theorem c1x(T:Txt K mg t)  :FnOk P w K mg base CX0 1 t.a_e0 t.d_e0 ["run"] (a7n K):=by
 refine T.F_e0.ok c1w (fun vs H Q E h=>?_) (fun cdv A outer s H vs Q E hr h=>?_)
 ·unfold a7n at h
  split at h
  ·rfl
  ·exact h.elim
 unfold a7n at h
 split at h
 rotate_left
 ·exact h.elim
 refine⟨_,(a0h (a0o (a0y (a0a (c3b (a0v a1s (mv 0) (a2v rfl T.m_h9) (a0t _)) a0f a0f) (a0a (mv 0) a0c))))),?_⟩
 rename_i s
 obtain⟨z,rfl,q⟩:=h
 walk_at "s"
 refine iteB (fun e=>?_) (fun e=>?_)
 ·walk_at "s"
  refine⟨ln (by show 2<=100000;decide),fun p hp=>?_⟩
  have e:=Zm (a9p e)
  rw[c3t]at e
  rw[if_pos (c4m e)]at q
  exact q _ _ (a0d hp _) (a8t (SqT.of a0b))
 ·walk_at "s"
  refine⟨ln (by show 2<=100000;decide),fun p hp=>?_⟩
  have e:=Zo (a9p e)
  rw[c3t]at e
  rw[if_neg (fun h=>e (by rw[h]))]at q
  exact q _ _ (a0d hp _) (a8t (SqT.of a0b))
theorem all_id(z:List Nat):(z.map figB).all id=z.all figB:=by rw[Te];rfl
theorem c4r(T:Txt K mg t)  :FnOk P w K mg base CX0 1 t.a_c0 t.d_c0 ["run"] (a6q):=by
 refine T.F_c0.ok c4i (fun vs H Q E h=>?_) (fun cdv A outer s H vs Q E hr h=>?_)
 ·unfold a6q at h
  split at h
  ·rfl
  ·exact h.elim
 unfold a6q at h
 split at h
 rotate_left
 ·exact h.elim
 refine⟨_,(a0g (a1e (PW.pt (b3y (a4i (b7e c2k c2k a0e (a1k (a3d K rfl) rfl T.n_g0 Z6 (a0a (mv 0) a0c)) (b0w rfl T.m_i3))) (b2y (a4i (a1n K rfl (a1k (d0j K rfl rfl) rfl T.n_i6 boot_all (a0a (b3f rfl (d0h (mv 0)) (a9b (a0i a9s) ["run"] ["run"] rfl rfl (by decide+kernel)) (fun _ _ _ _ _=>a9a) (fun _ _ _ _ _=>(a2l a7j (mv 0) (a2v rfl T.m_h8) (by with_unfolding_all rfl)))) a0c))))))) (a0h (a0o a3b)) a0z) (a0h (a0o (me_or (a2l a1s (mv 0) a0f (a0t _)) (b2z (a2l b5y (a0s (a0n K rfl) (mv 0) a0e (fun _ _=>rfl)) a0f (a0t _))))))),?_⟩
 rename_i s
 obtain⟨z,rfl,hz,q⟩:=h
 have hl:(⟨z.toArray⟩:Str).length=z.length:=str_len _
 have hz':(⟨z.toArray⟩:Str).length<=sizeLine:=ln (by rw[hl];omega)
 (with_reducible refine b8p ?_)
 walk_at "s"
 refine b3g hz' ?_
 walk_at "s"
 rw[hl]
 refine iteB (fun e=>?_) (fun e=>?_)
 rotate_left
 ·have e:a2s z=false:=by
   unfold a2s
   rw[Zg (by have:=Zo e;omega)]
   rfl
  rw[e]at q
  walk_at "B"
  exact q H (Same.refl _)
 have h1:1<=z.length:=by have:=Zm e;omega
 walk_at "s"
 refine iteB (fun e=>?_) (fun e=>?_)
 ·have e:a2s z=false:=by
   unfold a2s
   rw[Zg (show ¬z.length<=30 by have:=Zo (by simpa using e:decide ((z.length:Int)<=30)=false);omega),Wr,Ws]
  rw[e]at q
  walk_at "s"
  exact q H (Same.refl _)
 have h2:z.length<=30:=by have:=Zm (by simpa using e:decide ((z.length:Int)<=30)=true);omega
 walk_at "s"
 refine⟨_,rfl,fun D hD=>?_⟩
 refine a7s (c6z ⟨z.toArray⟩) (fun i ys H'=>Same H H'/\ys=((z.take i).map figB).map V.bl/\H' D=some (.lst ys)) (ln (by simp only[Zf];omega)) ⟨a0d hD _,rfl,a0b⟩ (fun _ _ _ _=>trivial) (fun i ys H' Q' hi hl hP k=>?_) (fun ys H' hl hP=>?_)
 ·obtain⟨g1,g2,g4⟩:=hP
  walk_at "s"
  have hi:i<z.length:=by simpa using hi
  have hm:z.toArray.getD i 0=z[i]:=by rw[Uo,Ti,Zb hi];rfl
  rw[hm,a3i,Zt]
  refine k _ _ g4 ⟨a2k g1 hD,?_,a0b⟩
  rw[g2,List.take_add_one,Zb hi,Zk,Zk]
  rfl
 ·obtain⟨g1,g2,g4⟩:=hP
  have e:z.take (⟨z.toArray⟩:Str).cps.size=z:=Wp (by simp)
  rw[e]at g2
  walk_at "s"
  refine⟨z.map figB,SqL.of (g2▸g4),?_⟩
  walk_at "s"
  rw[show(fun bs:List Bool=>bs.all id) (z.map figB)=z.all figB from all_id z]
  refine iteB (fun e=>?_) (fun e=>?_)
  ·have e1:z.all figB=false:=by simpa using e
   have e:a2s z=false:=by
    unfold a2s
    rw[e1,Wr,Ws,Ws]
   rw[e]at q
   walk_at "s"
   exact q _ g1
  have e1:z.all figB=true:=by simpa using e
  have en:a2s z=(decide (z=[48])||decide (z.head? ≠some 48)):=by
   unfold a2s
   rw[e1,Zi h1,Zi h2,Y9,Y9,Y9]
  rw[en]at q
  walk_at "s"
  match z,h1 with
  |x::r,_=>
  refine iteB (fun e=>?_) (fun e=>?_)
  ·have e:=Zm (a9p e)
   rw[c2r]at e
   rw[Zi (c4m (y:=[48]) e),Bool.true_or]at q
   exact q H' g1
  ·walk_at "s"
   refine a4y hz' (at0 (x:=x) (r:=r)) ?_
   walk_at "s"
   have e:=Zo (a9p e)
   rw[c2r]at e ⊢
   rw[Zg (fun h=>e (by rw[h])),Bool.false_or]at q
   have e2:(true^^decide ((⟨#[x]⟩:Str)=⟨#[48]⟩))=decide ((x::r).head? ≠some 48):=by
    by_cases hx:x=48
    ·subst hx;simp
    ·rw[Zg (fun h=>hx (b6h h)),Zi (by simpa using hx)];rfl
   rw[e2]
   exact q H' g1
theorem b9d{z:List Nat}{k:Str}(h:kindOf z=k)(n:k≠a1x):knB z=false:=Zg (by rw[h];exact n)
theorem c2w{z:List Nat}(h:kindOf z=a1x):knB z=true:=Zi h
theorem b5q{l:List Nat}(h:a1a l):∀c∈(⟨l.toArray⟩:Str).cps.toList,c<16^8:=fun c hc=>by
 have:=h c (by simpa using hc)
 omega
theorem c0j(T:Txt K mg t)(G_c0:FnOk P w K mg base CX0 1 t.a_c0 t.d_c0 ["run"] (a6q))(G_a3:FnOk P w K mg base CX0 1 t.a_a3 t.d_a3 ["self","words","row"] (a1g K)):FnOk P w K mg base (CXo P w) 3 t.a_d3 t.d_d3 ["run"] (a6x K t.k_a0):=by
 refine T.F_d3.okX c0d (fun vs H Q E h=>?_) (fun cdv A outer s H vs Q E hr h=>?_)
 ·unfold a6x at h
  split at h
  ·rfl
  ·exact h.elim
 unfold a6x at h
 split at h
 rotate_left
 ·exact h.elim
 refine⟨_,(a0g (a1e (a0v a7j (a0s (a0n K rfl) (mv 0) a0e (fun _ _=>rfl)) (a2v rfl T.m_h1) (by with_unfolding_all rfl)) (a0h (a0o (a0y (a0a a0f (a0a (mv 0) a0c))))) a0z) (a0g (a1e (a0v a7j (a0s (a0n K rfl) (mv 0) a0e (fun _ _=>rfl)) (a2v rfl T.m_h2) (by with_unfolding_all rfl)) (a0h (a0o (a0y (a0a a0f (a0a (mv 0) a0c))))) a0z) (a0g (a1e (a1n K rfl (a0p G_c0 (hr.mono (by walk_at "r")) rfl T.m_c0 T.F_c0.kp T.b_c0 .nil a0r (a0a (mv 0) a0c))) (a0h (a0o (a0y (a0a a0f (a0a (mv 0) a0c))))) a0z) (a0h (a4q rfl a5p (a4p T.mk_a0 G_a3 (hr.mono (by walk_at "r")) rfl T.m_a0 T.bd_a3 (show Vals [V.int 0] [Value.int 0 t.w_a3_0]from(.cons ⟨_,rfl⟩ .nil)) a0r (a0a (pe_fr (mv 0)) a0c))))))),?_⟩
 rename_i s
 obtain⟨c,r,rfl,hc,hz,hp,q⟩:=h
 have hz':(⟨(c::r).toArray⟩:Str).length<=sizeLine:=ln (by rw[str_len];omega)
 have hk:=b1s (r:=r) hc
 walk_at "s"
 refine a4y hz' (at0 (x:=c) (r:=r)) ?_
 walk_at "s"
 refine iteB (fun e=>?_) (fun e=>?_)
 ·have e1:c∈a2p.cps.toList:=by simpa[a3i]using e
  rw[if_pos e1]at hk
  rw[b9d hk b1t.2.2.2.1,hk]at q
  walk_at "s"
  exact⟨ln (by show 2<=100000;decide),fun a ha=>q _ _ (a0d ha _) (a8t (SqT.of a0b))⟩
 have n1:c∉a2p.cps.toList:=by simpa[a3i]using e
 rw[if_neg n1]at hk
 walk_at "s"
 refine a4y hz' (at0 (x:=c) (r:=r)) ?_
 walk_at "s"
 refine iteB (fun e=>?_) (fun e=>?_)
 ·have e1:c∈a3e.cps.toList:=by simpa[a3i]using e
  rw[if_pos e1]at hk
  rw[b9d hk b1t.2.2.2.2,hk]at q
  walk_at "s"
  exact⟨ln (by show 2<=100000;decide),fun a ha=>q _ _ (a0d ha _) (a8t (SqT.of a0b))⟩
 have n2:c∉a3e.cps.toList:=by simpa[a3i]using e
 rw[if_neg n2]at hk
 walk_at "s"
 refine⟨_,rfl,hz,fun H1 s1=>?_⟩
 walk_at "s"
 refine iteB (fun e=>?_) (fun e=>?_)
 ·rw[if_pos e]at hk
  rw[b9d hk b1t.2.2.1,hk]at q
  walk_at "s"
  exact⟨ln (by show 2<=100000;decide),fun a ha=>q _ _ (s1.trans (a0d ha _)) (a8t (SqT.of a0b))⟩
 ·rw[if_neg (by rw[e];exact Zp)]at hk
  rw[c2w hk]at q
  have q:onX H t.k_a0 E:=q
  walk_at "s"
  refine⟨_,rfl,b5q hp,by rw[str_len];omega,fun z=>?_⟩
  walk_at "s"
  refine⟨by simp,fun ea hea=>?_⟩
  refine⟨t.k_a0,_,true,T.x_a0,T.u_a0,T.at_a0,T.no_a0_row,a0b,fun H9 b9=>⟨rfl,?_⟩⟩
  obtain⟨dx9,h91,h92,h93⟩:=a2n hea (Same.refl _) hea b9
  refine⟨ea,t.k_a0,dx9,_,rfl,T.x_a0,h91,?_⟩
  exact q ea _ (s1.trans h93) h92
theorem b3o(T:Txt K mg t)(G_a3:FnOk P w K mg base CX0 1 t.a_a3 t.d_a3 ["self","words","row"] (a1g K))(G_c0:FnOk P w K mg base CX0 1 t.a_c0 t.d_c0 ["run"] (a6q)):FnOk P w K mg base (CXo P w) 3 t.a_e6 t.d_e6 ["run"] (a3z K t.k_a0):=by
 refine T.F_e6.okX b3m (fun vs H Q E h=>?_) (fun cdv A outer s H vs Q E hr h=>?_)
 ·unfold a3z at h
  split at h
  ·rfl
  ·exact h.elim
 unfold a3z at h
 split at h
 rotate_left
 ·exact h.elim
 refine⟨_,(a0g (a1e (PW.pt (b3y (a0v a1s (mv 0) a0f (a0t _)) (b2y (a4i (a1n K rfl (a0p G_c0 (hr.mono (by walk_at "r")) rfl T.m_c0 T.F_c0.kp T.b_c0 .nil a0r (a0a (mv 0) a0c))))))) (a0h (a4q rfl a5p (a4p T.mk_a0 G_a3 (hr.mono (by walk_at "r")) rfl T.m_a0 T.bd_a3 (show Vals [V.int 0] [Value.int 0 t.w_a3_0]from(.cons ⟨_,rfl⟩ .nil)) a0r (a0a (pe_f2 (a2v rfl T.m_h0)) a0c)))) a0z) (a0h (a0o (a0y (a0a a0f (a0a (a0l (a1f K rfl) (a2v rfl T.m_h0) (mv 0)) a0c)))))),?_⟩
 rename_i s
 obtain⟨f,rfl,hz,q⟩:=h
 have hk:=b7r (r:=f)
 (with_reducible refine b8p ?_)
 walk_at "s"
 refine iteB (fun e=>?_) (fun e=>?_)
 ·have e:=Zm (a9p e)
  rw[c2r]at e
  rw[if_pos (.inl (c4m (y:=[48]) e))]at hk
  rw[c2w hk]at q
  have q:onX H t.k_a0 E:=q
  walk_at "s"
  refine⟨_,rfl,by decide+kernel,fun z=>?_⟩
  walk_at "s"
  refine⟨by simp,fun ea hea=>?_⟩
  refine⟨t.k_a0,_,true,T.x_a0,T.u_a0,T.at_a0,T.no_a0_row,a0b,fun H9 b9=>⟨rfl,?_⟩⟩
  obtain⟨dx9,h91,h92,h93⟩:=a2n hea (Same.refl _) hea b9
  refine⟨ea,t.k_a0,dx9,_,rfl,T.x_a0,h91,?_⟩
  exact q ea _ h93 h92
 have n1:f≠[48]:=fun h=>by
  have e:=Zo (a9p e)
  rw[c2r,h]at e
  exact e rfl
 walk_at "s"
 refine⟨f,rfl,hz,fun H1 s1=>?_⟩
 walk_at "s"
 refine iteB (fun e=>?_) (fun e=>?_)
 ·have e1:a2s f=false:=by simpa using e
  rw[if_pos (.inr e1)]at hk
  rw[c2w hk]at q
  have q:onX H t.k_a0 E:=q
  walk_at "s"
  refine⟨_,rfl,by decide+kernel,fun z=>?_⟩
  walk_at "s"
  refine⟨by simp,fun ea hea=>?_⟩
  refine⟨t.k_a0,_,true,T.x_a0,T.u_a0,T.at_a0,T.no_a0_row,a0b,fun H9 b9=>⟨rfl,?_⟩⟩
  obtain⟨dx9,h91,h92,h93⟩:=a2n hea (Same.refl _) hea b9
  refine⟨ea,t.k_a0,dx9,_,rfl,T.x_a0,h91,?_⟩
  exact q ea _ (s1.trans h93) h92
 have e1:a2s f=true:=by simpa using e
 rw[if_neg (fun z=>z.elim n1 (by rw[e1];simp))]at hk
 rw[b9d hk b1t.2.2.1,hk]at q
 walk_at "s"
 refine b8n (ln ?_) ?_
 ·have l1:(ofString "~").length=1:=by decide+kernel
  have l2:=str_len f
  omega
 walk_at "s"
 refine⟨ln (by show 2<=100000;decide),fun a ha=>?_⟩
 rw[show ofString "~"++(⟨f.toArray⟩:Str)=⟨(126::f).toArray⟩ by rw[b8y];exact b5z [126] f]
 exact q _ _ (s1.trans (a0d ha _)) (a8t (SqT.of a0b))
theorem c6k(T:Txt K mg t)(G_a8:FnOk P w K mg base CX0 1 t.a_a8 t.d_a8 ["sign"] (a6f))(G_a3:FnOk P w K mg base CX0 1 t.a_a3 t.d_a3 ["self","words","row"] (a1g K))(G_e0:FnOk P w K mg base CX0 1 t.a_e0 t.d_e0 ["run"] (a7n K))(G_e6:FnOk P w K mg base (CXo P w) 3 t.a_e6 t.d_e6 ["run"] (a3z K t.k_a0))(G_d3:FnOk P w K mg base (CXo P w) 3 t.a_d3 t.d_d3 ["run"] (a6x K t.k_a0))(G_d6:FnOk P w K mg base CX0 1 t.a_d6 t.d_d6 ["text","at"] (a9u))(G_c9:FnOk P w K mg base CX0 2 t.a_c9 t.d_c9 ["text","at"] (a8s)):FnOk P w K mg base (CXo P w) 4 t.a_d4 t.d_d4 ["text","at"] (a9v K t.k_a0):=by
 refine T.F_d4.okX b6w (fun vs H Q E h=>?_) (fun cdv A outer s H vs Q E hr h=>?_)
 ·unfold a9v at h
  split at h
  ·rfl
  ·exact h.elim
 unfold a9v at h
 split at h
 rotate_left
 ·exact h.elim
 refine⟨_,(a0g (a0m (i:=2) (hs:=a8p) b6w.nd rfl (by walk_at "or1") (a0s (a0n K rfl) (mv 0) (mv 1) (fun _ _=>rfl))) (a0g (a1e (a0v a7j (mv 2) (a2v rfl T.m_i4) (by with_unfolding_all rfl)) (a0h (a0o (a0y (a0a a0f (a0a (mv 2) a0c))))) a0z) (a0g (a1e (a0v a7j (mv 2) (a2v rfl T.m_h6) (by with_unfolding_all rfl)) (a0h (a0o (a0p G_e0 (hr.mono (by walk_at "r")) rfl T.m_e0 T.F_e0.kp T.b_e0 .nil a0r (a0a (a0p G_d6 (hr.mono (by walk_at "r")) rfl T.m_d6 T.F_d6.kp T.b_d6 .nil a0r (a0a (mv 0) (a0a (mv 1) a0c))) a0c)))) a0z) (a0g (a1e (a0v a1s (mv 2) (a2v rfl T.m_h0) (a0t _)) (a0h (a0o (a0p G_e6 (hr.mono (by walk_at "r")) rfl T.m_e6 T.F_e6.kp T.b_e6 .nil a2r (a0a (a0p G_c9 (hr.mono (by walk_at "r")) rfl T.m_c9 T.F_c9.kp T.b_c9 .nil a0r (a0a (mv 0) (a0a (a0l (a1f K rfl) (mv 1) a0e) a0c))) a0c)))) a0z) (a0g (a1e (a1n K rfl (a0p G_a8 (hr.mono (by walk_at "r")) rfl T.m_a8 T.F_a8.kp T.b_a8 .nil a0r (a0a (mv 2) a0c))) (a0h (a0o (a0p G_d3 (hr.mono (by walk_at "r")) rfl T.m_d3 T.F_d3.kp T.b_d3 .nil a2r (a0a (a0p G_c9 (hr.mono (by walk_at "r")) rfl T.m_c9 T.F_c9.kp T.b_c9 .nil a0r (a0a (mv 0) (a0a (mv 1) a0c))) a0c)))) a0z) (a0h (a4q rfl a5p (a4p T.mk_a0 G_a3 (hr.mono (by walk_at "r")) rfl T.m_a0 T.bd_a3 (show Vals [V.int 0] [Value.int 0 t.w_a3_0]from(.cons ⟨_,rfl⟩ .nil)) a0r (a0a (pe_fr (mv 2)) a0c))))))))),?_⟩
 rename_i s i
 obtain⟨pre,c,r,rfl,rfl,hz,hp,q⟩:=h
 have hlen:=hz
 rw[Za,length_cons]at hlen
 have hz':(⟨(pre++c::r).toArray⟩:Str).length<=sizeLine:=ln (by rw[str_len];omega)
 walk_at "s"
 refine a4y hz' c3v ?_
 walk_at "s"
 refine iteB (fun e=>?_) (fun e=>?_)
 ·have e1:c∈a3y.cps.toList:=by simpa[a3i]using e
  have hj:=c7n c e1
  rw[c4o hj.2.2.2 hj.1 hj.2.1,(c2v r).1]at q
  have hk:=c1k (r:=[]) e1
  rw[b9d hk b1t.1,hk]at q
  walk_at "s"
  exact⟨ln (by show 2<=100000;decide),fun a ha=>q _ _ (a0d ha _) (a8t (SqT.of a0b))⟩
 have n1:c∉a3y.cps.toList:=by simpa[a3i]using e
 walk_at "s"
 refine iteB (fun e=>?_) (fun e=>?_)
 ·have e1:mkc c:=by simpa[a3i]using e
  rw[d1n e1]at q
  have ew:(c::r).takeWhile (fun d=>decide (mkc d))=c::r.takeWhile (fun d=>decide (mkc d)):=by rw[Xw,if_pos (Zi e1)]
  have ed:=c2u (fun d=>decide (mkc d)) (c::r)
  rw[ew]at ed
  walk_at "s"
  refine⟨pre,c::r.takeWhile (fun d=>decide (mkc d)),(c::r).dropWhile (fun d=>decide (mkc d)),by rw[Zw,ed],rfl,by rw[Zw,ed];omega,fun y hy=>Zm (b9a (by rw[ew];exact hy)),fun y hy=>Zo (c0h hy),?_⟩
  walk_at "s"
  refine⟨_,rfl,fun v H' s' d'=>?_⟩
  have hk:=d1p (r:=r.takeWhile (fun d=>decide (mkc d))) e1
  rw[<-hk]at d'
  have hn:knB (c::r.takeWhile (fun d=>decide (mkc d)))=false:=by
   refine Zg ?_
   rw[hk]
   split
   ·exact b1t.1
   ·exact b1t.2.1
  rw[hn]at q
  exact q _ _ s' d'
 have n2:¬mkc c:=by simpa[a3i]using e
 walk_at "s"
 refine iteB (fun e=>?_) (fun e=>?_)
 ·have e1:c=126:=by
   have e:=Zm (a9p e)
   rw[b8y]at e
   exact b6h e
  subst e1
  rw[d1o]at q
  have ed:=c2u (fun d=>decide (inn d)) r
  walk_at "s"
  refine⟨pre++[126],r.takeWhile (fun d=>decide (inn d)),r.dropWhile (fun d=>decide (inn d)),by rw[Zw,ed];simp,by simp,by rw[Zw,ed];simp;omega,fun y hy=>Zm (b9a hy),fun y hy=>Zo (c0h hy),?_⟩
  walk_at "s"
  have hl2:=Ys List.length ed
  rw[Za]at hl2
  exact⟨_,rfl,by omega,q⟩
 have n3:c≠126:=fun z=>by
  have e:=Zo (a9p e)
  rw[b8y,z]at e
  exact e rfl
 walk_at "s"
 refine⟨c,rfl,?_⟩
 walk_at "s"
 refine iteB (fun e=>?_) (fun e=>?_)
 ·have e1:inn c:=Zm e
  rw[c4n e1]at q
  have ew:(c::r).takeWhile (fun d=>decide (inn d))=c::r.takeWhile (fun d=>decide (inn d)):=by rw[Xw,if_pos (Zi e1)]
  have ed:=c2u (fun d=>decide (inn d)) (c::r)
  rw[ew]at ed
  walk_at "s"
  refine⟨pre,c::r.takeWhile (fun d=>decide (inn d)),(c::r).dropWhile (fun d=>decide (inn d)),by rw[Zw,ed],rfl,by rw[Zw,ed];omega,fun y hy=>Zm (b9a (by rw[ew];exact hy)),fun y hy=>Zo (c0h hy),?_⟩
  walk_at "s"
  have hl2:=Ys List.length ed
  rw[Za,length_cons,length_cons]at hl2
  refine⟨c,_,rfl,e1,by rw[length_cons];omega,fun y hy=>hp y (Yg _ ?_),q⟩
  rw[<-ed]
  exact Xr _ hy
 ·have n4:¬inn c:=Zo e
  rw[c4o n2 n4 n3,(c2v r).1]at q
  rw[c2w (d3q n2 n4 n3 n1)]at q
  have q:onX H t.k_a0 E:=q
  walk_at "s"
  refine⟨_,rfl,b5q (l:=[c]) (fun y hy=>hp y (by rw[Zn.mp hy];simp)),by show 1<=5000;decide,fun z=>?_⟩
  walk_at "s"
  refine⟨by simp,fun ea hea=>?_⟩
  refine⟨t.k_a0,_,true,T.x_a0,T.u_a0,T.at_a0,T.no_a0_row,a0b,fun H9 b9=>⟨rfl,?_⟩⟩
  obtain⟨dx9,h91,h92,h93⟩:=a2n hea (Same.refl _) hea b9
  refine⟨ea,t.k_a0,dx9,_,rfl,T.x_a0,h91,?_⟩
  exact q ea _ h93 h92
theorem d1s(T:Txt K mg t)(G_d4:FnOk P w K mg base (CXo P w) 4 t.a_d4 t.d_d4 ["text","at"] (a9v K t.k_a0)):FnOk P w K mg base (CXo P w) 5 t.a_b1 t.d_b1 ["text"] (a8f K t.k_a0):=by
 refine T.F_b1.okX a8c (fun vs H Q E h=>?_) (fun cdv A outer s H vs Q E hr h=>?_)
 ·unfold a8f at h
  split at h
  ·rfl
  ·exact h.elim
 unfold a8f at h
 split at h
 rotate_left
 ·exact h.elim
 refine⟨_,(a0g (a0m (i:=1) (hs:=a7k) a8c.nd rfl (by walk_at "or1") (a1w a0c)) (a0g (a0m (i:=2) a8c.nd rfl (by walk_at "or1") a0e) (a0g (a4o Wc (a0v a4x (mv 2) (a1k (a3d K rfl) rfl T.n_g0 Z6 (a0a (mv 0) a0c)) (a0t _)) (a0h (a1e (a0v a1s (a0s (a0n K rfl) (mv 0) (mv 2) (fun _ _=>rfl)) a0f (a0t _)) (a0h (b3i (i:=2) a8c.nd rfl (by walk_at "or1") a0e a6n)) (a0g (a0m (i:=3) (hs:=a1q) a8c.nd rfl (by walk_at "or1") (a0p G_d4 (hr.mono (by walk_at "r")) rfl T.m_d4 T.F_d4.kp T.b_d4 .nil a2r (a0a (mv 0) (a0a (mv 2) a0c)))) (a0g (a1m (a3x K rfl Z0 Yn Yv a3v (mv 1) (a0a (mv 3) a0c))) (a0h (b3i (i:=2) a8c.nd rfl (by walk_at "or1") (a1k (a3d K rfl) rfl T.n_g0 Z6 (a0a (a0s (a0n K rfl) (mv 3) a0e (fun _ _=>rfl)) a0c)) a6n))))))) (a0h (a0o (mv 1)))))),?_⟩
 rename_i s
 obtain⟨l,rfl,hz,hpl,q⟩:=h
 have hz':(⟨l.toArray⟩:Str).length<=sizeLine:=ln (by rw[str_len];omega)
 walk_at "s"
 refine⟨Yo _,fun p hp0=>?_⟩
 walk_at "s"
 refine a3w (fun n σ' H'=>∃(pre rest:List Nat)(acc:List (List Nat))(us:List V)(v3:Option V)(e:Int),l=pre++rest/\bits l=acc++bits rest/\(acc.all fun b=>!knB b)=true/\σ'=[some (.str ⟨l.toArray⟩),some (.ref p),some (.int e),v3]/\e=(pre.length:Int)/\n=rest.length/\Same H H'/\H' p=some (.lst us)/\DenL K H' us (acc.map pcB)/\acc.length<=pre.length) l.length ⟨[],l,[],[],none,_,rfl,rfl,rfl,rfl,rfl,rfl,a0d hp0 _,a0b,.nil,Zl _⟩ (fun n σ' H' R hP kT kF=>?_)
 obtain⟨pre,rest,acc,us,v3,e,h1,h2,h3,rfl,h5,h6,h7,h8,h9,h10⟩:=hP
 have hL:=Ys List.length h1
 rw[Za]at hL
 have hlu:=h9.length
 rw[length_map]at hlu
 walk_at "s"
 refine b3g hz' ?_
 walk_at "s"
 rw[str_len]
 cases rest with
 |nil=>
  rw[Zg (by simp only[length_nil]at hL;omega)]
  refine kF H' ?_
  walk_at "s"
  rw[a7u,Yr]at h2
  have hg:a2a l=true:=by unfold a2a;rw[h2];exact h3
  rw[hg,h2]at q
  exact q p us H' hp0 h7 h8 h9
 |cons c r=>
  rw[length_cons]at hL h6
  rw[Zi (by omega)]
  refine kT H' (fun D' e1 e2 hnx hct=>?_)
  walk_at "s"
  subst h5
  have hat:atI l (pre.length:Int)=some c:=by rw[h1];exact c3v
  refine a4y hz' hat ?_
  walk_at "s"
  refine iteB (fun e=>?_) (fun e=>?_)
  ·have ec:c=32:=by
    have e:=Zm (a9p e)
    rw[bl_eq]at e
    exact b6h e
   subst ec
   walk_at "s"
   refine hnx _ _ r.length (by omega) ⟨pre++[32],r,acc,us,v3,_,by rw[h1];simp,by rw[h2,a4m],h3,rfl,by simp,rfl,h7,h8,h9,by simp;omega⟩
  have ec:c≠32:=fun z=>by
   have e:=Zo (a9p e)
   rw[bl_eq,z]at e
   exact e rfl
  rw[b1u ec]at h2
  walk_at "s"
  refine⟨pre,c,r,by rw[<-h1],rfl,by rw[<-h1];exact hz,by rw[<-h1];exact hpl,?_⟩
  have ed:=c2u (runP c) r
  generalize htw:r.takeWhile (runP c)=tw at h2 ed ⊢
  generalize hdw:r.dropWhile (runP c)=dw at h2 ed ⊢
  have hl2:=Ys List.length ed
  rw[Za]at hl2
  cases hk:knB (c::tw)with
  |true=>
   have hg:a2a l=false:=by unfold a2a;rw[h2];simp[hk]
   rw[hg]at q
   have q:onX H t.k_a0 E:=q
   exact q.mono h7
  |false=>
   refine fun v H2 s2 d2=>?_
   obtain⟨a,rfl,sq⟩:=c0g d2
   have h8':=s2 _ _ h8
   walk_at "s"
   refine⟨.inl ⟨rfl,_,SqL.of h8'⟩,?_⟩
   walk_at "s"
   refine a3j h8' (ln1 (by omega)) ?_
   have sq2:SqT K (upd H2 p (.lst (us++[.ref a]))) a [.str (kindOf (c::tw)),.str ⟨(c::tw).toArray⟩]:=b3h h8' _ _ sq
   have dn2:DenL K (upd H2 p (.lst (us++[.ref a]))) (us++[.ref a]) ((acc++[c::tw]).map pcB):=by
    rw[Zk]
    exact((h9.mono s2).lst h8').append (.cons (a8t sq2) .nil)
   have s3:Same H (upd H2 p (.lst (us++[.ref a]))):=a2k (h7.trans s2) hp0
   have k3:(upd H2 p (.lst (us++[.ref a]))) p=some (.lst (us++[.ref a])):=a0b
   generalize upd H2 p (.lst (us++[.ref a]))=H3 at sq2 dn2 s3 k3 ⊢
   walk_at "s"
   refine a1c sq2 (v:=.str ⟨(c::tw).toArray⟩) rfl ?_
   walk_at "s"
   refine b3g (ln (by rw[str_len,length_cons];omega)) ?_
   walk_at "s"
   rw[str_len]
   refine hnx _ _ dw.length (by omega) ⟨pre++(c::tw),dw,acc++[c::tw],_,_,_,by rw[h1,<-ed];simp,by rw[h2];simp,by rw[Ul,h3];simp[hk],rfl,by simp,rfl,s3,k3,dn2,by simp;omega⟩
theorem ok_c8(T:Txt K mg t)  :FnOk P w K mg base CX0 1 t.a_c8 t.d_c8 ["n"] (b9c K):=by
 refine T.F_c8.ok sc_c8 (fun vs H Q E h=>?_) (fun cdv A outer s H vs Q E hr h=>?_)
 ·unfold b9c at h
  split at h
  ·rfl
  ·exact h.elim
 unfold b9c at h
 split at h
 rotate_left
 ·exact h.elim
 refine⟨_,(a0h (a0o (a0y (a0a a0f (a0a (mv 0) a0c))))),?_⟩
 rename_i n
 walk_at "s"
 refine⟨ln (by show 2<=100000;decide),fun p1 hp1=>?_⟩
 have sp1:Same H (upd H p1 (.tup [.str (ofString "num"),.int n])):=a0d hp1 _
 have kp1:(upd H p1 (.tup [.str (ofString "num"),.int n])) p1=some (.tup [.str (ofString "num"),.int n]):=a0b
 generalize upd H p1 (.tup [.str (ofString "num"),.int n])=H1 at sp1 kp1 ⊢
 walk_at "s"
 exact h _ _ sp1 (.tup (SqT.of kp1) (.cons (.str _) (.cons (.int _) .nil)))
theorem c8v(T:Txt K mg t)  :FnOk P w K mg base CX0 1 t.a_e4 t.d_e4 ["name"] (b0p K):=by
 refine T.F_e4.ok c8r (fun vs H Q E h=>?_) (fun cdv A outer s H vs Q E hr h=>?_)
 ·unfold b0p at h
  split at h
  ·rfl
  ·exact h.elim
 unfold b0p at h
 split at h
 rotate_left
 ·exact h.elim
 refine⟨_,(a0h (a0o (a0y (a0a a0f (a0a (mv 0) a0c))))),?_⟩
 rename_i x
 walk_at "s"
 refine⟨ln (by show 2<=100000;decide),fun p1 hp1=>?_⟩
 have sp1:Same H (upd H p1 (.tup [.str (ofString "any"),.str x])):=a0d hp1 _
 have kp1:(upd H p1 (.tup [.str (ofString "any"),.str x])) p1=some (.tup [.str (ofString "any"),.str x]):=a0b
 generalize upd H p1 (.tup [.str (ofString "any"),.str x])=H1 at sp1 kp1 ⊢
 walk_at "s"
 exact h _ _ sp1 (.tup (SqT.of kp1) (.cons (.str _) (.cons (.str _) .nil)))
theorem ok_a6(T:Txt K mg t)  :FnOk P w K mg base CX0 1 t.a_a6 t.d_a6 ["sign","kids"] (b1w K):=by
 refine T.F_a6.ok sc_a6 (fun vs H Q E h=>?_) (fun cdv A outer s H vs Q E hr h=>?_)
 ·unfold b1w at h
  split at h
  ·rfl
  ·exact h.elim
 unfold b1w at h
 split at h
 rotate_left
 ·exact h.elim
 refine⟨_,(a0h (a0o (a0y (a0a a0f (a0a (mv 0) (a0a (a6m (c3q K rfl) rfl T.n_h4 Uq (a0a (mv 1) a0c)) a0c)))))),?_⟩
 rename_i s p
 obtain⟨us,ts,hS,hd,hl,q⟩:=h
 walk_at "s"
 refine d0q hS (fun p1 hp1=>?_)
 have s1:=a0d hp1 (.tup us)
 have k1:(upd H p1 (.tup us)) p1=some (.tup us):=a0b
 generalize upd H p1 (.tup us)=H1 at s1 k1 ⊢
 walk_at "s"
 refine⟨ln (by show 3<=100000;decide),fun p2 hp2=>?_⟩
 have sp2:Same H1 (upd H1 p2 (.tup [.str (ofString "app"),.str s,.ref p1])):=a0d hp2 _
 have kp2:(upd H1 p2 (.tup [.str (ofString "app"),.str s,.ref p1])) p2=some (.tup [.str (ofString "app"),.str s,.ref p1]):=a0b
 generalize upd H1 p2 (.tup [.str (ofString "app"),.str s,.ref p1])=H2 at sp2 kp2 ⊢
 walk_at "s"
 exact q _ _ (s1.trans sp2) (.tup (SqT.of kp2) (.cons (.str _) (.cons (.str _) (.cons (.tup (SqT.of (sp2 _ _ k1)) (hd.mono (s1.trans sp2))) .nil))))
theorem d3s(T:Txt K mg t)  :FnOk P w K mg base CX0 1 t.a_f5 t.d_f5 ["term"] (b4k K):=by
 refine T.F_f5.ok b1p (fun vs H Q E h=>?_) (fun cdv A outer s H vs Q E hr h=>?_)
 ·unfold b4k at h
  split at h
  ·rfl
  ·exact h.elim
 unfold b4k at h
 split at h
 rotate_left
 ·exact h.elim
 refine⟨_,(a0g (a0m (i:=1) b1p.nd rfl (by walk_at "or1") a0e) (a0g (a0m (i:=2) (hs:=a7k) b1p.nd rfl (by walk_at "or1") (a1w (a0a (mv 0) a0c))) (a0g (a4o Yj (a1n K rfl (mv 2)) (a0g (a0m (i:=3) (hs:=a1q) b1p.nd rfl (by walk_at "or1") (b1h K rfl Z0 Xn X8 b1f (mv 2))) (a0g (b3i (i:=1) b1p.nd rfl (by walk_at "or1") a0e a6n) (a0h (a1e (a0v a1s (a0s (a0n K rfl) (mv 3) a0e (fun _ _=>rfl)) a0f (a0t _)) (a0h (a1m (a3x K rfl Z0 V4 F.type_list_extend (d0m K rfl) (mv 2) (a0a (a0s (a0n K rfl) (mv 3) a0e (fun _ _=>rfl)) a0c)))) a0z))))) (a0h (a0o (mv 1)))))),?_⟩
 rename_i v
 obtain⟨t0,hd,hz,q⟩:=h
 walk_at "s"
 refine⟨ln (by show 1<=100000;decide),fun p hp=>?_⟩
 walk_at "s"
 refine a3w (fun n σ' H'=>∃(us:List V)(ts:List Trm)(c:Int)(o:Option V),σ'=[some v,some (.int c),some (.ref p),o]/\H' p=some (.lst us)/\DenL K H' us (Trm.dataL ts)/\c+(Trm.sizeL ts:Int)=(t0.size:Int)/\0<=c/\n=Trm.sizeL ts/\Same H H') t0.size ⟨[v],[t0],0,none,rfl,a0b,.cons (hd.mono (a0d hp _)) .nil,by simp[Trm.sizeL],by omega,by simp[Trm.sizeL],a0d hp _⟩ (fun n σ' H' R hP kT kF=>?_)
 obtain⟨us,ts,c,o,rfl,h1,h2,h3,h3',h4,h5⟩:=hP
 walk_at "s"
 refine .inl ⟨us,SqL.of h1,?_⟩
 rcases a2b ts with rfl|⟨ts',t1,rfl⟩
 ·have e:=h2.nil_inv
  subst e
  refine kF H' ?_
  walk_at "s"
  have e:c=(t0.size:Int):=by simp only[Trm.sizeL]at h3;omega
  rw[e]
  exact q H' h5
 ·rw[Trm.dataL_map,Zk,<-Trm.dataL_map]at h2
  obtain⟨us',u,rfl,g1,g2⟩:=DenL.snoc h2
  rw[Trm.sizeL_app]at h3 h4
  have s1:Trm.sizeL [t1]=t1.size:=by simp[Trm.sizeL]
  rw[s1]at h3 h4
  have e:(!(us'++[u]).isEmpty)=true:=by simp
  rw[e]
  refine kT H' (fun D' e1 e2 hnx hct=>?_)
  walk_at "s"
  refine⟨.inl ⟨rfl,_,SqL.of h1⟩,?_⟩
  refine b1j h1 ?_
  walk_at "s"
  have f1:DenL K (upd H' p (.lst us')) us' (Trm.dataL ts'):=g1.lst h1
  have f2:Den K (upd H' p (.lst us')) u t1.data:=g2.lst h1
  have f3:Same H (upd H' p (.lst us')):=a2k h5 hp
  have tp:=t1.size_pos
  cases t1 with
  |num m=>
   obtain⟨a,rfl,hs⟩:=b6a f2
   refine a1c hs (v:=.str numS) rfl ?_
   walk_at "s"
   refine b9b d1 ?_
   walk_at "s"
   exact hnx _ _ (Trm.sizeL ts') (by omega) ⟨us',ts',c+1,_,rfl,a0b,f1,by simp only[Trm.size]at h3;omega,by omega,rfl,f3⟩
  |any m=>
   obtain⟨a,rfl,hs⟩:=b6b f2
   refine a1c hs (v:=.str anyS) rfl ?_
   walk_at "s"
   refine b9b d2 ?_
   walk_at "s"
   exact hnx _ _ (Trm.sizeL ts') (by omega) ⟨us',ts',c+1,_,rfl,a0b,f1,by simp only[Trm.size]at h3;omega,by omega,rfl,f3⟩
  |app sg ks=>
   obtain⟨a,b,us2,rfl,hs,hb,hk⟩:=b6c f2
   refine a1c hs (v:=.str appS) rfl ?_
   walk_at "s"
   refine c7o d3 ?_
   walk_at "s"
   refine⟨.inl ⟨rfl,_,SqL.of a0b⟩,?_⟩
   walk_at "s"
   refine a1c hs (v:=.ref b) rfl ?_
   walk_at "s"
   simp only[Trm.size]at h3 h4 tp
   have l1:=f1.length
   have l2:=hk.length
   rw[Trm.dataL_map,length_map]at l1 l2
   have l3:=Trm.len_le ts'
   have l4:=Trm.len_le ks
   refine mExt_t a0b hb (ln (by omega)) ?_
   walk_at "s"
   refine hnx _ _ (Trm.sizeL (ts'++ks)) (by rw[Trm.sizeL_app];omega) ⟨us'++us2,ts'++ks,c+1,_,rfl,a0b,?_,by rw[Trm.sizeL_app];omega,by omega,rfl,a2k f3 hp⟩
   rw[Trm.dataL_map,Zk,<-Trm.dataL_map,<-Trm.dataL_map]
   exact(f1.append hk).lst a0b
end
section
variable{P:Program}{w:World}{K:W.Frag}{mg:Str->Option Value}{base:Heap}{t:Ad}
theorem c8w(T:Txt K mg t)(G_a6:FnOk P w K mg base CX0 1 t.a_a6 t.d_a6 ["sign","kids"] (b1w K)):FnOk P w K mg base CX0 2 t.a_c7 t.d_c7 ["things","rest"] (b0q K):=by
 refine T.F_c7.ok b0j (fun vs H Q E h=>?_) (fun cdv A outer s H vs Q E hr h=>?_)
 ·unfold b0q at h
  split at h
  ·rfl
  ·exact h.elim
 unfold b0q at h
 split at h
 rotate_left
 ·exact h.elim
 refine⟨_,(a0g (a0m (i:=2) b0j.nd rfl (by walk_at "or1") (mv 1)) (a0g (a7h Yj rfl (kpi_rev K rfl rfl T.n_i8 (a0a (mv 0) a0c)) (a6b (i:=3) b0j.nd rfl (by walk_at "or1")) (a0h (a0m (i:=2) (hs:=a1q) b0j.nd rfl (by walk_at "or1") (a0p G_a6 (hr.mono (by walk_at "r")) rfl T.m_a6 T.F_a6.kp T.b_a6 .nil a0r (a0a (a2v rfl T.m_i0) (a0a (a1w (a0a (mv 3) (a0a (mv 2) a0c))) a0c)))))) (a0h (a0o (mv 2))))),?_⟩
 rename_i p x
 obtain⟨us,ts,rt,hS,hd,hz,hx,q⟩:=h
 have hl:=b1v hd
 walk_at "s"
 refine⟨p,us,rfl,hS,?_⟩
 refine a5m row_rev (fun i σ' H'=>∃(y:V)(o:Option V),σ'=[some (.ref p),some x,some y,o]/\Same H H'/\Den K H' y (mkL (ts.drop (ts.length-i)) rt).data) ⟨x,none,rfl,Same.refl _,by rw[W1,List.drop_length];exact hx⟩ (fun i σ' H' hP=>by obtain⟨_,_,_,sm,_⟩:=hP;exact sm.seq hS) (fun i σ' H' hi hP=>?_) (fun σ' H' hP=>?_)
 ·obtain⟨y,o,rfl,sm,hy⟩:=hP
  obtain⟨w1,tk,e1,e2,e3,e4⟩:=dl_get hd (i:=us.length-1-i) (by omega)
  rw[e3]
  walk_at "s"
  refine⟨ln (by show 2<=100000;decide),fun p2 hp2=>?_⟩
  walk_at "s"
  have s2:=a0d hp2 (.lst [w1,y])
  refine⟨[w1,y],[tk,mkL (ts.drop (ts.length-i)) rt],SqL.of a0b,?_,by simp,fun r H2 s3 k3=>?_⟩
  ·simp only[Trm.dataL]
   exact .cons ((e4.mono sm).mono s2) (.cons (hy.mono s2) .nil)
  walk_at "s"
  refine⟨r,_,rfl,sm.trans (s2.trans s3),?_⟩
  have e5:ts.drop (ts.length-(i+1))=tk::ts.drop (ts.length-i):=d3r (by omega) (by rw[<-hl];exact e2)
  rw[e5,mkL]
  exact k3
 ·obtain⟨y,o,rfl,sm,hy⟩:=hP
  walk_at "s"
  rw[hl,U8,Yt]at hy
  exact q y H' sm hy
theorem c4s(T:Txt K mg t)(G_a8:FnOk P w K mg base CX0 1 t.a_a8 t.d_a8 ["sign"] (a6f)):FnOk P w K mg base CX0 2 t.a_b8 t.d_b8 ["text","firsts"] (a6r):=by
 refine T.F_b8.ok c4h (fun vs H Q E h=>?_) (fun cdv A outer s H vs Q E hr h=>?_)
 ·unfold a6r at h
  split at h
  ·rfl
  ·exact h.elim
 unfold a6r at h
 split at h
 rotate_left
 ·exact h.elim
 refine⟨_,(a0g (a1e (PW.pt (b3y (a4i (a1n K rfl (a1k (b8q K rfl) rfl T.n_g9 Xm (a0a (mv 0) (a0a (b1g rfl T.n_i1 boot_str) a0c))))) (b2y (a4i (b7e c2k c2k a0e (a1k (a3d K rfl) rfl T.n_g0 Z6 (a0a (mv 0) a0c)) (b0w rfl T.m_i2)))))) (a0h (a0o a3b)) a0z) (a0h (a0o (b5d (a2l a7j (a0s (a0n K rfl) (mv 0) a0e (fun _ _=>rfl)) (mv 1) (by with_unfolding_all rfl)) (b2z (a1k (d0j K rfl rfl) rfl T.n_i6 boot_all (a0a (b3f rfl (d0h (mv 0)) (a9b (a0i a9r) ["text","firsts"] ["text","firsts"] rfl rfl (by decide+kernel)) (fun _ _ _ _ _=>a9a) (fun _ _ _ _ _=>(a0p G_a8 (hr.mono (by walk_at "r")) rfl T.m_a8 T.F_a8.kp T.b_a8 .nil a0r (a0a (mv 0) a0c)))) a0c))))))),?_⟩
 rename_i s f
 obtain⟨z,rfl,⟨x,r,rfl,hx,hl,hi⟩,hf,q⟩:=h
 have hlen:=str_len (x::r)
 have hz':(⟨(x::r).toArray⟩:Str).length<=sizeLine:=ln (by rw[hlen,length_cons];omega)
 walk_at "A"
 refine b3g hz' ?_
 rw[hlen,length_cons]
 walk_at "s"
 refine iteB (fun e=>?_) (fun e=>absurd (Zo e) (by omega))
 walk_at "s"
 by_cases hb:r.length+1<=12
 rotate_left
 ·rw[show decide ((x::r).length<=12)=false from Zg (by rw[length_cons];exact hb)]at q
  rw[show decide (((r.length+1:Nat):Int)<=12)=false from Zg (by omega)]
  walk_at "D"
  exact q H (Same.refl H)
 rw[show decide ((x::r).length<=12)=true from Zi (by rw[length_cons];exact hb)]at q
 rw[show decide (((r.length+1:Nat):Int)<=12)=true from Zi (by omega)]
 walk_at "C"
 refine a4y hz' at0 ?_
 walk_at "s"
 rw[in_t hx]
 walk_at "D"
 have hall:∀y∈x::r,inn y:=fun y hy=>by
  rcases Zj.mp hy with z|z
  ·rw[z];exact hf x hx
  ·exact hi y z
 have hsz:(⟨(x::r).toArray⟩:Str).cps.size=r.length+1:=by simp
 refine⟨_,rfl,fun D hD=>?_⟩
 refine a7s (c6z _) (fun i ys H'=>Same H H'/\ys=(List.replicate i true).map V.bl/\H' D=some (.lst ys)) (ln (by rw[hsz];omega)) ⟨a0d hD _,rfl,a0b⟩ (fun _ _ _ _=>trivial) (fun i ys H' Q' hi' hl' hP k=>?_) (fun ys H' hl' hP=>?_)
 ·obtain⟨h1,h2,h3⟩:=hP
  rw[hsz]at hi'
  have hm:(⟨(x::r).toArray⟩:Str).cps.getD i 0∈x::r:=by
   have:i<(x::r).length:=by rw[length_cons];exact hi'
   simp only[Array.getD,Zf]
   rw[dif_pos this]
   exact Vf this
  walk_at "s"
  refine⟨_,rfl,?_⟩
  rw[Zi (hall _ hm)]
  refine k _ _ h3 ⟨a2k h1 hD,?_,a0b⟩
  rw[Tq,Zk,h2];rfl
 ·obtain⟨h1,h2,h3⟩:=hP
  walk_at "s"
  refine⟨_,SqL.of (h2▸h3),?_⟩
  have e:(List.replicate (⟨(x::r).toArray⟩:Str).cps.size true).all id=true:=by simp
  show Q (.bl ((List.replicate (⟨(x::r).toArray⟩:Str).cps.size true).all id)) H'
  rw[e]
  exact q H' h1
theorem c8x(T:Txt K mg t)(G_b8:FnOk P w K mg base CX0 2 t.a_b8 t.d_b8 ["text","firsts"] (a6r)):FnOk P w K mg base CX0 3 t.a_f0 t.d_f0 ["text"] (b0n):=by
 refine T.F_f0.ok c8s (fun vs H Q E h=>?_) (fun cdv A outer s H vs Q E hr h=>?_)
 ·unfold b0n at h
  split at h
  ·rfl
  ·exact h.elim
 unfold b0n at h
 split at h
 rotate_left
 ·exact h.elim
 refine⟨_,(a0h (a0o (a0p G_b8 (hr.mono (by walk_at "r")) rfl T.m_b8 T.F_b8.kp T.b_b8 .nil a0r (a0a (mv 0) (a0a (a2v rfl T.m_h1) a0c))))),?_⟩
 rename_i s
 obtain⟨z,rfl,hc,q⟩:=h
 walk_at "s"
 exact⟨z,rfl,hc,fun y hy=>a8e hy,q⟩
theorem c8y(T:Txt K mg t)(G_b8:FnOk P w K mg base CX0 2 t.a_b8 t.d_b8 ["text","firsts"] (a6r)):FnOk P w K mg base CX0 3 t.a_e8 t.d_e8 ["text"] (b0o):=by
 refine T.F_e8.ok c8t (fun vs H Q E h=>?_) (fun cdv A outer s H vs Q E hr h=>?_)
 ·unfold b0o at h
  split at h
  ·rfl
  ·exact h.elim
 unfold b0o at h
 split at h
 rotate_left
 ·exact h.elim
 refine⟨_,(a0h (a0o (a0p G_b8 (hr.mono (by walk_at "r")) rfl T.m_b8 T.F_b8.kp T.b_b8 .nil a0r (a0a (mv 0) (a0a (a2v rfl T.m_h2) a0c))))),?_⟩
 rename_i s
 obtain⟨z,rfl,hc,q⟩:=h
 walk_at "s"
 exact⟨z,rfl,hc,fun y hy=>b2j hy,q⟩
theorem b9e(T:Txt K mg t)(G_f0:FnOk P w K mg base CX0 3 t.a_f0 t.d_f0 ["text"] (b0n))(G_a3:FnOk P w K mg base CX0 1 t.a_a3 t.d_a3 ["self","words","row"] (a1g K)):FnOk P w K mg base (CXo P w) 4 t.a_c2 t.d_c2 ["text"] (a5b t.k_a0):=by
 refine T.F_c2.okX b8v (fun vs H Q E h=>?_) (fun cdv A outer s H vs Q E hr h=>?_)
 ·unfold a5b at h
  split at h
  ·rfl
  ·exact h.elim
 unfold a5b at h
 split at h
 rotate_left
 ·exact h.elim
 refine⟨_,(a0g (a1e (a4i (a1n K rfl (a0p G_f0 (hr.mono (by walk_at "r")) rfl T.m_f0 T.F_f0.kp T.b_f0 .nil a0r (a0a (mv 0) a0c)))) (a0h (a4q rfl a5p (a4p T.mk_a0 G_a3 (hr.mono (by walk_at "r")) rfl T.m_a0 T.bd_a3 (show Vals [V.int 0] [Value.int 0 t.w_a3_0]from(.cons ⟨_,rfl⟩ .nil)) a0r (a0a (pe_fT (mv 0)) a0c)))) a0z) (a0h (a0o (mv 0)))),?_⟩
 rename_i s
 obtain⟨z,rfl,hc,q⟩:=h
 have hz:z.length<=2001:=by obtain⟨x,r,rfl,_,h,_⟩:=hc;simp;omega
 walk_at "s"
 refine⟨z,rfl,hc,fun H1 s1=>?_⟩
 walk_at "s"
 cases hb:decide (z.length<=12)with
 |true=>
  rw[hb]at q
  walk_at "C"
  exact q H1 s1
 |false=>
  rw[hb]at q
  have q:onX H t.k_a0 E:=q
  walk_at "D"
  refine⟨_,rfl,by rw[str_len];omega,fun zz=>?_⟩
  walk_at "s"
  refine⟨by simp,fun ea hea=>?_⟩
  refine⟨t.k_a0,_,true,T.x_a0,T.u_a0,T.at_a0,T.no_a0_row,a0b,fun H9 b9=>⟨rfl,?_⟩⟩
  obtain⟨dx9,h91,h92,h93⟩:=a2n hea (Same.refl _) hea b9
  refine⟨ea,t.k_a0,dx9,_,rfl,T.x_a0,h91,?_⟩
  exact q ea _ (s1.trans h93) h92
theorem b9f(T:Txt K mg t)(G_e8:FnOk P w K mg base CX0 3 t.a_e8 t.d_e8 ["text"] (b0o))(G_a3:FnOk P w K mg base CX0 1 t.a_a3 t.d_a3 ["self","words","row"] (a1g K)):FnOk P w K mg base (CXo P w) 4 t.a_d2 t.d_d2 ["text"] (a6j t.k_a0):=by
 refine T.F_d2.okX b8w (fun vs H Q E h=>?_) (fun cdv A outer s H vs Q E hr h=>?_)
 ·unfold a6j at h
  split at h
  ·rfl
  ·exact h.elim
 unfold a6j at h
 split at h
 rotate_left
 ·exact h.elim
 refine⟨_,(a0g (a1e (a4i (a1n K rfl (a0p G_e8 (hr.mono (by walk_at "r")) rfl T.m_e8 T.F_e8.kp T.b_e8 .nil a0r (a0a (mv 0) a0c)))) (a0h (a4q rfl a5p (a4p T.mk_a0 G_a3 (hr.mono (by walk_at "r")) rfl T.m_a0 T.bd_a3 (show Vals [V.int 0] [Value.int 0 t.w_a3_0]from(.cons ⟨_,rfl⟩ .nil)) a0r (a0a (pe_fT (mv 0)) a0c)))) a0z) (a0h (a0o (mv 0)))),?_⟩
 rename_i s
 obtain⟨z,rfl,hc,q⟩:=h
 have hz:z.length<=2001:=by obtain⟨x,r,rfl,_,h,_⟩:=hc;simp;omega
 walk_at "s"
 refine⟨z,rfl,hc,fun H1 s1=>?_⟩
 walk_at "s"
 cases hb:decide (z.length<=12)with
 |true=>
  rw[hb]at q
  walk_at "C"
  exact q H1 s1
 |false=>
  rw[hb]at q
  have q:onX H t.k_a0 E:=q
  walk_at "D"
  refine⟨_,rfl,by rw[str_len];omega,fun zz=>?_⟩
  walk_at "s"
  refine⟨by simp,fun ea hea=>?_⟩
  refine⟨t.k_a0,_,true,T.x_a0,T.u_a0,T.at_a0,T.no_a0_row,a0b,fun H9 b9=>⟨rfl,?_⟩⟩
  obtain⟨dx9,h91,h92,h93⟩:=a2n hea (Same.refl _) hea b9
  refine⟨ea,t.k_a0,dx9,_,rfl,T.x_a0,h91,?_⟩
  exact q ea _ (s1.trans h93) h92
theorem d3t(c:Nat)(r:List Nat):cutS ⟨(c::r).toArray⟩ (some 1) none=⟨r.toArray⟩:=by
 unfold cutS HT.sIx
 simp[Str.length]
theorem c4t(T:Txt K mg t)  :FnOk P w K mg base CX0 1 t.a_d9 t.d_d9 ["text"] (a8u):=by
 refine T.F_d9.ok c4j (fun vs H Q E h=>?_) (fun cdv A outer s H vs Q E hr h=>?_)
 ·unfold a8u at h
  split at h
  ·rfl
  ·exact h.elim
 unfold a8u at h
 split at h
 rotate_left
 ·exact h.elim
 refine⟨_,(a0g (a1e (a0v a1s (a0s (a0n K rfl) (mv 0) a0e (fun _ _=>rfl)) (a2v rfl T.m_h0) (a0t _)) (a0h (a0o (a7m a5y (a6m c0b rfl T.n_h7 Tn (a0a (a3q c3o (mv 0) (a3r a0e) a5k) a0c))))) a0z) (a0h (a0o (a6m c0b rfl T.n_h7 Tn (a0a (mv 0) a0c))))),?_⟩
 rename_i s
 obtain⟨n,hn,q⟩:=h
 have hl:(a1i n).length<=30:=b7h (by decide) hn
 have e:=b7i n
 have hs:(ofString (toString (n:Int))).length<=640:=by rw[show(ofString (toString (n:Int)):Str)=⟨(a1i n).toArray⟩from e,str_len];omega
 obtain⟨h1,x,r,h2,_⟩:=b6d n
 rcases q with⟨rfl,q⟩|⟨rfl,q⟩
 ·walk_at "s"
  refine a4y (ln (by rw[str_len];omega)) (by rw[h2];exact at0) ?_
  walk_at "s"
  refine iteB (fun z=>?_) (fun z=>?_)
  ·exfalso
   rw[Zt,b8y]at z
   have:=b6h (Zm z)
   have:=h1 x (by rw[h2];exact Ze ..)
   omega
  walk_at "s"
  rw[<-e]
  exact⟨n,rfl,hs,q⟩
 ·walk_at "s"
  refine a4y (ln (by rw[str_len,length_cons];omega)) at0 ?_
  walk_at "s"
  refine iteB (fun z=>?_) (fun z=>absurd z (by rw[Zt,b8y];decide+kernel))
  walk_at "s"
  refine c3p (ln (by rw[str_len,length_cons];omega)) ?_
  rw[d3t,<-e]
  walk_at "s"
  refine⟨n,rfl,hs,?_⟩
  walk_at "s"
  exact q
theorem c4u{z:List Nat}(h:kindOf z=ofString "num"):(a2s z=true/\∀r,z≠126::r)\/∃f,z=126::f/\a2s f=true/\f≠[48]:=by
 cases z with
 |nil=>exact absurd h (by decide+kernel)
 |cons c r=>
  rw[kindOf]at h
  split at h
  ·exact absurd h (by decide+kernel)
  split at h
  ·split at h<;>exact absurd h (by decide+kernel)
  split at h
  ·rename_i e
   subst e
   split at h
   ·exact absurd h (by decide+kernel)
   ·rename_i n
    refine .inr ⟨r,rfl,?_,fun z=>n (.inl z)⟩
    cases e:a2s r with
    |true=>rfl
    |false=>exact absurd (.inr e) n
  ·rename_i n1
   split at h
   ·exact absurd h (by decide+kernel)
   split at h
   ·exact absurd h (by decide+kernel)
   split at h
   ·rename_i n2;exact .inl ⟨n2.2,fun x e=>n1 (Vb e).1⟩
   ·exact absurd h (by decide+kernel)
theorem b4v{z:List Nat}(h:kindOf z=ofString "word"):∃c r,z=c::r/\c∈a2p.cps.toList:=by
 cases z with
 |nil=>exact absurd h (by decide+kernel)
 |cons c r=>
  rw[kindOf]at h
  split at h
  ·exact absurd h (by decide+kernel)
  split at h
  ·split at h<;>exact absurd h (by decide+kernel)
  split at h
  ·split at h<;>exact absurd h (by decide+kernel)
  split at h
  ·rename_i n;exact⟨c,r,rfl,n⟩
  split at h
  ·exact absurd h (by decide+kernel)
  split at h<;>exact absurd h (by decide+kernel)
theorem c1y{z:List Nat}(h:kindOf z=ofString "name"):∃c r,z=c::r/\c∈a3e.cps.toList:=by
 cases z with
 |nil=>exact absurd h (by decide+kernel)
 |cons c r=>
  rw[kindOf]at h
  split at h
  ·exact absurd h (by decide+kernel)
  split at h
  ·split at h<;>exact absurd h (by decide+kernel)
  split at h
  ·split at h<;>exact absurd h (by decide+kernel)
  split at h
  ·exact absurd h (by decide+kernel)
  split at h
  ·rename_i n;exact⟨c,r,rfl,n⟩
  split at h<;>exact absurd h (by decide+kernel)
theorem Pok.calW{z:List Nat}(h:Pok z)(k:∃c r,z=c::r/\c∈a2p.cps.toList):Cal a2p.cps.toList z:=by
 obtain⟨c,r,rfl,h1,_,h2⟩:=h
 obtain⟨c',r',e,hc⟩:=k
 cases e
 exact⟨c,r,rfl,hc,by rw[length_cons]at h1;omega,h2 (a8e hc)⟩
theorem Pok.calN{z:List Nat}(h:Pok z)(k:∃c r,z=c::r/\c∈a3e.cps.toList):Cal a3e.cps.toList z:=by
 obtain⟨c,r,rfl,h1,_,h2⟩:=h
 obtain⟨c',r',e,hc⟩:=k
 cases e
 exact⟨c,r,rfl,hc,by rw[length_cons]at h1;omega,h2 (b2j hc)⟩
theorem Pok.sho{z:List Nat}(h:Pok z):sho ⟨z.toArray⟩:=by
 obtain⟨c,r,rfl,h1,h2,_⟩:=h
 exact⟨b5q h2,by rw[str_len];omega⟩
theorem d3u(z:List Nat):sho (kindOf z):=by
 have s1:L2.sho (ofString "sign"):=⟨by decide+kernel,by decide+kernel⟩
 have s2:L2.sho (ofString "mark"):=⟨by decide+kernel,by decide+kernel⟩
 have s3:L2.sho (ofString "num"):=⟨by decide+kernel,by decide+kernel⟩
 have s4:L2.sho (ofString "word"):=⟨by decide+kernel,by decide+kernel⟩
 have s5:L2.sho (ofString "name"):=⟨by decide+kernel,by decide+kernel⟩
 have s6:L2.sho a1x:=⟨by decide+kernel,by decide+kernel⟩
 cases z with
 |nil=>exact s6
 |cons c r=>
  rw[kindOf]
  repeat' split
  all_goals first|exact s1|exact s2|exact s3|exact s4|exact s5|exact s6
theorem end_sho:sho (ofString "end"):=⟨by decide+kernel,by decide+kernel⟩
theorem nil_sho:sho (ofString ""):=⟨by decide+kernel,by decide+kernel⟩
theorem c6l(T:Txt K mg t)(G_a3:FnOk P w K mg base CX0 1 t.a_a3 t.d_a3 ["self","words","row"] (a1g K))(G_c8:FnOk P w K mg base CX0 1 t.a_c8 t.d_c8 ["n"] (b9c K))(G_e4:FnOk P w K mg base CX0 1 t.a_e4 t.d_e4 ["name"] (b0p K))(G_a6:FnOk P w K mg base CX0 1 t.a_a6 t.d_a6 ["sign","kids"] (b1w K))(G_d9:FnOk P w K mg base CX0 1 t.a_d9 t.d_d9 ["text"] (a8u))(G_d2:FnOk P w K mg base (CXo P w) 4 t.a_d2 t.d_d2 ["text"] (a6j t.k_a0))(G_c2:FnOk P w K mg base (CXo P w) 4 t.a_c2 t.d_c2 ["text"] (a5b t.k_a0)):FnOk P w K mg base (CXo P w) 5 t.a_f3 t.d_f3 ["piece"] (a9w K t.k_a0):=by
 refine T.F_f3.okX c6f (fun vs H Q E h=>?_) (fun cdv A outer s H vs Q E hr h=>?_)
 ·unfold a9w at h
  split at h
  ·rfl
  ·exact h.elim
 unfold a9w at h
 split at h
 rotate_left
 ·exact h.elim
 refine⟨_,(a0g (a1e (a0v a1s (a0s (a0n K rfl) (mv 0) a0e (fun _ _=>rfl)) a0f (a0t _)) (a0h (a0o (a0p G_c8 (hr.mono (by walk_at "r")) rfl T.m_c8 T.F_c8.kp T.b_c8 .nil a0r (a0a (a0p G_d9 (hr.mono (by walk_at "r")) rfl T.m_d9 T.F_d9.kp T.b_d9 .nil a0r (a0a (a0s (a0n K rfl) (mv 0) a0e (fun _ _=>rfl)) a0c)) a0c)))) a0z) (a0g (a1e (a0v a1s (a0s (a0n K rfl) (mv 0) a0e (fun _ _=>rfl)) a0f (a0t _)) (a0h (a0o (a0p G_e4 (hr.mono (by walk_at "r")) rfl T.m_e4 T.F_e4.kp T.b_e4 .nil a0r (a0a (a0p G_d2 (hr.mono (by walk_at "r")) rfl T.m_d2 T.F_d2.kp T.b_d2 .nil a2r (a0a (a0s (a0n K rfl) (mv 0) a0e (fun _ _=>rfl)) a0c)) a0c)))) a0z) (a0g (a1e (a0v a1s (a0s (a0n K rfl) (mv 0) a0e (fun _ _=>rfl)) a0f (a0t _)) (a0h (a0o (a0p G_a6 (hr.mono (by walk_at "r")) rfl T.m_a6 T.F_a6.kp T.b_a6 .nil a0r (a0a (a0p G_c2 (hr.mono (by walk_at "r")) rfl T.m_c2 T.F_c2.kp T.b_c2 .nil a2r (a0a (a0s (a0n K rfl) (mv 0) a0e (fun _ _=>rfl)) a0c)) (a0a (a1w a0c) a0c))))) a0z) (a0h (a4q rfl a5p (a4p T.mk_a0 G_a3 (hr.mono (by walk_at "r")) rfl T.m_a0 T.bd_a3 (show Vals [V.int 0] [Value.int 0 t.w_a3_0]from(.cons ⟨_,rfl⟩ .nil)) a0r (a0a (pe_frT K rfl hr.gd (a7x hr) (mv 0)) a0c))))))),?_⟩
 rename_i v
 rcases h with⟨z,hd,pk,q⟩|⟨a,rfl,hs,q⟩
 ·obtain⟨a,rfl,hs⟩:=c0g hd
  have sz:=pk.sho
  unfold thgZ at q
  walk_at "s"
  refine a1c hs (v:=.str (kindOf z)) rfl ?_
  walk_at "s"
  refine iteB (fun e=>?_) (fun e=>?_)
  ·have e:kindOf z=ofString "num":=by rw[Zt]at e;exact Zm e
   rw[if_pos e]at q
   walk_at "s"
   refine a1c hs (v:=.str ⟨z.toArray⟩) rfl ?_
   walk_at "s"
   rcases c4u e with⟨h1,h2⟩|⟨f,rfl,h1,h2⟩
   ·obtain⟨n1,n2⟩:=d1r h1
    obtain⟨n3,_⟩:=b4j _ z rfl n1
    obtain⟨c,r,ez,hf,_⟩:=n1
    refine⟨valD z,Zx (c7q hf) (Vt (by decide) n2),.inl ⟨by rw[n3],?_⟩⟩
    rw[show valZ z=(valD z:Int) by rw[ez,valZ,if_neg (fun y=>h2 r (by rw[ez,y]))]]at q
    walk_at "s"
    exact q
   ·obtain⟨n1,n2⟩:=d1r h1
    obtain⟨n3,_⟩:=b4j _ f rfl n1
    obtain⟨c,r,ez,hf,_⟩:=n1
    refine⟨valD f,Zx (c7q hf) (Vt (by decide) n2),.inr ⟨by rw[n3],?_⟩⟩
    rw[show valZ (126::f)= -(valD f:Int) by rw[valZ,if_pos rfl]]at q
    walk_at "s"
    exact q
  have e1:¬kindOf z=ofString "num":=by rw[Zt]at e;exact Zo e
  rw[if_neg e1]at q
  walk_at "s"
  refine a1c hs (v:=.str (kindOf z)) rfl ?_
  walk_at "s"
  refine iteB (fun e=>?_) (fun e=>?_)
  ·have e:kindOf z=ofString "name":=by rw[Zt]at e;exact Zm e
   rw[if_pos e]at q
   walk_at "s"
   refine a1c hs (v:=.str ⟨z.toArray⟩) rfl ?_
   walk_at "s"
   refine⟨z,rfl,pk.calN (c1y e),?_⟩
   by_cases hz:z.length<=12
   ·rw[if_pos hz]at q
    rw[Zi hz]
    intro H1 s1
    walk_at "s"
    exact fun v H' s2 d2=>q v H' (s1.trans s2) d2
   ·rw[if_neg hz]at q
    rw[Zg hz]
    exact q
  have e2:¬kindOf z=ofString "name":=by rw[Zt]at e;exact Zo e
  rw[if_neg e2]at q
  walk_at "s"
  refine a1c hs (v:=.str (kindOf z)) rfl ?_
  walk_at "s"
  refine iteB (fun e=>?_) (fun e=>?_)
  ·have e:kindOf z=ofString "word":=by rw[Zt]at e;exact Zm e
   rw[if_pos e]at q
   walk_at "s"
   refine a1c hs (v:=.str ⟨z.toArray⟩) rfl ?_
   walk_at "s"
   refine⟨z,rfl,pk.calW (b4v e),?_⟩
   by_cases hz:z.length<=12
   ·rw[if_pos hz]at q
    rw[Zi hz]
    intro H1 s1
    walk_at "s"
    refine⟨ln (by show 0<=100000;decide),fun p1 hp1=>?_⟩
    walk_at "s"
    exact⟨[],[],SqL.of a0b,.nil,by simp,fun v H' s2 d2=>q v H' (s1.trans ((a0d hp1 _).trans s2)) d2⟩
   ·rw[if_neg hz]at q
    rw[Zg hz]
    exact q
  have e3:¬kindOf z=ofString "word":=by rw[Zt]at e;exact Zo e
  rw[if_neg e3]at q
  have q:onX H t.k_a0 E:=q
  walk_at "s"
  refine⟨a,kindOf z,⟨z.toArray⟩,rfl,hs,d3u z,sz,fun zz=>?_⟩
  walk_at "s"
  refine⟨by simp,fun ea hea=>?_⟩
  refine⟨t.k_a0,_,true,T.x_a0,T.u_a0,T.at_a0,T.no_a0_row,a0b,fun H9 b9=>⟨rfl,?_⟩⟩
  obtain⟨dx9,h91,h92,h93⟩:=a2n hea (Same.refl _) hea b9
  refine⟨ea,t.k_a0,dx9,_,rfl,T.x_a0,h91,?_⟩
  exact q ea _ h93 h92
 ·walk_at "s"
  refine a1c hs (v:=.str (ofString "end")) rfl ?_
  walk_at "s"
  refine iteB (fun e=>absurd e (by decide+kernel)) (fun e=>?_)
  walk_at "s"
  refine a1c hs (v:=.str (ofString "end")) rfl ?_
  walk_at "s"
  refine iteB (fun e=>absurd e (by decide+kernel)) (fun e=>?_)
  walk_at "s"
  refine a1c hs (v:=.str (ofString "end")) rfl ?_
  walk_at "s"
  refine iteB (fun e=>absurd e (by decide+kernel)) (fun e=>?_)
  walk_at "s"
  refine⟨a,_,_,rfl,hs,end_sho,nil_sho,fun zz=>?_⟩
  walk_at "s"
  refine⟨by simp,fun ea hea=>?_⟩
  refine⟨t.k_a0,_,true,T.x_a0,T.u_a0,T.at_a0,T.no_a0_row,a0b,fun H9 b9=>⟨rfl,?_⟩⟩
  obtain⟨dx9,h91,h92,h93⟩:=a2n hea (Same.refl _) hea b9
  refine⟨ea,t.k_a0,dx9,_,rfl,T.x_a0,h91,?_⟩
  exact q ea _ h93 h92
theorem c0k(T:Txt K mg t)(G_a3:FnOk P w K mg base CX0 1 t.a_a3 t.d_a3 ["self","words","row"] (a1g K)):FnOk P w K mg base (CXo P w) 3 t.a_e2 t.d_e2 ["earlier","later"] (a6y K t.k_a0):=by
 refine T.F_e2.okX c0e (fun vs H Q E h=>?_) (fun cdv A outer s H vs Q E hr h=>?_)
 ·unfold a6y at h
  split at h
  ·rfl
  ·exact h.elim
 unfold a6y at h
 split at h
 rotate_left
 ·exact h.elim
 refine⟨_,(a0g (a1e (a0v b5y (a0s (a0n K rfl) (mv 0) a0e (fun _ _=>rfl)) (a0s (a0n K rfl) (mv 1) a0e (fun _ _=>rfl)) (a0t _)) (a0h (a0o (a2l a4x (a0s (a0n K rfl) (mv 0) a0e (fun _ _=>rfl)) (a0s (a0n K rfl) (mv 1) a0e (fun _ _=>rfl)) (a0t _)))) a0z) (a0g (a1e (a0v a1s (a0s (a0n K rfl) (mv 1) a0e (fun _ _=>rfl)) a0f (a0t _)) (a0h (a4q rfl a5p (a4p T.mk_a0 G_a3 (hr.mono (by walk_at "r")) rfl T.m_a0 T.bd_a3 (show Vals [V.int 0] [Value.int 0 t.w_a3_0]from(.cons ⟨_,rfl⟩ .nil)) a0r (a0a a0f a0c)))) a0z) (a0h (a0o (a2l a1s (a0s (a0n K rfl) (mv 1) a0e (fun _ _=>rfl)) a0f (a0t _)))))),?_⟩
 rename_i a b
 obtain⟨e,l,ha,hb,q⟩:=h
 walk_at "s"
 refine a1c ha (v:=.int e.1) rfl ?_
 walk_at "s"
 refine a1c hb (v:=.int l.1) rfl ?_
 walk_at "s"
 unfold bf at q
 refine iteB (fun z=>?_) (fun z=>?_)
 ·have hne:¬e.1=l.1:=by intro y;rw[y]at z;simp at z
  rw[if_neg hne]at q
  walk_at "s"
  refine a1c ha (v:=.int e.1) rfl ?_
  walk_at "s"
  refine a1c hb (v:=.int l.1) rfl ?_
  walk_at "s"
  exact q H (Same.refl H)
 have heq:e.1=l.1:=by
  by_cases y:e.1=l.1
  ·exact y
  ·rw[Zg y]at z;simp at z
 rw[if_pos heq]at q
 walk_at "s"
 refine a1c hb (v:=.str l.2) rfl ?_
 walk_at "s"
 refine iteB (fun z=>?_) (fun z=>?_)
 ·have hn:l.2=a1x:=by rw[Zt]at z;exact Zm z
  rw[if_pos hn]at q
  walk_at "s"
  refine⟨by simp,fun ea hea=>?_⟩
  refine⟨t.k_a0,_,true,T.x_a0,T.u_a0,T.at_a0,T.no_a0_row,a0b,fun H9 b9=>⟨rfl,?_⟩⟩
  obtain⟨dx9,h91,h92,h93⟩:=a2n hea (Same.refl _) hea b9
  refine⟨ea,t.k_a0,dx9,_,rfl,T.x_a0,h91,?_⟩
  exact q ea _ h93 h92
 have hn:¬l.2=a1x:=by rw[Zt]at z;exact Zo z
 rw[if_neg hn]at q
 walk_at "s"
 refine a1c hb (v:=.str l.2) rfl ?_
 walk_at "s"
 rw[Zt]
 exact q H (Same.refl H)
end
section
variable{P:Program}{w:World}{K:W.Frag}{mg:Str->Option Value}{base:Heap}{t:Ad}
theorem c1z(T:Txt K mg t)  :FnOk P w K mg base CX0 1 t.a_d0 t.d_d0 ["self","kind","word"] (a6a K t.k_a2):=by
 refine T.F_d0.ok c1v (fun vs H Q E h=>?_) (fun cdv A outer s H vs Q E hr h=>?_)
 ·unfold a6a at h
  split at h
  ·rfl
  ·exact h.elim
 unfold a6a at h
 split at h
 rotate_left
 ·exact h.elim
 refine⟨_,(a0g (a6l (mv 0) (mv 1) rfl) (a0g (a6l (mv 0) (mv 2) rfl) (a0g (a6l (mv 0) (a1w a0c) rfl) (a0g (a6l (mv 0) (a1w a0c) rfl) (a0h (a6l (mv 0) (a1w a0c) rfl)))))),?_⟩
 rename_i l k w
 obtain⟨dx,hx,q⟩:=h
 walk_at "s"
 refine⟨l,_,dx,_,rfl,hx,T.cl_a2,T.no_a2_kind,by simp,?_⟩
 have e0:putF (ofString "kind") (.str k) []=[(a1o,V.str k)]:=by rfl
 rw[e0]
 have b0:But l H (upd H l (.ins t.k_a2 dx [(a1o,V.str k)])):=a6w _
 have c0:(upd H l (.ins t.k_a2 dx [(a1o,V.str k)])) l=some (.ins t.k_a2 dx [(a1o,V.str k)]):=a0b
 generalize upd H l (.ins t.k_a2 dx [(a1o,V.str k)])=J0 at b0 c0 ⊢
 walk_at "s"
 refine⟨l,_,dx,_,rfl,c0,T.cl_a2,T.no_a2_word,by simp,?_⟩
 have e1:putF (ofString "word") (.str w) [(a1o,V.str k)]=[(a1o,V.str k),(a2e,V.str w)]:=by simp only[putF,show ¬a1o=ofString "word" by decide+kernel,Xq]
 rw[e1]
 have b1:But l J0 (upd J0 l (.ins t.k_a2 dx [(a1o,V.str k),(a2e,V.str w)])):=a6w _
 have c1:(upd J0 l (.ins t.k_a2 dx [(a1o,V.str k),(a2e,V.str w)])) l=some (.ins t.k_a2 dx [(a1o,V.str k),(a2e,V.str w)]):=a0b
 generalize upd J0 l (.ins t.k_a2 dx [(a1o,V.str k),(a2e,V.str w)])=J1 at b1 c1 ⊢
 walk_at "s"
 refine⟨ln (by show 0<=100000;decide),fun pd hpd=>?_⟩
 have spd:=a0d hpd (.lst [])
 have kpd:(upd J1 pd (.lst [])) pd=some (.lst []):=a0b
 have npd:pd≠l:=fun z=>by rw[z,c1]at hpd;cases hpd
 generalize upd J1 pd (.lst [])=L2 at spd kpd ⊢
 have o2:=spd _ _ c1
 walk_at "s"
 refine⟨l,_,dx,_,rfl,o2,T.cl_a2,T.no_a2_done,by simp,?_⟩
 have e2:putF (ofString "done") (.ref pd) [(a1o,V.str k),(a2e,V.str w)]=[(a1o,V.str k),(a2e,V.str w),(a3g,V.ref pd)]:=by simp only[putF,show ¬a1o=ofString "done" by decide+kernel,show ¬a2e=ofString "done" by decide+kernel,Xq]
 rw[e2]
 have b2:But l L2 (upd L2 l (.ins t.k_a2 dx [(a1o,V.str k),(a2e,V.str w),(a3g,V.ref pd)])):=a6w _
 have c2:(upd L2 l (.ins t.k_a2 dx [(a1o,V.str k),(a2e,V.str w),(a3g,V.ref pd)])) l=some (.ins t.k_a2 dx [(a1o,V.str k),(a2e,V.str w),(a3g,V.ref pd)]):=a0b
 generalize upd L2 l (.ins t.k_a2 dx [(a1o,V.str k),(a2e,V.str w),(a3g,V.ref pd)])=J2 at b2 c2 ⊢
 walk_at "s"
 refine⟨ln (by show 0<=100000;decide),fun ps hps=>?_⟩
 have sps:=a0d hps (.lst [])
 have kps:(upd J2 ps (.lst [])) ps=some (.lst []):=a0b
 have nps:ps≠l:=fun z=>by rw[z,c2]at hps;cases hps
 generalize upd J2 ps (.lst [])=L3 at sps kps ⊢
 have o3:=sps _ _ c2
 walk_at "s"
 refine⟨l,_,dx,_,rfl,o3,T.cl_a2,T.no_a2_sides,by simp,?_⟩
 have e3:putF (ofString "sides") (.ref ps) [(a1o,V.str k),(a2e,V.str w),(a3g,V.ref pd)]=[(a1o,V.str k),(a2e,V.str w),(a3g,V.ref pd),(a4r,V.ref ps)]:=by simp only[putF,show ¬a1o=ofString "sides" by decide+kernel,show ¬a2e=ofString "sides" by decide+kernel,show ¬a3g=ofString "sides" by decide+kernel,Xq]
 rw[e3]
 have b3:But l L3 (upd L3 l (.ins t.k_a2 dx [(a1o,V.str k),(a2e,V.str w),(a3g,V.ref pd),(a4r,V.ref ps)])):=a6w _
 have c3:(upd L3 l (.ins t.k_a2 dx [(a1o,V.str k),(a2e,V.str w),(a3g,V.ref pd),(a4r,V.ref ps)])) l=some (.ins t.k_a2 dx [(a1o,V.str k),(a2e,V.str w),(a3g,V.ref pd),(a4r,V.ref ps)]):=a0b
 generalize upd L3 l (.ins t.k_a2 dx [(a1o,V.str k),(a2e,V.str w),(a3g,V.ref pd),(a4r,V.ref ps)])=J3 at b3 c3 ⊢
 walk_at "s"
 refine⟨ln (by show 0<=100000;decide),fun pw hpw=>?_⟩
 have spw:=a0d hpw (.lst [])
 have kpw:(upd J3 pw (.lst [])) pw=some (.lst []):=a0b
 have npw:pw≠l:=fun z=>by rw[z,c3]at hpw;cases hpw
 generalize upd J3 pw (.lst [])=L4 at spw kpw ⊢
 have o4:=spw _ _ c3
 walk_at "s"
 refine⟨l,_,dx,_,rfl,o4,T.cl_a2,T.no_a2_waiting,by simp,?_⟩
 have e4:putF (ofString "waiting") (.ref pw) [(a1o,V.str k),(a2e,V.str w),(a3g,V.ref pd),(a4r,V.ref ps)]=[(a1o,V.str k),(a2e,V.str w),(a3g,V.ref pd),(a4r,V.ref ps),(b4l,V.ref pw)]:=by simp only[putF,show ¬a1o=ofString "waiting" by decide+kernel,show ¬a2e=ofString "waiting" by decide+kernel,show ¬a3g=ofString "waiting" by decide+kernel,show ¬a4r=ofString "waiting" by decide+kernel,Xq]
 rw[e4]
 have b4:But l L4 (upd L4 l (.ins t.k_a2 dx [(a1o,V.str k),(a2e,V.str w),(a3g,V.ref pd),(a4r,V.ref ps),(b4l,V.ref pw)])):=a6w _
 have c4:(upd L4 l (.ins t.k_a2 dx [(a1o,V.str k),(a2e,V.str w),(a3g,V.ref pd),(a4r,V.ref ps),(b4l,V.ref pw)])) l=some (.ins t.k_a2 dx [(a1o,V.str k),(a2e,V.str w),(a3g,V.ref pd),(a4r,V.ref ps),(b4l,V.ref pw)]):=a0b
 generalize upd L4 l (.ins t.k_a2 dx [(a1o,V.str k),(a2e,V.str w),(a3g,V.ref pd),(a4r,V.ref ps),(b4l,V.ref pw)])=J4 at b4 c4 ⊢
 walk_at "s"
 have kd2:J2 pd=some (.lst []):=b2 _ _ npd kpd
 have kd4:J4 pd=some (.lst []):=b4 _ _ npd (spw _ _ (b3 _ _ npd (sps _ _ kd2)))
 have ks4:J4 ps=some (.lst []):=b4 _ _ nps (spw _ _ (b3 _ _ nps kps))
 have kw4:J4 pw=some (.lst []):=b4 _ _ npw kpw
 have up:∀b o,b≠l->H b=some o->J1 b=some o:=fun b o hb e=>b1 _ _ hb (b0 _ _ hb e)
 have dn:∀b,b≠l->J1 b=none->H b=none:=fun b hb e=>by
  cases z:H b with
  |none=>rfl
  |some o=>rw[up b o hb z]at e;cases e
 have dn2:∀b,b≠l->J2 b=none->H b=none:=fun b hb e=>dn b hb (by
  cases z:J1 b with
  |none=>rfl
  |some o=>rw[b2 _ _ hb (spd _ _ z)]at e;cases e)
 have dn3:∀b,b≠l->J3 b=none->H b=none:=fun b hb e=>dn2 b hb (by
  cases z:J2 b with
  |none=>rfl
  |some o=>rw[b3 _ _ hb (sps _ _ z)]at e;cases e)
 exact q ⟨l,pd,ps,pw⟩ J4 rfl ⟨⟨dx,c4⟩,⟨[],kd4,.nil⟩,⟨[],ks4,.nil⟩,kw4,a1b kd2 hps,a1b (b3 _ _ npd (sps _ _ kd2)) hpw,a1b (b3 _ _ nps kps) hpw⟩ (fun b o hb e=>b4 _ _ hb (spw _ _ (b3 _ _ hb (sps _ _ (b2 _ _ hb (spd _ _ (up b o hb e))))))) (dn _ npd hpd) (dn2 _ nps hps) (dn3 _ npw hpw)
theorem c4v(T:Txt K mg t)(G_a6:FnOk P w K mg base CX0 1 t.a_a6 t.d_a6 ["sign","kids"] (b1w K)):FnOk P w K mg base CX0 2 t.a_b5 t.d_b5 ["level"] (a6s K t.k_a2):=by
 refine T.F_b5.ok b1r (fun vs H Q E h=>?_) (fun cdv A outer s H vs Q E hr h=>?_)
 ·unfold a6s at h
  split at h
  ·rfl
  ·exact h.elim
 unfold a6s at h
 split at h
 rotate_left
 ·exact h.elim
 refine⟨_,(a0g (a0m (i:=1) (hs:=a1q) b1r.nd rfl (by walk_at "or1") (b1h K rfl Z0 Xn X8 b1f (a1j (mv 0) rfl))) (a0g (a0m (i:=2) (hs:=a1q) b1r.nd rfl (by walk_at "or1") (b1h K rfl Z0 Xn X8 b1f (a1j (mv 0) rfl))) (a0h (a1m (a3x K rfl Z0 Yn Yv a3v (a1j (mv 0) rfl) (a0a (a0p G_a6 (hr.mono (by walk_at "r")) rfl T.m_a6 T.F_a6.kp T.b_a6 .nil a0r (a0a (b1h K rfl Z0 Xn X8 b1f (a1j (mv 0) rfl)) (a0a (a1w (a0a (mv 2) (a0a (mv 1) a0c))) a0c))) a0c)))))),?_⟩
 rename_i l
 obtain⟨f,lv,ss,a,b,ms,m,rfl,w,hs,hw,hl,q⟩:=h
 obtain⟨dx,ho⟩:=w.ob
 obtain⟨us,h1,h2⟩:=w.sd
 have h6:=w.wt
 rw[hs,show ss++[a,b]=(ss++[a])++[b] by simp,Trm.dataL_map,Zk,<-Trm.dataL_map]at h2
 obtain⟨us1,u1,rfl,d1,e1⟩:=DenL.snoc h2
 rw[hw,Zk]at h6
 walk_at "s"
 refine⟨_,_,dx,_,_,rfl,ho,T.cl_a2,T.no_a2_sides,a9m _ _ _,?_⟩
 walk_at "s"
 refine⟨.inl ⟨rfl,_,SqL.of h1⟩,?_⟩
 refine b1j h1 ?_
 have w1:=w.setS (ts:=ss++[a]) d1
 obtain⟨w1,g1⟩:=w1
 have e1':=e1.monoT (w.tup g1)
 generalize upd H f.sa (.lst us1)=H1 at w1 g1 e1' ⊢
 obtain⟨dx1,ho1⟩:=w1.ob
 obtain⟨us2',h3,h4⟩:=w1.sd
 simp only[]at h4
 rw[Trm.dataL_map,Zk,<-Trm.dataL_map]at h4
 obtain⟨us3,u2,rfl,d2,e2⟩:=DenL.snoc h4
 walk_at "s"
 refine⟨_,_,dx1,_,_,rfl,ho1,T.cl_a2,T.no_a2_sides,a9m _ _ _,?_⟩
 walk_at "s"
 refine⟨.inl ⟨rfl,_,SqL.of h3⟩,?_⟩
 refine b1j h3 ?_
 obtain⟨w2,g2⟩:=w1.setS (ts:=ss) d2
 have e1'':=e1'.monoT (w1.tup g2)
 have e2':=e2.monoT (w1.tup g2)
 generalize upd H1 f.sa (.lst us3)=H2 at w2 g2 e1'' e2' ⊢
 obtain⟨dx2,ho2⟩:=w2.ob
 obtain⟨us4,h5,d5⟩:=w2.sd
 have h7:H2 f.wa=some (.lst (ms.map V.str++[.str m])):=by have:=w2.wt;simp only[hw,Zk]at this;exact this
 walk_at "s"
 refine⟨_,_,dx2,_,_,rfl,ho2,T.cl_a2,T.no_a2_sides,a9m _ _ _,?_⟩
 walk_at "s"
 refine⟨.inl ⟨rfl,_,SqL.of h5⟩,?_⟩
 walk_at "s"
 refine⟨_,_,dx2,_,_,rfl,ho2,T.cl_a2,T.no_a2_waiting,a7a _ _ _,?_⟩
 walk_at "s"
 refine⟨.inl ⟨rfl,_,SqL.of h7⟩,?_⟩
 refine b1j h7 ?_
 obtain⟨w3,g3⟩:=w2.setW (ms:=ms)
 have f1:=e1''.monoT (w2.tup g3)
 have f2:=e2'.monoT (w2.tup g3)
 generalize upd H2 f.wa (.lst (ms.map V.str))=H3 at w3 g3 f1 f2 ⊢
 walk_at "s"
 refine⟨ln (by show 2<=100000;decide),fun p hp=>?_⟩
 have s4:=a0d hp (.lst [u2,u1])
 have k4:(upd H3 p (.lst [u2,u1])) p=some (.lst [u2,u1]):=a0b
 generalize upd H3 p (.lst [u2,u1])=H4 at s4 k4 ⊢
 walk_at "s"
 refine⟨[u2,u1],[a,b],SqL.of k4,.cons (f2.mono s4) (.cons (f1.mono s4) .nil),by simp,fun v H5 s5 d6=>?_⟩
 have w5:=w3.same (s4.trans s5)
 obtain⟨us6,h8,d8⟩:=w5.sd
 have l8:=b1v d8
 simp only[]at l8
 walk_at "s"
 refine a3j h8 (ln1 (by omega)) ?_
 walk_at "s"
 have d9:DenL K H5 (us6++[v]) (Trm.dataL (ss++[.app m [a,b]])):=by
  rw[Trm.dataL_map,Zk,<-Trm.dataL_map]
  exact d8.append (.cons d6 .nil)
 obtain⟨w6,g6⟩:=w5.setS d9
 exact q _ (g1.trans (g2.trans (g3.trans ((LF.of (s4.trans s5)).trans g6)))) w6
theorem d1t(T:Txt K mg t)(G_b5:FnOk P w K mg base CX0 2 t.a_b5 t.d_b5 ["level"] (a6s K t.k_a2)):FnOk P w K mg base CX0 3 t.a_a7 t.d_a7 ["level"] (a8g K t.k_a2):=by
 refine T.F_a7.ok d1i (fun vs H Q E h=>?_) (fun cdv A outer s H vs Q E hr h=>?_)
 ·unfold a8g at h
  split at h
  ·rfl
  ·exact h.elim
 unfold a8g at h
 split at h
 rotate_left
 ·exact h.elim
 refine⟨_,(a0g (a4o Yj (a1n K rfl (a1j (mv 0) rfl)) (a0h (a1m (a0p G_b5 (hr.mono (by walk_at "r")) rfl T.m_b5 T.F_b5.kp T.b_b5 .nil a0r (a0a (mv 0) a0c))))) (a0h (a1m (a3x K rfl Z0 Yn Yv a3v (a1j (mv 0) rfl) (a0a (b1h K rfl Z0 Xn X8 b1f (a1j (mv 0) rfl)) a0c))))),?_⟩
 rename_i l
 obtain⟨f,lv0,rfl,w0,hl,hm,hd,q⟩:=h
 walk_at "s"
 refine a3w (fun n σ' H'=>∃lv:Lv,σ'=[some (.ref f.l)]/\LvAt K t.k_a2 H' f lv/\lv.kind=lv0.kind/\lv.word=lv0.word/\lv.done=lv0.done/\lv.sides.length=lv.wait.length+1/\lv.wait.length=n/\n<=500/\jn lv.sides.reverse lv.wait.reverse=jn lv0.sides.reverse lv0.wait.reverse/\LF f H H') lv0.wait.length ⟨lv0,rfl,w0,rfl,rfl,rfl,hl,rfl,hm,rfl,LF.refl _ _⟩ (fun n σ' H' R hP kT kF=>?_)
 obtain⟨lv,rfl,w,e1,e2,e3,e4,e5,e6,e7,g⟩:=hP
 obtain⟨dx,ho⟩:=w.ob
 walk_at "s"
 refine⟨_,_,dx,_,_,rfl,ho,T.cl_a2,T.no_a2_waiting,a7a _ _ _,?_⟩
 refine .inl ⟨_,SqL.of w.wt,?_⟩
 rcases a2b lv.wait with z|⟨ms,m,z⟩
 ·rw[z]
  refine kF H' ?_
  have hs1:lv.sides.length=1:=by rw[e4,z];rfl
  obtain⟨x,hx⟩:∃x,lv.sides=[x]:=Td.mp hs1
  obtain⟨us,h1,h2⟩:=w.sd
  obtain⟨vs,h3,h4⟩:=w.dn
  have l4:=b1v h4
  rw[hx]at h2
  obtain⟨us1,u1,rfl,d1,d2⟩:=DenL.snoc (ds:=[]) (show DenL K H' us ([]++[x.data])from h2)
  cases d1
  walk_at "s"
  refine⟨_,_,dx,_,_,rfl,ho,T.cl_a2,T.no_a2_done,a6z _ _ _,?_⟩
  refine⟨.inl ⟨rfl,_,SqL.of h3⟩,?_⟩
  walk_at "s"
  refine⟨_,_,dx,_,_,rfl,ho,T.cl_a2,T.no_a2_sides,a9m _ _ _,?_⟩
  refine⟨.inl ⟨rfl,_,SqL.of h1⟩,?_⟩
  refine b1j h1 ?_
  obtain⟨w1,g1⟩:=w.setS (us:=[]) (ts:=[]) .nil
  have h3':(upd H' f.sa (.lst [])) f.da=some (.lst vs):=by rw[a0j w.n1];exact h3
  have h4':=h4.monoT (w.tup g1)
  have d2':=d2.monoT (w.tup g1)
  generalize upd H' f.sa (.lst [])=H1 at w1 g1 h3' h4' d2' ⊢
  walk_at "s"
  refine a3j h3' (ln1 (by rw[l4,e3];omega)) ?_
  walk_at "s"
  have d9:DenL K H1 (vs++[u1]) (Trm.dataL (lv.done++[x])):=by
   rw[Trm.dataL_map,Zk,<-Trm.dataL_map]
   exact h4'.append (.cons d2' .nil)
  obtain⟨w2,g2⟩:=w1.setD d9
  refine q x _ ?_ (g.trans (g1.trans g2)) ?_
  ·rw[<-e7,z,hx];rfl
  ·rw[e3]at w2
   have:({ lv with sides:=[],done:=lv0.done++[x]}:Lv)={ lv0 with done:=lv0.done++[x],sides:=[],wait:=[]}:=by
    cases lv;cases lv0;simp at e1 e2 z ⊢;exact⟨e1,e2,z⟩
   rw[<-this]
   exact w2
 ·have e:(!(lv.wait.map V.str).isEmpty)=true:=by rw[z];simp
  rw[e]
  obtain⟨ss1,b,hb⟩:∃r x,lv.sides=r++[x]:=by
   rcases a2b lv.sides with y|y
   ·rw[y]at e4;simp at e4
   ·exact y
  obtain⟨ss,a,ha⟩:∃r x,ss1=r++[x]:=by
   rcases a2b ss1 with y|y
   ·rw[hb,y,z]at e4;simp at e4
   ·exact y
  have hab:lv.sides=ss++[a,b]:=by rw[hb,ha];simp
  have ln1':lv.wait.length=ms.length+1:=by rw[z];simp
  have ln2:lv.sides.length=ss.length+2:=by rw[hab];simp
  refine kT H' (fun D' e1' e2' hnx hct=>?_)
  walk_at "s"
  refine⟨f,lv,ss,a,b,ms,m,rfl,w,hab,z,by omega,fun H1 g1 w1=>?_⟩
  walk_at "s"
  refine hnx _ _ ms.length (by omega) ⟨_,rfl,w1,e1,e2,e3,by simp;omega,rfl,by omega,?_,g.trans g1⟩
  rw[<-e7,hab,z]
  simp only[T6,Y4,List.reverse_nil,Yb,Z4]
  rw[jn]
theorem at_last'(xs:List V)(v:V):atI (xs++[v]) (-1)=some v:=by
 unfold atI ixN
 rw[Za,Z9]
 simp
 rw[if_pos (by omega)]
 simp[show(-1+((xs.length:Int)+1)).toNat=xs.length by omega]
theorem c6m(T:Txt K mg t)(G_e2:FnOk P w K mg base (CXo P w) 3 t.a_e2 t.d_e2 ["earlier","later"] (a6y K t.k_a0))(G_b5:FnOk P w K mg base CX0 2 t.a_b5 t.d_b5 ["level"] (a6s K t.k_a2)):FnOk P w K mg base (CXo P w) 4 t.a_e9 t.d_e9 ["level","mark","signs"] (a9x K t.k_a2 t.k_a0):=by
 refine T.F_e9.okX c6g (fun vs H Q E h=>?_) (fun cdv A outer s H vs Q E hr h=>?_)
 ·unfold a9x at h
  split at h
  ·rfl
  ·exact h.elim
 unfold a9x at h
 split at h
 rotate_left
 ·exact h.elim
 refine⟨_,(a0g (a1e (a0v (ko_ninD (hu_of hr)) (mv 1) (mv 2) (by with_unfolding_all rfl)) (a0h d2q) a0z) (a0g (a4o Wc (PW.pt (a8k (a1n K rfl (a1j (mv 0) rfl)) (a6u (a1n K rfl (a0p G_e2 (hr.mono (by walk_at "r")) rfl T.m_e2 T.F_e2.kp T.b_e2 .nil a2r (a0a (c6y (hu_of hr) (mv 2) (a0s (a0n K rfl) (a1j (mv 0) rfl) (a7m a5y a0e) (fun _ _=>rfl)) (fun _ _=>rfl)) (a0a (c6y (hu_of hr) (mv 2) (mv 1) (fun _ _=>rfl)) a0c))))))) (a0h (a1m (a0p G_b5 (hr.mono (by walk_at "r")) rfl T.m_b5 T.F_b5.kp T.b_b5 .nil a0r (a0a (mv 0) a0c))))) (a0h (a1m (a3x K rfl Z0 Yn Yv a3v (a1j (mv 0) rfl) (a0a (mv 1) a0c)))))),?_⟩
 rename_i l m d
 obtain⟨f,lv0,kvs,tb,g0,rfl,w0,hdk,hT,hm,hws,hl,h5,q⟩:=h
 obtain⟨am,gm,v1,v2,v3⟩:∃a g,valV kvs (Sum.inr m)=some (.ref a)/\lkT tb m=some g/\SqT K H a [.int g.1,.str g.2]:=by
  rcases hT.val m with⟨_,z⟩|z
  ·rw[hm]at z;cases z
  ·exact z
 rw[hm]at v2
 cases v2
 have dg:DGet H d (.str m) (valV kvs (Sum.inr m)):=DGet.k (k:=Sum.inr m) hdk
 rw[v1]at dg
 walk_at "s"
 refine⟨d,_,rfl,dg,?_⟩
 walk_at "s"
 refine iteB (fun e=>absurd e (by simp)) (fun e=>?_)
 walk_at "s"
 refine a3w (fun n σ' H'=>∃lv:Lv,σ'=[some (.ref f.l),some (.str m),some (.ref d)]/\LvAt K t.k_a2 H' f lv/\lv.kind=lv0.kind/\lv.word=lv0.word/\lv.done=lv0.done/\lv.sides.length=lv.wait.length+1/\lv.wait.length=n/\n<=500/\(∀w∈lv.wait,(lkT tb w).isSome=true)/\addM tb m g0 lv.sides.reverse lv.wait.reverse=addM tb m g0 lv0.sides.reverse lv0.wait.reverse/\LF f H H') lv0.wait.length ⟨lv0,rfl,w0,rfl,rfl,rfl,hl,rfl,h5,hws,rfl,LF.refl _ _⟩ (fun n σ' H' R hP kT kF=>?_)
 obtain⟨lv,rfl,w,e1,e2,e3,e4,e5,e6,e8,e7,g⟩:=hP
 obtain⟨dx,ho⟩:=w.ob
 have tH:=w0.tup g
 have hdk':H' d=some (.dK kvs):=by
  refine g _ _ (fun z=>?_) hdk
  obtain⟨dx0,ho0⟩:=w0.ob
  obtain⟨u1,hu1,_⟩:=w0.dn
  obtain⟨u2,hu2,_⟩:=w0.sd
  simp only[Fp.all,Zj,Zy,Y5]at z
  rcases z with z|z|z|z
  ·rw[z,ho0]at hdk;cases hdk
  ·rw[z,hu1]at hdk;cases hdk
  ·rw[z,hu2]at hdk;cases hdk
  ·rw[z,w0.wt]at hdk;cases hdk
 walk_at "s"
 refine⟨_,_,dx,_,_,rfl,ho,T.cl_a2,T.no_a2_waiting,a7a _ _ _,?_⟩
 refine .inl ⟨_,SqL.of w.wt,?_⟩
 rcases a2b lv.wait with z|⟨ms,w1,z⟩
 ·rw[z]
  refine iteF ?_
  have hs1:lv.sides.length=1:=by rw[e4,z];rfl
  obtain⟨x,hx⟩:∃x,lv.sides=[x]:=Td.mp hs1
  rw[<-e7,z,hx]at q
  have ea:addM tb m g0 [x].reverse ([]:List Str).reverse=some ([x],[m]):=by simp[addM]
  rw[ea]at q
  refine kF H' ?_
  walk_at "s"
  obtain⟨dxZ,hoZ⟩:=w.ob
  refine⟨_,_,dxZ,_,_,rfl,hoZ,T.cl_a2,T.no_a2_waiting,a7a _ _ _,?_⟩
  refine⟨.inl ⟨rfl,_,SqL.of w.wt⟩,?_⟩
  walk_at "s"
  refine a3j w.wt (ln1 (by rw[length_map];omega)) ?_
  walk_at "s"
  obtain⟨wF,gF⟩:=w.setW (ms:=lv.wait++[m])
  rw[Zk]at wF gF
  refine q _ (g.trans gF) ?_
  have:({ lv with wait:=lv.wait++[m]}:Lv)={ lv0 with sides:=[x].reverse,wait:=[m].reverse}:=by
   cases lv;cases lv0;simp at e1 e2 e3 z hx ⊢;exact⟨e1,e2,e3,hx,z⟩
  rw[<-this]
  exact wF
 have e:(!(lv.wait.map V.str).isEmpty)=true:=by rw[z];simp
 rw[e]
 refine iteT ?_
 obtain⟨ss1,b,hb⟩:∃r x,lv.sides=r++[x]:=by
  rcases a2b lv.sides with y|y
  ·rw[y]at e4;simp at e4
  ·exact y
 obtain⟨ss,a,ha⟩:∃r x,ss1=r++[x]:=by
  rcases a2b ss1 with y|y
  ·rw[hb,y,z]at e4;simp at e4
  ·exact y
 have hab:lv.sides=ss++[a,b]:=by rw[hb,ha];simp
 have ln1':lv.wait.length=ms.length+1:=by rw[z];simp
 have ln2:lv.sides.length=ss.length+2:=by rw[hab];simp
 have hT':=hT.monoT tH
 obtain⟨a1,g1,y1,y2,y3⟩:∃a g,valV kvs (Sum.inr w1)=some (.ref a)/\lkT tb w1=some g/\SqT K H' a [.int g.1,.str g.2]:=by
  have:=e8 w1 (by rw[z];simp)
  rcases hT'.val w1 with⟨_,y⟩|y
  ·rw[y]at this;cases this
  ·exact y
 have hrev:lv.sides.reverse=b::a::ss.reverse:=by rw[hab];simp
 have wrev:lv.wait.reverse=w1::ms.reverse:=by rw[z];simp
 rw[hrev,wrev,addM,y2,Vd]at e7
 walk_at "s"
 refine⟨_,_,dx,_,_,rfl,ho,T.cl_a2,T.no_a2_waiting,a7a _ _ _,?_⟩
 walk_at "s"
 have hwt:=w.wt
 rw[z,Zk]at hwt
 refine a2f (SqL.of hwt) (at_last' _ _) ?_
 walk_at "s"
 refine⟨d,_,rfl,by rw[<-y1];exact DGet.k (k:=Sum.inr w1) hdk',?_⟩
 walk_at "s"
 refine⟨d,_,rfl,by rw[<-v1];exact DGet.k (k:=Sum.inr m) hdk',?_⟩
 walk_at "s"
 refine⟨g1,g0,y3,tH _ _ v3,?_⟩
 cases hbf:bf g1 g0 with
 |none=>
  rw[hbf]at e7
  simp only[]at e7
  rw[<-e7]at q
  exact fun ea H2 s2 hx=>q ea H2 (g.trans (LF.of s2)) hx
 |some r=>
  rw[hbf]at e7
  intro H1 s1
  have w':=w.same s1
  walk_at "s"
  cases r with
  |false=>
   simp only[]at e7
   rw[<-e7]at q
   refine kF H1 ?_
   walk_at "s"
   obtain⟨dxZ,hoZ⟩:=w'.ob
   refine⟨_,_,dxZ,_,_,rfl,hoZ,T.cl_a2,T.no_a2_waiting,a7a _ _ _,?_⟩
   refine⟨.inl ⟨rfl,_,SqL.of w'.wt⟩,?_⟩
   walk_at "s"
   refine a3j w'.wt (ln1 (by rw[length_map];omega)) ?_
   walk_at "s"
   obtain⟨wF,gF⟩:=w'.setW (ms:=lv.wait++[m])
   rw[Zk]at wF gF
   refine q _ ((g.trans (LF.of s1)).trans gF) ?_
   have:({ lv with wait:=lv.wait++[m]}:Lv)={ lv0 with sides:=(b::a::ss.reverse).reverse,wait:=(m::w1::ms.reverse).reverse}:=by
    cases lv;cases lv0;simp at e1 e2 e3 z hab ⊢;exact⟨e1,e2,e3,hab,by rw[z];simp⟩
   rw[<-this]
   exact wF
  |true=>
   simp only[]at e7
   refine kT H1 (fun D' e1' e2' hnx hct=>?_)
   walk_at "s"
   refine⟨f,lv,ss,a,b,ms,w1,rfl,w',hab,z,by omega,fun H2 g2 w2=>?_⟩
   walk_at "s"
   refine hnx _ _ ms.length (by omega) ⟨_,rfl,w2,e1,e2,e3,by simp;omega,rfl,by omega,fun y hy=>e8 y (by rw[z];exact Xr _ hy),?_,(g.trans (LF.of s1)).trans g2⟩
   rw[<-e7]
   simp
end
def clo(lv:Lv):Option Trm:=
 if lv.kind=ofString "round" then some (lv.done.headD a3f)
 else if lv.kind=ofString "list" then some (mkL lv.done a3f)
 else if lv.kind=ofString "rest" then some (mkL lv.done.dropLast (lv.done.getLastD a3f))
 else if lv.done.length<=4 then some (.app lv.word lv.done)else none
abbrev b2k(K:W.Frag)(C B:Addr):Sp:=fun vs H Q E=>match vs with| [.ref l]=>∃(f:Fp)(lv:Lv),f.l=l/\LvAt K C H f lv/\lv.done≠[]/\lv.done.length<=900/\resTh K H B Q E (clo lv)|_=>False
abbrev Pc.data(z:Pc):PyData:=pcB z
def Pc.ks(z:Pc):List Key:=[Sum.inr (kindOf z),Sum.inr ⟨z.toArray⟩]
theorem c4w(k k' w:Str)(f:Fp):putF (ofString "kind") (.str k') (fsL k w f)=fsL k' w f:=by
 simp only[fsL,putF]
 rfl
theorem LvAt.setK{K:W.Frag}{C:Addr}{H:Hp}{f:Fp}{lv:Lv}{dx:Addr}{k:Str}(w:LvAt K C H f lv)(ho:H f.l=some (.ins C dx (fsL lv.kind lv.word f))):LvAt K C (upd H f.l (.ins C dx (fsL k lv.word f))) f { lv with kind:=k}/\LF f H (upd H f.l (.ins C dx (fsL k lv.word f))):=by
 have g:LF f H (upd H f.l (.ins C dx (fsL k lv.word f))):=fun b o hb e=>by rw[a0j (fun z=>hb (by rw[z];simp[Fp.all]))];exact e
 have t:=w.tup g
 obtain⟨_,⟨vs,h2,h3⟩,⟨ws,h4,h5⟩,h6,n1,n2,n3⟩:=w
 have ne:∀{b:Addr}{us:List V},H b=some (.lst us)->b≠f.l:=fun e z=>by rw[z,ho]at e;cases e
 exact⟨⟨⟨dx,a0b⟩,⟨vs,by rw[a0j (ne h2)];exact h2,h3.monoT t⟩,⟨ws,by rw[a0j (ne h4)];exact h4,h5.monoT t⟩,by rw[a0j (ne h6)];exact h6,n1,n2,n3⟩,g⟩
abbrev rowN:Str:=ofString "row"
abbrev a2c:Str:=ofString "signs"
abbrev atN:Str:=ofString "at"
abbrev a8h:Str:=ofString "levels"
def fsR(pr pd:Addr)(i:Nat)(pv:Addr):List (Str×V):=[(rowN,.ref pr),(a2c,.ref pd),(atN,.int (i:Int)),(a8h,.ref pv)]
theorem d1u(pr pd:Addr)(i:Nat)(pv:Addr):(fsR pr pd i pv).lookup (ofString "row")=some (.ref pr):=by
 simp only[fsR,List.lookup,show(ofString "row"==rowN)=true by decide+kernel]
theorem d3v(pr pd:Addr)(i:Nat)(pv:Addr):(fsR pr pd i pv).lookup (ofString "signs")=some (.ref pd):=by
 simp only[fsR,List.lookup,show(ofString "signs"==rowN)=false by decide+kernel,show(ofString "signs"==a2c)=true by decide+kernel]
theorem a9y(pr pd:Addr)(i:Nat)(pv:Addr):(fsR pr pd i pv).lookup (ofString "at")=some (.int (i:Int)):=by
 simp only[fsR,List.lookup,show(ofString "at"==rowN)=false by decide+kernel,show(ofString "at"==a2c)=false by decide+kernel,show(ofString "at"==atN)=true by decide+kernel]
theorem a5q(pr pd:Addr)(i:Nat)(pv:Addr):(fsR pr pd i pv).lookup (ofString "levels")=some (.ref pv):=by
 simp only[fsR,List.lookup,show(ofString "levels"==rowN)=false by decide+kernel,show(ofString "levels"==a2c)=false by decide+kernel,show(ofString "levels"==atN)=false by decide+kernel,show(ofString "levels"==a8h)=true by decide+kernel]
theorem a1v{pr pd:Addr}{i:Nat}{pv:Addr}{m:Str}(h1:(m==rowN)=false:=by decide+kernel)(h2:(m==a2c)=false:=by decide+kernel)(h3:(m==atN)=false:=by decide+kernel)(h4:(m==a8h)=false:=by decide+kernel):(fsR pr pd i pv).lookup m=none:=by
 simp only[fsR,List.lookup,h1,h2,h3,h4]
theorem a8v(pr pd:Addr)(i j:Nat)(pv:Addr):putF (ofString "at") (.int (j:Int)) (fsR pr pd i pv)=fsR pr pd j pv:=by
 simp only[fsR,putF,show ¬rowN=ofString "at" by decide+kernel,show ¬a2c=ofString "at" by decide+kernel,Xq]
 rfl
theorem c8z(pr pd:Addr)(i:Nat)(pv pw:Addr):putF (ofString "levels") (.ref pw) (fsR pr pd i pv)=fsR pr pd i pw:=by
 simp only[fsR,putF,show ¬rowN=ofString "levels" by decide+kernel,show ¬a2c=ofString "levels" by decide+kernel,show ¬atN=ofString "levels" by decide+kernel,Xq]
 rfl
inductive a2i(K:W.Frag)(C:Addr)(H:Hp):List Fp->List Lv->Prop where
 |nil:a2i K C H [] []
 |cons {f:Fp} {lv:Lv} {fs:List Fp} {ls:List Lv}:LvAt K C H f lv->a2i K C H fs ls->a2i K C H (f::fs) (lv::ls)
theorem LvAt.fr{K:W.Frag}{C:Addr}{H H':Hp}{f:Fp}{lv:Lv}(w:LvAt K C H f lv)(h:∀b∈f.all,∀o,H b=some o->H' b=some o)(ht:∀a xs,SqT K H a xs->SqT K H' a xs):LvAt K C H' f lv:=by
 obtain⟨⟨dx,h1⟩,⟨us,h2,h3⟩,⟨vs,h4,h5⟩,h6,n1,n2,n3⟩:=w
 exact⟨⟨dx,h _ (by simp[Fp.all]) _ h1⟩,⟨us,h _ (by simp[Fp.all]) _ h2,h3.monoT ht⟩,⟨vs,h _ (by simp[Fp.all]) _ h4,h5.monoT ht⟩,h _ (by simp[Fp.all]) _ h6,n1,n2,n3⟩
theorem a2i.fr{K:W.Frag}{C:Addr}{H H':Hp}{fs:List Fp}{ls:List Lv}(w:a2i K C H fs ls)(h:∀f∈fs,∀b∈f.all,∀o,H b=some o->H' b=some o)(ht:∀a xs,SqT K H a xs->SqT K H' a xs):a2i K C H' fs ls:=by
 induction w with
 |nil=>exact .nil
 |cons a _ ih=>exact .cons (a.fr (h _ (Ze ..)) ht) (ih fun g hg=>h g (Zc _ hg))
theorem a2i.app{K:W.Frag}{C:Addr}{H:Hp}{fs gs:List Fp}{ls ms:List Lv}(w:a2i K C H fs ls)(v:a2i K C H gs ms):a2i K C H (fs++gs) (ls++ms):=by
 induction w with
 |nil=>exact v
 |cons a _ ih=>exact .cons a ih
theorem a2i.snoc{K:W.Frag}{C:Addr}{H:Hp}:∀{fs:List Fp}{ls:List Lv}{lv:Lv},a2i K C H fs (ls++[lv])->∃gs f,fs=gs++[f]/\a2i K C H gs ls/\LvAt K C H f lv
 |_,[],lv,h=>by
  cases h with
  |cons a r=>cases r;exact⟨[],_,rfl,.nil,a⟩
 |_,l::ls,lv,h=>by
  cases h with
  |cons a r=>
   obtain⟨gs,f,rfl,h1,h2⟩:=a2i.snoc r
   exact⟨_::gs,f,rfl,.cons a h1,h2⟩
structure RS(K:W.Frag)(CR CL:Addr)(H0 H:Hp)(x pr pd pv:Addr)(ps:List Pc)(tb:Tb)(i:Nat)(fps:List Fp)(lvs:List Lv):Prop where
 ob:∃dx,H x=some (.ins CR dx (fsR pr pd i pv))
 row:∃us,H0 pr=some (.lst us)/\DenL K H0 us (ps.map Pc.data)
 sg:∃kvs,H0 pd=some (.dK kvs)/\TR K H0 kvs tb
 lv:H pv=some (.lst (fps.map fun f=>V.ref f.l))
 al:a2i K CL H fps lvs
 sm:Same H0 H
 fx:H0 x=none
 fv:H0 pv=none
 ff:∀f∈fps,∀b∈f.all,H0 b=none
 dj:fps.Pairwise fun f g=>∀b∈f.all,b∉g.all
 nv:∀f∈fps,pv∉f.all/\x∉f.all
 lim:fps.length<=300/\ps.length<=275/\i<=900
theorem tup_upd'{K:W.Frag}{J:Hp}{D:Addr}{o0 o:HO}(h:J D=some o0)(n1:∀xs,o0≠.tup xs)(n2:∀o xs,o0≠.frz o (.tup xs)):∀a xs,SqT K J a xs->SqT K (upd J D o) a xs:=fun a xs q=>by
 rcases q with(q|⟨ob,q⟩)|q
 ·exact .inl (.inl (by rw[a0j (fun z=>by rw[z,h]at q;exact n1 _ (Zq q))];exact q))
 ·exact .inl (.inr ⟨ob,by rw[a0j (fun z=>by rw[z,h]at q;exact n2 _ _ (Zq q))];exact q⟩)
 ·exact .inr q
section
variable{K:W.Frag}{CR CL:Addr}{H0 H H':Hp}{x pr pd pv:Addr}{ps:List Pc}{tb:Tb}{i:Nat}{fps:List Fp}{lvs:List Lv}
theorem RS.same(w:RS K CR CL H0 H x pr pd pv ps tb i fps lvs)(s:Same H H'):RS K CR CL H0 H' x pr pd pv ps tb i fps lvs:=by
 obtain⟨dx,h⟩:=w.ob
 exact⟨⟨dx,s _ _ h⟩,w.row,w.sg,s _ _ w.lv,w.al.fr (fun _ _ b _ o e=>s _ _ e) (fun a xs q=>s.tup q),w.sm.trans s,w.fx,w.fv,w.ff,w.dj,w.nv,w.lim⟩
theorem RS.tup_ins{xs:List V}{a:Addr}{o:HO}(w:RS K CR CL H0 H x pr pd pv ps tb i fps lvs)(q:SqT K H a xs):SqT K (upd H x o) a xs:=by
 obtain⟨dx,h⟩:=w.ob
 exact tup_upd' h (fun _ z=>by cases z) (fun _ _ z=>by cases z) a xs q
theorem RS.setAt(w:RS K CR CL H0 H x pr pd pv ps tb i fps lvs){dx:Addr}{j:Nat}(hj:j<=900):RS K CR CL H0 (upd H x (.ins CR dx (fsR pr pd j pv))) x pr pd pv ps tb j fps lvs:=by
 obtain⟨dx0,h⟩:=w.ob
 refine⟨⟨dx,a0b⟩,w.row,w.sg,by rw[a0j (fun z=>by have:=w.lv;rw[z,h]at this;cases this)];exact w.lv,w.al.fr (fun f hf b hb o e=>by rw[a0j (fun z=>(w.nv f hf).2 (by rw[<-z];exact hb))];exact e) (fun a xs q=>w.tup_ins q),fun b o e=>by rw[a0j (fun z=>by rw[z,w.fx]at e;cases e)];exact w.sm _ _ e,w.fx,w.fv,w.ff,w.dj,w.nv,⟨w.lim.1,w.lim.2.1,hj⟩⟩
theorem a2i.mem{f:Fp}{C:Addr}(w:a2i K C H fps lvs)(h:f∈fps):∃lv,LvAt K C H f lv:=by
 induction w with
 |nil=>cases h
 |cons a _ ih=>
  rcases Zj.mp h with z|z
  ·rw[z];exact⟨_,a⟩
  ·exact ih z
theorem LvAt.has{f:Fp}{lv:Lv}{C:Addr}(w:LvAt K C H f lv):∀b∈f.all,∃o,H b=some o:=fun b hb=>by
 obtain⟨dx,h1⟩:=w.ob
 obtain⟨us,h2,_⟩:=w.dn
 obtain⟨vs,h3,_⟩:=w.sd
 simp only[Fp.all,Zj,Zy,Y5]at hb
 rcases hb with y|y|y|y
 ·exact⟨_,by rw[y];exact h1⟩
 ·exact⟨_,by rw[y];exact h2⟩
 ·exact⟨_,by rw[y];exact h3⟩
 ·exact⟨_,by rw[y];exact w.wt⟩
theorem RS.push{f:Fp}{lv:Lv}(w:RS K CR CL H0 H x pr pd pv ps tb i fps lvs)(fr:∀b∈f.all,H b=none)(sG:Same H H')(hl:LvAt K CL H' f lv)(hm:fps.length<300):RS K CR CL H0 (upd H' pv (.lst ((fps++[f]).map fun f=>V.ref f.l))) x pr pd pv ps tb i (fps++[f]) (lvs++[lv]):=by
 have w':=w.same sG
 obtain⟨dx,h⟩:=w'.ob
 obtain⟨dxg,hg⟩:=w.ob
 have nf:∀{b o},H b=some o->b∉f.all:=fun e z=>by rw[fr _ z]at e;cases e
 have ht:∀a xs,SqT K H' a xs->SqT K (upd H' pv (.lst ((fps++[f]).map fun f=>V.ref f.l))) a xs:=tup_upd' w'.lv (fun _ z=>by cases z) (fun _ _ z=>by cases z)
 refine⟨⟨dx,by rw[a0j (fun z=>by have:=w'.lv;rw[<-z,h]at this;cases this)];exact h⟩,w.row,w.sg,a0b,(w'.al.fr (fun g hg b hb o e=>by rw[a0j (fun z=>(w.nv g hg).1 (by rw[<-z];exact hb))];exact e) ht).app (.cons (hl.fr (fun b hb o e=>by rw[a0j (fun z=>nf w.lv (by rw[<-z];exact hb))];exact e) ht) .nil),fun b o e=>by rw[a0j (fun z=>by rw[z,w.fv]at e;cases e)];exact w'.sm _ _ e,w.fx,w.fv,fun g hg'=>?_,Vv.mpr ⟨w.dj,U3 _ _,fun g hg' k hk b hb=>?_⟩,fun g hg'=>?_,⟨by rw[Za,Z9];omega,w.lim.2⟩⟩
 ·rcases Zv.mp hg' with z|z
  ·exact w.ff g z
  ·rw[Zn.mp z];exact fun b hb=>w.sm.free (fr b hb)
 ·rw[Zn.mp hk]
  obtain⟨lg,ag⟩:=w.al.mem hg'
  obtain⟨o,e⟩:=ag.has b hb
  exact nf e
 ·rcases Zv.mp hg' with z|z
  ·exact w.nv g z
  ·rw[Zn.mp z];exact⟨nf w.lv,nf hg⟩
theorem RS.top{fs:List Fp}{f:Fp}{ls:List Lv}{lv lv':Lv}(w:RS K CR CL H0 H x pr pd pv ps tb i (fs++[f]) (ls++[lv]))(h0:a2i K CL H fs ls)(h1:LvAt K CL H f lv)(g:LF f H H')(h2:LvAt K CL H' f lv'):RS K CR CL H0 H' x pr pd pv ps tb i (fs++[f]) (ls++[lv']):=by
 obtain⟨dx,h⟩:=w.ob
 have hf:=w.nv f (by simp)
 have hd:=(Vv.mp w.dj).2.2
 refine⟨⟨dx,g _ _ hf.2 h⟩,w.row,w.sg,g _ _ hf.1 w.lv,(h0.fr (fun k hk b hb o e=>g _ _ (hd k hk f (by simp) b hb) e) (h1.tup g)).app (.cons h2 .nil),fun b o e=>g _ _ (fun z=>by rw[w.ff f (by simp) b z]at e;cases e) (w.sm _ _ e),w.fx,w.fv,w.ff,w.dj,w.nv,w.lim⟩
end
abbrev endK:List Key:=[Sum.inr (ofString "end"),Sum.inr (ofString "")]
def pcK(ps:List Pc)(i:Nat):List Key:=((ps[i]?).map Pc.ks).getD [Sum.inr (ofString "end"),Sum.inr (ofString "")]
abbrev RdS(K:W.Frag)(CR CL:Addr)(H:Hp)(x:Addr)(R:Hp->Addr->Addr->Addr->List Pc->Tb->Nat->List Fp->List Lv->Prop):Prop:=∃(H0:Hp)(pr pd pv:Addr)(ps:List Pc)(tb:Tb)(i:Nat)(fps:List Fp)(lvs:List Lv),RS K CR CL H0 H x pr pd pv ps tb i fps lvs/\R H0 pr pd pv ps tb i fps lvs
def a4a(ps:List Pc)(i:Nat)(s:Str):Bool:=decide (pcK ps i=[Sum.inr (ofString "sign"),Sum.inr s])
abbrev a2t(K:W.Frag)(CR CL:Addr):Sp:=fun vs H Q _=>match vs with| [.ref x,.int k]=>RdS K CR CL H x fun _ _ _ _ ps _ i _ _=>∃n:Nat,k=(n:Int)/\n<=10/\∀a,SqT K H a ((pcK ps (i+n)).map kV)->Q (.ref a) H|_=>False
abbrev a2u(K:W.Frag)(CR CL:Addr):Sp:=fun vs H Q _=>match vs with| [.ref x,.str s]=>RdS K CR CL H x fun _ _ _ _ ps _ i _ _=>∀H',Same H H'->Q (.bl (a4a ps i s)) H'|_=>False
abbrev a5x(K:W.Frag)(CR CL:Addr):Sp:=fun vs H Q _=>match vs with| [.ref x,.str k,.str w,.int m]=>RdS K CR CL H x fun H0 pr pd pv ps tb i fps lvs=>∃n:Nat,m=(n:Int)/\n<=2/\fps.length<=290/\i<=890/\∀(f:Fp) H',RS K CR CL H0 H' x pr pd pv ps tb (i+n) (fps++[f]) (lvs++[⟨k,w,[],[],[]⟩])->Q .non H'|_=>False
section
variable{P:Program}{w:World}{K:W.Frag}{mg:Str->Option Value}{base:Heap}{t:Ad}
theorem at0v{x:V}{r:List V}:atI (x::r) 0=some x:=by
 obtain⟨v,e1,e2⟩:=b8m (xs:=x::r) (i:=0) (by omega) (by rw[length_cons];omega)
 rw[e1]
 simpa using e2.symm
theorem d1v(xs:List V)(a:V):cutV (xs++[a]) none (some (-1))=xs:=by
 unfold cutV HT.sIx
 have e:(-1+((xs.length:Int)+1)).toNat=xs.length:=by omega
 simp[e]
theorem d1w(T:Txt K mg t)(G_a6:FnOk P w K mg base CX0 1 t.a_a6 t.d_a6 ["sign","kids"] (b1w K))(G_c7:FnOk P w K mg base CX0 2 t.a_c7 t.d_c7 ["things","rest"] (b0q K))(G_a3:FnOk P w K mg base CX0 1 t.a_a3 t.d_a3 ["self","words","row"] (a1g K)):FnOk P w K mg base (CXo P w) 3 t.a_e3 t.d_e3 ["level"] (b2k K t.k_a2 t.k_a0):=by
 refine T.F_e3.okX d1j (fun vs H Q E h=>?_) (fun cdv A outer s H vs Q E hr h=>?_)
 ·unfold b2k at h
  split at h
  ·rfl
  ·exact h.elim
 unfold b2k at h
 split at h
 rotate_left
 ·exact h.elim
 refine⟨_,(a0g (a1e (a0v a1s (a1j (mv 0) rfl) a0f (a0t _)) (a0h (a0o (a0s (a0n K rfl) (a1j (mv 0) rfl) a0e (fun _ _=>rfl)))) a0z) (a0g (a1e (a0v a1s (a1j (mv 0) rfl) a0f (a0t _)) (a0h (a0o (a0p G_c7 (hr.mono (by walk_at "r")) rfl T.m_c7 T.F_c7.kp T.b_c7 .nil a0r (a0a (a1j (mv 0) rfl) (a0a (a5j (v:=.ref t.c_g1) rfl T.m_g1 rfl) a0c))))) a0z) (a0g (a1e (a0v a1s (a1j (mv 0) rfl) a0f (a0t _)) (a0h (a0o (a0p G_c7 (hr.mono (by walk_at "r")) rfl T.m_c7 T.F_c7.kp T.b_c7 .nil a0r (a0a (a3q (a7y K rfl) (a1j (mv 0) rfl) a5k (a3r (a7m a5y a0e))) (a0a (a0s (a0n K rfl) (a1j (mv 0) rfl) (a7m a5y a0e) (fun _ _=>rfl)) a0c))))) a0z) (a0g (a1e (a0v c2m (a1k (a3d K rfl) rfl T.n_g0 Z6 (a0a (a1j (mv 0) rfl) a0c)) (b0w rfl T.m_h3) (a0t _)) (a0h (a4q rfl a5p (a4p T.mk_a0 G_a3 (hr.mono (by walk_at "r")) rfl T.m_a0 T.bd_a3 (show Vals [V.int 0] [Value.int 0 t.w_a3_0]from(.cons ⟨_,rfl⟩ .nil)) a0r (a0a (d1d (b0w rfl T.m_h3)) a0c)))) a0z) (a0h (a0o (a0p G_a6 (hr.mono (by walk_at "r")) rfl T.m_a6 T.F_a6.kp T.b_a6 .nil a0r (a0a (a1j (mv 0) rfl) (a0a (a1j (mv 0) rfl) a0c))))))))),?_⟩
 rename_i l
 obtain⟨f,lv,rfl,w,hne,hlen,q⟩:=h
 obtain⟨dx,ho⟩:=w.ob
 obtain⟨us,h1,h2⟩:=w.dn
 have l2:=b1v h2
 unfold clo at q
 walk_at "s"
 refine⟨_,_,dx,_,_,rfl,ho,T.cl_a2,T.no_a2_kind,a9l _ _ _,?_⟩
 walk_at "s"
 refine iteB (fun e=>?_) (fun e=>?_)
 ·have e:lv.kind=ofString "round":=by rw[Zt]at e;exact Zm e
  rw[if_pos e]at q
  walk_at "s"
  refine⟨_,_,dx,_,_,rfl,ho,T.cl_a2,T.no_a2_done,a6z _ _ _,?_⟩
  walk_at "s"
  cases hd:lv.done with
  |nil=>exact absurd hd hne
  |cons y r=>
   rw[hd]at h2 q
   cases h2 with
   |cons d1 r1=>
    refine a2f (SqL.of h1) at0v ?_
    walk_at "s"
    exact q _ H (Same.refl H) d1
 have e1:¬lv.kind=ofString "round":=by rw[Zt]at e;exact Zo e
 rw[if_neg e1]at q
 walk_at "s"
 refine⟨_,_,dx,_,_,rfl,ho,T.cl_a2,T.no_a2_kind,a9l _ _ _,?_⟩
 walk_at "s"
 refine iteB (fun e=>?_) (fun e=>?_)
 ·have e:lv.kind=ofString "list":=by rw[Zt]at e;exact Zm e
  rw[if_pos e]at q
  walk_at "s"
  refine⟨_,_,dx,_,_,rfl,ho,T.cl_a2,T.no_a2_done,a6z _ _ _,?_⟩
  walk_at "s"
  exact⟨us,lv.done,a3f,SqL.of h1,h2,by omega,a2d (T.q_g1 H) (T.q_g1_2 H) .nil,q⟩
 have e2:¬lv.kind=ofString "list":=by rw[Zt]at e;exact Zo e
 rw[if_neg e2]at q
 walk_at "s"
 refine⟨_,_,dx,_,_,rfl,ho,T.cl_a2,T.no_a2_kind,a9l _ _ _,?_⟩
 walk_at "s"
 refine iteB (fun e=>?_) (fun e=>?_)
 ·have e:lv.kind=ofString "rest":=by rw[Zt]at e;exact Zm e
  rw[if_pos e]at q
  walk_at "s"
  refine⟨_,_,dx,_,_,rfl,ho,T.cl_a2,T.no_a2_done,a6z _ _ _,?_⟩
  walk_at "s"
  rcases a2b lv.done with hd|⟨r,y,hd⟩
  ·exact absurd hd hne
  rw[hd,Vx,Ts]at q
  have hr:r.length<=900:=by rw[hd,Za]at hlen;omega
  rw[hd,Trm.dataL_map,Zk,<-Trm.dataL_map]at h2
  obtain⟨us1,u1,rfl,f1,f2⟩:=DenL.snoc h2
  refine b0d (SqL.of h1) fun p2 hp2=>?_
  rw[d1v]
  walk_at "s"
  have s2:=a0d hp2 (.lst us1)
  have k2:(upd H p2 (.lst us1)) p2=some (.lst us1):=a0b
  generalize upd H p2 (.lst us1)=H2 at s2 k2 ⊢
  refine⟨_,_,dx,_,_,rfl,s2 _ _ ho,T.cl_a2,T.no_a2_done,a6z _ _ _,?_⟩
  walk_at "s"
  refine a2f (SqL.of (s2 _ _ h1)) (at_last' _ _) ?_
  walk_at "s"
  exact⟨us1,r,y,SqL.of k2,f1.mono s2,by omega,f2.mono s2,fun v' H' s' d'=>q v' H' (s2.trans s') d'⟩
 have e3:¬lv.kind=ofString "rest":=by rw[Zt]at e;exact Zo e
 rw[if_neg e3]at q
 walk_at "s"
 refine⟨_,_,dx,_,_,rfl,ho,T.cl_a2,T.no_a2_done,a6z _ _ _,?_⟩
 walk_at "s"
 refine b0c (SqL.of h1) ?_
 walk_at "s"
 refine iteB (fun e=>?_) (fun e=>?_)
 ·have e:=Zm e
  rw[if_neg (by omega)]at q
  have q:onX H t.k_a0 E:=q
  walk_at "s"
  refine⟨4,rfl,by decide+kernel,by decide+kernel,fun z=>?_⟩
  walk_at "s"
  refine⟨by simp,fun ea hea=>?_⟩
  refine⟨t.k_a0,_,true,T.x_a0,T.u_a0,T.at_a0,T.no_a0_row,a0b,fun H9 b9=>⟨rfl,?_⟩⟩
  obtain⟨dx9,h91,h92,h93⟩:=a2n hea (Same.refl _) hea b9
  refine⟨ea,t.k_a0,dx9,_,rfl,T.x_a0,h91,?_⟩
  exact q ea _ h93 h92
 have e:=Zo e
 rw[if_pos (by omega)]at q
 walk_at "s"
 refine⟨_,_,dx,_,_,rfl,ho,T.cl_a2,T.no_a2_word,fl_word _ _ _,?_⟩
 walk_at "s"
 refine⟨_,_,dx,_,_,rfl,ho,T.cl_a2,T.no_a2_done,a6z _ _ _,?_⟩
 walk_at "s"
 exact⟨us,lv.done,SqL.of h1,h2,by omega,q⟩
theorem b9g(T:Txt K mg t)  :FnOk P w K mg base CX0 1 t.a_a5 t.d_a5 ["self","ahead"] (a2t K t.k_a1 t.k_a2):=by
 refine T.F_a5.ok b2i (fun vs H Q E h=>?_) (fun cdv A outer s H vs Q E hr h=>?_)
 ·unfold a2t at h
  split at h
  ·rfl
  ·exact h.elim
 unfold a2t at h
 split at h
 rotate_left
 ·exact h.elim
 refine⟨_,(a0g (a0m (i:=2) (hs:=a2y) b2i.nd rfl (by walk_at "or1") (a0l (a1f K rfl) (a1j (mv 0) rfl) (mv 1))) (a0h (a0o (c3b (a0v a4x (mv 2) (a1k (a3d K rfl) rfl T.n_g0 Z6 (a0a (a1j (mv 0) rfl) a0c)) (a0t _)) (a0s (a0n K rfl) (a1j (mv 0) rfl) (mv 2) (fun _ _=>rfl)) (a5j (v:=.ref t.c_g6) rfl T.m_g6 rfl))))),?_⟩
 rename_i x k
 obtain⟨H0,pr,pd,pv,ps,tb,i,fps,lvs,w,n,rfl,hn,q⟩:=h
 obtain⟨dx,ho⟩:=w.ob
 obtain⟨us,h1,h2⟩:=w.row
 have hl:us.length=ps.length:=by rw[h2.length,length_map]
 walk_at "s"
 refine⟨_,_,dx,_,_,rfl,ho,T.cl_a1,T.no_a1_at,a9y _ _ _ _,?_⟩
 walk_at "s"
 refine⟨_,_,dx,_,_,rfl,ho,T.cl_a1,T.no_a1_row,d1u _ _ _ _,?_⟩
 walk_at "s"
 refine b0c (SqL.of (w.sm _ _ h1)) ?_
 walk_at "s"
 refine iteB (fun e=>?_) (fun e=>?_)
 ·have hlt:i+n<ps.length:=by have:=Zm e;omega
  walk_at "s"
  refine⟨_,_,dx,_,_,rfl,ho,T.cl_a1,T.no_a1_row,d1u _ _ _ _,?_⟩
  walk_at "s"
  have hx:us[i+n]? =some us[i+n]:=Zb (by omega)
  obtain⟨dd,e1,e2⟩:=h2.get hx
  rw[Yu,Zb hlt]at e1
  cases e1
  obtain⟨a,ea,hs⟩:=c0g e2
  have hat:atI us ((i:Int)+(n:Int))=some (.ref a):=by
   obtain⟨v,z1,z2⟩:=b8m (xs:=us) (i:=(i:Int)+(n:Int)) (by omega) (by omega)
   rw[z1,<-z2,show((i:Int)+(n:Int)).toNat=i+n by omega,hx,ea]
  refine a2f (SqL.of (w.sm _ _ h1)) hat ?_
  refine q a ?_
  rw[pcK,Zb hlt]
  exact w.sm.tup hs
 ·have hge:ps.length<=i+n:=by have:=Zo e;omega
  walk_at "s"
  refine q _ ?_
  rw[pcK,Vs hge]
  exact T.q_g6 H
theorem b9h(T:Txt K mg t)(G_a5:FnOk P w K mg base CX0 1 t.a_a5 t.d_a5 ["self","ahead"] (a2t K t.k_a1 t.k_a2)):FnOk P w K mg base CX0 2 t.a_a4 t.d_a4 ["self","text"] (a2u K t.k_a1 t.k_a2):=by
 refine T.F_a4.ok b8u (fun vs H Q E h=>?_) (fun cdv A outer s H vs Q E hr h=>?_)
 ·unfold a2u at h
  split at h
  ·rfl
  ·exact h.elim
 unfold a2u at h
 split at h
 rotate_left
 ·exact h.elim
 refine⟨_,(a0h (a0o (a2l (c7f K rfl (a7x hr)) (a2m (mv 0) T.cl_a1 T.me_a5 G_a5 (hr.mono (by walk_at "r")) T.b_a5 .nil a0r (a0a a0e a0c)) (a0y (a0a a0f (a0a (mv 1) a0c))) (a0t _)))),?_⟩
 rename_i x s
 obtain⟨H0,pr,pd,pv,ps,tb,i,fps,lvs,w,q⟩:=h
 obtain⟨dx,ho⟩:=w.ob
 walk_at "s"
 refine⟨x,dx,_,rfl,ho,a1v,?_⟩
 walk_at "s"
 refine⟨H0,pr,pd,pv,ps,tb,i,fps,lvs,w,0,rfl,by omega,fun v dv=>?_⟩
 rw[Wo]at dv
 walk_at "s"
 refine⟨ln (by show 2<=100000;decide),fun p hp=>?_⟩
 have sp:=a0d hp (.tup [.str (ofString "sign"),.str s])
 walk_at "s"
 exact⟨v,p,pcK ps i,[Sum.inr (ofString "sign"),Sum.inr s],rfl,rfl,sp.tup dv,SqT.of a0b,q _ sp⟩
theorem b7s(T:Txt K mg t)(G_d0:FnOk P w K mg base CX0 1 t.a_d0 t.d_d0 ["self","kind","word"] (a6a K t.k_a2)):FnOk P w K mg base CX0 3 t.a_c5 t.d_c5 ["self","kind","word","long"] (a5x K t.k_a1 t.k_a2):=by
 refine T.F_c5.ok b7q (fun vs H Q E h=>?_) (fun cdv A outer s H vs Q E hr h=>?_)
 ·unfold a5x at h
  split at h
  ·rfl
  ·exact h.elim
 unfold a5x at h
 split at h
 rotate_left
 ·exact h.elim
 refine⟨_,(a0g (a1m (a3x K rfl Z0 Yn Yv a3v (a1j (mv 0) rfl) (a0a (b3c T.mk_a2 G_d0 (hr.mono (by walk_at "r")) rfl T.m_a2 T.b_d0 .nil a0r (a0a (mv 1) (a0a (mv 2) a0c))) a0c))) (a0h (a7v (mv 0) (mv 3) a6n))),?_⟩
 rename_i x k w0 m
 obtain⟨H0,pr,pd,pv,ps,tb,i,fps,lvs,w,n,rfl,hn,hl,hi,q⟩:=h
 obtain⟨dx,ho⟩:=w.ob
 walk_at "s"
 refine⟨_,_,dx,_,_,rfl,ho,T.cl_a1,T.no_a1_levels,a5q _ _ _ _,?_⟩
 walk_at "s"
 refine⟨.inl ⟨rfl,_,SqL.of w.lv⟩,?_⟩
 walk_at "s"
 intro l dl hl0 hdl hne
 refine⟨dl,a0b,fun f H1 ef wl fr h1 h2 h3=>⟨rfl,?_⟩⟩
 subst ef
 have up:∀b o,H b=some o->(upd (upd H dl (.own f.l)) f.l (.ins t.k_a2 dl [])) b=some o:=fun b o e=>by rw[a0j (a1b e hl0),a0j (a1b e hdl)];exact e
 have sH:Same H H1:=fun b o e=>fr b o (a1b e hl0) (up b o e)
 have fresh:∀b∈f.all,H b=none:=fun b hb=>by
  cases z:H b with
  |none=>rfl
  |some o=>
   exfalso
   have u:=up b o z
   simp only[Fp.all,Zj,Zy,Y5]at hb
   rcases hb with y|y|y|y
   ·rw[y,hl0]at z;cases z
   ·rw[y,h1]at u;cases u
   ·rw[y,h2]at u;cases u
   ·rw[y,h3]at u;cases u
 walk_at "s"
 refine a3j (w.same sH).lv (ln1 (by rw[length_map];omega)) ?_
 have w2:=w.push fresh sH wl (by omega)
 rw[Zk,Sl]at w2
 obtain⟨dx2,ho2⟩:=w2.ob
 walk_at "s"
 refine⟨x,_,dx2,_,_,rfl,ho2,T.cl_a1,T.no_a1_at,a9y _ _ _ _,?_⟩
 walk_at "s"
 refine⟨dx2,_,ho2,by simp[fsR],?_⟩
 rw[show((i:Int)+(n:Int))=((i+n:Nat):Int) by omega,a8v]
 exact q f _ (w2.setAt (by omega))
end
abbrev sgK(s:String):List Key:=[Sum.inr (ofString "sign"),Sum.inr (ofString s)]
def hK:List Pc->List Key
 | []=>endK
 |z::_=>Pc.ks z
abbrev rdL:Lv:=⟨ofString "round",ofString "",[],[],[]⟩
abbrev ltL:Lv:=⟨ofString "list",ofString "",[],[],[]⟩
abbrev kdL(z:Str):Lv:=⟨ofString "kids",z,[],[],[]⟩
abbrev a2q:Lv:=⟨ofString "whole",ofString "",[],[],[]⟩
def opn:List Pc->List Lv->Option (List Pc×List Lv)
 | [],st=>some ([],st)
 |z::r,st=>
  if Pc.ks z=sgK "(" then opn r (rdL::st)
  else if Pc.ks z=sgK "["/\hK r≠sgK "]" then opn r (ltL::st)
  else match r with
   | []=>some ([z],st)
   |y::r'=>if kindOf z=ofString "word"/\Pc.ks y=sgK "(" then(if z.length<=12 then opn r' (kdL ⟨z.toArray⟩::st)else none)else some (z::y::r',st)
def thg:List Pc->Option (Trm×List Pc)
 | []=>none
 |z::r=>if Pc.ks z=sgK "[" then some (a3f,r.tail)else(thgZ z).map fun t=>(t,r)
def fin(lv:Lv):Lv:={ lv with done:=lv.done++[(jn lv.sides.reverse lv.wait.reverse).headD a3f],sides:=[],wait:=[]}
def clS(k:Str):Str:=if k=ofString "whole" then ofString "" else if k=ofString "round"\/k=ofString "kids" then ofString ")" else ofString "]"
def b5r(k:Str):Prop:=k=ofString "whole"\/k=ofString "round"\/k=ofString "kids"\/k=ofString "list"\/k=ofString "rest"
def cls:List Pc->Lv->List Lv->Option (List Pc×List Lv)
 |z::r,lv,lu::st=>if Pc.ks z=[Sum.inr (ofString "sign"),Sum.inr (clS lv.kind)]then(match clo (fin lv)with|none=>none|some t=>cls r { lu with sides:=lu.sides++[t]} st)else some (z::r,lv::lu::st)
 |r,lv,st=>some (r,lv::st)
def btw(tb:Tb)(lv:Lv):List Pc->Option (Option (List Pc×Lv))
 | []=>some none
 |z::r=>
  if kindOf z=ofString "mark" then(match lkT tb ⟨z.toArray⟩with|none=>none|some g=>(addM tb ⟨z.toArray⟩ g lv.sides.reverse lv.wait.reverse).map fun q=>some (r,{ lv with sides:=q.1.reverse,wait:=q.2.reverse}))
  else if Pc.ks z=sgK ","/\(lv.kind=ofString "kids"\/lv.kind=ofString "list")then some (some (r,fin lv))
  else if Pc.ks z=sgK "|"/\lv.kind=ofString "list" then some (some (r,{ fin lv with kind:=ofString "rest"}))
  else some none
def trn(tb:Tb)(r:List Pc)(st:List Lv):Option (Bool×List Pc×List Lv):=
 match opn r st with
 |some (r1,lv::st1)=>match thg r1 with
  |some (t,r2)=>match cls r2 { lv with sides:=lv.sides++[t]} st1 with
   |some (r3,lw::st3)=>match btw tb lw r3 with
    |some (some (r4,lx))=>some (true,r4,lx::st3)
    |some none=>some (false,r3,lw::st3)
    |none=>none
   |_=>none
  |none=>none
 |_=>none
structure LvO(tb:Tb)(i d:Nat)(lv:Lv):Prop where
 kd:b5r lv.kind
 ln:lv.sides.length=lv.wait.length+d
 bd:lv.sides.length+lv.done.length<=i
 wt:∀w∈lv.wait,(lkT tb w).isSome=true
inductive Stk(tb:Tb)(i:Nat):Nat->List Lv->Prop where
 |one {d:Nat} {lv:Lv}:LvO tb i d lv->lv.kind=ofString "whole"->Stk tb i d [lv]
 |cons {d:Nat} {lv lu:Lv} {st:List Lv}:LvO tb i d lv->lv.kind≠ofString "whole"->Stk tb i 0 (lu::st)->Stk tb i d (lv::lu::st)
theorem LvO.mono{tb:Tb}{i j d:Nat}{lv:Lv}(h:LvO tb i d lv)(hj:i<=j):LvO tb j d lv:=⟨h.kd,h.ln,Zz h.bd hj,h.wt⟩
theorem Stk.mono{tb:Tb}{i j d:Nat}{st:List Lv}(h:Stk tb i d st)(hj:i<=j):Stk tb j d st:=by
 induction h with
 |one a b=>exact .one (a.mono hj) b
 |cons a b _ ih=>exact .cons (a.mono hj) b ih
theorem Stk.top{tb:Tb}{i d:Nat}{lv:Lv}{st:List Lv}(h:Stk tb i d (lv::st)):LvO tb i d lv:=by
 cases h with
 |one a _=>exact a
 |cons a _ _=>exact a
theorem Stk.set{tb:Tb}{i j d e:Nat}{lv lw:Lv}{st:List Lv}(h:Stk tb i d (lv::st))(hj:i<=j)(w:LvO tb j e lw)(k1:lv.kind=ofString "whole"->lw.kind=ofString "whole")(k2:lw.kind=ofString "whole"->lv.kind=ofString "whole"):Stk tb j e (lw::st):=by
 cases h with
 |one a b=>exact .one w (k1 b)
 |cons a b c=>exact .cons w (fun z=>b (k2 z)) (c.mono hj)
theorem Stk.push{tb:Tb}{i j:Nat}{k:Str}{w:Str}{st:List Lv}(h:Stk tb i 0 st)(hj:i<=j)(hk:b5r k)(hn:k≠ofString "whole"):Stk tb j 0 (⟨k,w,[],[],[]⟩::st):=by
 have h':=h.mono hj
 cases h' with
 |one a b=>exact .cons ⟨hk,rfl,Yo _,fun _ z=>by cases z⟩ hn (.one a b)
 |cons a b c=>exact .cons ⟨hk,rfl,Yo _,fun _ z=>by cases z⟩ hn (.cons a b c)
theorem c4x:∀{w:List Str}{s:List Trm},s.length=w.length+1->∃x,jn s w=[x]
 | [],[x],_=>⟨x,rfl⟩
 | [],[],h=>by simp at h
 | [],_::_::_,h=>by simp at h
 |m::w,[],h=>by simp at h
 |m::w,[_],h=>by simp at h
 |m::w,b::a::r,h=>by
  rw[jn]
  exact c4x (by simp at h ⊢;omega)
theorem b9i{lv:Lv}{y:Trm}(h:jn lv.sides.reverse lv.wait.reverse=[y]):fin lv={ lv with done:=lv.done++[y],sides:=[],wait:=[]}:=by rw[fin,h];rfl
theorem fin_ok{tb:Tb}{i:Nat}{lv:Lv}(h:LvO tb i 1 lv):LvO tb i 0 (fin lv):=⟨h.kd,rfl,by have:=h.bd;have:=h.ln;simp only[fin,Za,length_cons,length_nil];omega,fun _ z=>by cases z⟩
theorem c7r{tb:Tb}{m:Str}{g:Sg}(hm:(lkT tb m).isSome=true):∀{w:List Str}{s:List Trm}{q:List Trm×List Str},addM tb m g s w=some q->s.length=w.length+1->(∀x∈w,(lkT tb x).isSome=true)->q.1.length=q.2.length/\q.1.length<=s.length/\∀x∈q.2,(lkT tb x).isSome=true
 | [],s,q,h,hl,hw=>by
  have e:addM tb m g s []=some (s,[m]):=by
   cases s with
   |nil=>simp[addM]
   |cons a r=>cases r<;>simp[addM]
  rw[e]at h
  cases h
  exact⟨by simpa using hl,Zl _,fun x hx=>by rw[Zn.mp hx];exact hm⟩
 |w::ws,[],q,h,hl,hw=>by simp at hl
 |w::ws,[_],q,h,hl,hw=>by simp at hl
 |w::ws,b::a::r,q,h,hl,hw=>by
  rw[addM]at h
  cases hb:bf ((lkT tb w).getD (0,a1x)) g with
  |none=>rw[hb]at h;cases h
  |some z=>
   rw[hb]at h
   cases z with
   |true=>
    have:=c7r hm h (by simp at hl ⊢;omega) (fun x hx=>hw x (Zc _ hx))
    exact⟨this.1,by have:=this.2.1;simp at this ⊢;omega,this.2.2⟩
   |false=>
    cases h
    refine⟨by simp at hl ⊢;omega,Zl _,fun x hx=>?_⟩
    rcases Zj.mp hx with z|z
    ·rw[z];exact hm
    ·exact hw x z
theorem a0w(ps:List Pc)(i:Nat):pcK ps i=hK (ps.drop i):=by
 unfold pcK
 rw[show ps[i]? =(ps.drop i)[0]? by rw[List.getElem?_drop];rfl]
 cases ps.drop i with
 |nil=>rfl
 |cons z r=>rfl
theorem b3p(ps:List Pc)(i:Nat):ps.drop (i+1)=(ps.drop i).tail:=by rw[List.tail_drop]
theorem a4b{ps:List Pc}{i:Nat}{z:Pc}{r:List Pc}(h:ps.drop i=z::r):ps.drop (i+1)=r/\i<ps.length/\z∈ps:=by
 refine⟨by rw[b3p,h];rfl,?_,?_⟩
 ·by_cases hi:i<ps.length
  ·exact hi
  ·rw[List.drop_eq_nil_of_le (by omega)]at h;cases h
 ·exact Tr (by rw[h];exact Ze ..)
structure RX(K:W.Frag)(CR CL:Addr)(H0 H:Hp)(x pr pd pv:Addr)(ps:List Pc)(tb:Tb)(i d:Nat)(st:List Lv):Prop where
 w:∃fps,RS K CR CL H0 H x pr pd pv ps tb i fps st.reverse
 sk:Stk tb i d st
 hi:i<=ps.length
 hl:st.length<=i+1
 pk:∀z∈ps,Pok z/\(kindOf z=ofString "mark"->(lkT tb ⟨z.toArray⟩).isSome=true)
theorem RX.same{K:W.Frag}{CR CL:Addr}{H0 H H':Hp}{x pr pd pv:Addr}{ps:List Pc}{tb:Tb}{i d:Nat}{st:List Lv}(w:RX K CR CL H0 H x pr pd pv ps tb i d st)(s:Same H H'):RX K CR CL H0 H' x pr pd pv ps tb i d st:=by
 obtain⟨fps,w1⟩:=w.w
 exact⟨⟨fps,w1.same s⟩,w.sk,w.hi,w.hl,w.pk⟩
def resR(K:W.Frag)(CR CL B:Addr)(H0:Hp)(x pr pd pv:Addr)(ps:List Pc)(tb:Tb)(d:Nat)(Q:VK)(E:XK):Option (List Pc×List Lv)->Prop
 |none=>onX H0 B E
 |some q=>∀j H',ps.drop j=q.1->RX K CR CL H0 H' x pr pd pv ps tb j d q.2->Q .non H'
abbrev RdX(K:W.Frag)(CR CL:Addr)(H:Hp)(x:Addr)(d:Nat)(R:Hp->Addr->Addr->Addr->List Pc->Tb->Nat->List Lv->Prop):Prop:=∃(H0:Hp)(pr pd pv:Addr)(ps:List Pc)(tb:Tb)(i:Nat)(st:List Lv),RX K CR CL H0 H x pr pd pv ps tb i d st/\R H0 pr pd pv ps tb i st
abbrev a3m(K:W.Frag)(CR CL B:Addr):Sp:=fun vs H Q E=>match vs with| [.ref x]=>RdX K CR CL H x 0 fun H0 pr pd pv ps tb i st=>resR K CR CL B H0 x pr pd pv ps tb 0 Q E (opn (ps.drop i) st)|_=>False
def resT(K:W.Frag)(CR CL B:Addr)(H0:Hp)(x pr pd pv:Addr)(ps:List Pc)(tb:Tb)(lv:Lv)(st:List Lv)(Q:VK)(E:XK):Option (Trm×List Pc)->Prop
 |none=>onX H0 B E
 |some q=>∀j H',ps.drop j=q.2->RX K CR CL H0 H' x pr pd pv ps tb j 1 ({ lv with sides:=lv.sides++[q.1]}::st)->Q .non H'
abbrev a4c(K:W.Frag)(CR CL B:Addr):Sp:=fun vs H Q E=>match vs with| [.ref x]=>RdX K CR CL H x 0 fun H0 pr pd pv ps tb i st=>∃lv st1,st=lv::st1/\(hK (ps.drop i)=sgK "["->hK (ps.drop (i+1))=sgK "]")/\resT K CR CL B H0 x pr pd pv ps tb lv st1 Q E (thg (ps.drop i))|_=>False
abbrev a3n(K:W.Frag)(CR CL B:Addr):Sp:=fun vs H Q E=>match vs with| [.ref x]=>RdX K CR CL H x 1 fun H0 pr pd pv ps tb i st=>∃lv st1,st=lv::st1/\resR K CR CL B H0 x pr pd pv ps tb 1 Q E (cls (ps.drop i) lv st1)|_=>False
def resW(K:W.Frag)(CR CL B:Addr)(H0:Hp)(x pr pd pv:Addr)(ps:List Pc)(tb:Tb)(i:Nat)(lv:Lv)(st:List Lv)(Q:VK)(E:XK):Option (Option (List Pc×Lv))->Prop
 |none=>onX H0 B E
 |some none=>∀H',RX K CR CL H0 H' x pr pd pv ps tb i 1 (lv::st)->Q (.bl false) H'
 |some (some q)=>∀H',ps.drop (i+1)=q.1->RX K CR CL H0 H' x pr pd pv ps tb (i+1) 0 (q.2::st)->Q (.bl true) H'
abbrev a3o(K:W.Frag)(CR CL B:Addr):Sp:=fun vs H Q E=>match vs with| [.ref x]=>RdX K CR CL H x 1 fun H0 pr pd pv ps tb i st=>∃lv st1,st=lv::st1/\resW K CR CL B H0 x pr pd pv ps tb i lv st1 Q E (btw tb lv (ps.drop i))|_=>False
theorem a4d{s r:String}(h:ofString s≠ofString r):sgK s≠sgK r:=fun e=>h (by simp only[sgK,Yk,Y2]at e;exact e.2.1)
theorem c0l(ps:List Pc)(i:Nat):∃a b:Str,pcK ps i=[Sum.inr a,Sum.inr b]:=by
 unfold pcK
 cases ps[i]? with
 |none=>exact⟨_,_,rfl⟩
 |some p=>exact⟨_,_,rfl⟩
theorem a2i.len{K:W.Frag}{C:Addr}{H:Hp}{fs:List Fp}{ls:List Lv}(w:a2i K C H fs ls):fs.length=ls.length:=by
 induction w with
 |nil=>rfl
 |cons _ _ ih=>rw[length_cons,length_cons,ih]
theorem a2w{z:Pc}{k:Str}(h:kindOf z=k)(s:Str)(hk:k≠ofString "sign":=by decide+kernel):Pc.ks z≠[Sum.inr (ofString "sign"),Sum.inr s]:=fun e=>by
 simp only[Pc.ks,Yk,Y2]at e
 exact hk (h.symm.trans e.1)
theorem b9j(s:Str):endK≠[Sum.inr (ofString "sign"),Sum.inr s]:=fun e=>by
 simp only[endK,Yk,Y2]at e
 exact absurd e.1 (by decide+kernel)
theorem a7b{r:List Pc}{s:Str}(h:hK r=[Sum.inr (ofString "sign"),Sum.inr s]):∃z r',r=z::r':=by
 cases r with
 |nil=>exact absurd h (b9j s)
 |cons z r'=>exact⟨z,r',rfl⟩
theorem b5s{z:Pc}{r:List Pc}{st:List Lv}(h:Pc.ks z=sgK "("):opn (z::r) st=opn r (rdL::st):=by
 cases r<;>(rw[opn];exact if_pos h)
theorem b7t{z:Pc}{r:List Pc}{st:List Lv}(h1:Pc.ks z=sgK "[")(h2:hK r≠sgK "]"):opn (z::r) st=opn r (ltL::st):=by
 have n:Pc.ks z≠sgK "(":=by rw[h1];exact a4d (by decide+kernel)
 cases r with
 |nil=>(conv=>lhs;rw[opn]);rw[if_neg n,if_pos ⟨h1,h2⟩]
 |cons y r=>(conv=>lhs;rw[opn]);rw[if_neg n,if_pos ⟨h1,h2⟩]
theorem b7u{z y:Pc}{r:List Pc}{st:List Lv}(h1:kindOf z=ofString "word")(h2:Pc.ks y=sgK "("):opn (z::y::r) st=if z.length<=12 then opn r (kdL ⟨z.toArray⟩::st)else none:=by
 have n1:¬Pc.ks z=sgK "(":=a2w h1 _
 have n2:¬(Pc.ks z=sgK "["/\hK (y::r)≠sgK "]"):=fun e=>(a2w h1 _) e.1
 (conv=>lhs;rw[opn])
 rw[if_neg n1,if_neg n2,if_pos ⟨h1,h2⟩]
theorem a9n:∀{r:List Pc}{st:List Lv},hK r≠sgK "("->(hK r=sgK "["->hK r.tail=sgK "]")->(∀z r',r=z::r'->kindOf z=ofString "word"->hK r'≠sgK "(")->opn r st=some (r,st)
 | [],st,_,_,_=>by rw[opn]
 | [z],st,h1,h2,_=>by
  have h1:¬Pc.ks z=sgK "(":=h1
  have h2:¬(Pc.ks z=sgK "["/\hK []≠sgK "]"):=fun e=>e.2 (h2 e.1)
  rw[opn,if_neg h1,if_neg h2]
 |z::y::r,st,h1,h2,h3=>by
  have h1:¬Pc.ks z=sgK "(":=h1
  have h2:¬(Pc.ks z=sgK "["/\hK (y::r)≠sgK "]"):=fun e=>e.2 (h2 e.1)
  rw[opn,if_neg h1,if_neg h2,if_neg (fun e=>h3 z _ rfl e.1 e.2)]
theorem RX.push{K:W.Frag}{CR CL:Addr}{H0 H H':Hp}{x pr pd pv:Addr}{ps:List Pc}{tb:Tb}{i n:Nat}{st:List Lv}{fps:List Fp}{k w0:Str}(X:RX K CR CL H0 H x pr pd pv ps tb i 0 st)(w:RS K CR CL H0 H' x pr pd pv ps tb (i+n) fps (st.reverse++[⟨k,w0,[],[],[]⟩]))(hn:1<=n)(hi:i+n<=ps.length)(hk:b5r k)(hw:k≠ofString "whole":=by decide+kernel):RX K CR CL H0 H' x pr pd pv ps tb (i+n) 0 (⟨k,w0,[],[],[]⟩::st):=
 ⟨⟨fps,by rw[Y4];exact w⟩,X.sk.push (by omega) hk hw,hi,by have:=X.hl;rw[length_cons];omega,X.pk⟩
theorem c1m{ps:List Pc}{i:Nat}{r:List Key}{k:Str}(h:pcK ps i=Sum.inr k::r)(hk:k≠ofString "end":=by decide+kernel):∃z r',ps.drop i=z::r'/\kindOf z=k:=by
 rw[a0w]at h
 cases e:ps.drop i with
 |nil=>
  rw[e]at h
  simp only[hK,endK,Yk,Y2]at h
  exact absurd h.1.symm hk
 |cons z r'=>
  rw[e]at h
  simp only[hK,Pc.ks,Yk,Y2]at h
  exact⟨z,r',rfl,h.1⟩
theorem RX.set{K:W.Frag}{CR CL:Addr}{H0 H H':Hp}{x pr pd pv:Addr}{ps:List Pc}{tb:Tb}{i j d e:Nat}{lv lw:Lv}{st:List Lv}{fps:List Fp}(X:RX K CR CL H0 H x pr pd pv ps tb i d (lv::st))(w:RS K CR CL H0 H' x pr pd pv ps tb j fps (st.reverse++[lw]))(hj:i<=j)(hp:j<=ps.length)(o:LvO tb j e lw)(k1:lv.kind=ofString "whole"->lw.kind=ofString "whole")(k2:lw.kind=ofString "whole"->lv.kind=ofString "whole"):RX K CR CL H0 H' x pr pd pv ps tb j e (lw::st):=
 ⟨⟨fps,by rw[Y4];exact w⟩,X.sk.set hj o k1 k2,hp,by have:=X.hl;rw[length_cons]at this ⊢;omega,X.pk⟩
theorem LvO.thing{tb:Tb}{i j:Nat}{lv:Lv}{t:Trm}(h:LvO tb i 0 lv)(hj:i+1<=j):LvO tb j 1 { lv with sides:=lv.sides++[t]}:=⟨h.kd,by have:=h.ln;simp;omega,by have:=h.bd;simp;omega,h.wt⟩
theorem c4y{r:List Pc}{lv:Lv}{st:List Lv}(h:hK r≠[Sum.inr (ofString "sign"),Sum.inr (clS lv.kind)]):cls r lv st=some (r,lv::st):=by
 cases r with
 |nil=>rw[cls];intro _ _ _ _ z;cases z
 |cons z r=>
  cases st with
  |nil=>rw[cls];intro _ _ _ _ _ z;cases z
  |cons lu st=>rw[cls];exact if_neg h
theorem b7v{z:Pc}{r:List Pc}{lv lu:Lv}{st:List Lv}(h:Pc.ks z=[Sum.inr (ofString "sign"),Sum.inr (clS lv.kind)]):cls (z::r) lv (lu::st)=match clo (fin lv)with|none=>none|some t=>cls r { lu with sides:=lu.sides++[t]} st:=by
 (conv=>lhs;rw[cls])
 exact if_pos h
theorem no_nil{z:Pc}(h:Pok z):Pc.ks z≠[Sum.inr (ofString "sign"),Sum.inr (clS (ofString "whole"))]:=fun e=>by
 obtain⟨c,r,rfl,_⟩:=h
 simp only[Pc.ks,Yk,Y2]at e
 have:=Ys (fun s:Str=>s.cps.toList.length) e.2.1
 simp[show(clS (ofString "whole")).cps.toList.length=0 by decide+kernel]at this
theorem b5t{tb:Tb}{lv:Lv}{l:List Pc}(h1:∀z r,l=z::r->kindOf z≠ofString "mark")(h2:¬(hK l=sgK ","/\(lv.kind=ofString "kids"\/lv.kind=ofString "list")))(h3:¬(hK l=sgK "|"/\lv.kind=ofString "list")):btw tb lv l=some none:=by
 cases l with
 |nil=>rw[btw]
 |cons z r=>
  have h2:¬(Pc.ks z=sgK ","/\(lv.kind=ofString "kids"\/lv.kind=ofString "list")):=h2
  have h3:¬(Pc.ks z=sgK "|"/\lv.kind=ofString "list"):=h3
  rw[btw,if_neg (h1 z r rfl),if_neg h2,if_neg h3]
theorem c0m{z:Pc}{s:Str}(h:Pc.ks z=[Sum.inr (ofString "sign"),Sum.inr s]):¬kindOf z=ofString "mark":=fun e=>a2w e _ (by decide+kernel) h
theorem c1n{tb:Tb}{lv:Lv}{z:Pc}{r:List Pc}(h1:Pc.ks z=sgK ",")(h2:lv.kind=ofString "kids"\/lv.kind=ofString "list"):btw tb lv (z::r)=some (some (r,fin lv)):=by
 rw[btw,if_neg (c0m h1),if_pos ⟨h1,h2⟩]
theorem c0n{tb:Tb}{lv:Lv}{z:Pc}{r:List Pc}(h1:Pc.ks z=sgK "|")(h2:lv.kind=ofString "list"):btw tb lv (z::r)=some (some (r,{ fin lv with kind:=ofString "rest"})):=by
 have n:¬(Pc.ks z=sgK ","/\(lv.kind=ofString "kids"\/lv.kind=ofString "list")):=fun e=>by rw[h1]at e;exact absurd e.1 (a4d (by decide+kernel))
 rw[btw,if_neg (c0m h1),if_neg n,if_pos ⟨h1,h2⟩]
abbrev a2x(K:W.Frag)(CR CL B:Addr):Sp:=fun vs H Q E=>match vs with| [.ref x]=>RdS K CR CL H x fun _ _ _ _ ps _ i _ _=>(pcK ps i=endK->Q .non H)/\(pcK ps i≠endK->onB H B E)|_=>False
abbrev a4e(K:W.Frag)(C:Addr):Sp:=fun vs H Q _=>match vs with| [.ref x,.ref pr,.ref pd]=>∃dx,H x=some (.ins C dx [])/\∀(pv:Addr) H',H' x=some (.ins C dx (fsR pr pd 0 pv))->(∀b o,b≠x->H b=some o->H' b=some o)->Q .non H'|_=>False
section
variable{P:Program}{w:World}{K:W.Frag}{mg:Str->Option Value}{base:Heap}{t:Ad}
theorem b2b(T:Txt K mg t)(G_a5:FnOk P w K mg base CX0 1 t.a_a5 t.d_a5 ["self","ahead"] (a2t K t.k_a1 t.k_a2))(G_a4:FnOk P w K mg base CX0 2 t.a_a4 t.d_a4 ["self","text"] (a2u K t.k_a1 t.k_a2))(G_c5:FnOk P w K mg base CX0 3 t.a_c5 t.d_c5 ["self","kind","word","long"] (a5x K t.k_a1 t.k_a2))(G_c2:FnOk P w K mg base (CXo P w) 4 t.a_c2 t.d_c2 ["text"] (a5b t.k_a0)):FnOk P w K mg base (CXo P w) 5 t.a_f9 t.d_f9 ["self"] (a3m K t.k_a1 t.k_a2 t.k_a0):=by
 refine T.F_f9.okX a3l (fun vs H Q E h=>?_) (fun cdv A outer s H vs Q E hr h=>?_)
 ·unfold a3m at h
  split at h
  ·rfl
  ·exact h.elim
 unfold a3m at h
 split at h
 rotate_left
 ·exact h.elim
 refine⟨_,(a0g (a0m (i:=1) a3l.nd rfl (by walk_at "or1") a3b) (a0h (a4o Wc (a1n K rfl (mv 1)) (a0g (a0m (i:=2) (hs:=a1q) a3l.nd rfl (by walk_at "or1") (a2m (mv 0) T.cl_a1 T.me_a5 G_a5 (hr.mono (by walk_at "r")) T.b_a5 .nil a0r (a0a a0e a0c))) (a0h (a1e (a1n K rfl (a2m (mv 0) T.cl_a1 T.me_a4 G_a4 (hr.mono (by walk_at "r")) T.b_a4 .nil a0r (a0a a0f a0c))) (a0h (a1m (a2m (mv 0) T.cl_a1 T.me_c5 G_c5 (hr.mono (by walk_at "r")) T.b_c5 .nil a0r (a0a a0f (a0a a0f (a0a a0e a0c)))))) (a0h (a1e (PW.pt (a8k (a1n K rfl (a2m (mv 0) T.cl_a1 T.me_a4 G_a4 (hr.mono (by walk_at "r")) T.b_a4 .nil a0r (a0a a0f a0c))) (a6u (a0v (c7k K rfl (a7x hr)) (mv 2) (a0y (a0a a0f (a0a a0f a0c))) (a0t _))))) (a0h (a1m (a2m (mv 0) T.cl_a1 T.me_c5 G_c5 (hr.mono (by walk_at "r")) T.b_c5 .nil a0r (a0a a0f (a0a a0f (a0a a0e a0c)))))) (a0h (a1e (PW.pt (a8k (a0v a1s (a0s (a0n K rfl) (a2m (mv 0) T.cl_a1 T.me_a5 G_a5 (hr.mono (by walk_at "r")) T.b_a5 .nil a0r (a0a a0e a0c)) a0e (fun _ _=>rfl)) a0f (a0t _)) (a6u (a0v (c7f K rfl (a7x hr)) (mv 2) (a0y (a0a a0f (a0a a0f a0c))) (a0t _))))) (a0h (a1m (a2m (mv 0) T.cl_a1 T.me_c5 G_c5 (hr.mono (by walk_at "r")) T.b_c5 .nil a0r (a0a a0f (a0a (a0p G_c2 (hr.mono (by walk_at "r")) rfl T.m_c2 T.F_c2.kp T.b_c2 .nil a2r (a0a (a0s (a0n K rfl) (a2m (mv 0) T.cl_a1 T.me_a5 G_a5 (hr.mono (by walk_at "r")) T.b_a5 .nil a0r (a0a a0e a0c)) a0e (fun _ _=>rfl)) a0c)) (a0a a0e a0c)))))) (a0h (a0m (i:=1) a3l.nd rfl (by walk_at "or1") a3b)))))))))))),?_⟩
 rename_i x
 obtain⟨H0,pr,pd,pv,ps,tb,i0,st0,X0,q⟩:=h
 generalize eo:opn (ps.drop i0) st0=oo at q
 walk_at "s"
 refine a3w (fun k σ' H'=>(∃(i:Nat)(st:List Lv)(o2:Option V),σ'=[some (.ref x),some (.bl true),o2]/\RX K t.k_a1 t.k_a2 H0 H' x pr pd pv ps tb i 0 st/\opn (ps.drop i) st=oo/\k=(ps.drop i).length+1)\/∃(j:Nat)(st:List Lv)(o2:Option V),σ'=[some (.ref x),some (.bl false),o2]/\RX K t.k_a1 t.k_a2 H0 H' x pr pd pv ps tb j 0 st/\oo=some (ps.drop j,st)/\k=0) ((ps.drop i0).length+1) (.inl ⟨i0,st0,_,rfl,X0,eo,rfl⟩) (fun k σ' H' R hP kT kF=>?_)
 rcases hP with⟨i,st,o2,rfl,X,eo',rfl⟩|⟨j,st,o2,rfl,X,rfl,rfl⟩
 rotate_left
 ·walk_at "s"
  refine kF H' ?_
  walk_at "s"
  exact q j H' rfl X
 obtain⟨fps,w⟩:=X.w
 have hfl:=w.al.len
 rw[Y1]at hfl
 have hi:=X.hi
 have hl:=X.hl
 have hps:=w.lim.2.1
 walk_at "s"
 refine kT H' (fun D' e1 e2 hnx hct=>?_)
 obtain⟨dx,ho⟩:=w.ob
 walk_at "s"
 refine⟨x,dx,_,rfl,ho,a1v,?_⟩
 walk_at "s"
 refine⟨H0,pr,pd,pv,ps,tb,i,fps,_,w,1,rfl,by omega,fun bh hbh=>?_⟩
 walk_at "s"
 refine⟨x,dx,_,rfl,ho,a1v,?_⟩
 walk_at "s"
 refine⟨H0,pr,pd,pv,ps,tb,i,fps,_,w,fun H1 s1=>?_⟩
 have w1:=w.same s1
 obtain⟨dx1,ho1⟩:=w1.ob
 walk_at "s"
 by_cases c1:pcK ps i=sgK "("
 ·rw[show a4a ps i (ofString "(")=true from Zi c1]
  walk_at "D"
  obtain⟨dxB,hoB⟩:=w1.ob
  refine⟨x,dxB,_,rfl,hoB,a1v,?_⟩
  walk_at "s"
  rw[a0w]at c1
  obtain⟨z,r,hz⟩:=a7b c1
  obtain⟨n1,n2,n3⟩:=a4b hz
  rw[hz]at c1 eo'
  rw[b5s c1,<-n1]at eo'
  refine⟨H0,pr,pd,pv,ps,tb,i,fps,_,w1,1,rfl,by omega,by omega,by omega,fun f H2 w2=>?_⟩
  walk_at "s"
  exact hnx _ _ ((ps.drop (i+1)).length+1) (by rw[Yw,Yw];omega) (.inl ⟨i+1,_,_,rfl,X.push w2 (by omega) (by omega) (.inr (.inl rfl)),eo',rfl⟩)
 rw[show a4a ps i (ofString "(")=false from Zg c1]
 walk_at "C"
 refine⟨x,dx1,_,rfl,ho1,a1v,?_⟩
 walk_at "s"
 refine⟨H0,pr,pd,pv,ps,tb,i,fps,_,w1,fun H2 s2=>?_⟩
 have w2:=w1.same s2
 by_cases c2:pcK ps i=sgK "["
 ·rw[show a4a ps i (ofString "[")=true from Zi c2]
  walk_at "B"
  refine⟨ln (by show 2<=100000;decide),fun p hp=>?_⟩
  have sp:=a0d hp (.tup [.str (ofString "sign"),.str (ofString "]")])
  have w3:=w2.same sp
  walk_at "s"
  refine⟨bh,pcK ps (i+1),rfl,sp.tup (s2.tup (s1.tup hbh)),.inr ⟨p,sgK "]",rfl,SqT.of a0b,?_⟩⟩
  by_cases c3:pcK ps (i+1)=sgK "]"
  ·rw[Zi c3]
   walk_at "A"
   obtain⟨dxT,hoT⟩:=w3.ob
   refine⟨x,dxT,_,rfl,hoT,a1v,?_⟩
   walk_at "s"
   refine⟨H0,pr,pd,pv,ps,tb,i,fps,_,w3,0,rfl,by omega,fun a0 h0=>?_⟩
   rw[Wo]at h0
   obtain⟨ka,kb,hk⟩:=c0l ps i
   rw[hk]at h0
   walk_at "s"
   refine a1c h0 (v:=.str ka) rfl ?_
   walk_at "s"
   have ek:ka=ofString "sign":=by rw[hk]at c2;simp only[sgK,Yk,Y2]at c2;exact c2.1
   refine iteB (fun y=>absurd y (by rw[ek];decide+kernel)) (fun y=>?_)
   walk_at "C"
   exact hnx _ _ 0 (by omega) (.inr ⟨i,st,_,rfl,((X.same s1).same s2).same sp,(eo'.symm.trans (a9n (by rw[<-a0w];exact c1) (fun y=>by rw[<-b3p,<-a0w];exact c3) (fun z r' hz y=>absurd (by rw[a0w,hz]at c2;exact c2) (a2w y _)))),rfl⟩)
  ·rw[Zg c3]
   walk_at "B"
   obtain⟨dxB,hoB⟩:=w3.ob
   refine⟨x,dxB,_,rfl,hoB,a1v,?_⟩
   walk_at "s"
   rw[a0w]at c2
   obtain⟨z,r,hz⟩:=a7b c2
   obtain⟨n1,n2,n3⟩:=a4b hz
   rw[a0w,n1]at c3
   rw[hz]at c2 eo'
   rw[b7t c2 c3,<-n1]at eo'
   refine⟨H0,pr,pd,pv,ps,tb,i,fps,_,w3,1,rfl,by omega,by omega,by omega,fun f H4 w4=>?_⟩
   walk_at "s"
   exact hnx _ _ ((ps.drop (i+1)).length+1) (by rw[Yw,Yw];omega) (.inl ⟨i+1,_,_,rfl,X.push w4 (by omega) (by omega) (.inr (.inr (.inr (.inl rfl)))),eo',rfl⟩)
 rw[show a4a ps i (ofString "[")=false from Zg c2]
 walk_at "s"
 refine iteF ?_
 walk_at "C"
 obtain⟨dxT,hoT⟩:=w2.ob
 refine⟨x,dxT,_,rfl,hoT,a1v,?_⟩
 walk_at "s"
 refine⟨H0,pr,pd,pv,ps,tb,i,fps,_,w2,0,rfl,by omega,fun a0 h0=>?_⟩
 rw[Wo]at h0
 obtain⟨ka,kb,hk⟩:=c0l ps i
 rw[hk]at h0
 walk_at "s"
 refine a1c h0 (v:=.str ka) rfl ?_
 walk_at "s"
 refine iteB (fun y=>?_) (fun y=>?_)
 rotate_left
 ·have hy:ka≠ofString "word":=by rw[Zt]at y;exact Zo y
  walk_at "C"
  exact hnx _ _ 0 (by omega) (.inr ⟨i,st,_,rfl,(X.same s1).same s2,(eo'.symm.trans (a9n (by rw[<-a0w];exact c1) (fun y=>by rw[<-b3p,<-a0w];exact absurd y (by rw[<-a0w];exact c2)) (fun z r' hz y=>absurd (by rw[a0w,hz]at hk;simp only[hK,Pc.ks,Yk,Y2]at hk;rw[<-hk.1];exact y) hy))),rfl⟩)
 have hy:ka=ofString "word":=by rw[Zt]at y;exact Zm y
 rw[hy]at hk
 obtain⟨z,r,hz,kz⟩:=c1m hk
 obtain⟨n1,n2,n3⟩:=a4b hz
 walk_at "s"
 refine⟨ln (by show 2<=100000;decide),fun p4 hp4=>?_⟩
 have sp:=a0d hp4 (.tup [.str (ofString "sign"),.str (ofString "(")])
 have w3:=w2.same sp
 walk_at "s"
 refine⟨bh,p4,pcK ps (i+1),sgK "(",rfl,rfl,sp.tup (s2.tup (s1.tup hbh)),SqT.of a0b,?_⟩
 by_cases c3:pcK ps (i+1)=sgK "("
 rotate_left
 ·rw[Zg c3]
  walk_at "A"
  exact hnx _ _ 0 (by omega) (.inr ⟨i,st,_,rfl,((X.same s1).same s2).same sp,(eo'.symm.trans (a9n (by rw[<-a0w];exact c1) (fun y=>by rw[<-b3p,<-a0w];exact absurd y (by rw[<-a0w];exact c2)) (fun z1 r1 hz1 _=>by rw[hz]at hz1;cases hz1;rw[<-n1,<-a0w];exact c3))),rfl⟩)
 rw[Zi c3]
 walk_at "B"
 obtain⟨dx3,ho3⟩:=w3.ob
 refine⟨x,dx3,_,rfl,ho3,a1v,?_⟩
 walk_at "s"
 refine⟨x,dx3,_,rfl,ho3,a1v,?_⟩
 walk_at "s"
 refine⟨H0,pr,pd,pv,ps,tb,i,fps,_,w3,0,rfl,by omega,fun a4 h4=>?_⟩
 rw[Wo,a0w,hz]at h4
 walk_at "s"
 refine a1c h4 (v:=.str ⟨z.toArray⟩) rfl ?_
 walk_at "s"
 have c4:=c3
 rw[a0w,n1]at c4
 obtain⟨y1,r1,hr⟩:=a7b c4
 subst hr
 obtain⟨m1,m2,m3⟩:=a4b n1
 rw[hz,b7u kz c4]at eo'
 refine⟨z,rfl,(X.pk z n3).1.calW (b4v kz),?_⟩
 by_cases hz12:z.length<=12
 ·rw[if_pos hz12,<-m1]at eo'
  rw[Zi hz12]
  intro H5 s5
  walk_at "s"
  refine⟨H0,pr,pd,pv,ps,tb,i,fps,_,w3.same s5,2,rfl,by omega,by omega,by omega,fun f H6 w6=>?_⟩
  walk_at "s"
  exact hnx _ _ ((ps.drop (i+1+1)).length+1) (by rw[Yw,Yw];omega) (.inl ⟨i+2,_,_,rfl,X.push w6 (by omega) (by omega) (.inr (.inr (.inl rfl))),eo',rfl⟩)
 ·rw[if_neg hz12]at eo'
  rw[Zg hz12]
  subst eo'
  exact q.mono (w3.sm)
end
section
variable{P:Program}{w:World}{K:W.Frag}{mg:Str->Option Value}{base:Heap}{t:Ad}
section
variable{K:W.Frag}{CR CL:Addr}{H0 H H':Hp}{x pr pd pv:Addr}{ps:List Pc}{tb:Tb}{i:Nat}{fps:List Fp}{lvs:List Lv}
structure Off(H0:Hp)(x pv:Addr)(fps:List Fp)(f:Fp):Prop where
 fr:∀b∈f.all,H0 b=none
 nx:x∉f.all
 nv:pv∉f.all
 dj:∀g∈fps,∀b∈g.all,b∉f.all
theorem RS.away{f:Fp}{lv:Lv}(w:RS K CR CL H0 H x pr pd pv ps tb i fps lvs)(o:Off H0 x pv fps f)(h:LvAt K CL H f lv)(g:LF f H H'):RS K CR CL H0 H' x pr pd pv ps tb i fps lvs:=by
 obtain⟨dx,ho⟩:=w.ob
 exact⟨⟨dx,g _ _ o.nx ho⟩,w.row,w.sg,g _ _ o.nv w.lv,w.al.fr (fun k hk b hb u e=>g _ _ (o.dj k hk b hb) e) (h.tup g),fun b u e=>g _ _ (fun z=>by rw[o.fr b z]at e;cases e) (w.sm _ _ e),w.fx,w.fv,w.ff,w.dj,w.nv,w.lim⟩
theorem RS.pop{fs:List Fp}{f:Fp}{ls:List Lv}{lv:Lv}(w:RS K CR CL H0 H x pr pd pv ps tb i (fs++[f]) (ls++[lv]))(h0:a2i K CL H fs ls)(h1:LvAt K CL H f lv):RS K CR CL H0 (upd H pv (.lst (fs.map fun f=>V.ref f.l))) x pr pd pv ps tb i fs ls/\LvAt K CL (upd H pv (.lst (fs.map fun f=>V.ref f.l))) f lv/\Off H0 x pv fs f:=by
 obtain⟨dx,ho⟩:=w.ob
 have hf:=w.nv f (by simp)
 have hd:=Vv.mp w.dj
 have ht:∀a xs,SqT K H a xs->SqT K (upd H pv (.lst (fs.map fun f=>V.ref f.l))) a xs:=tup_upd' w.lv (fun _ z=>by cases z) (fun _ _ z=>by cases z)
 refine⟨⟨⟨dx,by rw[a0j (fun z=>by have:=w.lv;rw[<-z,ho]at this;cases this)];exact ho⟩,w.row,w.sg,a0b,h0.fr (fun g hg b hb o e=>by rw[a0j (fun z=>(w.nv g (by simp[hg])).1 (by rw[<-z];exact hb))];exact e) ht,fun b o e=>by rw[a0j (fun z=>by rw[z,w.fv]at e;cases e)];exact w.sm _ _ e,w.fx,w.fv,fun g hg=>w.ff g (by simp[hg]),hd.1,fun g hg=>w.nv g (by simp[hg]),⟨by have:=w.lim.1;rw[Za]at this;omega,w.lim.2⟩⟩,h1.fr (fun b hb o e=>by rw[a0j (fun z=>hf.1 (by rw[<-z];exact hb))];exact e) ht,⟨w.ff f (by simp),hf.2,hf.1,fun g hg b hb=>hd.2.2 g hg f (by simp) b hb⟩⟩
theorem b1x(fs:List Fp)(f:Fp):(fs++[f]).map (fun f=>V.ref f.l)=(fs.map fun f=>V.ref f.l)++[.ref f.l]:=by rw[Zk,Sl]
end
theorem b3q(T:Txt K mg t)(G_a4:FnOk P w K mg base CX0 2 t.a_a4 t.d_a4 ["self","text"] (a2u K t.k_a1 t.k_a2))(G_f3:FnOk P w K mg base (CXo P w) 5 t.a_f3 t.d_f3 ["piece"] (a9w K t.k_a0))(G_a5:FnOk P w K mg base CX0 1 t.a_a5 t.d_a5 ["self","ahead"] (a2t K t.k_a1 t.k_a2)):FnOk P w K mg base (CXo P w) 6 t.a_f7 t.d_f7 ["self"] (a4c K t.k_a1 t.k_a2 t.k_a0):=by
 refine T.F_f7.okX a8a (fun vs H Q E h=>?_) (fun cdv A outer s H vs Q E hr h=>?_)
 ·unfold a4c at h
  split at h
  ·rfl
  ·exact h.elim
 unfold a4c at h
 split at h
 rotate_left
 ·exact h.elim
 refine⟨_,(a0g (a0m (i:=1) a8a.nd rfl (by walk_at "or1") (a1j (a0s (a0n K rfl) (a1j (mv 0) rfl) (a7m a5y a0e) (fun _ _=>rfl)) rfl)) (a0h (a1e (a1n K rfl (a2m (mv 0) T.cl_a1 T.me_a4 G_a4 (hr.mono (by walk_at "r")) T.b_a4 .nil a0r (a0a a0f a0c))) (a0g (a1m (a3x K rfl Z0 Yn Yv a3v (mv 1) (a0a (a5j (v:=.ref t.c_g1) rfl T.m_g1 rfl) a0c))) (a0h (a7v (mv 0) a0e a6n))) (a0g (a1m (a3x K rfl Z0 Yn Yv a3v (mv 1) (a0a (a0p G_f3 (hr.mono (by walk_at "r")) rfl T.m_f3 T.F_f3.kp T.b_f3 .nil a2r (a0a (a2m (mv 0) T.cl_a1 T.me_a5 G_a5 (hr.mono (by walk_at "r")) T.b_a5 .nil a0r (a0a a0e a0c)) a0c)) a0c))) (a0h (a7v (mv 0) a0e a6n)))))),?_⟩
 rename_i x
 obtain⟨H0,pr,pd,pv,ps,tb,i,_,X,lv,st,rfl,hb,q⟩:=h
 obtain⟨fps,w⟩:=X.w
 rw[Y4]at w
 have hi:=X.hi
 have hps:=w.lim.2.1
 have ot:=X.sk.top
 have obd:=ot.bd
 obtain⟨dx,ho⟩:=w.ob
 obtain⟨fs,f,rfl,l0,l1⟩:=a2i.snoc w.al
 have hlvT:=w.lv
 rw[b1x]at hlvT
 obtain⟨dl,hol⟩:=l1.ob
 walk_at "s"
 refine⟨_,_,dx,_,_,rfl,ho,T.cl_a1,T.no_a1_levels,a5q _ _ _ _,?_⟩
 walk_at "s"
 refine a2f (SqL.of hlvT) (at_last' _ _) ?_
 walk_at "s"
 refine⟨_,_,dl,_,_,rfl,hol,T.cl_a2,T.no_a2_sides,a9m _ _ _,?_⟩
 walk_at "s"
 refine⟨x,dx,_,rfl,ho,a1v,?_⟩
 walk_at "s"
 refine⟨H0,pr,pd,pv,ps,tb,i,fs++[f],_,w,fun H1 s1=>?_⟩
 have w1:=w.same s1
 have l01:=l0.fr (fun _ _ b _ o e=>s1 _ _ e) (fun a zs q=>s1.tup q)
 have l11:=l1.same s1
 obtain⟨us,h1,h2⟩:=l11.sd
 have hul:=b1v h2
 walk_at "s"
 by_cases e:pcK ps i=sgK "["
 ·rw[show a4a ps i (ofString "[")=true from Zi e]
  rw[a0w]at e
  obtain⟨z,r,hz⟩:=a7b e
  obtain⟨n1,n2,n3⟩:=a4b hz
  have e':=hb e
  obtain⟨z2,r2,hz2⟩:=a7b e'
  obtain⟨m1,m2,m3⟩:=a4b hz2
  rw[hz]at e q
  have e:Pc.ks z=sgK "[":=e
  rw[thg,if_pos e]at q
  walk_at "D"
  refine⟨.inl ⟨rfl,_,SqL.of h1⟩,?_⟩
  walk_at "s"
  refine a3j h1 (ln1 (by omega)) ?_
  have d9:DenL K H1 (us++[.ref t.c_g1]) (Trm.dataL (lv.sides++[a3f])):=by
   rw[Trm.dataL_map,Zk,<-Trm.dataL_map]
   exact h2.append (.cons (a2d (T.q_g1 H1) (T.q_g1_2 H1) .nil) .nil)
  obtain⟨l2,g2⟩:=l11.setS d9
  have w2:=w1.top l01 l11 g2 l2
  walk_at "s"
  obtain⟨dxA,hoA⟩:=w2.ob
  refine⟨x,_,dxA,_,_,rfl,hoA,T.cl_a1,T.no_a1_at,a9y _ _ _ _,?_⟩
  walk_at "s"
  refine⟨dxA,_,hoA,by simp[fsR],?_⟩
  rw[show((i:Nat):Int)+2=((i+2:Nat):Int) by omega,a8v]
  exact q (i+2) _ (by rw[show i+2=i+1+1 from rfl,m1,<-n1,hz2];rfl) (X.set (w2.setAt (by omega)) (by omega) (by omega) (ot.thing (by omega)) id id)
 ·rw[show a4a ps i (ofString "[")=false from Zg e]
  refine iteF ?_
  obtain⟨dx1,ho1⟩:=w1.ob
  walk_at "s"
  refine⟨.inl ⟨rfl,_,SqL.of h1⟩,?_⟩
  walk_at "s"
  refine⟨x,dx1,_,rfl,ho1,a1v,?_⟩
  walk_at "s"
  refine⟨H0,pr,pd,pv,ps,tb,i,fs++[f],_,w1,0,rfl,by omega,fun a0 h0=>?_⟩
  rw[Wo,a0w]at h0
  rw[a0w]at e
  walk_at "s"
  cases hz:ps.drop i with
  |nil=>
   rw[hz]at h0 q
   rw[thg]at q
   exact .inr ⟨a0,rfl,h0,q.mono w1.sm⟩
  |cons z r=>
   obtain⟨n1,n2,n3⟩:=a4b hz
   rw[hz]at h0 q e
   have e:¬Pc.ks z=sgK "[":=e
   rw[thg,if_neg e]at q
   refine .inl ⟨z,a8t h0,(X.pk z n3).1,?_⟩
   cases ht:thgZ z with
   |none=>
    rw[ht]at q
    exact q.mono w1.sm
   |some t0=>
    rw[ht]at q
    intro v2 H2 s2 d2
    walk_at "s"
    have l12:=l11.same s2
    refine a3j (s2 _ _ h1) (ln1 (by omega)) ?_
    have d9:DenL K H2 (us++[v2]) (Trm.dataL (lv.sides++[t0])):=by
     rw[Trm.dataL_map,Zk,<-Trm.dataL_map]
     exact(h2.mono s2).append (.cons d2 .nil)
    obtain⟨l2,g2⟩:=l12.setS d9
    have w2:=(w1.same s2).top (l01.fr (fun _ _ b _ o e=>s2 _ _ e) (fun a zs q=>s2.tup q)) l12 g2 l2
    walk_at "s"
    obtain⟨dxA,hoA⟩:=w2.ob
    refine⟨x,_,dxA,_,_,rfl,hoA,T.cl_a1,T.no_a1_at,a9y _ _ _ _,?_⟩
    walk_at "s"
    refine⟨dxA,_,hoA,by simp[fsR],?_⟩
    rw[show((i:Nat):Int)+1=((i+1:Nat):Int) by omega,a8v]
    exact q (i+1) _ n1 (X.set (w2.setAt (by omega)) (by omega) (by omega) (ot.thing (by omega)) id id)
theorem cl_val(t:Ad){k:Str}(h:b5r k):valV (b0m t) (Sum.inr k)=some (.str (clS k)):=by
 rcases h with rfl|rfl|rfl|rfl|rfl<;>kernel_rfl
theorem b2c(T:Txt K mg t)(D:KD P w K t.c_g3 (b0m t))(G_a4:FnOk P w K mg base CX0 2 t.a_a4 t.d_a4 ["self","text"] (a2u K t.k_a1 t.k_a2))(G_a7:FnOk P w K mg base CX0 3 t.a_a7 t.d_a7 ["level"] (a8g K t.k_a2))(G_e3:FnOk P w K mg base (CXo P w) 3 t.a_e3 t.d_e3 ["level"] (b2k K t.k_a2 t.k_a0)):FnOk P w K mg base (CXo P w) 4 t.a_f6 t.d_f6 ["self"] (a3n K t.k_a1 t.k_a2 t.k_a0):=by
 refine T.F_f6.okX a7g (fun vs H Q E h=>?_) (fun cdv A outer s H vs Q E hr h=>?_)
 ·unfold a3n at h
  split at h
  ·rfl
  ·exact h.elim
 unfold a3n at h
 split at h
 rotate_left
 ·exact h.elim
 refine⟨_,(a0h (a4o Wc (a1n K rfl (a2m (mv 0) T.cl_a1 T.me_a4 G_a4 (hr.mono (by walk_at "r")) T.b_a4 .nil a0r (a0a (pe_getK D rfl T.m_g3 (a1j (a0s (a0n K rfl) (a1j (mv 0) rfl) (a7m a5y a0e) (fun _ _=>rfl)) rfl) (fun _ _=>rfl)) a0c))) (a0g (a0m (i:=1) (hs:=a1q) a7g.nd rfl (by walk_at "or1") (b1h K rfl Z0 Xn X8 b1f (a1j (mv 0) rfl))) (a0g (a1m (a0p G_a7 (hr.mono (by walk_at "r")) rfl T.m_a7 T.F_a7.kp T.b_a7 .nil a0r (a0a (mv 1) a0c))) (a0g (a1m (a3x K rfl Z0 Yn Yv a3v (a1j (a0s (a0n K rfl) (a1j (mv 0) rfl) (a7m a5y a0e) (fun _ _=>rfl)) rfl) (a0a (a0p G_e3 (hr.mono (by walk_at "r")) rfl T.m_e3 T.F_e3.kp T.b_e3 .nil a2r (a0a (mv 1) a0c)) a0c))) (a0h (a7v (mv 0) a0e a6n))))))),?_⟩
 rename_i x
 obtain⟨H0,pr,pd,pv,ps,tb,i0,_,X0,lv0,st0,rfl,q⟩:=h
 generalize eo:cls (ps.drop i0) lv0 st0=oo at q
 walk_at "s"
 refine a3w (fun k σ' H'=>∃(i:Nat)(lv:Lv)(st:List Lv)(o1:Option V),σ'=[some (.ref x),o1]/\RX K t.k_a1 t.k_a2 H0 H' x pr pd pv ps tb i 1 (lv::st)/\cls (ps.drop i) lv st=oo/\k=(ps.drop i).length) (ps.drop i0).length ⟨i0,lv0,st0,_,rfl,X0,eo,rfl⟩ (fun k σ' H' R hP kT kF=>?_)
 obtain⟨i,lv,st,o1,rfl,X,eo',rfl⟩:=hP
 obtain⟨fps,w⟩:=X.w
 rw[Y4]at w
 have hi:=X.hi
 have hps:=w.lim.2.1
 have ot:=X.sk.top
 obtain⟨dx,ho⟩:=w.ob
 walk_at "s"
 refine⟨x,dx,_,rfl,ho,a1v,?_⟩
 walk_at "s"
 refine⟨_,_,dx,_,_,rfl,ho,T.cl_a1,T.no_a1_levels,a5q _ _ _ _,?_⟩
 walk_at "s"
 obtain⟨fs,f,rfl,l0,l1⟩:=a2i.snoc w.al
 have hlvT:=w.lv
 rw[b1x]at hlvT
 obtain⟨dl,hol⟩:=l1.ob
 refine a2f (SqL.of hlvT) (at_last' _ _) ?_
 walk_at "s"
 refine⟨_,_,dl,_,_,rfl,hol,T.cl_a2,T.no_a2_kind,a9l _ _ _,?_⟩
 walk_at "s"
 refine⟨Sum.inr lv.kind,_,rfl,cl_val t ot.kd,?_⟩
 walk_at "s"
 refine⟨H0,pr,pd,pv,ps,tb,_,fs++[f],_,w,fun H1 s1=>?_⟩
 by_cases e:pcK ps i=[Sum.inr (ofString "sign"),Sum.inr (clS lv.kind)]
 rotate_left
 ·rw[show a4a ps i (clS lv.kind)=false from Zg e]
  rw[a0w]at e
  rw[c4y e]at eo'
  subst eo'
  walk_at "s"
  refine kF H1 ?_
  walk_at "s"
  exact q i H1 rfl (X.same s1)
 rw[show a4a ps i (clS lv.kind)=true from Zi e]
 rw[a0w]at e
 obtain⟨z,r,hz⟩:=a7b e
 obtain⟨n1,n2,n3⟩:=a4b hz
 have hX:=X.sk
 cases hX with
 |one a k0=>
  rw[hz,k0]at e
  exact absurd e (no_nil (X.pk z n3).1)
 | @cons _ _ lu st' a k0 sk0=>
  rw[hz]at e eo'
  rw[b7v e]at eo'
  rw[Y4]at w l0
  walk_at "s"
  refine kT H1 (fun D' e1' e2' hnx hct=>?_)
  have w1:=w.same s1
  have l01:=l0.fr (fun _ _ b _ o e=>s1 _ _ e) (fun a zs q=>s1.tup q)
  have l11:=l1.same s1
  obtain⟨dx1,ho1⟩:=w1.ob
  have hlv1:=w1.lv
  rw[b1x]at hlv1
  walk_at "s"
  refine⟨x,_,dx1,_,_,rfl,ho1,T.cl_a1,T.no_a1_levels,a5q _ _ _ _,?_⟩
  walk_at "s"
  refine⟨.inl ⟨rfl,_,SqL.of hlv1⟩,?_⟩
  refine b1j hlv1 ?_
  obtain⟨w2,l12,off⟩:=w1.pop l01 l11
  generalize upd H1 pv (.lst (fs.map fun f=>V.ref f.l))=H2 at w2 l12 ⊢
  have obd:=ot.bd
  have oln:=ot.ln
  obtain⟨y,hy⟩:=c4x (w:=lv.wait.reverse) (s:=lv.sides.reverse) (by rw[Y1,Y1];exact oln)
  rw[b9i hy]at eo'
  walk_at "s"
  refine⟨f,lv,rfl,l12,oln,by omega,by omega,fun y' H3 ey g3 l13=>?_⟩
  rw[hy]at ey
  cases ey
  have w3:=w2.away off l12 g3
  obtain⟨dx3,ho3⟩:=w3.ob
  obtain⟨gs,k0,rfl,m0,m1⟩:=a2i.snoc w3.al
  have hlv3:=w3.lv
  rw[b1x]at hlv3
  obtain⟨dk,hok⟩:=m1.ob
  walk_at "s"
  refine⟨x,_,dx3,_,_,rfl,ho3,T.cl_a1,T.no_a1_levels,a5q _ _ _ _,?_⟩
  walk_at "s"
  refine a2f (SqL.of hlv3) (at_last' _ _) ?_
  walk_at "s"
  refine⟨_,_,dk,_,_,rfl,hok,T.cl_a2,T.no_a2_sides,a9m _ _ _,?_⟩
  obtain⟨us,h1,h2⟩:=m1.sd
  have hul:=b1v h2
  have ubd:=sk0.top.bd
  refine⟨.inl ⟨rfl,_,SqL.of h1⟩,?_⟩
  walk_at "s"
  refine⟨f,_,rfl,l13,by simp,by simp;omega,?_⟩
  cases hc:clo { lv with done:=lv.done++[y],sides:=[],wait:=[]}with
  |none=>
   rw[hc]at eo'
   subst eo'
   exact q.mono w3.sm
  |some t0=>
   rw[hc]at eo'
   intro v4 H4 s4 d4
   walk_at "s"
   refine a3j (s4 _ _ h1) (ln1 (by omega)) ?_
   have m14:=m1.same s4
   have d9:DenL K H4 (us++[v4]) (Trm.dataL (lu.sides++[t0])):=by
    rw[Trm.dataL_map,Zk,<-Trm.dataL_map]
    exact(h2.mono s4).append (.cons d4 .nil)
   obtain⟨m5,g5⟩:=m14.setS d9
   have w5:=(w3.same s4).top (m0.fr (fun _ _ b _ o e=>s4 _ _ e) (fun a zs q=>s4.tup q)) m14 g5 m5
   walk_at "s"
   obtain⟨dxA,hoA⟩:=w5.ob
   refine⟨x,_,dxA,_,_,rfl,hoA,T.cl_a1,T.no_a1_at,a9y _ _ _ _,?_⟩
   walk_at "s"
   refine⟨dxA,_,hoA,by simp[fsR],?_⟩
   rw[show((i:Nat):Int)+1=((i+1:Nat):Int) by omega,a8v]
   have w6:=w5.setAt (dx:=dxA) (j:=i+1) (by omega)
   exact hnx _ _ (ps.drop (i+1)).length (by rw[hz,n1];simp) ⟨i+1,_,st',_,rfl,⟨⟨_,by rw[Y4];exact w6⟩,sk0.set (by omega) (sk0.top.thing (by omega)) id id,by omega,by have:=X.hl;simp only[length_cons]at this ⊢;omega,X.pk⟩,by rw[n1];exact eo',rfl⟩
end
section
variable{P:Program}{w:World}{K:W.Frag}{mg:Str->Option Value}{base:Heap}{t:Ad}
theorem b4x(T:Txt K mg t)(G_a5:FnOk P w K mg base CX0 1 t.a_a5 t.d_a5 ["self","ahead"] (a2t K t.k_a1 t.k_a2))(G_a3:FnOk P w K mg base CX0 1 t.a_a3 t.d_a3 ["self","words","row"] (a1g K)):FnOk P w K mg base (CXo P w) 3 t.a_b2 t.d_b2 ["self"] (a2x K t.k_a1 t.k_a2 t.k_a0):=by
 refine T.F_b2.okX b4w (fun vs H Q E h=>?_) (fun cdv A outer s H vs Q E hr h=>?_)
 ·unfold a2x at h
  split at h
  ·rfl
  ·exact h.elim
 unfold a2x at h
 split at h
 rotate_left
 ·exact h.elim
 refine⟨_,(a0h (a1e (a0v (c7k K rfl (a7x hr)) (a2m (mv 0) T.cl_a1 T.me_a5 G_a5 (hr.mono (by walk_at "r")) T.b_a5 .nil a0r (a0a a0e a0c)) (a5j (v:=.ref t.c_g6) rfl T.m_g6 rfl) (a0t _)) (a0h (a4q rfl a5p (a4p T.mk_a0 G_a3 (hr.mono (by walk_at "r")) rfl T.m_a0 T.bd_a3 (show Vals [V.int 0] [Value.int 0 t.w_a3_0]from(.cons ⟨_,rfl⟩ .nil)) a0r (a0a a0f a0c)))) a0z)),?_⟩
 rename_i x
 obtain⟨H0,pr,pd,pv,ps,tb,i,fps,lvs,w,q1,q2⟩:=h
 obtain⟨dx,ho⟩:=w.ob
 walk_at "s"
 refine⟨x,dx,_,rfl,ho,a1v,?_⟩
 walk_at "s"
 refine⟨H0,pr,pd,pv,ps,tb,i,fps,lvs,w,0,rfl,by omega,fun a0 h0=>?_⟩
 rw[Wo]at h0
 walk_at "s"
 refine⟨a0,pcK ps i,rfl,h0,.inr ⟨_,endK,rfl,T.q_g6 H,?_⟩⟩
 by_cases he:pcK ps i=endK
 ·rw[Zi he]
  walk_at "A"
  exact q1 he
 ·rw[Zg he]
  walk_at "B"
  refine⟨by simp,fun ea hea=>?_⟩
  refine⟨t.k_a0,_,true,T.x_a0,T.u_a0,T.at_a0,T.no_a0_row,a0b,fun H9 b9=>⟨rfl,?_⟩⟩
  obtain⟨dx9,h91,h92,h93⟩:=a2n hea (Same.refl _) hea b9
  refine⟨ea,t.k_a0,dx9,_,rfl,T.x_a0,h91,?_⟩
  exact q2 he ea _ h93 h92
theorem d3w{K:W.Frag}{H:Hp}{p:Addr}{k:Str}{Q:VK}(h:SqT K H p [.str (ofString "kids"),.str (ofString "list")])(hk:k=ofString "kids"\/k=ofString "list")(q:Q (.bl true) H):rIn K false (.str k) (.ref p) H Q:=by
 refine⟨p,_,rfl,.inr h,rfl,rfl,?_⟩
 have e:inV (.str k) [.str (ofString "kids"),.str (ofString "list")]=true:=by rcases hk with rfl|rfl<;>decide+kernel
 rw[if_neg (by decide),e]
 exact q
theorem d1x{K:W.Frag}{H:Hp}{p:Addr}{k:Str}{Q:VK}(h:SqT K H p [.str (ofString "kids"),.str (ofString "list")])(hk:k=ofString "whole"\/k=ofString "round"\/k=ofString "rest")(q:Q (.bl false) H):rIn K false (.str k) (.ref p) H Q:=by
 refine⟨p,_,rfl,.inr h,rfl,rfl,?_⟩
 have e:inV (.str k) [.str (ofString "kids"),.str (ofString "list")]=false:=by rcases hk with rfl|rfl|rfl<;>decide+kernel
 rw[if_neg (by decide),e]
 exact q
theorem no_kd{k:Str}(h:b5r k)(n:¬(k=ofString "kids"\/k=ofString "list")):k=ofString "whole"\/k=ofString "round"\/k=ofString "rest":=by
 rcases h with h|h|h|h|h
 ·exact .inl h
 ·exact .inr (.inl h)
 ·exact absurd (.inl h) n
 ·exact absurd (.inr h) n
 ·exact .inr (.inr h)
theorem b2d(T:Txt K mg t)(G_a5:FnOk P w K mg base CX0 1 t.a_a5 t.d_a5 ["self","ahead"] (a2t K t.k_a1 t.k_a2))(G_e9:FnOk P w K mg base (CXo P w) 4 t.a_e9 t.d_e9 ["level","mark","signs"] (a9x K t.k_a2 t.k_a0))(G_a4:FnOk P w K mg base CX0 2 t.a_a4 t.d_a4 ["self","text"] (a2u K t.k_a1 t.k_a2))(G_a7:FnOk P w K mg base CX0 3 t.a_a7 t.d_a7 ["level"] (a8g K t.k_a2)):FnOk P w K mg base (CXo P w) 5 t.a_f8 t.d_f8 ["self"] (a3o K t.k_a1 t.k_a2 t.k_a0):=by
 refine T.F_f8.okX a4t (fun vs H Q E h=>?_) (fun cdv A outer s H vs Q E hr h=>?_)
 ·unfold a3o at h
  split at h
  ·rfl
  ·exact h.elim
 unfold a3o at h
 split at h
 rotate_left
 ·exact h.elim
 refine⟨_,(a0g (a0m (i:=1) (hs:=a8p) a4t.nd rfl (by walk_at "or1") (a0s (a0n K rfl) (a1j (mv 0) rfl) (a7m a5y a0e) (fun _ _=>rfl))) (a0g (a0m (i:=2) (hs:=a1q) a4t.nd rfl (by walk_at "or1") (a2m (mv 0) T.cl_a1 T.me_a5 G_a5 (hr.mono (by walk_at "r")) T.b_a5 .nil a0r (a0a a0e a0c))) (a0g (a1e (a0v a1s (a0s (a0n K rfl) (mv 2) a0e (fun _ _=>rfl)) a0f (a0t _)) (a0h (a1m (a0p G_e9 (hr.mono (by walk_at "r")) rfl T.m_e9 T.F_e9.kp T.b_e9 .nil a2r (a0a (mv 1) (a0a (a0s (a0n K rfl) (mv 2) a0e (fun _ _=>rfl)) (a0a (a1j (mv 0) rfl) a0c)))))) (a0h (a1e (PW.pt (a8k (a1n K rfl (a2m (mv 0) T.cl_a1 T.me_a4 G_a4 (hr.mono (by walk_at "r")) T.b_a4 .nil a0r (a0a a0f a0c))) (a6u (a0v (ko_inV K rfl) (a1j (mv 1) rfl) (a0y (a0a a0f (a0a a0f a0c))) (by with_unfolding_all rfl))))) (a0h (a1m (a0p G_a7 (hr.mono (by walk_at "r")) rfl T.m_a7 T.F_a7.kp T.b_a7 .nil a0r (a0a (mv 1) a0c)))) (a0h (a1e (PW.pt (a8k (a1n K rfl (a2m (mv 0) T.cl_a1 T.me_a4 G_a4 (hr.mono (by walk_at "r")) T.b_a4 .nil a0r (a0a a0f a0c))) (a6u (a0v a1s (a1j (mv 1) rfl) a0f (a0t _))))) (a0g (a1m (a0p G_a7 (hr.mono (by walk_at "r")) rfl T.m_a7 T.F_a7.kp T.b_a7 .nil a0r (a0a (mv 1) a0c))) (a0h (a6l (mv 1) a0f rfl))) (a0h (a0o a3b))))))) (a0g (a7v (mv 0) a0e a6n) (a0h (a0o a3b)))))),?_⟩
 rename_i x
 obtain⟨H0,pr,pd,pv,ps,tb,i,_,X,lv,st,rfl,q⟩:=h
 obtain⟨fps,w⟩:=X.w
 rw[Y4]at w
 have hi:=X.hi
 have hps:=w.lim.2.1
 have ot:=X.sk.top
 have obd:=ot.bd
 have oln:=ot.ln
 obtain⟨yy,hy1⟩:=c4x (w:=lv.wait.reverse) (s:=lv.sides.reverse) (by rw[Y1,Y1];exact oln)
 obtain⟨dx,ho⟩:=w.ob
 obtain⟨fs,f,rfl,l0,l1⟩:=a2i.snoc w.al
 have hlvT:=w.lv
 rw[b1x]at hlvT
 walk_at "s"
 refine⟨_,_,dx,_,_,rfl,ho,T.cl_a1,T.no_a1_levels,a5q _ _ _ _,?_⟩
 walk_at "s"
 refine a2f (SqL.of hlvT) (at_last' _ _) ?_
 walk_at "s"
 refine⟨x,dx,_,rfl,ho,a1v,?_⟩
 walk_at "s"
 refine⟨H0,pr,pd,pv,ps,tb,i,fs++[f],_,w,0,rfl,by omega,fun a0 h0=>?_⟩
 rw[Wo]at h0
 walk_at "s"
 obtain⟨ka,kb,hk⟩:=c0l ps i
 rw[hk]at h0
 refine a1c h0 (v:=.str ka) rfl ?_
 walk_at "s"
 refine iteB (fun y=>?_) (fun y=>?_)
 ·have hy:ka=ofString "mark":=by rw[Zt]at y;exact Zm y
  rw[hy]at hk
  obtain⟨z,r,hz,kz⟩:=c1m hk
  obtain⟨n1,n2,n3⟩:=a4b hz
  have ekb:⟨z.toArray⟩=kb:=by rw[a0w,hz]at hk;simp only[hK,Pc.ks,Yk,Y2]at hk;exact hk.2.1
  subst ekb
  walk_at "s"
  refine a1c h0 (v:=.str ⟨z.toArray⟩) rfl ?_
  walk_at "s"
  refine⟨_,_,dx,_,_,rfl,ho,T.cl_a1,T.no_a1_signs,d3v _ _ _ _,?_⟩
  walk_at "s"
  obtain⟨kvs,hs1,hs2⟩:=w.sg
  obtain⟨g0,hg⟩:∃g,lkT tb ⟨z.toArray⟩=some g:=Uy.mp ((X.pk z n3).2 kz)
  rw[hz,btw,if_pos kz,hg]at q
  refine⟨f,lv,kvs,tb,g0,rfl,l1,w.sm _ _ hs1,hs2.monoT (fun a zs q=>w.sm.tup q),hg,ot.wt,oln,by omega,?_⟩
  cases ha:addM tb ⟨z.toArray⟩ g0 lv.sides.reverse lv.wait.reverse with
  |none=>
   simp only[ha,Option.map_none]at q
   exact fun ea H2 g2 hx=>q ea H2 (fun b o e=>g2 _ _ (fun y=>by rw[w.ff f (by simp) b y]at e;cases e) (w.sm _ _ e)) hx
  |some rr=>
   simp only[ha,Option.map_some]at q
   obtain⟨a1,a2,a3⟩:=c7r ((X.pk z n3).2 kz) ha (by rw[Y1,Y1];exact oln) (fun y hy=>ot.wt y (List.mem_reverse.mp hy))
   rw[Y1]at a2
   intro H2 g2 l2
   have w2:=w.top l0 l1 g2 l2
   walk_at "s"
   obtain⟨dxA,hoA⟩:=w2.ob
   refine⟨x,_,dxA,_,_,rfl,hoA,T.cl_a1,T.no_a1_at,a9y _ _ _ _,?_⟩
   walk_at "s"
   refine⟨dxA,_,hoA,by simp[fsR],?_⟩
   rw[show((i:Nat):Int)+1=((i+1:Nat):Int) by omega,a8v]
   walk_at "s"
   exact q _ n1 (X.set (w2.setAt (by omega)) (by omega) (by omega) ⟨ot.kd,by simp;exact a1,by simp;omega,fun y hy=>a3 y (List.mem_reverse.mp hy)⟩ id id)
 have hy:ka≠ofString "mark":=by rw[Zt]at y;exact Zo y
 have hnm:∀z r,ps.drop i=z::r->kindOf z≠ofString "mark":=fun z r hz y=>hy (by rw[a0w,hz]at hk;simp only[hK,Pc.ks,Yk,Y2]at hk;rw[<-hk.1];exact y)
 walk_at "s"
 refine⟨x,dx,_,rfl,ho,a1v,?_⟩
 walk_at "s"
 refine⟨H0,pr,pd,pv,ps,tb,i,fs++[f],_,w,fun H1 s1=>?_⟩
 have w1:=w.same s1
 have l0:=l0.fr (fun _ _ b _ o e=>s1 _ _ e) (fun a zs q=>s1.tup q)
 have l1:=l1.same s1
 obtain⟨dx1,ho1⟩:=w1.ob
 by_cases c1:pcK ps i=sgK ","
 rotate_left
 ·rw[show a4a ps i (ofString ",")=false from Zg c1]
  walk_at "s"
  refine iteF ?_
  walk_at "C"
  obtain⟨dxT,hoT⟩:=w1.ob
  refine⟨x,dxT,_,rfl,hoT,a1v,?_⟩
  walk_at "s"
  refine⟨H0,pr,pd,pv,ps,tb,i,fs++[f],_,w1,fun H6 s6=>?_⟩
  have w6:=w1.same s6
  have m0:=l0.fr (fun _ _ b _ o e=>s6 _ _ e) (fun a zs q=>s6.tup q)
  have m1:=l1.same s6
  by_cases c2:pcK ps i=sgK "|"
  rotate_left
  ·rw[show a4a ps i (ofString "|")=false from Zg c2]
   rw[b5t hnm (fun e=>c1 (by rw[a0w];exact e.1)) (fun e=>c2 (by rw[a0w];exact e.1))]at q
   walk_at "s"
   refine iteF ?_
   walk_at "C"
   exact q _ ((X.same s1).same s6)
  obtain⟨dl6,hol6⟩:=m1.ob
  rw[show a4a ps i (ofString "|")=true from Zi c2]
  walk_at "B"
  refine⟨_,_,dl6,_,_,rfl,hol6,T.cl_a2,T.no_a2_kind,a9l _ _ _,?_⟩
  walk_at "s"
  rw[Zt]
  by_cases k2:lv.kind=ofString "list"
  rotate_left
  ·rw[Zg k2]
   rw[b5t hnm (fun e=>c1 (by rw[a0w];exact e.1)) (fun e=>k2 e.2)]at q
   walk_at "A"
   exact q _ ((X.same s1).same s6)
  rw[Zi k2]
  walk_at "B"
  have c3:=c2
  rw[a0w]at c3
  obtain⟨z,r,hz⟩:=a7b c3
  obtain⟨n1,n2,n3⟩:=a4b hz
  rw[hz]at c3 q
  rw[c0n c3 k2,b9i hy1]at q
  refine⟨f,lv,rfl,m1,oln,by omega,by omega,fun y' H3 ey g3 l3=>?_⟩
  rw[hy1]at ey
  cases ey
  have w3:=w6.top m0 m1 g3 l3
  obtain⟨dl3,hol3⟩:=l3.ob
  walk_at "s"
  refine⟨f.l,_,dl3,_,rfl,hol3,T.cl_a2,T.no_a2_kind,by simp[fsL],?_⟩
  rw[c4w]
  obtain⟨l5,g5⟩:=l3.setK (k:=ofString "rest") hol3
  obtain⟨fs0,f0,e0,l0',l1'⟩:=a2i.snoc w3.al
  obtain⟨rfl,rfl⟩:fs=fs0/\f=f0:=by
   have:=List.append_inj e0 (by have:=Ys List.length e0;simp at this;exact this)
   simpa using this
  have w5:=w3.top l0' l3 g5 l5
  walk_at "s"
  obtain⟨dxA,hoA⟩:=w5.ob
  refine⟨x,_,dxA,_,_,rfl,hoA,T.cl_a1,T.no_a1_at,a9y _ _ _ _,?_⟩
  walk_at "s"
  refine⟨dxA,_,hoA,by simp[fsR],?_⟩
  rw[show((i:Nat):Int)+1=((i+1:Nat):Int) by omega,a8v]
  walk_at "s"
  exact q _ n1 (X.set (w5.setAt (by omega)) (by omega) (by omega) ⟨.inr (.inr (.inr (.inr rfl))),rfl,by simp;omega,fun _ z=>by cases z⟩ (fun y=>absurd (k2.symm.trans y) (by decide+kernel)) (fun y=>absurd (show ofString "rest"=ofString "whole" from y) (by decide+kernel)))
 rw[show a4a ps i (ofString ",")=true from Zi c1]
 obtain⟨dl,hol⟩:=l1.ob
 walk_at "B"
 refine⟨_,_,dl,_,_,rfl,hol,T.cl_a2,T.no_a2_kind,a9l _ _ _,?_⟩
 walk_at "s"
 refine⟨ln (by show 2<=100000;decide),fun p4 hp4=>?_⟩
 have s4:=a0d hp4 (.tup [.str (ofString "kids"),.str (ofString "list")])
 walk_at "s"
 have w4:=w1.same s4
 have l0:=l0.fr (fun _ _ b _ o e=>s4 _ _ e) (fun a zs q=>s4.tup q)
 have l1:=l1.same s4
 by_cases k1:lv.kind=ofString "kids"\/lv.kind=ofString "list"
 ·refine d3w (SqT.of a0b) k1 ?_
  generalize upd H1 p4 (.tup [.str (ofString "kids"),.str (ofString "list")])=H4 at w4 l0 l1 ⊢
  rw[a0w]at c1
  obtain⟨z,r,hz⟩:=a7b c1
  obtain⟨n1,n2,n3⟩:=a4b hz
  rw[hz]at c1 q
  rw[c1n c1 k1]at q
  walk_at "B"
  refine⟨f,lv,rfl,l1,oln,by omega,by omega,fun y' H3 ey g3 l3=>?_⟩
  rw[hy1]at ey
  cases ey
  have w3:=w4.top l0 l1 g3 l3
  rw[<-b9i hy1]at w3
  walk_at "s"
  obtain⟨dxA,hoA⟩:=w3.ob
  refine⟨x,_,dxA,_,_,rfl,hoA,T.cl_a1,T.no_a1_at,a9y _ _ _ _,?_⟩
  walk_at "s"
  refine⟨dxA,_,hoA,by simp[fsR],?_⟩
  rw[show((i:Nat):Int)+1=((i+1:Nat):Int) by omega,a8v]
  walk_at "s"
  exact q _ n1 (X.set (w3.setAt (by omega)) (by omega) (by omega) ((fin_ok ot).mono (by omega)) id id)
 ·refine d1x (SqT.of a0b) (no_kd ot.kd k1) ?_
  have X4:=(X.same s1).same s4
  generalize upd H1 p4 (.tup [.str (ofString "kids"),.str (ofString "list")])=H4 at w4 l0 l1 X4 ⊢
  walk_at "A"
  obtain⟨dxT,hoT⟩:=w4.ob
  refine⟨x,dxT,_,rfl,hoT,a1v,?_⟩
  walk_at "s"
  refine⟨H0,pr,pd,pv,ps,tb,i,fs++[f],_,w4,fun H6 s6=>?_⟩
  have w6:=w4.same s6
  have m0:=l0.fr (fun _ _ b _ o e=>s6 _ _ e) (fun a zs q=>s6.tup q)
  have m1:=l1.same s6
  by_cases c2:pcK ps i=sgK "|"
  rotate_left
  ·rw[show a4a ps i (ofString "|")=false from Zg c2]
   rw[b5t hnm (fun e=>k1 e.2) (fun e=>c2 (by rw[a0w];exact e.1))]at q
   walk_at "s"
   refine iteF ?_
   walk_at "C"
   exact q _ (X4.same s6)
  obtain⟨dl6,hol6⟩:=m1.ob
  rw[show a4a ps i (ofString "|")=true from Zi c2]
  walk_at "B"
  refine⟨_,_,dl6,_,_,rfl,hol6,T.cl_a2,T.no_a2_kind,a9l _ _ _,?_⟩
  walk_at "s"
  rw[Zt]
  by_cases k2:lv.kind=ofString "list"
  rotate_left
  ·rw[Zg k2]
   rw[b5t hnm (fun e=>k1 e.2) (fun e=>k2 e.2)]at q
   walk_at "A"
   exact q _ (X4.same s6)
  rw[Zi k2]
  walk_at "B"
  have c3:=c2
  rw[a0w]at c3
  obtain⟨z,r,hz⟩:=a7b c3
  obtain⟨n1,n2,n3⟩:=a4b hz
  rw[hz]at c3 q
  rw[c0n c3 k2,b9i hy1]at q
  refine⟨f,lv,rfl,m1,oln,by omega,by omega,fun y' H3 ey g3 l3=>?_⟩
  rw[hy1]at ey
  cases ey
  have w3:=w6.top m0 m1 g3 l3
  obtain⟨dl3,hol3⟩:=l3.ob
  walk_at "s"
  refine⟨f.l,_,dl3,_,rfl,hol3,T.cl_a2,T.no_a2_kind,by simp[fsL],?_⟩
  rw[c4w]
  obtain⟨l5,g5⟩:=l3.setK (k:=ofString "rest") hol3
  obtain⟨fs0,f0,e0,l0',l1'⟩:=a2i.snoc w3.al
  obtain⟨rfl,rfl⟩:fs=fs0/\f=f0:=by
   have:=List.append_inj e0 (by have:=Ys List.length e0;simp at this;exact this)
   simpa using this
  have w5:=w3.top l0' l3 g5 l5
  walk_at "s"
  obtain⟨dxA,hoA⟩:=w5.ob
  refine⟨x,_,dxA,_,_,rfl,hoA,T.cl_a1,T.no_a1_at,a9y _ _ _ _,?_⟩
  walk_at "s"
  refine⟨dxA,_,hoA,by simp[fsR],?_⟩
  rw[show((i:Nat):Int)+1=((i+1:Nat):Int) by omega,a8v]
  walk_at "s"
  exact q _ n1 (X.set (w5.setAt (by omega)) (by omega) (by omega) ⟨.inr (.inr (.inr (.inr rfl))),rfl,by simp;omega,fun _ z=>by cases z⟩ (fun y=>absurd (k2.symm.trans y) (by decide+kernel)) (fun y=>absurd (show ofString "rest"=ofString "whole" from y) (by decide+kernel)))
theorem b9k(T:Txt K mg t)  :FnOk P w K mg base CX0 1 t.a_b3 t.d_b3 ["self","row","signs"] (a4e K t.k_a1):=by
 refine T.F_b3.ok b8t (fun vs H Q E h=>?_) (fun cdv A outer s H vs Q E hr h=>?_)
 ·unfold a4e at h
  split at h
  ·rfl
  ·exact h.elim
 unfold a4e at h
 split at h
 rotate_left
 ·exact h.elim
 refine⟨_,(a0g (a6l (mv 0) (mv 1) rfl) (a0g (a6l (mv 0) (mv 2) rfl) (a0g (a6l (mv 0) a0e rfl) (a0h (a6l (mv 0) (a1w a0c) rfl))))),?_⟩
 rename_i x pr pd
 obtain⟨dx,hx,q⟩:=h
 walk_at "s"
 refine⟨x,_,dx,_,rfl,hx,T.cl_a1,T.no_a1_row,by simp,?_⟩
 have e0:putF (ofString "row") (.ref pr) []=[(rowN,V.ref pr)]:=by rfl
 rw[e0]
 have b0:But x H (upd H x (.ins t.k_a1 dx [(rowN,V.ref pr)])):=a6w _
 have c0:(upd H x (.ins t.k_a1 dx [(rowN,V.ref pr)])) x=some (.ins t.k_a1 dx [(rowN,V.ref pr)]):=a0b
 generalize upd H x (.ins t.k_a1 dx [(rowN,V.ref pr)])=J0 at b0 c0 ⊢
 walk_at "s"
 refine⟨x,_,dx,_,rfl,c0,T.cl_a1,T.no_a1_signs,by simp,?_⟩
 have e1:putF (ofString "signs") (.ref pd) [(rowN,V.ref pr)]=[(rowN,V.ref pr),(a2c,V.ref pd)]:=by simp only[putF,show ¬rowN=ofString "signs" by decide+kernel,Xq]
 rw[e1]
 have b1:But x J0 (upd J0 x (.ins t.k_a1 dx [(rowN,V.ref pr),(a2c,V.ref pd)])):=a6w _
 have c1:(upd J0 x (.ins t.k_a1 dx [(rowN,V.ref pr),(a2c,V.ref pd)])) x=some (.ins t.k_a1 dx [(rowN,V.ref pr),(a2c,V.ref pd)]):=a0b
 generalize upd J0 x (.ins t.k_a1 dx [(rowN,V.ref pr),(a2c,V.ref pd)])=J1 at b1 c1 ⊢
 walk_at "s"
 refine⟨x,_,dx,_,rfl,c1,T.cl_a1,T.no_a1_at,by simp,?_⟩
 have e2:putF (ofString "at") (.int 0) [(rowN,V.ref pr),(a2c,V.ref pd)]=[(rowN,V.ref pr),(a2c,V.ref pd),(atN,V.int 0)]:=by simp only[putF,show ¬rowN=ofString "at" by decide+kernel,show ¬a2c=ofString "at" by decide+kernel,Xq]
 rw[e2]
 have b2:But x J1 (upd J1 x (.ins t.k_a1 dx [(rowN,V.ref pr),(a2c,V.ref pd),(atN,V.int 0)])):=a6w _
 have c2:(upd J1 x (.ins t.k_a1 dx [(rowN,V.ref pr),(a2c,V.ref pd),(atN,V.int 0)])) x=some (.ins t.k_a1 dx [(rowN,V.ref pr),(a2c,V.ref pd),(atN,V.int 0)]):=a0b
 generalize upd J1 x (.ins t.k_a1 dx [(rowN,V.ref pr),(a2c,V.ref pd),(atN,V.int 0)])=J2 at b2 c2 ⊢
 walk_at "s"
 refine⟨ln (by show 0<=100000;decide),fun pv hpv=>?_⟩
 have spv:=a0d hpv (.lst [])
 generalize upd J2 pv (.lst [])=L at spv ⊢
 have oL:=spv _ _ c2
 walk_at "s"
 refine⟨x,_,dx,_,rfl,oL,T.cl_a1,T.no_a1_levels,by simp,?_⟩
 have e3:putF (ofString "levels") (.ref pv) [(rowN,V.ref pr),(a2c,V.ref pd),(atN,V.int 0)]=[(rowN,V.ref pr),(a2c,V.ref pd),(atN,V.int 0),(a8h,V.ref pv)]:=by simp only[putF,show ¬rowN=ofString "levels" by decide+kernel,show ¬a2c=ofString "levels" by decide+kernel,show ¬atN=ofString "levels" by decide+kernel,Xq]
 rw[e3]
 have b3:But x L (upd L x (.ins t.k_a1 dx [(rowN,V.ref pr),(a2c,V.ref pd),(atN,V.int 0),(a8h,V.ref pv)])):=a6w _
 have c3:(upd L x (.ins t.k_a1 dx [(rowN,V.ref pr),(a2c,V.ref pd),(atN,V.int 0),(a8h,V.ref pv)])) x=some (.ins t.k_a1 dx [(rowN,V.ref pr),(a2c,V.ref pd),(atN,V.int 0),(a8h,V.ref pv)]):=a0b
 generalize upd L x (.ins t.k_a1 dx [(rowN,V.ref pr),(a2c,V.ref pd),(atN,V.int 0),(a8h,V.ref pv)])=J3 at b3 c3 ⊢
 walk_at "s"
 exact q pv J3 c3 (fun b o hb e=>b3 _ _ hb (spv _ _ (b2 _ _ hb (b1 _ _ hb (b0 _ _ hb e)))))
end
theorem b6i:∀{r:List Pc}{st:List Lv}{q:List Pc×List Lv},opn r st=some q->hK q.1=sgK "["->hK q.1.tail=sgK "]"
 | [],st,q,h,e=>by
  rw[opn]at h
  cases h
  exact absurd e (b9j _)
 |z::r,st,q,h,e=>by
  by_cases c1:Pc.ks z=sgK "("
  ·rw[b5s c1]at h;exact b6i h e
  by_cases c2:Pc.ks z=sgK "["/\hK r≠sgK "]"
  ·rw[b7t c2.1 c2.2]at h;exact b6i h e
  cases r with
  |nil=>
   rw[opn,if_neg c1,if_neg c2]at h
   cases h
   cases Classical.em (hK ([]:List Pc)=sgK "]")with
   |inl y=>exact y
   |inr y=>exact absurd ⟨e,y⟩ c2
  |cons y r=>
   rw[opn,if_neg c1,if_neg c2]at h
   by_cases c3:kindOf z=ofString "word"/\Pc.ks y=sgK "("
   ·rw[if_pos c3]at h
    by_cases c4:z.length<=12
    ·rw[if_pos c4]at h;exact b6i h e
    ·rw[if_neg c4]at h;cases h
   ·rw[if_neg c3]at h
    cases h
    cases Classical.em (hK (y::r)=sgK "]")with
    |inl x=>exact x
    |inr x=>exact absurd ⟨e,x⟩ c2
inductive Lp(tb:Tb):Nat->List Pc->List Lv->Option (List Pc×List Lv)->Prop where
 |bad {r:List Pc} {st:List Lv}:trn tb r st=none->Lp tb 1 r st none
 |last {r:List Pc} {st:List Lv} {x:List Pc×List Lv}:trn tb r st=some (false,x)->Lp tb 1 r st (some x)
 |more {n:Nat} {r:List Pc} {st:List Lv} {x:List Pc×List Lv} {o:Option (List Pc×List Lv)}:trn tb r st=some (true,x)->Lp tb n x.1 x.2 o->Lp tb (n+1) r st o
theorem Lp.none{tb:Tb}{n:Nat}{r:List Pc}{st:List Lv}{o:Option (List Pc×List Lv)}(h:Lp tb n r st o)(e:trn tb r st=none):o=none:=by
 cases h with
 |bad _=>rfl
 |last a=>rw[e]at a;cases a
 |more a _=>rw[e]at a;cases a
theorem Lp.one{tb:Tb}{n:Nat}{r:List Pc}{st:List Lv}{x:List Pc×List Lv}{o:Option (List Pc×List Lv)}(h:Lp tb n r st o)(e:trn tb r st=some (false,x)):o=some x/\0<n:=by
 cases h with
 |bad a=>rw[e]at a;cases a
 |last a=>rw[e]at a;cases a;exact⟨rfl,by decide⟩
 |more a _=>rw[e]at a;cases a
theorem Lp.next{tb:Tb}{n:Nat}{r:List Pc}{st:List Lv}{x:List Pc×List Lv}{o:Option (List Pc×List Lv)}(h:Lp tb n r st o)(e:trn tb r st=some (true,x)):∃m,m<n/\Lp tb m x.1 x.2 o:=by
 cases h with
 |bad a=>rw[e]at a;cases a
 |last a=>rw[e]at a;cases a
 |more a b=>rw[e]at a;cases a;exact⟨_,Ug _,b⟩
inductive RdT(tb:Tb)(r:List Pc):Option (Trm×List Pc)->Prop where
 |bad {n:Nat}:Lp tb n r [a2q] none->RdT tb r none
 |open' {n:Nat} {r':List Pc} {a b:Lv} {st:List Lv}:Lp tb n r [a2q] (some (r',a::b::st))->RdT tb r none
 |term {n:Nat} {r':List Pc} {lv:Lv} {y:Trm}:Lp tb n r [a2q] (some (r',[lv]))->lv.done=[]->jn lv.sides.reverse lv.wait.reverse=[y]->y.size<=40->RdT tb r (some (y,r'))
 |big {n:Nat} {r':List Pc} {lv:Lv} {y:Trm}:Lp tb n r [a2q] (some (r',[lv]))->lv.done=[]->jn lv.sides.reverse lv.wait.reverse=[y]->40<y.size->y.size<=1000->RdT tb r none
def FinT:Option (List Pc×List Lv)->Option (Trm×List Pc)->Prop
 |none,oo=>oo=none
 |some q,oo=>(∃a b st,q.2=a::b::st/\oo=none)\/∃(lv:Lv)(y:Trm),q.2=[lv]/\lv.done=[]/\jn lv.sides.reverse lv.wait.reverse=[y]/\((y.size<=40/\oo=some (y,q.1))\/(40<y.size/\y.size<=1000/\oo=none))
theorem RdT.fin{tb:Tb}{r:List Pc}{oo:Option (Trm×List Pc)}(h:RdT tb r oo):∃n lo,Lp tb n r [a2q] lo/\FinT lo oo:=by
 cases h with
 |bad a=>exact⟨_,_,a,rfl⟩
 |open' a=>exact⟨_,_,a,.inl ⟨_,_,_,rfl,rfl⟩⟩
 |term a b c d=>exact⟨_,_,a,.inr ⟨_,_,rfl,b,c,.inl ⟨d,rfl⟩⟩⟩
 |big a b c d e=>exact⟨_,_,a,.inr ⟨_,_,rfl,b,c,.inr ⟨d,e,rfl⟩⟩⟩
inductive RdG(tb:Tb):Nat->List Pc->Option (List Trm×List Pc)->Prop where
 |one {r r':List Pc} {y:Trm}:RdT tb r (some (y,r'))->hK r'≠sgK ","->RdG tb 0 r (some ([y],r'))
 |more {n:Nat} {r:List Pc} {z:Pc} {r':List Pc} {y:Trm} {o:Option (List Trm×List Pc)}:RdT tb r (some (y,z::r'))->Pc.ks z=sgK ","->RdG tb n r' o->RdG tb (n+1) r (o.map fun q=>(y::q.1,q.2))
 |bad {r:List Pc}:RdT tb r none->RdG tb 0 r none
def Aft(tb:Tb)(n:Nat)(r:List Pc)(o:Option (List Trm×List Pc)):Prop:=(n=0/\hK r≠sgK ","/\o=some ([],r))\/∃m z r',n=m+1/\r=z::r'/\Pc.ks z=sgK ","/\RdG tb m r' o
theorem RdG.fst{tb:Tb}{n:Nat}{r:List Pc}{o:Option (List Trm×List Pc)}(h:RdG tb n r o):(RdT tb r none/\o=none)\/∃y r' o',RdT tb r (some (y,r'))/\Aft tb n r' o'/\o=o'.map fun q=>(y::q.1,q.2):=by
 cases h with
 |one a b=>exact .inr ⟨_,_,_,a,.inl ⟨rfl,b,rfl⟩,rfl⟩
 |more a b c=>exact .inr ⟨_,_,_,a,.inr ⟨_,_,_,rfl,rfl,b,c⟩,rfl⟩
 |bad a=>exact .inl ⟨a,rfl⟩
structure RA(K:W.Frag)(CR:Addr)(H0 H:Hp)(x pr pd:Addr)(ps:List Pc)(tb:Tb)(i:Nat):Prop where
 ob:∃dx pv,H x=some (.ins CR dx (fsR pr pd i pv))
 row:∃us,H0 pr=some (.lst us)/\DenL K H0 us (ps.map Pc.data)
 sg:∃kvs,H0 pd=some (.dK kvs)/\TR K H0 kvs tb
 sm:Same H0 H
 fx:H0 x=none
 lim:ps.length<=275/\i<=ps.length
 pk:∀z∈ps,Pok z/\(kindOf z=ofString "mark"->(lkT tb ⟨z.toArray⟩).isSome=true)
def resTT(K:W.Frag)(CR CL B:Addr)(H0:Hp)(x pr pd:Addr)(ps:List Pc)(tb:Tb)(Q:VK)(E:XK):Option (Trm×List Pc)->Prop
 |some y=>∀(v:V) H' (j:Nat) (pv:Addr) (fps:List Fp) (lvs:List Lv),RS K CR CL H0 H' x pr pd pv ps tb j fps lvs->ps.drop j=y.2->j<=ps.length->Den K H' v y.1.data->Q v H'
 |none=>onX H0 B E
abbrev a2o(K:W.Frag)(CR CL B:Addr):Sp:=fun vs H Q E=>match vs with| [.ref x]=>∃(H0:Hp)(pr pd:Addr)(ps:List Pc)(tb:Tb)(i:Nat)(o:Option (Trm×List Pc)),RA K CR H0 H x pr pd ps tb i/\RdT tb (ps.drop i) o/\resTT K CR CL B H0 x pr pd ps tb Q E o|_=>False
abbrev a3h(K:W.Frag)(CR CL:Addr):Sp:=fun vs H Q _=>match vs with| [.ref x,.str s]=>RdS K CR CL H x fun H0 pr pd pv ps tb i fps lvs=>i<=890/\∀H',(∀b o,b≠x->H b=some o->H' b=some o)->RS K CR CL H0 H' x pr pd pv ps tb (i+(a4a ps i s).toNat) fps lvs->Q (.bl (a4a ps i s)) H'|_=>False
def resTS(K:W.Frag)(CR CL B:Addr)(H0:Hp)(x pr pd:Addr)(ps:List Pc)(tb:Tb)(Q:VK)(E:XK):Option (List Trm×List Pc)->Prop
 |some y=>∀(p:Addr)(us:List V) H' (j:Nat) (pv:Addr) (fps:List Fp) (lvs:List Lv),RS K CR CL H0 H' x pr pd pv ps tb j fps lvs->ps.drop j=y.2->j<=ps.length->H0 p=none->H' p=some (.lst us)->DenL K H' us (Trm.dataL y.1)->Q (.ref p) H'
 |none=>onX H0 B E
abbrev a2z(K:W.Frag)(CR CL B:Addr):Sp:=fun vs H Q E=>match vs with| [.ref x]=>∃(H0:Hp)(pr pd:Addr)(ps:List Pc)(tb:Tb)(n i:Nat)(o:Option (List Trm×List Pc)),RA K CR H0 H x pr pd ps tb i/\n<=60/\RdG tb n (ps.drop i) o/\resTS K CR CL B H0 x pr pd ps tb Q E o|_=>False
def resEnd{α:Type}(G:α->Prop)(R:Prop):Option (α×List Pc)->Prop
 |some (y,[])=>G y
 |some (_,_::_)=>R
 |none=>R
inductive RdR(tb:Tb)(r:List Pc):Option ((Trm×List Trm)×List Pc)->Prop where
 |fact {r':List Pc} {y:Trm}:RdT tb r (some (y,r'))->hK r'≠sgK "<-"->RdR tb r (some ((y,[]),r'))
 |rule {n:Nat} {z:Pc} {r':List Pc} {y:Trm} {o:Option (List Trm×List Pc)}:RdT tb r (some (y,z::r'))->Pc.ks z=sgK "<-"->n<=60->RdG tb n r' o->RdR tb r (o.map fun q=>((y,q.1),q.2))
 |bad:RdT tb r none->RdR tb r none
structure TxTb(K:W.Frag)(H:Hp)(l:List Nat)(pd:Addr)(tb:Tb):Prop where
 len:l.length<=900
 pl:a1a l
 tab:∃kvs,H pd=some (.dK kvs)/\TR K H kvs tb
 cnt:(bits l).length<=275
 mks:∀z∈bits l,kindOf z=ofString "mark"->(lkT tb ⟨z.toArray⟩).isSome=true
def a7o{α:Type}(P:List Pc->Option (α×List Pc)->Prop)(l:List Nat)(G:α->Prop)(R:Prop):Prop:=(a2a l=false/\R)\/(a2a l=true/\∃o,P (bits l) o/\resEnd G R o)
abbrev b6j(K:W.Frag)(B:Addr):Sp:=fun vs H Q E=>match vs with| [.str s,.ref pd]=>∃(l:List Nat)(tb:Tb),s=⟨l.toArray⟩/\TxTb K H l pd tb/\a7o (RdT tb) l (fun y=>∀(v:V) H',Same H H'->Den K H' v y.data->Q v H') (onX H B E)|_=>False
abbrev a7p(K:W.Frag)(B:Addr):Sp:=fun vs H Q E=>match vs with| [.str s,.ref pd]=>∃(l:List Nat)(tb:Tb)(n:Nat),s=⟨l.toArray⟩/\TxTb K H l pd tb/\n<=60/\a7o (RdG tb n) l (fun ys=>∀(p:Addr)(us:List V) H',Same H H'->H p=none->H' p=some (.lst us)->DenL K H' us (Trm.dataL ys)->Q (.ref p) H') (onX H B E)|_=>False
abbrev a8w(K:W.Frag)(B:Addr):Sp:=fun vs H Q E=>match vs with| [.str s,.ref pd]=>∃(l:List Nat)(tb:Tb),s=⟨l.toArray⟩/\TxTb K H l pd tb/\a7o (RdR tb) l (fun y=>∀(a p:Addr)(v:V)(us:List V) H',Same H H'->H p=none->SqT K H' a [v,.ref p]->Den K H' v y.1.data->H' p=some (.lst us)->DenL K H' us (Trm.dataL y.2)->Q (.ref a) H') (onX H B E)|_=>False
theorem bits_in:∀(n:Nat)(l:List Nat),l.length=n->∀z∈bits l,∃c r,z=c::r/\(∀y∈z,y∈l)/\z.length<=l.length/\(inn c->∀y∈r,inn y):=by
 intro n
 induction n using Nat.strongRecOn with
 |_ n ih=>
  intro l hl z hz
  cases l with
  |nil=>rw[a7u]at hz;cases hz
  |cons c r=>
   by_cases hc:c=32
   ·rw[hc,a4m]at hz
    obtain⟨c',r',e,h1,h2,h3⟩:=ih r.length (by rw[<-hl];simp) r rfl z hz
    exact⟨c',r',e,fun y hy=>Zc _ (h1 y hy),by rw[length_cons];omega,h3⟩
   ·rw[b1u hc]at hz
    rcases Zj.mp hz with rfl|hz
    ·refine⟨c,_,rfl,fun y hy=>?_,?_,fun hi y hy=>?_⟩
     ·rcases Zj.mp hy with e|e
      ·rw[e];exact Ze ..
      ·exact Zc _ ((Tc _).subset e)
     ·have:=(Tc (runP c) (l:=r)).length_le
      simp only[length_cons]
      omega
     ·have:=b9a hy
      rw[c4n hi]at this
      exact Zm this
    ·have hd:=c4p (p:=runP c) r
     obtain⟨c',r',e,h1,h2,h3⟩:=ih (r.dropWhile (runP c)).length (by rw[<-hl,length_cons];omega) _ rfl z hz
     exact⟨c',r',e,fun y hy=>Zc _ ((Vl _).subset (h1 y hy)),by rw[length_cons];omega,h3⟩
theorem TxTb.pk{K:W.Frag}{H:Hp}{l:List Nat}{pd:Addr}{tb:Tb}(h:TxTb K H l pd tb):∀z∈bits l,Pok z/\(kindOf z=ofString "mark"->(lkT tb ⟨z.toArray⟩).isSome=true):=fun z hz=>by
 obtain⟨c,r,e,h1,h2,h3⟩:=bits_in _ l rfl z hz
 subst e
 exact⟨⟨c,r,rfl,Zz h2 h.len,fun y hy=>h.pl y (h1 y hy),h3⟩,h.mks _ hz⟩
theorem d3x(z:List Nat):kindOf z≠ofString "end":=by
 cases z with
 |nil=>decide+kernel
 |cons c r=>
  rw[kindOf]
  repeat' split
  all_goals decide+kernel
theorem b9l(z:Pc):Pc.ks z≠endK:=fun e=>by
 simp only[Pc.ks,endK,Yk,Y2]at e
 exact d3x z e.1
theorem RS.start{K:W.Frag}{CR CL:Addr}{H0 H H1:Hp}{x pr pd pv dx:Addr}{fs0:List (Str×V)}{ps:List Pc}{tb:Tb}{f:Fp}{i:Nat}(hx:H x=some (.ins CR dx fs0))(row:∃us,H0 pr=some (.lst us)/\DenL K H0 us (ps.map Pc.data))(sg:∃kvs,H0 pd=some (.dK kvs)/\TR K H0 kvs tb)(sm:Same H0 H)(fx:H0 x=none)(fr:∀b∈f.all,H b=none)(s1:Same H H1)(hl:LvAt K CL H1 f a2q)(hp:H1 pv=none)(hps:ps.length<=275)(hi:i<=400):RS K CR CL H0 (upd (upd H1 pv (.lst [.ref f.l])) x (.ins CR dx (fsR pr pd i pv))) x pr pd pv ps tb i [f] [a2q]:=by
 have nx:x∉f.all:=fun z=>by rw[fr x z]at hx;cases hx
 have nv:pv∉f.all:=fun z=>by obtain⟨o,e⟩:=hl.has pv z;rw[e]at hp;cases hp
 have xv:pv≠x:=fun z=>by rw[z,s1 _ _ hx]at hp;cases hp
 have t1:∀a xs,SqT K H1 a xs->SqT K (upd H1 pv (.lst [.ref f.l])) a xs:=fun a xs q=>(a0d hp _).tup q
 have e2:(upd H1 pv (.lst [.ref f.l])) x=some (.ins CR dx fs0):=by rw[a0j (Ne.symm xv)];exact s1 _ _ hx
 have t2:∀a xs,SqT K H1 a xs->SqT K (upd (upd H1 pv (.lst [.ref f.l])) x (.ins CR dx (fsR pr pd i pv))) a xs:=fun a xs q=>tup_upd' e2 (fun _ z=>by cases z) (fun _ _ z=>by cases z) a xs (t1 a xs q)
 refine⟨⟨dx,a0b⟩,row,sg,by rw[a0j xv,a0b];rfl,.cons (hl.fr (fun b hb o e=>by rw[a0j (fun z=>nx (by rw[<-z];exact hb)),a0j (fun z=>nv (by rw[<-z];exact hb))];exact e) t2) .nil,fun b o e=>by rw[a0j (fun z=>by rw[z,fx]at e;cases e),a0j (a1b (s1 _ _ (sm _ _ e)) hp)];exact s1 _ _ (sm _ _ e),fx,(sm.trans s1).free hp,fun g hg b hb=>?_,U3 _ _,fun g hg=>?_,⟨by simp,hps,by omega⟩⟩
 ·rw[Zn.mp hg]at hb;exact sm.free (fr b hb)
 ·rw[Zn.mp hg];exact⟨nv,nx⟩
section
variable{P:Program}{w:World}{K:W.Frag}{mg:Str->Option Value}{base:Heap}{t:Ad}
theorem b4m(T:Txt K mg t)(G_a7:FnOk P w K mg base CX0 3 t.a_a7 t.d_a7 ["level"] (a8g K t.k_a2))(G_d0:FnOk P w K mg base CX0 1 t.a_d0 t.d_d0 ["self","kind","word"] (a6a K t.k_a2))(G_f9:FnOk P w K mg base (CXo P w) 5 t.a_f9 t.d_f9 ["self"] (a3m K t.k_a1 t.k_a2 t.k_a0))(G_f7:FnOk P w K mg base (CXo P w) 6 t.a_f7 t.d_f7 ["self"] (a4c K t.k_a1 t.k_a2 t.k_a0))(G_f6:FnOk P w K mg base (CXo P w) 4 t.a_f6 t.d_f6 ["self"] (a3n K t.k_a1 t.k_a2 t.k_a0))(G_f8:FnOk P w K mg base (CXo P w) 5 t.a_f8 t.d_f8 ["self"] (a3o K t.k_a1 t.k_a2 t.k_a0))(G_a3:FnOk P w K mg base CX0 1 t.a_a3 t.d_a3 ["self","words","row"] (a1g K))(G_f5:FnOk P w K mg base CX0 1 t.a_f5 t.d_f5 ["term"] (b4k K)):FnOk P w K mg base (CXo P w) 7 t.a_a9 t.d_a9 ["self"] (a2o K t.k_a1 t.k_a2 t.k_a0):=by
 refine T.F_a9.okX a4k (fun vs H Q E h=>?_) (fun cdv A outer s H vs Q E hr h=>?_)
 ·unfold a2o at h
  split at h
  ·rfl
  ·exact h.elim
 unfold a2o at h
 split at h
 rotate_left
 ·exact h.elim
 refine⟨_,(a0g (a6l (mv 0) (a1w (a0a (b3c T.mk_a2 G_d0 (hr.mono (by walk_at "r")) rfl T.m_a2 T.b_d0 .nil a0r (a0a a0f (a0a a0f a0c))) a0c)) rfl) (a0g (a0m (i:=1) a4k.nd rfl (by walk_at "or1") a3b) (a0g (a4o Wc (a1n K rfl (mv 1)) (a0g (a1m (a3p (mv 0) T.cl_a1 T.me_f9 G_f9 (hr.mono (by walk_at "r")) T.b_f9 .nil a2r)) (a0g (a1m (a3p (mv 0) T.cl_a1 T.me_f7 G_f7 (hr.mono (by walk_at "r")) T.b_f7 .nil a2r)) (a0g (a1m (a3p (mv 0) T.cl_a1 T.me_f6 G_f6 (hr.mono (by walk_at "r")) T.b_f6 .nil a2r)) (a0h (a0m (i:=1) (hs:=a1q) a4k.nd rfl (by walk_at "or1") (a3p (mv 0) T.cl_a1 T.me_f8 G_f8 (hr.mono (by walk_at "r")) T.b_f8 .nil a2r))))))) (a0g (a1e (a0v c2m (a1k (a3d K rfl) rfl T.n_g0 Z6 (a0a (a1j (mv 0) rfl) a0c)) a0e (a0t _)) (a0h (a4q rfl a5p (a4p T.mk_a0 G_a3 (hr.mono (by walk_at "r")) rfl T.m_a0 T.bd_a3 (show Vals [V.int 0] [Value.int 0 t.w_a3_0]from(.cons ⟨_,rfl⟩ .nil)) a0r (a0a a0f a0c)))) a0z) (a0g (a0m (i:=2) (hs:=a8p) a4k.nd rfl (by walk_at "or1") (a0s (a0n K rfl) (a1j (mv 0) rfl) a0e (fun _ _=>rfl))) (a0g (a1m (a0p G_a7 (hr.mono (by walk_at "r")) rfl T.m_a7 T.F_a7.kp T.b_a7 .nil a0r (a0a (mv 2) a0c))) (a0g (a1e (a0v c2m (a0p G_f5 (hr.mono (by walk_at "r")) rfl T.m_f5 T.F_f5.kp T.b_f5 .nil a0r (a0a (a0s (a0n K rfl) (a1j (mv 2) rfl) a0e (fun _ _=>rfl)) a0c)) (b0w rfl T.m_h5) (a0t _)) (a0h (a4q rfl a5p (a4p T.mk_a0 G_a3 (hr.mono (by walk_at "r")) rfl T.m_a0 T.bd_a3 (show Vals [V.int 0] [Value.int 0 t.w_a3_0]from(.cons ⟨_,rfl⟩ .nil)) a0r (a0a (d1d (b0w rfl T.m_h5)) a0c)))) a0z) (a0h (a0o (a0s (a0n K rfl) (a1j (mv 2) rfl) a0e (fun _ _=>rfl))))))))))),?_⟩
 rename_i x
 obtain⟨H0,pr,pd,ps,tb,i0,oo,ra,rd,q⟩:=h
 obtain⟨dx,pv0,hx⟩:=ra.ob
 have hps:=ra.lim.1
 have hi0:=ra.lim.2
 obtain⟨n0,lo,lp,hcase⟩:=rd.fin
 walk_at "s"
 intro l dl hl0 hdl hne
 refine⟨dl,a0b,fun f H1 ef wl fr h1 h2 h3=>⟨rfl,?_⟩⟩
 subst ef
 have up:∀b o,H b=some o->(upd (upd H dl (.own f.l)) f.l (.ins t.k_a2 dl [])) b=some o:=fun b o e=>by rw[a0j (a1b e hl0),a0j (a1b e hdl)];exact e
 have sH:Same H H1:=fun b o e=>fr b o (a1b e hl0) (up b o e)
 have fresh:∀b∈f.all,H b=none:=fun b hb=>by
  cases z:H b with
  |none=>rfl
  |some o=>
   exfalso
   have u:=up b o z
   simp only[Fp.all,Zj,Zy,Y5]at hb
   rcases hb with y|y|y|y
   ·rw[y,hl0]at z;cases z
   ·rw[y,h1]at u;cases u
   ·rw[y,h2]at u;cases u
   ·rw[y,h3]at u;cases u
 walk_at "s"
 refine⟨ln (by show 1<=100000;decide),fun pv hpv=>?_⟩
 walk_at "s"
 have w0:=RS.start (i:=i0) hx ra.row ra.sg ra.sm ra.fx fresh sH wl hpv hps (by omega)
 refine⟨x,_,dx,_,rfl,by rw[a0j (fun z=>by rw[<-z,sH _ _ hx]at hpv;cases hpv)];exact sH _ _ hx,T.cl_a1,T.no_a1_levels,by simp[fsR],?_⟩
 rw[c8z]
 generalize upd (upd H1 pv (.lst [.ref f.l])) x (.ins t.k_a1 dx (fsR pr pd i0 pv))=H3 at w0 ⊢
 have X0:RX K t.k_a1 t.k_a2 H0 H3 x pr pd pv ps tb i0 0 [a2q]:=⟨⟨[f],w0⟩,.one ⟨.inl rfl,rfl,Yo _,fun _ z=>by cases z⟩ rfl,hi0,by simp,ra.pk⟩
 walk_at "s"
 refine a3w (fun k σ' H'=>(∃(i:Nat)(st:List Lv),σ'=[some (.ref x),some (.bl true),none]/\RX K t.k_a1 t.k_a2 H0 H' x pr pd pv ps tb i 0 st/\Lp tb k (ps.drop i) st lo)\/∃(j:Nat)(st:List Lv),σ'=[some (.ref x),some (.bl false),none]/\RX K t.k_a1 t.k_a2 H0 H' x pr pd pv ps tb j 1 st/\lo=some (ps.drop j,st)/\k=0) n0 (.inl ⟨i0,_,rfl,X0,lp⟩) (fun k σ' H' R hP kT kF=>?_)
 rcases hP with⟨i,st,rfl,X,lp⟩|⟨j,st,rfl,X,rfl,rfl⟩
 ·walk_at "s"
  refine kT H' (fun D' e1' e2' hnx hct=>?_)
  have dead:trn tb (ps.drop i) st=none->onX H0 t.k_a0 E:=fun e=>by
   have hlo:=lp.none e
   subst hlo
   have hoo:oo=none:=hcase
   subst hoo
   exact q
  obtain⟨fps,w⟩:=X.w
  walk_at "s"
  obtain⟨dxC,hoC⟩:=w.ob
  refine⟨x,dxC,_,rfl,hoC,a1v,?_⟩
  walk_at "s"
  refine⟨H0,pr,pd,pv,ps,tb,i,st,X,?_⟩
  cases c1:opn (ps.drop i) st with
  |none=>(rw[c1];exact dead (by simp only[trn,c1]))
  |some q1=>
  rw[c1]
  obtain⟨r1,st1⟩:=q1
  intro j1 G1 e1 X1
  have hb:=b6i c1
  have e1:ps.drop j1=r1:=e1
  obtain⟨fps1,w1⟩:=X1.w
  have hst:=X1.sk
  cases st1 with
  |nil=>cases hst
  |cons lv1 st1=>
  walk_at "s"
  obtain⟨dxC,hoC⟩:=w1.ob
  refine⟨x,dxC,_,rfl,hoC,a1v,?_⟩
  walk_at "s"
  refine⟨H0,pr,pd,pv,ps,tb,j1,_,X1,lv1,st1,rfl,fun y=>by rw[b3p,e1];exact hb (by rw[<-e1];exact y),?_⟩
  rw[e1]
  cases c2:thg r1 with
  |none=>exact dead (by simp only[trn,c1,c2])
  |some q2=>
  obtain⟨t2,r2⟩:=q2
  intro j2 G2 e2 X2
  have e2:ps.drop j2=r2:=e2
  obtain⟨fps2,w2⟩:=X2.w
  walk_at "s"
  obtain⟨dxC,hoC⟩:=w2.ob
  refine⟨x,dxC,_,rfl,hoC,a1v,?_⟩
  walk_at "s"
  refine⟨H0,pr,pd,pv,ps,tb,j2,_,X2,_,st1,rfl,?_⟩
  rw[e2]
  cases c3:cls r2 { lv1 with sides:=lv1.sides++[t2]} st1 with
  |none=>exact dead (by simp only[trn,c1,c2,c3])
  |some q3=>
  obtain⟨r3,st3⟩:=q3
  intro j3 G3 e3 X3
  have e3:ps.drop j3=r3:=e3
  obtain⟨fps3,w3⟩:=X3.w
  have hst3:=X3.sk
  cases st3 with
  |nil=>cases hst3
  |cons lv3 st3=>
  walk_at "s"
  obtain⟨dxC,hoC⟩:=w3.ob
  refine⟨x,dxC,_,rfl,hoC,a1v,?_⟩
  walk_at "s"
  refine⟨H0,pr,pd,pv,ps,tb,j3,_,X3,lv3,st3,rfl,?_⟩
  rw[e3]
  cases c4:btw tb lv3 r3 with
  |none=>exact dead (by simp only[trn,c1,c2,c3,c4])
  |some q4=>
  cases q4 with
  |none=>
   have ht:trn tb (ps.drop i) st=some (false,r3,lv3::st3):=by simp only[trn,c1,c2,c3,c4]
   obtain⟨ho,hpos⟩:=lp.one ht
   intro G4 X4
   walk_at "s"
   exact hnx _ _ 0 hpos (.inr ⟨j3,_,rfl,X4,by rw[ho,e3],rfl⟩)
  |some q5=>
   obtain⟨r4,lv4⟩:=q5
   have ht:trn tb (ps.drop i) st=some (true,r4,lv4::st3):=by simp only[trn,c1,c2,c3,c4]
   obtain⟨m,hm,lpm⟩:=lp.next ht
   intro G4 e4 X4
   have e4:ps.drop (j3+1)=r4:=e4
   walk_at "s"
   exact hnx _ _ m hm (.inl ⟨j3+1,_,rfl,X4,by rw[e4];exact lpm⟩)
 ·walk_at "s"
  refine kF H' ?_
  obtain⟨fps,w⟩:=X.w
  have hfl:=w.al.len
  rw[Y1]at hfl
  have hlv:=w.lv
  obtain⟨dx5,ho5⟩:=w.ob
  walk_at "s"
  refine⟨_,_,dx5,_,_,rfl,ho5,T.cl_a1,T.no_a1_levels,a5q _ _ _ _,?_⟩
  walk_at "s"
  refine b0c (SqL.of hlv) ?_
  rw[length_map,hfl]
  walk_at "s"
  rcases hcase with⟨a,b,st',hs,rfl⟩|⟨lv,y,hs,d0,d3,hy⟩
  ·have hs:st=a::b::st':=hs
   subst hs
   refine iteB (fun e=>?_) (fun e=>absurd (Zo e) (by simp only[length_cons];omega))
   walk_at "s"
   refine⟨by simp,fun ea hea=>?_⟩
   refine⟨t.k_a0,_,true,T.x_a0,T.u_a0,T.at_a0,T.no_a0_row,a0b,fun H9 b9=>⟨rfl,?_⟩⟩
   obtain⟨dx9,h91,h92,h93⟩:=a2n hea (Same.refl _) hea b9
   refine⟨ea,t.k_a0,dx9,_,rfl,T.x_a0,h91,?_⟩
   exact q ea _ (w.sm.trans h93) h92
  have hs:st=[lv]:=hs
  subst hs
  refine iteB (fun e=>absurd e (by simp)) (fun e=>?_)
  have w:RS K t.k_a1 t.k_a2 H0 H' x pr pd pv ps tb j fps ([]++[lv]):=w
  obtain⟨fs,f1,rfl,l0,l1⟩:=a2i.snoc (ls:=[]) w.al
  cases l0
  have hjl:=X.hi
  have ot:=X.sk.top
  have obd:=ot.bd
  walk_at "s"
  refine⟨_,_,dx5,_,_,rfl,ho5,T.cl_a1,T.no_a1_levels,a5q _ _ _ _,?_⟩
  walk_at "s"
  refine a2f (SqL.of hlv) at0v ?_
  walk_at "s"
  refine⟨f1,lv,rfl,l1,ot.ln,by have:=ot.ln;omega,by rw[d0];simp,fun y' G1 ey g1 l2=>?_⟩
  rw[d3]at ey
  cases ey
  have w1:=w.top (fs:=[]) (ls:=[]) .nil l1 g1 l2
  obtain⟨dl6,ho6⟩:=l2.ob
  obtain⟨us,u1,u2⟩:=l2.dn
  simp only[d0,Yb]at u2
  cases u2 with
  | @cons _ v5 _ _ c1 c2=>
   walk_at "s"
   refine⟨_,_,dl6,_,_,rfl,ho6,T.cl_a2,T.no_a2_done,a6z _ _ _,?_⟩
   walk_at "s"
   refine a2f (SqL.of u1) at0v ?_
   walk_at "s"
   refine⟨y,c1,by rcases hy with h|h<;>omega,fun G2 s2=>?_⟩
   walk_at "s"
   rcases hy with⟨y1,rfl⟩|⟨y1,y2,rfl⟩
   ·refine iteB (fun e=>absurd (Zm e) (by omega)) (fun e=>?_)
    walk_at "s"
    refine⟨_,_,dl6,_,_,rfl,s2 _ _ ho6,T.cl_a2,T.no_a2_done,a6z _ _ _,?_⟩
    walk_at "s"
    refine a2f (SqL.of (s2 _ _ u1)) at0v ?_
    exact q _ G2 j pv _ _ (w1.same s2) rfl hjl (c1.mono s2)
   ·refine iteB (fun e=>?_) (fun e=>absurd (Zo e) (by omega))
    walk_at "s"
    refine⟨40,rfl,by decide+kernel,by decide+kernel,fun z=>?_⟩
    walk_at "s"
    refine⟨by simp,fun ea hea=>?_⟩
    refine⟨t.k_a0,_,true,T.x_a0,T.u_a0,T.at_a0,T.no_a0_row,a0b,fun H9 b9=>⟨rfl,?_⟩⟩
    obtain⟨dx9,h91,h92,h93⟩:=a2n hea (Same.refl _) hea b9
    refine⟨ea,t.k_a0,dx9,_,rfl,T.x_a0,h91,?_⟩
    exact q ea _ ((w1.same s2).sm.trans h93) h92
end
section
variable{P:Program}{w:World}{K:W.Frag}{mg:Str->Option Value}{base:Heap}{t:Ad}
theorem RS.ra{K:W.Frag}{CR CL:Addr}{H0 H:Hp}{x pr pd pv:Addr}{ps:List Pc}{tb:Tb}{i:Nat}{fps:List Fp}{lvs:List Lv}(w:RS K CR CL H0 H x pr pd pv ps tb i fps lvs)(hi:i<=ps.length)(pk:∀z∈ps,Pok z/\(kindOf z=ofString "mark"->(lkT tb ⟨z.toArray⟩).isSome=true)):RA K CR H0 H x pr pd ps tb i:=by
 obtain⟨dx,ho⟩:=w.ob
 exact⟨⟨dx,pv,ho⟩,w.row,w.sg,w.sm,w.fx,⟨w.lim.2.1,hi⟩,pk⟩
def off(H:Hp)(x:Addr):Hp:=fun b=>if b=x then none else H b
theorem d1y{H:Hp}{x:Addr}:off H x x=none:=if_pos rfl
theorem b9m{H:Hp}{x b:Addr}(h:b≠x):off H x b=H b:=if_neg h
theorem d3y{H:Hp}{x:Addr}:Same (off H x) H:=fun b o e=>by
 by_cases h:b=x
 ·rw[h,d1y]at e;cases e
 ·rw[b9m h]at e;exact e
theorem c4z{H0 H:Hp}{x:Addr}(s:Same H0 H)(hx:H0 x=none):Same H0 (off H x):=fun b o e=>by
 rw[b9m (fun z=>by rw[z,hx]at e;cases e)]
 exact s _ _ e
theorem RA.later{K:W.Frag}{CR:Addr}{H0 H:Hp}{x pr pd:Addr}{ps:List Pc}{tb:Tb}{i:Nat}(r:RA K CR H0 H x pr pd ps tb i):RA K CR (off H x) H x pr pd ps tb i:=by
 have s:=c4z r.sm r.fx
 obtain⟨us,h1,h2⟩:=r.row
 obtain⟨kvs,h3,h4⟩:=r.sg
 exact⟨r.ob,⟨us,s _ _ h1,h2.mono s⟩,⟨kvs,s _ _ h3,h4.monoT (fun a zs q=>s.tup q)⟩,d3y,d1y,r.lim,r.pk⟩
theorem RS.rebase{K:W.Frag}{CR CL:Addr}{H0 H1 H:Hp}{x pr pd pv:Addr}{ps:List Pc}{tb:Tb}{i:Nat}{fps:List Fp}{lvs:List Lv}(w:RS K CR CL H1 H x pr pd pv ps tb i fps lvs)(s:Same H0 H1)(row:∃us,H0 pr=some (.lst us)/\DenL K H0 us (ps.map Pc.data))(sg:∃kvs,H0 pd=some (.dK kvs)/\TR K H0 kvs tb):RS K CR CL H0 H x pr pd pv ps tb i fps lvs:=
 ⟨w.ob,row,sg,w.lv,w.al,s.trans w.sm,s.free w.fx,s.free w.fv,fun f hf b hb=>s.free (w.ff f hf b hb),w.dj,w.nv,w.lim⟩
theorem b3r{K:W.Frag}{H H':Hp}{x C dx:Addr}{fs:List (Str×V)}(hx:H x=some (.ins C dx fs))(fr:∀b o,b≠x->H b=some o->H' b=some o):∀a xs,SqT K H a xs->SqT K H' a xs:=fun a xs q=>by
 rcases q with(q|⟨ob,q⟩)|q
 ·exact .inl (.inl (fr _ _ (fun z=>by rw[z,hx]at q;cases q) q))
 ·exact .inl (.inr ⟨ob,fr _ _ (fun z=>by rw[z,hx]at q;cases q) q⟩)
 ·exact .inr q
theorem d1z{H H':Hp}{x:Addr}(s:Same (off H x) H'):∀b o,b≠x->H b=some o->H' b=some o:=fun b o hb e=>s _ _ (by rw[b9m hb];exact e)
theorem RS.grow{K:W.Frag}{CR CL:Addr}{H0 Hb H:Hp}{x pr pd pv p:Addr}{ps:List Pc}{tb:Tb}{i:Nat}{fps:List Fp}{lvs:List Lv}{us us':List V}(w:RS K CR CL Hb H x pr pd pv ps tb i fps lvs)(hb:Hb p=some (.lst us))(s:Same H0 Hb)(hp:H0 p=none)(row:∃us,H0 pr=some (.lst us)/\DenL K H0 us (ps.map Pc.data))(sg:∃kvs,H0 pd=some (.dK kvs)/\TR K H0 kvs tb):RS K CR CL H0 (upd H p (.lst us')) x pr pd pv ps tb i fps lvs:=by
 obtain⟨dx,ho⟩:=w.ob
 have ne:∀{b:Addr},Hb b=none->b≠p:=fun e z=>by rw[z,hb]at e;cases e
 have ht:=tup_upd' (K:=K) (o:=.lst us') (w.sm _ _ hb) (fun _ z=>by cases z) (fun _ _ z=>by cases z)
 exact⟨⟨dx,by rw[a0j (ne w.fx)];exact ho⟩,row,sg,by rw[a0j (ne w.fv)];exact w.lv,w.al.fr (fun f hf b hb' o e=>by rw[a0j (ne (w.ff f hf b hb'))];exact e) ht,fun b o e=>by rw[a0j (fun z=>by rw[z,hp]at e;cases e)];exact w.sm _ _ (s _ _ e),s.free w.fx,s.free w.fv,fun f hf b hb'=>s.free (w.ff f hf b hb'),w.dj,w.nv,w.lim⟩
theorem d2a{ps:List Pc}{i:Nat}{z:Pc}{r:List Pc}{s:String}(hz:ps.drop i=z::r)(h:Pc.ks z=sgK s):a4a ps i (ofString s)=true:=Zi (by rw[a0w,hz];exact h)
theorem d2b{ps:List Pc}{i:Nat}{s:String}(h:hK (ps.drop i)≠sgK s):a4a ps i (ofString s)=false:=Zg (by rw[a0w];exact h)
theorem b4n(T:Txt K mg t)(G_a4:FnOk P w K mg base CX0 2 t.a_a4 t.d_a4 ["self","text"] (a2u K t.k_a1 t.k_a2)):FnOk P w K mg base CX0 3 t.a_c3 t.d_c3 ["self","text"] (a3h K t.k_a1 t.k_a2):=by
 refine T.F_c3.ok a8r (fun vs H Q E h=>?_) (fun cdv A outer s H vs Q E hr h=>?_)
 ·unfold a3h at h
  split at h
  ·rfl
  ·exact h.elim
 unfold a3h at h
 split at h
 rotate_left
 ·exact h.elim
 refine⟨_,(a0g (a0m (i:=2) (hs:=a1q) a8r.nd rfl (by walk_at "or1") (a2m (mv 0) T.cl_a1 T.me_a4 G_a4 (hr.mono (by walk_at "r")) T.b_a4 .nil a0r (a0a (mv 1) a0c))) (a0g (a1e (a1n K rfl (mv 2)) (a0h (a7v (mv 0) a0e a6n)) a0z) (a0h (a0o (mv 2))))),?_⟩
 rename_i x s
 obtain⟨H0,pr,pd,pv,ps,tb,i,fps,lvs,w,hi,q⟩:=h
 obtain⟨dx,ho⟩:=w.ob
 walk_at "s"
 refine⟨x,dx,_,rfl,ho,a1v,?_⟩
 walk_at "s"
 refine⟨H0,pr,pd,pv,ps,tb,i,fps,lvs,w,fun H1 s1=>?_⟩
 have w1:=w.same s1
 walk_at "s"
 cases e:a4a ps i s with
 |true=>
  rw[e]at q
  walk_at "D"
  obtain⟨dxA,hoA⟩:=w1.ob
  refine⟨x,_,dxA,_,_,rfl,hoA,T.cl_a1,T.no_a1_at,a9y _ _ _ _,?_⟩
  walk_at "s"
  refine⟨dxA,_,hoA,by simp[fsR],?_⟩
  rw[show((i:Nat):Int)+1=((i+1:Nat):Int) by omega,a8v]
  walk_at "s"
  exact q _ (fun b o hb e=>by rw[a0j hb];exact s1 _ _ e) (w1.setAt (by omega))
 |false=>
  rw[e]at q
  walk_at "C"
  exact q _ (fun b o _ e=>s1 _ _ e) w1
theorem b3s(T:Txt K mg t)(G_c3:FnOk P w K mg base CX0 3 t.a_c3 t.d_c3 ["self","text"] (a3h K t.k_a1 t.k_a2))(G_a9:FnOk P w K mg base (CXo P w) 7 t.a_a9 t.d_a9 ["self"] (a2o K t.k_a1 t.k_a2 t.k_a0)):FnOk P w K mg base (CXo P w) 8 t.a_c4 t.d_c4 ["self"] (a2z K t.k_a1 t.k_a2 t.k_a0):=by
 refine T.F_c4.okX a8b (fun vs H Q E h=>?_) (fun cdv A outer s H vs Q E hr h=>?_)
 ·unfold a2z at h
  split at h
  ·rfl
  ·exact h.elim
 unfold a2z at h
 split at h
 rotate_left
 ·exact h.elim
 refine⟨_,(a0g (a0m (i:=1) (hs:=a7k) a8b.nd rfl (by walk_at "or1") (a1w (a0a (a3p (mv 0) T.cl_a1 T.me_a9 G_a9 (hr.mono (by walk_at "r")) T.b_a9 .nil a2r) a0c))) (a0g (a4o Wc (a1n K rfl (a2m (mv 0) T.cl_a1 T.me_c3 G_c3 (hr.mono (by walk_at "r")) T.b_c3 .nil a0r (a0a a0f a0c))) (a0h (a1m (a3x K rfl Z0 Yn Yv a3v (mv 1) (a0a (a3p (mv 0) T.cl_a1 T.me_a9 G_a9 (hr.mono (by walk_at "r")) T.b_a9 .nil a2r) a0c))))) (a0h (a0o (mv 1))))),?_⟩
 rename_i x
 obtain⟨H0,pr,pd,ps,tb,n0,i0,oo,ra,hn0,rd,q⟩:=h
 obtain⟨dx,pv0,hx⟩:=ra.ob
 have hps:=ra.lim.1
 walk_at "s"
 refine⟨x,dx,_,rfl,hx,a1v,?_⟩
 walk_at "s"
 rcases rd.fst with⟨rt,rfl⟩|⟨y,r1,o',rt,af,rfl⟩
 ·exact⟨H0,pr,pd,ps,tb,i0,none,ra,rt,q⟩
 refine⟨H0,pr,pd,ps,tb,i0,some (y,r1),ra,rt,fun v H1 j pv1 fps1 lvs1 w1 ej hj d1=>?_⟩
 obtain⟨dx1,hx1⟩:=w1.ob
 walk_at "s"
 refine⟨ln (by show 1<=100000;decide),fun p hp=>?_⟩
 have npx:p≠x:=fun e=>by rw[e,hx1]at hp;cases hp
 have fp:=w1.sm.free hp
 have s1:=a0d hp (.lst [v])
 have k1:(upd H1 p (.lst [v])) p=some (.lst [v]):=a0b
 generalize upd H1 p (.lst [v])=H2 at s1 k1 ⊢
 walk_at "s"
 refine a3w (fun n σ' H'=>∃(j:Nat)(o'':Option (List Trm×List Pc))(ys:List Trm)(pv:Addr)(fps:List Fp)(lvs:List Lv)(us:List V),σ'=[some (.ref x),some (.ref p)]/\RS K t.k_a1 t.k_a2 H0 H' x pr pd pv ps tb j fps lvs/\H' p=some (.lst us)/\DenL K H' us (Trm.dataL ys)/\Aft tb n (ps.drop j) o''/\j<=ps.length/\ys.length+n<=100/\o'.map (fun q=>(y::q.1,q.2))=o''.map (fun q=>(ys++q.1,q.2))) n0 ⟨j,o',[y],pv1,fps1,lvs1,[v],rfl,w1.same s1,k1,.cons (d1.mono s1) .nil,by rw[ej];exact af,hj,by simp;omega,rfl⟩ (fun n σ' H' R hP kT kF=>?_)
 obtain⟨j,o'',ys,pv,fps,lvs,us,rfl,w,kp,dl,af,hj,hys,eo⟩:=hP
 obtain⟨dx5,ho5⟩:=w.ob
 walk_at "s"
 refine⟨x,dx5,_,rfl,ho5,a1v,?_⟩
 walk_at "s"
 refine⟨H0,pr,pd,pv,ps,tb,j,fps,lvs,w,by omega,fun H3 fr3 w3=>?_⟩
 have kp3:=fr3 _ _ npx kp
 walk_at "s"
 rcases af with⟨rfl,e,rfl⟩|⟨m,z,r',rfl,ez,e,rg⟩
 ·rw[d2b e]at w3 ⊢
  refine kF H3 ?_
  walk_at "s"
  rw[eo]at q
  have q:resTS K t.k_a1 t.k_a2 t.k_a0 H0 x pr pd ps tb Q E (some (ys++[],ps.drop j)):=q
  rw[Yr]at q
  exact q p us H3 j pv fps lvs w3 rfl hj fp kp3 (dl.monoT (b3r ho5 fr3))
 ·obtain⟨n1,n2,n3⟩:=a4b ez
  rw[d2a ez e]at w3 ⊢
  refine kT H3 (fun D' e1 e2 hnx hct=>?_)
  have w3:RS K t.k_a1 t.k_a2 H0 H3 x pr pd pv ps tb (j+1) fps lvs:=w3
  obtain⟨dx6,ho6⟩:=w3.ob
  have s30:=c4z w3.sm w3.fx
  walk_at "s"
  refine⟨.inl ⟨rfl,_,SqL.of kp3⟩,?_⟩
  walk_at "s"
  refine⟨x,dx6,_,rfl,ho6,a1v,?_⟩
  walk_at "s"
  rw[<-n1]at rg
  rcases rg.fst with⟨rt,rfl⟩|⟨y2,r2,o2,rt2,af2,rfl⟩
  ·rw[eo]at q
   have q:onX H0 t.k_a0 E:=q
   exact⟨_,pr,pd,ps,tb,j+1,none,(w3.ra (by omega) ra.pk).later,rt,q.mono s30⟩
  refine⟨_,pr,pd,ps,tb,j+1,some (y2,r2),(w3.ra (by omega) ra.pk).later,rt2,fun v2 H4 j2 pv4 fps4 lvs4 w4 ej2 hj2 d4=>?_⟩
  have ej2:ps.drop j2=r2:=ej2
  have kb:off H3 x p=some (.lst us):=by rw[b9m npx];exact kp3
  have kp4:=w4.sm _ _ kb
  have hul:=b1v dl
  walk_at "s"
  refine a3j kp4 (ln1 (by omega)) ?_
  have w5:=w4.grow (us':=us++[v2]) kb s30 fp ra.row ra.sg
  have ht:=tup_upd' (K:=K) (o:=.lst (us++[v2])) kp4 (fun _ z=>by cases z) (fun _ _ z=>by cases z)
  have ht0:∀a xs,SqT K H' a xs->SqT K (upd H4 p (.lst (us++[v2]))) a xs:=fun a xs z=>ht _ _ (b3r ho6 (d1z w4.sm) _ _ (b3r ho5 fr3 _ _ z))
  have d9:DenL K (upd H4 p (.lst (us++[v2]))) (us++[v2]) (Trm.dataL (ys++[y2])):=by
   rw[Trm.dataL_map,Zk,<-Trm.dataL_map]
   exact(dl.monoT ht0).append (.cons (d4.monoT ht) .nil)
  walk_at "s"
  exact hnx _ _ m (by omega) ⟨j2,o2,ys++[y2],pv4,fps4,lvs4,us++[v2],rfl,w5,a0b,d9,by rw[ej2];exact af2,hj2,by simp;omega,by rw[eo];cases o2<;>simp⟩
end
section
variable{P:Program}{w:World}{K:W.Frag}{mg:Str->Option Value}{base:Heap}{t:Ad}
theorem ok_d1(T:Txt K mg t)(G_b3:FnOk P w K mg base CX0 1 t.a_b3 t.d_b3 ["self","row","signs"] (a4e K t.k_a1))(G_a9:FnOk P w K mg base (CXo P w) 7 t.a_a9 t.d_a9 ["self"] (a2o K t.k_a1 t.k_a2 t.k_a0))(G_b2:FnOk P w K mg base (CXo P w) 3 t.a_b2 t.d_b2 ["self"] (a2x K t.k_a1 t.k_a2 t.k_a0))(G_b1:FnOk P w K mg base (CXo P w) 5 t.a_b1 t.d_b1 ["text"] (a8f K t.k_a0)):FnOk P w K mg base (CXo P w) 8 t.a_d1 t.d_d1 ["text","signs"] (b6j K t.k_a0):=by
 refine T.F_d1.okX c0f (fun vs H Q E h=>?_) (fun cdv A outer s H vs Q E hr h=>?_)
 ·unfold b6j at h
  split at h
  ·rfl
  ·exact h.elim
 unfold b6j at h
 split at h
 rotate_left
 ·exact h.elim
 refine⟨_,(a0g (a0m (i:=2) (hs:=a1q) c0f.nd rfl (by walk_at "or1") (b3c T.mk_a1 G_b3 (hr.mono (by walk_at "r")) rfl T.m_a1 T.b_b3 .nil a0r (a0a (a0p G_b1 (hr.mono (by walk_at "r")) rfl T.m_b1 T.F_b1.kp T.b_b1 .nil a2r (a0a (mv 0) a0c)) (a0a (mv 1) a0c)))) (a0g (a0m (i:=3) (hs:=a1q) c0f.nd rfl (by walk_at "or1") (a3p (mv 2) T.cl_a1 T.me_a9 G_a9 (hr.mono (by walk_at "r")) T.b_a9 .nil a2r)) (a0g (a1m (a3p (mv 2) T.cl_a1 T.me_b2 G_b2 (hr.mono (by walk_at "r")) T.b_b2 .nil a2r)) (a0h (a0o (mv 3)))))),?_⟩
 rename_i s pd
 obtain⟨l,tb,rfl,tt,q⟩:=h
 obtain⟨kvs,hd,hT⟩:=tt.tab
 walk_at "s"
 refine⟨l,rfl,Zz tt.len (by decide),tt.pl,?_⟩
 rcases q with⟨hg,q⟩|⟨hg,oo,rd,q⟩
 ·rw[hg]
  exact q
 rw[hg]
 intro pr us H1 fr1 s1 k1 d1
 walk_at "s"
 intro x dx hx hdx hne
 refine⟨dx,a0b,fun pv H2 ox fr=>⟨rfl,?_⟩⟩
 have sm:Same H1 H2:=fun b o e=>fr b o (a1b e hx) (by rw[a0j (a1b e hx),a0j (a1b e hdx)];exact e)
 have row:∃us,H1 pr=some (.lst us)/\DenL K H1 us ((bits l).map Pc.data):=⟨us,k1,d1⟩
 have sg:∃kvs,H1 pd=some (.dK kvs)/\TR K H1 kvs tb:=⟨kvs,s1 _ _ hd,hT.monoT (fun a zs q=>s1.tup q)⟩
 have pk:=tt.pk
 have ra:RA K t.k_a1 H1 H2 x pr pd (bits l) tb 0:=⟨⟨dx,pv,ox⟩,row,sg,sm,hx,⟨tt.cnt,Yo _⟩,pk⟩
 have hcnt:=tt.cnt
 generalize bits l=ps at*
 walk_at "s"
 refine⟨x,dx,_,rfl,ox,a1v,?_⟩
 walk_at "s"
 refine⟨H1,pr,pd,ps,tb,0,oo,ra,by rw[Yt];exact rd,?_⟩
 cases oo with
 |none=>exact(show onX H t.k_a0 E from q).mono s1
 |some yr=>
  obtain⟨y,rr⟩:=yr
  intro v H3 j pv3 fps lvs w3 ej hj d3
  have ej:ps.drop j=rr:=ej
  obtain⟨dx3,ho3⟩:=w3.ob
  walk_at "s"
  refine⟨x,dx3,_,rfl,ho3,a1v,?_⟩
  walk_at "s"
  cases rr with
  |cons z r=>exact⟨H1,pr,pd,_,ps,tb,j,_,_,w3,fun he=>absurd (by rw[a0w,ej]at he;exact he) (b9l z),fun _=>(show onX H t.k_a0 E from q).mono (s1.trans w3.sm)⟩
  |nil=>
  refine⟨H1,pr,pd,_,ps,tb,j,_,_,w3,fun _=>?_,fun he=>absurd (by rw[a0w,ej];rfl) he⟩
  walk_at "s"
  exact q v H3 (s1.trans w3.sm) d3
theorem c2a(T:Txt K mg t)(G_b3:FnOk P w K mg base CX0 1 t.a_b3 t.d_b3 ["self","row","signs"] (a4e K t.k_a1))(G_c4:FnOk P w K mg base (CXo P w) 8 t.a_c4 t.d_c4 ["self"] (a2z K t.k_a1 t.k_a2 t.k_a0))(G_b2:FnOk P w K mg base (CXo P w) 3 t.a_b2 t.d_b2 ["self"] (a2x K t.k_a1 t.k_a2 t.k_a0))(G_b1:FnOk P w K mg base (CXo P w) 5 t.a_b1 t.d_b1 ["text"] (a8f K t.k_a0)):FnOk P w K mg base (CXo P w) 9 t.a_e1 t.d_e1 ["text","signs"] (a7p K t.k_a0):=by
 refine T.F_e1.okX b0h (fun vs H Q E h=>?_) (fun cdv A outer s H vs Q E hr h=>?_)
 ·unfold a7p at h
  split at h
  ·rfl
  ·exact h.elim
 unfold a7p at h
 split at h
 rotate_left
 ·exact h.elim
 refine⟨_,(a0g (a0m (i:=2) (hs:=a1q) b0h.nd rfl (by walk_at "or1") (b3c T.mk_a1 G_b3 (hr.mono (by walk_at "r")) rfl T.m_a1 T.b_b3 .nil a0r (a0a (a0p G_b1 (hr.mono (by walk_at "r")) rfl T.m_b1 T.F_b1.kp T.b_b1 .nil a2r (a0a (mv 0) a0c)) (a0a (mv 1) a0c)))) (a0g (a0m (i:=3) (hs:=a1q) b0h.nd rfl (by walk_at "or1") (a3p (mv 2) T.cl_a1 T.me_c4 G_c4 (hr.mono (by walk_at "r")) T.b_c4 .nil a2r)) (a0g (a1m (a3p (mv 2) T.cl_a1 T.me_b2 G_b2 (hr.mono (by walk_at "r")) T.b_b2 .nil a2r)) (a0h (a0o (mv 3)))))),?_⟩
 rename_i s pd
 obtain⟨l,tb,n,rfl,tt,hn,q⟩:=h
 obtain⟨kvs,hd,hT⟩:=tt.tab
 walk_at "s"
 refine⟨l,rfl,Zz tt.len (by decide),tt.pl,?_⟩
 rcases q with⟨hg,q⟩|⟨hg,oo,rd,q⟩
 ·rw[hg]
  exact q
 rw[hg]
 intro pr us H1 fr1 s1 k1 d1
 walk_at "s"
 intro x dx hx hdx hne
 refine⟨dx,a0b,fun pv H2 ox fr=>⟨rfl,?_⟩⟩
 have sm:Same H1 H2:=fun b o e=>fr b o (a1b e hx) (by rw[a0j (a1b e hx),a0j (a1b e hdx)];exact e)
 have row:∃us,H1 pr=some (.lst us)/\DenL K H1 us ((bits l).map Pc.data):=⟨us,k1,d1⟩
 have sg:∃kvs,H1 pd=some (.dK kvs)/\TR K H1 kvs tb:=⟨kvs,s1 _ _ hd,hT.monoT (fun a zs q=>s1.tup q)⟩
 have pk:=tt.pk
 have ra:RA K t.k_a1 H1 H2 x pr pd (bits l) tb 0:=⟨⟨dx,pv,ox⟩,row,sg,sm,hx,⟨tt.cnt,Yo _⟩,pk⟩
 have hcnt:=tt.cnt
 generalize bits l=ps at*
 walk_at "s"
 refine⟨x,dx,_,rfl,ox,a1v,?_⟩
 walk_at "s"
 refine⟨H1,pr,pd,ps,tb,n,0,oo,ra,hn,by rw[Yt];exact rd,?_⟩
 cases oo with
 |none=>exact(show onX H t.k_a0 E from q).mono s1
 |some yr=>
  obtain⟨y,rr⟩:=yr
  intro p us3 H3 j pv3 fps lvs w3 ej hj fp k3 d3
  have ej:ps.drop j=rr:=ej
  obtain⟨dx3,ho3⟩:=w3.ob
  walk_at "s"
  refine⟨x,dx3,_,rfl,ho3,a1v,?_⟩
  walk_at "s"
  cases rr with
  |cons z r=>exact⟨H1,pr,pd,_,ps,tb,j,_,_,w3,fun he=>absurd (by rw[a0w,ej]at he;exact he) (b9l z),fun _=>(show onX H t.k_a0 E from q).mono (s1.trans w3.sm)⟩
  |nil=>
  refine⟨H1,pr,pd,_,ps,tb,j,_,_,w3,fun _=>?_,fun he=>absurd (by rw[a0w,ej];rfl) he⟩
  walk_at "s"
  exact q p us3 H3 (s1.trans w3.sm) (s1.free fp) k3 d3
theorem c5a(T:Txt K mg t)(G_b3:FnOk P w K mg base CX0 1 t.a_b3 t.d_b3 ["self","row","signs"] (a4e K t.k_a1))(G_a9:FnOk P w K mg base (CXo P w) 7 t.a_a9 t.d_a9 ["self"] (a2o K t.k_a1 t.k_a2 t.k_a0))(G_c3:FnOk P w K mg base CX0 3 t.a_c3 t.d_c3 ["self","text"] (a3h K t.k_a1 t.k_a2))(G_b2:FnOk P w K mg base (CXo P w) 3 t.a_b2 t.d_b2 ["self"] (a2x K t.k_a1 t.k_a2 t.k_a0))(G_b1:FnOk P w K mg base (CXo P w) 5 t.a_b1 t.d_b1 ["text"] (a8f K t.k_a0))(G_c4:FnOk P w K mg base (CXo P w) 8 t.a_c4 t.d_c4 ["self"] (a2z K t.k_a1 t.k_a2 t.k_a0)):FnOk P w K mg base (CXo P w) 9 t.a_f4 t.d_f4 ["text","signs"] (a8w K t.k_a0):=by
 refine T.F_f4.okX a6p (fun vs H Q E h=>?_) (fun cdv A outer s H vs Q E hr h=>?_)
 ·unfold a8w at h
  split at h
  ·rfl
  ·exact h.elim
 unfold a8w at h
 split at h
 rotate_left
 ·exact h.elim
 refine⟨_,(a0g (a0m (i:=2) (hs:=a1q) a6p.nd rfl (by walk_at "or1") (b3c T.mk_a1 G_b3 (hr.mono (by walk_at "r")) rfl T.m_a1 T.b_b3 .nil a0r (a0a (a0p G_b1 (hr.mono (by walk_at "r")) rfl T.m_b1 T.F_b1.kp T.b_b1 .nil a2r (a0a (mv 0) a0c)) (a0a (mv 1) a0c)))) (a0g (a0m (i:=3) (hs:=a1q) a6p.nd rfl (by walk_at "or1") (a3p (mv 2) T.cl_a1 T.me_a9 G_a9 (hr.mono (by walk_at "r")) T.b_a9 .nil a2r)) (a0g (a0m (i:=4) (hs:=a7k) a6p.nd rfl (by walk_at "or1") (a1w a0c)) (a0g (a1e (a1n K rfl (a2m (mv 2) T.cl_a1 T.me_c3 G_c3 (hr.mono (by walk_at "r")) T.b_c3 .nil a0r (a0a (a2v rfl T.m_h9) a0c))) (a0h (a0m (i:=4) (hs:=a1q) a6p.nd rfl (by walk_at "or1") (a3p (mv 2) T.cl_a1 T.me_c4 G_c4 (hr.mono (by walk_at "r")) T.b_c4 .nil a2r))) a0z) (a0g (a1m (a3p (mv 2) T.cl_a1 T.me_b2 G_b2 (hr.mono (by walk_at "r")) T.b_b2 .nil a2r)) (a0h (a0o (a0y (a0a (mv 3) (a0a (mv 4) a0c)))))))))),?_⟩
 rename_i s pd
 obtain⟨l,tb,rfl,tt,q⟩:=h
 obtain⟨kvs,hd,hT⟩:=tt.tab
 walk_at "s"
 refine⟨l,rfl,Zz tt.len (by decide),tt.pl,?_⟩
 rcases q with⟨hg,q⟩|⟨hg,oo,rd,q⟩
 ·rw[hg]
  exact q
 rw[hg]
 intro pr us H1 fr1 s1 k1 d1
 walk_at "s"
 intro x dx hx hdx hne
 refine⟨dx,a0b,fun pv H2 ox fr=>⟨rfl,?_⟩⟩
 have sm:Same H1 H2:=fun b o e=>fr b o (a1b e hx) (by rw[a0j (a1b e hx),a0j (a1b e hdx)];exact e)
 have row:∃us,H1 pr=some (.lst us)/\DenL K H1 us ((bits l).map Pc.data):=⟨us,k1,d1⟩
 have sg:∃kvs,H1 pd=some (.dK kvs)/\TR K H1 kvs tb:=⟨kvs,s1 _ _ hd,hT.monoT (fun a zs q=>s1.tup q)⟩
 have pk:=tt.pk
 have ra:RA K t.k_a1 H1 H2 x pr pd (bits l) tb 0:=⟨⟨dx,pv,ox⟩,row,sg,sm,hx,⟨tt.cnt,Yo _⟩,pk⟩
 have hcnt:=tt.cnt
 generalize bits l=ps at*
 walk_at "s"
 refine⟨x,dx,_,rfl,ox,a1v,?_⟩
 walk_at "s"
 cases rd with
 |bad rt=>
  exact⟨H1,pr,pd,ps,tb,0,none,ra,by rw[Yt];exact rt,(show onX H t.k_a0 E from q).mono s1⟩
 | @fact rr y rt e=>
  refine⟨H1,pr,pd,ps,tb,0,some (y,rr),ra,by rw[Yt];exact rt,fun v H3 j pv3 fps lvs w3 ej hj d3=>?_⟩
  have ej:ps.drop j=rr:=ej
  walk_at "s"
  refine⟨ln (by show 0<=100000;decide),fun pg hpg=>?_⟩
  have s4:=a0d hpg (.lst [])
  have k4:(upd H3 pg (.lst [])) pg=some (.lst []):=a0b
  generalize upd H3 pg (.lst [])=H4 at s4 k4 ⊢
  have w4:=w3.same s4
  obtain⟨dx3,ho3⟩:=w3.ob
  obtain⟨dx4,ho4⟩:=w4.ob
  have npg:pg≠x:=fun z=>by rw[z,ho3]at hpg;cases hpg
  walk_at "s"
  refine⟨x,dx4,_,rfl,ho4,a1v,?_⟩
  walk_at "s"
  refine⟨H1,pr,pd,pv3,ps,tb,j,fps,lvs,w4,by omega,fun H5 fr5 w5=>?_⟩
  rw[d2b (by rw[ej];exact e)]at w5 ⊢
  have d5:=(d3.mono s4).monoT (b3r ho4 fr5)
  have k5:=fr5 _ _ npg k4
  walk_at "s"
  refine iteF ?_
  obtain⟨dx3,ho3⟩:=w5.ob
  walk_at "s"
  refine⟨x,dx3,_,rfl,ho3,a1v,?_⟩
  walk_at "s"
  cases rr with
  |cons z r=>exact⟨H1,pr,pd,_,ps,tb,j,_,_,w5,fun he=>absurd (by rw[a0w,ej]at he;exact he) (b9l z),fun _=>(show onX H t.k_a0 E from q).mono (s1.trans w5.sm)⟩
  |nil=>
  refine⟨H1,pr,pd,_,ps,tb,j,_,_,w5,fun _=>?_,fun he=>absurd (by rw[a0w,ej];rfl) he⟩
  walk_at "s"
  refine⟨ln (by show 2<=100000;decide),fun pt hpt=>?_⟩
  have s6:=a0d hpt (.tup [v,.ref pg])
  exact q pt pg v [] _ (s1.trans (w5.sm.trans s6)) (s1.free (w3.sm.free hpg)) (SqT.of a0b) (d5.mono s6) (s6 _ _ k5) .nil
 | @rule n z rr y o rt e hn rg=>
  refine⟨H1,pr,pd,ps,tb,0,some (y,z::rr),ra,by rw[Yt];exact rt,fun v H3 j pv3 fps lvs w3 ej hj d3=>?_⟩
  have ej:ps.drop j=z::rr:=ej
  obtain⟨n1,n2,n3⟩:=a4b ej
  walk_at "s"
  refine⟨ln (by show 0<=100000;decide),fun pg hpg=>?_⟩
  have s4:=a0d hpg (.lst [])
  have k4:(upd H3 pg (.lst [])) pg=some (.lst []):=a0b
  generalize upd H3 pg (.lst [])=H4 at s4 k4 ⊢
  have w4:=w3.same s4
  obtain⟨dx3,ho3⟩:=w3.ob
  obtain⟨dx4,ho4⟩:=w4.ob
  have npg:pg≠x:=fun z=>by rw[z,ho3]at hpg;cases hpg
  walk_at "s"
  refine⟨x,dx4,_,rfl,ho4,a1v,?_⟩
  walk_at "s"
  refine⟨H1,pr,pd,pv3,ps,tb,j,fps,lvs,w4,by omega,fun H5 fr5 w5=>?_⟩
  rw[d2a (s:="<-") ej e]at w5 ⊢
  have d5:=(d3.mono s4).monoT (b3r ho4 fr5)
  have k5:=fr5 _ _ npg k4
  walk_at "s"
  refine iteT ?_
  have w5:RS K t.k_a1 t.k_a2 H1 H5 x pr pd pv3 ps tb (j+1) fps lvs:=w5
  have s50:=c4z w5.sm w5.fx
  obtain⟨dx5,ho5⟩:=w5.ob
  walk_at "s"
  refine⟨x,dx5,_,rfl,ho5,a1v,?_⟩
  walk_at "s"
  refine⟨_,pr,pd,ps,tb,n,j+1,o,(w5.ra (by omega) pk).later,hn,by rw[n1];exact rg,?_⟩
  cases o with
  |none=>exact(show onX H t.k_a0 E from q).mono (s1.trans s50)
  |some yr=>
   obtain⟨ys,rr⟩:=yr
   intro p us6 H6 j6 pv6 fps6 lvs6 w6 ej6 hj6 fp6 k6 d6
   have ej6:ps.drop j6=rr:=ej6
   have w7:=w6.rebase s50 row sg
   obtain⟨dx3,ho3⟩:=w7.ob
   walk_at "s"
   refine⟨x,dx3,_,rfl,ho3,a1v,?_⟩
   walk_at "s"
   cases rr with
   |cons z r=>exact⟨H1,pr,pd,_,ps,tb,j6,_,_,w7,fun he=>absurd (by rw[a0w,ej6]at he;exact he) (b9l z),fun _=>(show onX H t.k_a0 E from q).mono (s1.trans w7.sm)⟩
   |nil=>
   refine⟨H1,pr,pd,_,ps,tb,j6,_,_,w7,fun _=>?_,fun he=>absurd (by rw[a0w,ej6];rfl) he⟩
   walk_at "s"
   refine⟨ln (by show 2<=100000;decide),fun pt hpt=>?_⟩
   have s6:=a0d hpt (.tup [v,.ref p])
   exact q pt p v us6 _ (s1.trans (w7.sm.trans s6)) (s1.free (s50.free fp6)) (SqT.of a0b) ((d5.monoT (b3r ho5 (d1z w6.sm))).mono s6) (s6 _ _ k6) (d6.mono s6)
end
section
variable{tb:Tb}{r:List Pc}{lv lu:Lv}{st:List Lv}{z:Pc}{o:Option (List Pc×List Lv)}
def PO(tb:Tb)(r:List Pc)(st:List Lv)(o:Option (List Pc×List Lv)):Prop:=∃n,Lp tb n r st o
def PB(tb:Tb)(r:List Pc)(lv:Lv)(st:List Lv)(o:Option (List Pc×List Lv)):Prop:=match btw tb lv r with
 |none=>o=none
 |some none=>o=some (r,lv::st)
 |some (some q)=>PO tb q.1 (q.2::st) o
def PC(tb:Tb)(r:List Pc)(lv:Lv)(st:List Lv)(o:Option (List Pc×List Lv)):Prop:=match cls r lv st with
 |none=>o=none
 |some (r3,lw::st3)=>PB tb r3 lw st3 o
 |some (_,[])=>False
theorem c0o{r':List Pc}{st':List Lv}(h:opn r st=opn r' st')(k:PO tb r' st' o):PO tb r st o:=by
 have e:trn tb r st=trn tb r' st':=by simp only[trn,h]
 obtain⟨n,lp⟩:=k
 cases lp with
 |bad a=>exact⟨_,.bad (e.trans a)⟩
 |last a=>exact⟨_,.last (e.trans a)⟩
 |more a b=>exact⟨_,.more (e.trans a) b⟩
theorem PO.round(h:Pc.ks z=sgK "(")(k:PO tb r (rdL::st) o):PO tb (z::r) st o:=c0o (b5s h) k
theorem PO.list(h:Pc.ks z=sgK "[")(h2:hK r≠sgK "]")(k:PO tb r (ltL::st) o):PO tb (z::r) st o:=c0o (b7t h h2) k
theorem PO.kids{y:Pc}(h:kindOf z=ofString "word")(h2:Pc.ks y=sgK "(")(hz:z.length<=12)(k:PO tb r (kdL ⟨z.toArray⟩::st) o):PO tb (z::y::r) st o:=c0o (by rw[b7u h h2,if_pos hz]) k
theorem PO.long{y:Pc}(h:kindOf z=ofString "word")(h2:Pc.ks y=sgK "(")(hz:¬z.length<=12):PO tb (z::y::r) st none:=⟨1,.bad (by simp only[trn,b7u h h2,if_neg hz])⟩
theorem PO.thing{t:Trm}{r2:List Pc}(h1:opn r (lv::st)=some (r,lv::st))(h2:thg r=some (t,r2))(k:PC tb r2 { lv with sides:=lv.sides++[t]} st o):PO tb r (lv::st) o:=by
 unfold PC at k
 cases c:cls r2 { lv with sides:=lv.sides++[t]} st with
 |none=>rw[c]at k;exact⟨1,by rw[k];exact .bad (by simp only[trn,h1,h2,c])⟩
 |some q=>
  rw[c]at k
  obtain⟨r3,st3⟩:=q
  cases st3 with
  |nil=>exact k.elim
  |cons lw st3=>
   have k:PB tb r3 lw st3 o:=k
   unfold PB at k
   cases c2:btw tb lw r3 with
   |none=>rw[c2]at k;exact⟨1,by rw[k];exact .bad (by simp only[trn,h1,h2,c,c2])⟩
   |some q2=>
    rw[c2]at k
    cases q2 with
    |none=>exact⟨1,by rw[k];exact .last (by simp only[trn,h1,h2,c,c2])⟩
    |some q3=>
     obtain⟨n,lp⟩:=k
     exact⟨n+1,.more (x:=(q3.1,q3.2::st3)) (by simp only[trn,h1,h2,c,c2]) lp⟩
theorem PO.no(h1:opn r st=some (r,st))(h2:thg r=none):PO tb r st none:=by
 refine⟨1,.bad ?_⟩
 cases st with
 |nil=>simp only[trn,h1]
 |cons a b=>simp only[trn,h1,h2]
theorem PC.stop(h:hK r≠[Sum.inr (ofString "sign"),Sum.inr (clS lv.kind)])(k:PB tb r lv st o):PC tb r lv st o:=by unfold PC;rw[c4y h];exact k
theorem PC.whole(k:PB tb r lv [] o):PC tb r lv [] o:=by
 unfold PC
 have:cls r lv []=some (r,[lv]):=by cases r<;>simp[cls]
 rw[this]
 exact k
theorem PC.step{t:Trm}(h:Pc.ks z=[Sum.inr (ofString "sign"),Sum.inr (clS lv.kind)])(h2:clo (fin lv)=some t)(k:PC tb r { lu with sides:=lu.sides++[t]} st o):PC tb (z::r) lv (lu::st) o:=by
 unfold PC at k ⊢
 rw[b7v h,h2]
 exact k
theorem PC.bad(h:Pc.ks z=[Sum.inr (ofString "sign"),Sum.inr (clS lv.kind)])(h2:clo (fin lv)=none):PC tb (z::r) lv (lu::st) none:=by
 unfold PC
 rw[b7v h,h2]
theorem PB.mark{g:Sg}{q:List Trm×List Str}(h:kindOf z=ofString "mark")(h1:lkT tb ⟨z.toArray⟩=some g)(h2:addM tb ⟨z.toArray⟩ g lv.sides.reverse lv.wait.reverse=some q)(k:PO tb r ({ lv with sides:=q.1.reverse,wait:=q.2.reverse}::st) o):PB tb (z::r) lv st o:=by
 unfold PB
 rw[btw,if_pos h,h1]
 simp only[h2,Option.map_some]
 exact k
theorem PB.comma(h:Pc.ks z=sgK ",")(h2:lv.kind=ofString "kids"\/lv.kind=ofString "list")(k:PO tb r (fin lv::st) o):PB tb (z::r) lv st o:=by unfold PB;rw[c1n h h2];exact k
theorem PB.bar(h:Pc.ks z=sgK "|")(h2:lv.kind=ofString "list")(k:PO tb r ({ fin lv with kind:=ofString "rest"}::st) o):PB tb (z::r) lv st o:=by unfold PB;rw[c0n h h2];exact k
def Ea(r:List Pc):Prop:=r=[]\/∃z r',r=z::r'/\(Pc.ks z=sgK ","\/Pc.ks z=sgK "<-")
theorem Ea.no{s:Str}(h:Ea r)(h1:s≠ofString ",":=by decide+kernel)(h2:s≠ofString "<-":=by decide+kernel):hK r≠[Sum.inr (ofString "sign"),Sum.inr s]:=fun e=>by
 rcases h with rfl|⟨z,r',rfl,h⟩
 ·exact b9j _ e
 ·have e:Pc.ks z=[Sum.inr (ofString "sign"),Sum.inr s]:=e
  rw[e]at h
  rcases h with h|h<;>(simp only[Yk,Y2]at h)
  ·exact h1 h.2.1
  ·exact h2 h.2.1
theorem PB.stop(h:Ea r)(hk:lv.kind=ofString "whole"):PB tb r lv st (some (r,lv::st)):=by
 unfold PB
 rw[b5t]
 ·intro z r' e
  rcases h with rfl|⟨z',r'',rfl,h⟩
  ·cases e
  ·cases e
   rcases h with h|h<;>exact c0m h
 ·rw[hk];exact fun e=>absurd e.2 (by decide+kernel)
 ·rw[hk];exact fun e=>absurd e.2 (by decide+kernel)
end
def Rds(tb:Tb)(t:Trm)(tp:List Pc):Prop:=∀{r:List Pc}{lv:Lv}{st:List Lv}{o:Option (List Pc×List Lv)},hK r≠sgK "("->PC tb r { lv with sides:=lv.sides++[t]} st o->PO tb (tp++r) (lv::st) o
def Bad(tb:Tb)(tp:List Pc):Prop:=∀{r:List Pc}{lv:Lv}{st:List Lv},hK r≠sgK "("->PO tb (tp++r) (lv::st) none
theorem a4g{tb:Tb}{z:Pc}{t:Trm}(h:thgZ z=some t)(hk:kindOf z≠ofString "sign"):Rds tb t [z]:=fun{r lv st o} hr k=>by
 have n:∀s,Pc.ks z≠[Sum.inr (ofString "sign"),Sum.inr s]:=fun s=>a2w rfl s hk
 refine PO.thing (a9n (n _) (fun e=>absurd e (n _)) (fun z' r' e _=>by cases e;exact hr)) (t:=t) (r2:=r) ?_ k
 rw[Vr,thg,if_neg (n _),h]
 rfl
theorem b5u{tb:Tb}{z:Pc}(h:thgZ z=none)(h1:Pc.ks z≠sgK "(")(h2:Pc.ks z≠sgK "["):Bad tb [z]:=fun{r lv st} hr=>by
 refine PO.no (a9n h1 (fun e=>absurd e h2) (fun z' r' e _=>by cases e;exact hr)) ?_
 rw[Vr,thg,if_neg h2,h]
 rfl
abbrev sg(c:Nat):Pc:=[c]
theorem k40:Pc.ks (sg 40)=sgK "(":=by decide+kernel
theorem k41:Pc.ks (sg 41)=sgK ")":=by decide+kernel
theorem k91':Pc.ks (sg 91)=sgK "[":=by decide+kernel
theorem k93:Pc.ks (sg 93)=sgK "]":=by decide+kernel
theorem k44:Pc.ks (sg 44)=sgK ",":=by decide+kernel
theorem k124:Pc.ks (sg 124)=sgK "|":=by decide+kernel
theorem kAr:Pc.ks [60,45]=sgK "<-":=by decide+kernel
theorem cl_rd:clS (ofString "round")=ofString ")":=by decide+kernel
theorem c2x:clS (ofString "kids")=ofString ")":=by decide+kernel
theorem cl_lt:clS (ofString "list")=ofString "]":=by decide+kernel
theorem cl_rs:clS (ofString "rest")=ofString "]":=by decide+kernel
theorem clo_rd{ss:List Trm}{t:Trm}{w:Str}:clo (fin ⟨ofString "round",w,[],[t],[]⟩)=some t:=by
 unfold clo
 exact if_pos rfl
theorem d2c{d:List Trm}{t:Trm}{w:Str}:clo (fin ⟨ofString "kids",w,d,[t],[]⟩)=if(d++[t]).length<=4 then some (.app w (d++[t]))else none:=by
 unfold clo
 have n1:¬(fin ⟨ofString "kids",w,d,[t],[]⟩).kind=ofString "round":=by show ¬ofString "kids"=ofString "round";decide+kernel
 have n2:¬(fin ⟨ofString "kids",w,d,[t],[]⟩).kind=ofString "list":=by show ¬ofString "kids"=ofString "list";decide+kernel
 have n3:¬(fin ⟨ofString "kids",w,d,[t],[]⟩).kind=ofString "rest":=by show ¬ofString "kids"=ofString "rest";decide+kernel
 rw[if_neg n1,if_neg n2,if_neg n3]
 rfl
theorem clo_lt{d:List Trm}{t:Trm}{w:Str}:clo (fin ⟨ofString "list",w,d,[t],[]⟩)=some (mkL (d++[t]) a3f):=by
 unfold clo
 have n1:¬(fin ⟨ofString "list",w,d,[t],[]⟩).kind=ofString "round":=by show ¬ofString "list"=ofString "round";decide+kernel
 rw[if_neg n1]
 exact if_pos rfl
theorem clo_rs{d:List Trm}{t:Trm}{w:Str}:clo (fin ⟨ofString "rest",w,d,[t],[]⟩)=some (mkL d t):=by
 unfold clo
 have n1:¬(fin ⟨ofString "rest",w,d,[t],[]⟩).kind=ofString "round":=by show ¬ofString "rest"=ofString "round";decide+kernel
 have n2:¬(fin ⟨ofString "rest",w,d,[t],[]⟩).kind=ofString "list":=by show ¬ofString "rest"=ofString "list";decide+kernel
 rw[if_neg n1,if_neg n2]
 refine(if_pos rfl).trans ?_
 show some (mkL (d++[t]).dropLast ((d++[t]).getLastD a3f))=_
 rw[Vx,Ts]
def jc:List (List Pc)->List Pc
 | []=>[]
 | [p]=>p
 |p::q::r=>p++sg 44::jc (q::r)
theorem c0p{tb:Tb}:∀(ks:List (Trm×List Pc)),ks≠[]->(∀q∈ks,Rds tb q.1 q.2)->∀{r:List Pc}{lu:Lv}{st:List Lv}{z:Str}{d:List Trm}{o:Option (List Pc×List Lv)},((d++ks.map (·.1)).length<=4->PC tb r { lu with sides:=lu.sides++[.app z (d++ks.map (·.1))]} st o)->(¬(d++ks.map (·.1)).length<=4->o=none)->PO tb (jc (ks.map (·.2))++sg 41::r) (⟨ofString "kids",z,d,[],[]⟩::lu::st) o
 | [],h,_,_,_,_,_,_,_,_,_=>absurd rfl h
 | [q],_,hk,r,lu,st,z,d,o,h1,h2=>by
  refine hk q (Ze ..) (by show Pc.ks (sg 41)≠_;rw[k41];exact a4d (by decide+kernel)) ?_
  by_cases c:(d++[q.1]).length<=4
  ·exact PC.step (by rw[c2x];exact k41) (t:=.app z (d++[q.1])) (by rw[Yb,d2c,if_pos c]) (h1 c)
  ·rw[h2 c]
   exact PC.bad (by rw[c2x];exact k41) (by rw[Yb,d2c,if_neg c])
 |q::q2::ks,_,hk,r,lu,st,z,d,o,h1,h2=>by
  have e:jc ((q::q2::ks).map (·.2))++sg 41::r=q.2++(sg 44::(jc ((q2::ks).map (·.2))++sg 41::r)):=by simp[jc]
  rw[e]
  refine hk q (Ze ..) (by show Pc.ks (sg 44)≠_;rw[k44];exact a4d (by decide+kernel)) ?_
  refine PC.stop (by rw[c2x];show Pc.ks (sg 44)≠_;rw[k44];exact a4d (by decide+kernel)) (PB.comma k44 (.inl rfl) ?_)
  have e2:d++(q::q2::ks).map (·.1)=(d++[q.1])++(q2::ks).map (·.1):=by simp
  rw[e2]at h1 h2
  exact c0p (q2::ks) (by simp) (fun x hx=>hk x (Zc _ hx)) h1 h2
theorem b9n{tb:Tb}{z:Pc}(hk:kindOf z=ofString "word")(hz:z.length<=12){ks:List (Trm×List Pc)}(hn:ks≠[])(h4:ks.length<=4)(h:∀q∈ks,Rds tb q.1 q.2):Rds tb (.app ⟨z.toArray⟩ (ks.map (·.1))) (z::sg 40::(jc (ks.map (·.2))++[sg 41])):=fun{r lv st o} _ k=>by
 have e:(z::sg 40::(jc (ks.map (·.2))++[sg 41]))++r=z::sg 40::(jc (ks.map (·.2))++sg 41::r):=by simp
 rw[e]
 exact PO.kids hk k40 hz (c0p ks hn h (fun _=>k) (fun c=>absurd (by simpa using h4) c))
theorem c7s{tb:Tb}{z:Pc}(hk:kindOf z=ofString "word"){ks:List (Trm×List Pc)}(hn:ks≠[])(hb:12<z.length\/4<ks.length)(h:∀q∈ks,Rds tb q.1 q.2):Bad tb (z::sg 40::(jc (ks.map (·.2))++[sg 41])):=fun{r lv st} _=>by
 have e:(z::sg 40::(jc (ks.map (·.2))++[sg 41]))++r=z::sg 40::(jc (ks.map (·.2))++sg 41::r):=by simp
 rw[e]
 by_cases hz:z.length<=12
 ·exact PO.kids hk k40 hz (c0p ks hn h (fun c=>absurd c (by simp;omega)) (fun _=>rfl))
 ·exact PO.long hk k40 hz
theorem d2d{tb:Tb}{t:Trm}{tp r:List Pc}(h:Rds tb t tp)(hr:Ea r):PO tb (tp++r) [a2q] (some (r,[{ a2q with sides:=[t]}])):=h (hr.no) (PC.whole (PB.stop hr rfl))
theorem RdT.of{tb:Tb}{r r':List Pc}{lv:Lv}{y:Trm}(h:PO tb r [a2q] (some (r',[lv])))(h1:lv.done=[])(h2:jn lv.sides.reverse lv.wait.reverse=[y])(h3:y.size<=1000):RdT tb r (if y.size<=40 then some (y,r')else none):=by
 obtain⟨n,lp⟩:=h
 by_cases c:y.size<=40
 ·rw[if_pos c];exact .term lp h1 h2 c
 ·rw[if_neg c];exact .big lp h1 h2 (by omega) h3
def a7c(tb:Tb)(tp:List Pc)(t:Trm)(g:Bool):Prop:=∀r,Ea r->RdT tb (tp++r) (if g=true/\t.size<=40 then some (t,r)else none)
theorem b4o{tb:Tb}{tp:List Pc}{t:Trm}{lv:Pc->Lv}(h:∀r,Ea r->∃lv:Lv,PO tb (tp++r) [a2q] (some (r,[lv]))/\lv.done=[]/\jn lv.sides.reverse lv.wait.reverse=[t])(hs:t.size<=1000):a7c tb tp t true:=fun r hr=>by
 obtain⟨lv,h1,h2,h3⟩:=h r hr
 have:=RdT.of h1 h2 h3 hs
 simpa using this
theorem a5r{tb:Tb}{tp:List Pc}{t:Trm}(h:Rds tb t tp)(hs:t.size<=1000):a7c tb tp t true:=b4o (lv:=fun _=>a2q) (fun r hr=>⟨_,d2d h hr,rfl,rfl⟩) hs
theorem a8i{tb:Tb}{tp:List Pc}{t:Trm}(h:Bad tb tp):a7c tb tp t false:=fun r hr=>by
 obtain⟨n,lp⟩:=h (r:=r) (lv:=a2q) (st:=[]) hr.no
 simpa using RdT.bad lp
theorem b4p{tb:Tb}{m:Str}{g:Sg}{t:Trm}:addM tb m g [t] []=some ([t],[m]):=by rw[addM];intro _ _ _ _ _ z;cases z
def mrow(z:Pc):List (List Pc)->List Pc
 | []=>[]
 |p::r=>z::(p++mrow z r)
theorem b3t{z:Pc}{ps:List (List Pc)}{r:List Pc}(hz:kindOf z=ofString "mark")(h:Ea r):hK (mrow z ps++r)≠sgK "(":=by
 cases ps with
 |nil=>exact h.no
 |cons p q=>exact a2w hz _
def a7d(m:Str)(a:Trm)(ts:List Trm):Trm:=ts.foldl (fun x t=>.app m [x,t]) a
theorem c5b{tb:Tb}{z:Pc}{g:Sg}(hz:kindOf z=ofString "mark")(hl:lkT tb ⟨z.toArray⟩=some g)(hb:bf g g=some true):∀(ps:List (Trm×List Pc)),(∀q∈ps,Rds tb q.1 q.2)->∀{r:List Pc},Ea r->∀(a b:Trm),∃lv:Lv,PC tb (mrow z (ps.map (·.2))++r) { a2q with sides:=[a,b],wait:=[⟨z.toArray⟩]} [] (some (r,[lv]))/\lv.done=[]/\jn lv.sides.reverse lv.wait.reverse=[a7d ⟨z.toArray⟩ (.app ⟨z.toArray⟩ [a,b]) (ps.map (·.1))]
 | [],_,r,hr,a,b=>⟨_,PC.whole (PB.stop hr rfl),rfl,rfl⟩
 |p::ps,hp,r,hr,a,b=>by
  obtain⟨lv,h1,h2,h3⟩:=c5b hz hl hb ps (fun q hq=>hp q (Zc _ hq)) hr (.app ⟨z.toArray⟩ [a,b]) p.1
  refine⟨lv,?_,h2,h3⟩
  have e:mrow z ((p::ps).map (·.2))++r=z::(p.2++(mrow z (ps.map (·.2))++r)):=by simp[mrow]
  rw[e]
  have ha:addM tb ⟨z.toArray⟩ g [b,a] [⟨z.toArray⟩]=some ([.app ⟨z.toArray⟩ [a,b]],[⟨z.toArray⟩]):=by
   rw[addM,hl,Vd,hb]
   exact b4p
  exact PC.whole (PB.mark hz hl ha (hp p (Ze ..) (b3t hz hr) h1))
theorem d3z{tb:Tb}{z:Pc}{g:Sg}(hz:kindOf z=ofString "mark")(hl:lkT tb ⟨z.toArray⟩=some g)(hb:bf g g=some true){a:Trm×List Pc}{ps:List (Trm×List Pc)}(ha:Rds tb a.1 a.2)(hp:∀q∈ps,Rds tb q.1 q.2)(hs:(a7d ⟨z.toArray⟩ a.1 (ps.map (·.1))).size<=1000):a7c tb (a.2++mrow z (ps.map (·.2))) (a7d ⟨z.toArray⟩ a.1 (ps.map (·.1))) true:=by
 refine b4o (lv:=fun _=>a2q) (fun r hr=>?_) hs
 rw[Zw]
 cases ps with
 |nil=>exact⟨_,d2d ha hr,rfl,rfl⟩
 |cons p ps=>
  obtain⟨lv,h1,h2,h3⟩:=c5b hz hl hb ps (fun q hq=>hp q (Zc _ hq)) hr a.1 p.1
  refine⟨lv,?_,h2,h3⟩
  refine ha (b3t hz hr) (PC.whole ?_)
  have e:mrow z ((p::ps).map (·.2))++r=z::(p.2++(mrow z (ps.map (·.2))++r)):=by simp[mrow]
  rw[e]
  exact PB.mark hz hl b4p (hp p (Ze ..) (b3t hz hr) h1)
theorem c7t{tb:Tb}{z:Pc}{g:Sg}(hz:kindOf z=ofString "mark")(hl:lkT tb ⟨z.toArray⟩=some g){a b:Trm}{p q:List Pc}(ha:Rds tb a p)(hb:Rds tb b q)(hs:a.size+b.size<=900):a7c tb (p++z::q) (.app ⟨z.toArray⟩ [a,b]) true:=by
 refine b4o (lv:=fun _=>a2q) (fun r hr=>⟨{ a2q with sides:=[a,b],wait:=[⟨z.toArray⟩]},?_,rfl,rfl⟩) (by simp[Trm.size,Trm.sizeL];omega)
 rw[Zw,Z4]
 exact ha (a2w hz _) (PC.whole (PB.mark hz hl b4p (hb hr.no (PC.whole (PB.stop hr rfl)))))
def a6k(m:Str):Trm->List Trm->Trm
 |a,[]=>a
 |a,b::r=>.app m [a,a6k m b r]
theorem d4a{m:Str}:∀(n:Nat)(ts:List Trm),ts.length=n->∀(a:Trm),jn ((a::ts).reverse) ((List.replicate ts.length m))=[a6k m a ts]:=by
 intro n
 induction n with
 |zero=>
  intro ts h a
  have:ts=[]:=Uj h
  subst this
  rfl
 |succ n ih=>
  intro ts h a
  rcases a2b ts with e|⟨ts',b,e⟩
  ·rw[e]at h;simp at h
  ·subst e
   rcases a2b ts' with e|⟨us,c,e⟩
   ·subst e;rfl
   ·subst e
    have hl:(us++[Trm.app m [c,b]]).length=n:=by simp at h ⊢;omega
    have i:=ih (us++[Trm.app m [c,b]]) hl a
    have e1:jn ((a::(us++[c]++[b])).reverse) (List.replicate (us++[c]++[b]).length m)=jn ((a::(us++[Trm.app m [c,b]])).reverse) (List.replicate (us++[Trm.app m [c,b]]).length m):=by
     simp[Yq,jn]
    rw[e1,i]
    congr 1
    clear e1 i hl ih h
    induction us generalizing a with
    |nil=>rfl
    |cons u us ih2=>simp only[Z4,a6k];rw[ih2]
theorem c1o{tb:Tb}{z:Pc}{g:Sg}(hz:kindOf z=ofString "mark")(hl:lkT tb ⟨z.toArray⟩=some g)(hb:bf g g=some false):∀(ps:List (Trm×List Pc)),(∀q∈ps,Rds tb q.1 q.2)->∀{r:List Pc},Ea r->∀(a:Trm)(ts:List Trm),PC tb (mrow z (ps.map (·.2))++r) { a2q with sides:=a::ts,wait:=List.replicate ts.length ⟨z.toArray⟩} [] (some (r,[{ a2q with sides:=a::(ts++ps.map (·.1)),wait:=List.replicate (ts++ps.map (·.1)).length ⟨z.toArray⟩}]))
 | [],_,r,hr,a,ts=>by
  simp only[Xs,Yr,mrow,Yb]
  exact PC.whole (PB.stop hr rfl)
 |p::ps,hp,r,hr,a,ts=>by
  have e:mrow z ((p::ps).map (·.2))++r=z::(p.2++(mrow z (ps.map (·.2))++r)):=by simp[mrow]
  rw[e]
  have ha:addM tb ⟨z.toArray⟩ g (a::ts).reverse (List.replicate ts.length (⟨z.toArray⟩:Str)).reverse=some ((a::ts).reverse,(List.replicate (ts.length+1) (⟨z.toArray⟩:Str)).reverse):=by
   rw[Vj,Vj]
   rcases a2b ts with e|⟨us,c,e⟩
   ·subst e;exact b4p
   ·subst e
    rcases a2b us with e|⟨vs,d,e⟩
    ·subst e
     show addM tb _ g [c,a] [⟨z.toArray⟩]=_
     rw[addM,hl,Vd,hb]
     rfl
    ·subst e
     simp only[Y4,T6,List.reverse_nil,Yb,Z4,Za,length_cons,length_nil,Yq]
     rw[addM,hl,Vd,hb]
  have i:=c1o hz hl hb ps (fun q hq=>hp q (Zc _ hq)) hr a (ts++[p.1])
  simp only[Zw,Vr,Za,length_cons,length_nil]at i
  refine PC.whole (PB.mark hz hl ha (hp p (Ze ..) (b3t hz hr) ?_))
  simp only[List.reverse_reverse,Zu,Za,length_cons,Z4]
  exact i
theorem d2e{tb:Tb}{z:Pc}{g:Sg}(hz:kindOf z=ofString "mark")(hl:lkT tb ⟨z.toArray⟩=some g)(hb:bf g g=some false){a:Trm×List Pc}{ps:List (Trm×List Pc)}(ha:Rds tb a.1 a.2)(hp:∀q∈ps,Rds tb q.1 q.2)(hs:(a6k ⟨z.toArray⟩ a.1 (ps.map (·.1))).size<=1000):a7c tb (a.2++mrow z (ps.map (·.2))) (a6k ⟨z.toArray⟩ a.1 (ps.map (·.1))) true:=by
 refine b4o (lv:=fun _=>a2q) (fun r hr=>⟨{ a2q with sides:=a.1::([]++ps.map (·.1)),wait:=List.replicate (([]:List Trm)++ps.map (·.1)).length ⟨z.toArray⟩},?_,rfl,?_⟩) hs
 ·rw[Zw]
  exact ha (b3t hz hr) (c1o hz hl hb ps hp hr a.1 [])
 ·simp only[Yb]
  rw[Vj]
  exact d4a _ _ rfl _
theorem c5c{tb:Tb}:∀(ps:List (Trm×List Pc)),(∀q∈ps,Rds tb q.1 q.2)->∀{c:Trm×List Pc},Rds tb c.1 c.2->∀{r:List Pc}{lu:Lv}{st:List Lv}{o:Option (List Pc×List Lv)}{d:List Trm}{p:Trm×List Pc},Rds tb p.1 p.2->PC tb r { lu with sides:=lu.sides++[mkL (d++(p.1::ps.map (·.1))) c.1]} st o->PO tb (jc (p.2::ps.map (·.2))++sg 124::(c.2++sg 93::r)) (⟨ofString "list",ofString "",d,[],[]⟩::lu::st) o
 | [],_,c,hc,r,lu,st,o,d,p,hp,k=>by
  refine hp (by show Pc.ks (sg 124)≠_;rw[k124];exact a4d (by decide+kernel)) ?_
  refine PC.stop (by rw[cl_lt];show Pc.ks (sg 124)≠_;rw[k124];exact a4d (by decide+kernel)) (PB.bar k124 rfl ?_)
  refine hc (by show Pc.ks (sg 93)≠_;rw[k93];exact a4d (by decide+kernel)) ?_
  exact PC.step (by rw[cl_rs];exact k93) (t:=mkL (d++[p.1]) c.1) clo_rs k
 |q::ps,hq,c,hc,r,lu,st,o,d,p,hp,k=>by
  have e:jc (p.2::(q::ps).map (·.2))++sg 124::(c.2++sg 93::r)=p.2++(sg 44::(jc (q.2::ps.map (·.2))++sg 124::(c.2++sg 93::r))):=by simp[jc]
  rw[e]
  refine hp (by show Pc.ks (sg 44)≠_;rw[k44];exact a4d (by decide+kernel)) ?_
  refine PC.stop (by rw[cl_lt];show Pc.ks (sg 44)≠_;rw[k44];exact a4d (by decide+kernel)) (PB.comma k44 (.inr rfl) ?_)
  refine c5c ps (fun x hx=>hq x (Zc _ hx)) hc (hq q (Ze ..)) ?_
  have e3:(d++[(jn ([]++[p.1]:List Trm).reverse ([]:List Str).reverse).headD a3f])++q.1::ps.map (·.1)=d++(p.1::(q::ps).map (·.1)):=by simp[jn]
  show PC tb r { lu with sides:=lu.sides++[mkL ((d++[(jn ([]++[p.1]:List Trm).reverse ([]:List Str).reverse).headD a3f])++q.1::ps.map (·.1)) c.1]} st o
  rw[e3]
  exact k
theorem rd_list{tb:Tb}{p c:Trm×List Pc}{ps:List (Trm×List Pc)}(hp:Rds tb p.1 p.2)(hh:∀r,hK (p.2++r)≠sgK "]")(hq:∀q∈ps,Rds tb q.1 q.2)(hc:Rds tb c.1 c.2):Rds tb (mkL (p.1::ps.map (·.1)) c.1) (sg 91::(jc (p.2::ps.map (·.2))++sg 124::(c.2++[sg 93]))):=fun{r lv st o} _ k=>by
 have e:(sg 91::(jc (p.2::ps.map (·.2))++sg 124::(c.2++[sg 93])))++r=sg 91::(jc (p.2::ps.map (·.2))++sg 124::(c.2++sg 93::r)):=by simp
 rw[e]
 refine PO.list k91' ?_ (c5c ps hq hc hp k)
 cases ps with
 |nil=>exact hh _
 |cons q ps=>simp only[Zu,jc,Zw];exact hh _
theorem c2b{tb:Tb}{t:Trm}{p:List Pc}(h:Rds tb t p):Rds tb t (sg 40::(p++[sg 41])):=fun{r lv st o} _ k=>by
 have e:(sg 40::(p++[sg 41]))++r=sg 40::(p++sg 41::r):=by simp
 rw[e]
 exact PO.round k40 (h (by show Pc.ks (sg 41)≠_;rw[k41];exact a4d (by decide+kernel)) (PC.step (by rw[cl_rd];exact k41) (t:=t) (clo_rd (ss:=[])) k))
theorem c5d{tb:Tb}{t:Trm}{p:List Pc}(h:Rds tb t p)(hh:∀r,hK (p++r)≠sgK "]"):Rds tb (mkL [t] a3f) (sg 91::(p++[sg 93])):=fun{r lv st o} _ k=>by
 have e:(sg 91::(p++[sg 93]))++r=sg 91::(p++sg 93::r):=by simp
 rw[e]
 exact PO.list k91' (hh _) (h (by show Pc.ks (sg 93)≠_;rw[k93];exact a4d (by decide+kernel)) (PC.step (by rw[cl_lt];exact k93) (t:=mkL [t] a3f) clo_lt k))
theorem rd_f{tb:Tb}{z:Pc}(hk:kindOf z=ofString "word")(hz:z.length<=12){t:Trm}{p:List Pc}(h:Rds tb t p):Rds tb (.app ⟨z.toArray⟩ [t]) (z::sg 40::(p++[sg 41])):=b9n hk hz (ks:=[(t,p)]) (by simp) (by simp) (fun q hq=>by rw[Zn.mp hq];exact h)
theorem c7u{p:Nat->Bool}{c:Nat}(hc:p c=false)(s:List Nat):∀r:List Nat,(r++c::s).takeWhile p=r.takeWhile p/\(r++c::s).dropWhile p=r.dropWhile p++c::s
 | []=>by simp[hc]
 |a::r=>by
  have:=c7u hc s r
  by_cases h:p a=true
  ·simp only[Z4,Xw,Wz,h,if_true];exact⟨by rw[this.1],this.2⟩
  ·simp only[Z4,Xw,Wz,h,Xq];exact⟨rfl,rfl⟩
theorem runP_no{a c:Nat}(h1:¬inn c)(h2:¬mkc c\/¬mkc a):runP a c=false:=by
 unfold runP
 split
 ·rename_i hm
  rcases h2 with h2|h2
  ·exact Zg h2
  ·exact absurd hm h2
 ·split
  ·exact Zg h1
  ·rfl
theorem c5e{c:Nat}(h1:¬inn c)(s:List Nat):∀(n:Nat)(l:List Nat),l.length=n->(¬mkc c\/∀y∈l,¬mkc y)->bits (l++c::s)=bits l++bits (c::s):=by
 intro n
 induction n using Nat.strongRecOn with
 |_ n ih=>
  intro l hl h2
  cases l with
  |nil=>rw[a7u];rfl
  |cons a r=>
   by_cases ha:a=32
   ·rw[ha,Z4,a4m,a4m]
    exact ih r.length (by rw[<-hl];simp) r rfl (h2.imp id fun h y hy=>h y (Zc _ hy))
   ·have hr:runP a c=false:=runP_no h1 (h2.imp id fun h=>h a (Ze ..))
    obtain⟨e1,e2⟩:=c7u hr s r
    rw[Z4,b1u ha,b1u ha,e1,e2,Z4]
    have hd:=c4p (p:=runP a) r
    rw[ih (r.dropWhile (runP a)).length (by rw[<-hl,length_cons];omega) _ rfl (h2.imp id fun h y hy=>h y (Zc _ ((Vl _).subset hy)))]
theorem a3a{c:Nat}(h:¬inn c/\¬mkc c)(l s:List Nat):bits (l++c::s)=bits l++bits (c::s):=c5e h.1 s _ l rfl (.inl h.2)
theorem bits_mk{c:Nat}(h:¬inn c){l:List Nat}(hl:∀y∈l,¬mkc y)(s:List Nat):bits (l++c::s)=bits l++bits (c::s):=c5e h s _ l rfl (.inr hl)
theorem a6t{c:Nat}(h:c∈a3y.cps.toList)(s:List Nat):bits (c::s)=[c]::bits s:=by
 have d:=c7n c h
 rw[b1u d.2.2.1,c4o d.2.2.2 d.1 d.2.1,(c2v s).1,(c2v s).2]
theorem d2f{p:Nat->Bool}{r:List Nat}(h:∀y∈r,p y=true):r.takeWhile p=r/\r.dropWhile p=[]:=by
 induction r with
 |nil=>exact⟨rfl,rfl⟩
 |cons a r ih=>
  have:=ih (fun y hy=>h y (Zc _ hy))
  simp only[Xw,Wz,h a (Ze ..),if_true]
  exact⟨by rw[this.1],this.2⟩
theorem a9o{c:Nat}{r:List Nat}(h:inn c\/c=126)(hr:∀y∈r,inn y):bits (c::r)=[c::r]:=by
 have e:runP c=fun d=>decide (inn d):=by
  rcases h with h|h
  ·exact c4n h
  ·rw[h];exact d1o
 have hc:c≠32:=by
  rcases h with h|h
  ·exact(b6g h).2.2.1
  ·rw[h];decide
 have:=d2f (p:=fun d=>decide (inn d)) (r:=r) (fun y hy=>Zi (hr y hy))
 rw[b1u hc,e,this.1,this.2,a7u]
theorem bits_m{c:Nat}{r:List Nat}(h:mkc c)(hr:∀y∈r,mkc y):bits (c::r)=[c::r]:=by
 have:=d2f (p:=fun d=>decide (mkc d)) (r:=r) (fun y hy=>Zi (hr y hy))
 rw[b1u (c7m c h).2.2.1,d1n h,this.1,this.2,a7u]
theorem no40:¬inn 40/\¬mkc 40:=by decide+kernel
theorem no41:¬inn 41/\¬mkc 41:=by decide+kernel
theorem no44:¬inn 44/\¬mkc 44:=by decide+kernel
theorem no93:¬inn 93/\¬mkc 93:=by decide+kernel
theorem no32:¬inn 32/\¬mkc 32:=by decide+kernel
theorem a4n:(40∈a3y.cps.toList/\41∈a3y.cps.toList)/\(44∈a3y.cps.toList/\124∈a3y.cps.toList)/\91∈a3y.cps.toList/\93∈a3y.cps.toList:=by decide+kernel
theorem b4q(l s:List Nat):bits (l++44::32::s)=bits l++sg 44::bits s:=by rw[a3a no44,a6t a4n.2.1.1,a4m]
def jt:List (List Nat)->List Nat
 | []=>[]
 | [p]=>p
 |p::q::r=>p++44::32::jt (q::r)
theorem a8j:∀{ts:List (List Nat)},bits (jt ts)=jc (ts.map bits)
 | []=>by rw[jt,a7u];rfl
 | [p]=>rfl
 |p::q::r=>by
  rw[jt,b4q,a8j]
  rfl
theorem c9a(l s:List Nat):a2a (l++44::32::s)=(a2a l&&a2a s):=by
 unfold a2a
 rw[b4q,Ul,Wa,show(!knB (sg 44))=true by decide+kernel,Y9]
theorem c0q:∀{ts:List (List Nat)},a2a (jt ts)=ts.all a2a
 | []=>by unfold a2a jt;rw[a7u];rfl
 | [p]=>by simp[jt]
 |p::q::r=>by rw[jt,c9a,c0q];rfl
theorem b0r(l s:List Nat):bits (l++32::60::45::32::s)=bits l++[60,45]::bits s:=by
 have e:(60::45::32::s:List Nat)=[60,45]++32::s:=rfl
 rw[a3a no32,a4m,e,a3a no32,a4m,bits_m (by decide+kernel) (fun y hy=>by rw[Zn.mp hy];decide+kernel)]
 rfl
theorem c9b(l s:List Nat):a2a (l++32::60::45::32::s)=(a2a l&&a2a s):=by
 unfold a2a
 rw[b0r,Ul,Wa,show(!knB [60,45])=true by decide+kernel,Y9]
def tbK:Tb:=[(ofString "=",(15,a1x)),(ofString ":=",(15,a1x)),(ofString "<",(15,a1x)),(ofString "<=",(15,a1x)),(ofString "+",(10,a9t)),(ofString "-",(10,a9t)),(ofString "*",(8,a9t)),(ofString "/",(8,a9t)),(ofString "/:",(8,a9t)),(ofString "::",(12,ofString "right"))]
structure Cse(l:List Nat)(t:Trm)(g:Bool):Prop where
 pl:a1a l
 len:l.length<=290
 sz:t.size<=130
 cnt:(bits l).length<=200
 mks:∀z∈bits l,kindOf z=ofString "mark"->(lkT tbK ⟨z.toArray⟩).isSome=true
 rd:(a2a l=false/\g=false)\/(a2a l=true/\a7c tbK (bits l) t g)
def okB(t:Trm)(g:Bool):Bool:=g&&decide (t.size<=40)
theorem c2y{α:Type}{t:Trm}{g:Bool}{a b:α}:(if g=true/\t.size<=40 then a else b)=if okB t g=true then a else b:=by simp[okB]
theorem c0r:∀(cs:List (List Nat×Trm×Bool)),cs≠[]->(∀c∈cs,a7c tbK (bits c.1) c.2.1 c.2.2)->∃n,n+1<=cs.length/\RdG tbK n (jc (cs.map fun c=>bits c.1)) (if(cs.all fun c=>okB c.2.1 c.2.2)=true then some (cs.map (·.2.1),[])else none)
 | [],h,_=>absurd rfl h
 | [c],_,h=>by
  have:=h c (Ze ..) [] (.inl rfl)
  rw[Yr,c2y]at this
  refine⟨0,Zl _,?_⟩
  show RdG tbK 0 (bits c.1) _
  cases e:okB c.2.1 c.2.2 with
  |true=>
   rw[e,if_pos rfl]at this
   simp only[Wa,List.all_nil,e,Y9,if_true]
   exact .one this (b9j _)
  |false=>
   rw[e,if_neg (by decide)]at this
   simp only[Wa,e,Wr]
   exact .bad this
 |c::d::cs,_,h=>by
  have:=h c (Ze ..) (sg 44::jc ((d::cs).map fun c=>bits c.1)) (.inr ⟨_,_,rfl,.inl k44⟩)
  rw[c2y]at this
  have ej:jc ((c::d::cs).map fun c=>bits c.1)=bits c.1++sg 44::jc ((d::cs).map fun c=>bits c.1):=rfl
  rw[ej]
  cases e:okB c.2.1 c.2.2 with
  |false=>
   rw[e,if_neg (by decide)]at this
   refine⟨0,by simp,?_⟩
   rw[Wa,e,Wr,if_neg (by decide)]
   exact .bad this
  |true=>
   rw[e,if_pos rfl]at this
   obtain⟨n,hn,i⟩:=c0r (d::cs) (by simp) (fun x hx=>h x (Zc _ hx))
   refine⟨n+1,by simp at hn ⊢;omega,?_⟩
   have m:=RdG.more this k44 i
   rw[Wa,e,Y9]
   cases e2:((d::cs).all fun c=>okB c.2.1 c.2.2)with
   |true=>rw[e2,if_pos rfl]at m;exact m
   |false=>rw[e2,if_neg (by decide)]at m;exact m
theorem rr_join{c:List Nat×Trm×Bool}{cs:List (List Nat×Trm×Bool)}(hne:cs≠[])(hl:cs.length<=50)(hc:a7c tbK (bits c.1) c.2.1 c.2.2)(h:∀c∈cs,a7c tbK (bits c.1) c.2.1 c.2.2):RdR tbK (bits c.1++[60,45]::jc (cs.map fun c=>bits c.1)) (if(okB c.2.1 c.2.2&&cs.all fun c=>okB c.2.1 c.2.2)=true then some ((c.2.1,cs.map (·.2.1)),[])else none):=by
 have:=hc ([60,45]::jc (cs.map fun c=>bits c.1)) (.inr ⟨_,_,rfl,.inr kAr⟩)
 rw[c2y]at this
 cases e:okB c.2.1 c.2.2 with
 |false=>
  rw[e,if_neg (by decide)]at this
  rw[Wr,if_neg (by decide)]
  exact .bad this
 |true=>
  rw[e,if_pos rfl]at this
  obtain⟨n,hn,i⟩:=c0r cs hne h
  have m:=RdR.rule this kAr (by omega) i
  rw[Y9]
  cases e2:(cs.all fun c=>okB c.2.1 c.2.2)with
  |true=>rw[e2,if_pos rfl]at m;exact m
  |false=>rw[e2,if_neg (by decide)]at m;exact m
theorem b9o{c:Nat}{r:List Nat}(h:inn c):kindOf (c::r)≠ofString "sign"/\kindOf (c::r)≠ofString "mark":=by
 rw[b1s h]
 repeat' split
 all_goals exact⟨by decide+kernel,by decide+kernel⟩
theorem b0s{c:Nat}{r:List Nat}(h:c∈a2p.cps.toList):kindOf (c::r)=ofString "word":=by rw[b1s (a8e h),if_pos h]
theorem b9p{c:Nat}{r:List Nat}(h:c∈a3e.cps.toList):kindOf (c::r)=ofString "name":=by rw[b1s (b2j h),if_neg (c4l c h).2.2.2.2.2,if_pos h]
theorem b4r{c:Nat}{r:List Nat}(h:c∈a2p.cps.toList):thgZ (c::r)=if(c::r).length<=12 then some (.app ⟨(c::r).toArray⟩ [])else none:=by
 unfold thgZ
 rw[b0s h,if_neg (by decide+kernel),if_neg (by decide+kernel),if_pos rfl]
theorem c5f{c:Nat}{r:List Nat}(h:c∈a3e.cps.toList):thgZ (c::r)=if(c::r).length<=12 then some (.any ⟨(c::r).toArray⟩)else none:=by
 unfold thgZ
 rw[b9p h,if_neg (by decide+kernel),if_pos rfl]
theorem a5s:∀{c:Nat},inn c->c<200:=fun{c} h=>by
 have a1:∀x∈a2p.cps.toList,x<200:=by decide+kernel
 have a2:∀x∈a3e.cps.toList,x<200:=by decide+kernel
 have a3:∀x∈figS.cps.toList,x<200:=by decide+kernel
 rcases h with h|h|h
 ·exact a1 c h
 ·exact a2 c h
 ·exact a3 c h
theorem c0s{l:List Nat}(h:∀z∈bits l,kindOf z≠a1x):a2a l=true:=by
 unfold a2a
 rw[Xe]
 intro z hz
 simp only[knB,Bool.not_eq_true',decide_eq_false_iff_not]
 exact h z hz
abbrev wv(c:Nat)(r:List Nat):Str:=⟨(c::r).toArray⟩
section
variable{c:Nat}{r:List Nat}
theorem d4b(h:c∈a3e.cps.toList)(hr:∀y∈r,inn y)(hl:r.length<=14):Cse (c::r) (.any (wv c r)) (decide (r.length<12)):=by
 have hi:=b2j h
 have eb:=a9o (c:=c) (.inl hi) hr
 have hk:=b9p (r:=r) h
 refine⟨fun y hy=>?_,by simp;omega,by simp[Trm.size],by rw[eb];simp,fun z hz hm=>?_,.inr ⟨c0s (fun z hz=>?_),?_⟩⟩
 ·rcases Zj.mp hy with e|e
  ·rw[e];exact a5s hi
  ·exact a5s (hr y e)
 ·rw[eb,Zn]at hz;rw[hz]at hm;exact absurd hm (b9o hi).2
 ·rw[eb,Zn]at hz;rw[hz,hk];decide+kernel
 ·rw[eb]
  by_cases e:(c::r).length<=12
  ·rw[Zi (by simp at e;omega)]
   exact a5r (a4g (by rw[c5f h,if_pos e]) (by rw[hk];decide+kernel)) (by simp[Trm.size])
  ·rw[Zg (by simp at e;omega)]
   exact a8i (b5u (by rw[c5f h,if_neg e]) (a2w hk _) (a2w hk _))
theorem c5g(h:c∈a2p.cps.toList)(hr:∀y∈r,inn y)(hl:r.length<=14):Cse (c::r) (.app (wv c r) []) (decide (r.length<12)):=by
 have hi:=a8e h
 have eb:=a9o (c:=c) (.inl hi) hr
 have hk:=b0s (r:=r) h
 refine⟨fun y hy=>?_,by simp;omega,by simp[Trm.size,Trm.sizeL],by rw[eb];simp,fun z hz hm=>?_,.inr ⟨c0s (fun z hz=>?_),?_⟩⟩
 ·rcases Zj.mp hy with e|e
  ·rw[e];exact a5s hi
  ·exact a5s (hr y e)
 ·rw[eb,Zn]at hz;rw[hz]at hm;exact absurd hm (b9o hi).2
 ·rw[eb,Zn]at hz;rw[hz,hk];decide+kernel
 ·rw[eb]
  by_cases e:(c::r).length<=12
  ·rw[Zi (by simp at e;omega)]
   exact a5r (a4g (by rw[b4r h,if_pos e]) (by rw[hk];decide+kernel)) (by simp[Trm.size,Trm.sizeL])
  ·rw[Zg (by simp at e;omega)]
   exact a8i (b5u (by rw[b4r h,if_neg e]) (a2w hk _) (a2w hk _))
end
def a2j(sp:List Nat):List (List Nat)->List Nat
 | []=>[]
 | [x]=>x
 |x::y::r=>x++(sp++a2j sp (y::r))
theorem join_T(sp:List Nat)(ls:List (List Nat)):Txt.join (⟨sp.toArray⟩:Str) (ls.map fun l=>(⟨l.toArray⟩:Str))=⟨(a2j sp ls).toArray⟩:=by
 unfold Txt.join Builtin.Str.glued
 cases ls with
 |nil=>rfl
 |cons a r=>
  have h:∀(r:List (List Nat))(acc:List Nat),(r.map fun l=>(⟨l.toArray⟩:Str)).foldl (fun acc p=>acc++sp.toArray++p.cps) acc.toArray=(a2j sp (acc::r)).toArray:=by
   intro r
   induction r with
   |nil=>intro acc;simp[a2j]
   |cons b r ih=>
    intro acc
    rw[Zu,Vq]
    have e:acc.toArray++sp.toArray++b.toArray=(acc++sp++b).toArray:=by simp
    rw[e,ih]
    cases r with
    |nil=>simp[a2j]
    |cons c r=>simp[a2j]
  exact Ys Str.mk (h r a)
abbrev stT(l:List Nat):Str:=⟨l.toArray⟩
theorem c1p(sp:List Nat):∀l:List (List Nat),(a2j sp l).length<=(l.map List.length).sum+l.length*sp.length
 | []=>by simp[a2j]
 | [a]=>by simp[a2j]
 |a::b::r=>by
  have:=c1p sp (b::r)
  have e:(r.length+1+1)*sp.length=(r.length+1)*sp.length+sp.length:=Vi _ _
  simp only[a2j,Za,Zu,Wk,length_cons]at this ⊢
  rw[e]
  omega
theorem join_i{K:W.Frag}{H:Hp}{Q:VK}{D:Addr}{sp:List Nat}{ls:List (List Nat)}(h:SqL K H D (ls.map fun l=>V.str (stT l)))(hb:(ls.map List.length).sum+ls.length*sp.length<=16777216)(k:Q (.str (stT (a2j sp ls))) H):b8l K (.str (stT sp)) [.ref D] H Q:=by
 refine⟨ls.map stT,by rw[Yh];exact h,?_,by rw[show Txt.join (stT sp) (ls.map stT)=stT (a2j sp ls)from join_T sp ls];exact k⟩
 rw[Yh,length_map,str_len]
 rw[show ls.map ((fun x=>x.length)∘stT)=ls.map List.length from T7 fun l _=>str_len l]
 exact hb
theorem b3u:∀ls:List (List Nat),a2j [44,32] ls=jt ls
 | []=>rfl
 | [_]=>rfl
 |a::b::r=>by rw[a2j,jt,b3u (b::r)];rfl
theorem c5h:∀r:List Nat,a2j [] (r.map fun y=>[y])=r
 | []=>rfl
 | [_]=>rfl
 |a::b::r=>by
  have:=c5h (b::r)
  simp only[Zu]at this ⊢
  rw[a2j,this]
  rfl
def PK(z:Pc):Prop:=kindOf z≠a1x/\(kindOf z=ofString "mark"->(lkT tbK ⟨z.toArray⟩).isSome=true)
theorem a8x{l:List Nat}{bs:List Pc}{t:Trm}{g:Bool}(eb:bits l=bs)(pl:a1a l)(len:l.length<=290)(sz:t.size<=130)(cnt:bs.length<=200)(hb:∀z∈bs,PK z)(rd:a7c tbK bs t g):Cse l t g:=by
 subst eb
 exact⟨pl,len,sz,cnt,fun z hz=>(hb z hz).2,.inr ⟨c0s (fun z hz=>(hb z hz).1),rd⟩⟩
theorem a4f{z:Pc}{k:Str}(h:kindOf z=k)(h1:k≠a1x:=by decide+kernel)(h2:k≠ofString "mark":=by decide+kernel):PK z:=⟨by rw[h];exact h1,fun e=>absurd (h.symm.trans e) h2⟩
theorem b6k{c:Nat}(h:c∈a3y.cps.toList):PK [c]:=a4f (c1k h)
theorem pk40:PK (sg 40):=b6k a4n.1.1
theorem pk41:PK (sg 41):=b6k a4n.1.2
theorem pk44:PK (sg 44):=b6k a4n.2.1.1
theorem pk124:PK (sg 124):=b6k a4n.2.1.2
theorem pk91:PK (sg 91):=b6k a4n.2.2.1
theorem pk93:PK (sg 93):=b6k a4n.2.2.2
theorem a1p{a b:List Nat}(ha:a1a a)(hb:a1a b):a1a (a++b):=fun c hc=>(Zv.mp hc).elim (ha c) (hb c)
theorem c1q{c:Nat}{r:List Nat}(h:inn c)(hr:∀y∈r,inn y):a1a (c::r):=fun y hy=>by
 rcases Zj.mp hy with e|e
 ·rw[e];exact a5s h
 ·exact a5s (hr y e)
theorem rd_X{tb:Tb}:Rds tb (.any (ofString "X")) [[88]]:=a4g (by kernel_rfl) (by decide+kernel)
theorem rd_1{tb:Tb}:Rds tb (.num 1) [[49]]:=a4g (by kernel_rfl) (by decide+kernel)
theorem rd_2{tb:Tb}:Rds tb (.num 2) [[50]]:=a4g (by kernel_rfl) (by decide+kernel)
section
variable{c:Nat}{r:List Nat}
theorem cse_kid(h:c∈a2p.cps.toList)(hr:∀y∈r,inn y)(hl:r.length<=14):Cse ((c::r)++[40,88,41]) (.app (wv c r) [.any (ofString "X")]) (decide (r.length<12)):=by
 have hi:=a8e h
 have hk:=b0s (r:=r) h
 have eb:bits ((c::r)++[40,88,41])=(c::r)::sg 40::([[88]]++[sg 41]):=by
  rw[a3a no40,a9o (.inl hi) hr,show bits [40,88,41]=[[40],[88],[41]] by decide+kernel]
  rfl
 refine a8x eb (a1p (c1q hi hr) (by unfold a1a;decide)) (by simp;omega) (by simp[Trm.size,Trm.sizeL]) (by simp) (fun z hz=>?_) ?_
 ·simp only[Zj,Zv,Zy,Y5]at hz
  rcases hz with rfl|rfl|rfl|rfl
  ·exact a4f hk
  ·exact pk40
  ·exact a4f (k:=ofString "name") (by decide+kernel)
  ·exact pk41
 ·by_cases e:(c::r).length<=12
  ·rw[Zi (by simp at e;omega)]
   exact a5r (rd_f hk e rd_X) (by simp[Trm.size,Trm.sizeL])
  ·rw[Zg (by simp at e;omega)]
   exact a8i (c7s hk (ks:=[(.any (ofString "X"),[[88]])]) (by simp) (.inl (by simp at e ⊢;omega)) (fun q hq=>by rw[Zn.mp hq];exact rd_X))
theorem cse_in(h:c∈a2p.cps.toList)(hr:∀y∈r,inn y)(hl:r.length<=14):Cse ([103,40,49,44,32]++((c::r)++[41])) (.app (ofString "g") [.num 1,.app (wv c r) []]) (decide (r.length<12)):=by
 have hi:=a8e h
 have hk:=b0s (r:=r) h
 have e1:([103,40,49,44,32]++((c::r)++[41]):List Nat)=[103,40,49]++44::32::((c::r)++41::[]):=rfl
 have eb:bits ([103,40,49,44,32]++((c::r)++[41]))=[103]::sg 40::([[49]]++sg 44::([c::r]++[sg 41])):=by
  rw[e1,b4q,a3a no41,a9o (.inl hi) hr,show bits [103,40,49]=[[103],[40],[49]] by decide+kernel,show bits [41]=[[41]] by decide+kernel]
  rfl
 have hg:kindOf [103]=ofString "word":=by decide+kernel
 refine a8x eb (a1p (by unfold a1a;decide) (a1p (c1q hi hr) (by unfold a1a;decide))) (by simp;omega) (by simp[Trm.size,Trm.sizeL]) (by simp) (fun z hz=>?_) ?_
 ·simp only[Zj,Zv,Zy,Y5]at hz
  rcases hz with rfl|rfl|rfl|rfl|rfl|rfl
  ·exact a4f hg
  ·exact pk40
  ·exact a4f (k:=ofString "num") (by decide+kernel)
  ·exact pk44
  ·exact a4f hk
  ·exact pk41
 ·by_cases e:(c::r).length<=12
  ·rw[Zi (by simp at e;omega)]
   refine a5r (b9n (z:=[103]) hg (by simp) (ks:=[(.num 1,[[49]]),(.app (wv c r) [],[c::r])]) (by simp) (by simp) (fun q hq=>?_)) (by simp[Trm.size,Trm.sizeL])
   simp only[Zj,Zy,Y5]at hq
   rcases hq with rfl|rfl
   ·exact rd_1
   ·exact a4g (by rw[b4r h,if_pos e]) (by rw[hk];decide+kernel)
  ·rw[Zg (by simp at e;omega)]
   refine a8i (fun{r2 lv st} _=>?_)
   show PO tbK ([103]::sg 40::([[49]]++(sg 44::([c::r]++(sg 41::r2))))) (lv::st) none
   refine PO.kids hg k40 (by simp) (rd_1 (by show Pc.ks (sg 44)≠_;rw[k44];exact a4d (by decide+kernel)) ?_)
   refine PC.stop (by rw[c2x];show Pc.ks (sg 44)≠_;rw[k44];exact a4d (by decide+kernel)) (PB.comma k44 (.inl rfl) ?_)
   exact b5u (by rw[b4r h,if_neg e]) (a2w hk _) (a2w hk _) (by show Pc.ks (sg 41)≠_;rw[k41];exact a4d (by decide+kernel))
end
theorem c0t:∀k,k<10->thgZ [48+k]=some (.num (k:Int))/\kindOf [48+k]=ofString "num"/\bits [48+k]=[[48+k]]
 |0,_=>⟨by kernel_rfl,by decide+kernel,by decide+kernel⟩
 |1,_=>⟨by kernel_rfl,by decide+kernel,by decide+kernel⟩
 |2,_=>⟨by kernel_rfl,by decide+kernel,by decide+kernel⟩
 |3,_=>⟨by kernel_rfl,by decide+kernel,by decide+kernel⟩
 |4,_=>⟨by kernel_rfl,by decide+kernel,by decide+kernel⟩
 |5,_=>⟨by kernel_rfl,by decide+kernel,by decide+kernel⟩
 |6,_=>⟨by kernel_rfl,by decide+kernel,by decide+kernel⟩
 |7,_=>⟨by kernel_rfl,by decide+kernel,by decide+kernel⟩
 |8,_=>⟨by kernel_rfl,by decide+kernel,by decide+kernel⟩
 |9,_=>⟨by kernel_rfl,by decide+kernel,by decide+kernel⟩
 |n+10,h=>by omega
def b6l(m:Nat):Trm:=.app (ofString "h") ((List.range m).map fun k:Nat=>Trm.num (k:Int))
def a9z(m:Nat):List Nat:=[104,40]++(jt ((List.range m).map fun k=>[48+k])++[41])
theorem b3v:∀{ls:List (List Nat)}{n:Nat},(∀l∈ls,l.length<=n)->(jt ls).length<=ls.length*(n+2)
 | [],n,h=>by simp[jt]
 | [p],n,h=>by have:=h p (Ze ..);simp[jt];omega
 |p::q::r,n,h=>by
  have h1:=h p (Ze ..)
  have h2:=b3v (ls:=q::r) (n:=n) (fun l hl=>h l (Zc _ hl))
  rw[jt,Za,length_cons,length_cons]
  simp only[length_cons]at h2 ⊢
  rw[Vi]
  omega
theorem b4s:∀{ls:List (List Nat)},(∀l∈ls,a1a l)->a1a (jt ls)
 | [],_=>fun _ h=>by cases h
 | [p],h=>h p (Ze ..)
 |p::q::r,h=>by
  have h2:=b4s (ls:=q::r) (fun l hl=>h l (Zc _ hl))
  rw[jt]
  refine a1p (h p (Ze ..)) (fun c hc=>?_)
  rcases Zj.mp hc with e|e
  ·rw[e];decide
  ·rcases Zj.mp e with e|e
   ·rw[e];decide
   ·exact h2 c e
theorem d2g(m:Nat)(hm:m<8):bits (a9z m)=[104]::sg 40::(jc ((List.range m).map fun k=>[[48+k]])++[sg 41])/\a1a (a9z m)/\(a9z m).length<=290:=by
 have hk:∀k∈List.range m,k<8:=fun k hk=>by have:=Xi.mp hk;omega
 have em:((List.range m).map fun k=>[48+k]).map bits=(List.range m).map fun k=>[[48+k]]:=by
  rw[Yh]
  exact T7 fun k h=>(c0t k (by have:=hk k h;omega)).2.2
 have e1:a9z m=[104]++40::(jt ((List.range m).map fun k=>[48+k])++41::[]):=rfl
 refine⟨?_,?_,?_⟩
 ·rw[e1,a3a no40,a6t a4n.1.1,a3a no41,a8j,em,show bits [104]=[[104]] by decide+kernel,show bits [41]=[[41]] by decide+kernel]
  rfl
 ·rw[e1]
  refine a1p (by unfold a1a;decide) (fun c hc=>?_)
  rcases Zj.mp hc with e|e
  ·rw[e];decide
  ·refine a1p (b4s fun l hl=>?_) (by unfold a1a;decide) c e
   obtain⟨k,h,rfl⟩:=Z7.mp hl
   intro c hc
   have:=hk k h
   rw[Zn.mp hc]
   omega
 ·rw[e1]
  have:=b3v (ls:=(List.range m).map fun k=>[48+k]) (n:=1) (fun l hl=>by obtain⟨k,_,rfl⟩:=Z7.mp hl;simp)
  simp only[Za,length_cons,length_map,Wd,length_nil]at this ⊢
  omega
theorem b9q{z:Pc}:∀{ls:List (List Pc)},z∈jc ls->(∃l∈ls,z∈l)\/z=sg 44
 | [],h=>by cases h
 | [p],h=>.inl ⟨p,Ze ..,h⟩
 |p::q::r,h=>by
  rw[jc]at h
  rcases Zv.mp h with h|h
  ·exact .inl ⟨p,Ze ..,h⟩
  ·rcases Zj.mp h with h|h
   ·exact .inr h
   ·rcases b9q h with⟨l,h1,h2⟩|h
    ·exact .inl ⟨l,Zc _ h1,h2⟩
    ·exact .inr h
theorem c5i:∀{ls:List (List Pc)}{n:Nat},(∀l∈ls,l.length<=n)->(jc ls).length<=ls.length*(n+1)
 | [],n,h=>by simp[jc]
 | [p],n,h=>by have:=h p (Ze ..);simp[jc];omega
 |p::q::r,n,h=>by
  have h1:=h p (Ze ..)
  have h2:=c5i (ls:=q::r) (n:=n) (fun l hl=>h l (Zc _ hl))
  rw[jc,Za,length_cons]
  simp only[length_cons]at h2 ⊢
  rw[Vi]
  omega
theorem d4c(m:Nat)(hm:m<8):Cse (a9z m) (b6l m) (decide (0<m/\m<5)):=by
 obtain⟨eb,pl,len⟩:=d2g m hm
 have hh:kindOf [104]=ofString "word":=by decide+kernel
 have er:((List.range m).map fun k:Nat=>((Trm.num (k:Int),[[48+k]]):Trm×List Pc)).map (·.2)=(List.range m).map fun k=>[[48+k]]:=by rw[Yh];rfl
 have et:((List.range m).map fun k:Nat=>((Trm.num (k:Int),[[48+k]]):Trm×List Pc)).map (·.1)=(List.range m).map fun k:Nat=>Trm.num (k:Int):=by rw[Yh];rfl
 have hrd:∀q∈(List.range m).map fun k:Nat=>((Trm.num (k:Int),[[48+k]]):Trm×List Pc),Rds tbK q.1 q.2:=fun q hq=>by
  obtain⟨k,hk,rfl⟩:=Z7.mp hq
  have:=c0t k (by have:=Xi.mp hk;omega)
  have hr:Rds tbK (.num (k:Int)) [[48+k]]:=a4g this.1 (by rw[this.2.1];decide+kernel)
  exact @hr
 have sz:(b6l m).size<=130:=by
  have:∀m<8,(b6l m).size<=130:=by decide+kernel
  exact this m hm
 refine a8x eb pl len sz ?_ (fun z hz=>?_) ?_
 ·have:=c5i (ls:=(List.range m).map fun k=>[[48+k]]) (n:=1) (fun l hl=>by obtain⟨k,_,rfl⟩:=Z7.mp hl;simp)
  simp only[length_cons,Za,length_map,Wd,length_nil]at this ⊢
  omega
 ·simp only[Zj,Zv,Zy,Y5]at hz
  rcases hz with rfl|rfl|hz|rfl
  ·exact a4f hh
  ·exact pk40
  ·rcases b9q hz with⟨l,h1,h2⟩|rfl
   ·obtain⟨k,hk,rfl⟩:=Z7.mp h1
    rw[Zn.mp h2]
    exact a4f (c0t k (by have:=Xi.mp hk;omega)).2.1
   ·exact pk44
  ·exact pk41
 ·by_cases h0:m=0
  ·subst h0
   refine a8i (fun{r lv st} _=>PO.kids hh k40 (by simp) ?_)
   refine PO.no (a9n (by show Pc.ks (sg 41)≠_;rw[k41];exact a4d (by decide+kernel)) (fun e=>absurd e (by show Pc.ks (sg 41)≠_;rw[k41];exact a4d (by decide+kernel))) (fun z r' e hk=>by cases e;exact absurd hk (by decide+kernel))) ?_
   show thg (sg 41::r)=none
   rw[thg,if_neg (by rw[k41];exact a4d (by decide+kernel)),show thgZ (sg 41)=none by kernel_rfl]
   rfl
  ·have hne:((List.range m).map fun k:Nat=>((Trm.num (k:Int),[[48+k]]):Trm×List Pc))≠[]:=by
    intro e
    have:=Ys List.length e
    simp at this
    exact h0 this
   by_cases h5:m<5
   ·rw[Zi ⟨by omega,h5⟩]
    have h9:Rds tbK (b6l m) ([104]::sg 40::(jc ((List.range m).map fun k=>[[48+k]])++[sg 41])):=by
     unfold b6l
     rw[<-er,<-et,show(ofString "h":Str)=⟨([104]:List Nat).toArray⟩ by decide+kernel]
     exact b9n hh (by simp) hne (by simp;omega) hrd
    exact a5r h9 (by omega)
   ·rw[Zg (fun e=>h5 e.2)]
    have h9:Bad tbK ([104]::sg 40::(jc ((List.range m).map fun k=>[[48+k]])++[sg 41])):=by
     rw[<-er]
     exact c7s hh hne (.inr (by simp;omega)) hrd
    exact a8i h9
theorem figs_inj':∀(m n:Nat),a1i m=a1i n->m=n:=by
 intro m
 induction m using Nat.strongRecOn with
 |ind m ih=>
  intro n h
  by_cases hm:m<10
  ·by_cases hn:n<10
   ·rw[a9e hm,a9e hn]at h
    have:48+m=48+n:=by simpa using h
    omega
   ·rw[a9e hm,b0z (by omega)]at h
    have e:=Ys List.length h
    obtain⟨_,x,r,e2,_⟩:=b6d (n/10)
    rw[e2]at e
    simp at e
  ·by_cases hn:n<10
   ·rw[a9e hn,b0z (by omega)]at h
    have e:=Ys List.length h
    obtain⟨_,x,r,e2,_⟩:=b6d (m/10)
    rw[e2]at e
    simp at e
   ·rw[b0z (by omega:10<=m),b0z (by omega:10<=n)]at h
    obtain⟨e1,e2⟩:=List.append_inj' h rfl
    have e3:=ih (m/10) (by omega) _ e1
    have e4:48+m%10=48+n%10:=by simpa using e2
    omega
theorem d4d{f:List Nat}(h:NumZ f):a2s f=decide (f.length<=30):=by
 obtain⟨x,r,e,hf,hx⟩:=h
 unfold a2s
 have h1:f.all figB=true:=Xe.mpr fun y hy=>Zi (hf y hy)
 have h2:decide (1<=f.length)=true:=Zi (by rw[e];simp)
 have h3:(decide (f=[48])||decide (f.head? ≠some 48))=true:=by
  rw[e]
  by_cases z:x=48
  ·rcases hx with hx|hx
   ·rw[z,hx];decide
   ·exact absurd z hx
  ·rw[Um];exact .inr (Zi (by simpa using z))
 rw[h1,h2,h3]
 simp
def ngT(b:Bool)(f:List Nat):List Nat:=if b=true then 126::f else f
def ngV(b:Bool)(f:List Nat):Int:=if b=true then -(valD f:Int)else(valD f:Int)
theorem ng_ok{f:List Nat}(h:NumZ f)(h0:f≠[48])(b:Bool):bits (ngT b f)=[ngT b f]/\(∀y∈ngT b f,y<200)/\(if f.length<=30 then kindOf (ngT b f)=ofString "num"/\thgZ (ngT b f)=some (.num (ngV b f))else kindOf (ngT b f)=a1x):=by
 have hn:=d4d h
 obtain⟨x,r,e,hf,hx⟩:=h
 have hi:∀y∈f,inn y:=fun y hy=>b6f (hf y hy)
 have hxf:=hf x (by rw[e];exact Ze ..)
 cases b with
 |true=>
  refine⟨?_,fun y hy=>?_,?_⟩
  ·exact a9o (.inr rfl) hi
  ·rcases Zj.mp hy with e|e
   ·rw[e];decide
   ·exact a5s (hi y e)
  ·show if f.length<=30 then kindOf (126::f)=_/\thgZ (126::f)=_ else kindOf (126::f)=a1x
   by_cases c:f.length<=30
   ·have ek:kindOf (126::f)=ofString "num":=by rw[b7r,hn,if_neg (by simp[h0,c])]
    rw[if_pos c]
    refine⟨ek,?_⟩
    unfold thgZ
    rw[ek,if_pos rfl,valZ,if_pos rfl]
    rfl
   ·rw[if_neg c,b7r,hn,if_pos (by simp[c])]
 |false=>
  refine⟨?_,fun y hy=>a5s (hi y hy),?_⟩
  ·show bits f=[f]
   rw[e]
   exact a9o (.inl (b6f hxf)) (fun y hy=>hi y (by rw[e];exact Zc _ hy))
  ·show if f.length<=30 then kindOf f=_/\thgZ f=some (.num (valD f:Int))else kindOf f=a1x
   have d:=d1k x hxf
   have ek:kindOf f=if a2s f=true then ofString "num" else a1x:=by rw[e,b1s (b6f hxf),if_neg d.2.2.2.2.2.1,if_neg d.2.2.2.2.2.2]
   rw[hn]at ek
   by_cases c:f.length<=30
   ·rw[if_pos c]
    have ek:kindOf f=ofString "num":=by rw[ek,if_pos (Zi c)]
    refine⟨ek,?_⟩
    unfold thgZ
    rw[ek,if_pos rfl]
    congr 2
    rw[e,valZ,if_neg d.2.1]
   ·rw[if_neg c,ek,if_neg (by simp[c])]
theorem c7v{l:List Nat}{z:Pc}(h:z∈bits l)(hk:kindOf z=a1x):a2a l=false:=by
 unfold a2a
 rw[List.all_eq_false]
 exact⟨z,h,by simp[knB,hk]⟩
theorem c7w{f:List Nat}(h:NumZ f)(h0:f≠[48])(hl:f.length<=40)(b:Bool):Cse (ngT b f) (.num (ngV b f)) (decide (f.length<31)):=by
 obtain⟨eb,pl,k⟩:=ng_ok h h0 b
 have hlen:(ngT b f).length<=41:=by cases b<;>simp[ngT]<;>omega
 by_cases c:f.length<=30
 ·rw[if_pos c]at k
  rw[Zi (by omega)]
  exact a8x eb pl (by omega) (by simp[Trm.size]) (by simp) (fun z hz=>by rw[Zn.mp hz];exact a4f k.1) (a5r (a4g k.2 (by rw[k.1];decide+kernel)) (by simp[Trm.size]))
 ·rw[if_neg c]at k
  rw[Zg (by omega)]
  exact⟨pl,by omega,by simp[Trm.size],by rw[eb];simp,fun z hz hm=>by rw[eb,Zn]at hz;rw[hz,k]at hm;exact absurd hm (by decide+kernel),.inl ⟨c7v (z:=ngT b f) (by rw[eb];simp) k,rfl⟩⟩
theorem c0u:kindOf [43]=ofString "mark"/\lkT tbK ⟨([43]:List Nat).toArray⟩=some (10,a9t):=by decide+kernel
theorem c5j{f:List Nat}(h:NumZ f)(h0:f≠[48])(hl:f.length<=40)(b:Bool):Cse ([49,32,43,32]++ngT b f) (.app (ofString "+") [.num 1,.num (ngV b f)]) (decide (f.length<31)):=by
 obtain⟨eb,pl,k⟩:=ng_ok h h0 b
 have hlen:(ngT b f).length<=41:=by cases b<;>simp[ngT]<;>omega
 have e1:[49,32,43,32]++ngT b f=[49,32,43]++32::ngT b f:=rfl
 have eb2:bits ([49,32,43,32]++ngT b f)=[[49]]++[43]::[ngT b f]:=by rw[e1,a3a no32,a4m,eb,show bits [49,32,43]=[[49],[43]] by decide+kernel];rfl
 have pl2:a1a ([49,32,43,32]++ngT b f):=a1p (by unfold a1a;decide) pl
 have p43:PK [43]:=⟨by decide+kernel,fun _=>by rw[c0u.2];rfl⟩
 have p49:PK [49]:=a4f (k:=ofString "num") (by decide+kernel)
 by_cases c:f.length<=30
 ·rw[if_pos c]at k
  rw[Zi (by omega)]
  refine a8x eb2 pl2 (by simp;omega) (by simp[Trm.size,Trm.sizeL]) (by simp) (fun z hz=>?_) ?_
  ·simp only[Zj,Zv,Zy,Y5]at hz
   rcases hz with rfl|rfl|rfl
   ·exact p49
   ·exact p43
   ·exact a4f k.1
  ·rw[show(ofString "+":Str)=⟨([43]:List Nat).toArray⟩ by decide+kernel]
   exact c7t c0u.1 c0u.2 rd_1 (a4g k.2 (by rw[k.1];decide+kernel)) (by simp[Trm.size])
 ·rw[if_neg c]at k
  rw[Zg (by omega)]
  refine⟨pl2,by simp;omega,by simp[Trm.size,Trm.sizeL],by rw[eb2];simp,fun z hz hm=>?_,.inl ⟨c7v (z:=ngT b f) (by rw[eb2];simp) k,rfl⟩⟩
  rw[eb2]at hz
  simp only[Zj,Zv,Zy,Y5]at hz
  rcases hz with rfl|rfl|rfl
  ·exact p49.2 hm
  ·exact p43.2 hm
  ·rw[k]at hm;exact absurd hm (by decide+kernel)
structure Th(l:List Nat)(t:Trm):Prop where
 rd:Rds tbK t (bits l)
 nm:∀y∈l,¬mkc y
 pl:a1a l
 len:l.length<=8
 sz:t.size<=3
 cnt:(bits l).length<=6
 gd:∀z∈bits l,PK z
 hd:∀r,hK (bits l++r)≠sgK "]"
theorem b9r{z:Pc}{t:Trm}(eb:bits z=[z])(hk:kindOf z≠ofString "sign")(h1:kindOf z≠a1x)(h2:kindOf z≠ofString "mark")(ht:thgZ z=some t)(hn:∀y∈z,¬mkc y)(hp:a1a z)(hl:z.length<=8)(hs:t.size<=3):Th z t:=
 ⟨by rw[eb];exact a4g ht hk,hn,hp,hl,hs,by rw[eb];simp,fun y hy=>by rw[eb,Zn]at hy;rw[hy];exact⟨h1,fun e=>absurd e h2⟩,fun r=>by rw[eb];exact a2w rfl _ hk⟩
theorem th_X:Th [88] (.any (ofString "X")):=b9r (by decide+kernel) (by decide+kernel) (by decide+kernel) (by decide+kernel) (by kernel_rfl) (by decide+kernel) (by unfold a1a;decide) (by decide) (by decide+kernel)
theorem th_7:Th [55] (.num 7):=b9r (by decide+kernel) (by decide+kernel) (by decide+kernel) (by decide+kernel) (by kernel_rfl) (by decide+kernel) (by unfold a1a;decide) (by decide) (by decide+kernel)
theorem th_b:Th [98] (.app (ofString "b") []):=b9r (by decide+kernel) (by decide+kernel) (by decide+kernel) (by decide+kernel) (by kernel_rfl) (by decide+kernel) (by unfold a1a;decide) (by decide) (by decide+kernel)
theorem th_neg{k:Nat}(h0:0<k)(hk:k<100):Th (126::a1i k) (.num (-(k:Int))):=by
 obtain⟨f1,x,r,e,hx⟩:=b6d k
 have hl:=b7h (n:=k) (k:=2) (by decide) (by omega)
 have hf:∀y∈a1i k,y∈figS.cps.toList:=fun y hy=>by
  have:=f1 y hy
  have a:∀n,n<10->48+n∈figS.cps.toList:=by decide+kernel
  have:=a (y-48) (by omega)
  rwa[show 48+(y-48)=y by omega]at this
 have hx:=hx (by omega)
 have h48:a1i k≠[48]:=fun z=>hx (by rw[e]at z;exact(Vb z).1)
 have nz:NumZ (a1i k):=⟨x,r,e,hf,.inr hx⟩
 obtain⟨eb,pl,kk⟩:=ng_ok nz h48 true
 rw[if_pos (by omega)]at kk
 have ev:valD (a1i k)=k:=figs_inj' _ _ (b4j _ _ rfl nz).1
 have e2:ngV true (a1i k)= -(k:Int):=by show -(valD (a1i k):Int)=_;rw[ev]
 rw[e2]at kk
 refine b9r eb (by rw[show(126::a1i k)=ngT true (a1i k)from rfl,kk.1];decide+kernel) (by rw[show(126::a1i k)=ngT true (a1i k)from rfl,kk.1];decide+kernel) (by rw[show(126::a1i k)=ngT true (a1i k)from rfl,kk.1];decide+kernel) kk.2 (fun y hy=>?_) pl (by simp;omega) (by simp[Trm.size])
 rcases Zj.mp hy with e|e
 ·rw[e];exact b8z.2.1
 ·exact(b6g (b6f (hf y e))).2.2.2.2
theorem th_a1:Th [97,40,49,41] (.app (ofString "a") [.num 1]):=by
 have eb:bits [97,40,49,41]=[97]::sg 40::([[49]]++[sg 41]):=by decide+kernel
 have ha:kindOf [97]=ofString "word":=by decide+kernel
 refine⟨?_,by decide+kernel,by unfold a1a;decide,by decide,by simp[Trm.size,Trm.sizeL],by rw[eb];simp,fun z hz=>?_,fun r=>by rw[eb];exact a2w ha _⟩
 ·rw[eb,show(ofString "a":Str)=⟨([97]:List Nat).toArray⟩ by decide+kernel]
  exact rd_f ha (by simp) rd_1
 ·rw[eb]at hz
  simp only[Zj,Zv,Zy,Y5]at hz
  rcases hz with rfl|rfl|rfl|rfl
  ·exact a4f ha
  ·exact pk40
  ·exact a4f (k:=ofString "num") (by decide+kernel)
  ·exact pk41
theorem th_aX:Th [97,40,88,44,32,50,41] (.app (ofString "a") [.any (ofString "X"),.num 2]):=by
 have eb:bits [97,40,88,44,32,50,41]=[97]::sg 40::(jc [[[88]],[[50]]]++[sg 41]):=by decide+kernel
 have ha:kindOf [97]=ofString "word":=by decide+kernel
 refine⟨?_,by decide+kernel,by unfold a1a;decide,by decide,by simp[Trm.size,Trm.sizeL],by rw[eb];simp[jc],fun z hz=>?_,fun r=>by rw[eb];exact a2w ha _⟩
 ·rw[eb,show(ofString "a":Str)=⟨([97]:List Nat).toArray⟩ by decide+kernel]
  refine b9n ha (by simp) (ks:=[(.any (ofString "X"),[[88]]),(.num 2,[[50]])]) (by simp) (by simp) (fun q hq=>?_)
  simp only[Zj,Zy,Y5]at hq
  rcases hq with rfl|rfl
  ·exact rd_X
  ·exact rd_2
 ·rw[eb]at hz
  simp only[jc,Zj,Zv,Zy,Y5,Z4,Yb]at hz
  rcases hz with rfl|rfl|rfl|rfl|rfl|rfl
  ·exact a4f ha
  ·exact pk40
  ·exact a4f (k:=ofString "name") (by decide+kernel)
  ·exact pk44
  ·exact a4f (k:=ofString "num") (by decide+kernel)
  ·exact pk41
theorem b9s{m:Str}:∀(ts:List Trm)(a:Trm),(∀t∈ts,t.size<=3)->(a7d m a ts).size<=a.size+4*ts.length
 | [],a,_=>by simp[a7d]
 |t::ts,a,h=>by
  have h1:=h t (Ze ..)
  have h2:=b9s (m:=m) ts (.app m [a,t]) (fun x hx=>h x (Zc _ hx))
  have e:(Trm.app m [a,t]).size=a.size+t.size+1:=by simp[Trm.size,Trm.sizeL];omega
  have:a7d m a (t::ts)=a7d m (.app m [a,t]) ts:=rfl
  rw[this,length_cons]
  omega
theorem b4t{m:Str}:∀(ts:List Trm)(a:Trm),a.size<=3->(∀t∈ts,t.size<=3)->(a6k m a ts).size<=3+4*ts.length
 | [],a,ha,_=>by simp[a6k];exact ha
 |t::ts,a,ha,h=>by
  have h2:=b4t (m:=m) ts t (h t (Ze ..)) (fun x hx=>h x (Zc _ hx))
  have e:(a6k m a (t::ts)).size=a.size+(a6k m t ts).size+1:=by simp[a6k,Trm.size,Trm.sizeL];omega
  rw[e,length_cons]
  omega
abbrev TT:=List Nat×Trm
theorem c5k{sp:List Nat}{z:Pc}(hsp:∀l s,(∀y∈l,¬mkc y)->bits (l++(sp++s))=bits l++z::bits s):∀(c:TT)(cs:List TT),(∀q∈c::cs,Th q.1 q.2)->bits (a2j sp ((c::cs).map (·.1)))=bits c.1++mrow z (cs.map fun q=>bits q.1)
 |c,[],_=>by simp[a2j,mrow]
 |c,d::cs,h=>by
  have:=c5k hsp d cs (fun q hq=>h q (Zc _ hq))
  have e:a2j sp ((c::d::cs).map (·.1))=c.1++(sp++a2j sp ((d::cs).map (·.1))):=rfl
  rw[e,hsp _ _ (h c (Ze ..)).nm,this]
  rfl
theorem c1r{sp:List Nat}(hsp:a1a sp):∀(cs:List TT),(∀q∈cs,Th q.1 q.2)->a1a (a2j sp (cs.map (·.1)))
 | [],_=>fun _ h=>by cases h
 | [c],h=>(h c (Ze ..)).pl
 |c::d::cs,h=>by
  have:=c1r hsp (d::cs) (fun q hq=>h q (Zc _ hq))
  exact a1p (h c (Ze ..)).pl (a1p hsp this)
theorem row_len{sp:List Nat}(hs:sp.length<=3)(cs:List TT)(h:∀q∈cs,Th q.1 q.2):(a2j sp (cs.map (·.1))).length<=11*cs.length:=by
 have a:=c1p sp (cs.map (·.1))
 have b:((cs.map (·.1)).map List.length).sum<=8*cs.length:=by
  clear a
  induction cs with
  |nil=>simp
  |cons c cs ih=>
   have:=ih (fun q hq=>h q (Zc _ hq))
   have:=(h c (Ze ..)).len
   simp only[Zu,Wk,length_cons]
   omega
 rw[length_map]at a
 have:cs.length*sp.length<=cs.length*3:=T4 _ hs
 omega
theorem c5l{z x:Pc}:∀{ls:List (List Pc)},x∈mrow z ls->x=z\/∃l∈ls,x∈l
 | [],h=>by cases h
 |p::r,h=>by
  rcases Zj.mp h with h|h
  ·exact .inl h
  ·rcases Zv.mp h with h|h
   ·exact .inr ⟨p,Ze ..,h⟩
   ·rcases c5l h with h|⟨l,h1,h2⟩
    ·exact .inl h
    ·exact .inr ⟨l,Zc _ h1,h2⟩
theorem c5m{z:Pc}:∀{ls:List (List Pc)},(∀l∈ls,l.length<=6)->(mrow z ls).length<=7*ls.length
 | [],_=>by simp[mrow]
 |p::r,h=>by
  have:=h p (Ze ..)
  have:=c5m (z:=z) (ls:=r) (fun l hl=>h l (Zc _ hl))
  simp only[mrow,length_cons,Za]
  omega
theorem c7x{sp:List Nat}{z:Pc}{t:Trm}(hsp:∀l s,(∀y∈l,¬mkc y)->bits (l++(sp++s))=bits l++z::bits s)(h3:sp.length<=3)(hpl:a1a sp)(hz:PK z){c:TT}{cs:List TT}(h:∀q∈c::cs,Th q.1 q.2)(hl:cs.length<=23)(sz:t.size<=130)(rd:a7c tbK (bits c.1++mrow z ((cs.map fun q=>(q.2,bits q.1)).map (·.2))) t true):Cse (a2j sp ((c::cs).map (·.1))) t true:=by
 have em:(cs.map fun q=>(q.2,bits q.1)).map (·.2)=cs.map fun q=>bits q.1:=by rw[Yh];rfl
 rw[em]at rd
 have hlen:=row_len h3 (c::cs) h
 rw[length_cons]at hlen
 refine a8x (c5k hsp c cs h) (c1r hpl _ h) (by omega) sz ?_ (fun x hx=>?_) rd
 ·have h1:=(h c (Ze ..)).cnt
  have h2:=c5m (z:=z) (ls:=cs.map fun q=>bits q.1) (fun l hl=>by obtain⟨q,hq,rfl⟩:=Z7.mp hl;exact(h q (Zc _ hq)).cnt)
  rw[length_map]at h2
  rw[Za]
  omega
 ·rcases Zv.mp hx with hx|hx
  ·exact(h c (Ze ..)).gd x hx
  ·rcases c5l hx with rfl|⟨l,h1,h2⟩
   ·exact hz
   ·obtain⟨q,hq,rfl⟩:=Z7.mp h1
    exact(h q (Zc _ hq)).gd x h2
theorem b1y:(kindOf [45]=ofString "mark"/\lkT tbK ⟨([45]:List Nat).toArray⟩=some (10,a9t))/\bf (10,a9t) (10,a9t)=some true/\(ofString "-":Str)=⟨([45]:List Nat).toArray⟩:=by decide+kernel
theorem b3w:(kindOf [58,58]=ofString "mark"/\lkT tbK ⟨([58,58]:List Nat).toArray⟩=some (12,ofString "right"))/\bf (12,ofString "right") (12,ofString "right")=some false/\(ofString "::":Str)=⟨([58,58]:List Nat).toArray⟩:=by decide+kernel
theorem c5n{c:TT}{cs:List TT}(h:∀q∈c::cs,Th q.1 q.2):(∀q∈cs.map (fun q=>(q.2,bits q.1)),Rds tbK q.1 q.2)/\(∀t∈cs.map (·.2),t.size<=3)/\((cs.map fun q=>(q.2,bits q.1)).map (·.1))=cs.map (·.2):=by
 refine⟨fun q hq=>?_,fun t ht=>?_,by rw[Yh];rfl⟩
 ·obtain⟨x,hx,rfl⟩:=Z7.mp hq
  exact(h x (Zc _ hx)).rd
 ·obtain⟨x,hx,rfl⟩:=Z7.mp ht
  exact(h x (Zc _ hx)).sz
theorem d4e{c:TT}{cs:List TT}(h:∀q∈c::cs,Th q.1 q.2)(hl:cs.length<=23):Cse (a2j [32,45,32] ((c::cs).map (·.1))) (a7d (ofString "-") c.2 (cs.map (·.2))) true:=by
 obtain⟨h1,h2,h3⟩:=c5n h
 have hc:=h c (Ze ..)
 have sz:=b9s (m:=ofString "-") (cs.map (·.2)) c.2 h2
 rw[length_map]at sz
 have sz:(a7d (ofString "-") c.2 (cs.map (·.2))).size<=130:=by have:=hc.sz;omega
 refine c7x (z:=[45]) (fun l s hm=>?_) (by decide) (by unfold a1a;decide) ⟨by decide+kernel,fun _=>by rw[b1y.1.2];rfl⟩ h hl sz ?_
 ·show bits (l++32::([45]++32::s))=_
  rw[a3a no32,a4m,a3a no32,a4m,show bits [45]=[[45]] by decide+kernel]
  rfl
 ·rw[b1y.2.2]at sz ⊢
  have:=d3z (tb:=tbK) (z:=[45]) b1y.1.1 b1y.1.2 b1y.2.1 (a:=(c.2,bits c.1)) (ps:=cs.map fun q=>(q.2,bits q.1)) hc.rd h1 (by rw[h3];exact Zz sz (by decide))
  rw[h3]at this
  exact this
theorem d2h{c:TT}{cs:List TT}(h:∀q∈c::cs,Th q.1 q.2)(hl:cs.length<=23):Cse (a2j [58,58,32] ((c::cs).map (·.1))) (a6k (ofString "::") c.2 (cs.map (·.2))) true:=by
 obtain⟨h1,h2,h3⟩:=c5n h
 have hc:=h c (Ze ..)
 have sz:=b4t (m:=ofString "::") (cs.map (·.2)) c.2 hc.sz h2
 rw[length_map]at sz
 have sz:(a6k (ofString "::") c.2 (cs.map (·.2))).size<=130:=by omega
 refine c7x (z:=[58,58]) (fun l s hm=>?_) (by decide) (by unfold a1a;decide) ⟨by decide+kernel,fun _=>by rw[b3w.1.2];rfl⟩ h hl sz ?_
 ·show bits (l++58::(58::32::s))=_
  rw[bits_mk (by decide+kernel) hm,show(58::58::32::s:List Nat)=[58,58]++32::s from rfl,a3a no32,a4m,show bits [58,58]=[[58,58]] by decide+kernel]
  rfl
 ·rw[b3w.2.2]at sz ⊢
  have:=d2e (tb:=tbK) (z:=[58,58]) b3w.1.1 b3w.1.2 b3w.2.1 (a:=(c.2,bits c.1)) (ps:=cs.map fun q=>(q.2,bits q.1)) hc.rd h1 (by rw[h3];exact Zz sz (by decide))
  rw[h3]at this
  exact this
def rf(m:Str):List Trm->Trm
 | []=>a3f
 |a::r=>a6k m a r
theorem c5o:∀(ts:List Trm)(c:Trm),mkL ts c=rf a8n (ts++[c])
 | [],c=>rfl
 | [t],c=>rfl
 |t::u::ts,c=>by
  have:=c5o (u::ts) c
  rw[mkL,this]
  rfl
theorem d4f{p c:TT}{ps:List TT}(h:∀q∈p::ps,Th q.1 q.2)(hc:Th c.1 c.2)(hl:ps.length<=22):Cse ([91]++(jt ((p::ps).map (·.1))++([32,124,32]++(c.1++[93])))) (mkL ((p::ps).map (·.2)) c.2) true:=by
 have e1:[91]++(jt ((p::ps).map (·.1))++([32,124,32]++(c.1++[93])))=91::(jt ((p::ps).map (·.1))++32::124::32::(c.1++93::[])):=rfl
 have em:((p::ps).map (·.1)).map bits=bits p.1::ps.map fun q=>bits q.1:=by rw[Yh];rfl
 have eb:bits ([91]++(jt ((p::ps).map (·.1))++([32,124,32]++(c.1++[93]))))=sg 91::(jc (bits p.1::ps.map fun q=>bits q.1)++sg 124::(bits c.1++[sg 93])):=by
  rw[e1,a6t a4n.2.2.1,a3a no32,a4m,a6t a4n.2.1.2,a4m,a3a no93,a8j,em,show bits [93]=[[93]] by decide+kernel]
 obtain⟨h1,h2,h3⟩:=c5n h
 have hp:=h p (Ze ..)
 have e4:(ps.map fun q=>(q.2,bits q.1)).map (·.2)=ps.map fun q=>bits q.1:=by rw[Yh];rfl
 have hr:Rds tbK (mkL ((p::ps).map (·.2)) c.2) (sg 91::(jc (bits p.1::ps.map fun q=>bits q.1)++sg 124::(bits c.1++[sg 93]))):=by
  rw[<-e4,Zu,<-h3]
  exact rd_list (p:=(p.2,bits p.1)) (c:=(c.2,bits c.1)) hp.rd hp.hd h1 hc.rd
 have sz:(mkL ((p::ps).map (·.2)) c.2).size<=130:=by
  rw[c5o]
  have:=b4t (m:=a8n) (ps.map (·.2)++[c.2]) p.2 hp.sz (fun t ht=>by
   rcases Zv.mp ht with ht|ht
   ·exact h2 t ht
   ·rw[Zn.mp ht];exact hc.sz)
  rw[Za,length_map,Z9]at this
  have e:rf a8n ((p::ps).map (·.2)++[c.2])=a6k a8n p.2 (ps.map (·.2)++[c.2]):=rfl
  rw[e]
  omega
 refine a8x eb ?_ ?_ sz ?_ (fun z hz=>?_) (a5r hr (by omega))
 ·refine a1p (by unfold a1a;decide) (a1p (b4s fun l hl=>?_) (a1p (by unfold a1a;decide) (a1p hc.pl (by unfold a1a;decide))))
  obtain⟨q,hq,rfl⟩:=Z7.mp hl
  exact(h q hq).pl
 ·have a:=b3v (ls:=(p::ps).map (·.1)) (n:=8) (fun l hl=>by obtain⟨q,hq,rfl⟩:=Z7.mp hl;exact(h q hq).len)
  have b:=hc.len
  simp only[Za,length_cons,length_map,length_nil]at a ⊢
  omega
 ·have a:=c5i (ls:=bits p.1::ps.map fun q=>bits q.1) (n:=6) (fun l hl=>by
   rcases Zj.mp hl with e|e
   ·rw[e];exact hp.cnt
   ·obtain⟨q,hq,rfl⟩:=Z7.mp e;exact(h q (Zc _ hq)).cnt)
  have b:=hc.cnt
  simp only[Za,length_cons,length_map,length_nil]at a ⊢
  omega
 ·simp only[Zj,Zv,Zy,Y5]at hz
  rcases hz with rfl|hz|rfl|hz|rfl
  ·exact pk91
  ·rcases b9q hz with⟨l,h5,h6⟩|rfl
   ·rcases Zj.mp h5 with e|e
    ·rw[e]at h6;exact hp.gd z h6
    ·obtain⟨q,hq,rfl⟩:=Z7.mp e;exact(h q (Zc _ hq)).gd z h6
   ·exact pk44
  ·exact pk124
  ·exact hc.gd z hz
  ·exact pk93
structure Dp(n:Nat)(l:List Nat)(t:Trm):Prop where
 rd:Rds tbK t (bits l)
 pl:a1a l
 len:l.length<=3*n+1
 cnt:(bits l).length<=3*n+1
 gd:∀z∈bits l,PK z
 hd:∀r,hK (bits l++r)≠sgK "]"
theorem dp_a:Dp 0 [97] (.app (ofString "a") []):=by
 have eb:bits [97]=[[97]]:=by decide+kernel
 have ha:kindOf [97]=ofString "word":=by decide+kernel
 exact⟨by rw[eb];exact a4g (by kernel_rfl) (by rw[ha];decide+kernel),by unfold a1a;decide,by decide,by rw[eb];decide,fun z hz=>by rw[eb,Zn]at hz;rw[hz];exact a4f ha,fun r=>by rw[eb];exact a2w ha _⟩
section
variable{n:Nat}{l:List Nat}{t:Trm}
theorem d4g(h:Dp n l t):Dp (n+1) ([40]++(l++[41])) t:=by
 have eb:bits ([40]++(l++[41]))=sg 40::(bits l++[sg 41]):=by
  rw[show[40]++(l++[41])=40::(l++41::[])from rfl,a6t a4n.1.1,a3a no41,show bits [41]=[[41]] by decide+kernel]
 have h1:=h.len
 have h2:=h.cnt
 refine⟨by rw[eb];exact c2b h.rd,a1p (by unfold a1a;decide) (a1p h.pl (by unfold a1a;decide)),by simp;omega,by rw[eb];simp;omega,fun z hz=>?_,fun r=>?_⟩
 ·rw[eb]at hz
  simp only[Zj,Zv,Zy,Y5]at hz
  rcases hz with rfl|hz|rfl
  ·exact pk40
  ·exact h.gd z hz
  ·exact pk41
 ·rw[eb];show Pc.ks (sg 40)≠_;rw[k40];exact a4d (by decide+kernel)
theorem dp_f(h:Dp n l t):Dp (n+1) ([102,40]++(l++[41])) (.app (ofString "f") [t]):=by
 have hf:kindOf [102]=ofString "word":=by decide+kernel
 have eb:bits ([102,40]++(l++[41]))=[102]::sg 40::(bits l++[sg 41]):=by
  rw[show[102,40]++(l++[41])=[102]++40::(l++41::[])from rfl,a3a no40,a6t a4n.1.1,a3a no41,show bits [41]=[[41]] by decide+kernel,show bits [102]=[[102]] by decide+kernel]
  rfl
 have h1:=h.len
 have h2:=h.cnt
 refine⟨?_,a1p (by unfold a1a;decide) (a1p h.pl (by unfold a1a;decide)),by simp;omega,by rw[eb];simp;omega,fun z hz=>?_,fun r=>by rw[eb];exact a2w hf _⟩
 ·rw[eb,show(ofString "f":Str)=⟨([102]:List Nat).toArray⟩ by decide+kernel]
  exact rd_f hf (by simp) h.rd
 ·rw[eb]at hz
  simp only[Zj,Zv,Zy,Y5]at hz
  rcases hz with rfl|rfl|hz|rfl
  ·exact a4f hf
  ·exact pk40
  ·exact h.gd z hz
  ·exact pk41
theorem dp_list(h:Dp n l t):Dp (n+1) ([91]++(l++[93])) (.app a8n [t,a3f]):=by
 have eb:bits ([91]++(l++[93]))=sg 91::(bits l++[sg 93]):=by
  rw[show[91]++(l++[93])=91::(l++93::[])from rfl,a6t a4n.2.2.1,a3a no93,show bits [93]=[[93]] by decide+kernel]
 have h1:=h.len
 have h2:=h.cnt
 refine⟨by rw[eb];exact c5d h.rd h.hd,a1p (by unfold a1a;decide) (a1p h.pl (by unfold a1a;decide)),by simp;omega,by rw[eb];simp;omega,fun z hz=>?_,fun r=>?_⟩
 ·rw[eb]at hz
  simp only[Zj,Zv,Zy,Y5]at hz
  rcases hz with rfl|hz|rfl
  ·exact pk91
  ·exact h.gd z hz
  ·exact pk93
 ·rw[eb];show Pc.ks (sg 91)≠_;rw[k91'];exact a4d (by decide+kernel)
theorem Dp.cse(h:Dp n l t)(hn:n<=60)(sz:t.size<=130):Cse l t true:=a8x rfl h.pl (by have:=h.len;omega) sz (by have:=h.cnt;omega) h.gd (a5r h.rd (by omega))
end
def rep(n:Nat)(p:List Nat):List Nat:=(List.replicate n p).flatten
theorem d4h(n:Nat)(p s l:List Nat):rep (n+1) p++(l++rep (n+1) s)=p++((rep n p++(l++rep n s))++s):=by
 unfold rep
 rw[Yq,Xu,Tq,List.flatten_append]
 simp
def dpT(F:Trm->Trm):Nat->Trm
 |0=>.app (ofString "a") []
 |n+1=>F (dpT F n)
theorem b9t{p s:List Nat}{F:Trm->Trm}(h:∀{n l t},Dp n l t->Dp (n+1) (p++(l++s)) (F t)):∀n,Dp n (rep n p++([97]++rep n s)) (dpT F n)
 |0=>dp_a
 |n+1=>by rw[d4h];exact h (b9t h n)
theorem b7w{F:Trm->Trm}{k:Nat}(h:∀t,(F t).size<=t.size+k):∀n,(dpT F n).size<=1+k*n
 |0=>by simp[dpT,Trm.size,Trm.sizeL]
 |n+1=>by
  have:=b7w h n
  have:=h (dpT F n)
  rw[dpT,Nat.mul_succ]
  omega
theorem cse_d0{n:Nat}(hn:n<=60):Cse (rep n [40]++([97]++rep n [41])) (.app (ofString "a") []) true:=by
 have e:∀n,dpT (fun t=>t) n=.app (ofString "a") []:=fun n=>by induction n with|zero=>rfl|succ n ih=>rw[dpT,ih]
 have:=(b9t (F:=fun t=>t) d4g n).cse hn (by rw[e];simp[Trm.size,Trm.sizeL])
 rwa[e]at this
theorem cse_d1{n:Nat}(hn:n<=60):Cse (rep n [102,40]++([97]++rep n [41])) (dpT (fun t=>.app (ofString "f") [t]) n) true:=
 (b9t (F:=fun t=>.app (ofString "f") [t]) dp_f n).cse hn (by have:=b7w (F:=fun t=>.app (ofString "f") [t]) (k:=1) (fun t=>by simp[Trm.size,Trm.sizeL];omega) n;omega)
theorem cse_d2{n:Nat}(hn:n<=60):Cse (rep n [91]++([97]++rep n [93])) (dpT (fun t=>.app a8n [t,a3f]) n) true:=
 (b9t (F:=fun t=>.app a8n [t,a3f]) dp_list n).cse hn (by have:=b7w (F:=fun t=>.app a8n [t,a3f]) (k:=2) (fun t=>by simp[Trm.size,Trm.sizeL];omega) n;omega)
theorem cse_b:Cse [98] (.app (ofString "b") []) true:=c5g (c:=98) (r:=[]) (by decide+kernel) (fun _ h=>by cases h) (by simp)
theorem c2z:kindOf [61]=ofString "mark"/\lkT tbK ⟨([61]:List Nat).toArray⟩=some (15,a1x)/\(ofString "=":Str)=⟨([61]:List Nat).toArray⟩:=by decide+kernel
theorem cse_c:Cse [99,32,61,32,88] (.app (ofString "=") [.app (ofString "c") [],.any (ofString "X")]) true:=by
 have hc:Rds tbK (.app (ofString "c") []) [[99]]:=a4g (by kernel_rfl) (by decide+kernel)
 refine a8x (bs:=[[99]]++[61]::[[88]]) (by decide+kernel) (by unfold a1a;decide) (by decide) (by simp[Trm.size,Trm.sizeL]) (by decide) (fun z hz=>?_) ?_
 ·simp only[Zj,Zv,Zy,Y5]at hz
  rcases hz with rfl|rfl|rfl
  ·exact a4f (k:=ofString "word") (by decide+kernel)
  ·exact⟨by decide+kernel,fun _=>by rw[c2z.2.1];rfl⟩
  ·exact a4f (k:=ofString "name") (by decide+kernel)
 ·rw[c2z.2.2]
  exact c7t c2z.1 c2z.2.1 hc rd_X (by simp[Trm.size,Trm.sizeL])
structure CsL(cs:List (List Nat×Trm×Bool)):Prop where
 ok:∀c∈cs,Cse c.1 c.2.1 c.2.2
 le:cs.length<=3
theorem c7y{cs:List (List Nat×Trm×Bool)}(h:CsL cs)(hg:(cs.all fun c=>a2a c.1)=true):∀c∈cs,a7c tbK (bits c.1) c.2.1 c.2.2:=fun c hc=>by
 rcases(h.ok c hc).rd with⟨e,_⟩|⟨_,e⟩
 ·rw[Xe]at hg
  rw[hg c hc]at e
  cases e
 ·exact e
theorem d2i{cs:List (List Nat×Trm×Bool)}(h:CsL cs)(hg:(cs.all fun c=>a2a c.1)=false):(cs.all fun c=>okB c.2.1 c.2.2)=false:=by
 rw[List.all_eq_false]at hg ⊢
 obtain⟨c,hc,e⟩:=hg
 refine⟨c,hc,?_⟩
 rcases(h.ok c hc).rd with⟨_,e2⟩|⟨e2,_⟩
 ·simp[okB,e2]
 ·exact absurd e2 e
abbrev a6c:Sp:=fun vs H Q _=>match vs with| [.int c,.int m]=>0<=m/\m<=1000/\∀(p:Addr)(ns:List Int)(H':Hp),ns.length=m.toNat->Same H H'->H' p=some (.lst (ns.map V.int))->Q (.ref p) H'|_=>False
abbrev b2l(K:W.Frag):Sp:=fun vs H Q _=>match vs with| [v,u]=>∃t:Trm,Den K H v t.data/\Den K H u t.data/\t.size<=1000/\∀H',Same H H'->Q (.bl true) H'|_=>False
abbrev prD(t:Trm):PyData:=.tuple [t.data,t.data]
theorem den_pr{K:W.Frag}{H:Hp}{v:V}{t:Trm}(h:Den K H v (prD t)):∃a v1 v2,v=.ref a/\SqT K H a [v1,v2]/\Den K H v1 t.data/\Den K H v2 t.data:=by
 cases h with
 |tup hs hl=>
  cases hl with
  |cons h1 hl=>
   cases hl with
   |cons h2 hl=>
    cases hl
    exact⟨_,_,_,rfl,hs,h1,h2⟩
theorem d2j{K:W.Frag}{H:Hp}{a:Addr}{v1 v2:V}{t:Trm}(h:SqT K H a [v1,v2])(h1:Den K H v1 t.data)(h2:Den K H v2 t.data):Den K H (.ref a) (prD t):=.tup h (.cons h1 (.cons h2 .nil))
theorem d4:decide (numS=numS)=true:=by decide+kernel
theorem d5:decide (anyS=numS)=false:=by decide+kernel
theorem d6:decide (appS=numS)=false:=by decide+kernel
abbrev a5c(K:W.Frag)(n:Nat):Sp:=fun vs H Q _=>match vs with| [v]=>∃t:Trm,Den K H v t.data/\t.size<=n/\n<=1000/\∀H',Same H H'->Q (.int t.size) H'|_=>False
abbrev a5i(B:Addr):Sp:=fun vs H Q _=>match vs with| [.ref ea]=>IsX H ea B [(rowS,.int 0)]/\∀H',Same H H'->Q (.bl true) H'|_=>False
abbrev b2m:Sp:=fun vs H Q _=>match vs with| [.int c,.str h,.int m]=>∃x:Nat,h=⟨#[x]⟩/\1<=m/\m<=15/\∀(r:List Nat) H',(r.length:Int)+1=m->(∀y∈r,inn y)->Same H H'->Q (.str ⟨(x::r).toArray⟩) H'|_=>False
abbrev onC(K:W.Frag)(H:Hp)(Q:VK):Prop:=∀(a:Addr)(l:List Nat)(v:V)(t:Trm)(g:Bool) H',Same H H'->SqT K H' a [.str ⟨l.toArray⟩,v,.bl g]->Den K H' v t.data->Cse l t g->Q (.ref a) H'
abbrev b0t(K:W.Frag):Sp:=fun vs H Q _=>match vs with| [.int _,.int _]=>onC K H Q|_=>False
abbrev a7e(K:W.Frag):Sp:=fun vs H Q _=>match vs with| [.int _]=>onC K H Q|_=>False
abbrev a7q(K:W.Frag):Sp:=fun vs H Q _=>match vs with| [.int _,.int _]=>onC K H Q|_=>False
abbrev b4u(K:W.Frag):Sp:=fun vs H Q _=>match vs with| [.int _]=>onC K H Q|_=>False
abbrev b2n(K:W.Frag):Sp:=fun vs H Q _=>match vs with| [.int _]=>onC K H Q|_=>False
abbrev refS:Str:=ofString "refused"
def RefL(K:W.Frag)(H:Hp)(p:Addr):Prop:=∃a,H p=some (.lst [.ref a])/\SqT K H a [.str refS]
abbrev gotL(K:W.Frag)(H:Hp)(Q:VK)(ys:List Trm):Prop:=∀(p:Addr)(us:List V) H',Same H H'->H' p=some (.lst us)->DenL K H' us (Trm.dataL ys)->Q (.ref p) H'
abbrev refL(K:W.Frag)(H:Hp)(Q:VK):Prop:=∀(p:Addr) H',Same H H'->RefL K H' p->Q (.ref p) H'
abbrev b2o(K:W.Frag)(B:Addr):Sp:=fun vs H Q _=>match vs with| [.str s,.ref pd,.int w]=>∃(l:List Nat)(tb:Tb),s=⟨l.toArray⟩/\TxTb K H l pd tb/\((w=0/\a7o (RdT tb) l (fun y=>gotL K H Q [y]) (refL K H Q))\/(w=1/\∃n≤60,a7o (RdG tb n) l (fun ys=>gotL K H Q ys) (refL K H Q))\/(w=2/\a7o (RdR tb) l (fun y=>y.2.length<=100/\gotL K H Q (y.1::y.2)) (refL K H Q)))|_=>False
abbrev b0u(K:W.Frag):Sp:=fun vs H Q _=>match vs with| [.ref p,.ref d,.bl g]=>((g=true/\∃(us vs:List V)(ts:List Trm),H p=some (.lst us)/\H d=some (.lst vs)/\DenL K H us (Trm.dataL ts)/\DenL K H vs (Trm.dataL ts)/\(∀t∈ts,t.size<=1000)/\ts.length<=100)\/(g=false/\RefL K H p))/\∀H',Same H H'->Q (.bl true) H'|_=>False
theorem b1z{K:W.Frag}{s:Str}{H:Hp}:tyV K "str" (.str s) H:=rfl
theorem c9c{K:W.Frag}{H:Hp}{Q:VK}{v:V}(h:∃t:Trm,Den K H v t.data/\t.size<=0/\0<=1000/\∀H',Same H H'->Q (.int t.size) H'):False:=by
 obtain⟨t,_,h,_⟩:=h
 have:=t.size_pos
 omega
section
variable{P:Program}{w:World}{K:W.Frag}{mg:Str->Option Value}{base:Heap}{t:Ad}
theorem c5p(T:Txt K mg t)  :FnOk P w K mg base CX0 1 t.a_b0 t.d_b0 ["_law_script","_law_k"] (a8l K):=by
 refine T.F_b0.ok c4k (fun vs H Q E h=>?_) (fun cdv A outer s H vs Q E hr h=>?_)
 ·unfold a8l at h
  split at h
  ·rfl
  ·exact h.elim
 unfold a8l at h
 split at h
 rotate_left
 ·exact h.elim
 refine⟨_,(a0g (a1e (a0v mo_ge (mv 1) (a1k (a3d K rfl) rfl T.n_g0 Z6 (a0a (mv 0) a0c)) (a0t _)) (a0h (a0o a0e)) a0z) (a0g (a1e (b7e a4x a4x (a7m a5y a0e) (a0s (a0n K rfl) (mv 0) (mv 1) (fun _ _=>rfl)) a0e) (a0h (a0o (a0l a1u (a0l b8k (a0l mo_pow (a0l (a1f K rfl) (a0l (a1f K rfl) (a0s (a0n K rfl) (mv 0) (mv 1) (fun _ _=>rfl)) a0e) (a0l b8k a0e (mv 1))) a0e) a0e) a0e))) a0z) (a0h (a0o (a0s (a0n K rfl) (mv 0) (mv 1) (fun _ _=>rfl)))))),?_⟩
 rename_i a k
 obtain⟨ns,hS,h0,h1,q⟩:=h
 walk_at "s"
 refine b0c hS ?_
 walk_at "s"
 refine iteB (fun e=>?_) (fun e=>?_)
 ·walk_at "s"
  exact q _
 ·walk_at "s"
  have hk:k<((ns.map V.int).length:Int):=by
   have:=Zo e
   omega
  obtain⟨v,hv,hv2⟩:=b8m (xs:=ns.map V.int) h0 hk
  obtain⟨x,rfl⟩:=ints_at hv
  refine a2f hS hv ?_
  walk_at "s"
  refine iteB (fun e1=>?_) (fun e1=>?_)
  ·walk_at "s"
   refine iteB (fun e2=>?_) (fun e2=>?_)
   ·walk_at "s"
    refine a2f hS hv ?_
    walk_at "s"
    refine b8o (c8o (by decide)) ?_
    walk_at "s"
    have b1:=Zm e1
    have b2:=Zm e2
    refine m2_i (C:=CPow) ⟨by decide,by decide,by omega⟩ ?_
    walk_at "s"
    refine b8o (b6u (by decide)) ?_
    walk_at "s"
    exact q _
   ·walk_at "s"
    refine a2f hS hv ?_
    exact q _
  ·walk_at "s"
   walk_at "C"
   refine a2f hS hv ?_
   exact q _
theorem c6n(T:Txt K mg t)  :FnOk P w K mg base CX0 1 t.a_b9 t.d_b9 ["_law_cell","_law_many"] (a6c):=by
 refine T.F_b9.ok a7l (fun vs H Q E h=>?_) (fun cdv A outer s H vs Q E hr h=>?_)
 ·unfold a6c at h
  split at h
  ·rfl
  ·exact h.elim
 unfold a6c at h
 split at h
 rotate_left
 ·exact h.elim
 refine⟨_,(a0g (a0m (i:=2) (hs:=a7k) a7l.nd rfl (by walk_at "or1") (a1w a0c)) (a0g (a0m (i:=3) (hs:=a2y) a7l.nd rfl (by walk_at "or1") (a0l a1u (mv 0) a0e)) (a0g (a7h Yj rfl (a4w rfl T.n_g7 (a0a (mv 1) a0c)) (a6b (i:=4) a7l.nd rfl (by walk_at "or1")) (a0g (a0m (i:=3) (hs:=a2y) a7l.nd rfl (by walk_at "or1") (a0l a1u (a0l (a1f K rfl) (a0l (a1f K rfl) (a0l b8k (mv 3) a0e) a0e) (mv 4)) a0e)) (a0h (a1m (a3x K rfl Z0 Yn Yv a3v (mv 2) (a0a (mv 3) a0c)))))) (a0h (a0o (mv 2)))))),?_⟩
 rename_i c m
 obtain⟨h0,h1,q⟩:=h
 walk_at "s"
 refine⟨Yo _,fun p hp=>?_⟩
 walk_at "s"
 refine⟨m,rfl,by omega,by omega,?_⟩
 refine a5m (a3u 0 m.toNat) (fun i σ' H'=>∃(v4:Option V)(x:Int)(ns:List Int),σ'=[some (.int c),some (.int m),some (.ref p),some (.int x),v4]/\ns.length=i/\Same H H'/\H' p=some (.lst (ns.map V.int))) ⟨none,_,[],rfl,rfl,a0d hp _,a0b⟩ (fun _ _ _ _=>trivial) (fun i σ' H' hi hP=>?_) (fun σ' H' hP=>?_)
 ·obtain⟨v4,x,ns,rfl,hl,h2,h3⟩:=hP
  walk_at "s"
  refine b8o (b6u (by decide)) ?_
  walk_at "s"
  refine⟨.inl ⟨rfl,_,SqL.of h3⟩,?_⟩
  walk_at "s"
  refine a3j h3 (ln1 (by rw[length_map];omega)) ?_
  refine⟨_,_,ns++[(x*48271+12820163+(0+(i:Int)))%2147483647],rfl,by rw[Za,hl];rfl,a2k h2 hp,?_⟩
  rw[a0b,Zk]
  rfl
 ·obtain⟨v4,x,ns,rfl,hl,h2,h3⟩:=hP
  walk_at "s"
  exact q p ns H' hl h2 h3
theorem c9d(T:Txt K mg t)  :a8o P w K mg base 1 t.a_b6 t.d_b6 ["_law_found"] (a8m):=by
 refine T.F_b6.okN c8u (fun vs H Q E h=>?_) (fun cdv A outer s H vs Q E hr h=>?_)
 ·unfold a8m at h
  split at h
  ·rfl
  ·exact h.elim
 unfold a8m at h
 split at h
 rotate_left
 ·exact h.elim
 refine⟨_,(a0h (a0o (b5d (a1k (b8q K rfl) rfl T.n_g9 Xm (a0a (mv 0) (a0a (b1g rfl T.n_h7 Tn) a0c))) (b2z (ke_not K rfl (a1k (b8q K rfl) rfl T.n_g9 Xm (a0a (mv 0) (a0a (b1g rfl T.n_i7 boot_bool) a0c)))))))),?_⟩
 rename_i n
 walk_at "B"
 exact h
theorem d2k(T:Txt K mg t)(G_b6:a8o P w K mg base 1 t.a_b6 t.d_b6 ["_law_found"] (a8m)):FnOk P w K mg base CX0 2 t.a_e5 t.d_e5 ["_law_found","_law_due"] (b2l K):=by
 refine T.F_e5.ok a8d (fun vs H Q E h=>?_) (fun cdv A outer s H vs Q E hr h=>?_)
 ·unfold b2l at h
  split at h
  ·rfl
  ·exact h.elim
 unfold b2l at h
 split at h
 rotate_left
 ·exact h.elim
 refine⟨_,(a0g (a0m (i:=2) (hs:=a7k) a8d.nd rfl (by walk_at "or1") (a1w (a0a (a0y (a0a (mv 0) (a0a (mv 1) a0c))) a0c))) (a0g (a4o Yj (a0v c2m (a1k (a3d K rfl) rfl T.n_g0 Z6 (a0a (mv 2) a0c)) a0e (a0t _)) (a0g (a0m (i:=3) (hs:=a1q) a8d.nd rfl (by walk_at "or1") (b1h K rfl Z0 Xn X8 b1f (mv 2))) (a0g (a0m (i:=4) (hs:=a8p) a8d.nd rfl (by walk_at "or1") (a0s (a0n K rfl) (mv 3) a0e (fun _ _=>rfl))) (a0g (a0m (i:=5) (hs:=a8p) a8d.nd rfl (by walk_at "or1") (a0s (a0n K rfl) (mv 3) a0e (fun _ _=>rfl))) (a0g (a1e (PW.pt (b3y (a4i (a1n K rfl (a1k (b8q K rfl) rfl T.n_g9 Xm (a0a (mv 4) (a0a (b1g rfl T.n_h4 Uq) a0c))))) (b3y (a0v b5y (a1k (a3d K rfl) rfl T.n_g0 Z6 (a0a (mv 4) a0c)) (a1k (a3d K rfl) rfl T.n_g0 Z6 (a0a (mv 5) a0c)) (a0t _)) (b2y (a0v (d0l K rfl (a7x hr)) (a3q (d0n K rfl) (mv 4) a5k (a3r a0e)) (a3q (d0n K rfl) (mv 5) a5k (a3r a0e)) (a0t _)))))) (a0h (a0o a3b)) a0z) (a0g (a1e (PW.pt (a8k (a0v a1s (a0s (a0n K rfl) (mv 5) a0e (fun _ _=>rfl)) a0f (a0t _)) (a6u (a4i (a1n K rfl (a0p G_b6.fn (hr.mono (by walk_at "r")) rfl T.m_b6 T.F_b6.kp T.b_b6 .nil a0r (a0a (a0s (a0n K rfl) (mv 4) a0e (fun _ _=>rfl)) a0c))))))) (a0h (a0o a3b)) a0z) (a0h (a1e (a0v a1s (a0s (a0n K rfl) (mv 5) a0e (fun _ _=>rfl)) a0f (a0t _)) (a0g (a1e (PW.pt (b3y (a4i (a1n K rfl (a1k (b8q K rfl) rfl T.n_g9 Xm (a0a (a0s (a0n K rfl) (mv 4) a0e (fun _ _=>rfl)) (a0a (b1g rfl T.n_h4 Uq) a0c))))) (b2y (a0v b5y (a1k (a3d K rfl) rfl T.n_g0 Z6 (a0a (a0s (a0n K rfl) (mv 4) a0e (fun _ _=>rfl)) a0c)) (a1k (a3d K rfl) rfl T.n_g0 Z6 (a0a (a0s (a0n K rfl) (mv 5) a0e (fun _ _=>rfl)) a0c)) (a0t _))))) (a0h (a0o a3b)) a0z) (a0h (a7h Yj rfl (a4w rfl T.n_g7 (a0a (a1k (a3d K rfl) rfl T.n_g0 Z6 (a0a (a0s (a0n K rfl) (mv 5) a0e (fun _ _=>rfl)) a0c)) a0c)) (a6b (i:=6) a8d.nd rfl (by walk_at "or1")) (a0h (a1m (a3x K rfl Z0 Yn Yv a3v (mv 2) (a0a (a0y (a0a (a0s (a0n K rfl) (a0s (a0n K rfl) (mv 4) a0e (fun _ _=>rfl)) (mv 6) (fun _ _=>rfl)) (a0a (a0s (a0n K rfl) (a0s (a0n K rfl) (mv 5) a0e (fun _ _=>rfl)) (mv 6) (fun _ _=>rfl)) a0c))) a0c))))))) a0z)))))))) (a0h (a0o a3b)))),?_⟩
 rename_i v u
 obtain⟨t0,hv,hu,hz,q⟩:=h
 walk_at "s"
 refine⟨ln (by show 2<=100000;decide),fun p1 hp1=>?_⟩
 walk_at "s"
 refine⟨ln (by show 1<=100000;decide),fun p hp=>?_⟩
 walk_at "s"
 have n1:Same H (upd H p1 (.tup [v,u])):=a0d hp1 _
 have hp0:H p=none:=n1.free hp
 have n2:Same H (upd (upd H p1 (.tup [v,u])) p (.lst [.ref p1])):=n1.trans (a0d hp _)
 refine a3w (fun n σ' H'=>∃(us:List V)(ts:List Trm)(o3 o4 o5 o6:Option V),σ'=[some v,some u,some (.ref p),o3,o4,o5,o6]/\H' p=some (.lst us)/\DenL K H' us (ts.map prD)/\Trm.sizeL ts<=1000/\n=Trm.sizeL ts/\Same H H') t0.size ⟨[.ref p1],[t0],none,none,none,none,rfl,a0b,.cons (d2j (SqT.of (by rw[a0j (a1b a0b hp)];exact a0b)) (hv.mono n2) (hu.mono n2)) .nil,by simp[Trm.sizeL];omega,by simp[Trm.sizeL],n2⟩ (fun n σ' H' R hP kT kF=>?_)
 obtain⟨us,ts,o3,o4,o5,o6,rfl,h1,h2,h3,h4,h5⟩:=hP
 walk_at "s"
 refine b0c (SqL.of h1) ?_
 walk_at "s"
 rcases a2b ts with rfl|⟨ts',t1,rfl⟩
 ·have e:=h2.nil_inv
  subst e
  refine kF H' ?_
  walk_at "s"
  exact q H' h5
 rw[Zk]at h2
 obtain⟨us',w1,rfl,g1,g2⟩:=DenL.snoc h2
 rw[Trm.sizeL_app]at h3 h4
 have s1:Trm.sizeL [t1]=t1.size:=by simp[Trm.sizeL]
 rw[s1]at h3 h4
 have e:decide ((0:Int)<((us'++[w1]).length:Int))=true:=Zi (by rw[Za,Z9];omega)
 rw[e]
 refine kT H' (fun D' e1 e2 hnx hct=>?_)
 walk_at "s"
 refine⟨.inl ⟨rfl,_,SqL.of h1⟩,?_⟩
 refine b1j h1 ?_
 walk_at "s"
 have f1:DenL K (upd H' p (.lst us')) us' (ts'.map prD):=g1.lst h1
 have f3:Same H (upd H' p (.lst us')):=a2k h5 hp0
 obtain⟨a,v1,v2,rfl,hs,k1,k2⟩:=den_pr (g2.lst (o:=.lst us') h1)
 have tp:=t1.size_pos
 refine a1c hs (v:=v1) rfl ?_
 walk_at "s"
 refine a1c hs (v:=v2) rfl ?_
 walk_at "s"
 obtain⟨a1,x1,ds,rfl,q1,q2,q3⟩:=c3u k1
 obtain⟨a2,x2,ds2,rfl,r1,r2,r3⟩:=c3u k2
 rw[q3]at r3
 cases r3
 have hd0:PyData.depthAll ((ds.drop (HT.sIx ds.length 0 none)).take (HT.sIx ds.length ds.length (some 2)-HT.sIx ds.length 0 none))<=149:=by
  cases t1 with
  |num n=>unfold Trm.data at q3;cases q3;simp[HT.sIx,PyData.depthAll,PyData.depth]
  |any n=>unfold Trm.data at q3;cases q3;simp[HT.sIx,PyData.depthAll,PyData.depth]
  |app n m=>unfold Trm.data at q3;cases q3;simp[HT.sIx,PyData.depthAll,PyData.depth]
 refine d0p q1 ?_
 walk_at "A"
 refine b5e q1 ?_
 walk_at "s"
 refine b5e r1 ?_
 walk_at "s"
 have le:(true^^decide ((x1.length:Int)=(x2.length:Int)))=false:=by rw[q2.length,r2.length];simp
 rw[le]
 walk_at "C"
 refine c3s q1 q2 (fun b1 H1 m1 c1=>?_)
 walk_at "s"
 refine c3s (m1.tup r1) (r2.mono m1) (fun b2 H2 m2 c2=>?_)
 have c1:=c1.mono m2
 cases c1 with
 |tup c1s c1l=>
 cases c2 with
 |tup c2s c2l=>
 refine⟨b1,b2,_,_,_,rfl,rfl,.inl ⟨c1s,c2s⟩,c1l,c2l,?_,?_⟩
 ·exact hd0
 walk_at "s"
 refine iteF ?_
 have f4:DenL K H2 us' (ts'.map prD):=(f1.mono m1).mono m2
 have f5:Same H H2:=f3.trans (m1.trans m2)
 have f6:H2 p=some (.lst us'):=(m1.trans m2) _ _ a0b
 have k1:Den K H2 (.ref a1) t1.data:=(k1.mono m1).mono m2
 have k2:Den K H2 (.ref a2) t1.data:=(k2.mono m1).mono m2
 walk_at "s"
 cases t1 with
 |num m=>
  obtain⟨b1,y1,hb1⟩:=b6a k1
  obtain⟨b2,y2,hb2⟩:=b6a k2
  cases y1
  cases y2
  refine a1c hb2 (v:=.str numS) rfl ?_
  walk_at "s"
  rw[Zt,d4]
  walk_at "D"
  refine a1c hb1 (v:=.int m) rfl ?_
  walk_at "A"
  refine a1c hb2 (v:=.str numS) rfl ?_
  walk_at "s"
  refine b9b d1 ?_
  walk_at "s"
  exact hnx _ _ (Trm.sizeL ts') (by omega) ⟨us',ts',_,_,_,_,rfl,f6,f4,by omega,rfl,f5⟩
 |any m=>
  obtain⟨b1,y1,hb1⟩:=b6b k1
  obtain⟨b2,y2,hb2⟩:=b6b k2
  cases y1
  cases y2
  refine a1c hb2 (v:=.str anyS) rfl ?_
  walk_at "s"
  rw[Zt,d5]
  refine iteF ?_
  walk_at "C"
  refine a1c hb2 (v:=.str anyS) rfl ?_
  walk_at "s"
  refine b9b d2 ?_
  walk_at "s"
  exact hnx _ _ (Trm.sizeL ts') (by omega) ⟨us',ts',_,_,_,_,rfl,f6,f4,by omega,rfl,f5⟩
 |app sg ks=>
  obtain⟨b1,c1,w1,y1,hb1,hc1,hk1⟩:=b6c k1
  obtain⟨b2,c2,w2,y2,hb2,hc2,hk2⟩:=b6c k2
  cases y1
  cases y2
  refine a1c hb2 (v:=.str appS) rfl ?_
  walk_at "s"
  rw[Zt,d6]
  refine iteF ?_
  walk_at "C"
  refine a1c hb2 (v:=.str appS) rfl ?_
  walk_at "s"
  refine c7o d3 ?_
  walk_at "s"
  refine a1c hb1 (v:=.ref c1) rfl ?_
  walk_at "s"
  refine d0p hc1 ?_
  walk_at "A"
  refine a1c hb1 (v:=.ref c1) rfl ?_
  walk_at "s"
  refine b5e hc1 ?_
  walk_at "s"
  refine a1c hb2 (v:=.ref c2) rfl ?_
  walk_at "s"
  refine b5e hc2 ?_
  walk_at "s"
  have l1:w1.length=ks.length:=by rw[hk1.length,Trm.dataL_map,length_map]
  have l2:w2.length=ks.length:=by rw[hk2.length,Trm.dataL_map,length_map]
  have le:(true^^decide ((w1.length:Int)=(w2.length:Int)))=false:=by rw[l1,l2];simp
  rw[le]
  walk_at "C"
  refine a1c hb2 (v:=.ref c2) rfl ?_
  walk_at "s"
  refine b5e hc2 ?_
  walk_at "s"
  have l3:=Trm.len_le ks
  have l4:=Trm.len_le ts'
  have l5:=f4.length
  rw[length_map]at l5
  simp only[Trm.size]at h3 h4
  refine⟨_,rfl,by omega,by omega,?_⟩
  rw[l2,Z8]
  refine a5m (a3u 0 ks.length) (fun i σ' H'=>∃(o6:Option V)(ws:List V),σ'=[some v,some u,some (.ref p),some (.ref a),some (.ref a1),some (.ref a2),o6]/\H' p=some (.lst (us'++ws))/\DenL K H' (us'++ws) ((ts'++ks.take i).map prD)/\ws.length=i/\(∀b xs,SqT K H2 b xs->SqT K H' b xs)/\Same H H') ⟨_,[],rfl,by rw[Yr];exact f6,by rw[Vu,Yr,Yr];exact f4,rfl,fun _ _ h=>h,f5⟩ (fun _ _ _ _=>trivial) (fun i σ' H' hi hP=>?_) (fun σ' H' hP=>?_)
  ·obtain⟨o6,ws,rfl,j1,j2,j3,j4,j5⟩:=hP
   have kd:∃tk,ks[i]? =some tk:=⟨_,Zb hi⟩
   obtain⟨tk,hk⟩:=kd
   have dk:atI (Trm.dataL ks) (0+(i:Int))=some tk.data:=by
    rw[Int.zero_add]
    exact a6v (by rw[Trm.dataL_map,Yu,hk];rfl)
   obtain⟨z1,i1,n1'⟩:=hk1.at dk
   obtain⟨z2,i2,n2'⟩:=hk2.at dk
   walk_at "s"
   refine⟨.inl ⟨rfl,_,SqL.of j1⟩,?_⟩
   walk_at "s"
   refine a1c (j4 _ _ hb1) (v:=.ref c1) rfl ?_
   walk_at "s"
   refine a1c (j4 _ _ hc1) i1 ?_
   walk_at "s"
   refine a1c (j4 _ _ hb2) (v:=.ref c2) rfl ?_
   walk_at "s"
   refine a1c (j4 _ _ hc2) i2 ?_
   walk_at "s"
   refine⟨ln (by show 2<=100000;decide),fun r hr=>?_⟩
   walk_at "s"
   have nr:Same H' (upd H' r (.tup [z1,z2])):=a0d hr _
   have jr:upd H' r (.tup [z1,z2]) p=some (.lst (us'++ws)):=nr _ _ j1
   refine a3j jr (ln1 (by rw[Za];omega)) ?_
   refine⟨_,ws++[.ref r],rfl,?_,?_,by rw[Za,j3];rfl,fun b xs h=>b3h jr _ _ (nr.tup (j4 _ _ h)),a2k (j5.trans nr) hp0⟩
   ·rw[a0b,Zw]
   ·have e:ks.take (i+1)=ks.take i++[tk]:=by rw[List.take_add_one,hk];rfl
    rw[e,<-Zw,<-Zw,Zk]
    refine((j2.mono nr).lst jr).append (.cons (d2j (b3h jr _ _ (SqT.of a0b)) ?_ ?_) .nil)
    ·exact(((n1'.monoT j4).mono nr).lst jr)
    ·exact(((n2'.monoT j4).mono nr).lst jr)
  ·obtain⟨o6,ws,rfl,j1,j2,j3,j4,j5⟩:=hP
   rw[Ve]at j2
   exact hnx _ _ (Trm.sizeL (ts'++ks)) (by rw[Trm.sizeL_app];omega) ⟨us'++ws,ts'++ks,_,_,_,_,rfl,j1,j2,by rw[Trm.sizeL_app];omega,rfl,j5⟩
theorem b6r(T:Txt K mg t)(G_b6:a8o P w K mg base 1 t.a_b6 t.d_b6 ["_law_found"] (a8m)):a8o P w K mg base 2 t.a_f2 t.d_f2 ["_law_e"] (a5i t.k_a0):=by
 refine T.F_f2.okN b6q (fun vs H Q E h=>?_) (fun cdv A outer s H vs Q E hr h=>?_)
 ·unfold a5i at h
  split at h
  ·rfl
  ·exact h.elim
 unfold a5i at h
 split at h
 rotate_left
 ·exact h.elim
 refine⟨_,(a0g (a1e (PW.pt (b3y (a1n K rfl (a1k (kc_isXT K rfl) rfl T.n_g9 Xm (a0a (mv 0) (a0a (a0y (a0a (a5j (v:=.ref t.k_g8) rfl T.m_g8 rfl) (a0a (a5j (v:=.ref t.k_g4) rfl T.m_g4 rfl) (a0a (a5j (v:=.ref t.k_g5) rfl T.m_g5 rfl) a0c)))) a0c)))) (b2y (a4i (a1n K rfl (a1k (d1c K rfl) rfl T.n_g9 Xm (a0a (mv 0) (a0a (b1g rfl T.n_i5 b2h) a0c)))))))) (a0h (a0o a3b)) a0z) (a0h (a0o (b5d (a1k (d1c K rfl) rfl T.n_g9 Xm (a0a (mv 0) (a0a (a5j (v:=.ref t.k_a0) rfl T.m_a0 rfl) a0c))) (b5d (c4a G_b6 (hr.mono (by walk_at "r")) rfl T.m_b6 T.F_b6.kp T.b_b6 .nil (a0a (c7j K rfl (mv 0)) a0c)) (b2z (a2l a1s (c7j K rfl (mv 0)) a0e (a0t _)))))))),?_⟩
 rename_i ea
 obtain⟨i0,q⟩:=h
 obtain⟨dx,x1,x2⟩:=i0
 walk_at "s"
 refine⟨ln (by show 3<=100000;decide),fun p1 hp1=>?_⟩
 have sp1:Same H (upd H p1 (.tup [.ref t.k_g8,.ref t.k_g4,.ref t.k_g5])):=a0d hp1 _
 have kp1:(upd H p1 (.tup [.ref t.k_g8,.ref t.k_g4,.ref t.k_g5])) p1=some (.tup [.ref t.k_g8,.ref t.k_g4,.ref t.k_g5]):=a0b
 generalize upd H p1 (.tup [.ref t.k_g8,.ref t.k_g4,.ref t.k_g5])=H1 at sp1 kp1 ⊢
 walk_at "s"
 refine isXT_i [t.k_g8,t.k_g4,t.k_g5] (sp1 _ _ x1) (sp1 _ _ x2) T.x_a0 T.at_a0 T.is_a0 (SqT.of kp1) T.iy_a0_NoSign_NoRule_Big ?_
 walk_at "A"
 refine isX_i (C:=t.k_a0) (sp1 _ _ x1) (sp1 _ _ x2) T.x_a0 T.at_a0 T.is_a0 T.iz_a0_ValueError ?_
 walk_at "A"
 refine isX_i (C:=t.k_a0) (sp1 _ _ x1) (sp1 _ _ x2) T.x_a0 T.at_a0 T.is_a0 T.iz_a0_NoText ?_
 walk_at "B"
 refine⟨ea,t.k_a0,_,dx,_,false,.int 0,rfl,sp1 _ _ x1,T.x_a0,T.at_a0,T.no_a0_row,sp1 _ _ x2,c1i _,?_⟩
 walk_at "B"
 refine⟨ea,t.k_a0,_,dx,_,false,.int 0,rfl,sp1 _ _ x1,T.x_a0,T.at_a0,T.no_a0_row,sp1 _ _ x2,c1i _,?_⟩
 walk_at "s"
 exact q _ sp1
end
section
variable{P:Program}{w:World}{K:W.Frag}{mg:Str->Option Value}{base:Heap}{t:Ad}
theorem d4i{y:Nat}(h:y∈c2q.cps.toList):inn y:=by
 have:∀y∈c2q.cps.toList,inn y:=by decide+kernel
 exact this y h
theorem b2a{K:W.Frag}{H:Hp}{Q:VK}{D:Addr}{s:Str}{sp:List Nat}{ls:List (List Nat)}(e:s=stT sp)(h:SqL K H D (ls.map fun l=>V.str (stT l)))(hb:(ls.map List.length).sum+ls.length*sp.length<=16777216)(k:Q (.str (stT (a2j sp ls))) H):b8l K (.str s) [.ref D] H Q:=by
 rw[e]
 exact join_i h hb k
theorem d2l(T:Txt K mg t)(G_b9:FnOk P w K mg base CX0 1 t.a_b9 t.d_b9 ["_law_cell","_law_many"] (a6c)):FnOk P w K mg base CX0 2 t.a_c6 t.d_c6 ["_law_cell","_law_head","_law_many"] (b2m):=by
 refine T.F_c6.ok c1j (fun vs H Q E h=>?_) (fun cdv A outer s H vs Q E hr h=>?_)
 ·unfold b2m at h
  split at h
  ·rfl
  ·exact h.elim
 unfold b2m at h
 split at h
 rotate_left
 ·exact h.elim
 refine⟨_,(a0g (a0m (i:=3) c1j.nd rfl (by walk_at "or1") a0f) (a0h (a0o (a0l (a1f K rfl) (mv 1) (a3x K rfl Xz X9 X7 (a9c K rfl) a0f (a0a (b3f rfl (b7g K rfl (a0p G_b9 (hr.mono (by walk_at "r")) rfl T.m_b9 T.F_b9.kp T.b_b9 .nil a0r (a0a (mv 0) (a0a (a0l b0b (mv 2) a0e) a0c)))) (a9b (a0i b4i) ["_law_cell","_law_head","_law_many","_law_some"] ["_law_cell","_law_head","_law_many","_law_some"] rfl rfl (by decide+kernel)) (fun _ _ _ _ _=>a9a) (fun _ _ _ _ _=>(a0s (a0n K rfl) (mv 4) (a0l a1u (a0l a2h (mv 0) a0e) a0e) (fun _ _=>rfl)))) a0c)))))),?_⟩
 rename_i c h m
 obtain⟨x,rfl,h1,h2,q⟩:=h
 walk_at "s"
 refine⟨b1z,?_⟩
 walk_at "s"
 refine⟨by omega,by omega,fun p ns H1 hn s1 k1=>?_⟩
 walk_at "s"
 refine⟨p,rfl,⟨_,SqL.of k1⟩,fun D hD=>?_⟩
 refine a7s (b7d (xs:=ns.map V.int)) (fun i ys H'=>Same H1 H'/\H' D=some (.lst ys)/\∃r:List Nat,ys=(r.map fun y=>V.str ⟨[y].toArray⟩)/\r.length=i/\∀y∈r,inn y) (ln (by rw[length_map];omega)) ⟨a0d hD _,a0b,[],rfl,rfl,fun _ h=>by cases h⟩ (fun i ys H' hP=>SqL.of (hP.1 _ _ k1)) (fun i ys H' Q' hi' hl' hP k=>?_) (fun ys H' hl' hP=>?_)
 ·obtain⟨g1,g2,r,rfl,g3,g4⟩:=hP
  rw[length_map]at hi'
  rw[show(ns.map V.int).getD i .non=.int ns[i] by rw[Z3,Yu,Zb hi'];rfl]
  walk_at "s"
  obtain⟨y,hy⟩:=b2g (z:=c2q) (Yd (ns[i]/7) (show(62:Int)≠0 by decide)) (by rw[tl62];exact Z5 _ (by decide))
  refine a4y (ln (by rw[tl62];decide)) hy ?_
  refine k _ _ g2 ⟨a2k g1 hD,a0b,r++[y],by rw[Zk];rfl,by simp[g3],fun z hz=>?_⟩
  rcases Zv.mp hz with hz|hz
  ·exact g4 z hz
  ·rw[Zn.mp hz];exact d4i (b0y hy)
 ·obtain⟨g1,g2,r,rfl,g3,g4⟩:=hP
  rw[length_map]at g3
  walk_at "s"
  refine b2a (sp:=[]) (ls:=r.map fun y=>[y]) (by decide+kernel) (by rw[Yh];exact SqL.of g2) ?_ ?_
  ·rw[Yh]
   have:∀r:List Nat,(r.map (List.length∘fun y=>[y])).sum=r.length:=fun r=>by induction r with|nil=>rfl|cons a r ih=>simp only[Zu,Wk,ih,Function.comp,length_cons,length_nil];omega
   rw[this,length_map]
   simp
   omega
  rw[c5h]
  refine b8n (ln (by rw[str_len];show 1+r.length<=100000;omega)) ?_
  rw[show(⟨#[x]⟩:Str)++stT r=⟨(x::r).toArray⟩from b5z [x] r]
  exact q r H' (by omega) g4 (s1.trans g1)
theorem chr26{z:Str}(hz:z.length=26)(c:Int):∃x,atI z.cps.toList (c%26)=some x:=b2g (Yd c (by decide)) (by rw[hz];exact Z5 c (by decide))
theorem b2p:a3e.length=26/\a2p.length=26:=by decide+kernel
theorem add_r{a b:List Nat}{s:Str}(e:s=stT b):stT a++s=stT (a++b):=by rw[e];exact b5z a b
theorem add_l{a b:List Nat}{s:Str}(e:s=stT a):s++stT b=stT (a++b):=by rw[e];exact b5z a b
theorem a4s{a b:List Nat}{s:Str}{H:Hp}{Q:VK}(e:s=stT b)(hl:a.length+b.length<=90000)(k:Q (.str (stT (a++b))) H):mAdd K (.str (stT a)) (.str s) H Q:=b8n (ln (by rw[e,str_len,str_len];omega)) (by rw[add_r e];exact k)
theorem a5o{a b:List Nat}{s:Str}{H:Hp}{Q:VK}(e:s=stT a)(hl:a.length+b.length<=90000)(k:Q (.str (stT (a++b))) H):mAdd K (.str s) (.str (stT b)) H Q:=b8n (ln (by rw[e,str_len,str_len];omega)) (by rw[add_l e];exact k)
theorem c9e(T:Txt K mg t)(G_c6:FnOk P w K mg base CX0 2 t.a_c6 t.d_c6 ["_law_cell","_law_head","_law_many"] (b2m)):FnOk P w K mg base CX0 3 t.a_d7 t.d_d7 ["_law_cell","_law_rest"] (b0t K):=by
 refine T.F_d7.ok b0k (fun vs H Q E h=>?_) (fun cdv A outer s H vs Q E hr h=>?_)
 ·unfold b0t at h
  split at h
  ·rfl
  ·exact h.elim
 unfold b0t at h
 split at h
 rotate_left
 ·exact h.elim
 refine⟨_,(@QSs.pss _ _ _ (a0u (a1l (a0m (i:=2) (hs:=a2y) b0k.nd rfl (by walk_at "or1") (a0l (a1f K rfl) a0e (a0l a1u (mv 0) a0e)))) (a0u (a5h (a0v a1s (a0l a1u (a0l a2h (mv 0) a0e) a0e) a0e (a0t _)) (a0u (a1l (a0m (i:=3) (hs:=a1q) b0k.nd rfl (by walk_at "or1") (a0p G_c6 (hr.mono (by walk_at "r")) rfl T.m_c6 T.F_c6.kp T.b_c6 .nil a0r (a0a (mv 1) (a0a (a0s (a0n K rfl) a0f (a0l a1u (a0l a2h (mv 0) a0e) a0e) (fun _ _=>rfl)) (a0a (mv 2) a0c)))))) (a1t (b3k (a1h (a0k (a0x (mv 3)) (a0k (a1h (a0k (a0x a0f) (a0k (a0x (mv 3)) a1d rfl) rfl)) (a0k (a0x (a2l a4x (mv 2) a0e (a0t _))) a1d rfl) rfl) rfl))))) a4v) (a0u (a1l (a0m (i:=4) (hs:=a1q) b0k.nd rfl (by walk_at "or1") (a0p G_c6 (hr.mono (by walk_at "r")) rfl T.m_c6 T.F_c6.kp T.b_c6 .nil a0r (a0a (mv 1) (a0a (a0s (a0n K rfl) a0f (a0l a1u (a0l a2h (mv 0) a0e) a0e) (fun _ _=>rfl)) (a0a (mv 2) a0c)))))) (a0u (a5h (a0v a1s (a0l a1u (a0l a2h (mv 0) a0e) a0e) a0e (a0t _)) (a1t (b3k (a1h (a0k (a0x (mv 4)) (a0k (a1h (a0k (a0x a0f) (a0k (a0x (mv 4)) (a0k (a1h a1d) a1d rfl) rfl) rfl)) (a0k (a0x (a2l a4x (mv 2) a0e (a0t _))) a1d rfl) rfl) rfl)))) a4v) (a0u (a5h (a0v a1s (a0l a1u (a0l a2h (mv 0) a0e) a0e) a0e (a0t _)) (a1t (b3k (a1h (a0k (a0x (a0l (a1f K rfl) (mv 4) a0f)) (a0k (a1h (a0k (a0x a0f) (a0k (a0x (mv 4)) (a0k (a1h (a0k (a1h (a0k (a0x a0f) (a0k (a0x a0f) a1d rfl) rfl)) a1d rfl)) a1d rfl) rfl) rfl)) (a0k (a0x (a2l a4x (mv 2) a0e (a0t _))) a1d rfl) rfl) rfl)))) a4v) (a1t (b3k (a1h (a0k (a0x (a0l (a1f K rfl) (a0l (a1f K rfl) a0f (mv 4)) a0f)) (a0k (a1h (a0k (a0x a0f) (a0k (a0x a0f) (a0k (a1h (a0k (a1h (a0k (a0x a0f) (a0k (a0x a0e) a1d rfl) rfl)) (a0k (a1h (a0k (a0x a0f) (a0k (a0x (mv 4)) (a0k (a1h a1d) a1d rfl) rfl) rfl)) a1d rfl) rfl)) a1d rfl) rfl) rfl)) (a0k (a0x (a2l a4x (mv 2) a0e (a0t _))) a1d rfl) rfl) rfl)))))))))),?_⟩
 rename_i c d
 have b1:=Yd c (show(15:Int)≠0 by decide)
 have b2:=Z5 c (show(0:Int)<15 by decide)
 obtain⟨x,hx⟩:=chr26 b2p.1 (c/60)
 obtain⟨y,hy⟩:=chr26 b2p.2 (c/60)
 have hxm:=b0y hx
 have hym:=b0y hy
 walk_at "s"
 refine iteB (fun e=>?_) (fun e=>?_)
 ·walk_at "s"
  refine a4y (ln (by rw[b2p.1];decide)) hx ?_
  walk_at "s"
  refine⟨x,rfl,by omega,by omega,fun r H1 hr hi s1=>?_⟩
  have ed:decide (1+c%15<13)=decide (r.length<12):=Wg.mpr (by omega)
  walk_at "s"
  refine⟨ln (by show 2<=100000;decide),fun p1 hp1=>?_⟩
  have sp1:Same H1 (upd H1 p1 (.tup [.str (ofString "any"),.str (wv x r)])):=a0d hp1 _
  have kp1:(upd H1 p1 (.tup [.str (ofString "any"),.str (wv x r)])) p1=some (.tup [.str (ofString "any"),.str (wv x r)]):=a0b
  generalize upd H1 p1 (.tup [.str (ofString "any"),.str (wv x r)])=Tp1 at sp1 kp1 ⊢
  walk_at "s"
  refine⟨ln (by show 3<=100000;decide),fun p2 hp2=>?_⟩
  have sp2:Same Tp1 (upd Tp1 p2 (.tup [.str (wv x r),.ref p1,.bl (decide (1+c%15<13))])):=a0d hp2 _
  have kp2:(upd Tp1 p2 (.tup [.str (wv x r),.ref p1,.bl (decide (1+c%15<13))])) p2=some (.tup [.str (wv x r),.ref p1,.bl (decide (1+c%15<13))]):=a0b
  generalize upd Tp1 p2 (.tup [.str (wv x r),.ref p1,.bl (decide (1+c%15<13))])=Tp2 at sp2 kp2 ⊢
  walk_at "s"
  rw[ed]at kp2
  exact h p2 (x::r) (.ref p1) (.any (wv x r)) _ _ (((s1).trans sp1).trans sp2) (SqT.of kp2) (b3j (SqT.of (sp2 _ _ kp1))) (d4b hxm hi (by omega))
 walk_at "s"
 refine a4y (ln (by rw[b2p.2];decide)) hy ?_
 walk_at "s"
 refine⟨y,rfl,by omega,by omega,fun r H1 hr hi s1=>?_⟩
 have ed:decide (1+c%15<13)=decide (r.length<12):=Wg.mpr (by omega)
 walk_at "s"
 refine iteB (fun e=>?_) (fun e=>?_)
 ·walk_at "s"
  refine⟨ln (by show 0<=100000;decide),fun p1 hp1=>?_⟩
  have sp1:Same H1 (upd H1 p1 (.tup [])):=a0d hp1 _
  have kp1:(upd H1 p1 (.tup [])) p1=some (.tup []):=a0b
  generalize upd H1 p1 (.tup [])=Tp1 at sp1 kp1 ⊢
  walk_at "s"
  refine⟨ln (by show 3<=100000;decide),fun p2 hp2=>?_⟩
  have sp2:Same Tp1 (upd Tp1 p2 (.tup [.str (ofString "app"),.str (wv y r),.ref p1])):=a0d hp2 _
  have kp2:(upd Tp1 p2 (.tup [.str (ofString "app"),.str (wv y r),.ref p1])) p2=some (.tup [.str (ofString "app"),.str (wv y r),.ref p1]):=a0b
  generalize upd Tp1 p2 (.tup [.str (ofString "app"),.str (wv y r),.ref p1])=Tp2 at sp2 kp2 ⊢
  walk_at "s"
  refine⟨ln (by show 3<=100000;decide),fun p3 hp3=>?_⟩
  have sp3:Same Tp2 (upd Tp2 p3 (.tup [.str (wv y r),.ref p2,.bl (decide (1+c%15<13))])):=a0d hp3 _
  have kp3:(upd Tp2 p3 (.tup [.str (wv y r),.ref p2,.bl (decide (1+c%15<13))])) p3=some (.tup [.str (wv y r),.ref p2,.bl (decide (1+c%15<13))]):=a0b
  generalize upd Tp2 p3 (.tup [.str (wv y r),.ref p2,.bl (decide (1+c%15<13))])=Tp3 at sp3 kp3 ⊢
  walk_at "s"
  rw[ed]at kp3
  exact h p3 (y::r) (.ref p2) (.app (wv y r) []) _ _ ((((s1).trans sp1).trans sp2).trans sp3) (SqT.of kp3) (a2d (SqT.of (sp3 _ _ kp2)) (SqT.of (sp3 _ _ (sp2 _ _ kp1))) .nil) (c5g hym hi (by omega))
 walk_at "s"
 refine iteB (fun e=>?_) (fun e=>?_)
 ·walk_at "s"
  refine a4s (a:=y::r) (b:=[40,88,41]) (by decide+kernel) (by simp;omega) ?_
  walk_at "s"
  refine⟨ln (by show 2<=100000;decide),fun p1 hp1=>?_⟩
  have sp1:Same H1 (upd H1 p1 (.tup [.str (ofString "any"),.str (ofString "X")])):=a0d hp1 _
  have kp1:(upd H1 p1 (.tup [.str (ofString "any"),.str (ofString "X")])) p1=some (.tup [.str (ofString "any"),.str (ofString "X")]):=a0b
  generalize upd H1 p1 (.tup [.str (ofString "any"),.str (ofString "X")])=Tp1 at sp1 kp1 ⊢
  walk_at "s"
  refine⟨ln (by show 1<=100000;decide),fun p2 hp2=>?_⟩
  have sp2:Same Tp1 (upd Tp1 p2 (.tup [.ref p1])):=a0d hp2 _
  have kp2:(upd Tp1 p2 (.tup [.ref p1])) p2=some (.tup [.ref p1]):=a0b
  generalize upd Tp1 p2 (.tup [.ref p1])=Tp2 at sp2 kp2 ⊢
  walk_at "s"
  refine⟨ln (by show 3<=100000;decide),fun p3 hp3=>?_⟩
  have sp3:Same Tp2 (upd Tp2 p3 (.tup [.str (ofString "app"),.str (wv y r),.ref p2])):=a0d hp3 _
  have kp3:(upd Tp2 p3 (.tup [.str (ofString "app"),.str (wv y r),.ref p2])) p3=some (.tup [.str (ofString "app"),.str (wv y r),.ref p2]):=a0b
  generalize upd Tp2 p3 (.tup [.str (ofString "app"),.str (wv y r),.ref p2])=Tp3 at sp3 kp3 ⊢
  walk_at "s"
  refine⟨ln (by show 3<=100000;decide),fun p4 hp4=>?_⟩
  have sp4:Same Tp3 (upd Tp3 p4 (.tup [.str (stT ((y::r)++[40,88,41])),.ref p3,.bl (decide (1+c%15<13))])):=a0d hp4 _
  have kp4:(upd Tp3 p4 (.tup [.str (stT ((y::r)++[40,88,41])),.ref p3,.bl (decide (1+c%15<13))])) p4=some (.tup [.str (stT ((y::r)++[40,88,41])),.ref p3,.bl (decide (1+c%15<13))]):=a0b
  generalize upd Tp3 p4 (.tup [.str (stT ((y::r)++[40,88,41])),.ref p3,.bl (decide (1+c%15<13))])=Tp4 at sp4 kp4 ⊢
  walk_at "s"
  rw[ed]at kp4
  exact h p4 ((y::r)++[40,88,41]) (.ref p3) (.app (wv y r) [.any (ofString "X")]) _ _ (((((s1).trans sp1).trans sp2).trans sp3).trans sp4) (SqT.of kp4) (a2d (SqT.of (sp4 _ _ kp3)) (SqT.of (sp4 _ _ (sp3 _ _ kp2))) (.cons (b3j (SqT.of (sp4 _ _ (sp3 _ _ (sp2 _ _ kp1))))) .nil)) (cse_kid hym hi (by omega))
 walk_at "s"
 refine a5o (a:=[103,40,49,44,32]) (b:=y::r) (by decide+kernel) (by simp;omega) ?_
 walk_at "s"
 refine a4s (a:=[103,40,49,44,32]++(y::r)) (b:=[41]) (by decide+kernel) (by simp;omega) ?_
 walk_at "s"
 refine⟨ln (by show 2<=100000;decide),fun p1 hp1=>?_⟩
 have sp1:Same H1 (upd H1 p1 (.tup [.str (ofString "num"),.int 1])):=a0d hp1 _
 have kp1:(upd H1 p1 (.tup [.str (ofString "num"),.int 1])) p1=some (.tup [.str (ofString "num"),.int 1]):=a0b
 generalize upd H1 p1 (.tup [.str (ofString "num"),.int 1])=Tp1 at sp1 kp1 ⊢
 walk_at "s"
 refine⟨ln (by show 0<=100000;decide),fun p2 hp2=>?_⟩
 have sp2:Same Tp1 (upd Tp1 p2 (.tup [])):=a0d hp2 _
 have kp2:(upd Tp1 p2 (.tup [])) p2=some (.tup []):=a0b
 generalize upd Tp1 p2 (.tup [])=Tp2 at sp2 kp2 ⊢
 walk_at "s"
 refine⟨ln (by show 3<=100000;decide),fun p3 hp3=>?_⟩
 have sp3:Same Tp2 (upd Tp2 p3 (.tup [.str (ofString "app"),.str (wv y r),.ref p2])):=a0d hp3 _
 have kp3:(upd Tp2 p3 (.tup [.str (ofString "app"),.str (wv y r),.ref p2])) p3=some (.tup [.str (ofString "app"),.str (wv y r),.ref p2]):=a0b
 generalize upd Tp2 p3 (.tup [.str (ofString "app"),.str (wv y r),.ref p2])=Tp3 at sp3 kp3 ⊢
 walk_at "s"
 refine⟨ln (by show 2<=100000;decide),fun p4 hp4=>?_⟩
 have sp4:Same Tp3 (upd Tp3 p4 (.tup [.ref p1,.ref p3])):=a0d hp4 _
 have kp4:(upd Tp3 p4 (.tup [.ref p1,.ref p3])) p4=some (.tup [.ref p1,.ref p3]):=a0b
 generalize upd Tp3 p4 (.tup [.ref p1,.ref p3])=Tp4 at sp4 kp4 ⊢
 walk_at "s"
 refine⟨ln (by show 3<=100000;decide),fun p5 hp5=>?_⟩
 have sp5:Same Tp4 (upd Tp4 p5 (.tup [.str (ofString "app"),.str (ofString "g"),.ref p4])):=a0d hp5 _
 have kp5:(upd Tp4 p5 (.tup [.str (ofString "app"),.str (ofString "g"),.ref p4])) p5=some (.tup [.str (ofString "app"),.str (ofString "g"),.ref p4]):=a0b
 generalize upd Tp4 p5 (.tup [.str (ofString "app"),.str (ofString "g"),.ref p4])=Tp5 at sp5 kp5 ⊢
 walk_at "s"
 refine⟨ln (by show 3<=100000;decide),fun p6 hp6=>?_⟩
 have sp6:Same Tp5 (upd Tp5 p6 (.tup [.str (stT (([103,40,49,44,32]++(y::r))++[41])),.ref p5,.bl (decide (1+c%15<13))])):=a0d hp6 _
 have kp6:(upd Tp5 p6 (.tup [.str (stT (([103,40,49,44,32]++(y::r))++[41])),.ref p5,.bl (decide (1+c%15<13))])) p6=some (.tup [.str (stT (([103,40,49,44,32]++(y::r))++[41])),.ref p5,.bl (decide (1+c%15<13))]):=a0b
 generalize upd Tp5 p6 (.tup [.str (stT (([103,40,49,44,32]++(y::r))++[41])),.ref p5,.bl (decide (1+c%15<13))])=Tp6 at sp6 kp6 ⊢
 walk_at "s"
 rw[ed,show(([103,40,49,44,32]++(y::r))++[41]:List Nat)=[103,40,49,44,32]++((y::r)++[41]) by simp]at kp6
 exact h p6 _ (.ref p5) (.app (ofString "g") [.num 1,.app (wv y r) []]) _ _ (((((((s1).trans sp1).trans sp2).trans sp3).trans sp4).trans sp5).trans sp6) (SqT.of kp6) (a2d (SqT.of (sp6 _ _ kp5)) (SqT.of (sp6 _ _ (sp5 _ _ kp4))) (.cons (a6d (SqT.of (sp6 _ _ (sp5 _ _ (sp4 _ _ (sp3 _ _ (sp2 _ _ kp1))))))) (.cons (a2d (SqT.of (sp6 _ _ (sp5 _ _ (sp4 _ _ kp3)))) (SqT.of (sp6 _ _ (sp5 _ _ (sp4 _ _ (sp3 _ _ kp2))))) .nil) .nil))) (cse_in hym hi (by omega))
end
section
variable{P:Program}{w:World}{K:W.Frag}{mg:Str->Option Value}{base:Heap}{t:Ad}
theorem figs_d{k:Nat}(h:k<8):a1i k=[48+k]:=a9e (by omega)
theorem c0v(T:Txt K mg t)  :FnOk P w K mg base CX0 1 t.a_d5 t.d_d5 ["_law_cell"] (a7e K):=by
 refine T.F_d5.ok a9k (fun vs H Q E h=>?_) (fun cdv A outer s H vs Q E hr h=>?_)
 ·unfold a7e at h
  split at h
  ·rfl
  ·exact h.elim
 unfold a7e at h
 split at h
 rotate_left
 ·exact h.elim
 refine⟨_,(@QSs.pss _ _ _ (a0u (a1l (a0m (i:=1) (hs:=a2y) a9k.nd rfl (by walk_at "or1") (a0l a1u (mv 0) a0e))) (a0u (a1l (a0m (i:=2) (hs:=a2y) a9k.nd rfl (by walk_at "or1") (a0l (a1f K rfl) (a0l (a1f K rfl) a0f (a3x K rfl Xz X9 X7 (a9c K rfl) a0f (a0a (b3f rfl (a4w rfl T.n_g7 (a0a (mv 1) a0c)) (a9b (a0i a5z) ["_law_cell","_law_many","_law_text"] ["_law_cell","_law_many","_law_text"] rfl rfl (by decide+kernel)) (fun _ _ _ _ _=>a9a) (fun _ _ _ _ _=>(a6m d0r rfl T.n_i1 boot_str (a0a (mv 0) a0c)))) a0c))) a0f))) (a1t (b3k (a1h (a0k (a0x (mv 2)) (a0k (a1h (a0k (a0x a0f) (a0k (a0x a0f) (a0k (a0x (a6m (c3q K rfl) rfl T.n_h4 Uq (a0a (b3f rfl (a4w rfl T.n_g7 (a0a (mv 1) a0c)) (a9b (a0i a5z) ["_law_cell","_law_many","_law_text"] ["_law_cell","_law_many","_law_text"] rfl rfl (by decide+kernel)) (fun _ _ _ _ _=>a9a) (fun _ _ _ _ _=>(a0y (a0a a0f (a0a (mv 0) a0c))))) a0c))) a1d rfl) rfl) rfl)) (a0k (a0x (d3d a4x a4x a0e (mv 1) a0e)) a1d rfl) rfl) rfl))))))),?_⟩
 rename_i c
 have b1:=Yd c (show(8:Int)≠0 by decide)
 have b2:=Z5 c (show(0:Int)<8 by decide)
 walk_at "s"
 generalize c%8=m at b1 b2 ⊢
 obtain⟨n,rfl⟩:=Yi b1
 refine⟨b1z,?_⟩
 walk_at "s"
 refine⟨(n:Int),rfl,by omega,by omega,fun D hD=>?_⟩
 refine a7s (a3u 0 (n:Int).toNat) (fun i ys H'=>Same H H'/\H' D=some (.lst ys)/\ys=(List.range i).map fun k=>V.str (stT [48+k])) (ln (by omega)) ⟨a0d hD _,a0b,rfl⟩ (fun _ _ _ _=>trivial) (fun i ys H' Q' hi' hl' hP k=>?_) (fun ys H' hl' hP=>?_)
 ·obtain⟨g1,g2,rfl⟩:=hP
  walk_at "s"
  refine d0t (by omega) (by omega) ?_
  rw[show(0+(i:Int)).toNat=i by omega,figs_d (by omega)]
  refine k _ _ g2 ⟨a2k g1 hD,a0b,?_⟩
  rw[Vo,Zk]
  rfl
 obtain⟨g1,g2,rfl⟩:=hP
 rw[Z8]at g2
 walk_at "s"
 refine b2a (sp:=[44,32]) (ls:=(List.range n).map fun k=>[48+k]) (by decide+kernel) (by rw[Yh];exact SqL.of g2) ?_ ?_
 ·have:∀l:List Nat,((l.map fun k=>[48+k]).map List.length).sum=l.length:=fun l=>by induction l with|nil=>rfl|cons a r ih=>simp only[Zu,Wk,ih,length_cons,length_nil];omega
  rw[this,length_map,Wd]
  simp
  omega
 rw[b3u]
 have hj:=b3v (ls:=(List.range n).map fun k=>[48+k]) (n:=1) (fun l hl=>by obtain⟨k,_,rfl⟩:=Z7.mp hl;simp)
 rw[length_map,Wd]at hj
 refine a5o (a:=[104,40]) (by decide+kernel) (by simp;omega) ?_
 walk_at "s"
 refine a4s (b:=[41]) (by decide+kernel) (by simp;omega) ?_
 rw[show([104,40]++jt ((List.range n).map fun k=>[48+k]))++[41]=a9z n by simp[a9z]]
 walk_at "s"
 refine⟨(n:Int),rfl,by omega,by omega,fun D2 hD2=>?_⟩
 refine a7s (a3u 0 (n:Int).toNat) (fun i ys H2=>Same H' H2/\H2 D2=some (.lst ys)/\DenL K H2 ys (Trm.dataL ((List.range i).map fun k:Nat=>Trm.num (k:Int)))) (ln (by omega)) ⟨a0d hD2 _,a0b,.nil⟩ (fun _ _ _ _=>trivial) (fun i ys H2 Q' hi' hl' hP k=>?_) (fun ys H2 hl' hP=>?_)
 ·obtain⟨f1,f2,f3⟩:=hP
  walk_at "s"
  refine⟨ln (by show 2<=100000;decide),fun p1 hp1=>?_⟩
  have sp1:Same H2 (upd H2 p1 (.tup [.str (ofString "num"),.int (0+(i:Int))])):=a0d hp1 _
  have kp1:(upd H2 p1 (.tup [.str (ofString "num"),.int (0+(i:Int))])) p1=some (.tup [.str (ofString "num"),.int (0+(i:Int))]):=a0b
  generalize upd H2 p1 (.tup [.str (ofString "num"),.int (0+(i:Int))])=H3 at sp1 kp1 ⊢
  walk_at "s"
  refine k _ _ (sp1 _ _ f2) ⟨a2k (f1.trans sp1) hD2,a0b,?_⟩
  rw[Vo,Zk,Trm.dataL_map,Zk,<-Trm.dataL_map]
  have d1:Den K H3 (.ref p1) (Trm.num (i:Int)).data:=by
   have:=a6d (SqT.of kp1:SqT K H3 p1 _)
   rwa[show(0+(i:Int))=(i:Int) by omega]at this
  exact((f3.mono sp1).append (.cons d1 .nil)).lst (sp1 _ _ f2)
 obtain⟨f1,f2,f3⟩:=hP
 rw[Z8]at f3
 walk_at "s"
 refine d0q (SqL.of f2) (fun p0 hp0=>?_)
 have sp0:=a0d hp0 (.tup ys)
 have kp0:(upd H2 p0 (.tup ys)) p0=some (.tup ys):=a0b
 generalize upd H2 p0 (.tup ys)=T0 at sp0 kp0 ⊢
 walk_at "s"
 refine⟨ln (by show 3<=100000;decide),fun p1 hp1=>?_⟩
 have sp1:Same T0 (upd T0 p1 (.tup [.str (ofString "app"),.str (ofString "h"),.ref p0])):=a0d hp1 _
 have kp1:(upd T0 p1 (.tup [.str (ofString "app"),.str (ofString "h"),.ref p0])) p1=some (.tup [.str (ofString "app"),.str (ofString "h"),.ref p0]):=a0b
 generalize upd T0 p1 (.tup [.str (ofString "app"),.str (ofString "h"),.ref p0])=Tp1 at sp1 kp1 ⊢
 walk_at "s"
 have fin:∀(bb:Bool),bb=decide (0<n/\n<5)->∀p2,Tp1 p2=none->Q (.ref p2) (upd Tp1 p2 (.tup [.str (stT (a9z n)),.ref p1,.bl bb])):=fun bb eb p2 hp2=>by
  have sp2:=a0d hp2 (.tup [.str (stT (a9z n)),.ref p1,.bl bb])
  subst eb
  exact h p2 (a9z n) (.ref p1) (b6l n) _ _ (((((g1.trans f1).trans sp0).trans sp1)).trans sp2) (SqT.of a0b) (a2d (SqT.of (sp2 _ _ kp1)) (SqT.of (sp2 _ _ (sp1 _ _ kp0))) (f3.mono ((sp0.trans sp1).trans sp2))) (d4c n (by omega))
 refine iteB (fun e=>?_) (fun e=>?_)
 ·have e:=Zm e
  walk_at "s"
  exact⟨ln (by show 3<=100000;decide),fun p2 hp2=>fin _ (Wg.mpr (by omega)) p2 hp2⟩
 ·have e:=Zo e
  walk_at "s"
  exact⟨ln (by show 3<=100000;decide),fun p2 hp2=>fin false (Zg (by omega)).symm p2 hp2⟩
theorem a7f(n:Nat)(p:List Nat):(rep n p).length=n*p.length:=by
 induction n with
 |zero=>simp[rep]
 |succ n ih=>unfold rep at ih ⊢;rw[Yq,Xu,Za,ih,Vi];omega
theorem d2m(T:Txt K mg t)  :FnOk P w K mg base CX0 1 t.a_f1 t.d_f1 ["_law_cell"] (b2n K):=by
 refine T.F_f1.ok a4z (fun vs H Q E h=>?_) (fun cdv A outer s H vs Q E hr h=>?_)
 ·unfold b2n at h
  split at h
  ·rfl
  ·exact h.elim
 unfold b2n at h
 split at h
 rotate_left
 ·exact h.elim
 refine⟨_,(@QSs.pss _ _ _ (a0u (c3w (i:=1) a4z.nd rfl (by walk_at "or1") (a1h (a0k (a0x a0f) (a0k (a0x a0f) (a0k (a1h a1d) a1d rfl) rfl) rfl)) b1k (by walk_at "or1")) (a0u (a5h (a0v a1s (a0l a1u (mv 0) a0e) a0e (a0t _)) (a0u (a1l (a0m (i:=2) (hs:=a2y) a4z.nd rfl (by walk_at "or1") (a0l a1u (a0l a2h (mv 0) a0e) a0e))) (a1t (a1l (a0o (a0y (a0a (a0l (a1f K rfl) (a0l (a1f K rfl) (a0l b1a a0f (mv 2)) a0f) (a0l b1a a0f (mv 2))) (a0a (mv 1) (a0a a3b a0c)))))))) a4v) (a0u (a5h (a0v a1s (a0l a1u (mv 0) a0e) a0e (a0t _)) (a0u (a1l (a0m (i:=2) (hs:=a2y) a4z.nd rfl (by walk_at "or1") (a0l (a1f K rfl) a0e (a0l a1u (a0l a2h (mv 0) a0e) a0e)))) (a0u (a1l (a7h Yj rfl (a4w rfl T.n_g7 (a0a (mv 2) a0c)) (a6b (i:=3) a4z.nd rfl (by walk_at "or1")) (a0h (a0m (i:=1) (hs:=b1k) a4z.nd rfl (by walk_at "or1") (a0y (a0a a0f (a0a a0f (a0a (a0y (a0a (mv 1) a0c)) a0c)))))))) (a1t (a1l (a0o (a0y (a0a (a0l (a1f K rfl) (a0l (a1f K rfl) (a0l b1a a0f (mv 2)) a0f) (a0l b1a a0f (mv 2))) (a0a (mv 1) (a0a a3b a0c))))))))) a4v) (a0u (a1l (a0m (i:=2) (hs:=a2y) a4z.nd rfl (by walk_at "or1") (a0l (a1f K rfl) a0e (a0l a1u (a0l a2h (mv 0) a0e) a0e)))) (a0u (a1l (a7h Yj rfl (a4w rfl T.n_g7 (a0a (mv 2) a0c)) (a6b (i:=3) a4z.nd rfl (by walk_at "or1")) (a0h (a0m (i:=1) (hs:=b1k) a4z.nd rfl (by walk_at "or1") (a0y (a0a a0f (a0a a0f (a0a (a0y (a0a (mv 1) (a0a (a0y (a0a a0f (a0a a0f (a0a (a0y a0c) a0c)))) a0c))) a0c)))))))) (a1t (a1l (a0o (a0y (a0a (a0l (a1f K rfl) (a0l (a1f K rfl) (a0l b1a a0f (mv 2)) a0f) (a0l b1a a0f (mv 2))) (a0a (mv 1) (a0a a3b a0c))))))))))))),?_⟩
 rename_i c
 walk_at "s"
 refine⟨ln (by show 0<=100000;decide),fun p1 hp1=>?_⟩
 have sp1:Same H (upd H p1 (.tup [])):=a0d hp1 _
 have kp1:(upd H p1 (.tup [])) p1=some (.tup []):=a0b
 generalize upd H p1 (.tup [])=Tp1 at sp1 kp1 ⊢
 walk_at "s"
 refine⟨ln (by show 3<=100000;decide),fun p2 hp2=>?_⟩
 have sp2:Same Tp1 (upd Tp1 p2 (.tup [.str (ofString "app"),.str (ofString "a"),.ref p1])):=a0d hp2 _
 have kp2:(upd Tp1 p2 (.tup [.str (ofString "app"),.str (ofString "a"),.ref p1])) p2=some (.tup [.str (ofString "app"),.str (ofString "a"),.ref p1]):=a0b
 generalize upd Tp1 p2 (.tup [.str (ofString "app"),.str (ofString "a"),.ref p1])=Tp2 at sp2 kp2 ⊢
 walk_at "s"
 have da:Den K Tp2 (.ref p2) (Trm.app (ofString "a") []).data:=a2d (SqT.of kp2) (SqT.of (sp2 _ _ kp1)) .nil
 refine iteB (fun e=>?_) (fun e=>?_)
 ·walk_at "s"
  have b1:=Yd (c/3) (show(60:Int)≠0 by decide)
  have b2:=Z5 (c/3) (show(0:Int)<60 by decide)
  generalize c/3%60=m at b1 b2 ⊢
  obtain⟨n,rfl⟩:=Yi b1
  refine b1b (p:=[40]) (by decide+kernel) (by decide) (by decide) (by omega) (by omega) ?_
  rw[Z8]
  walk_at "s"
  refine a4s (a:=rep n [40]) (b:=[97]) (by decide+kernel) (by rw[a7f];simp;omega) ?_
  walk_at "s"
  refine b1b (p:=[41]) (by decide+kernel) (by decide) (by decide) (by omega) (by omega) ?_
  rw[Z8]
  walk_at "s"
  refine a4s (b:=rep n [41]) rfl (by rw[Za,a7f,a7f];simp;omega) ?_
  rw[Zw]
  walk_at "s"
  have g1:=Same.refl Tp2
  have g2:=da
  refine⟨ln (by show 3<=100000;decide),fun p9 hp9=>?_⟩
  have s9:=a0d hp9 (.tup [.str (stT (rep n [40]++([97]++rep n [41]))),(.ref p2),.bl true])
  exact h p9 _ (.ref p2) _ true _ (((sp1.trans sp2).trans g1).trans s9) (SqT.of a0b) (g2.mono s9) (cse_d0 (by omega))
 walk_at "s"
 refine iteB (fun e=>?_) (fun e=>?_)
 ·walk_at "s"
  have b1:=Yd (c/3) (show(15:Int)≠0 by decide)
  have b2:=Z5 (c/3) (show(0:Int)<15 by decide)
  obtain⟨n,hn⟩:=Yi (show 0<=32+c/3%15 by omega)
  rw[hn]
  refine⟨(n:Int),rfl,by omega,by omega,?_⟩
  refine a5m (a3u 0 (n:Int).toNat) (fun i σ' H'=>∃(v o3:Option V)(u:V),σ'=[some (.int c),v,some (.int (n:Int)),o3]/\v=some u/\Same Tp2 H'/\Den K H' u (dpT (fun t=>.app (ofString "f") [t]) i).data) ⟨_,none,.ref p2,rfl,rfl,Same.refl _,da⟩ (fun _ _ _ _=>trivial) (fun i σ' H' hi hP=>?_) (fun σ' H' hP=>?_)
  ·obtain⟨v,o3,u,rfl,rfl,g1,g2⟩:=hP
   walk_at "s"
   refine⟨ln (by show 1<=100000;decide),fun q1 hq1=>?_⟩
   have sq1:Same H' (upd H' q1 (.tup [u])):=a0d hq1 _
   have kq1:(upd H' q1 (.tup [u])) q1=some (.tup [u]):=a0b
   generalize upd H' q1 (.tup [u])=J1 at sq1 kq1 ⊢
   walk_at "s"
   refine⟨ln (by show 3<=100000;decide),fun q2 hq2=>?_⟩
   have sq2:Same J1 (upd J1 q2 (.tup [.str (ofString "app"),.str (ofString "f"),.ref q1])):=a0d hq2 _
   have kq2:(upd J1 q2 (.tup [.str (ofString "app"),.str (ofString "f"),.ref q1])) q2=some (.tup [.str (ofString "app"),.str (ofString "f"),.ref q1]):=a0b
   generalize upd J1 q2 (.tup [.str (ofString "app"),.str (ofString "f"),.ref q1])=J2 at sq2 kq2 ⊢
   walk_at "s"
   exact⟨_,_,_,rfl,rfl,(g1.trans sq1).trans sq2,a2d (SqT.of kq2) (SqT.of (sq2 _ _ kq1)) (.cons (g2.mono (sq1.trans sq2)) .nil)⟩
  obtain⟨v,o3,u,rfl,rfl,g1,g2⟩:=hP
  rw[Z8]at g2
  walk_at "s"
  refine b1b (p:=[102,40]) (by decide+kernel) (by decide) (by decide) (by omega) (by omega) ?_
  rw[Z8]
  walk_at "s"
  refine a4s (a:=rep n [102,40]) (b:=[97]) (by decide+kernel) (by rw[a7f];simp;omega) ?_
  walk_at "s"
  refine b1b (p:=[41]) (by decide+kernel) (by decide) (by decide) (by omega) (by omega) ?_
  rw[Z8]
  walk_at "s"
  refine a4s (b:=rep n [41]) rfl (by rw[Za,a7f,a7f];simp;omega) ?_
  rw[Zw]
  walk_at "s"
  refine⟨ln (by show 3<=100000;decide),fun p9 hp9=>?_⟩
  have s9:=a0d hp9 (.tup [.str (stT (rep n [102,40]++([97]++rep n [41]))),u,.bl true])
  exact h p9 _ u _ true _ (((sp1.trans sp2).trans g1).trans s9) (SqT.of a0b) (g2.mono s9) (cse_d1 (by omega))
 walk_at "s"
 have b1:=Yd (c/3) (show(11:Int)≠0 by decide)
 have b2:=Z5 (c/3) (show(0:Int)<11 by decide)
 obtain⟨n,hn⟩:=Yi (show 0<=15+c/3%11 by omega)
 rw[hn]
 refine⟨(n:Int),rfl,by omega,by omega,?_⟩
 refine a5m (a3u 0 (n:Int).toNat) (fun i σ' H'=>∃(v o3:Option V)(u:V),σ'=[some (.int c),v,some (.int (n:Int)),o3]/\v=some u/\Same Tp2 H'/\Den K H' u (dpT (fun t=>.app a8n [t,a3f]) i).data) ⟨_,none,.ref p2,rfl,rfl,Same.refl _,da⟩ (fun _ _ _ _=>trivial) (fun i σ' H' hi hP=>?_) (fun σ' H' hP=>?_)
 ·obtain⟨v,o3,u,rfl,rfl,g1,g2⟩:=hP
  walk_at "s"
  refine⟨ln (by show 0<=100000;decide),fun q1 hq1=>?_⟩
  have sq1:Same H' (upd H' q1 (.tup [])):=a0d hq1 _
  have kq1:(upd H' q1 (.tup [])) q1=some (.tup []):=a0b
  generalize upd H' q1 (.tup [])=Tq1 at sq1 kq1 ⊢
  walk_at "s"
  refine⟨ln (by show 3<=100000;decide),fun q2 hq2=>?_⟩
  have sq2:Same Tq1 (upd Tq1 q2 (.tup [.str (ofString "app"),.str (ofString "[]"),.ref q1])):=a0d hq2 _
  have kq2:(upd Tq1 q2 (.tup [.str (ofString "app"),.str (ofString "[]"),.ref q1])) q2=some (.tup [.str (ofString "app"),.str (ofString "[]"),.ref q1]):=a0b
  generalize upd Tq1 q2 (.tup [.str (ofString "app"),.str (ofString "[]"),.ref q1])=Tq2 at sq2 kq2 ⊢
  walk_at "s"
  refine⟨ln (by show 2<=100000;decide),fun q3 hq3=>?_⟩
  have sq3:Same Tq2 (upd Tq2 q3 (.tup [u,.ref q2])):=a0d hq3 _
  have kq3:(upd Tq2 q3 (.tup [u,.ref q2])) q3=some (.tup [u,.ref q2]):=a0b
  generalize upd Tq2 q3 (.tup [u,.ref q2])=Tq3 at sq3 kq3 ⊢
  walk_at "s"
  refine⟨ln (by show 3<=100000;decide),fun q4 hq4=>?_⟩
  have sq4:Same Tq3 (upd Tq3 q4 (.tup [.str (ofString "app"),.str (ofString "[|]"),.ref q3])):=a0d hq4 _
  have kq4:(upd Tq3 q4 (.tup [.str (ofString "app"),.str (ofString "[|]"),.ref q3])) q4=some (.tup [.str (ofString "app"),.str (ofString "[|]"),.ref q3]):=a0b
  generalize upd Tq3 q4 (.tup [.str (ofString "app"),.str (ofString "[|]"),.ref q3])=Tq4 at sq4 kq4 ⊢
  walk_at "s"
  exact⟨_,_,_,rfl,rfl,((((g1).trans sq1).trans sq2).trans sq3).trans sq4,a2d (SqT.of kq4) (SqT.of (sq4 _ _ kq3)) (.cons (g2.mono (((sq1.trans sq2).trans sq3).trans sq4)) (.cons (a2d (SqT.of (sq4 _ _ (sq3 _ _ kq2))) (SqT.of (sq4 _ _ (sq3 _ _ (sq2 _ _ kq1)))) .nil) .nil))⟩
 obtain⟨v,o3,u,rfl,rfl,g1,g2⟩:=hP
 rw[Z8]at g2
 walk_at "s"
 refine b1b (p:=[91]) (by decide+kernel) (by decide) (by decide) (by omega) (by omega) ?_
 rw[Z8]
 walk_at "s"
 refine a4s (a:=rep n [91]) (b:=[97]) (by decide+kernel) (by rw[a7f];simp;omega) ?_
 walk_at "s"
 refine b1b (p:=[93]) (by decide+kernel) (by decide) (by decide) (by omega) (by omega) ?_
 rw[Z8]
 walk_at "s"
 refine a4s (b:=rep n [93]) rfl (by rw[Za,a7f,a7f];simp;omega) ?_
 rw[Zw]
 walk_at "s"
 refine⟨ln (by show 3<=100000;decide),fun p9 hp9=>?_⟩
 have s9:=a0d hp9 (.tup [.str (stT (rep n [91]++([97]++rep n [93]))),u,.bl true])
 exact h p9 _ u _ true _ (((sp1.trans sp2).trans g1).trans s9) (SqT.of a0b) (g2.mono s9) (cse_d2 (by omega))
end
section
variable{P:Program}{w:World}{K:W.Frag}{mg:Str->Option Value}{base:Heap}{t:Ad}
theorem b1c:(ofString "123456789").length=9/\(∀y∈(ofString "123456789").cps.toList,y∈figS.cps.toList/\y≠48)/\(ofString "0123456789").length=10/\(∀y∈(ofString "0123456789").cps.toList,y∈figS.cps.toList):=by decide+kernel
theorem c2c(T:Txt K mg t)(G_b9:FnOk P w K mg base CX0 1 t.a_b9 t.d_b9 ["_law_cell","_law_many"] (a6c)):FnOk P w K mg base CX0 2 t.a_e7 t.d_e7 ["_law_cell","_law_rest"] (a7q K):=by
 refine T.F_e7.ok a3k (fun vs H Q E h=>?_) (fun cdv A outer s H vs Q E hr h=>?_)
 ·unfold a7q at h
  split at h
  ·rfl
  ·exact h.elim
 unfold a7q at h
 split at h
 rotate_left
 ·exact h.elim
 refine⟨_,(@QSs.pss _ _ _ (a0u (a1l (a0m (i:=2) (hs:=a2y) a3k.nd rfl (by walk_at "or1") (a0l (a1f K rfl) a0e (a0l a1u (mv 0) a0e)))) (a0u (a1l (a0m (i:=3) (hs:=a8p) a3k.nd rfl (by walk_at "or1") (a0s (a0n K rfl) a0f (a0l a1u (a0l a2h (mv 0) a0e) a0e) (fun _ _=>rfl)))) (a0u (a1l (a7h Yj rfl (b7g K rfl (a0p G_b9 (hr.mono (by walk_at "r")) rfl T.m_b9 T.F_b9.kp T.b_b9 .nil a0r (a0a (mv 1) (a0a (a0l b0b (mv 2) a0e) a0c)))) (a6b (i:=4) a3k.nd rfl (by walk_at "or1")) (a0h (a0m (i:=3) (hs:=a2y) a3k.nd rfl (by walk_at "or1") (a0l (a1f K rfl) (mv 3) (a0s (a0n K rfl) a0f (a0l a1u (a0l a2h (mv 4) a0e) a0e) (fun _ _=>rfl))))))) (a0u (a1l (a0m (i:=5) (hs:=b1k) a3k.nd rfl (by walk_at "or1") (a0y (a0a a0f (a0a (a6m c0b rfl T.n_h7 Tn (a0a (mv 3) a0c)) a0c))))) (a0u (a5h (a0v a1s (a0l a1u (a0l a2h (mv 0) a0e) a0e) a0e (a0t _)) (a0u (a1l (a0m (i:=3) (hs:=a2y) a3k.nd rfl (by walk_at "or1") (a0l (a1f K rfl) a0f (mv 3)))) (a1t (a1l (a0m (i:=5) (hs:=b1k) a3k.nd rfl (by walk_at "or1") (a0y (a0a a0f (a0a (a0l b0b a0e (a0s (a0n K rfl) (mv 5) a0e (fun _ _=>rfl))) a0c))))))) a4v) (a0u (a5h (a0v a1s (a0l a1u (a0l a2h (mv 0) a0e) a0e) a0e (a0t _)) (a1t (b3k (a1h (a0k (a0x (a0l (a1f K rfl) a0f (mv 3))) (a0k (a1h (a0k (a0x a0f) (a0k (a0x a0f) (a0k (a1h (a0k (a1h (a0k (a0x a0f) (a0k (a0x a0e) a1d rfl) rfl)) (a0k (a0x (mv 5)) a1d rfl) rfl)) a1d rfl) rfl) rfl)) (a0k (a0x (a2l a4x (mv 2) a0e (a0t _))) a1d rfl) rfl) rfl)))) a4v) (a1t (a1l (a0o (a0y (a0a (mv 3) (a0a (mv 5) (a0a (a2l a4x (mv 2) a0e (a0t _)) a0c)))))))))))))),?_⟩
 rename_i c d
 have b1:=Yd c (show(8:Int)≠0 by decide)
 have b2:=Z5 c (show(0:Int)<8 by decide)
 obtain⟨x,hx⟩:=b2g (z:=ofString "123456789") (Yd (c/8) (show(9:Int)≠0 by decide)) (by rw[b1c.1];exact Z5 _ (by decide))
 obtain⟨hx1,hx2⟩:=b1c.2.1 x (b0y hx)
 walk_at "s"
 refine a4y (ln (by rw[b1c.1];decide)) hx ?_
 walk_at "s"
 refine⟨by omega,by omega,fun p ns H1 hn s1 k1=>?_⟩
 walk_at "s"
 refine⟨p,rfl,⟨_,SqL.of k1⟩,?_⟩
 refine a5m (b7d (xs:=ns.map V.int)) (fun i σ' H'=>∃(r:List Nat)(o5:Option V),σ'=[some (.int c),some (.int d),some (.int (27+c%8)),some (.str (stT (x::r))),o5,none]/\H1=H'/\r.length=i/\∀y∈r,y∈figS.cps.toList) ⟨[],none,rfl,rfl,rfl,fun _ h=>by cases h⟩ (fun i σ' H' hP=>by obtain⟨_,_,_,rfl,_⟩:=hP;exact SqL.of k1) (fun i σ' H' hi hP=>?_) (fun σ' H' hP=>?_)
 ·obtain⟨r,o5,rfl,rfl,g3,g4⟩:=hP
  rw[length_map]at hi
  rw[show(ns.map V.int).getD i .non=.int ns[i] by rw[Z3,Yu,Zb hi];rfl]
  walk_at "s"
  obtain⟨y,hy⟩:=b2g (z:=ofString "0123456789") (Yd (ns[i]/7) (show(10:Int)≠0 by decide)) (by rw[b1c.2.2.1];exact Z5 _ (by decide))
  refine a4y (ln (by rw[b1c.2.2.1];decide)) hy ?_
  walk_at "s"
  refine a4s (a:=x::r) (b:=[y]) rfl (by simp;omega) ?_
  walk_at "s"
  exact⟨r++[y],_,rfl,rfl,by simp[g3],fun z hz=>by
   rcases Zv.mp hz with hz|hz
   ·exact g4 z hz
   ·rw[Zn.mp hz];exact b1c.2.2.2 y (b0y hy)⟩
 obtain⟨r,o5,rfl,rfl,g3,g4⟩:=hP
 rw[length_map]at g3
 have hlen:(x::r).length=(27+c%8).toNat:=by rw[length_cons];omega
 have nz:NumZ (x::r):=⟨x,r,rfl,fun y hy=>by
  rcases Zj.mp hy with e|e
  ·rw[e];exact hx1
  ·exact g4 y e,.inr hx2⟩
 have n48:(x::r)≠[48]:=fun e=>hx2 (Vb e).1
 have ev:a1i (valD (x::r))=x::r:=(b4j _ _ rfl nz).1
 have es:(ofString (toString ((valD (x::r):Nat):Int)):Str)=stT (x::r):=(b7i _).trans (by rw[ev])
 have ed:decide (27+c%8<31)=decide ((x::r).length<31):=Wg.mpr (by rw[hlen];omega)
 walk_at "s"
 refine⟨valD (x::r),by rw[es],by rw[es,str_len,hlen];omega,?_⟩
 walk_at "s"
 refine⟨ln (by show 2<=100000;decide),fun p1 hp1=>?_⟩
 have sp1:Same H1 (upd H1 p1 (.tup [.str (ofString "num"),.int ((valD (x::r):Nat):Int)])):=a0d hp1 _
 have kp1:(upd H1 p1 (.tup [.str (ofString "num"),.int ((valD (x::r):Nat):Int)])) p1=some (.tup [.str (ofString "num"),.int ((valD (x::r):Nat):Int)]):=a0b
 generalize upd H1 p1 (.tup [.str (ofString "num"),.int ((valD (x::r):Nat):Int)])=T1 at sp1 kp1 ⊢
 walk_at "s"
 refine iteB (fun e0=>?_) (fun e0=>?_)
 ·walk_at "s"
  refine a5o (a:=[126]) (b:=x::r) (by decide+kernel) (by simp;omega) ?_
  walk_at "s"
  refine a1c (SqT.of kp1) (v:=.int ((valD (x::r):Nat):Int)) rfl ?_
  walk_at "s"
  refine⟨ln (by show 2<=100000;decide),fun p2 hp2=>?_⟩
  have sp2:Same T1 (upd T1 p2 (.tup [.str (ofString "num"),.int (0-((valD (x::r):Nat):Int))])):=a0d hp2 _
  have kp2:(upd T1 p2 (.tup [.str (ofString "num"),.int (0-((valD (x::r):Nat):Int))])) p2=some (.tup [.str (ofString "num"),.int (0-((valD (x::r):Nat):Int))]):=a0b
  generalize upd T1 p2 (.tup [.str (ofString "num"),.int (0-((valD (x::r):Nat):Int))])=T2 at sp2 kp2 ⊢
  walk_at "s"
  have dv:Den K T2 (.ref p2) (Trm.num (ngV true (x::r))).data:=by
   have:=a6d (SqT.of kp2:SqT K T2 p2 _)
   rwa[show(0-((valD (x::r):Nat):Int))=ngV true (x::r) by show _= -_;omega]at this
  refine iteB (fun e=>?_) (fun e=>?_)
  ·walk_at "s"
   refine a5o (a:=[49,32,43,32]) (b:=ngT true (x::r)) (by decide+kernel) (by simp[ngT];omega) ?_
   walk_at "s"
   refine⟨ln (by show 2<=100000;decide),fun r1 hr1=>?_⟩
   have sr1:Same T2 (upd T2 r1 (.tup [.str (ofString "num"),.int 1])):=a0d hr1 _
   have kr1:(upd T2 r1 (.tup [.str (ofString "num"),.int 1])) r1=some (.tup [.str (ofString "num"),.int 1]):=a0b
   generalize upd T2 r1 (.tup [.str (ofString "num"),.int 1])=Tr1 at sr1 kr1 ⊢
   walk_at "s"
   refine⟨ln (by show 2<=100000;decide),fun r2 hr2=>?_⟩
   have sr2:Same Tr1 (upd Tr1 r2 (.tup [.ref r1,.ref p2])):=a0d hr2 _
   have kr2:(upd Tr1 r2 (.tup [.ref r1,.ref p2])) r2=some (.tup [.ref r1,.ref p2]):=a0b
   generalize upd Tr1 r2 (.tup [.ref r1,.ref p2])=Tr2 at sr2 kr2 ⊢
   walk_at "s"
   refine⟨ln (by show 3<=100000;decide),fun r3 hr3=>?_⟩
   have sr3:Same Tr2 (upd Tr2 r3 (.tup [.str (ofString "app"),.str (ofString "+"),.ref r2])):=a0d hr3 _
   have kr3:(upd Tr2 r3 (.tup [.str (ofString "app"),.str (ofString "+"),.ref r2])) r3=some (.tup [.str (ofString "app"),.str (ofString "+"),.ref r2]):=a0b
   generalize upd Tr2 r3 (.tup [.str (ofString "app"),.str (ofString "+"),.ref r2])=Tr3 at sr3 kr3 ⊢
   walk_at "s"
   refine⟨ln (by show 3<=100000;decide),fun r4 hr4=>?_⟩
   have sr4:Same Tr3 (upd Tr3 r4 (.tup [.str (stT ([49,32,43,32]++ngT true (x::r))),.ref r3,.bl (decide (27+c%8<31))])):=a0d hr4 _
   have kr4:(upd Tr3 r4 (.tup [.str (stT ([49,32,43,32]++ngT true (x::r))),.ref r3,.bl (decide (27+c%8<31))])) r4=some (.tup [.str (stT ([49,32,43,32]++ngT true (x::r))),.ref r3,.bl (decide (27+c%8<31))]):=a0b
   generalize upd Tr3 r4 (.tup [.str (stT ([49,32,43,32]++ngT true (x::r))),.ref r3,.bl (decide (27+c%8<31))])=Tr4 at sr4 kr4 ⊢
   walk_at "s"
   rw[ed]at kr4
   exact h r4 ([49,32,43,32]++ngT true (x::r)) (.ref r3) (.app (ofString "+") [.num 1,.num (ngV true (x::r))]) _ _ ((((((s1.trans sp1).trans sp2).trans sr1).trans sr2).trans sr3).trans sr4) (SqT.of kr4) (a2d (SqT.of (sr4 _ _ kr3)) (SqT.of (sr4 _ _ (sr3 _ _ kr2))) (.cons (a6d (SqT.of (sr4 _ _ (sr3 _ _ (sr2 _ _ kr1))))) (.cons (dv.mono (((sr1.trans sr2).trans sr3).trans sr4)) .nil))) (c5j nz n48 (by rw[hlen];omega) true)
  walk_at "s"
  refine⟨ln (by show 3<=100000;decide),fun r1 hr1=>?_⟩
  have sr1:=a0d hr1 (.tup [.str (stT (ngT true (x::r))),.ref p2,.bl (decide ((x::r).length<31))])
  have hh:=h r1 (ngT true (x::r)) (.ref p2) (.num (ngV true (x::r))) _ _ (((s1.trans sp1).trans sp2).trans sr1) (SqT.of a0b) (dv.mono sr1) (c7w nz n48 (by rw[hlen];omega) true)
  rw[<-ed]at hh
  exact hh
 walk_at "s"
 have dv:Den K T1 (.ref p1) (Trm.num (ngV false (x::r))).data:=a6d (SqT.of kp1:SqT K T1 p1 _)
 refine iteB (fun e=>?_) (fun e=>?_)
 ·walk_at "s"
  refine a5o (a:=[49,32,43,32]) (b:=ngT false (x::r)) (by decide+kernel) (by simp[ngT];omega) ?_
  walk_at "s"
  refine⟨ln (by show 2<=100000;decide),fun r1 hr1=>?_⟩
  have sr1:Same T1 (upd T1 r1 (.tup [.str (ofString "num"),.int 1])):=a0d hr1 _
  have kr1:(upd T1 r1 (.tup [.str (ofString "num"),.int 1])) r1=some (.tup [.str (ofString "num"),.int 1]):=a0b
  generalize upd T1 r1 (.tup [.str (ofString "num"),.int 1])=Tr1 at sr1 kr1 ⊢
  walk_at "s"
  refine⟨ln (by show 2<=100000;decide),fun r2 hr2=>?_⟩
  have sr2:Same Tr1 (upd Tr1 r2 (.tup [.ref r1,.ref p1])):=a0d hr2 _
  have kr2:(upd Tr1 r2 (.tup [.ref r1,.ref p1])) r2=some (.tup [.ref r1,.ref p1]):=a0b
  generalize upd Tr1 r2 (.tup [.ref r1,.ref p1])=Tr2 at sr2 kr2 ⊢
  walk_at "s"
  refine⟨ln (by show 3<=100000;decide),fun r3 hr3=>?_⟩
  have sr3:Same Tr2 (upd Tr2 r3 (.tup [.str (ofString "app"),.str (ofString "+"),.ref r2])):=a0d hr3 _
  have kr3:(upd Tr2 r3 (.tup [.str (ofString "app"),.str (ofString "+"),.ref r2])) r3=some (.tup [.str (ofString "app"),.str (ofString "+"),.ref r2]):=a0b
  generalize upd Tr2 r3 (.tup [.str (ofString "app"),.str (ofString "+"),.ref r2])=Tr3 at sr3 kr3 ⊢
  walk_at "s"
  refine⟨ln (by show 3<=100000;decide),fun r4 hr4=>?_⟩
  have sr4:Same Tr3 (upd Tr3 r4 (.tup [.str (stT ([49,32,43,32]++ngT false (x::r))),.ref r3,.bl (decide (27+c%8<31))])):=a0d hr4 _
  have kr4:(upd Tr3 r4 (.tup [.str (stT ([49,32,43,32]++ngT false (x::r))),.ref r3,.bl (decide (27+c%8<31))])) r4=some (.tup [.str (stT ([49,32,43,32]++ngT false (x::r))),.ref r3,.bl (decide (27+c%8<31))]):=a0b
  generalize upd Tr3 r4 (.tup [.str (stT ([49,32,43,32]++ngT false (x::r))),.ref r3,.bl (decide (27+c%8<31))])=Tr4 at sr4 kr4 ⊢
  walk_at "s"
  rw[ed]at kr4
  exact h r4 ([49,32,43,32]++ngT false (x::r)) (.ref r3) (.app (ofString "+") [.num 1,.num (ngV false (x::r))]) _ _ (((((s1.trans sp1).trans sr1).trans sr2).trans sr3).trans sr4) (SqT.of kr4) (a2d (SqT.of (sr4 _ _ kr3)) (SqT.of (sr4 _ _ (sr3 _ _ kr2))) (.cons (a6d (SqT.of (sr4 _ _ (sr3 _ _ (sr2 _ _ kr1))))) (.cons (dv.mono (((sr1.trans sr2).trans sr3).trans sr4)) .nil))) (c5j nz n48 (by rw[hlen];omega) false)
 walk_at "s"
 refine⟨ln (by show 3<=100000;decide),fun r1 hr1=>?_⟩
 have sr1:=a0d hr1 (.tup [.str (stT (ngT false (x::r))),.ref p1,.bl (decide ((x::r).length<31))])
 have hh:=h r1 (ngT false (x::r)) (.ref p1) (.num (ngV false (x::r))) _ _ ((s1.trans sp1).trans sr1) (SqT.of a0b) (dv.mono sr1) (c7w nz n48 (by rw[hlen];omega) false)
 rw[<-ed]at hh
 exact hh
end
def c3a{α:Type}(w:Nat)(a b c d:α):α:=match w with|0=>a|1=>b|2=>c|_=>d
def b9u{α:Type}(w:Nat)(a b:α):α:=match w with|0=>a|_=>b
theorem c5q{α:Type}{w:Nat}(h:w<4)(a b c d:α):atI [a,b,c,d] (w:Int)=some (c3a w a b c d):=
 match w,h with
 |0,_=>rfl
 |1,_=>rfl
 |2,_=>rfl
 |3,_=>rfl
 |n+4,h=>by omega
theorem c5r{α:Type}{w:Nat}(h:w<2)(a b:α):atI [a,b] (w:Int)=some (b9u w a b):=
 match w,h with
 |0,_=>rfl
 |1,_=>rfl
 |n+2,h=>by omega
def kT(w k:Nat):TT:=c3a w ([88],.any (ofString "X")) ([55],.num 7) ([98],.app (ofString "b") []) (126::a1i (k+1),.num (-((k+1:Nat):Int)))
theorem th_k{w k:Nat}(hw:w<4)(hk:k<98):Th (kT w k).1 (kT w k).2:=
 match w,hw with
 |0,_=>th_X
 |1,_=>th_7
 |2,_=>th_b
 |3,_=>th_neg (by omega) (by omega)
 |n+4,h=>by omega
def aT(e:Nat):TT:=b9u e ([97,40,49,41],.app (ofString "a") [.num 1]) ([97,40,88,44,32,50,41],.app (ofString "a") [.any (ofString "X"),.num 2])
theorem th_a{e:Nat}(h:e<2):Th (aT e).1 (aT e).2:=
 match e,h with
 |0,_=>th_a1
 |1,_=>th_aX
 |n+2,h=>by omega
theorem k_txt{w i:Nat}(hw:w<4):c3a w (V.str (ofString "X")) (V.str (ofString "7")) (V.str (ofString "b")) (V.str (stT ([126]++a1i (i+1))))=V.str (stT (kT w i).1):=by
 have e1:(ofString "X":Str)=stT [88]:=by decide+kernel
 have e2:(ofString "7":Str)=stT [55]:=by decide+kernel
 have e3:(ofString "b":Str)=stT [98]:=by decide+kernel
 rw[e1,e2,e3]
 match w,hw with
 |0,_=>rfl
 |1,_=>rfl
 |2,_=>rfl
 |3,_=>rfl
 |n+4,h=>omega
theorem a_txt{e:Nat}(h:e<2):b9u e (V.str (ofString "a(1)")) (V.str (ofString "a(X, 2)"))=V.str (stT (aT e).1):=by
 have e1:(ofString "a(1)":Str)=stT [97,40,49,41]:=by decide+kernel
 have e2:(ofString "a(X, 2)":Str)=stT [97,40,88,44,32,50,41]:=by decide+kernel
 rw[e1,e2]
 match e,h with
 |0,_=>rfl
 |1,_=>rfl
 |n+2,h=>omega
section
variable{K:W.Frag}{H:Hp}
theorem k_den{w i:Nat}(hw:w<4){v1 v2 v3 v4:V}(h1:Den K H v1 (Trm.any (ofString "X")).data)(h2:Den K H v2 (Trm.num 7).data)(h3:Den K H v3 (Trm.app (ofString "b") []).data)(h4:Den K H v4 (Trm.num (-((i+1:Nat):Int))).data):Den K H (c3a w v1 v2 v3 v4) (kT w i).2.data:=
 match w,hw with
 |0,_=>h1
 |1,_=>h2
 |2,_=>h3
 |3,_=>h4
 |n+4,h=>by omega
theorem a_den{e:Nat}(h:e<2){a q2 q5:Addr}{u v1 v2 v3:V}(hu:u=b9u e (.ref q2) (.ref q5))(ha:SqT K H a [.str appS,.str (ofString "a"),u])(h2:SqT K H q2 [v1])(h5:SqT K H q5 [v2,v3])(d1:Den K H v1 (Trm.num 1).data)(d2:Den K H v2 (Trm.any (ofString "X")).data)(d3:Den K H v3 (Trm.num 2).data):Den K H (.ref a) (aT e).2.data:=by
 subst hu
 match e,h with
 |0,_=>exact a2d ha h2 (.cons d1 .nil)
 |1,_=>exact a2d ha h5 (.cons d2 (.cons d3 .nil))
 |n+2,h=>omega
theorem DenL.setI:∀{us:List V}{ds:List PyData}{v:V}{d:PyData}(m:Nat),DenL K H us ds->Den K H v d->DenL K H (us.set m v) (ds.set m d)
 |_,_,_,_,_,.nil,_=>by simp;exact .nil
 |_,_,_,_,0,.cons _ t,hd=>.cons hd t
 |_,_,_,_,m+1,.cons h t,hd=>.cons h (DenL.setI m t hd)
theorem b3x{us:List V}{ts:List Trm}{j:Nat}(h:DenL K H us (Trm.dataL ts))(hj:j<ts.length):∃u,us[j]? =some u/\Den K H u ts[j].data:=by
 have hl:=h.length
 rw[Trm.dataL_map,length_map]at hl
 have e:us[j]? =some us[j]:=Zb (by omega)
 obtain⟨d,h1,h2⟩:=h.get e
 rw[Trm.dataL_map,Yu,Zb hj]at h1
 cases h1
 exact⟨_,e,h2⟩
end
theorem c9f{m:Str}{a:Trm}(ts:List Trm){i:Nat}(h:i<ts.length):a7d m a (ts.take (i+1))=.app m [a7d m a (ts.take i),ts[i]]:=by
 rw[List.take_succ,Zb h]
 unfold a7d
 rw[List.foldl_append]
 rfl
theorem c7z{m:Str}(ts:List Trm){j k:Nat}(e:k=j+1)(h:k<ts.length)(hj:j<ts.length):rf m (ts.drop j)=.app m [ts[j],rf m (ts.drop k)]:=by
 subst e
 rw[W8 hj,W8 h]
 rfl
theorem c8a(xs:List V):cutV xs (some 1) none=xs.drop 1:=by
 unfold cutV HT.sIx
 cases xs with
 |nil=>rfl
 |cons a r=>simp
abbrev tvs(cs:List TT):List V:=(cs.map (·.1)).map fun l=>V.str (stT l)
theorem tvs_set(cs:List TT)(m:Nat)(q:TT):(tvs cs).set m (.str (stT q.1))=tvs (cs.set m q):=by unfold tvs;rw[<-Ua,<-Ua]
theorem th_set{cs:List TT}{m:Nat}{q:TT}(h:∀x∈cs,Th x.1 x.2)(hq:Th q.1 q.2):∀x∈cs.set m q,Th x.1 x.2:=fun x hx=>by
 rcases List.mem_or_eq_of_mem_set hx with e|e
 ·exact h x e
 ·rw[e];exact hq
theorem ths{w n:Nat}(hw:w<4)(hn:n<=24):∀x∈(List.range n).map (kT w),Th x.1 x.2:=fun x hx=>by
 obtain⟨k,hk,rfl⟩:=Z7.mp hx
 exact th_k hw (by have:=Xi.mp hk;omega)
theorem c5s{cs:List TT}(h:∀x∈cs,Th x.1 x.2)(hl:cs.length<=24){n:Nat}(hn:n<=3):((cs.map (·.1)).map List.length).sum+(cs.map (·.1)).length*n<=16777216:=by
 have:((cs.map (·.1)).map List.length).sum<=8*cs.length:=by
  clear hl
  induction cs with
  |nil=>simp
  |cons c cs ih=>
   have:=ih (fun q hq=>h q (Zc _ hq))
   have:=(h c (Ze ..)).len
   simp only[Zu,Wk,length_cons]
   omega
 rw[length_map]
 have:cs.length*n<=cs.length*3:=T4 _ hn
 omega
section
variable{P:Program}{w:World}{K:W.Frag}{mg:Str->Option Value}{base:Heap}{t:Ad}
theorem b9v(ks:List Trm){i:Nat}(h:i<ks.length):Trm.sizeL (ks.take (i+1))=Trm.sizeL (ks.take i)+ks[i].size:=by
 rw[List.take_succ,Zb h,Trm.sizeL_app]
 simp[Trm.sizeL]
theorem size_in{ks:List Trm}{i:Nat}(h:i<ks.length):ks[i].size<=Trm.sizeL ks:=by
 have e:=Trm.sizeL_app (ks.take (i+1)) (ks.drop (i+1))
 rw[List.take_append_drop,b9v ks h]at e
 omega
theorem c9g(T:Txt K mg t)  (n:Nat)(G_b4:FnOk P w K mg base CX0 (n+1) t.a_b4 t.d_b4 ["_law_term"] (a5c K n)):FnOk P w K mg base CX0 (n+1+1) t.a_b4 t.d_b4 ["_law_term"] (a5c K (n+1)):=by
 refine T.F_b4.ok (k:=n+1) b0l (fun vs H Q E h=>?_) (fun cdv A outer s H vs Q E hr h=>?_)
 ·unfold a5c at h
  split at h
  ·rfl
  ·exact h.elim
 unfold a5c at h
 split at h
 rotate_left
 ·exact h.elim
 refine⟨_,(a0g (a1e (a0v b5y (a0s (a0n K rfl) (mv 0) a0e (fun _ _=>rfl)) a0f (a0t _)) (a0h (a0o a0e)) a0z) (a0g (a0m (i:=1) b0l.nd rfl (by walk_at "or1") a0e) (a0g (a7h Yj rfl (kpi_tup K rfl (a0s (a0n K rfl) (mv 0) a0e (fun _ _=>rfl))) (a6b (i:=2) b0l.nd rfl (by walk_at "or1")) (a0h (a0m (i:=1) (hs:=a2y) b0l.nd rfl (by walk_at "or1") (a0l (a1f K rfl) (mv 1) (a0p G_b4 (hr.mono (by walk_at "r")) rfl T.m_b4 T.F_b4.kp T.b_b4 .nil a0r (a0a (mv 2) a0c)))))) (a0h (a0o (mv 1)))))),?_⟩
 rename_i v
 obtain⟨t0,hd,hz,hn,q⟩:=h
 cases t0 with
 |num m=>
  obtain⟨a,rfl,hs⟩:=b6a hd
  walk_at "s"
  refine a1c hs (v:=.str numS) rfl ?_
  walk_at "s"
  refine iteB (fun e=>?_) (fun e=>absurd e (by decide+kernel))
  walk_at "s"
  exact q H (Same.refl H)
 |any m=>
  obtain⟨a,rfl,hs⟩:=b6b hd
  walk_at "s"
  refine a1c hs (v:=.str anyS) rfl ?_
  walk_at "s"
  refine iteB (fun e=>?_) (fun e=>absurd e (by decide+kernel))
  walk_at "s"
  exact q H (Same.refl H)
 |app sg ks=>
  obtain⟨a,b,us,rfl,hs,hb,hk⟩:=b6c hd
  simp only[Trm.size]at hz
  have hl:=hk.length
  rw[Trm.dataL_map,length_map]at hl
  walk_at "s"
  refine a1c hs (v:=.str appS) rfl ?_
  walk_at "s"
  refine iteB (fun e=>absurd e (by decide+kernel)) (fun e=>?_)
  walk_at "s"
  refine a1c hs (v:=.ref b) rfl ?_
  refine⟨b,rfl,⟨_,hb⟩,?_⟩
  refine a5m (row_tup (xs:=us)) (fun i σ' H'=>∃o2:Option V,σ'=[some (.ref a),some (.int ((1+Trm.sizeL (ks.take i):Nat):Int)),o2]/\Same H H') ⟨none,rfl,Same.refl _⟩ (fun i σ' H' hP=>by obtain⟨_,_,s⟩:=hP;exact s.tup hb) (fun i σ' H' hi hP=>?_) (fun σ' H' hP=>?_)
  ·obtain⟨o2,rfl,s1⟩:=hP
   have hi:i<ks.length:=by omega
   obtain⟨x,hx,g1⟩:=b3x hk hi
   rw[show us.getD i .non=x by rw[Z3,hx];rfl]
   have:=size_in hi
   walk_at "s"
   refine⟨ks[i],g1.mono s1,by omega,by omega,fun H2 s2=>?_⟩
   walk_at "s"
   refine⟨some x,?_,s1.trans s2⟩
   have e5:((1+Trm.sizeL (ks.take i):Nat):Int)+(ks[i].size:Int)=((1+Trm.sizeL (ks.take (i+1)):Nat):Int):=by rw[b9v ks hi];omega
   rw[e5]
   rfl
  ·obtain⟨o2,rfl,s1⟩:=hP
   rw[Wp (by omega)]
   walk_at "s"
   exact q _ s1
theorem c9h(T:Txt K mg t)  (n:Nat):FnOk P w K mg base CX0 (n+1) t.a_b4 t.d_b4 ["_law_term"] (a5c K n):=by
 induction n with
 |zero=>
  have no:∀vs H Q E,(a5c K 0) vs H Q E->False:=fun vs H Q E h=>by
   unfold a5c at h
   split at h
   ·exact c9c h
   ·exact h
  exact⟨fun vs H Q E h=>(no vs H Q E h).elim,fun A outer s H args us vs Q E _ _ _ _ h=>(no vs H Q E h).elim⟩
 |succ n ih=>
  have e:n+1+1=n+1+1:=by omega
  rw[e]
  exact c9g T  n ih
theorem a7o.mono{α:Type}{P:List Pc->Option (α×List Pc)->Prop}{l:List Nat}{G G':α->Prop}{R R':Prop}(h:a7o P l G R)(hg:∀y,G y->G' y)(hr:R->R'):a7o P l G' R':=by
 rcases h with⟨a,b⟩|⟨a,o,b,c⟩
 ·exact .inl ⟨a,hr b⟩
 ·refine .inr ⟨a,o,b,?_⟩
  match o,c with
  |some (y,[]),c=>exact hg y c
  |some (_,_::_),c=>exact hr c
  |none,c=>exact hr c
theorem b6m{a:Addr}{H:Hp}(h:SqT K H a [.str refS]):DenL K H [.ref a] [.tuple [.str refS]]:=.cons (.tup h (.cons (.str _) .nil)) .nil
theorem c5t:PyData.depthAll [.tuple [.str refS]]<=149:=by decide
theorem d2n(T:Txt K mg t)(G_f2:a8o P w K mg base 2 t.a_f2 t.d_f2 ["_law_e"] (a5i t.k_a0))(G_d1:FnOk P w K mg base (CXo P w) 8 t.a_d1 t.d_d1 ["text","signs"] (b6j K t.k_a0))(G_e1:FnOk P w K mg base (CXo P w) 9 t.a_e1 t.d_e1 ["text","signs"] (a7p K t.k_a0))(G_f4:FnOk P w K mg base (CXo P w) 9 t.a_f4 t.d_f4 ["text","signs"] (a8w K t.k_a0)):FnOk P w K mg base CX0 10 t.a_b7 t.d_b7 ["_law_text","_law_table","_law_way"] (b2o K t.k_a0):=by
 refine T.F_b7.ok a4l (fun vs H Q E h=>?_) (fun cdv A outer s H vs Q E hr h=>?_)
 ·unfold b2o at h
  split at h
  ·rfl
  ·exact h.elim
 unfold b2o at h
 split at h
 rotate_left
 ·exact h.elim
 refine⟨_,(a0g (a0m (i:=3) (hs:=a7k) a4l.nd rfl (by walk_at "or1") (a1w a0c)) (a0g (a0m (i:=4) a4l.nd rfl (by walk_at "or1") a3b) (a0g (c6d (n:=5) rfl rfl a4l.nd rfl T.m_g2 T.x_g2 rfl rfl (by walk_at "or1") (fun ea=>(a0g (a0m (i:=4) (hs:=a1q) a4l.nd rfl (by walk_at "or1") (c4a G_f2 ((hr.mono (by walk_at "r")).marked _) rfl T.m_f2 T.F_f2.kp T.b_f2 .nil (a0a (mv 5) a0c))) (a0h (a0m (i:=3) (hs:=a7k) a4l.nd rfl (by walk_at "or1") (a1w (a0a (a0y (a0a a0f a0c)) a0c)))))) (pt_if (a0v a1s (mv 2) a0e (a0t _)) (pt_setl (i:=3) G_d1 (hr.mono (by walk_at "r")) rfl T.m_d1 T.F_d1.kp T.b_d1 .nil (a0a (mv 0) (a0a (mv 1) a0c)) a4l.nd rfl (by walk_at "or1")) (pt_if (a0v a1s (mv 2) a0e (a0t _)) (d1g (i:=3) G_e1 (hr.mono (by walk_at "r")) rfl T.m_e1 T.F_e1.kp T.b_e1 .nil (a0a (mv 0) (a0a (mv 1) a0c)) a4l.nd rfl (by walk_at "or1")) (d1g (i:=3) G_f4 (hr.mono (by walk_at "r")) rfl T.m_f4 T.F_f4.kp T.b_f4 .nil (a0a (mv 0) (a0a (mv 1) a0c)) a4l.nd rfl (by walk_at "or1"))))) (a0g (a1e (PW.pt (a8k (a0v a1s (mv 2) a0e (a0t _)) (a6u (a0v (ko_neTL K rfl (a7x hr)) (mv 3) (a1w (a0a (a0y (a0a a0f a0c)) a0c)) (a0t _))))) (a0h (a0m (i:=3) (hs:=a2y) a4l.nd rfl (by walk_at "or1") (a0l (a1f K rfl) (a1w (a0a (a0s (a0n K rfl) (mv 3) a0e (fun _ _=>rfl)) a0c)) (a0s (a0n K rfl) (mv 3) a0e (fun _ _=>rfl))))) a0z) (a0g (a1e (a4i (a1n K rfl (mv 4))) (a0h (a0o (a1w a0c))) a0z) (a0h (a0o (mv 3)))))))),?_⟩
 rename_i s pd w
 obtain⟨l,tb,rfl,tx,hcase⟩:=h
 walk_at "s"
 refine⟨ln (by show 0<=100000;decide),fun p0 hp0=>?_⟩
 have s0:=a0d hp0 (.lst [])
 generalize upd H p0 (.lst [])=H0 at s0 ⊢
 have tx0:TxTb K H0 l pd tb:=⟨tx.len,tx.pl,by obtain⟨kvs,a,c⟩:=tx.tab;exact⟨kvs,s0 _ _ a,c.monoT fun _ _ q=>s0.tup q⟩,tx.cnt,tx.mks⟩
 (with_reducible refine a5n ?_)
 (with_reducible refine b8p ?_)
 walk_at "m"
 (with_reducible refine a9d (fun σ' H3=>(∃p,σ'=[some (.str (stT l)),some (.ref pd),some (.int w),some (.ref p),some (.bl true),none]/\Same H H3/\RefL K H3 p/\refL K H Q)\/(w≠2/\∃p,σ'=[some (.str (stT l)),some (.ref pd),some (.int w),some (.ref p),some (.bl true),none]/\Q (.ref p) H3)\/(w=2/\∃(a p:Addr)(v:V)(us:List V)(y:Trm×List Trm),σ'=[some (.str (stT l)),some (.ref pd),some (.int w),some (.ref a),some (.bl true),none]/\Same H H3/\SqT K H3 a [v,.ref p]/\H3 p=some (.lst us)/\Den K H3 v y.1.data/\DenL K H3 us (Trm.dataL y.2)/\y.2.length<=100/\gotL K H Q (y.1::y.2))) (fun σ' H3 hP=>?_) (fun kk=>?_))
 rotate_left
 ·walk_at "s"
  rcases hcase with⟨rfl,hR⟩|⟨rfl,n,hn,hR⟩|⟨rfl,hR⟩
  ·refine iteB (fun e=>?_) (fun e=>absurd e (by decide))
   walk_at "s"
   refine⟨l,tb,rfl,tx0,hR.mono (fun y hy v H1 s1 d1=>?_) (fun hr=>?_)⟩
   ·intro q hq
    have s2:=a0d hq (.lst [v])
    exact kk _ _ (.inr (.inl ⟨by decide,q,rfl,hy q [v] _ ((s0.trans s1).trans s2) a0b (.cons (d1.mono s2) .nil)⟩))
   ·intro ea H1 s1 i1 ea' e'
    cases e'
    have i1':=i1
    obtain⟨dx,x1,x2⟩:=i1
    refine⟨t.k_a0,some dx,_,rfl,x1,T.x_a0,by simp,?_⟩
    walk_at "s"
    refine⟨i1',fun H2 s2=>?_⟩
    walk_at "s"
    refine⟨ln (by show 1<=100000;decide),fun q1 hq1=>?_⟩
    have sq1:Same H2 (upd H2 q1 (.tup [.str (ofString "refused")])):=a0d hq1 _
    have kq1:(upd H2 q1 (.tup [.str (ofString "refused")])) q1=some (.tup [.str (ofString "refused")]):=a0b
    generalize upd H2 q1 (.tup [.str (ofString "refused")])=J1 at sq1 kq1 ⊢
    walk_at "s"
    refine⟨ln (by show 1<=100000;decide),fun q2 hq2=>?_⟩
    have sq2:=a0d hq2 (.lst [.ref q1])
    exact kk _ _ (.inl ⟨q2,rfl,(((s0.trans s1).trans s2).trans sq1).trans sq2,⟨q1,a0b,SqT.of (sq2 _ _ kq1)⟩,hr⟩)
  ·refine iteB (fun e=>absurd e (by decide)) (fun e=>?_)
   walk_at "s"
   refine iteB (fun e=>?_) (fun e=>absurd e (by decide))
   walk_at "s"
   refine⟨l,tb,n,rfl,tx0,hn,hR.mono (fun ys hy p us H1 s1 fp k1 d1=>?_) (fun hr=>?_)⟩
   ·exact kk _ _ (.inr (.inl ⟨by decide,p,rfl,hy p us _ (s0.trans s1) k1 d1⟩))
   ·intro ea H1 s1 i1 ea' e'
    cases e'
    have i1':=i1
    obtain⟨dx,x1,x2⟩:=i1
    refine⟨t.k_a0,some dx,_,rfl,x1,T.x_a0,by simp,?_⟩
    walk_at "s"
    refine⟨i1',fun H2 s2=>?_⟩
    walk_at "s"
    refine⟨ln (by show 1<=100000;decide),fun q1 hq1=>?_⟩
    have sq1:Same H2 (upd H2 q1 (.tup [.str (ofString "refused")])):=a0d hq1 _
    have kq1:(upd H2 q1 (.tup [.str (ofString "refused")])) q1=some (.tup [.str (ofString "refused")]):=a0b
    generalize upd H2 q1 (.tup [.str (ofString "refused")])=J1 at sq1 kq1 ⊢
    walk_at "s"
    refine⟨ln (by show 1<=100000;decide),fun q2 hq2=>?_⟩
    have sq2:=a0d hq2 (.lst [.ref q1])
    exact kk _ _ (.inl ⟨q2,rfl,(((s0.trans s1).trans s2).trans sq1).trans sq2,⟨q1,a0b,SqT.of (sq2 _ _ kq1)⟩,hr⟩)
  ·refine iteB (fun e=>absurd e (by decide)) (fun e=>?_)
   walk_at "s"
   refine iteB (fun e=>absurd e (by decide)) (fun e=>?_)
   walk_at "s"
   refine⟨l,tb,rfl,tx0,hR.mono (fun y hy a p v us H1 s1 fp sq d1 k1 d2=>?_) (fun hr=>?_)⟩
   ·exact kk _ _ (.inr (.inr ⟨rfl,a,p,v,us,y,rfl,s0.trans s1,sq,k1,d1,d2,hy.1,hy.2⟩))
   ·intro ea H1 s1 i1 ea' e'
    cases e'
    have i1':=i1
    obtain⟨dx,x1,x2⟩:=i1
    refine⟨t.k_a0,some dx,_,rfl,x1,T.x_a0,by simp,?_⟩
    walk_at "s"
    refine⟨i1',fun H2 s2=>?_⟩
    walk_at "s"
    refine⟨ln (by show 1<=100000;decide),fun q1 hq1=>?_⟩
    have sq1:Same H2 (upd H2 q1 (.tup [.str (ofString "refused")])):=a0d hq1 _
    have kq1:(upd H2 q1 (.tup [.str (ofString "refused")])) q1=some (.tup [.str (ofString "refused")]):=a0b
    generalize upd H2 q1 (.tup [.str (ofString "refused")])=J1 at sq1 kq1 ⊢
    walk_at "s"
    refine⟨ln (by show 1<=100000;decide),fun q2 hq2=>?_⟩
    have sq2:=a0d hq2 (.lst [.ref q1])
    exact kk _ _ (.inl ⟨q2,rfl,(((s0.trans s1).trans s2).trans sq1).trans sq2,⟨q1,a0b,SqT.of (sq2 _ _ kq1)⟩,hr⟩)
 rcases hP with⟨p,rfl,s3,hrf,hq⟩|⟨hw,p,rfl,hq⟩|⟨rfl,a,p,v,us,y,rfl,s3,sq,k3,d1,d2,hyl,hq⟩
 ·walk_at "s"
  refine iteB (fun e=>?_) (fun e=>?_)
  ·walk_at "s"
   refine⟨ln (by show 1<=100000;decide),fun q1 hq1=>?_⟩
   have sq1:Same H3 (upd H3 q1 (.tup [.str (ofString "refused")])):=a0d hq1 _
   have kq1:(upd H3 q1 (.tup [.str (ofString "refused")])) q1=some (.tup [.str (ofString "refused")]):=a0b
   generalize upd H3 q1 (.tup [.str (ofString "refused")])=J1 at sq1 kq1 ⊢
   walk_at "s"
   refine⟨ln (by show 1<=100000;decide),fun q2 hq2=>?_⟩
   have sq2:Same J1 (upd J1 q2 (.lst [.ref q1])):=a0d hq2 _
   have kq2:(upd J1 q2 (.lst [.ref q1])) q2=some (.lst [.ref q1]):=a0b
   generalize upd J1 q2 (.lst [.ref q1])=J2 at sq2 kq2 ⊢
   walk_at "s"
   obtain⟨z,z1,z2⟩:=hrf
   refine .inl ⟨p,q2,_,_,_,rfl,rfl,.inr ⟨SqL.of (sq2 _ _ (sq1 _ _ z1)),SqL.of kq2⟩,b6m ((sq1.trans sq2).tup z2),b6m (SqT.of (sq2 _ _ kq1)),c5t,?_⟩
   walk_at "A"
   walk_at "C"
   exact hq p J2 ((s3.trans sq1).trans sq2) ⟨z,sq2 _ _ (sq1 _ _ z1),(sq1.trans sq2).tup z2⟩
  ·refine iteF ?_
   walk_at "A"
   exact hq p _ s3 hrf
 ·walk_at "s"
  refine iteB (fun e=>absurd (by rw[Zt]at e;exact Zm e) hw) (fun e=>?_)
  refine iteF ?_
  walk_at "A"
  exact hq
 ·walk_at "s"
  refine iteB (fun e=>?_) (fun e=>absurd e (by decide))
  walk_at "s"
  refine⟨ln (by show 1<=100000;decide),fun q1 hq1=>?_⟩
  have sq1:Same H3 (upd H3 q1 (.tup [.str (ofString "refused")])):=a0d hq1 _
  have kq1:(upd H3 q1 (.tup [.str (ofString "refused")])) q1=some (.tup [.str (ofString "refused")]):=a0b
  generalize upd H3 q1 (.tup [.str (ofString "refused")])=J1 at sq1 kq1 ⊢
  walk_at "s"
  refine⟨ln (by show 1<=100000;decide),fun q2 hq2=>?_⟩
  have sq2:Same J1 (upd J1 q2 (.lst [.ref q1])):=a0d hq2 _
  have kq2:(upd J1 q2 (.lst [.ref q1])) q2=some (.lst [.ref q1]):=a0b
  generalize upd J1 q2 (.lst [.ref q1])=J2 at sq2 kq2 ⊢
  walk_at "s"
  have S:=sq1.trans sq2
  refine .inr ⟨a,q2,_,_,rfl,rfl,S.tup sq,SqL.of kq2,?_⟩
  walk_at "B"
  refine a1c (S.tup sq) (v:=v) rfl ?_
  walk_at "s"
  refine⟨ln (by show 1<=100000;decide),fun q3 hq3=>?_⟩
  have sq3:Same J2 (upd J2 q3 (.lst [v])):=a0d hq3 _
  have kq3:(upd J2 q3 (.lst [v])) q3=some (.lst [v]):=a0b
  generalize upd J2 q3 (.lst [v])=J3 at sq3 kq3 ⊢
  walk_at "s"
  refine a1c (sq3.tup (S.tup sq)) (v:=.ref p) rfl ?_
  walk_at "s"
  have k9:=sq3 _ _ (S _ _ k3)
  have hl:=d2.length
  rw[Trm.dataL_map,length_map]at hl
  refine L2.a5o kq3 k9 (ln (by simp only[Z9];omega)) (fun q4 hq4=>?_)
  have sq4:=a0d hq4 (.lst ([v]++us))
  have kq4:(upd J3 q4 (.lst ([v]++us))) q4=some (.lst ([v]++us)):=a0b
  generalize upd J3 q4 (.lst ([v]++us))=J4 at sq4 kq4 ⊢
  walk_at "A"
  have S9:=(S.trans sq3).trans sq4
  exact hq q4 _ _ (s3.trans S9) kq4 (.cons (d1.mono S9) (d2.mono S9))
theorem c9i(T:Txt K mg t)(G_e5:FnOk P w K mg base CX0 2 t.a_e5 t.d_e5 ["_law_found","_law_due"] (b2l K)):FnOk P w K mg base CX0 3 t.a_c1 t.d_c1 ["_law_found","_law_dues","_law_good"] (b0u K):=by
 refine T.F_c1.ok b8x (fun vs H Q E h=>?_) (fun cdv A outer s H vs Q E hr h=>?_)
 ·unfold b0u at h
  split at h
  ·rfl
  ·exact h.elim
 unfold b0u at h
 split at h
 rotate_left
 ·exact h.elim
 refine⟨_,(a0g (a1e (a4i (a1n K rfl (mv 2))) (a0h (a0o (a2l (ko_eqD K rfl (a7x hr)) (mv 0) (a1w (a0a (a0y (a0a a0f a0c)) a0c)) (a0t _)))) a0z) (a0g (a1e (a0v b5y (a1k (a3d K rfl) rfl T.n_g0 Z6 (a0a (mv 0) a0c)) (a1k (a3d K rfl) rfl T.n_g0 Z6 (a0a (mv 1) a0c)) (a0t _)) (a0h (a0o a3b)) a0z) (a0g (a7h Yj rfl (a4w rfl T.n_g7 (a0a (a1k (a3d K rfl) rfl T.n_g0 Z6 (a0a (mv 1) a0c)) a0c)) (a6b (i:=3) b8x.nd rfl (by walk_at "or1")) (a0h (a1e (a4i (a1n K rfl (a0p G_e5 (hr.mono (by walk_at "r")) rfl T.m_e5 T.F_e5.kp T.b_e5 .nil a0r (a0a (a0s (a0n K rfl) (mv 0) (mv 3) (fun _ _=>rfl)) (a0a (a0s (a0n K rfl) (mv 1) (mv 3) (fun _ _=>rfl)) a0c))))) (a0h (a0o a3b)) a0z))) (a0h (a0o a3b))))),?_⟩
 rename_i p d gg
 obtain⟨hc,q⟩:=h
 walk_at "s"
 rcases hc with⟨rfl,us,vs,ts,hp,hq,d1,d2,hz,hl⟩|⟨rfl,z,z1,z2⟩
 rotate_left
 ·refine iteT ?_
  walk_at "s"
  refine⟨ln (by show 1<=100000;decide),fun q1 hq1=>?_⟩
  have sq1:Same H (upd H q1 (.tup [.str (ofString "refused")])):=a0d hq1 _
  have kq1:(upd H q1 (.tup [.str (ofString "refused")])) q1=some (.tup [.str (ofString "refused")]):=a0b
  generalize upd H q1 (.tup [.str (ofString "refused")])=J1 at sq1 kq1 ⊢
  walk_at "s"
  refine⟨ln (by show 1<=100000;decide),fun q2 hq2=>?_⟩
  have sq2:Same J1 (upd J1 q2 (.lst [.ref q1])):=a0d hq2 _
  have kq2:(upd J1 q2 (.lst [.ref q1])) q2=some (.lst [.ref q1]):=a0b
  generalize upd J1 q2 (.lst [.ref q1])=J2 at sq2 kq2 ⊢
  walk_at "s"
  refine⟨p,q2,_,_,_,rfl,rfl,.inr ⟨SqL.of (sq2 _ _ (sq1 _ _ z1)),SqL.of kq2⟩,b6m ((sq1.trans sq2).tup z2),b6m (SqT.of (sq2 _ _ kq1)),c5t,?_⟩
  exact q _ (sq1.trans sq2)
 refine iteF ?_
 have l1:=d1.length
 have l2:=d2.length
 rw[Trm.dataL_map,length_map]at l1 l2
 walk_at "s"
 refine b0c (SqL.of hp) ?_
 walk_at "s"
 refine b0c (SqL.of hq) ?_
 walk_at "s"
 refine iteB (fun e=>absurd e (by rw[l1,l2];simp)) (fun e=>?_)
 walk_at "s"
 refine b0c (SqL.of hq) ?_
 walk_at "s"
 refine⟨(vs.length:Int),rfl,by omega,by omega,?_⟩
 refine a5m (a3u 0 (vs.length:Int).toNat) (fun i σ' H'=>∃o2:Option V,σ'=[some (.ref p),some (.ref d),some (.bl true),o2]/\Same H H') ⟨none,rfl,Same.refl _⟩ (fun _ _ _ _=>trivial) (fun i σ' H' hi hP=>?_) (fun σ' H' hP=>?_)
 ·obtain⟨o2,rfl,s1⟩:=hP
  have hi:i<ts.length:=by simp at hi;omega
  obtain⟨x,hx,g1⟩:=b3x d1 hi
  obtain⟨x2,hx2,g2⟩:=b3x d2 hi
  walk_at "s"
  rw[Int.zero_add]
  refine a2f (SqL.of (s1 _ _ hp)) (v:=x) (a6v hx) ?_
  walk_at "s"
  refine a2f (SqL.of (s1 _ _ hq)) (v:=x2) (a6v hx2) ?_
  walk_at "s"
  refine⟨ts[i],g1.mono s1,g2.mono s1,hz _ (Vf hi),fun H2 s2=>?_⟩
  walk_at "A"
  exact⟨_,rfl,s1.trans s2⟩
 ·obtain⟨o2,rfl,s1⟩:=hP
  walk_at "s"
  exact q _ s1
end
abbrev C3:=List Nat×Trm×Bool
section
variable{G:Trm->Prop}{GL:List Trm->Prop}{GR:Trm×List Trm->Prop}{R:Prop}
theorem rd0{l:List Nat}{t:Trm}{g:Bool}(h:Cse l t g)(hg:okB t g=true->G t)(hr:okB t g=false->R):a7o (RdT tbK) l G R:=by
 rcases h.rd with⟨e,e2⟩|⟨e,e2⟩
 ·exact .inl ⟨e,hr (by rw[e2];rfl)⟩
 ·have:=e2 [] (.inl rfl)
  rw[Yr,c2y]at this
  refine .inr ⟨e,_,this,?_⟩
  cases eo:okB t g with
  |true=>rw[if_pos rfl];exact hg eo
  |false=>rw[if_neg (by decide)];exact hr eo
theorem rd1{cs:List C3}(h:CsL cs)(hne:cs≠[])(hg:(cs.all fun c=>okB c.2.1 c.2.2)=true->GL (cs.map (·.2.1)))(hr:(cs.all fun c=>okB c.2.1 c.2.2)=false->R):∃n≤60,a7o (RdG tbK n) (jt (cs.map (·.1))) GL R:=by
 have e0:a2a (jt (cs.map (·.1)))=cs.all fun c=>a2a c.1:=by rw[c0q,Te];rfl
 cases eg:cs.all fun c=>a2a c.1 with
 |false=>exact⟨0,by decide,.inl ⟨by rw[e0,eg],hr (d2i h eg)⟩⟩
 |true=>
  obtain⟨n,h1,h2⟩:=c0r cs hne (c7y h eg)
  have hl:=h.le
  refine⟨n,by omega,.inr ⟨by rw[e0,eg],_,by rw[a8j,Yh];exact h2,?_⟩⟩
  cases eo:cs.all fun c=>okB c.2.1 c.2.2 with
  |true=>rw[if_pos rfl];exact hg eo
  |false=>rw[if_neg (by decide)];exact hr eo
theorem rd2{c:C3}{cs:List C3}(h:CsL (c::cs))(hne:cs≠[])(hg:((c::cs).all fun c=>okB c.2.1 c.2.2)=true->GR (c.2.1,cs.map (·.2.1)))(hr:((c::cs).all fun c=>okB c.2.1 c.2.2)=false->R):a7o (RdR tbK) (c.1++32::60::45::32::jt (cs.map (·.1))) GR R:=by
 have e0:a2a (c.1++32::60::45::32::jt (cs.map (·.1)))=(c::cs).all fun c=>a2a c.1:=by rw[c9b,c0q,Te];rfl
 cases eg:(c::cs).all fun c=>a2a c.1 with
 |false=>exact .inl ⟨by rw[e0,eg],hr (d2i h eg)⟩
 |true=>
  have hc:=c7y h eg
  have hl:=h.le
  rw[length_cons]at hl
  have h2:=rr_join hne (by omega) (hc c (Ze ..)) (fun x hx=>hc x (Zc _ hx))
  refine .inr ⟨by rw[e0,eg],_,by rw[b0r,a8j,Yh];exact h2,?_⟩
  have ea:((c::cs).all fun c=>okB c.2.1 c.2.2)=(okB c.2.1 c.2.2&&cs.all fun c=>okB c.2.1 c.2.2):=rfl
  rw[<-ea]
  cases eo:(c::cs).all fun c=>okB c.2.1 c.2.2 with
  |true=>rw[if_pos rfl];exact hg eo
  |false=>rw[if_neg (by decide)];exact hr eo
end
def oth:List C3:=[([98],.app (ofString "b") [],true),([99,32,61,32,88],.app (ofString "=") [.app (ofString "c") [],.any (ofString "X")],true)]
def csA(m:Nat)(c:C3):List C3:=oth.take m++[c]++oth.drop m
theorem d2o:∀c∈oth,Cse c.1 c.2.1 c.2.2:=fun c hc=>by
 simp only[oth,Zj,Zy,Y5]at hc
 rcases hc with rfl|rfl
 ·exact cse_b
 ·exact cse_c
theorem b6n(m:Nat)(hm:m<=2)(c:C3):(csA m c).length=3:=by
 unfold csA
 simp only[Za,Xb,Yw,length_cons,length_nil,oth]
 omega
theorem c5u{m:Nat}(hm:m<=2){c:C3}(h:Cse c.1 c.2.1 c.2.2):CsL (csA m c):=⟨fun x hx=>by
 unfold csA at hx
 rcases Zv.mp hx with hx|hx
 ·rcases Zv.mp hx with hx|hx
  ·exact d2o x (List.mem_of_mem_take hx)
  ·rw[Zn.mp hx];exact h
 ·exact d2o x (Tr hx),by rw[b6n m hm];exact Zl 3⟩
theorem b6o:okB (.app (ofString "b") []) true=true/\okB (.app (ofString "=") [.app (ofString "c") [],.any (ofString "X")]) true=true:=by simp[okB,Trm.size,Trm.sizeL]
theorem csA_all(m:Nat)(hm:m<=2)(c:C3):((csA m c).all fun c=>okB c.2.1 c.2.2)=okB c.2.1 c.2.2:=by
 match m,hm with
 |0,_=>simp[csA,oth,b6o.1,b6o.2]
 |1,_=>simp[csA,oth,b6o.1,b6o.2]
 |2,_=>simp[csA,oth,b6o.1,b6o.2]
theorem d4j{m:Nat}(hm:m<=2)(c:C3):∃d ds,csA m c=d::ds/\ds≠[]/\ds.length=2:=by
 have:=b6n m hm c
 cases e:csA m c with
 |nil=>rw[e]at this;simp at this
 |cons d ds=>rw[e]at this;simp at this;exact⟨d,ds,rfl,fun z=>by rw[z]at this;simp at this,by omega⟩
section
variable{K:W.Frag}{H:Hp}{pd:Addr}
structure TabK(K:W.Frag)(H:Hp)(pd:Addr):Prop where
 tab:∃kvs,H pd=some (.dK kvs)/\TR K H kvs tbK
theorem TabK.mono{H':Hp}(h:TabK K H pd)(s:Same H H'):TabK K H' pd:=⟨by obtain⟨kvs,a,c⟩:=h.tab;exact⟨kvs,s _ _ a,c.monoT fun _ _ q=>s.tup q⟩⟩
theorem tx0{l:List Nat}{t:Trm}{g:Bool}(h:Cse l t g)(hT:TabK K H pd):TxTb K H l pd tbK:=⟨by have:=h.len;omega,h.pl,hT.tab,by have:=h.cnt;omega,h.mks⟩
end
theorem txj{cs:List C3}(h:CsL cs):a1a (jt (cs.map (·.1)))/\∀z∈bits (jt (cs.map (·.1))),kindOf z=ofString "mark"->(lkT tbK ⟨z.toArray⟩).isSome=true:=by
 refine⟨b4s fun l hl=>?_,fun z hz hk=>?_⟩
 ·obtain⟨c,hc,rfl⟩:=Z7.mp hl
  exact(h.ok c hc).pl
 ·rw[a8j,Yh]at hz
  rcases b9q hz with⟨l,h1,h2⟩|rfl
  ·obtain⟨c,hc,rfl⟩:=Z7.mp h1
   exact(h.ok c hc).mks z h2 hk
  ·exact pk44.2 hk
theorem a4h:bits [98]=[[98]]/\bits [99,32,61,32,88]=[[99],[61],[88]]:=by decide+kernel
theorem csA_sz(m:Nat)(hm:m<=2)(c:C3):(jt ((csA m c).map (·.1))).length<=c.1.length+20/\(bits (jt ((csA m c).map (·.1)))).length<=(bits c.1).length+10:=by
 rw[a8j,Yh]
 match m,hm with
 |0,_=>simp[csA,oth,jt,jc,a4h.1,a4h.2]
 |1,_=>simp[csA,oth,jt,jc,a4h.1,a4h.2]
 |2,_=>simp[csA,oth,jt,jc,a4h.1,a4h.2]
theorem csA_sz2(m:Nat)(hm:m<=2)(c d:C3)(ds:List C3)(e:csA m c=d::ds):(d.1++32::60::45::32::jt (ds.map (·.1))).length<=c.1.length+20/\(bits (d.1++32::60::45::32::jt (ds.map (·.1)))).length<=(bits c.1).length+10:=by
 rw[b0r,a8j,Yh]
 match m,hm with
 |0,_=>
  simp only[csA,oth,Vu,Yt,Yb,Z4,Yk]at e
  obtain⟨rfl,rfl⟩:=e
  simp[jt,jc,a4h.1,a4h.2]
 |1,_=>
  simp only[csA,oth,T5,V1,Vu,Yt,Yb,Z4,Yk]at e
  obtain⟨rfl,rfl⟩:=e
  simp[jt,jc,a4h.1,a4h.2]
 |2,_=>
  simp only[csA,oth,T5,V1,Vu,Yt,Yb,Z4,Yk]at e
  obtain⟨rfl,rfl⟩:=e
  simp[jt,jc,a4h.1,a4h.2]
section
variable{K:W.Frag}{H:Hp}{pd:Addr}{m:Nat}{c d:C3}{ds:List C3}
theorem tx1(hm:m<=2)(h:Cse c.1 c.2.1 c.2.2)(hT:TabK K H pd):TxTb K H (jt ((csA m c).map (·.1))) pd tbK:=by
 obtain⟨a,b⟩:=csA_sz m hm c
 have h1:=h.len
 have h2:=h.cnt
 obtain⟨p,q⟩:=txj (c5u hm h)
 exact⟨by omega,p,hT.tab,by omega,q⟩
theorem tx2(hm:m<=2)(h:Cse c.1 c.2.1 c.2.2)(e:csA m c=d::ds)(hT:TabK K H pd):TxTb K H (d.1++32::60::45::32::jt (ds.map (·.1))) pd tbK:=by
 obtain⟨a,b⟩:=csA_sz2 m hm c d ds e
 have h1:=h.len
 have h2:=h.cnt
 have hc:=c5u hm h
 rw[e]at hc
 have hd:=hc.ok d (Ze ..)
 obtain⟨p,q⟩:=txj (cs:=ds) ⟨fun x hx=>hc.ok x (Zc _ hx),by have:=hc.le;rw[length_cons]at this;omega⟩
 refine⟨by omega,?_,hT.tab,by omega,fun z hz hk=>?_⟩
 ·exact a1p hd.pl (a1p (a:=[32,60,45,32]) (by unfold a1a;decide) p)
 ·rw[b0r]at hz
  rcases Zv.mp hz with hz|hz
  ·exact hd.mks z hz hk
  ·rcases Zj.mp hz with rfl|hz
   ·exact absurd hk (by decide+kernel)
   ·exact q z hz hk
end
theorem d4k(xs:List V)(k:Nat)(h:k<=xs.length):cutV xs (some ((xs.length:Int)-(k:Int))) none=xs.drop (xs.length-k):=by
 unfold cutV HT.sIx
 have e1:¬((xs.length:Int)-(k:Int)<0):=by omega
 have e2:((xs.length:Int)-(k:Int)).toNat=xs.length-k:=by omega
 simp only[e1,Xq,e2]
 rw[Vn (by omega)]
 exact Wp (by rw[Yw];omega)
theorem cut_to(xs:List V)(k:Nat)(h:k<=xs.length):cutV xs none (some ((xs.length:Int)-(k:Int)))=xs.take (xs.length-k):=by
 unfold cutV HT.sIx
 have e1:¬((xs.length:Int)-(k:Int)<0):=by omega
 have e2:((xs.length:Int)-(k:Int)).toNat=xs.length-k:=by omega
 simp only[e1,Xq,e2]
 rw[Vn (by omega),Yt,W1]
theorem cut_t(xs:List V)(n:Nat)(h:n<=xs.length):cutV xs none (some (n:Int))=xs.take n:=by
 have:=cut_to xs (xs.length-n) (by omega)
 rw[show((xs.length:Int)-((xs.length-n:Nat):Int))=(n:Int) by omega,show xs.length-(xs.length-n)=n by omega]at this
 exact this
theorem cut_d(xs:List V)(n:Nat)(h:n<=xs.length):cutV xs (some (n:Int)) none=xs.drop n:=by
 have:=d4k xs (xs.length-n) (by omega)
 rw[show((xs.length:Int)-((xs.length-n:Nat):Int))=(n:Int) by omega,show xs.length-(xs.length-n)=n by omega]at this
 exact this
abbrev cvs(cs:List C3):List V:=(cs.map (·.1)).map fun l=>V.str (stT l)
theorem c8b:cvs oth=[.str (ofString "b"),.str (ofString "c = X")]:=by
 have e1:(ofString "b":Str)=stT [98]:=by decide+kernel
 have e2:(ofString "c = X":Str)=stT [99,32,61,32,88]:=by decide+kernel
 rw[e1,e2]
 rfl
theorem cvs_A(m:Nat)(c:C3):(cvs oth).take m++[.str (stT c.1)]++(cvs oth).drop m=cvs (csA m c):=by
 unfold cvs csA
 rw[Zk,Zk,Zk,Zk,Uz,Uz,U0,U0]
 rfl
theorem cdl_A{K:W.Frag}{H:Hp}{us:List V}{v:V}{m:Nat}{c:C3}(h:DenL K H us (Trm.dataL (oth.map (·.2.1))))(hv:Den K H v c.2.1.data):DenL K H (us.take m++[v]++us.drop m) (Trm.dataL ((csA m c).map (·.2.1))):=by
 have e:Trm.dataL ((csA m c).map (·.2.1))=(Trm.dataL (oth.map (·.2.1))).take m++[c.2.1.data]++(Trm.dataL (oth.map (·.2.1))).drop m:=by
  unfold csA
  simp only[Trm.dataL_map,Zk,Uz,U0]
  rfl
 rw[e]
 exact((h.take m).append (.cons hv .nil)).append (h.drop m)
theorem c8c{cs:List C3}(h:CsL cs):((cs.map (·.1)).map List.length).sum+(cs.map (·.1)).length*2<=16777216:=by
 have hl:=h.le
 have:((cs.map (·.1)).map List.length).sum<=290*cs.length:=by
  have h2:=h.ok
  clear hl h
  induction cs with
  |nil=>simp
  |cons c cs ih=>
   have:=ih (fun q hq=>h2 q (Zc _ hq))
   have:=(h2 c (Ze ..)).len
   simp only[Zu,Wk,length_cons]
   omega
 rw[length_map]
 omega
theorem RefL.mono{K:W.Frag}{H H':Hp}{p:Addr}(h:RefL K H p)(s:Same H H'):RefL K H' p:=by
 obtain⟨a,h1,h2⟩:=h
 exact⟨a,s _ _ h1,s.tup h2⟩
theorem TR.app{K:W.Frag}{H:Hp}{kvs kw:List (Key×V)}{tb tc:Tb}(h:TR K H kvs tb)(h2:TR K H kw tc):TR K H (kvs++kw) (tb++tc):=by
 induction h with
 |nil=>exact h2
 |cons h1 _ ih=>exact .cons h1 ih
theorem valV_no{a:List (Key×V)}{k:Key}(h:k∉a.map (·.1)):valV a k=none:=by
 induction a with
 |nil=>rfl
 |cons p r ih=>
  rw[Zu,Zj,not_or]at h
  rw[b1d (fun e=>h.1 e.symm)]
  exact ih h.2
theorem b0v:∀(b a:List (Key×V)),((a++b).map (·.1)).Nodup->a5l a b=a++b
 | [],a,_=>by rw[Yr];rfl
 | (k,v)::r,a,h=>by
  have hn:k∉a.map (·.1):=fun hk=>by
   rw[Zk,List.nodup_append]at h
   exact h.2.2 k hk k (by rw[Zu];exact Ze ..) rfl
  show a5l (putK a k v) r=_
  have e:a++(k,v)::r=(a++[(k,v)])++r:=by rw[Zw];rfl
  rw[d2y _ (valV_no hn),b0v r (a++[(k,v)]) (by rw[<-e];exact h),e]
theorem c5v{K:W.Frag}{H:Hp}{p:Addr}{ys:List (Key×V)}{o:HO}(h:H p=some (.dK ys)):∀a xs,SqT K H a xs->SqT K (upd H p o) a xs:=fun a xs q=>by
 rcases q with(q|⟨o',q⟩)|q
 ·exact .inl (.inl (by rw[a0j (c2d q h (fun z=>by cases z))];exact q))
 ·exact .inl (.inr ⟨o',by rw[a0j (c2d q h (fun z=>by cases z))];exact q⟩)
 ·exact .inr q
section
variable{P:Program}{w:World}{K:W.Frag}{mg:Str->Option Value}{base:Heap}{t:Ad}
theorem Trm.dataL_set(ts:List Trm)(m:Nat)(t:Trm):Trm.dataL (ts.set m t)=(Trm.dataL ts).set m t.data:=by rw[Trm.dataL_map,Trm.dataL_map,Ua]
theorem d4l(T:Txt K mg t)  :FnOk P w K mg base CX0 1 t.a_d8 t.d_d8 ["_law_cell"] (b4u K):=by
 refine T.F_d8.ok a3s (fun vs H Q E h=>?_) (fun cdv A outer s H vs Q E hr h=>?_)
 ·unfold b4u at h
  split at h
  ·rfl
  ·exact h.elim
 unfold b4u at h
 split at h
 rotate_left
 ·exact h.elim
 refine⟨_,(@QSs.pss _ _ _ (a0u (a1l (a0m (i:=1) (hs:=a2y) a3s.nd rfl (by walk_at "or1") (a0l (a1f K rfl) a0e (a0l a1u (mv 0) a0e)))) (a0u (a1l (a0m (i:=2) (hs:=a2y) a3s.nd rfl (by walk_at "or1") (a0l a1u (a0l a2h (mv 0) a0e) (a0l b8k a0e (mv 1))))) (a0u (a1l (a0m (i:=3) (hs:=a2y) a3s.nd rfl (by walk_at "or1") (a0l a1u (a0l a2h (mv 0) a0e) a0e))) (a0u (c7l (i:=4) a3s.nd rfl (by walk_at "or1") rfl (a4w rfl T.n_g7 (a0a (mv 1) a0c)) (a9b (a0i b3l) ["_law_cell","_law_many","_law_at","_law_kind","_law_texts","_law_things","_law_term","_law_thing","_law_sign","_law_k"] ["_law_cell","_law_many","_law_at","_law_kind","_law_texts","_law_things","_law_term","_law_thing","_law_sign","%_law_k"] rfl rfl (by decide+kernel)) (fun _ _ _ _ _=>a9a) (fun _ _ _ _ _=>(a0x (a0s (a0n K rfl) (a1w (a0a a0f (a0a a0f (a0a a0f (a0a (a0l (a1f K rfl) a0f (a6m d0r rfl T.n_i1 boot_str (a0a (a0l (a1f K rfl) (mv 0) a0e) a0c))) a0c))))) (mv 4) (fun _ _=>rfl)))) rfl (fun _=>rfl) (by walk_at "or1")) (a0u (c7l (i:=5) a3s.nd rfl (by walk_at "or1") rfl (a4w rfl T.n_g7 (a0a (mv 1) a0c)) (a9b (a0i b3l) ["_law_cell","_law_many","_law_at","_law_kind","_law_texts","_law_things","_law_term","_law_thing","_law_sign","_law_k"] ["_law_cell","_law_many","_law_at","_law_kind","_law_texts","_law_things","_law_term","_law_thing","_law_sign","%_law_k"] rfl rfl (by decide+kernel)) (fun _ _ _ _ _=>a9a) (fun _ _ _ _ _=>(qe_ix (a0n K rfl) (c4c (a0k (a1h (a0k (a0x a0f) (a0k (a0x a0f) a1d rfl) rfl)) (a0k (a1h (a0k (a0x a0f) (a0k (a0x a0e) a1d rfl) rfl)) (a0k (a1h (a0k (a0x a0f) (a0k (a0x a0f) (a0k (a1h a1d) a1d rfl) rfl) rfl)) (a0k (a1h (a0k (a0x a0f) (a0k (a0x (a0l b0b (a0l b0b a0e (mv 0)) a0e)) a1d rfl) rfl)) a1d rfl) rfl) rfl) rfl)) (a0x (mv 4)) (fun _ _=>rfl))) rfl (fun _=>rfl) (by walk_at "or1")) (a0u (a5h (a0v a4x (mv 2) (mv 1) (a0t _)) (a0u (d1h (a0x (a0s (a0n K rfl) (a1w (a0a a0f (a0a a0f a0c))) (a0l a1u (a0l a2h (mv 0) a0e) a0e) (fun _ _=>rfl))) (c9p (mv 4) (mv 2) c3i) rfl rfl rfl) (a1t (d1h (a1h (a0k (a0x a0f) (a0k (a0x a0f) (a0k (qe_ix (a0n K rfl) (c4c (a0k (a1h (a0k (a1h (a0k (a0x a0f) (a0k (a0x a0e) a1d rfl) rfl)) a1d rfl)) (a0k (a1h (a0k (a1h (a0k (a0x a0f) (a0k (a0x a0f) a1d rfl) rfl)) (a0k (a1h (a0k (a0x a0f) (a0k (a0x a0e) a1d rfl) rfl)) a1d rfl) rfl)) a1d rfl) rfl)) (a0x (a0l a1u (a0l a2h (mv 0) a0e) a0e)) (fun _ _=>rfl)) a1d rfl) rfl) rfl)) (c9p (mv 5) (mv 2) c3i) rfl rfl rfl))) a4v) (a0u (a5h (a0v a1s (a0l a1u (a0l a2h (mv 0) a0e) a0e) a0e (a0t _)) (a0u (a1l (a0m (i:=6) (hs:=a8p) a3s.nd rfl (by walk_at "or1") (a0s (a0n K rfl) (mv 5) a0e (fun _ _=>rfl)))) (a0u (a1l (a7h Yj rfl (b7g K rfl (a3q (a7y K rfl) (mv 5) (a3r a0e) a5k)) (a6b (i:=7) a3s.nd rfl (by walk_at "or1")) (a0h (a0m (i:=6) (hs:=b1k) a3s.nd rfl (by walk_at "or1") (a0y (a0a a0f (a0a a0f (a0a (a0y (a0a (mv 6) (a0a (mv 7) a0c))) a0c)))))))) (a1t (a1l (a0o (a0y (a0a (a3x K rfl Xz X9 X7 (a9c K rfl) a0f (a0a (mv 4) a0c)) (a0a (mv 6) (a0a a3b a0c))))))))) a4v) (a0u (a1l (a0m (i:=6) (hs:=a8p) a3s.nd rfl (by walk_at "or1") (a0s (a0n K rfl) (mv 5) (a7m a5y a0e) (fun _ _=>rfl)))) (a0u (a1l (a0m (i:=8) (hs:=a8p) a3s.nd rfl (by walk_at "or1") (a0s (a0n K rfl) (a1w (a0a a0f (a0a a0f a0c))) (a0l b0b (a0l a1u (a0l a2h (mv 0) a0e) a0e) a0e) (fun _ _=>rfl)))) (a0u (a1l (a7h Yj rfl (c9r rfl T.n_g7 (a0a a0e (a0a (mv 1) a0c))) (a6b (i:=9) a3s.nd rfl (by walk_at "or1")) (a0h (a0m (i:=6) (hs:=b1k) a3s.nd rfl (by walk_at "or1") (a0y (a0a a0f (a0a (mv 8) (a0a (a0y (a0a (a0s (a0n K rfl) (mv 5) (a0l b0b (a0l b0b (mv 1) a0e) (mv 9)) (fun _ _=>rfl)) (a0a (mv 6) a0c))) a0c)))))))) (a0u (a5h (a0v a1s (mv 8) a0f (a0t _)) (a1t (a1l (a0o (a0y (a0a (a3x K rfl Xz X9 X7 (a9c K rfl) a0f (a0a (mv 4) a0c)) (a0a (mv 6) (a0a a3b a0c))))))) a4v) (a1t (a1l (a0o (a0y (a0a (a0l (a1f K rfl) (a0l (a1f K rfl) (a0l (a1f K rfl) (a0l (a1f K rfl) a0f (a3x K rfl Xz X9 X7 (a9c K rfl) a0f (a0a (a3q (a7y K rfl) (mv 4) a5k (a3r (a7m a5y a0e))) a0c))) a0f) (a0s (a0n K rfl) (mv 4) (a7m a5y a0e) (fun _ _=>rfl))) a0f) (a0a (mv 6) (a0a a3b a0c))))))))))))))))))),?_⟩
 rename_i c
 have b1:=Yd c (show(13:Int)≠0 by decide)
 have b2:=Z5 c (show(0:Int)<13 by decide)
 obtain⟨n,hn⟩:=Yi (show 0<=12+c%13 by omega)
 obtain⟨w,hw0⟩:=Yi (Yd (c/2100) (show(4:Int)≠0 by decide))
 have hw:w<4:=by have:=Z5 (c/2100) (show(0:Int)<4 by decide);omega
 obtain⟨ea,ha0⟩:=Yi (Yd (c/8400) (show(2:Int)≠0 by decide))
 have hea:ea<2:=by have:=Z5 (c/8400) (show(0:Int)<2 by decide);omega
 obtain⟨m,hm0⟩:=Yi (Yd (c/13) (show 2*(n:Int)≠0 by omega))
 walk_at "s"
 rw[hn]
 refine b8o (CMul.ok (.inl (by decide))) ?_
 refine m2_i (show(0:Int)<2*(n:Int) by omega) ?_
 rw[hm0]
 walk_at "s"
 rw[hw0]
 refine⟨(n:Int),rfl,by omega,by omega,fun D1 hD1=>?_⟩
 refine a7s (a3u 0 (n:Int).toNat) (fun i ys H'=>Same H H'/\H' D1=some (.lst ys)/\ys=(List.range i).map fun k=>V.str (stT (kT w k).1)) (ln (by omega)) ⟨a0d hD1 _,a0b,rfl⟩ (fun _ _ _ _=>trivial) (fun i ys H' Q' hi' hl' hP k=>?_) (fun ys H1 hl' hP=>?_)
 ·obtain⟨g1,g2,rfl⟩:=hP
  walk_at "s"
  refine d0t (by omega) (by omega) ?_
  rw[show(0+(i:Int)+1).toNat=i+1 by omega]
  have hf:=b7h (n:=i+1) (k:=2) (by decide) (by omega)
  refine a5o (a:=[126]) (b:=a1i (i+1)) (by decide+kernel) (by simp;omega) ?_
  walk_at "s"
  refine⟨ln (by show 4<=100000;decide),fun p1 hp1=>?_⟩
  have sp1:Same H' (upd H' p1 (.lst [.str (ofString "X"),.str (ofString "7"),.str (ofString "b"),.str (stT ([126]++a1i (i+1)))])):=a0d hp1 _
  have kp1:(upd H' p1 (.lst [.str (ofString "X"),.str (ofString "7"),.str (ofString "b"),.str (stT ([126]++a1i (i+1)))])) p1=some (.lst [.str (ofString "X"),.str (ofString "7"),.str (ofString "b"),.str (stT ([126]++a1i (i+1)))]):=a0b
  generalize upd H' p1 (.lst [.str (ofString "X"),.str (ofString "7"),.str (ofString "b"),.str (stT ([126]++a1i (i+1)))])=J1 at sp1 kp1 ⊢
  walk_at "s"
  refine a2f (SqL.of kp1) (c5q hw _ _ _ _) ?_
  rw[k_txt hw]
  refine k _ _ (sp1 _ _ g2) ⟨a2k (g1.trans sp1) hD1,a0b,?_⟩
  rw[Vo,Zk]
  rfl
 obtain⟨g1,g2,rfl⟩:=hP
 rw[Z8]at g2
 walk_at "s"
 refine⟨(n:Int),rfl,by omega,by omega,fun D2 hD2=>?_⟩
 have n12:D1≠D2:=fun e=>by rw[e,hD2]at g2;cases g2
 refine a7s (a3u 0 (n:Int).toNat) (fun i ys H2=>Same H1 H2/\H2 D2=some (.lst ys)/\DenL K H2 ys (Trm.dataL ((List.range i).map fun k=>(kT w k).2))) (ln (by omega)) ⟨a0d hD2 _,a0b,.nil⟩ (fun _ _ _ _=>trivial) (fun i ys H2 Q' hi' hl' hP k=>?_) (fun ys H2 hl' hP=>?_)
 ·obtain⟨f1,f2,f3⟩:=hP
  walk_at "s"
  refine⟨ln (by show 2<=100000;decide),fun p1 hp1=>?_⟩
  have sp1:Same H2 (upd H2 p1 (.tup [.str (ofString "any"),.str (ofString "X")])):=a0d hp1 _
  have kp1:(upd H2 p1 (.tup [.str (ofString "any"),.str (ofString "X")])) p1=some (.tup [.str (ofString "any"),.str (ofString "X")]):=a0b
  generalize upd H2 p1 (.tup [.str (ofString "any"),.str (ofString "X")])=Tp1 at sp1 kp1 ⊢
  walk_at "s"
  refine⟨ln (by show 2<=100000;decide),fun p2 hp2=>?_⟩
  have sp2:Same Tp1 (upd Tp1 p2 (.tup [.str (ofString "num"),.int 7])):=a0d hp2 _
  have kp2:(upd Tp1 p2 (.tup [.str (ofString "num"),.int 7])) p2=some (.tup [.str (ofString "num"),.int 7]):=a0b
  generalize upd Tp1 p2 (.tup [.str (ofString "num"),.int 7])=Tp2 at sp2 kp2 ⊢
  walk_at "s"
  refine⟨ln (by show 0<=100000;decide),fun p3 hp3=>?_⟩
  have sp3:Same Tp2 (upd Tp2 p3 (.tup [])):=a0d hp3 _
  have kp3:(upd Tp2 p3 (.tup [])) p3=some (.tup []):=a0b
  generalize upd Tp2 p3 (.tup [])=Tp3 at sp3 kp3 ⊢
  walk_at "s"
  refine⟨ln (by show 3<=100000;decide),fun p4 hp4=>?_⟩
  have sp4:Same Tp3 (upd Tp3 p4 (.tup [.str (ofString "app"),.str (ofString "b"),.ref p3])):=a0d hp4 _
  have kp4:(upd Tp3 p4 (.tup [.str (ofString "app"),.str (ofString "b"),.ref p3])) p4=some (.tup [.str (ofString "app"),.str (ofString "b"),.ref p3]):=a0b
  generalize upd Tp3 p4 (.tup [.str (ofString "app"),.str (ofString "b"),.ref p3])=Tp4 at sp4 kp4 ⊢
  walk_at "s"
  refine⟨ln (by show 2<=100000;decide),fun p5 hp5=>?_⟩
  have sp5:Same Tp4 (upd Tp4 p5 (.tup [.str (ofString "num"),.int (0-(0+(i:Int))-1)])):=a0d hp5 _
  have kp5:(upd Tp4 p5 (.tup [.str (ofString "num"),.int (0-(0+(i:Int))-1)])) p5=some (.tup [.str (ofString "num"),.int (0-(0+(i:Int))-1)]):=a0b
  generalize upd Tp4 p5 (.tup [.str (ofString "num"),.int (0-(0+(i:Int))-1)])=Tp5 at sp5 kp5 ⊢
  walk_at "s"
  refine⟨ln (by show 4<=100000;decide),fun p6 hp6=>?_⟩
  have sp6:Same Tp5 (upd Tp5 p6 (.lst [.ref p1,.ref p2,.ref p4,.ref p5])):=a0d hp6 _
  have kp6:(upd Tp5 p6 (.lst [.ref p1,.ref p2,.ref p4,.ref p5])) p6=some (.lst [.ref p1,.ref p2,.ref p4,.ref p5]):=a0b
  generalize upd Tp5 p6 (.lst [.ref p1,.ref p2,.ref p4,.ref p5])=Tp6 at sp6 kp6 ⊢
  walk_at "s"
  refine a2f (SqL.of kp6) (c5q hw _ _ _ _) ?_
  have d4:Den K Tp6 (.ref p5) (Trm.num (-((i+1:Nat):Int))).data:=by
   have:=a6d ((SqT.of (sp6 _ _ kp5)):SqT K Tp6 p5 _)
   rwa[show(0-(0+(i:Int))-1)= -((i+1:Nat):Int) by omega]at this
  have d1:=k_den (K:=K) (H:=Tp6) (i:=i) hw (b3j (SqT.of (sp6 _ _ (sp5 _ _ (sp4 _ _ (sp3 _ _ (sp2 _ _ kp1))))))) (a6d (SqT.of (sp6 _ _ (sp5 _ _ (sp4 _ _ (sp3 _ _ kp2)))))) (a2d (SqT.of (sp6 _ _ (sp5 _ _ kp4))) (SqT.of (sp6 _ _ (sp5 _ _ (sp4 _ _ kp3)))) .nil) d4
  have S:=((((sp1.trans sp2).trans sp3).trans sp4).trans sp5).trans sp6
  refine k _ _ (S _ _ f2) ⟨a2k (f1.trans S) hD2,a0b,?_⟩
  rw[Vo,Zk,Trm.dataL_map,Zk,<-Trm.dataL_map]
  exact((f3.mono S).append (.cons d1 .nil)).lst (S _ _ f2)
 obtain⟨f1,f2,f3⟩:=hP
 rw[Z8]at f3
 (with_reducible refine a5n ?_)
 (with_reducible refine a9d (fun σ' H3=>∃(cs:List TT)(us:List V),σ'=[some (.int c),some (.int (n:Int)),some (.int (m:Int)),some (.int (w:Int)),some (.ref D1),some (.ref D2),none,none,none,none]/\Same H H3/\cs.length=n/\(∀q∈cs,Th q.1 q.2)/\H3 D1=some (.lst (tvs cs))/\H3 D2=some (.lst us)/\DenL K H3 us (Trm.dataL (cs.map (·.2)))) (fun σ' H3 hP=>?_) (fun kk=>?_))
 rotate_left
 ·walk_at "s"
  have g2':H2 D1=some (.lst (tvs ((List.range n).map (kT w)))):=by rw[f1 _ _ g2];unfold tvs;rw[Yh,Yh];rfl
  have f3':DenL K H2 ys (Trm.dataL (((List.range n).map (kT w)).map (·.2))):=by rw[Yh];exact f3
  refine iteB (fun e=>?_) (fun e=>?_)
  ·have e:=Zm e
   walk_at "s"
   refine⟨ln (by show 2<=100000;decide),fun p1 hp1=>?_⟩
   have sp1:Same H2 (upd H2 p1 (.lst [.str (ofString "a(1)"),.str (ofString "a(X, 2)")])):=a0d hp1 _
   have kp1:(upd H2 p1 (.lst [.str (ofString "a(1)"),.str (ofString "a(X, 2)")])) p1=some (.lst [.str (ofString "a(1)"),.str (ofString "a(X, 2)")]):=a0b
   generalize upd H2 p1 (.lst [.str (ofString "a(1)"),.str (ofString "a(X, 2)")])=T1 at sp1 kp1 ⊢
   walk_at "s"
   rw[ha0]
   refine a2f (SqL.of kp1) (c5r hea _ _) ?_
   rw[a_txt hea]
   walk_at "s"
   refine⟨D1,_,_,m,rfl,rfl,sp1 _ _ g2',by unfold ixN;rw[if_pos (by omega),if_pos (by simp;omega)];simp,?_⟩
   rw[tvs_set]
   have u1:Same H (upd T1 D1 (.lst (tvs (((List.range n).map (kT w)).set m (aT ea))))):=a2k ((g1.trans f1).trans sp1) hD1
   have u2:(upd T1 D1 (.lst (tvs (((List.range n).map (kT w)).set m (aT ea))))) D2=some (.lst ys):=by rw[a0j (fun z=>n12 z.symm)];exact sp1 _ _ f2
   have u3:=(f3'.mono sp1).lst (o:=.lst (tvs (((List.range n).map (kT w)).set m (aT ea)))) (sp1 _ _ g2')
   have u4:(upd T1 D1 (.lst (tvs (((List.range n).map (kT w)).set m (aT ea))))) D1=some (.lst (tvs (((List.range n).map (kT w)).set m (aT ea)))):=a0b
   generalize upd T1 D1 (.lst (tvs (((List.range n).map (kT w)).set m (aT ea))))=U1 at u1 u2 u3 u4 ⊢
   walk_at "s"
   refine⟨ln (by show 2<=100000;decide),fun q1 hq1=>?_⟩
   have sq1:Same U1 (upd U1 q1 (.tup [.str (ofString "num"),.int 1])):=a0d hq1 _
   have kq1:(upd U1 q1 (.tup [.str (ofString "num"),.int 1])) q1=some (.tup [.str (ofString "num"),.int 1]):=a0b
   generalize upd U1 q1 (.tup [.str (ofString "num"),.int 1])=Tq1 at sq1 kq1 ⊢
   walk_at "s"
   refine⟨ln (by show 1<=100000;decide),fun q2 hq2=>?_⟩
   have sq2:Same Tq1 (upd Tq1 q2 (.tup [.ref q1])):=a0d hq2 _
   have kq2:(upd Tq1 q2 (.tup [.ref q1])) q2=some (.tup [.ref q1]):=a0b
   generalize upd Tq1 q2 (.tup [.ref q1])=Tq2 at sq2 kq2 ⊢
   walk_at "s"
   refine⟨ln (by show 2<=100000;decide),fun q3 hq3=>?_⟩
   have sq3:Same Tq2 (upd Tq2 q3 (.tup [.str (ofString "any"),.str (ofString "X")])):=a0d hq3 _
   have kq3:(upd Tq2 q3 (.tup [.str (ofString "any"),.str (ofString "X")])) q3=some (.tup [.str (ofString "any"),.str (ofString "X")]):=a0b
   generalize upd Tq2 q3 (.tup [.str (ofString "any"),.str (ofString "X")])=Tq3 at sq3 kq3 ⊢
   walk_at "s"
   refine⟨ln (by show 2<=100000;decide),fun q4 hq4=>?_⟩
   have sq4:Same Tq3 (upd Tq3 q4 (.tup [.str (ofString "num"),.int 2])):=a0d hq4 _
   have kq4:(upd Tq3 q4 (.tup [.str (ofString "num"),.int 2])) q4=some (.tup [.str (ofString "num"),.int 2]):=a0b
   generalize upd Tq3 q4 (.tup [.str (ofString "num"),.int 2])=Tq4 at sq4 kq4 ⊢
   walk_at "s"
   refine⟨ln (by show 2<=100000;decide),fun q5 hq5=>?_⟩
   have sq5:Same Tq4 (upd Tq4 q5 (.tup [.ref q3,.ref q4])):=a0d hq5 _
   have kq5:(upd Tq4 q5 (.tup [.ref q3,.ref q4])) q5=some (.tup [.ref q3,.ref q4]):=a0b
   generalize upd Tq4 q5 (.tup [.ref q3,.ref q4])=Tq5 at sq5 kq5 ⊢
   walk_at "s"
   refine⟨ln (by show 2<=100000;decide),fun q6 hq6=>?_⟩
   have sq6:Same Tq5 (upd Tq5 q6 (.lst [.ref q2,.ref q5])):=a0d hq6 _
   have kq6:(upd Tq5 q6 (.lst [.ref q2,.ref q5])) q6=some (.lst [.ref q2,.ref q5]):=a0b
   generalize upd Tq5 q6 (.lst [.ref q2,.ref q5])=Tq6 at sq6 kq6 ⊢
   walk_at "s"
   rw[ha0]
   refine a2f (SqL.of kq6) (c5r hea _ _) ?_
   walk_at "s"
   generalize hpk:b9u ea (V.ref q2) (V.ref q5)=vp
   refine⟨ln (by show 3<=100000;decide),fun q7 hq7=>?_⟩
   have sq7:Same Tq6 (upd Tq6 q7 (.tup [.str (ofString "app"),.str (ofString "a"),vp])):=a0d hq7 _
   have kq7:(upd Tq6 q7 (.tup [.str (ofString "app"),.str (ofString "a"),vp])) q7=some (.tup [.str (ofString "app"),.str (ofString "a"),vp]):=a0b
   generalize upd Tq6 q7 (.tup [.str (ofString "app"),.str (ofString "a"),vp])=Tq7 at sq7 kq7 ⊢
   walk_at "s"
   have S:=(((((sq1.trans sq2).trans sq3).trans sq4).trans sq5).trans sq6).trans sq7
   have dd:Den K Tq7 (.ref q7) (aT ea).2.data:=a_den hea hpk.symm (SqT.of kq7) (SqT.of (sq7 _ _ (sq6 _ _ (sq5 _ _ (sq4 _ _ (sq3 _ _ kq2)))))) (SqT.of (sq7 _ _ (sq6 _ _ kq5))) (a6d (SqT.of (sq7 _ _ (sq6 _ _ (sq5 _ _ (sq4 _ _ (sq3 _ _ (sq2 _ _ kq1)))))))) (b3j (SqT.of (sq7 _ _ (sq6 _ _ (sq5 _ _ (sq4 _ _ kq3)))))) (a6d (SqT.of (sq7 _ _ (sq6 _ _ (sq5 _ _ kq4)))))
   refine⟨D2,_,_,m,rfl,rfl,S _ _ u2,by unfold ixN;have:=f3.length;rw[Trm.dataL_map,length_map,length_map,Wd]at this;rw[if_pos (by omega),if_pos (by omega)];simp,?_⟩
   refine kk _ _ ⟨((List.range n).map (kT w)).set m (aT ea),_,rfl,?_,by simp,th_set (ths hw (by omega)) (th_a hea),by rw[a0j n12];exact S _ _ u4,a0b,?_⟩
   ·exact fun b o hb=>by
     have h1:=(u1.trans S) b o hb
     rw[a0j (fun z=>by rw[z]at hb;have:=g1 _ _ hb;rw[hD2]at this;cases this)]
     exact h1
   ·have:=(DenL.setI m (u3.mono S) dd).lst (o:=.lst (ys.set m (.ref q7))) (S _ _ u2)
    rwa[<-Trm.dataL_set,<-Ua]at this
  ·with_reducible refine b0x ?_
   exact kk _ _ ⟨(List.range n).map (kT w),ys,rfl,g1.trans f1,by simp,ths hw (by omega),g2',f2,f3'⟩
 obtain⟨cs,us,rfl,s3,hcl,hth,k1,k2,hd3⟩:=hP
 walk_at "s"
 refine iteB (fun e=>?_) (fun e=>?_)
 ·obtain⟨c0,cr,rfl⟩:∃c0 cr,cs=c0::cr:=by cases cs with|nil=>simp at hcl;omega|cons a r=>exact⟨a,r,rfl⟩
  rw[length_cons]at hcl
  obtain⟨u0,ur,rfl,hd1,hd2⟩:∃u0 ur,us=u0::ur/\Den K H3 u0 c0.2.data/\DenL K H3 ur (Trm.dataL (cr.map (·.2))):=by
   cases hd3 with
   |cons a b=>exact⟨_,_,rfl,a,b⟩
  walk_at "s"
  refine a2f (SqL.of k2) (v:=u0) at0v ?_
  walk_at "s"
  refine b0d (SqL.of k2) (fun p1 hp1=>?_)
  rw[c8a,V1,Yt]
  have s4:=a0d hp1 (.lst ur)
  have k4:(upd H3 p1 (.lst ur)) p1=some (.lst ur):=a0b
  generalize upd H3 p1 (.lst ur)=H4 at s4 k4 ⊢
  walk_at "s"
  refine⟨p1,rfl,⟨_,SqL.of k4⟩,?_⟩
  have hl2:=hd2.length
  rw[Trm.dataL_map,length_map,length_map]at hl2
  refine a5m (b7d (xs:=ur)) (fun i σ' H'=>∃(u:V)(o7:Option V),σ'=[some (.int c),some (.int (n:Int)),some (.int (m:Int)),some (.int (w:Int)),some (.ref D1),some (.ref D2),some u,o7,none,none]/\Same H4 H'/\Den K H' u (a7d (ofString "-") c0.2 ((cr.map (·.2)).take i)).data) ⟨u0,none,rfl,Same.refl _,hd1.mono s4⟩ (fun i σ' H' hP=>by obtain⟨_,_,_,g,_⟩:=hP;exact SqL.of (g _ _ k4)) (fun i σ' H' hi hP=>?_) (fun σ' H' hP=>?_)
  ·obtain⟨u,o7,rfl,g1,g2⟩:=hP
   obtain⟨x,hx1,hx2⟩:=b3x hd2 (j:=i) (by rw[length_map];omega)
   rw[show ur.getD i .non=x by rw[Z3,hx1];rfl]
   walk_at "s"
   refine⟨ln (by show 2<=100000;decide),fun q1 hq1=>?_⟩
   have sq1:Same H' (upd H' q1 (.tup [u,x])):=a0d hq1 _
   have kq1:(upd H' q1 (.tup [u,x])) q1=some (.tup [u,x]):=a0b
   generalize upd H' q1 (.tup [u,x])=J1 at sq1 kq1 ⊢
   walk_at "s"
   refine⟨ln (by show 3<=100000;decide),fun q2 hq2=>?_⟩
   have sq2:Same J1 (upd J1 q2 (.tup [.str (ofString "app"),.str (ofString "-"),.ref q1])):=a0d hq2 _
   have kq2:(upd J1 q2 (.tup [.str (ofString "app"),.str (ofString "-"),.ref q1])) q2=some (.tup [.str (ofString "app"),.str (ofString "-"),.ref q1]):=a0b
   generalize upd J1 q2 (.tup [.str (ofString "app"),.str (ofString "-"),.ref q1])=J2 at sq2 kq2 ⊢
   walk_at "s"
   refine⟨.ref q2,_,rfl,(g1.trans sq1).trans sq2,?_⟩
   rw[c9f _ (by rw[length_map];omega)]
   exact a2d (SqT.of kq2) (SqT.of (sq2 _ _ kq1)) (.cons (g2.mono (sq1.trans sq2)) (.cons (hx2.mono (((s4.trans g1).trans sq1).trans sq2)) .nil))
  obtain⟨u,o7,rfl,g1,g2⟩:=hP
  rw[Wp (by rw[length_map];omega)]at g2
  walk_at "s"
  refine⟨b1z,?_⟩
  walk_at "s"
  refine b2a (sp:=[32,45,32]) (ls:=(c0::cr).map (·.1)) (by decide+kernel) (SqL.of (g1 _ _ (s4 _ _ k1))) (c5s hth (by rw[length_cons];omega) (by decide)) ?_
  walk_at "s"
  refine⟨ln (by show 3<=100000;decide),fun p9 hp9=>?_⟩
  have s9:=a0d hp9 (.tup [.str (stT (a2j [32,45,32] ((c0::cr).map (·.1)))),u,.bl true])
  exact h p9 _ u _ true _ (((s3.trans s4).trans g1).trans s9) (SqT.of a0b) (g2.mono s9) (d4e hth (by omega))
 have e:¬(c/700%3=0):=by rw[Zt]at e;exact Zo e
 obtain⟨ps,cl,rfl⟩:∃ps cl,cs=ps++[cl]:=by
  rcases nil_or_snoc' cs with z|⟨r,x,z⟩
  ·rw[z]at hcl;simp at hcl;omega
  ·exact⟨r,x,z⟩
 have hts:(ps++[cl]).map (·.2)=ps.map (·.2)++[cl.2]:=by rw[Zk];rfl
 have htx:tvs (ps++[cl])=tvs ps++[.str (stT cl.1)]:=by unfold tvs;rw[Zk,Zk];rfl
 rw[Za,Z9]at hcl
 obtain⟨us',uc,rfl,hd1,hd2⟩:∃us' uc,us=us'++[uc]/\DenL K H3 us' (Trm.dataL (ps.map (·.2)))/\Den K H3 uc cl.2.data:=by
  have:=hd3
  rw[hts,Trm.dataL_map,Zk,<-Trm.dataL_map]at this
  exact this.snoc
 generalize hcs:ps++[cl]=cs at*
 walk_at "s"
 refine a2f (SqL.of k2) (c3h _ _) ?_
 walk_at "s"
 refine⟨ln (by show 2<=100000;decide),fun p4 hp4=>?_⟩
 have sp4:Same H3 (upd H3 p4 (.lst [.str (ofString "::"),.str (ofString "[|]")])):=a0d hp4 _
 have kp4:(upd H3 p4 (.lst [.str (ofString "::"),.str (ofString "[|]")])) p4=some (.lst [.str (ofString "::"),.str (ofString "[|]")]):=a0b
 generalize upd H3 p4 (.lst [.str (ofString "::"),.str (ofString "[|]")])=H4 at sp4 kp4 ⊢
 walk_at "s"
 have hcl2:cs.length=ps.length+1:=by rw[<-hcs];simp
 rcases(show c/700%3=1\/c/700%3=2 by have:=Yd (c/700) (show(3:Int)≠0 by decide);have:=Z5 (c/700) (show(0:Int)<3 by decide);omega)with e1|e1
 ·rw[e1]
  refine a2f (SqL.of kp4) (v:=.str (ofString "::")) rfl ?_
  have k1:=sp4 _ _ k1
  have k2:=sp4 _ _ k2
  have hd3:=hd3.mono sp4
  have hd2:=hd2.mono sp4
  have s3:=s3.trans sp4
  clear kp4 hp4
  generalize H4=H3 at*
  walk_at "s"
  refine⟨1,(n:Int),rfl,by omega,?_⟩
  refine a5m (a3u 1 ((n:Int)-1).toNat) (fun i σ' H'=>∃(u:V)(o9:Option V),σ'=[some (.int c),some (.int (n:Int)),some (.int (m:Int)),some (.int (w:Int)),some (.ref D1),some (.ref D2),some u,none,some (.str (ofString "::")),o9]/\Same H3 H'/\Den K H' u (rf (ofString "::") ((cs.map (·.2)).drop (ps.length-i))).data) ⟨uc,none,rfl,Same.refl _,by rw[hts,W1,List.drop_left' (by rw[length_map])];exact hd2⟩ (fun _ _ _ _=>trivial) (fun i σ' H' hi hP=>?_) (fun σ' H' hP=>?_)
  ·obtain⟨u,o9,rfl,g1,g2⟩:=hP
   have hj:ps.length-(i+1)<(cs.map (·.2)).length:=by rw[length_map];omega
   obtain⟨x,hx1,hx2⟩:=b3x hd3 hj
   walk_at "s"
   rw[show(n:Int)-1-(1+(i:Int))=((ps.length-(i+1):Nat):Int) by omega]
   refine a2f (SqL.of (g1 _ _ k2)) (a6v hx1) ?_
   walk_at "s"
   refine⟨ln (by show 2<=100000;decide),fun q1 hq1=>?_⟩
   have sq1:Same H' (upd H' q1 (.tup [x,u])):=a0d hq1 _
   have kq1:(upd H' q1 (.tup [x,u])) q1=some (.tup [x,u]):=a0b
   generalize upd H' q1 (.tup [x,u])=J1 at sq1 kq1 ⊢
   walk_at "s"
   refine⟨ln (by show 3<=100000;decide),fun q2 hq2=>?_⟩
   have sq2:Same J1 (upd J1 q2 (.tup [.str (ofString "app"),.str (ofString "::"),.ref q1])):=a0d hq2 _
   have kq2:(upd J1 q2 (.tup [.str (ofString "app"),.str (ofString "::"),.ref q1])) q2=some (.tup [.str (ofString "app"),.str (ofString "::"),.ref q1]):=a0b
   generalize upd J1 q2 (.tup [.str (ofString "app"),.str (ofString "::"),.ref q1])=J2 at sq2 kq2 ⊢
   walk_at "s"
   refine⟨.ref q2,_,rfl,(g1.trans sq1).trans sq2,?_⟩
   rw[c7z (k:=ps.length-i) _ (by omega) (by rw[length_map];omega) hj]
   exact a2d (SqT.of kq2) (SqT.of (sq2 _ _ kq1)) (.cons (hx2.mono ((g1.trans sq1).trans sq2)) (.cons (g2.mono (sq1.trans sq2)) .nil))
  obtain⟨u,o9,rfl,g1,g2⟩:=hP
  rw[show ps.length-((n:Int)-1).toNat=0 by omega,Yt]at g2
  walk_at "s"
  refine iteB (fun e=>?_) (fun e=>absurd e (by decide+kernel))
  walk_at "s"
  refine⟨b1z,?_⟩
  walk_at "s"
  refine b2a (sp:=[58,58,32]) (ls:=cs.map (·.1)) (by decide+kernel) (SqL.of (g1 _ _ k1)) (c5s hth (by omega) (by decide)) ?_
  walk_at "s"
  obtain⟨c0,cr,rfl⟩:∃c0 cr,cs=c0::cr:=by cases cs with|nil=>simp at hcl2|cons a r=>exact⟨a,r,rfl⟩
  refine⟨ln (by show 3<=100000;decide),fun p9 hp9=>?_⟩
  have s9:=a0d hp9 (.tup [.str (stT (a2j [58,58,32] ((c0::cr).map (·.1)))),u,.bl true])
  exact h p9 _ u _ true _ ((s3.trans g1).trans s9) (SqT.of a0b) (g2.mono s9) (d2h hth (by simp at hcl2;omega))
 ·rw[e1]
  refine a2f (SqL.of kp4) (v:=.str (ofString "[|]")) rfl ?_
  have k1:=sp4 _ _ k1
  have k2:=sp4 _ _ k2
  have hd3:=hd3.mono sp4
  have hd2:=hd2.mono sp4
  have s3:=s3.trans sp4
  clear kp4 hp4
  generalize H4=H3 at*
  walk_at "s"
  refine⟨1,(n:Int),rfl,by omega,?_⟩
  refine a5m (a3u 1 ((n:Int)-1).toNat) (fun i σ' H'=>∃(u:V)(o9:Option V),σ'=[some (.int c),some (.int (n:Int)),some (.int (m:Int)),some (.int (w:Int)),some (.ref D1),some (.ref D2),some u,none,some (.str (ofString "[|]")),o9]/\Same H3 H'/\Den K H' u (rf (ofString "[|]") ((cs.map (·.2)).drop (ps.length-i))).data) ⟨uc,none,rfl,Same.refl _,by rw[hts,W1,List.drop_left' (by rw[length_map])];exact hd2⟩ (fun _ _ _ _=>trivial) (fun i σ' H' hi hP=>?_) (fun σ' H' hP=>?_)
  ·obtain⟨u,o9,rfl,g1,g2⟩:=hP
   have hj:ps.length-(i+1)<(cs.map (·.2)).length:=by rw[length_map];omega
   obtain⟨x,hx1,hx2⟩:=b3x hd3 hj
   walk_at "s"
   rw[show(n:Int)-1-(1+(i:Int))=((ps.length-(i+1):Nat):Int) by omega]
   refine a2f (SqL.of (g1 _ _ k2)) (a6v hx1) ?_
   walk_at "s"
   refine⟨ln (by show 2<=100000;decide),fun q1 hq1=>?_⟩
   have sq1:Same H' (upd H' q1 (.tup [x,u])):=a0d hq1 _
   have kq1:(upd H' q1 (.tup [x,u])) q1=some (.tup [x,u]):=a0b
   generalize upd H' q1 (.tup [x,u])=J1 at sq1 kq1 ⊢
   walk_at "s"
   refine⟨ln (by show 3<=100000;decide),fun q2 hq2=>?_⟩
   have sq2:Same J1 (upd J1 q2 (.tup [.str (ofString "app"),.str (ofString "[|]"),.ref q1])):=a0d hq2 _
   have kq2:(upd J1 q2 (.tup [.str (ofString "app"),.str (ofString "[|]"),.ref q1])) q2=some (.tup [.str (ofString "app"),.str (ofString "[|]"),.ref q1]):=a0b
   generalize upd J1 q2 (.tup [.str (ofString "app"),.str (ofString "[|]"),.ref q1])=J2 at sq2 kq2 ⊢
   walk_at "s"
   refine⟨.ref q2,_,rfl,(g1.trans sq1).trans sq2,?_⟩
   rw[c7z (k:=ps.length-i) _ (by omega) (by rw[length_map];omega) hj]
   exact a2d (SqT.of kq2) (SqT.of (sq2 _ _ kq1)) (.cons (hx2.mono ((g1.trans sq1).trans sq2)) (.cons (g2.mono (sq1.trans sq2)) .nil))
  obtain⟨u,o9,rfl,g1,g2⟩:=hP
  rw[show ps.length-((n:Int)-1).toNat=0 by omega,Yt]at g2
  walk_at "s"
  refine iteB (fun e=>absurd e (by decide+kernel)) (fun e=>?_)
  walk_at "s"
  refine⟨b1z,?_⟩
  walk_at "s"
  refine b0d (SqL.of (g1 _ _ k1)) (fun p5 hp5=>?_)
  rw[htx,d1v]
  have s5:=a0d hp5 (.lst (tvs ps))
  have k5:(upd H' p5 (.lst (tvs ps))) p5=some (.lst (tvs ps)):=a0b
  generalize upd H' p5 (.lst (tvs ps))=H5 at s5 k5 ⊢
  walk_at "s"
  have hps:∀q∈ps,Th q.1 q.2:=fun q hq=>hth q (by rw[<-hcs];exact Xr _ hq)
  have hcl9:Th cl.1 cl.2:=hth cl (by rw[<-hcs];simp)
  refine b2a (sp:=[44,32]) (ls:=ps.map (·.1)) (by decide+kernel) (SqL.of k5) (c5s hps (by omega) (by decide)) ?_
  rw[b3u]
  obtain⟨p0,pr,rfl⟩:∃p0 pr,ps=p0::pr:=by cases ps with|nil=>simp at hcl;omega|cons a r=>exact⟨a,r,rfl⟩
  have hj:=b3v (ls:=(p0::pr).map (·.1)) (n:=8) (fun l hl=>by obtain⟨q,hq,rfl⟩:=Z7.mp hl;exact(hps q hq).len)
  rw[length_map,length_cons]at hj
  rw[length_cons]at hcl hcl2
  have hc8:=hcl9.len
  refine a5o (a:=[91]) (by decide+kernel) (by simp only[Z9];omega) ?_
  walk_at "s"
  refine a4s (b:=[32,124,32]) (by decide+kernel) (by simp only[Za,length_cons,length_nil];omega) ?_
  walk_at "s"
  refine a2f (SqL.of (s5 _ _ (g1 _ _ k1))) (by rw[htx];exact c3h _ _) ?_
  walk_at "s"
  refine a4s (b:=cl.1) rfl (by simp only[Za,length_cons,length_nil];omega) ?_
  walk_at "s"
  refine a4s (b:=[93]) (by decide+kernel) (by simp only[Za,length_cons,length_nil];omega) ?_
  rw[show((([91]++jt ((p0::pr).map (·.1)))++[32,124,32])++cl.1)++[93]=[91]++(jt ((p0::pr).map (·.1))++([32,124,32]++(cl.1++[93]))) by simp only[Zw]]
  walk_at "s"
  refine⟨ln (by show 3<=100000;decide),fun p9 hp9=>?_⟩
  have s9:=a0d hp9 (.tup [.str (stT ([91]++(jt ((p0::pr).map (·.1))++([32,124,32]++(cl.1++[93]))))),u,.bl true])
  rw[hts,show(ofString "[|]":Str)=a8n from rfl,<-c5o]at g2
  exact h p9 _ u _ true _ (((s3.trans g1).trans s5).trans s9) (SqT.of a0b) ((g2.mono s5).mono s9) (d4f hps hcl9 (by omega))
end
section
variable{P:Program}{w:World}{K:W.Frag}{mg:Str->Option Value}{base:Heap}{t:Ad}
theorem ok_law(T:Txt K mg t)(G_b0:FnOk P w K mg base CX0 1 t.a_b0 t.d_b0 ["_law_script","_law_k"] (a8l K))(G_c1:FnOk P w K mg base CX0 3 t.a_c1 t.d_c1 ["_law_found","_law_dues","_law_good"] (b0u K))(G_d7:FnOk P w K mg base CX0 3 t.a_d7 t.d_d7 ["_law_cell","_law_rest"] (b0t K))(G_b7:FnOk P w K mg base CX0 10 t.a_b7 t.d_b7 ["_law_text","_law_table","_law_way"] (b2o K t.k_a0))(G_d5:FnOk P w K mg base CX0 1 t.a_d5 t.d_d5 ["_law_cell"] (a7e K))(G_b4:FnOk P w K mg base CX0 131 t.a_b4 t.d_b4 ["_law_term"] (a5c K 130))(G_e7:FnOk P w K mg base CX0 2 t.a_e7 t.d_e7 ["_law_cell","_law_rest"] (a7q K))(G_d8:FnOk P w K mg base CX0 1 t.a_d8 t.d_d8 ["_law_cell"] (b4u K))(G_f1:FnOk P w K mg base CX0 1 t.a_f1 t.d_f1 ["_law_cell"] (b2n K)):FnOk P w K mg base CX0 150 t.a_law t.d_law ["_law_script"] (b3n K):=by
 refine T.F_law.ok a5a (fun vs H Q E h=>?_) (fun cdv A outer s H vs Q E hr h=>?_)
 ·unfold b3n at h
  split at h
  ·rfl
  ·exact h.elim
 unfold b3n at h
 split at h
 rotate_left
 ·exact h.elim
 refine⟨_,(@QSs.pss _ _ _ (a0u (c3w (i:=1) a5a.nd rfl (by walk_at "or1") (c7g (a6e a0f (a0y (a0a a0e (a0a a0f a0c))) (a6e a0f (a0y (a0a a0e (a0a a0f a0c))) (a6e a0f (a0y (a0a a0e (a0a a0f a0c))) (a6e a0f (a0y (a0a a0e (a0a a0f a0c))) (a6e a0f (a0y (a0a a0e (a0a a0f a0c))) d0w))))) rfl rfl (by simp) (by decide)) rfl (by walk_at "or1")) (a0u (qs_upd K rfl (mv 1) (c7g (a6e a0f (a0y (a0a a0e (a0a a0f a0c))) (a6e a0f (a0y (a0a a0e (a0a a0f a0c))) (a6e a0f (a0y (a0a a0e (a0a a0f a0c))) (a6e a0f (a0y (a0a a0e (a0a a0f a0c))) (a6e a0f (a0y (a0a a0e (a0a a0f a0c))) d0w))))) rfl rfl (by simp) (by decide)) rfl rfl rfl rfl rfl rfl) (a0u (a1l (a0m (i:=2) (hs:=a2y) a5a.nd rfl (by walk_at "or1") (a0l a1u (a0p G_b0 (hr.mono (by walk_at "r")) rfl T.m_b0 T.F_b0.kp T.b_b0 .nil a0r (a0a (mv 0) (a0a a0e a0c))) a0e))) (a0u (a1l (a0m (i:=3) (hs:=a1q) a5a.nd rfl (by walk_at "or1") (a0p G_b0 (hr.mono (by walk_at "r")) rfl T.m_b0 T.F_b0.kp T.b_b0 .nil a0r (a0a (mv 0) (a0a a0e a0c))))) (a0u (a5h (a0v a1s (mv 2) a0e (a0t _)) (a1t (a1l (a0m (i:=4) (hs:=a1q) a5a.nd rfl (by walk_at "or1") (a0p G_d7 (hr.mono (by walk_at "r")) rfl T.m_d7 T.F_d7.kp T.b_d7 .nil a0r (a0a (mv 3) (a0a (a0p G_b0 (hr.mono (by walk_at "r")) rfl T.m_b0 T.F_b0.kp T.b_b0 .nil a0r (a0a (mv 0) (a0a a0e a0c))) a0c)))))) (a1t (a5h (a0v a1s (mv 2) a0e (a0t _)) (a1t (a1l (a0m (i:=4) (hs:=a1q) a5a.nd rfl (by walk_at "or1") (a0p G_d5 (hr.mono (by walk_at "r")) rfl T.m_d5 T.F_d5.kp T.b_d5 .nil a0r (a0a (mv 3) a0c))))) (a1t (a5h (a0v a1s (mv 2) a0e (a0t _)) (a1t (a1l (a0m (i:=4) (hs:=a1q) a5a.nd rfl (by walk_at "or1") (a0p G_e7 (hr.mono (by walk_at "r")) rfl T.m_e7 T.F_e7.kp T.b_e7 .nil a0r (a0a (mv 3) (a0a (a0p G_b0 (hr.mono (by walk_at "r")) rfl T.m_b0 T.F_b0.kp T.b_b0 .nil a0r (a0a (mv 0) (a0a a0e a0c))) a0c)))))) (a1t (a5h (a0v a1s (mv 2) a0e (a0t _)) (a1t (a1l (a0m (i:=4) (hs:=a1q) a5a.nd rfl (by walk_at "or1") (a0p G_d8 (hr.mono (by walk_at "r")) rfl T.m_d8 T.F_d8.kp T.b_d8 .nil a0r (a0a (mv 3) a0c))))) (a1t (a1l (a0m (i:=4) (hs:=a1q) a5a.nd rfl (by walk_at "or1") (a0p G_f1 (hr.mono (by walk_at "r")) rfl T.m_f1 T.F_f1.kp T.b_f1 .nil a0r (a0a (mv 3) a0c)))))))))))) (a0u (a1l (a0m (i:=5) a5a.nd rfl (by walk_at "or1") (b5d (a0s (a0n K rfl) (mv 4) a0e (fun _ _=>rfl)) (b2z (a2l a4x (a0p G_b4 (hr.mono (by walk_at "r")) rfl T.m_b4 T.F_b4.kp T.b_b4 .nil a0r (a0a (a0s (a0n K rfl) (mv 4) a0e (fun _ _=>rfl)) a0c)) a0e (a0t _)))))) (a0u (a5h (a4i (a1n K rfl (a0p G_c1 (hr.mono (by walk_at "r")) rfl T.m_c1 T.F_c1.kp T.b_c1 .nil a0r (a0a (a0p G_b7 (hr.mono (by walk_at "r")) rfl T.m_b7 T.F_b7.kp T.b_b7 .nil a0r (a0a (a0s (a0n K rfl) (mv 4) a0e (fun _ _=>rfl)) (a0a (mv 1) (a0a a0e a0c)))) (a0a (a1w (a0a (a0s (a0n K rfl) (mv 4) a0e (fun _ _=>rfl)) a0c)) (a0a (mv 5) a0c)))))) (a1t (a1l (a0o a3b))) a4v) (a0u (a1l (a0m (i:=6) (hs:=a2y) a5a.nd rfl (by walk_at "or1") (a0l a1u (a0l a2h (a0p G_b0 (hr.mono (by walk_at "r")) rfl T.m_b0 T.F_b0.kp T.b_b0 .nil a0r (a0a (mv 0) (a0a a0e a0c))) a0e) a0e))) (a0u (a1l (a0m (i:=7) (hs:=a2y) a5a.nd rfl (by walk_at "or1") (a0l (a1f K rfl) (a0l (a1f K rfl) (a3q (a7y K rfl) (a1w (a0a a0f (a0a a0f a0c))) a5k (a3r (mv 6))) (a1w (a0a (a0s (a0n K rfl) (mv 4) a0e (fun _ _=>rfl)) a0c))) (a3q (a7y K rfl) (a1w (a0a a0f (a0a a0f a0c))) (a3r (mv 6)) a5k)))) (a0u (c3w (i:=8) a5a.nd rfl (by walk_at "or1") (c4c (a0k (a1h (a0k (a0x a0f) (a0k (a0x a0f) (a0k (a1h a1d) a1d rfl) rfl) rfl)) (a0k (a1h (a0k (a0x a0f) (a0k (a0x a0f) (a0k (a1h (a0k (a1h (a0k (a0x a0f) (a0k (a0x a0f) (a0k (a1h a1d) a1d rfl) rfl) rfl)) (a0k (a1h (a0k (a0x a0f) (a0k (a0x a0f) a1d rfl) rfl)) a1d rfl) rfl)) a1d rfl) rfl) rfl)) a1d rfl) rfl)) a7k (by walk_at "or1")) (a0u (a1l (a0m (i:=8) (hs:=a2y) a5a.nd rfl (by walk_at "or1") (a0l (a1f K rfl) (a0l (a1f K rfl) (a3q (a7y K rfl) (mv 8) a5k (a3r (mv 6))) (a1w (a0a (a0s (a0n K rfl) (mv 4) a0e (fun _ _=>rfl)) a0c))) (a3q (a7y K rfl) (mv 8) (a3r (mv 6)) a5k)))) (a0u (a5h (a4i (a1n K rfl (a0p G_c1 (hr.mono (by walk_at "r")) rfl T.m_c1 T.F_c1.kp T.b_c1 .nil a0r (a0a (a0p G_b7 (hr.mono (by walk_at "r")) rfl T.m_b7 T.F_b7.kp T.b_b7 .nil a0r (a0a (a3x K rfl Xz X9 X7 (a9c K rfl) a0f (a0a (mv 7) a0c)) (a0a (mv 1) (a0a a0e a0c)))) (a0a (mv 8) (a0a (mv 5) a0c)))))) (a1t (a1l (a0o a3b))) a4v) (a1t (a1l (a0o (a0p G_c1 (hr.mono (by walk_at "r")) rfl T.m_c1 T.F_c1.kp T.b_c1 .nil a0r (a0a (a0p G_b7 (hr.mono (by walk_at "r")) rfl T.m_b7 T.F_b7.kp T.b_b7 .nil a0r (a0a (a0l (a1f K rfl) (a0l (a1f K rfl) (a0s (a0n K rfl) (mv 7) a0e (fun _ _=>rfl)) a0f) (a3x K rfl Xz X9 X7 (a9c K rfl) a0f (a0a (a3q (a7y K rfl) (mv 7) (a3r a0e) a5k) a0c))) (a0a (mv 1) (a0a a0e a0c)))) (a0a (mv 8) (a0a (mv 5) a0c)))))))))))))))))))),?_⟩
 rename_i a
 obtain⟨ns,hS,hn,q⟩:=h
 walk_at "s"
 refine fun p hp=>?_
 have sp:Same H (upd H p (.dK [])):=a0d hp _
 have kp:(upd H p (.dK [])) p=some (.dK []):=a0b
 generalize upd H p (.dK [])=Hp0 at sp kp ⊢
 walk_at "s"
 refine⟨ln (by show 2<=100000;decide),fun a0 ha0=>?_⟩
 have sa0:Same Hp0 (upd Hp0 a0 (.tup [.int 15,.str (ofString "none")])):=a0d ha0 _
 have ka0:(upd Hp0 a0 (.tup [.int 15,.str (ofString "none")])) a0=some (.tup [.int 15,.str (ofString "none")]):=a0b
 generalize upd Hp0 a0 (.tup [.int 15,.str (ofString "none")])=Ha0 at sa0 ka0 ⊢
 walk_at "s"
 refine⟨ln (by show 2<=100000;decide),fun a1 ha1=>?_⟩
 have sa1:Same Ha0 (upd Ha0 a1 (.tup [.int 15,.str (ofString "none")])):=a0d ha1 _
 have ka1:(upd Ha0 a1 (.tup [.int 15,.str (ofString "none")])) a1=some (.tup [.int 15,.str (ofString "none")]):=a0b
 generalize upd Ha0 a1 (.tup [.int 15,.str (ofString "none")])=Ha1 at sa1 ka1 ⊢
 walk_at "s"
 refine⟨ln (by show 2<=100000;decide),fun a2 ha2=>?_⟩
 have sa2:Same Ha1 (upd Ha1 a2 (.tup [.int 15,.str (ofString "none")])):=a0d ha2 _
 have ka2:(upd Ha1 a2 (.tup [.int 15,.str (ofString "none")])) a2=some (.tup [.int 15,.str (ofString "none")]):=a0b
 generalize upd Ha1 a2 (.tup [.int 15,.str (ofString "none")])=Ha2 at sa2 ka2 ⊢
 walk_at "s"
 refine⟨ln (by show 2<=100000;decide),fun a3 ha3=>?_⟩
 have sa3:Same Ha2 (upd Ha2 a3 (.tup [.int 15,.str (ofString "none")])):=a0d ha3 _
 have ka3:(upd Ha2 a3 (.tup [.int 15,.str (ofString "none")])) a3=some (.tup [.int 15,.str (ofString "none")]):=a0b
 generalize upd Ha2 a3 (.tup [.int 15,.str (ofString "none")])=Ha3 at sa3 ka3 ⊢
 walk_at "s"
 refine⟨ln (by show 2<=100000;decide),fun a4 ha4=>?_⟩
 have sa4:Same Ha3 (upd Ha3 a4 (.tup [.int 10,.str (ofString "left")])):=a0d ha4 _
 have ka4:(upd Ha3 a4 (.tup [.int 10,.str (ofString "left")])) a4=some (.tup [.int 10,.str (ofString "left")]):=a0b
 generalize upd Ha3 a4 (.tup [.int 10,.str (ofString "left")])=Ha4 at sa4 ka4 ⊢
 walk_at "s"
 have kp1:=(sa0.trans (sa1.trans (sa2.trans (sa3.trans sa4)))) _ _ kp
 have e1:a5l [] [(Sum.inr (ofString "="),V.ref a0),(Sum.inr (ofString ":="),V.ref a1),(Sum.inr (ofString "<"),V.ref a2),(Sum.inr (ofString "<="),V.ref a3),(Sum.inr (ofString "+"),V.ref a4)]=[(Sum.inr (ofString "="),V.ref a0),(Sum.inr (ofString ":="),V.ref a1),(Sum.inr (ofString "<"),V.ref a2),(Sum.inr (ofString "<="),V.ref a3),(Sum.inr (ofString "+"),V.ref a4)]:=b0v _ _ (by simp only[Z4,Yb,Zu,Xs];decide+kernel)
 refine⟨kp1,[(Sum.inr (ofString "="),V.ref a0),(Sum.inr (ofString ":="),V.ref a1),(Sum.inr (ofString "<"),V.ref a2),(Sum.inr (ofString "<="),V.ref a3),(Sum.inr (ofString "+"),V.ref a4)],rfl,by simp,?_⟩
 rw[e1]
 have t1:TR K Ha4 [(Sum.inr (ofString "="),V.ref a0),(Sum.inr (ofString ":="),V.ref a1),(Sum.inr (ofString "<"),V.ref a2),(Sum.inr (ofString "<="),V.ref a3),(Sum.inr (ofString "+"),V.ref a4)] [(ofString "=",(15,ofString "none")),(ofString ":=",(15,ofString "none")),(ofString "<",(15,ofString "none")),(ofString "<=",(15,ofString "none")),(ofString "+",(10,ofString "left"))]:=(.cons (SqT.of ((sa1.trans (sa2.trans (sa3.trans sa4))) _ _ ka0)) (.cons (SqT.of ((sa2.trans (sa3.trans sa4)) _ _ ka1)) (.cons (SqT.of ((sa3.trans sa4) _ _ ka2)) (.cons (SqT.of (sa4 _ _ ka3)) (.cons (SqT.of ((Same.refl _) _ _ ka4)) .nil)))))
 have t1:=t1.monoT (c5v (o:=.dK [(Sum.inr (ofString "="),V.ref a0),(Sum.inr (ofString ":="),V.ref a1),(Sum.inr (ofString "<"),V.ref a2),(Sum.inr (ofString "<="),V.ref a3),(Sum.inr (ofString "+"),V.ref a4)]) kp1)
 have kpA:(upd Ha4 p (.dK [(Sum.inr (ofString "="),V.ref a0),(Sum.inr (ofString ":="),V.ref a1),(Sum.inr (ofString "<"),V.ref a2),(Sum.inr (ofString "<="),V.ref a3),(Sum.inr (ofString "+"),V.ref a4)])) p=some (.dK [(Sum.inr (ofString "="),V.ref a0),(Sum.inr (ofString ":="),V.ref a1),(Sum.inr (ofString "<"),V.ref a2),(Sum.inr (ofString "<="),V.ref a3),(Sum.inr (ofString "+"),V.ref a4)]):=a0b
 have spA:Same H (upd Ha4 p (.dK [(Sum.inr (ofString "="),V.ref a0),(Sum.inr (ofString ":="),V.ref a1),(Sum.inr (ofString "<"),V.ref a2),(Sum.inr (ofString "<="),V.ref a3),(Sum.inr (ofString "+"),V.ref a4)])):=a2k (sp.trans (sa0.trans (sa1.trans (sa2.trans (sa3.trans sa4))))) hp
 generalize upd Ha4 p (.dK [(Sum.inr (ofString "="),V.ref a0),(Sum.inr (ofString ":="),V.ref a1),(Sum.inr (ofString "<"),V.ref a2),(Sum.inr (ofString "<="),V.ref a3),(Sum.inr (ofString "+"),V.ref a4)])=HA at t1 kpA spA ⊢
 walk_at "s"
 refine⟨.inr (.inr (.inl ⟨rfl,.inl ⟨_,kpA⟩⟩)),?_⟩
 walk_at "s"
 refine fun p2 hp2=>?_
 have sp2:Same HA (upd HA p2 (.dK [])):=a0d hp2 _
 have kp2:(upd HA p2 (.dK [])) p2=some (.dK []):=a0b
 have hne:p≠p2:=a1b kpA hp2
 generalize upd HA p2 (.dK [])=Hp1 at sp2 kp2 ⊢
 walk_at "s"
 refine⟨ln (by show 2<=100000;decide),fun b0 hb0=>?_⟩
 have sb0:Same Hp1 (upd Hp1 b0 (.tup [.int 10,.str (ofString "left")])):=a0d hb0 _
 have kb0:(upd Hp1 b0 (.tup [.int 10,.str (ofString "left")])) b0=some (.tup [.int 10,.str (ofString "left")]):=a0b
 generalize upd Hp1 b0 (.tup [.int 10,.str (ofString "left")])=Hb0 at sb0 kb0 ⊢
 walk_at "s"
 refine⟨ln (by show 2<=100000;decide),fun b1 hb1=>?_⟩
 have sb1:Same Hb0 (upd Hb0 b1 (.tup [.int 8,.str (ofString "left")])):=a0d hb1 _
 have kb1:(upd Hb0 b1 (.tup [.int 8,.str (ofString "left")])) b1=some (.tup [.int 8,.str (ofString "left")]):=a0b
 generalize upd Hb0 b1 (.tup [.int 8,.str (ofString "left")])=Hb1 at sb1 kb1 ⊢
 walk_at "s"
 refine⟨ln (by show 2<=100000;decide),fun b2 hb2=>?_⟩
 have sb2:Same Hb1 (upd Hb1 b2 (.tup [.int 8,.str (ofString "left")])):=a0d hb2 _
 have kb2:(upd Hb1 b2 (.tup [.int 8,.str (ofString "left")])) b2=some (.tup [.int 8,.str (ofString "left")]):=a0b
 generalize upd Hb1 b2 (.tup [.int 8,.str (ofString "left")])=Hb2 at sb2 kb2 ⊢
 walk_at "s"
 refine⟨ln (by show 2<=100000;decide),fun b3 hb3=>?_⟩
 have sb3:Same Hb2 (upd Hb2 b3 (.tup [.int 8,.str (ofString "left")])):=a0d hb3 _
 have kb3:(upd Hb2 b3 (.tup [.int 8,.str (ofString "left")])) b3=some (.tup [.int 8,.str (ofString "left")]):=a0b
 generalize upd Hb2 b3 (.tup [.int 8,.str (ofString "left")])=Hb3 at sb3 kb3 ⊢
 walk_at "s"
 refine⟨ln (by show 2<=100000;decide),fun b4 hb4=>?_⟩
 have sb4:Same Hb3 (upd Hb3 b4 (.tup [.int 12,.str (ofString "right")])):=a0d hb4 _
 have kb4:(upd Hb3 b4 (.tup [.int 12,.str (ofString "right")])) b4=some (.tup [.int 12,.str (ofString "right")]):=a0b
 generalize upd Hb3 b4 (.tup [.int 12,.str (ofString "right")])=Hb4 at sb4 kb4 ⊢
 walk_at "s"
 have kp3:=(sb0.trans (sb1.trans (sb2.trans (sb3.trans sb4)))) _ _ kp2
 have kpB:=(sp2.trans (sb0.trans (sb1.trans (sb2.trans (sb3.trans sb4))))) _ _ kpA
 have hp2H:H p2=none:=spA.free hp2
 have e2:a5l [] [(Sum.inr (ofString "-"),V.ref b0),(Sum.inr (ofString "*"),V.ref b1),(Sum.inr (ofString "/"),V.ref b2),(Sum.inr (ofString "/:"),V.ref b3),(Sum.inr (ofString "::"),V.ref b4)]=[(Sum.inr (ofString "-"),V.ref b0),(Sum.inr (ofString "*"),V.ref b1),(Sum.inr (ofString "/"),V.ref b2),(Sum.inr (ofString "/:"),V.ref b3),(Sum.inr (ofString "::"),V.ref b4)]:=b0v _ _ (by simp only[Z4,Yb,Zu,Xs];decide+kernel)
 refine⟨kp3,[(Sum.inr (ofString "-"),V.ref b0),(Sum.inr (ofString "*"),V.ref b1),(Sum.inr (ofString "/"),V.ref b2),(Sum.inr (ofString "/:"),V.ref b3),(Sum.inr (ofString "::"),V.ref b4)],rfl,by simp,?_⟩
 rw[e2]
 walk_at "s"
 have kpC:(upd Hb4 p2 (.dK [(Sum.inr (ofString "-"),V.ref b0),(Sum.inr (ofString "*"),V.ref b1),(Sum.inr (ofString "/"),V.ref b2),(Sum.inr (ofString "/:"),V.ref b3),(Sum.inr (ofString "::"),V.ref b4)])) p=some (.dK [(Sum.inr (ofString "="),V.ref a0),(Sum.inr (ofString ":="),V.ref a1),(Sum.inr (ofString "<"),V.ref a2),(Sum.inr (ofString "<="),V.ref a3),(Sum.inr (ofString "+"),V.ref a4)]):=by rw[a0j hne];exact kpB
 refine mUpd_i hne kpC a0b (ln (by simp)) ?_
 have e3:a5l [(Sum.inr (ofString "="),V.ref a0),(Sum.inr (ofString ":="),V.ref a1),(Sum.inr (ofString "<"),V.ref a2),(Sum.inr (ofString "<="),V.ref a3),(Sum.inr (ofString "+"),V.ref a4)] [(Sum.inr (ofString "-"),V.ref b0),(Sum.inr (ofString "*"),V.ref b1),(Sum.inr (ofString "/"),V.ref b2),(Sum.inr (ofString "/:"),V.ref b3),(Sum.inr (ofString "::"),V.ref b4)]=[(Sum.inr (ofString "="),V.ref a0),(Sum.inr (ofString ":="),V.ref a1),(Sum.inr (ofString "<"),V.ref a2),(Sum.inr (ofString "<="),V.ref a3),(Sum.inr (ofString "+"),V.ref a4)]++[(Sum.inr (ofString "-"),V.ref b0),(Sum.inr (ofString "*"),V.ref b1),(Sum.inr (ofString "/"),V.ref b2),(Sum.inr (ofString "/:"),V.ref b3),(Sum.inr (ofString "::"),V.ref b4)]:=b0v _ _ (by simp only[Z4,Yb,Zu,Xs];decide+kernel)
 rw[e3]
 have t2:TR K Hb4 ([(Sum.inr (ofString "="),V.ref a0),(Sum.inr (ofString ":="),V.ref a1),(Sum.inr (ofString "<"),V.ref a2),(Sum.inr (ofString "<="),V.ref a3),(Sum.inr (ofString "+"),V.ref a4)]++[(Sum.inr (ofString "-"),V.ref b0),(Sum.inr (ofString "*"),V.ref b1),(Sum.inr (ofString "/"),V.ref b2),(Sum.inr (ofString "/:"),V.ref b3),(Sum.inr (ofString "::"),V.ref b4)]) ([(ofString "=",(15,ofString "none")),(ofString ":=",(15,ofString "none")),(ofString "<",(15,ofString "none")),(ofString "<=",(15,ofString "none")),(ofString "+",(10,ofString "left"))]++[(ofString "-",(10,ofString "left")),(ofString "*",(8,ofString "left")),(ofString "/",(8,ofString "left")),(ofString "/:",(8,ofString "left")),(ofString "::",(12,ofString "right"))]):=(t1.monoT (fun _ _ q=>(sp2.trans (sb0.trans (sb1.trans (sb2.trans (sb3.trans sb4))))).tup q)).app (.cons (SqT.of ((sb1.trans (sb2.trans (sb3.trans sb4))) _ _ kb0)) (.cons (SqT.of ((sb2.trans (sb3.trans sb4)) _ _ kb1)) (.cons (SqT.of ((sb3.trans sb4) _ _ kb2)) (.cons (SqT.of (sb4 _ _ kb3)) (.cons (SqT.of ((Same.refl _) _ _ kb4)) .nil)))))
 have t3:=(t2.monoT (c5v (o:=.dK [(Sum.inr (ofString "-"),V.ref b0),(Sum.inr (ofString "*"),V.ref b1),(Sum.inr (ofString "/"),V.ref b2),(Sum.inr (ofString "/:"),V.ref b3),(Sum.inr (ofString "::"),V.ref b4)]) kp3)).monoT (c5v (o:=.dK ([(Sum.inr (ofString "="),V.ref a0),(Sum.inr (ofString ":="),V.ref a1),(Sum.inr (ofString "<"),V.ref a2),(Sum.inr (ofString "<="),V.ref a3),(Sum.inr (ofString "+"),V.ref a4)]++[(Sum.inr (ofString "-"),V.ref b0),(Sum.inr (ofString "*"),V.ref b1),(Sum.inr (ofString "/"),V.ref b2),(Sum.inr (ofString "/:"),V.ref b3),(Sum.inr (ofString "::"),V.ref b4)])) kpC)
 have sB:Same H (upd (upd Hb4 p2 (.dK [(Sum.inr (ofString "-"),V.ref b0),(Sum.inr (ofString "*"),V.ref b1),(Sum.inr (ofString "/"),V.ref b2),(Sum.inr (ofString "/:"),V.ref b3),(Sum.inr (ofString "::"),V.ref b4)])) p (.dK ([(Sum.inr (ofString "="),V.ref a0),(Sum.inr (ofString ":="),V.ref a1),(Sum.inr (ofString "<"),V.ref a2),(Sum.inr (ofString "<="),V.ref a3),(Sum.inr (ofString "+"),V.ref a4)]++[(Sum.inr (ofString "-"),V.ref b0),(Sum.inr (ofString "*"),V.ref b1),(Sum.inr (ofString "/"),V.ref b2),(Sum.inr (ofString "/:"),V.ref b3),(Sum.inr (ofString "::"),V.ref b4)]))):=a2k (a2k (spA.trans (sp2.trans (sb0.trans (sb1.trans (sb2.trans (sb3.trans sb4)))))) hp2H) hp
 have kpD:(upd (upd Hb4 p2 (.dK [(Sum.inr (ofString "-"),V.ref b0),(Sum.inr (ofString "*"),V.ref b1),(Sum.inr (ofString "/"),V.ref b2),(Sum.inr (ofString "/:"),V.ref b3),(Sum.inr (ofString "::"),V.ref b4)])) p (.dK ([(Sum.inr (ofString "="),V.ref a0),(Sum.inr (ofString ":="),V.ref a1),(Sum.inr (ofString "<"),V.ref a2),(Sum.inr (ofString "<="),V.ref a3),(Sum.inr (ofString "+"),V.ref a4)]++[(Sum.inr (ofString "-"),V.ref b0),(Sum.inr (ofString "*"),V.ref b1),(Sum.inr (ofString "/"),V.ref b2),(Sum.inr (ofString "/:"),V.ref b3),(Sum.inr (ofString "::"),V.ref b4)]))) p=some (.dK ([(Sum.inr (ofString "="),V.ref a0),(Sum.inr (ofString ":="),V.ref a1),(Sum.inr (ofString "<"),V.ref a2),(Sum.inr (ofString "<="),V.ref a3),(Sum.inr (ofString "+"),V.ref a4)]++[(Sum.inr (ofString "-"),V.ref b0),(Sum.inr (ofString "*"),V.ref b1),(Sum.inr (ofString "/"),V.ref b2),(Sum.inr (ofString "/:"),V.ref b3),(Sum.inr (ofString "::"),V.ref b4)])):=a0b
 have hT:TabK K (upd (upd Hb4 p2 (.dK [(Sum.inr (ofString "-"),V.ref b0),(Sum.inr (ofString "*"),V.ref b1),(Sum.inr (ofString "/"),V.ref b2),(Sum.inr (ofString "/:"),V.ref b3),(Sum.inr (ofString "::"),V.ref b4)])) p (.dK ([(Sum.inr (ofString "="),V.ref a0),(Sum.inr (ofString ":="),V.ref a1),(Sum.inr (ofString "<"),V.ref a2),(Sum.inr (ofString "<="),V.ref a3),(Sum.inr (ofString "+"),V.ref a4)]++[(Sum.inr (ofString "-"),V.ref b0),(Sum.inr (ofString "*"),V.ref b1),(Sum.inr (ofString "/"),V.ref b2),(Sum.inr (ofString "/:"),V.ref b3),(Sum.inr (ofString "::"),V.ref b4)]))) p:=⟨_,kpD,t3⟩
 generalize upd (upd Hb4 p2 (.dK [(Sum.inr (ofString "-"),V.ref b0),(Sum.inr (ofString "*"),V.ref b1),(Sum.inr (ofString "/"),V.ref b2),(Sum.inr (ofString "/:"),V.ref b3),(Sum.inr (ofString "::"),V.ref b4)])) p (.dK ([(Sum.inr (ofString "="),V.ref a0),(Sum.inr (ofString ":="),V.ref a1),(Sum.inr (ofString "<"),V.ref a2),(Sum.inr (ofString "<="),V.ref a3),(Sum.inr (ofString "+"),V.ref a4)]++[(Sum.inr (ofString "-"),V.ref b0),(Sum.inr (ofString "*"),V.ref b1),(Sum.inr (ofString "/"),V.ref b2),(Sum.inr (ofString "/:"),V.ref b3),(Sum.inr (ofString "::"),V.ref b4)]))=HB at sB hT ⊢
 clear t2 t3 kpD kpC kpB kp3 kp1 kpA t1 e1 e2 e3
 walk_at "s"
 refine⟨ns,sB.seq hS,by decide,by decide,fun c0=>?_⟩
 walk_at "s"
 refine⟨ns,sB.seq hS,by decide,by decide,fun c1=>?_⟩
 (with_reducible refine a5n ?_)
 (with_reducible refine a9d (fun σ' H'=>∃(ca:Addr)(l:List Nat)(v:V)(t:Trm)(g:Bool),σ'=[some (.ref a),some (.ref p),some (.int (c0%5)),some (.int c1),some (.ref ca),none,none,none,none]/\Same HB H'/\SqT K H' ca [.str (stT l),v,.bl g]/\Den K H' v t.data/\Cse l t g) (fun σ' H2 hP=>?_) (fun kk=>?_))
 rotate_left
 ·walk_at "s"
  refine iteB (fun e=>?_) (fun e=>?_)
  ·walk_at "s"
   refine⟨ns,sB.seq hS,by decide,by decide,fun c2=>?_⟩
   walk_at "s"
   refine fun ca l v t g H1 s1 sq d1 hc=>?_
   (with_reducible refine a5n ?_)
   exact kk _ _ ⟨ca,l,v,t,g,rfl,s1,sq,d1,hc⟩
  walk_at "s"
  refine iteB (fun e=>?_) (fun e=>?_)
  ·walk_at "s"
   refine fun ca l v t g H1 s1 sq d1 hc=>?_
   (with_reducible refine a5n ?_)
   exact kk _ _ ⟨ca,l,v,t,g,rfl,s1,sq,d1,hc⟩
  walk_at "s"
  refine iteB (fun e=>?_) (fun e=>?_)
  ·walk_at "s"
   refine⟨ns,sB.seq hS,by decide,by decide,fun c2=>?_⟩
   walk_at "s"
   refine fun ca l v t g H1 s1 sq d1 hc=>?_
   (with_reducible refine a5n ?_)
   exact kk _ _ ⟨ca,l,v,t,g,rfl,s1,sq,d1,hc⟩
  walk_at "s"
  refine iteB (fun e=>?_) (fun e=>?_)
  ·walk_at "s"
   refine fun ca l v t g H1 s1 sq d1 hc=>?_
   (with_reducible refine a5n ?_)
   exact kk _ _ ⟨ca,l,v,t,g,rfl,s1,sq,d1,hc⟩
  walk_at "s"
  refine fun ca l v t g H1 s1 sq d1 hc=>?_
  (with_reducible refine a5n ?_)
  exact kk _ _ ⟨ca,l,v,t,g,rfl,s1,sq,d1,hc⟩
 obtain⟨ca,l,v,t0,gg,rfl,s2,sq,d1,hc⟩:=hP
 (with_reducible refine a9d (fun σ' H'=>σ'=[some (.ref a),some (.ref p),some (.int (c0%5)),some (.int c1),some (.ref ca),some (.bl (okB t0 gg)),none,none,none]/\Same H2 H') (fun σ' H3 hP=>?_) (fun kk=>?_))
 rotate_left
 ·walk_at "s"
  refine a1c sq (v:=.bl gg) rfl ?_
  walk_at "s"
  cases gg with
  |false=>
   refine iteF ?_
   (with_reducible refine a5n ?_)
   exact kk _ _ ⟨rfl,Same.refl _⟩
  |true=>
   walk_at "D"
   refine a1c sq (v:=v) rfl ?_
   walk_at "s"
   refine⟨t0,d1,hc.sz,by decide,fun H3 s3=>?_⟩
   walk_at "s"
   rw[show decide ((t0.size:Int)<41)=okB t0 true by unfold okB;rw[Y9];exact Wg.mpr (by omega)]
   exact kk _ _ ⟨rfl,s3⟩
 obtain⟨rfl,s3⟩:=hP
 have sq:=s3.tup sq
 have d1:=d1.mono s3
 have s3:=s2.trans s3
 clear s2
 have hsz:t0.size<=1000:=Zz hc.sz (by decide)
 (with_reducible refine a9d (fun σ' H'=>σ'=[some (.ref a),some (.ref p),some (.int (c0%5)),some (.int c1),some (.ref ca),some (.bl (okB t0 gg)),none,none,none]/\Same H3 H') (fun σ' H4 hP=>?_) (fun kk=>?_))
 rotate_left
 ·walk_at "s"
  refine a1c sq (v:=.str (stT l)) rfl ?_
  walk_at "s"
  refine⟨l,tbK,rfl,tx0 hc (hT.mono s3),.inl ⟨rfl,rd0 hc (fun eo pf us H5 s5 k5 d5=>?_) (fun eo pf H5 s5 r5=>?_)⟩⟩
  ·walk_at "s"
   refine a1c (s5.tup sq) (v:=v) rfl ?_
   walk_at "s"
   refine⟨ln (by show 1<=100000;decide),fun p6 hp6=>?_⟩
   have sp6:Same H5 (upd H5 p6 (.lst [v])):=a0d hp6 _
   have kp6:(upd H5 p6 (.lst [v])) p6=some (.lst [v]):=a0b
   generalize upd H5 p6 (.lst [v])=H6 at sp6 kp6 ⊢
   walk_at "s"
   refine⟨.inl ⟨eo,us,[v],[t0],sp6 _ _ k5,kp6,d5.mono sp6,.cons (d1.mono (s5.trans sp6)) .nil,fun x hx=>by rw[Zn.mp hx];exact hsz,by simp⟩,fun H7 s7=>?_⟩
   walk_at "s"
   refine iteF ?_
   (with_reducible refine b0x ?_)
   exact kk _ _ ⟨rfl,(s5.trans sp6).trans s7⟩
  ·walk_at "s"
   refine a1c (s5.tup sq) (v:=v) rfl ?_
   walk_at "s"
   refine⟨ln (by show 1<=100000;decide),fun p6 hp6=>?_⟩
   have sp6:Same H5 (upd H5 p6 (.lst [v])):=a0d hp6 _
   have kp6:(upd H5 p6 (.lst [v])) p6=some (.lst [v]):=a0b
   generalize upd H5 p6 (.lst [v])=H6 at sp6 kp6 ⊢
   walk_at "s"
   refine⟨.inr ⟨eo,r5.mono sp6⟩,fun H7 s7=>?_⟩
   walk_at "s"
   refine iteF ?_
   (with_reducible refine b0x ?_)
   exact kk _ _ ⟨rfl,(s5.trans sp6).trans s7⟩
 obtain⟨rfl,s4⟩:=hP
 have sq:=s4.tup sq
 have d1:=d1.mono s4
 have s4:=s3.trans s4
 clear s3
 walk_at "s"
 refine⟨ns,(sB.trans s4).seq hS,by decide,by decide,fun c3=>?_⟩
 walk_at "s"
 have b1:=Yd (c3/5) (show(3:Int)≠0 by decide)
 have b2:=Z5 (c3/5) (show(0:Int)<3 by decide)
 generalize c3/5%3=mi at b1 b2 ⊢
 obtain⟨m,rfl⟩:=Yi b1
 have hm:m<=2:=by omega
 rw[<-c8b]
 have lo:(cvs oth).length=2:=rfl
 refine⟨ln (by show 2<=100000;decide),fun r1 hr1=>?_⟩
 have sr1:=a0d hr1 (.lst (cvs oth))
 have kr1:(upd H4 r1 (.lst (cvs oth))) r1=some (.lst (cvs oth)):=a0b
 generalize upd H4 r1 (.lst (cvs oth))=J1 at sr1 kr1 ⊢
 walk_at "s"
 refine b0d (SqL.of kr1) (fun r2 hr2=>?_)
 rw[cut_t _ _ (by omega)]
 have sr2:=a0d hr2 (.lst ((cvs oth).take m))
 have kr2:(upd J1 r2 (.lst ((cvs oth).take m))) r2=some (.lst ((cvs oth).take m)):=a0b
 generalize upd J1 r2 (.lst ((cvs oth).take m))=J2 at sr2 kr2 ⊢
 walk_at "s"
 refine a1c ((sr1.trans sr2).tup sq) (v:=.str (stT l)) rfl ?_
 walk_at "s"
 refine⟨ln (by show 1<=100000;decide),fun r3 hr3=>?_⟩
 have sr3:=a0d hr3 (.lst [.str (stT l)])
 have kr3:(upd J2 r3 (.lst [.str (stT l)])) r3=some (.lst [.str (stT l)]):=a0b
 generalize upd J2 r3 (.lst [.str (stT l)])=J3 at sr3 kr3 ⊢
 walk_at "s"
 refine L2.a5o (sr3 _ _ kr2) kr3 (ln (by simp only[Xb,Z9];omega)) (fun r4 hr4=>?_)
 have sr4:=a0d hr4 (.lst ((cvs oth).take m++[.str (stT l)]))
 have kr4:(upd J3 r4 (.lst ((cvs oth).take m++[.str (stT l)]))) r4=some (.lst ((cvs oth).take m++[.str (stT l)])):=a0b
 generalize upd J3 r4 (.lst ((cvs oth).take m++[.str (stT l)]))=J4 at sr4 kr4 ⊢
 walk_at "s"
 rw[<-c8b]
 refine⟨ln (by show 2<=100000;decide),fun r5 hr5=>?_⟩
 have sr5:=a0d hr5 (.lst (cvs oth))
 have kr5:(upd J4 r5 (.lst (cvs oth))) r5=some (.lst (cvs oth)):=a0b
 generalize upd J4 r5 (.lst (cvs oth))=J5 at sr5 kr5 ⊢
 walk_at "s"
 refine b0d (SqL.of kr5) (fun r6 hr6=>?_)
 rw[cut_d _ _ (by omega)]
 have sr6:=a0d hr6 (.lst ((cvs oth).drop m))
 have kr6:(upd J5 r6 (.lst ((cvs oth).drop m))) r6=some (.lst ((cvs oth).drop m)):=a0b
 generalize upd J5 r6 (.lst ((cvs oth).drop m))=J6 at sr6 kr6 ⊢
 walk_at "s"
 have k4':=sr6 _ _ (sr5 _ _ kr4)
 refine L2.a5o k4' kr6 (ln (by simp only[Za,Xb,Yw,Z9];omega)) (fun tx htx=>?_)
 rw[cvs_A m (l,t0,gg)]
 have stx:=a0d htx (.lst (cvs (csA m (l,t0,gg))))
 have ktx:(upd J6 tx (.lst (cvs (csA m (l,t0,gg))))) tx=some (.lst (cvs (csA m (l,t0,gg)))):=a0b
 generalize upd J6 tx (.lst (cvs (csA m (l,t0,gg))))=J7 at stx ktx ⊢
 have s7:Same H4 J7:=(((((sr1.trans sr2).trans sr3).trans sr4).trans sr5).trans sr6).trans stx
 have sq:=s7.tup sq
 have d1:=d1.mono s7
 have s7:=s4.trans s7
 clear k4' s4
 walk_at "s"
 refine⟨ln (by show 0<=100000;decide),fun u1 hu1=>?_⟩
 have su1:Same J7 (upd J7 u1 (.tup [])):=a0d hu1 _
 have ku1:(upd J7 u1 (.tup [])) u1=some (.tup []):=a0b
 generalize upd J7 u1 (.tup [])=Tu1 at su1 ku1 ⊢
 walk_at "s"
 refine⟨ln (by show 3<=100000;decide),fun u2 hu2=>?_⟩
 have su2:Same Tu1 (upd Tu1 u2 (.tup [.str (ofString "app"),.str (ofString "b"),.ref u1])):=a0d hu2 _
 have ku2:(upd Tu1 u2 (.tup [.str (ofString "app"),.str (ofString "b"),.ref u1])) u2=some (.tup [.str (ofString "app"),.str (ofString "b"),.ref u1]):=a0b
 generalize upd Tu1 u2 (.tup [.str (ofString "app"),.str (ofString "b"),.ref u1])=Tu2 at su2 ku2 ⊢
 walk_at "s"
 refine⟨ln (by show 0<=100000;decide),fun u3 hu3=>?_⟩
 have su3:Same Tu2 (upd Tu2 u3 (.tup [])):=a0d hu3 _
 have ku3:(upd Tu2 u3 (.tup [])) u3=some (.tup []):=a0b
 generalize upd Tu2 u3 (.tup [])=Tu3 at su3 ku3 ⊢
 walk_at "s"
 refine⟨ln (by show 3<=100000;decide),fun u4 hu4=>?_⟩
 have su4:Same Tu3 (upd Tu3 u4 (.tup [.str (ofString "app"),.str (ofString "c"),.ref u3])):=a0d hu4 _
 have ku4:(upd Tu3 u4 (.tup [.str (ofString "app"),.str (ofString "c"),.ref u3])) u4=some (.tup [.str (ofString "app"),.str (ofString "c"),.ref u3]):=a0b
 generalize upd Tu3 u4 (.tup [.str (ofString "app"),.str (ofString "c"),.ref u3])=Tu4 at su4 ku4 ⊢
 walk_at "s"
 refine⟨ln (by show 2<=100000;decide),fun u5 hu5=>?_⟩
 have su5:Same Tu4 (upd Tu4 u5 (.tup [.str (ofString "any"),.str (ofString "X")])):=a0d hu5 _
 have ku5:(upd Tu4 u5 (.tup [.str (ofString "any"),.str (ofString "X")])) u5=some (.tup [.str (ofString "any"),.str (ofString "X")]):=a0b
 generalize upd Tu4 u5 (.tup [.str (ofString "any"),.str (ofString "X")])=Tu5 at su5 ku5 ⊢
 walk_at "s"
 refine⟨ln (by show 2<=100000;decide),fun u6 hu6=>?_⟩
 have su6:Same Tu5 (upd Tu5 u6 (.tup [.ref u4,.ref u5])):=a0d hu6 _
 have ku6:(upd Tu5 u6 (.tup [.ref u4,.ref u5])) u6=some (.tup [.ref u4,.ref u5]):=a0b
 generalize upd Tu5 u6 (.tup [.ref u4,.ref u5])=Tu6 at su6 ku6 ⊢
 walk_at "s"
 refine⟨ln (by show 3<=100000;decide),fun u7 hu7=>?_⟩
 have su7:Same Tu6 (upd Tu6 u7 (.tup [.str (ofString "app"),.str (ofString "="),.ref u6])):=a0d hu7 _
 have ku7:(upd Tu6 u7 (.tup [.str (ofString "app"),.str (ofString "="),.ref u6])) u7=some (.tup [.str (ofString "app"),.str (ofString "="),.ref u6]):=a0b
 generalize upd Tu6 u7 (.tup [.str (ofString "app"),.str (ofString "="),.ref u6])=Tu7 at su7 ku7 ⊢
 walk_at "s"
 refine⟨ln (by show 2<=100000;decide),fun u8 hu8=>?_⟩
 have su8:Same Tu7 (upd Tu7 u8 (.lst [.ref u2,.ref u7])):=a0d hu8 _
 have ku8:(upd Tu7 u8 (.lst [.ref u2,.ref u7])) u8=some (.lst [.ref u2,.ref u7]):=a0b
 generalize upd Tu7 u8 (.lst [.ref u2,.ref u7])=J8 at su8 ku8 ⊢
 walk_at "s"
 have S8:=((((((su1.trans su2).trans su3).trans su4).trans su5).trans su6).trans su7).trans su8
 have dO:DenL K J8 [.ref u2,.ref u7] (Trm.dataL (oth.map (·.2.1))):=.cons (a2d (SqT.of (su8 _ _ (su7 _ _ (su6 _ _ (su5 _ _ (su4 _ _ (su3 _ _ ku2))))))) (SqT.of (su8 _ _ (su7 _ _ (su6 _ _ (su5 _ _ (su4 _ _ (su3 _ _ (su2 _ _ ku1)))))))) .nil) (.cons (a2d (SqT.of (su8 _ _ ku7)) (SqT.of (su8 _ _ (su7 _ _ ku6))) (.cons (a2d (SqT.of (su8 _ _ (su7 _ _ (su6 _ _ (su5 _ _ ku4))))) (SqT.of (su8 _ _ (su7 _ _ (su6 _ _ (su5 _ _ (su4 _ _ ku3)))))) .nil) (.cons (b3j (SqT.of (su8 _ _ (su7 _ _ (su6 _ _ ku5))))) .nil))) .nil)
 have sq:=S8.tup sq
 have d1:=d1.mono S8
 have ktx:=S8 _ _ ktx
 have s8:=s7.trans S8
 clear s7
 walk_at "s"
 generalize ([.ref u2,.ref u7]:List V)=uo at ku8 dO
 have lu:uo.length=2:=by have:=dO.length;rw[this];rfl
 refine b0d (SqL.of ku8) (fun w1 hw1=>?_)
 rw[cut_t _ _ (by omega)]
 have sw1:=a0d hw1 (.lst (uo.take m))
 have kw1:(upd J8 w1 (.lst (uo.take m))) w1=some (.lst (uo.take m)):=a0b
 generalize upd J8 w1 (.lst (uo.take m))=J9 at sw1 kw1 ⊢
 walk_at "s"
 refine a1c (sw1.tup sq) (v:=v) rfl ?_
 walk_at "s"
 refine⟨ln (by show 1<=100000;decide),fun w2 hw2=>?_⟩
 have sw2:=a0d hw2 (.lst [v])
 have kw2:(upd J9 w2 (.lst [v])) w2=some (.lst [v]):=a0b
 generalize upd J9 w2 (.lst [v])=J10 at sw2 kw2 ⊢
 walk_at "s"
 refine L2.a5o (sw2 _ _ kw1) kw2 (ln (by simp only[Xb,Z9];omega)) (fun w3 hw3=>?_)
 have sw3:=a0d hw3 (.lst (uo.take m++[v]))
 have kw3:(upd J10 w3 (.lst (uo.take m++[v]))) w3=some (.lst (uo.take m++[v])):=a0b
 generalize upd J10 w3 (.lst (uo.take m++[v]))=J11 at sw3 kw3 ⊢
 walk_at "s"
 refine b0d (SqL.of (sw3 _ _ (sw2 _ _ (sw1 _ _ ku8)))) (fun w4 hw4=>?_)
 rw[cut_d _ _ (by omega)]
 have sw4:=a0d hw4 (.lst (uo.drop m))
 have kw4:(upd J11 w4 (.lst (uo.drop m))) w4=some (.lst (uo.drop m)):=a0b
 generalize upd J11 w4 (.lst (uo.drop m))=J12 at sw4 kw4 ⊢
 walk_at "s"
 refine L2.a5o (sw4 _ _ kw3) kw4 (ln (by simp only[Za,Xb,Yw,Z9];omega)) (fun w5 hw5=>?_)
 have sw5:=a0d hw5 (.lst (uo.take m++[v]++uo.drop m))
 have kw5:(upd J12 w5 (.lst (uo.take m++[v]++uo.drop m))) w5=some (.lst (uo.take m++[v]++uo.drop m)):=a0b
 generalize upd J12 w5 (.lst (uo.take m++[v]++uo.drop m))=J13 at sw5 kw5 ⊢
 (with_reducible refine a5n ?_)
 have S13:=(((sw1.trans sw2).trans sw3).trans sw4).trans sw5
 have ktx:=S13 _ _ ktx
 have s13:=s8.trans S13
 have dD:=cdl_A (m:=m) (c:=(l,t0,gg)) (dO.mono S13) (d1.mono S13)
 have hcs:=c5u (m:=m) (c:=(l,t0,gg)) hm hc
 have hall:=csA_all m hm (l,t0,gg)
 have hsz3:∀x∈(csA m (l,t0,gg)).map (·.2.1),x.size<=1000:=fun x hx=>by
  obtain⟨y,hy,rfl⟩:=Z7.mp hx
  exact Zz (hcs.ok y hy).sz (by decide)
 have hl3:((csA m (l,t0,gg)).map (·.2.1)).length<=100:=by rw[length_map,b6n m hm];decide
 generalize uo.take m++[v]++uo.drop m=vd at kw5 dD
 clear dO ku8 S13 S8 s8
 (with_reducible refine a9d (fun σ' H'=>σ'=[some (.ref a),some (.ref p),some (.int (c0%5)),some (.int c1),some (.ref ca),some (.bl (okB t0 gg)),some (.int (m:Int)),some (.ref tx),some (.ref w5)]/\Same J13 H') (fun σ' H14 hP=>?_) (fun kk=>?_))
 rotate_left
 ·walk_at "s"
  refine⟨b1z,?_⟩
  walk_at "s"
  refine b2a (sp:=[44,32]) (ls:=(csA m (l,t0,gg)).map (·.1)) (by decide+kernel) (SqL.of ktx) (c8c hcs) ?_
  rw[b3u]
  walk_at "s"
  refine⟨_,tbK,rfl,tx1 hm hc (hT.mono s13),.inr (.inl ⟨rfl,rd1 hcs (by intro z;have:=b6n m hm (l,t0,gg);rw[z]at this;simp at this) (fun eo=>?_) (fun eo=>?_)⟩)⟩
  ·intro pf us H5 s5 k5 d5
   rw[hall]at eo
   walk_at "s"
   refine⟨.inl ⟨eo,us,vd,_,k5,s5 _ _ kw5,d5,dD.mono s5,hsz3,hl3⟩,fun H7 s7=>?_⟩
   walk_at "s"
   refine iteF ?_
   (with_reducible refine b0x ?_)
   exact kk _ _ ⟨rfl,s5.trans s7⟩
  ·intro pf H5 s5 r5
   rw[hall]at eo
   walk_at "s"
   refine⟨.inr ⟨eo,r5⟩,fun H7 s7=>?_⟩
   walk_at "s"
   refine iteF ?_
   (with_reducible refine b0x ?_)
   exact kk _ _ ⟨rfl,s5.trans s7⟩
 obtain⟨rfl,s14⟩:=hP
 obtain⟨d,ds,ecs,hne,hl2⟩:=d4j hm (l,t0,gg)
 have tX:=tx2 hm hc ecs (hT.mono (s13.trans s14))
 rw[ecs]at ktx hcs hall hsz3 hl3 dD
 have ktx:=s14 _ _ ktx
 have kw5:=s14 _ _ kw5
 have dD:=dD.mono s14
 have hcd:CsL ds:=⟨fun x hx=>hcs.ok x (Zc _ hx),by omega⟩
 have hd9:=(hcs.ok d (Ze ..)).len
 walk_at "s"
 refine a2f (SqL.of ktx) (v:=.str (stT d.1)) at0v ?_
 walk_at "s"
 refine a4s (a:=d.1) (b:=[32,60,45,32]) (by decide+kernel) (by simp only[length_cons,length_nil];omega) ?_
 walk_at "s"
 refine⟨b1z,?_⟩
 walk_at "s"
 refine b0d (SqL.of ktx) (fun z1 hz1=>?_)
 rw[c8a,show(cvs (d::ds)).drop 1=cvs ds from rfl]
 have sz1:=a0d hz1 (.lst (cvs ds))
 have kz1:(upd H14 z1 (.lst (cvs ds))) z1=some (.lst (cvs ds)):=a0b
 generalize upd H14 z1 (.lst (cvs ds))=H15 at sz1 kz1 ⊢
 walk_at "s"
 refine b2a (sp:=[44,32]) (ls:=ds.map (·.1)) (by decide+kernel) (SqL.of kz1) (c8c hcd) ?_
 rw[b3u]
 have hj:=b3v (ls:=ds.map (·.1)) (n:=290) (fun l hl=>by obtain⟨q,hq,rfl⟩:=Z7.mp hl;exact(hcd.ok q hq).len)
 rw[length_map,hl2]at hj
 refine a4s (a:=d.1++[32,60,45,32]) (b:=jt (ds.map (·.1))) rfl (by simp only[Za,length_cons,length_nil];omega) ?_
 rw[Zw]
 walk_at "s"
 refine⟨d.1++32::60::45::32::jt (ds.map (·.1)),tbK,rfl,⟨tX.len,tX.pl,by obtain⟨kvs,x1,x2⟩:=tX.tab;exact⟨kvs,sz1 _ _ x1,x2.monoT fun _ _ q=>sz1.tup q⟩,tX.cnt,tX.mks⟩,.inr (.inr ⟨rfl,rd2 hcs hne (fun eo=>⟨by rw[length_map];omega,fun pf us H5 s5 k5 d5=>?_⟩) (fun eo pf H5 s5 r5=>?_)⟩)⟩
 ·rw[hall]at eo
  walk_at "s"
  exact⟨.inl ⟨eo,us,vd,_,k5,s5 _ _ (sz1 _ _ kw5),d5,dD.mono (sz1.trans s5),hsz3,hl3⟩,fun H7 s7=>q _⟩
 ·rw[hall]at eo
  walk_at "s"
  exact⟨.inr ⟨eo,r5⟩,fun H7 s7=>q _⟩
end
section
variable{P:Program}{w:World}{K:W.Frag}{mg:Str->Option Value}{base:Heap}{t:Ad}
theorem ok_all(T:Txt K mg t)(D:KD P w K t.c_g3 (b0m t)):FnOk P w K mg base CX0 150 t.a_law t.d_law ["_law_script"] (b3n K):=by
 have h_a3:=b5p (P:=P) (w:=w) (base:=base) T
 have h_d0:=c1z (P:=P) (w:=w) (base:=base) T
 have h_b3:=b9k (P:=P) (w:=w) (base:=base) T
 have h_a5:=b9g (P:=P) (w:=w) (base:=base) T
 have h_c8:=ok_c8 (P:=P) (w:=w) (base:=base) T
 have h_e4:=c8v (P:=P) (w:=w) (base:=base) T
 have h_a6:=ok_a6 (P:=P) (w:=w) (base:=base) T
 have h_f5:=d3s (P:=P) (w:=w) (base:=base) T
 have h_a8:=c6i (P:=P) (w:=w) (base:=base) T
 have h_d6:=c6j (P:=P) (w:=w) (base:=base) T
 have h_e0:=c1x (P:=P) (w:=w) (base:=base) T
 have h_c0:=c4r (P:=P) (w:=w) (base:=base) T
 have h_d9:=c4t (P:=P) (w:=w) (base:=base) T
 have h_b0:=c5p (P:=P) (w:=w) (base:=base) T
 have h_b6:=c9d (P:=P) (w:=w) (base:=base) T
 have h_b9:=c6n (P:=P) (w:=w) (base:=base) T
 have h_d5:=c0v (P:=P) (w:=w) (base:=base) T
 have h_d8:=d4l (P:=P) (w:=w) (base:=base) T
 have h_f1:=d2m (P:=P) (w:=w) (base:=base) T
 have h_a4:=b9h T h_a5
 have h_c7:=c8w T h_a6
 have h_b8:=c4s T h_a8
 have h_c9:=c4q T h_a8
 have h_b5:=c4v T h_a6
 have h_e5:=d2k T h_b6
 have h_f2:=b6r T h_b6
 have h_c6:=d2l T h_b9
 have h_e7:=c2c T h_b9
 have h_c5:=b7s T h_d0
 have h_c3:=b4n T h_a4
 have h_b2:=b4x T h_a5 h_a3
 have h_f0:=c8x T h_b8
 have h_e8:=c8y T h_b8
 have h_d3:=c0j T h_c0 h_a3
 have h_e6:=b3o T h_a3 h_c0
 have h_e2:=c0k T h_a3
 have h_a7:=d1t T h_b5
 have h_e3:=d1w T h_a6 h_c7 h_a3
 have h_d7:=c9e T h_c6
 have h_c1:=c9i T h_e5
 have h_f6:=b2c T D h_a4 h_a7 h_e3
 have h_d4:=c6k T h_a8 h_a3 h_e0 h_e6 h_d3 h_d6 h_c9
 have h_c2:=b9e T h_f0 h_a3
 have h_d2:=b9f T h_e8 h_a3
 have h_e9:=c6m T h_e2 h_b5
 have h_f9:=b2b T h_a5 h_a4 h_c5 h_c2
 have h_f8:=b2d T h_a5 h_e9 h_a4 h_a7
 have h_b1:=d1s T h_d4
 have h_f3:=c6l T h_a3 h_c8 h_e4 h_a6 h_d9 h_d2 h_c2
 have h_f7:=b3q T h_a4 h_f3 h_a5
 have h_a9:=b4m T h_a7 h_d0 h_f9 h_f7 h_f6 h_f8 h_a3 h_f5
 have h_c4:=b3s T h_c3 h_a9
 have h_d1:=ok_d1 T h_b3 h_a9 h_b2 h_b1
 have h_f4:=c5a T h_b3 h_a9 h_c3 h_b2 h_b1 h_c4
 have h_e1:=c2a T h_b3 h_c4 h_b2 h_b1
 have h_b7:=d2n T h_f2 h_d1 h_e1 h_f4
 have h_b4:=c9h (P:=P) (w:=w) (base:=base) T  130
 exact ok_law T h_b0 h_c1 h_d7 h_b7 h_d5 h_b4 h_e7 h_d8 h_f1
end
theorem walk{l:W.OpenLaw}{q:Program}{loose:List Str}{XP:(Str->Option Value)->Heap->Prop}{YP:World->Heap->Prop}{d:DefRec}{K:Params->W.Frag}(hn:l.most=some 63)(hdf:d.params.defaults=[])
  (hY:∀(w:World)(h:Heap),YP w h->(K w.params).In h)
  (F:∀(w:World)(mg:Str->Option Value)(fa:Addr)(h:Heap),(K w.params).In h->h.Ns mainGlobals mg->mg d.name=some (.ref fa)->
   ∃fd:FuncData,(∀(s:Shared)(u:Value),BindsTo s fd ⟨[u],[]⟩ [("_law_script",u)])/\∀base:Heap,(K w.params).In base->base.Ns mainGlobals mg->FnOk l.prog w (K w.params) mg base CX0 150 fa fd ["_law_script"] (b3n (K w.params))):
  W.WalkO q loose XP YP l.row.toRowW d [] (fun f vs=>PySem.call f vs):=
 L2.walk_of (n:=63) (k:=150) (x:="_law_script") (CX:=fun _=>CX0) (sp:=fun w=>b3n (K w.params)) hn (by decide) hdf ⟨rfl,by decide,by decide,rfl⟩ hY F (fun _ _ a ns hl hO hS=>⟨ns,hS,hl,fun _=>rfl⟩) fun _ _ _ _ _ z=>z
end My
open PySem PySem.W PyProof.Rows L2
set_option maxRecDepth 100000 in
set_option maxHeartbeats 0 in
theorem PySem.Challenge.cw_goaltrail_k14_how_much_is_read_holds : PySem.Challenge.rw_goaltrail_k14_how_much_is_read.Holds := by
 w_on;refine W.holds_law My.said1 fun said=>?_
 refine W.holds_open (q:=My.Q) (loose:=My.loose) (Xt:=My.Xt) (XP:=W.XL My.Q []) (Yf:=fun s=>My.ads.map s.heap.get?) (Ya:=fun w=>(My.KK w.params).map fun(p:Addr×Obj)=>some p.2) (YP:=W.InK My.KK) (N:=3514) My.left1 (W.InK.of (fun _=>by kernel_rfl)) W.InK.keeps (fun s e=>W.xl_of s (Tv.mp e).1) W.XL.keeps (by rfl) (by rfl) (by rfl) (fun s e=>W.recFacts_of (Tv.mp e).2) (by rfl) (by assumption) (by decide+kernel) ⟨rfl,rfl,rfl,rfl,rfl,by decide+kernel⟩ ?hw ?hc
 (case hw=>w_witness2)
 k_fill
 refine My.walk (l:=PySem.Challenge.rw_goaltrail_k14_how_much_is_read) rfl rfl (fun w h Y=>Y) ?F
 case F=>
  intro w mg fa h KX G hmg
  have TT:∃t:My.Ad,My.Txt (L2.KOf KX) mg t/\(∀P:Program,L2.KD P w (L2.KOf KX) t.c_g3 (My.b0m t))/\∀(s:Shared)(u:Value),BindsTo s t.d_law ⟨[u],[]⟩ [("_law_script",u)]:=by
   dsimp only[L2.KOf]
   apply Exists.intro (My.Ad.mk _ _ _ _ _ _ _ _ _ _ _ _ _ _ _ _ _ _ _ _ _ _ _ _ _ _ _ _ _ _ _ _ _ _ _ _ _ _ _ _ _ _ _ _ _ _ _ _ _ _ _ _ _ _ _ _ _ _ _ _ _ _ _ _ _ _ _ _ _ _ _ _ _ _ _ _ _ _ _ _ _ _ _ _ _ _ _ _ _ _ _ _ _ _ _ _ _ _ _ _ _ _ _ _ _ _ _ _ _ _ _ _ _ _ _ _ _ _ _ _ _ _ _ _ _ _ _ _ _ _ _ _ _ _ _ _ _ _ _ _ _)
   apply And.intro
   case left=>
    constructor
    all_goals try dsimp only
    all_goals try exact W.mg_of KX G (by k_is)
    all_goals try exact W.mg_none_of KX G (by k_is)
    all_goals first|exact xc_of (by k_is) (by simp) (by simp) (by simp) (by simp)|exact⟨[],by simp,rfl⟩|exact⟨[_],by simp,rfl⟩|exact a6i.mk (by k_is) (by k_is) (by k_is)|exact na_of (by k_is)|exact XMk.mk (xc_of (by k_is) (by simp) (by simp) (by simp) (by simp)) (by k_is) (by k_is) (by k_is)|exact XIs.mk (by k_is) (by k_is) (by k_is) (by k_is)|exact XClsM.mk (by k_is) (by k_is) (by k_is) (by k_is)|exact Cls.mk (by k_is) (by k_is) (by k_is) (by k_is)|exact Mk.mk (by k_is) (by k_is) (is_fn (by k_is)) (by k_is)|exact Meth.mk (by k_is) (is_fn (by k_is)) (by k_is)|exact fun_mk (by k_is) (by k_is) (by k_is)|exact funD_mk (by k_is) (by k_is) (by k_is)|exact bi1 fun _=>rfl|exact bi2 fun _ _=>rfl|exact bi3 fun _ _ _=>rfl|exact bi4 fun _ _ _ _=>rfl|exact bd3 (its:=#[.int 0 _]) (by k_is) rfl fun _ _ _=>⟨_,rfl,rfl⟩|exact bd2 (its:=#[.int 0 _]) (by k_is) rfl fun _ _=>⟨_,rfl,rfl⟩|kit_is|exact sq_of (its:=[.str (ofString "end") _,.str (ofString "") _]) (by k_is) (by simp) (.cons ⟨_,rfl⟩ (.cons ⟨_,rfl⟩ .nil))|exact sq_of (its:=[.str (ofString "app") _,.str (ofString "[]") _,.ref _]) (by k_is) (by simp) (.cons ⟨_,rfl⟩ (.cons ⟨_,rfl⟩ (.cons rfl .nil)))|exact sq_of (its:=[]) (by k_is) (by simp) .nil|rfl
   apply And.intro
   case left=>exact fun P=>L2.kd_of (es:=[⟨keyHash w.params (ofString "whole"),.str (ofString "whole") _,.str (ofString "") _⟩,⟨keyHash w.params (ofString "round"),.str (ofString "round") _,.str (ofString ")") _⟩,⟨keyHash w.params (ofString "kids"),.str (ofString "kids") _,.str (ofString ")") _⟩,⟨keyHash w.params (ofString "list"),.str (ofString "list") _,.str (ofString "]") _⟩,⟨keyHash w.params (ofString "rest"),.str (ofString "rest") _,.str (ofString "]") _⟩]) (by k_is) (.cons ⟨_,rfl⟩ (.cons ⟨_,rfl⟩ (.cons ⟨_,rfl⟩ (.cons ⟨_,rfl⟩ (.cons ⟨_,rfl⟩ .nil))))) My.c6h
   exact fun s u=>.of_eq rfl
  obtain⟨t,T,D_g3,e1⟩:=TT
  have e0:=hmg.symm.trans T.m_law
  cases e0
  exact⟨t.d_law,e1,fun base kb nb=>My.ok_all T (D_g3 _)⟩
