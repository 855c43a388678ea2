import PyProof.Rows.All
import PyProof.StrBlock2
import PyProof.Rows.StrIntSpec
import KE.KItemsList
import KE.KDictLaws
import PyProof.SumWalkG
import KE.KRevIter
import PyProof.ListRange
import PyProof.Rows.SortWalk
import KE.KSortedM
import PyProof.Rows.SortStr
import Wide.All
import OpenK.AllK
import Wide.FinOn
import Lean
import PyProof.EqAt
import PyProof.EqKinds
import PyProof.TupleCall
import PyProof.NeKinds
import PyProof.DictUpdate
import KE.KDictList
import KE.KEqDict
import PyProof.Draws
import PyProof.Rows.EnumRows
import PyProof.StationsW
import PyProof.ExcClass3
import PyProof.RulesAs
import PyProof.ExcBaseAll.ValueError
import PyProof.InstStoreFacts
import PyProof.ExcArgsOwn
import PyProof.NsDelKeeps
import KE.RegKIsAll
import PyProof.Rows.LoopZipPat
import PyProof.StrLawsRepr
import KE.KDictOf
import PyProof.WalksS
import PyProof.AttrMissHeap
import PySem.Challenge.RW_goaltrail_k51_boxes_made_one
set_option Elab.async false
set_option linter.all false
set_option maxRecDepth 100000
set_option genSizeOf false
set_option compiler.extract_closed false
namespace L2
open PySem PySem.Spec PyProof.Rows
theorem us0 {us:List Value} {P:List Value->Prop} (hl:us.length = 0) (h:P []):P us:=by cases us with | nil=>exact h | cons a r=>cases hl
theorem us1 {us:List Value} {P:List Value->Prop} (hl:us.length = 1) (h:∀ a,P [a]):P us:=by cases us with | nil=>cases hl | cons a r=>exact us0 (P:=fun r=>P (a :: r)) (Nat.succ.inj hl) (h a)
theorem us2 {us:List Value} {P:List Value->Prop} (hl:us.length = 2) (h:∀ a b,P [a,b]):P us:=by cases us with | nil=>cases hl | cons a r=>exact us1 (P:=fun r=>P (a :: r)) (Nat.succ.inj hl) (h a)
theorem us3 {us:List Value} {P:List Value->Prop} (hl:us.length = 3) (h:∀ a b c,P [a,b,c]):P us:=by cases us with | nil=>cases hl | cons a r=>exact us2 (P:=fun r=>P (a :: r)) (Nat.succ.inj hl) (h a)
theorem us4 {us:List Value} {P:List Value->Prop} (hl:us.length = 4) (h:∀ a b c d,P [a,b,c,d]):P us:=by cases us with | nil=>cases hl | cons a r=>exact us3 (P:=fun r=>P (a :: r)) (Nat.succ.inj hl) (h a)
theorem us5 {us:List Value} {P:List Value->Prop} (hl:us.length = 5) (h:∀ a b c d e,P [a,b,c,d,e]):P us:=by cases us with | nil=>cases hl | cons a r=>exact us4 (P:=fun r=>P (a :: r)) (Nat.succ.inj hl) (h a)
theorem us6 {us:List Value} {P:List Value->Prop} (hl:us.length = 6) (h:∀ a b c d e f,P [a,b,c,d,e,f]):P us:=by cases us with | nil=>cases hl | cons a r=>exact us5 (P:=fun r=>P (a :: r)) (Nat.succ.inj hl) (h a)
theorem ex1 {us:List Value} (hl:us.length = 1):∃ a,us = [a]:=us1 (P:=fun us=>∃ a',us = [a']) hl fun a=>⟨a,rfl⟩
theorem ex2 {us:List Value} (hl:us.length = 2):∃ a b,us = [a,b]:=us2 (P:=fun us=>∃ a' b',us = [a',b']) hl fun a b=>⟨a,b,rfl⟩
theorem ex3 {us:List Value} (hl:us.length = 3):∃ a b c,us = [a,b,c]:=us3 (P:=fun us=>∃ a' b' c',us = [a',b',c']) hl fun a b c=>⟨a,b,c,rfl⟩
theorem ex4 {us:List Value} (hl:us.length = 4):∃ a b c d,us = [a,b,c,d]:=us4 (P:=fun us=>∃ a' b' c' d',us = [a',b',c',d']) hl fun a b c d=>⟨a,b,c,d,rfl⟩
theorem ex5 {us:List Value} (hl:us.length = 5):∃ a b c d e,us = [a,b,c,d,e]:=us5 (P:=fun us=>∃ a' b' c' d' e',us = [a',b',c',d',e']) hl fun a b c d e=>⟨a,b,c,d,e,rfl⟩
theorem ex6 {us:List Value} (hl:us.length = 6):∃ a b c d e f,us = [a,b,c,d,e,f]:=us6 (P:=fun us=>∃ a' b' c' d' e' f',us = [a',b',c',d',e',f']) hl fun a b c d e f=>⟨a,b,c,d,e,f,rfl⟩
noncomputable abbrev Key:=Sum Int Str
noncomputable def b1n:Key->Value->Bool
 | .inl k,v=>Value.isInt k v
 | .inr x,v=>Value.isStrOf x v
noncomputable def keyH (w:World):Key->Int
 | .inl k=>hashInt k
 | .inr x=>hashStr w x
theorem a2o:∀ {k:Key} {v:Value},b1n k v = true->(∃ i t,k = Sum.inl i/\v = Value.int i t)\/(∃ x t,k = Sum.inr x/\v = Value.str x t)
 | .inl i,v,h=>by
  obtain ⟨t,e⟩:=Value.isInt_shape (k:=i) (v:=v) h
  exact .inl ⟨i,t,rfl,e⟩
 | .inr x,v,h=>by
  obtain ⟨t,e⟩:=Value.isStrOf_shape (x:=x) (v:=v) h
  exact .inr ⟨x,t,rfl,e⟩
theorem c2f (i:Int) (t:Tok):b1n (.inl i) (.int i t) = true:=by simp [b1n,Value.isInt]
theorem c2g (x:Str) (t:Tok):b1n (.inr x) (.str x t) = true:=by simp [b1n,Value.isStrOf]
theorem c2h (a b:Int):decide ((Sum.inl a:Key) = Sum.inl b) = (a == b):=by
 by_cases e:a = b
 ·subst e; simp
 ·have h:¬ (Sum.inl a:Key) = Sum.inl b:=fun q=>e (Sum.inl.inj q)
  rw [decide_eq_false h]
  exact (beq_eq_false_iff_ne.mpr e).symm
theorem b6c (a b:Str):decide ((Sum.inr a:Key) = Sum.inr b) = decide (a = b):=by
 by_cases e:a = b
 ·subst e; simp
 ·have h:¬ (Sum.inr a:Key) = Sum.inr b:=fun q=>e (Sum.inr.inj q)
  rw [decide_eq_false h,decide_eq_false e]
theorem c2i (a:Int) (b:Str):decide ((Sum.inl a:Key) = Sum.inr b) = false:=decide_eq_false (fun q=>nomatch q)
theorem c2j (a:Str) (b:Int):decide ((Sum.inr a:Key) = Sum.inl b) = false:=decide_eq_false (fun q=>nomatch q)
noncomputable def a1k (prog:Program) (w:World):PySem.KeyKind prog w Key where
 is:=b1n
 hash:=keyH w
 inj:=fun v a b ha hb=>by
  rcases a2o ha with ⟨i,t,rfl,rfl⟩ | ⟨x,t,rfl,rfl⟩
  ·rcases a2o hb with ⟨j,u,rfl,e⟩ | ⟨y,u,rfl,e⟩
   ·injection e with e1 _; rw [e1]
   ·exact nomatch e
  ·rcases a2o hb with ⟨j,u,rfl,e⟩ | ⟨y,u,rfl,e⟩
   ·exact nomatch e
   ·injection e with e1 _; rw [e1]
 byValue:=fun k v h=>by
  rcases a2o h with ⟨i,t,rfl,rfl⟩ | ⟨x,t,rfl,rfl⟩ <;> rfl
 pyHash:=fun hv h=>by
  rcases a2o hv with ⟨i,t,rfl,rfl⟩ | ⟨x,t,rfl,rfl⟩
  ·exact wpAny_pyHash_int h
  ·exact wpAny_pyHash_str h
 eqBool:=fun hu hv h=>by
  rcases a2o hu with ⟨i,t,rfl,rfl⟩ | ⟨x,t,rfl,rfl⟩
  ·rcases a2o hv with ⟨j,u,rfl,rfl⟩ | ⟨y,u,rfl,rfl⟩
   ·rw [c2h] at h; exact wpAny_eqBool_int h
   ·rw [c2i] at h; exact SeqAt.EqAt.int_str i t y u _ _ _ _ h
  ·rcases a2o hv with ⟨j,u,rfl,rfl⟩ | ⟨y,u,rfl,rfl⟩
   ·rw [c2j] at h; exact SeqAt.EqAt.str_int x t j u _ _ _ _ h
   ·rw [b6c] at h; exact wpAny_eqBool_str h
 «strs»:=fun k x t v h=>by
  rcases a2o h with ⟨i,u,rfl,e⟩ | ⟨y,u,rfl,e⟩
  ·exact nomatch e
  ·injection e with e1 _
   subst e1
   cases v <;> rfl
theorem a9d (prog:Program) (w:World) (i:Int) (t:Tok):(a1k prog w).is (.inl i) (.int i t) = true:=c2f i t
theorem a9e (prog:Program) (w:World) (x:Str) (t:Tok):(a1k prog w).is (.inr x) (.str x t) = true:=c2g x t
inductive V where
 | non | bl (b:Bool) | int (i:Int) | str (x:Str) | byt (b:Array UInt8) | flt (b:UInt64) | ref (a:Addr) | ty (n:String)
 deriving DecidableEq
noncomputable def RelV:V->Value->Prop
 | .non,u=>u = Value.none
 | .bl b,u=>u = Value.bool b
 | .int i,u=>∃ t,u = Value.int i t
 | .str x,u=>∃ t,u = Value.str x t
 | .byt b,u=>∃ t,u = Value.bytes b t
 | .flt b,u=>∃ t,u = Value.float b t
 | .ref a,u=>u = Value.ref a
 | .ty n,u=>u = Value.type n
noncomputable abbrev Vals:List V->List Value->Prop:=Paired RelV
theorem Vals.length {xs:List V} {us:List Value} (r:Vals xs us):xs.length = us.length:=Paired.length r
theorem Vals.get:∀ {xs:List V} {us:List Value} {i:Nat} {x:V},Vals xs us->xs[i]? = some x->∃ u,us[i]? = some u/\RelV x u
 | _,_,_,_,.nil,e=>by simp at e
 | _,_,0,_,.cons r _,e=>by simp at e; subst e; exact ⟨_,rfl,r⟩
 | _,_,i + 1,x,.cons _ t,e=>by
  obtain ⟨u,h1,h2⟩:=Vals.get (i:=i) (x:=x) t (by simpa using e)
  exact ⟨u,by simpa using h1,h2⟩
theorem Vals.set {x:V} {u:Value} (r:RelV x u):∀ {xs:List V} {us:List Value} (i:Nat),Vals xs us->Vals (xs.set i x) (us.set i u)
 | _,_,_,.nil=>.nil
 | _,_,0,.cons _ t=>.cons r t
 | _,_,i + 1,.cons q t=>.cons q (Vals.set r i t)
theorem Vals.append:∀ {xs ys:List V} {us ws:List Value},Vals xs us->Vals ys ws->Vals (xs ++ ys) (us ++ ws)
 | _,_,_,_,.nil,s=>s
 | _,_,_,_,.cons r t,s=>.cons r (Vals.append t s)
theorem Vals.take:∀ {xs:List V} {us:List Value} (n:Nat),Vals xs us->Vals (xs.take n) (us.take n)
 | _,_,0,_=>.nil
 | _,_,_ + 1,.nil=>.nil
 | _,_,n + 1,.cons r t=>.cons r (Vals.take n t)
theorem Vals.drop:∀ {xs:List V} {us:List Value} (n:Nat),Vals xs us->Vals (xs.drop n) (us.drop n)
 | _,_,0,r=>r
 | _,_,_ + 1,.nil=>.nil
 | _,_,n + 1,.cons _ t=>Vals.drop n t
theorem Vals.none_of:∀ {xs:List V} {us:List Value} {i:Nat},Vals xs us->xs[i]? = none->us[i]? = none:=fun {xs us i} r e=>by
 have h1:=r.length
 have h2:xs.length<=i:=List.getElem?_eq_none_iff.mp e
 exact List.getElem?_eq_none_iff.mpr (by omega)
noncomputable def RelO:Option V->Option Value->Prop
 | some v,some u=>RelV v u
 | none,none=>True
 | _,_=>False
noncomputable def KV {κ:Type}:List (κ × V)->List (κ × Value)->Prop:=Paired fun (p:κ × V) (q:κ × Value)=>p.1 = q.1/\RelV p.2 q.2
noncomputable def kV:Key->V
 | .inl i=>.int i
 | .inr x=>.str x
inductive HO where
 | lst (xs:List V)
 | tup (xs:List V)
 | dK (kvs:List (Key × V)) | dT (kvs:List (List Key × V))
 | set (S:Int->Bool) (n:Nat)
 | ins (C dx:Addr) (fs:List (Str × V))
 | own (x:Addr)
 | xd (fs:List (Str × V))
 | met (f x:Addr)
 | rng (lo hi:Int)
 | frz (o:Obj) (u:HO)
 | tbl (ps:Array Value)
 | ext (φ:Heap->Prop)
noncomputable abbrev Hp:=Addr->Option HO
noncomputable def upd (H:Hp) (a:Addr) (o:HO):Hp:=fun b=>if b = a then some o else H b
theorem a0b {H:Hp} {a:Addr} {o:HO}:upd H a o a = some o:=by unfold upd; rw [if_pos rfl]
theorem a0j {H:Hp} {a b:Addr} {o:HO} (h:b ≠ a):upd H a o b = H b:=by unfold upd; rw [if_neg h]
theorem ne_of {H:Hp} {a b:Addr} {o u:HO} (h:H a = some o) (h':H b = some u) (d:o ≠ u):a ≠ b:=by
 intro e; subst e; rw [h] at h'; exact d (Option.some.inj h')
theorem a0t {H:Hp} {a b:Addr} {o:HO} (h:H a = some o) (h':H b = none):a ≠ b:=by
 intro e; subst e; rw [h] at h'; cases h'
section
variable (P:Program) (w:World)
noncomputable def a1m (H:Hp) (h:Heap) (a:Addr):HO->Prop
 | .lst xs=>xs.length<=sizeLine/\∃ (its:List Value) (n:Nat),Vals xs its/\h.get? a = some { cls:=.type "list",data:=.seq its.toArray n }
 | .tup xs=>xs.length<=sizeLine/\∃ its:List Value,Vals xs its/\IsTup h a its.toArray
 | .dK kvs=>kvs.length<=sizeLine/\(a == sysModules) = false/\∃ vs,KV kvs vs/\h.DictOf (a1k P w) a vs
 | .dT kvs=>kvs.length<=sizeLine/\(a == sysModules) = false/\∃ xs:List (List Key × Addr × Value),
   Paired (fun (p:List Key × V) (q:List Key × Addr × Value)=>p.1 = q.1/\H q.2.1 = some (.tup (p.1.map kV))/\RelV p.2 q.2.2) kvs xs /\
   ∃ o es ep,h.get? a = some o/\o.ExactDict/\o.data = .dict es ep/\es.toList = xs.map (entryOfKey (tupleKind (a1k P w)))/\(xs.map (·.1)).Nodup
 | .set S n=>h.SetOf (intKind P w) a S n
 | .ins C dx fs=>H dx = some (.own a)/\fs.length<=1000/\dx ≠ a/\h.get? a = some (W.instObj C dx) /\
   ∃ mA,h.Ns1 dx mA/\(∀ f,RelO (fs.lookup f) (mA f))/\PySem.Within mA (fs.map (·.1))
 | .own _=>∃ o,h.get? a = some o
 | .xd fs=>∃ mA,h.Ns1 a mA/\∀ f,RelO (fs.lookup f) (mA f)
 | .rng lo hi=>∃ t u v,h.get? a = some { cls:=.type "range",data:=.fields #[.int lo t,.int hi u,.int 1 v] }
 | .frz o u=>h.get? a = some o/\a1m H h a u
 | .tbl ps=>h.get? a = some { cls:=.none,data:=.fields ps }
 | .met f x=>h.get? a = some (W.methodObj (.ref f) (.ref x))
 | .ext φ=>φ h/\(∃ o,h.get? a = some o)/\∀ h1 h2:Heap,φ h1->(∀ o,h1.get? a = some o->h2.get? a = some o)->φ h2
noncomputable def HOk (H:Hp) (h:Heap):Prop:=∀ a o,H a = some o->a1m P w H h a o
end
section
variable {P:Program} {w:World} {H H':Hp} {h h':Heap} {a:Addr} {o:HO}
theorem a1m.lt (x:a1m P w H h a o):a < h.objs.size:=by
 cases o with
 | lst xs=>obtain ⟨_,_,_,_,e⟩:=x; exact Heap.lt_size e
 | tup xs=>obtain ⟨_,_,_,p⟩:=x; exact p.lt
 | dK kvs=>obtain ⟨_,_,_,_,o,_,_,e,_⟩:=x; exact Heap.lt_size e
 | dT kvs=>obtain ⟨_,_,_,_,o,_,_,e,_⟩:=x; exact Heap.lt_size e
 | set S n=>obtain ⟨o,_,_,_,e,_⟩:=x; exact Heap.lt_size e
 | ins C dx fs=>obtain ⟨_,_,_,e,_⟩:=x; exact Heap.lt_size e
 | own y=>obtain ⟨_,e⟩:=x; exact Heap.lt_size e
 | xd fs=>obtain ⟨_,⟨_,_,_,e,_⟩,_⟩:=x; exact Heap.lt_size e
 | rng lo hi=>obtain ⟨_,_,_,e⟩:=x; exact Heap.lt_size e
 | frz ob u=>obtain ⟨e,_⟩:=x; exact Heap.lt_size e
 | tbl ps=>exact Heap.lt_size (show h.get? a = some _ from x)
 | met f y=>exact Heap.lt_size (show h.get? a = some _ from x)
 | ext φ=>obtain ⟨_,⟨_,e⟩,_⟩:=x; exact Heap.lt_size e
theorem Paired.mapP {α β:Type} {F G:α->β->Prop}:∀ {l₁:List α} {l₂:List β},Paired F l₁ l₂->(∀ a b,F a b->G a b)->Paired G l₁ l₂
 | _,_,.nil,_=>.nil
 | _,_,.cons r t,f=>.cons (f _ _ r) (Paired.mapP t f)
theorem a1m.stay (x:a1m P w H h a o) (k:∀ b u,(b = a\/H b = some (.own a))->h.get? b = some u->h'.get? b = some u)
  (ho:∀ b,H b = some (.own a)->H' b = some (.own a)) (ht:∀ b xs,H b = some (.tup xs)->H' b = some (.tup xs)):a1m P w H' h' a o:=by
 induction o with
 | lst xs=>obtain ⟨z,its,n,r,e⟩:=x; exact ⟨z,its,n,r,k _ _ (.inl rfl) e⟩
 | tup xs=>obtain ⟨z,its,r,ob,e,c⟩:=x; exact ⟨z,its,r,ob,k _ _ (.inl rfl) e,c⟩
 | dK kvs=>obtain ⟨z,y,vs,r,ob,es,ep,e,c⟩:=x; exact ⟨z,y,vs,r,ob,es,ep,k _ _ (.inl rfl) e,c⟩
 | dT kvs=>
  obtain ⟨z,y,xs,r,ob,es,ep,e,c⟩:=x
  exact ⟨z,y,xs,Paired.mapP r fun p q z=>⟨z.1,ht _ _ z.2.1,z.2.2⟩,ob,es,ep,k _ _ (.inl rfl) e,c⟩
 | set S n=>obtain ⟨ob,es,ep,t,e,c⟩:=x; exact ⟨ob,es,ep,t,k _ _ (.inl rfl) e,c⟩
 | ins C dx fs=>
  obtain ⟨d,z,ne,e,mA,⟨od,es,ep,e2,c⟩,r⟩:=x
  exact ⟨ho _ d,z,ne,k _ _ (.inl rfl) e,mA,⟨od,es,ep,k _ _ (.inr d) e2,c⟩,r⟩
 | own y=>obtain ⟨ob,e⟩:=x; exact ⟨ob,k _ _ (.inl rfl) e⟩
 | xd fs=>obtain ⟨mA,⟨od,es,ep,e,c⟩,r⟩:=x; exact ⟨mA,⟨od,es,ep,k _ _ (.inl rfl) e,c⟩,r⟩
 | rng lo hi=>obtain ⟨t,u,v,e⟩:=x; exact ⟨t,u,v,k _ _ (.inl rfl) e⟩
 | frz ob u ih=>obtain ⟨e,q⟩:=x; exact ⟨k _ _ (.inl rfl) e,ih q⟩
 | tbl ps=>
  have e:h.get? a = some { cls:=.none,data:=.fields ps }:=x
  show h'.get? a = some { cls:=.none,data:=.fields ps }
  exact k a _ (.inl rfl) e
 | met f y=>
  have e:h.get? a = some (W.methodObj (.ref f) (.ref y)):=x
  show h'.get? a = some (W.methodObj (.ref f) (.ref y))
  exact k a _ (.inl rfl) e
 | ext φ=>obtain ⟨p,⟨o,e⟩,st⟩:=x; exact ⟨st _ _ p fun o q=>k _ _ (.inl rfl) q,⟨o,k _ _ (.inl rfl) e⟩,st⟩
theorem HOk.lt (x:HOk P w H h) (e:H a = some o):a < h.objs.size:=(x a o e).lt
theorem HOk.fresh (x:HOk P w H h) (e:h.objs.size<=a):H a = none:=by
 cases q:H a with
 | none=>rfl
 | some u=>exact absurd (Nat.lt_of_lt_of_le (x.lt q) e) (Nat.lt_irrefl _)
theorem HOk.kept (x:HOk P w H h) (k:∀ b u,h.get? b = some u->h'.get? b = some u):HOk P w H h':=fun a o e=>
 (x a o e).stay (fun b u _ q=>k b u q) (fun _ q=>q) fun _ _ q=>q
theorem HOk.laid (x:HOk P w H h) (k:∀ b u,h.get? b = some u->h'.get? b = some u) (hp:h.objs.size<=a) (new:a1m P w (upd H a o) h' a o):HOk P w (upd H a o) h':=fun b u e=>by
 have hn:=x.fresh hp
 by_cases hb:b = a
 ·subst hb; rw [a0b] at e; cases e; exact new
 ·rw [a0j hb] at e
  exact (x b u e).stay (fun c v _ q=>k c v q) (fun c q=>by rw [a0j (a0t q hn)]; exact q) fun c xs q=>by rw [a0j (a0t q hn)]; exact q
end
noncomputable def Rd (H:Hp) (a:Addr) (u:HO):Prop:=H a = some u\/∃ o,H a = some (.frz o u)
theorem Rd.of {H:Hp} {a:Addr} {u:HO} (h:H a = some u):Rd H a u:=.inl h
theorem Rd.ok {P:Program} {w:World} {H:Hp} {h:Heap} {a:Addr} {u:HO} (r:Rd H a u) (x:HOk P w H h):a1m P w H h a u:=by
 rcases r with r | ⟨o,r⟩
 ·exact x a u r
 ·obtain ⟨_,q⟩:=x a _ r
  exact q
noncomputable def Mut:Option HO->Prop
 | some (.lst _)=>True
 | some (.dK _)=>True
 | some (.dT _)=>True
 | some (.set _ _)=>True
 | some (.ins _ _ _)=>True
 | some (.ext _)=>True
 | _=>False
section
variable {P:Program} {w:World} {H:Hp} {h h':Heap} {x e:Addr} {o':HO}
theorem HOk.write (ok:HOk P w H h) (mu:Mut (H x)) (he:e = x\/H e = some (.own x)) (k:∀ b u,b ≠ e->h.get? b = some u->h'.get? b = some u) (heo:∃ u,h'.get? e = some u)
  (new:a1m P w (upd H x o') h' x o'):HOk P w (upd H x o') h':=fun b u q=>by
 have nown:∀ c y,H c = some (.own y)->c ≠ x:=fun c y r z=>by subst z; rw [r] at mu; exact mu
 have ntup:∀ c xs,H c = some (.tup xs)->c ≠ x:=fun c xs r z=>by subst z; rw [r] at mu; exact mu
 by_cases hb:b = x
 ·subst hb; rw [a0b] at q; cases q; exact new
 ·rw [a0j hb] at q
  by_cases hbe:b = e
  ·have q':H b = some (.own x):=by
    rcases he with z | z
    ·exact absurd (hbe.trans z) hb
    ·rw [hbe]; exact z
   rw [q] at q'; cases q'
   obtain ⟨v,hv⟩:=heo
   exact ⟨v,by rw [hbe]; exact hv⟩
  ·refine (ok b u q).stay (fun c v hc r=>k c v ?_ r) (fun c r=>by rw [a0j (nown c b r)]; exact r) fun c xs r=>by rw [a0j (ntup c xs r)]; exact r
   rcases hc with rfl | hc
   ·exact hbe
   ·rintro rfl
    rcases he with z | z
    ·exact nown c b hc z
    ·rw [hc] at z; cases z; exact hb rfl
end
structure Un (fs ex:List Addr) (H H':Hp) (h h':Heap):Prop where
 keep:∀ b o,h.get? b = some o->H b = none->b ∉ fs->b ∉ ex->h'.get? b = some o
 slot:∀ b o,h.get? b = some o->H b = none->b ∈ fs->b ∉ ex->∃ sl,h'.get? b = some { o with slots:=sl }
 free:∀ b o,h.get? b = some o->H b = none->b ∉ ex->H' b = none
 there:∀ b o,h.get? b = some o->b ∉ ex->∃ o',h'.get? b = some o'
 tups:∀ b xs,H b = some (.tup xs)->H' b = some (.tup xs)
 frzs:∀ b o u,H b = some (.frz o u)->H' b = some (.frz o u)
 tbls:∀ b ps,H b = some (.tbl ps)->∃ more,H' b = some (.tbl (ps ++ more))
section
variable {fs fs' ex ex':List Addr} {H H1 H2:Hp} {h h1 h2 h':Heap} {a x e:Addr} {o:HO}
theorem Un.any (u:Un fs ex H H1 h h1) {b:Addr} {ob:Obj} (q:h.get? b = some ob) (n:H b = none) (hx:b ∉ ex):∃ sl,h1.get? b = some { ob with slots:=sl }:=by
 by_cases hb:b ∈ fs
 ·exact u.slot b ob q n hb hx
 ·exact ⟨ob.slots,u.keep b ob q n hb hx⟩
theorem Un.trans (a:Un fs ex H H1 h h1) (b:Un fs ex H1 H2 h1 h2):Un fs ex H H2 h h2 where
 keep:=fun c ob q n hc hx=>b.keep c ob (a.keep c ob q n hc hx) (a.free c ob q n hx) hc hx
 slot:=fun c ob q n hc hx=>by
  obtain ⟨sl,e1⟩:=a.slot c ob q n hc hx
  obtain ⟨sl',e2⟩:=b.slot c _ e1 (a.free c ob q n hx) hc hx
  exact ⟨sl',e2⟩
 free:=fun c ob q n hx=>by
  obtain ⟨o',e1⟩:=a.there c ob q hx
  exact b.free c o' e1 (a.free c ob q n hx) hx
 there:=fun c ob q hx=>by
  obtain ⟨o',e1⟩:=a.there c ob q hx
  exact b.there c o' e1 hx
 tups:=fun c xs q=>b.tups c xs (a.tups c xs q)
 frzs:=fun c ob xs q=>b.frzs c ob xs (a.frzs c ob xs q)
 tbls:=fun c ps q=>by
  obtain ⟨m1,e1⟩:=a.tbls c ps q
  obtain ⟨m2,e2⟩:=b.tbls c _ e1
  exact ⟨m1 ++ m2,by rw [e2,Array.append_assoc]⟩
theorem Un.kept (k:∀ b u,h.get? b = some u->h'.get? b = some u):Un fs ex H H h h':=
 ⟨fun b ob q _ _ _=>k b ob q,fun b ob q _ _ _=>⟨ob.slots,k b ob q⟩,fun _ _ _ n _=>n,fun b ob q _=>⟨ob,k b ob q⟩,fun _ _ q=>q,fun _ _ _ q=>q,fun _ ps q=>⟨#[],by rw [q]; simp⟩⟩
theorem Un.refl:Un fs ex H H h h:=Un.kept fun _ _ q=>q
theorem Un.laid (k:∀ b u,h.get? b = some u->h'.get? b = some u) (hp:h.objs.size<=a) (hn:H a = none):Un fs ex H (upd H a o) h h' where
 keep:=fun b u q _ _ _=>k b u q
 slot:=fun b u q _ _ _=>⟨u.slots,k b u q⟩
 free:=fun b u q n _=>by rw [a0j (Nat.ne_of_lt (Nat.lt_of_lt_of_le (Heap.lt_size q) hp))]; exact n
 there:=fun b u q _=>⟨u,k b u q⟩
 tups:=fun b xs q=>by rw [a0j (a0t q hn)]; exact q
 frzs:=fun b u xs q=>by rw [a0j (a0t q hn)]; exact q
 tbls:=fun b ps q=>⟨#[],by rw [a0j (a0t q hn),q]; simp⟩
theorem Un.write (mu:Mut (H x)) (he:e = x\/H e = some (.own x)) (k:∀ b u,b ≠ e->h.get? b = some u->h'.get? b = some u) (heo:∃ u,h'.get? e = some u):Un fs ex H (upd H x o) h h':=by
 have hx:∀ b,H b = none->b ≠ x:=fun b n z=>by subst z; rw [n] at mu; exact mu
 have hb:∀ b,H b = none->b ≠ e:=fun b n z=>by
  subst z
  rcases he with r | r
  ·exact hx b n r
  ·rw [n] at r; cases r
 have hm:∀ b u,H b = some u->¬ Mut (some u)->b ≠ x:=fun b u q nm z=>by subst z; rw [q] at mu; exact nm mu
 refine ⟨fun b u q n _ _=>k b u (hb b n) q,fun b u q n _ _=>⟨u.slots,k b u (hb b n) q⟩,fun b u q n _=>by rw [a0j (hx b n)]; exact n,fun b u q _=>?_,
  fun b xs q=>by rw [a0j (hm b _ q fun z=>z)]; exact q,fun b u xs q=>by rw [a0j (hm b _ q fun z=>z)]; exact q,fun b ps q=>⟨#[],by rw [a0j (hm b _ q fun z=>z),q]; simp⟩⟩
 by_cases hbe:b = e
 ·subst hbe; exact heo
 ·exact ⟨u,k b u hbe q⟩
theorem Un.mono (u:Un fs ex H H1 h h1) (hs:∀ b ∈ fs,b ∈ fs') (hx:∀ b ∈ ex,b ∈ ex'):Un fs' ex' H H1 h h1:=
 ⟨fun b ob q n hb he=>u.keep b ob q n (fun z=>hb (hs b z)) fun z=>he (hx b z),fun _ _ q n _ he=>u.any q n fun z=>he (hx _ z),fun b ob q n he=>u.free b ob q n fun z=>he (hx b z),fun b ob q he=>u.there b ob q fun z=>he (hx b z),u.tups,u.frzs,u.tbls⟩
end
noncomputable def trk (h:Heap) (H:Hp):List Addr:=(List.range h.objs.size).filter fun a=>(H a).isSome
noncomputable def hidT (h:Heap) (H:Hp):Heap:=W.hideAll h (trk h H)
theorem c2k (h:Heap) (H:Hp):(hidT h H).objs.size = h.objs.size:=W.hideAll_size _ _
theorem c5k {h:Heap} {H:Hp} {b:Addr} {o:Obj} (e:h.get? b = some o) (n:H b = none):(hidT h H).get? b = some o:=
 W.hideAll_get _ e fun hm=>by
  have q:(H b).isSome = true:=(List.mem_filter.mp hm).2
  rw [n] at q; simp at q
theorem of_hidT {h:Heap} {H:Hp} {b:Addr} {o:Obj} (e:(hidT h H).get? b = some o):h.get? b = some o/\H b = none:=by
 have e':h.get? b = some o:=W.of_hideAll (trk h H) e
 refine ⟨e',?_⟩
 cases q:H b with
 | none=>rfl
 | some x=>
  have hm:b ∈ trk h H:=List.mem_filter.mpr ⟨List.mem_range.mpr (Heap.lt_size e'),by simp [q]⟩
  have z:(hidT h H).get? b = none:=W.hideAll_none (trk h H) hm
  rw [z] at e; cases e
noncomputable def allNews (g h:Heap) (L:Addr):List (Addr × Obj):=(List.range h.objs.size).filterMap fun a=>if a = L\/(g.get? a).isSome = true then none else (h.get? a).map fun o=>(a,o)
noncomputable def rest (g h:Heap) (L d:Addr):List (Addr × Obj):=(allNews g h L).filter fun p=>decide (p.1 ≠ d)
structure Mod (K:W.Frag) (mg:Str->Option Value) (base:Heap):Prop where
 kin:K.In base
 glob:base.Ns mainGlobals mg
 blt:∃ mb,base.Ns builtinsNs mb/\∀ x:Str,x ≠ "__name__"->mb x = bootBuiltins x
 nolimit:base.NoLimit
structure Cx where
 prog:Program
 w:World
 K:W.Frag
 mg:Str->Option Value
 base:Heap
 A:Around
 N:List Str
 s₀:Shared
 H₀:Hp
 env:Env
 outer:List Env
 stack:List Env
 ex:List Addr
 fn:Str->Bool
 calm:Bool
 pn:List (Addr × Obj)
 xe:Value->Shared->Prop
noncomputable def frs (l:List Env):List Addr:=l.filterMap (·.frame)
noncomputable abbrev Cx.fs (X:Cx):List Addr:=frs X.outer
noncomputable def Vis (sc:Scope) (x:Str):Prop:=sc.names.lookup x = some .local\/sc.names.lookup x = some .cell\/sc.names.lookup x = some .free
noncomputable def Loc (sc:Scope) (x:Str):Prop:=sc.names.lookup x = some .local\/sc.names.lookup x = some .cell
noncomputable def Look (env:Env) (h:Heap) (m:Str->Option Value) (x:Str) (u:Value):Prop:=
 (env.kindOf x = some .local/\m x = some u)\/((env.kindOf x = some .cell\/env.kindOf x = some .free)/\∃ c,env.cells.lookup x = some c/\h.IsCell c (some u))
structure Cx.Ok (X:Cx):Prop where
 mod:Mod X.K X.mg X.base
 kind:X.env.scope.kind = .function
 glob:X.env.globals = mainGlobals
 blt:X.env.builtins = builtinsNs
 above:X.s₀.heap.objs.size<=X.env.locals
 inj:∀ x y c,X.env.cells.lookup x = some c->X.env.cells.lookup y = some c->x = y
 has:∀ x,(X.env.kindOf x = some .cell\/X.env.kindOf x = some .free)->∃ c,X.env.cells.lookup x = some c
 cab:∀ x c,X.fn x = true->X.env.cells.lookup x = some c->X.s₀.heap.objs.size<=c
 hd:X.calm = true->X.A.handled = none
 frames:X.A.frames = some X.stack
 stk:X.stack = X.outer\/(X.stack = X.env :: X.outer/\X.env.frame = some X.env.locals)
 exf:∀ b ∈ X.ex,b ≠ X.env.locals/\∀ x c,X.env.cells.lookup x = some c->c ≠ b
 bs:∀ b o,X.base.get? b = some o->X.s₀.heap.get? b = some o/\X.H₀ b = none
 bsz:X.base.objs.size<=X.s₀.heap.objs.size
 noex:∀ b o,X.base.get? b = some o->b ∉ X.ex
 exfs:∀ b ∈ X.ex,b ∉ X.fs
 funs:X.s₀.heap.FunFrames X.base X.outer
 frf:∀ b ∈ X.fs,X.H₀ b = none
structure Inv (X:Cx) (pins:List (Addr × Obj)) (σ:List (Option V)) (H:Hp) (s:Shared):Prop where
 ok:X.Ok
 os:s.os = X.s₀.os
 bare:AllBare s.gens
 base:Un X.fs X.ex X.H₀ H X.s₀.heap s.heap
 loc:∃ m,s.heap.Ns X.env.locals m/\∀ (i:Nat) (x:Str) (v:V),X.N[i]? = some x->σ[i]? = some (some v)->Vis X.env.scope x->∃ u,RelV v u/\Look X.env s.heap m x u
 cell:∀ x c,X.env.cells.lookup x = some c->∃ v,s.heap.IsCell c v
 free:H X.env.locals = none
 freeC:∀ x c,X.env.cells.lookup x = some c->H c = none
 pin:∀ p ∈ X.pn ++ pins,s.heap.get? p.1 = some p.2/\H p.1 = none/\p.1 ≠ X.env.locals/\p.1 ∉ X.fs/\∀ v,p.2.data ≠ .cell v
 hok:HOk X.prog X.w H s.heap
 len:σ.length = X.N.length
section
variable {X:Cx} {pins:List (Addr × Obj)} {σ:List (Option V)} {H H':Hp} {s:Shared} {h':Heap}
theorem Cx.Ok.nofr (ok:X.Ok) {b:Addr} {o:Obj} (e:X.base.get? b = some o):b ∉ X.fs:=fun hb=>by
 have:=(ok.funs.mem hb).1
 rw [e] at this; cases this
theorem Inv.bs (I:Inv X pins σ H s):∀ b o,X.base.get? b = some o->s.heap.get? b = some o/\H b = none:=fun b o e=>
 ⟨I.base.keep b o (I.ok.bs b o e).1 (I.ok.bs b o e).2 (I.ok.nofr e) (I.ok.noex b o e),I.base.free b o (I.ok.bs b o e).1 (I.ok.bs b o e).2 (I.ok.noex b o e)⟩
theorem Inv.bk (I:Inv X pins σ H s):∀ b o,X.base.get? b = some o->s.heap.get? b = some o:=fun b o e=>(I.bs b o e).1
theorem Inv.mod (I:Inv X pins σ H s):Mod X.K X.mg X.base:=I.ok.mod
theorem Inv.kIn (I:Inv X pins σ H s):X.K.In s.heap:=I.ok.mod.kin.keeps I.bk
theorem Inv.nolimit (I:Inv X pins σ H s):s.heap.NoLimit:=I.ok.mod.nolimit.keeps I.bk
theorem Inv.fr (I:Inv X pins σ H s):∃ m,Fr X.base X.env.locals s.heap m:=
 let ⟨m,hn,_⟩:=I.loc
 ⟨m,hn,I.bk,Nat.le_trans I.ok.bsz I.ok.above⟩
theorem Inv.lt (I:Inv X pins σ H s):X.env.locals < s.heap.objs.size:=let ⟨_,hn,_⟩:=I.loc; hn.lt
theorem Inv.sz (I:Inv X pins σ H s):X.s₀.heap.objs.size<=s.heap.objs.size:=Nat.le_trans I.ok.above (Nat.le_of_lt I.lt)
theorem Inv.nofs (I:Inv X pins σ H s) {a:Addr} (h:s.heap.objs.size<=a):a ∉ X.fs:=fun hb=>by
 obtain ⟨_,o,ho,_⟩:=I.ok.funs.mem hb
 exact absurd (Nat.lt_of_lt_of_le (Heap.lt_size ho) (Nat.le_trans I.sz h)) (Nat.lt_irrefl _)
theorem Inv.cne (I:Inv X pins σ H s):∀ x c,X.env.cells.lookup x = some c->c ≠ X.env.locals:=fun x c e z=>by
 obtain ⟨v,o,ho,hd⟩:=I.cell x c e
 obtain ⟨m,⟨o',es,ep,ho',hd',_⟩,_⟩:=I.loc
 rw [z,ho'] at ho; cases ho; rw [hd'] at hd; cases hd
theorem Inv.funs (I:Inv X pins σ H s):s.heap.FunFrames X.base X.outer:=by
 have all:∀ (l:List Env),(∀ b ∈ frs l,b ∈ X.fs)->X.s₀.heap.FunFrames X.base l->s.heap.FunFrames X.base l:=by
  intro l
  induction l with
  | nil=>intro _ _; trivial
  | cons env r ih=>
   intro hs hl
   obtain ⟨hk,⟨L,o,hf,hn,ho,hd⟩,hr⟩:=hl
   have hL:L ∈ X.fs:=hs L (by unfold frs; rw [List.filterMap_cons,hf]; exact List.mem_cons_self)
   obtain ⟨sl,e⟩:=I.base.slot L o ho (I.ok.frf L hL) hL fun z=>I.ok.exfs L z hL
   exact ⟨hk,⟨L,_,hf,hn,e,hd⟩,ih (fun b hb=>hs b (by unfold frs; rw [List.filterMap_cons,hf]; exact List.mem_cons_of_mem _ hb)) hr⟩
 exact all X.outer (fun _ hb=>hb) I.ok.funs
theorem Inv.stack (I:Inv X pins σ H s):s.heap.FunFrames X.base X.stack:=by
 rcases I.ok.stk with e | ⟨e,hf⟩
 ·rw [e]; exact I.funs
 ·rw [e]
  obtain ⟨m,hn,_⟩:=I.loc
  refine .cons (by rw [I.ok.kind]; decide) hf hn ?_ I.funs
  exact Heap.get?_none_of_le (Nat.le_trans I.ok.bsz I.ok.above)
theorem Inv.stkSub (I:Inv X pins σ H s):∀ b ∈ frs X.stack,b ∈ X.env.locals :: X.fs:=fun b hb=>by
 rcases I.ok.stk with e | ⟨e,hf⟩
 ·rw [e] at hb; exact List.mem_cons_of_mem _ hb
 ·rw [e] at hb
  unfold frs at hb
  rw [List.filterMap_cons,hf] at hb
  exact hb
theorem Inv.stkFree (I:Inv X pins σ H s):∀ b ∈ frs X.stack,H b = none:=fun b hb=>by
 rcases List.mem_cons.mp (I.stkSub b hb) with e | hb
 ·rw [e]; exact I.free
 ·obtain ⟨_,o,ho,_⟩:=I.ok.funs.mem hb
  exact I.base.free b o ho (I.ok.frf b hb) fun z=>I.ok.exfs b z hb
theorem Inv.step {g':Array GenState} {t':Nat} {d':Drawn} {ch:List Addr} (I:Inv X pins σ H s)
  (hch:∀ b ∈ ch,(b ∈ X.ex\/X.s₀.heap.objs.size<=b)/\b ≠ X.env.locals/\(∀ x c,X.env.cells.lookup x = some c->c ≠ b)/\∀ p ∈ X.pn ++ pins,p.1 ≠ b)
  (keep:∀ b o,b ≠ X.env.locals->b ∉ X.fs->b ∉ ch->s.heap.get? b = some o->H b = none->h'.get? b = some o)
  (slot:∀ b o,b ≠ X.env.locals->b ∈ X.fs->b ∉ ch->s.heap.get? b = some o->H b = none->∃ sl,h'.get? b = some { o with slots:=sl }) (free:∀ b o,b ∉ ch->s.heap.get? b = some o->H b = none->H' b = none)
  (there:∀ b o,b ∉ ch->s.heap.get? b = some o->∃ o',h'.get? b = some o')
  (tups:∀ b xs,H b = some (.tup xs)->H' b = some (.tup xs)) (frzs:∀ b o u,H b = some (.frz o u)->H' b = some (.frz o u)) (tbls:∀ b ps,H b = some (.tbl ps)->∃ more,H' b = some (.tbl (ps ++ more)))
  (ns:∀ m,s.heap.Ns X.env.locals m->h'.Ns X.env.locals m) (hok:HOk X.prog X.w H' h') (hg:AllBare g') :
  Inv X pins σ H' { s with heap:=h',gens:=g',drawn:=d',toks:=t' }:=by
 have neL:∀ b o,X.s₀.heap.get? b = some o->b ≠ X.env.locals:=fun b o e=>Nat.ne_of_lt (Nat.lt_of_lt_of_le (Heap.lt_size e) I.ok.above)
 have neC:∀ b o,X.s₀.heap.get? b = some o->b ∉ X.ex->b ∉ ch:=fun b o e hx hb=>by
  rcases (hch b hb).1 with z | z
  ·exact hx z
  ·exact absurd (Nat.lt_of_lt_of_le (Heap.lt_size e) z) (Nat.lt_irrefl _)
 have cellK:∀ x c,X.env.cells.lookup x = some c->∀ v,s.heap.IsCell c v->h'.IsCell c v:=fun x c e v ⟨o,ho,hd⟩=>by
  have nch:c ∉ ch:=fun z=>(hch c z).2.2.1 x c e rfl
  by_cases hc:c ∈ X.fs
  ·obtain ⟨sl,q⟩:=slot c o (I.cne x c e) hc nch ho (I.freeC x c e)
   exact ⟨_,q,hd⟩
  ·exact ⟨o,keep c o (I.cne x c e) hc nch ho (I.freeC x c e),hd⟩
 refine ⟨I.ok,I.os,hg,⟨fun b o e n hb hx=>?_,fun b o e n hb hx=>?_,fun b o e n hx=>?_,fun b o e hx=>?_,fun b xs e=>tups b xs (I.base.tups b xs e),fun b o xs e=>frzs b o xs (I.base.frzs b o xs e),fun b ps e=>?_⟩,?_,fun x c e=>?_,?_,fun x c e=>?_,fun p hp=>?_,hok,I.len⟩
 ·exact keep b o (neL b o e) hb (neC b o e hx) (I.base.keep b o e n hb hx) (I.base.free b o e n hx)
 ·obtain ⟨sl,e1⟩:=I.base.slot b o e n hb hx
  obtain ⟨sl',e2⟩:=slot b _ (neL b o e) hb (neC b o e hx) e1 (I.base.free b o e n hx)
  exact ⟨sl',e2⟩
 ·obtain ⟨o',e1⟩:=I.base.there b o e hx
  exact free b o' (neC b o e hx) e1 (I.base.free b o e n hx)
 ·obtain ⟨o',e1⟩:=I.base.there b o e hx
  exact there b o' (neC b o e hx) e1
 ·obtain ⟨m1,e1⟩:=I.base.tbls b ps e
  obtain ⟨m2,e2⟩:=tbls b _ e1
  exact ⟨m1 ++ m2,by rw [e2,Array.append_assoc]⟩
 ·obtain ⟨m,hn,hl⟩:=I.loc
  refine ⟨m,ns m hn,fun i x v e1 e2 e3=>?_⟩
  obtain ⟨u,r,l⟩:=hl i x v e1 e2 e3
  refine ⟨u,r,?_⟩
  rcases l with l | ⟨k,c,e,z⟩
  ·exact .inl l
  ·exact .inr ⟨k,c,e,cellK x c e _ z⟩
 ·obtain ⟨v,z⟩:=I.cell x c e
  exact ⟨v,cellK x c e v z⟩
 ·obtain ⟨m,⟨o,_,_,ho,_⟩,_⟩:=I.loc
  exact free _ o (fun z=>(hch _ z).2.1 rfl) ho I.free
 ·obtain ⟨v,o,ho,hd⟩:=I.cell x c e
  exact free c o (fun z=>(hch c z).2.2.1 x c e rfl) ho (I.freeC x c e)
 ·obtain ⟨e,n,ne,nf,d⟩:=I.pin p hp
  have nch:p.1 ∉ ch:=fun z=>(hch p.1 z).2.2.2 p hp rfl
  exact ⟨keep p.1 p.2 ne nf nch e n,free p.1 p.2 nch e n,ne,nf,d⟩
theorem Inv.un {t':Nat} (I:Inv X pins σ H s) (u:Un X.fs [] H H' s.heap h') (hok:HOk X.prog X.w H' h'):Inv X pins σ H' { s with heap:=h',toks:=t' }:=by
 obtain ⟨m,⟨o,es,ep,ho,r⟩,_⟩:=id I.loc
 obtain ⟨sl,hL⟩:=u.any ho I.free (by simp)
 exact I.step (g':=s.gens) (d':=s.drawn) (ch:=[]) (fun _ z=>nomatch z) (fun b o _ hb _ e n=>u.keep b o e n hb (by simp)) (fun b o _ hb _ e n=>u.slot b o e n hb (by simp)) (fun b o _ e n=>u.free b o e n (by simp)) (fun b o _ e=>u.there b o e (by simp)) u.tups u.frzs u.tbls (fun m' hm=>by
  obtain ⟨o',es',ep',ho',r'⟩:=hm
  rw [ho] at ho'; cases ho'
  exact ⟨_,es',ep',hL,r'⟩) hok I.bare
theorem Inv.call {g':Array GenState} {t':Nat} {d':Drawn} {ch:List Addr} (I:Inv X pins σ H s) (u:Un (frs X.stack) ch H H' s.heap h') (hok:HOk X.prog X.w H' h') (hg:AllBare g')
  (hch:∀ b ∈ ch,(b ∈ X.ex\/X.s₀.heap.objs.size<=b)/\b ≠ X.env.locals/\(∀ x c,X.env.cells.lookup x = some c->c ≠ b)/\∀ p ∈ X.pn ++ pins,p.1 ≠ b) :
  Inv X pins σ H' { s with heap:=h',gens:=g',drawn:=d',toks:=t' }:=by
 obtain ⟨m,⟨o,es,ep,ho,r⟩,_⟩:=id I.loc
 obtain ⟨sl,hL⟩:=u.any ho I.free fun z=>(hch _ z).2.1 rfl
 exact I.step (ch:=ch) hch (fun b o hL hb hc e n=>u.keep b o e n (fun z=>(List.mem_cons.mp (I.stkSub b z)).elim hL hb) hc) (fun b o _ _ hc e n=>u.any e n hc) (fun b o hc e n=>u.free b o e n hc) (fun b o hc e=>u.there b o e hc) u.tups u.frzs u.tbls (fun m' hm=>by
  obtain ⟨o',es',ep',ho',r'⟩:=hm
  rw [ho] at ho'; cases ho'
  exact ⟨_,es',ep',hL,r'⟩) hok hg
theorem Inv.turned {t':Nat} {it:Addr} (I:Inv X pins σ H s) (k:∀ b o,b ≠ it->s.heap.get? b = some o->h'.get? b = some o) (hn:H it = none) (hL:it ≠ X.env.locals)
  (h1:it ∈ X.ex\/X.s₀.heap.objs.size<=it) (h2:∀ x c,X.env.cells.lookup x = some c->c ≠ it) (h3:∀ p ∈ X.pn ++ pins,p.1 ≠ it):Inv X pins σ H { s with heap:=h',toks:=t' }:=by
 have nit:∀ b u,H b = some u->b ≠ it:=fun b u e z=>by rw [z,hn] at e; cases e
 refine I.step (g':=s.gens) (d':=s.drawn) (ch:=[it]) (fun b hb=>?_) (fun b o _ _ hc e _=>k b o (fun z=>hc (by simp [z])) e) (fun b o _ _ hc e _=>⟨o.slots,k b o (fun z=>hc (by simp [z])) e⟩) (fun _ _ _ _ n=>n)
  (fun b o hc e=>⟨o,k b o (fun z=>hc (by simp [z])) e⟩) (fun _ _ e=>e) (fun _ _ _ e=>e) (fun b ps e=>⟨#[],by rw [e]; simp⟩) (fun m hm=>?_) (fun b u e=>?_) I.bare
 ·have e:b = it:=by simpa using hb
  subst e
  exact ⟨h1,hL,h2,h3⟩
 ·obtain ⟨o,es,ep,ho,r⟩:=hm
  exact ⟨o,es,ep,k _ o (Ne.symm hL) ho,r⟩
 ·refine (I.hok b u e).stay (fun c v hc q=>k c v ?_ q) (fun _ q=>q) fun _ _ q=>q
  rcases hc with z | z
  ·rw [z]; exact nit b u e
  ·exact nit c _ z
theorem Inv.tok (I:Inv X pins σ H s) (t:Nat):Inv X pins σ H { s with toks:=t }:=I.un (h':=s.heap) (t':=t) Un.refl I.hok
theorem Inv.kept {t':Nat} (I:Inv X pins σ H s) (k:∀ b u,s.heap.get? b = some u->h'.get? b = some u):Inv X pins σ H { s with heap:=h',toks:=t' }:=I.un (Un.kept k) (I.hok.kept k)
theorem Inv.laid {a:Addr} {o:HO} {t':Nat} (I:Inv X pins σ H s) (k:∀ b u,s.heap.get? b = some u->h'.get? b = some u) (hp:s.heap.objs.size<=a) (new:a1m X.prog X.w (upd H a o) h' a o) :
  Inv X pins σ (upd H a o) { s with heap:=h',toks:=t' }:=I.un (Un.laid k hp (I.hok.fresh hp)) (I.hok.laid k hp new)
theorem Inv.write {x e:Addr} {o:HO} {t':Nat} (I:Inv X pins σ H s) (mu:Mut (H x)) (he:e = x\/H e = some (.own x)) (k:∀ b u,b ≠ e->s.heap.get? b = some u->h'.get? b = some u) (heo:∃ u,h'.get? e = some u)
  (new:a1m X.prog X.w (upd H x o) h' x o):Inv X pins σ (upd H x o) { s with heap:=h',toks:=t' }:=I.un (Un.write mu he k heo) (I.hok.write mu he k heo new)
theorem Inv.pins_of {pins':List (Addr × Obj)} (I:Inv X pins σ H s) (h:∀ p ∈ pins',s.heap.get? p.1 = some p.2/\H p.1 = none/\p.1 ≠ X.env.locals/\p.1 ∉ X.fs/\∀ v,p.2.data ≠ .cell v):Inv X pins' σ H s:=
 ⟨I.ok,I.os,I.bare,I.base,I.loc,I.cell,I.free,I.freeC,fun p hp=>(List.mem_append.mp hp).elim (fun z=>I.pin p (List.mem_append_left _ z)) (h p),I.hok,I.len⟩
theorem b6d {N:List Str} (hN:N.Nodup) {i j:Nat} {x:Str} (a:N[i]? = some x) (b:N[j]? = some x):i = j:=by
 obtain ⟨h1,e1⟩:=List.getElem?_eq_some_iff.mp a
 obtain ⟨h2,e2⟩:=List.getElem?_eq_some_iff.mp b
 exact (List.getElem_inj hN).mp (e1.trans e2.symm)
theorem b4x {M:Model} {A:Around} {E:Value->Shared->Prop} {i:Nat} {x:Str} {v:V} {u:Value} {Q:Unit->Shared->Prop} (I:Inv X pins σ H s) (hN:X.N.Nodup) (hi:X.N[i]? = some x) (hx:Loc X.env.scope x) (r:RelV v u)
  (h:∀ s',Inv X pins (σ.set i (some v)) H s'->(∃ a,Heap.SameBut a s.heap s'.heap/\(a = X.env.locals\/X.env.cells.lookup x = some a))->Q () s') (hf:X.fn x = true\/X.env.scope.names.lookup x = some .local:=by first | exact .inl rfl | exact .inr rfl | assumption):wpAny M A (storeName X.env x u) Q E s:=by
 obtain ⟨m,hn,hl⟩:=id I.loc
 have hcls:(X.env.scope.kind == .class || (X.env.scope.kind == .module && X.env.locals != X.env.globals)) = false:=by rw [I.ok.kind]; rfl
 have hiσ:i < σ.length:=by rw [I.len]; exact (List.getElem?_eq_some_iff.mp hi).1
 have cne:=I.cne
 have tracked:∀ {a:Addr} {h':Heap},(∃ o,s.heap.get? a = some o/\H a = none)->Heap.SameBut a s.heap h'->HOk X.prog X.w H h':=fun {a h'} ha hs b ob e=>by
  obtain ⟨_,_,hfree⟩:=ha
  refine (I.hok b ob e).stay (fun c w' hc q=>(hs.2 c ?_).trans q) (fun _ q=>q) fun _ _ q=>q
  rintro rfl
  rcases hc with rfl | hc
  ·rw [hfree] at e; cases e
  ·rw [hfree] at hc; cases hc
 rcases hx with hk | hk
 ·refine wpAny_storeName_local hk hn (fun h' hn' hs=>?_) hcls
  obtain ⟨oL,_,_,hoL,_⟩:=id hn
  refine h _ ⟨I.ok,I.os,I.bare,⟨fun b o e n hb hx=>?_,fun b o e n hb hx=>?_,I.base.free,fun b o e hx=>?_,I.base.tups,I.base.frzs,I.base.tbls⟩,⟨_,hn',fun j y v' e1 e2 e3=>?_⟩,fun y c e=>?_,I.free,I.freeC,fun p hp=>?_,tracked ⟨oL,hoL,I.free⟩ hs,by simpa using I.len⟩ ⟨_,hs,.inl rfl⟩
  ·exact (hs.2 b (Nat.ne_of_lt (Nat.lt_of_lt_of_le (Heap.lt_size e) I.ok.above))).trans (I.base.keep b o e n hb hx)
  ·obtain ⟨sl,e1⟩:=I.base.slot b o e n hb hx
   exact ⟨sl,(hs.2 b (Nat.ne_of_lt (Nat.lt_of_lt_of_le (Heap.lt_size e) I.ok.above))).trans e1⟩
  ·obtain ⟨o',e1⟩:=I.base.there b o e hx
   exact ⟨o',(hs.2 b (Nat.ne_of_lt (Nat.lt_of_lt_of_le (Heap.lt_size e) I.ok.above))).trans e1⟩
  ·by_cases hj:j = i
   ·subst hj
    rw [hi] at e1; cases e1
    rw [List.getElem?_set_self hiσ] at e2
    cases e2
    exact ⟨u,r,.inl ⟨hk,by simp⟩⟩
   ·rw [List.getElem?_set_ne (Ne.symm hj)] at e2
    obtain ⟨u',r',q⟩:=hl j y v' e1 e2 e3
    refine ⟨u',r',?_⟩
    rcases q with ⟨k,e⟩ | ⟨k,c,e,z⟩
    ·refine .inl ⟨k,?_⟩
     have:y ≠ x:=fun e=>hj (b6d hN e1 (e ▸ hi))
     simp [this,e]
    ·exact .inr ⟨k,c,e,z.sameBut hs (cne y c e)⟩
  ·obtain ⟨w',z⟩:=I.cell y c e
   exact ⟨w',z.sameBut hs (cne y c e)⟩
  ·obtain ⟨e,n,ne,nf,d⟩:=I.pin p hp
   exact ⟨(hs.2 p.1 ne).trans e,n,ne,nf,d⟩
 ·have hfn:X.fn x = true:=by
   rcases hf with z | z
   ·exact z
   ·rw [z] at hk; cases hk
  obtain ⟨c,hc⟩:=I.ok.has x (.inl hk)
  obtain ⟨w',z⟩:=I.cell x c hc
  refine wpAny_storeName_cell I.ok.kind hk hc z (fun h' hc' hs=>?_)
  obtain ⟨oc,hoc,hocd⟩:=id z
  refine h { s with heap:=h' } ⟨I.ok,I.os,I.bare,⟨fun b o e n hb hx=>?_,fun b o e n hb hx=>?_,I.base.free,fun b o e hx=>?_,I.base.tups,I.base.frzs,I.base.tbls⟩,⟨m,hn.sameBut hs (Ne.symm (cne x c hc)),fun j y v' e1 e2 e3=>?_⟩,fun y c' e=>?_,I.free,I.freeC,fun p hp=>?_,tracked ⟨oc,hoc,I.freeC x c hc⟩ hs,by simpa using I.len⟩ ⟨c,hs,.inr hc⟩
  ·exact (hs.2 b (Nat.ne_of_lt (Nat.lt_of_lt_of_le (Heap.lt_size e) (I.ok.cab x c hfn hc)))).trans (I.base.keep b o e n hb hx)
  ·obtain ⟨sl,e1⟩:=I.base.slot b o e n hb hx
   exact ⟨sl,(hs.2 b (Nat.ne_of_lt (Nat.lt_of_lt_of_le (Heap.lt_size e) (I.ok.cab x c hfn hc)))).trans e1⟩
  ·obtain ⟨o',e1⟩:=I.base.there b o e hx
   exact ⟨o',(hs.2 b (Nat.ne_of_lt (Nat.lt_of_lt_of_le (Heap.lt_size e) (I.ok.cab x c hfn hc)))).trans e1⟩
  ·by_cases hj:j = i
   ·subst hj
    rw [hi] at e1; cases e1
    rw [List.getElem?_set_self hiσ] at e2
    cases e2
    exact ⟨u,r,.inr ⟨.inl hk,c,hc,hc'⟩⟩
   ·rw [List.getElem?_set_ne (Ne.symm hj)] at e2
    obtain ⟨u',r',q⟩:=hl j y v' e1 e2 e3
    refine ⟨u',r',?_⟩
    rcases q with q | ⟨k,c',e,z'⟩
    ·exact .inl q
    ·refine .inr ⟨k,c',e,z'.sameBut hs ?_⟩
     rintro rfl
     exact hj (b6d hN e1 (I.ok.inj _ _ _ e hc ▸ hi))
  ·by_cases hcc:c' = c
   ·subst hcc; exact ⟨_,hc'⟩
   ·obtain ⟨w2,z2⟩:=I.cell y c' e
    exact ⟨w2,z2.sameBut hs hcc⟩
  ·obtain ⟨e,n,ne,nf,d⟩:=I.pin p hp
   refine ⟨(hs.2 p.1 ?_).trans e,n,ne,nf,d⟩
   intro q
   rw [q,hoc] at e
   have q':oc = p.2:=Option.some.inj e
   exact d w' (by rw [<- q']; exact hocd)
theorem b0d {M:Model} {A:Around} {E:Value->Shared->Prop} {i:Nat} {x:Str} {v:V} {u:Value} {Q:Unit->Shared->Prop} (I:Inv X pins σ H s) (hN:X.N.Nodup) (hi:X.N[i]? = some x) (hx:Loc X.env.scope x) (r:RelV v u)
  (h:∀ s',Inv X pins (σ.set i (some v)) H s'->Q () s') (hf:X.fn x = true\/X.env.scope.names.lookup x = some .local:=by first | exact .inl rfl | exact .inr rfl | assumption):wpAny M A (storeName X.env x u) Q E s:=
 b4x I hN hi hx r (fun s' I' _=>h s' I') hf
theorem Inv.call' {s':Shared} {ch:List Addr} (I:Inv X pins σ H s) (ho:s'.os = s.os) (u:Un (frs X.stack) ch H H' s.heap s'.heap) (hok:HOk X.prog X.w H' s'.heap) (hg:AllBare s'.gens)
  (hch:∀ b ∈ ch,(b ∈ X.ex\/X.s₀.heap.objs.size<=b)/\b ≠ X.env.locals/\(∀ x c,X.env.cells.lookup x = some c->c ≠ b)/\∀ p ∈ X.pn ++ pins,p.1 ≠ b):Inv X pins σ H' s':=by
 obtain ⟨h',g',d',t',o'⟩:=s'
 have e:o' = s.os:=ho
 subst e
 exact I.call (g':=g') (t':=t') (d':=d') u hok hg hch
end
noncomputable abbrev XK:=Value->Option Addr->Hp->Prop
noncomputable abbrev St:=List (Option V)
noncomputable abbrev VK:=V->Hp->Prop
noncomputable abbrev TE:=St->Hp->VK->Prop
noncomputable abbrev TT:=St->Hp->(Bool->Hp->Prop)->Prop
noncomputable abbrev TA:=St->Hp->(List V->Hp->Prop)->Prop
structure Ends where
 nx:St->Hp->Prop
 rt:VK
 bk:St->Hp->Prop:=fun _ _=>False
 ct:St->Hp->Prop:=fun _ _=>False
noncomputable abbrev TS:=Ends->St->Hp->Prop
noncomputable def EP (X:Cx) (pins:List (Addr × Obj)) (σ:St) (Q:VK) (u:Value) (s':Shared):Prop:=∃ v H',Inv X pins σ H' s'/\RelV v u/\Q v H'
noncomputable def TP (X:Cx) (pins:List (Addr × Obj)) (σ:St) (Q:Bool->Hp->Prop) (b:Bool) (s':Shared):Prop:=∃ H',Inv X pins σ H' s'/\Q b H'
noncomputable def AP (X:Cx) (pins:List (Addr × Obj)) (σ:St) (Q:List V->Hp->Prop) (us:List Value) (s':Shared):Prop:=∃ vs H',Inv X pins σ H' s'/\Vals vs us/\Q vs H'
noncomputable def SP (X:Cx) (pins:List (Addr × Obj)) (D:Ends) (f:Flow) (s':Shared):Prop:=
 match f with
 | .next=>∃ σ' H',Inv X pins σ' H' s'/\D.nx σ' H'
 | .brk=>∃ σ' H',Inv X pins σ' H' s'/\D.bk σ' H'
 | .cont=>∃ σ' H',Inv X pins σ' H' s'/\D.ct σ' H'
 | .ret u=>∃ v σ' H',Inv X pins σ' H' s'/\RelV v u/\D.rt v H'
noncomputable def PE (X:Cx) (e:Expr) (t:TE):Prop:=
 ∀ (pins:List (Addr × Obj)) (s:Shared) (σ:St) (H:Hp) (Q:VK),Inv X pins σ H s->t σ H Q->wpAny (model X.prog X.w) X.A (eval e X.env) (EP X pins σ Q) X.xe s
noncomputable def PT (X:Cx) (e:Expr) (t:TT):Prop:=
 ∀ (pins:List (Addr × Obj)) (s:Shared) (σ:St) (H:Hp) (Q:Bool->Hp->Prop),Inv X pins σ H s->t σ H Q->wpAny (model X.prog X.w) X.A (isTrue e X.env (eval e X.env)) (TP X pins σ Q) X.xe s
noncomputable def PW (X:Cx) (e:Expr) (t:TT):Prop:=
 ∀ (whole:Sem Value) (pins:List (Addr × Obj)) (s:Shared) (σ:St) (H:Hp) (Q:Bool->Hp->Prop),Inv X pins σ H s->t σ H Q->wpAny (model X.prog X.w) X.A (isTrue e X.env whole) (TP X pins σ Q) X.xe s
theorem PW.pt {X:Cx} {e:Expr} {t:TT} (h:PW X e t):PT X e t:=h _
noncomputable def PA (X:Cx) (es:List Expr) (t:TA):Prop:=
 ∀ (pos:Pos) (pins:List (Addr × Obj)) (s:Shared) (σ:St) (H:Hp) (Q:List V->Hp->Prop),Inv X pins σ H s->t σ H Q->wpAny (model X.prog X.w) X.A (spliced (backTo pos (starEach es X.env))) (AP X pins σ Q) X.xe s
noncomputable def PS (X:Cx) (st:Stmt) (t:TS):Prop:=
 ∀ (pins:List (Addr × Obj)) (s:Shared) (σ:St) (H:Hp) (D:Ends),Inv X pins σ H s->t D σ H->wpAny (model X.prog X.w) X.A (exec st X.env) (SP X pins D) X.xe s
noncomputable def PSs (X:Cx) (st:List Stmt) (t:TS):Prop:=
 ∀ (pins:List (Addr × Obj)) (s:Shared) (σ:St) (H:Hp) (D:Ends),Inv X pins σ H s->t D σ H->wpAny (model X.prog X.w) X.A (execs st X.env) (SP X pins D) X.xe s
theorem thn {α:Type} {t:Sem α} {Q Q':α->Shared->Prop} {M:Model} {A:Around} {E:Value->Shared->Prop} {s:Shared} (h:wpAny M A t Q E s) (hQ:∀ a s,Q a s->Q' a s):wpAny M A t Q' E s:=wpAny_mono h hQ fun _ _ x=>x
section
variable {X:Cx}
noncomputable def tVar (i:Nat):TE:=fun σ H Q=>∃ v,σ[i]? = some (some v)/\Q v H
noncomputable def tC (v:V):TE:=fun _ H Q=>Q v H
theorem pe_var {i:Nat} {x:Str} {pos:Pos} (hN:X.N[i]? = some x) (hv:Vis X.env.scope x) (hd:(x == ("__debug__" : Str)) = false:=by decide) (hcd:(x == ("__classdict__" : Str)) = false:=by decide):PE X (.Name x pos) (tVar i):=by
 intro pins s σ H Q I h
 obtain ⟨v,e,h⟩:=h
 obtain ⟨m,hn,hl⟩:=I.loc
 obtain ⟨u,r,l⟩:=hl i x v hN e hv
 have fin:EP X pins σ Q u s:=⟨v,H,I,r,h⟩
 rcases l with ⟨hk,hm⟩ | ⟨hk,c,hc,hcell⟩
 ·exact wpAny_Name (wpAny_loadName_local I.ok.kind hk hn hm fin) hd
 ·rcases hk with hk | hk
  ·exact wpAny_Name (wpAny_loadName_cell I.ok.kind hk hc hcell fin) hd
  ·exact wpAny_Name (wpAny_loadName_free I.ok.kind hk hc hcell fin hcd) hd
theorem a0c {i j pos}:PE X (.Constant (.int i) j pos) (tC (.int i)):=fun _ _ _ H _ I h=>wpAny_Constant_int ⟨.int i,H,I.tok _,⟨_,rfl⟩,h⟩
theorem a3y {b j pos}:PE X (.Constant (.bool b) j pos) (tC (.bl b)):=fun _ _ _ H _ I h=>Constant_bool ⟨.bl b,H,I,rfl,h⟩
theorem a3m {j pos}:PE X (.Constant .none j pos) (tC .non):=fun _ _ _ H _ I h=>Constant_none ⟨.non,H,I,rfl,h⟩
theorem a0o {x j pos}:PE X (.Constant (.str x) j pos) (tC (.str x)):=fun _ _ _ H _ I h=>Calls.Constant_str ⟨.str x,H,I.tok _,⟨_,rfl⟩,h⟩
noncomputable def Gl (X:Cx) (x:Str):Prop:=X.env.kindOf x = some .globalImplicit
theorem b4c {E:Value->Shared->Prop} {pins:List (Addr × Obj)} {s:Shared} {σ:St} {H:Hp} {x:Str} {u:Value} {pos:Pos} {Q:Value->Shared->Prop} (I:Inv X pins σ H s) (hg:Gl X x) (hm:X.mg x = some u) (h:Q u s)
  (hd:(x == ("__debug__" : Str)) = false:=by decide):wpAny (model X.prog X.w) X.A (eval (.Name x pos) X.env) Q E s:=
 Calls.Name_function_global I.ok.kind hg (Calls.loadGlobal_global (by rw [I.ok.glob]; exact I.mod.glob.keeps I.bk) hm h) hd
theorem a7m {E:Value->Shared->Prop} {pins:List (Addr × Obj)} {s:Shared} {σ:St} {H:Hp} {x:Str} {u:Value} {pos:Pos} {Q:Value->Shared->Prop} (I:Inv X pins σ H s) (hg:Gl X x) (hm:X.mg x = none) (hv:bootBuiltins x = some u) (h:Q u s)
  (hn:x ≠ "__name__":=by decide) (hd:(x == ("__debug__" : Str)) = false:=by decide):wpAny (model X.prog X.w) X.A (eval (.Name x pos) X.env) Q E s:=by
 obtain ⟨mb,h1,h2⟩:=I.mod.blt
 exact Calls.Name_function_global I.ok.kind hg (Calls.loadGlobal_builtin (by rw [I.ok.glob]; exact I.mod.glob.keeps I.bk) hm (by rw [I.ok.blt]; exact h1.keeps I.bk) ((h2 x hn).trans hv) h) hd
theorem a8b {x:Str} {v:V} {u:Value} {pos:Pos} (hg:Gl X x) (hm:X.mg x = some u) (r:RelV v u) (hd:(x == ("__debug__" : Str)) = false:=by decide):PE X (.Name x pos) (tC v):=
 fun _ _ _ H _ I h=>b4c I hg hm ⟨v,H,I,r,h⟩ hd
theorem pe_bltn {x:Str} {v:V} {u:Value} {pos:Pos} (hg:Gl X x) (hm:X.mg x = none) (hv:bootBuiltins x = some u) (r:RelV v u) (hn:x ≠ "__name__":=by decide) (hd:(x == ("__debug__" : Str)) = false:=by decide):PE X (.Name x pos) (tC v):=
 fun _ _ _ H _ I h=>a7m I hg hm hv ⟨v,H,I,r,h⟩ hn hd
variable {a b:Expr} {ta tb:TE} {pos:Pos}
variable {tA tB':TT} {rest:List Expr}
noncomputable def tAnd (t u:TT):TT:=fun σ H Q=>t σ H fun c H1=>if c = true then u σ H1 Q else Q false H1
noncomputable def tOr (t u:TT):TT:=fun σ H Q=>t σ H fun c H1=>if c = true then Q true H1 else u σ H1 Q
noncomputable def tNot (t:TT):TT:=fun σ H Q=>t σ H fun c H1=>Q (!c) H1
theorem a4u (ha:PT X a tA):PW X (.BoolOp .And [a] pos) tA:=by
 intro wh pins s σ H Q I h
 refine isTrue_and (thn (ha pins s σ H Q I h) fun c s1 e=>?_)
 cases c with
 | true=>exact isTrue_and_nil e
 | false=>exact e
theorem b6e (ha:PT X a tA):PW X (.BoolOp .Or [a] pos) tA:=by
 intro wh pins s σ H Q I h
 refine isTrue_or (thn (ha pins s σ H Q I h) fun c s1 e=>?_)
 cases c with
 | false=>exact isTrue_or_nil e
 | true=>exact e
theorem a5b (ha:PT X a tA) (hb:PW X (.BoolOp .And (b :: rest) pos) tB'):PW X (.BoolOp .And (a :: b :: rest) pos) (tAnd tA tB'):=by
 intro wh pins s σ H Q I h
 refine isTrue_and (thn (ha pins s σ H _ I h) fun c s1 ⟨H1,I1,q1⟩=>?_)
 cases c with
 | true=>exact hb wh pins s1 σ H1 Q I1 q1
 | false=>exact ⟨H1,I1,q1⟩
theorem pw_or (ha:PT X a tA) (hb:PW X (.BoolOp .Or (b :: rest) pos) tB'):PW X (.BoolOp .Or (a :: b :: rest) pos) (tOr tA tB'):=by
 intro wh pins s σ H Q I h
 refine isTrue_or (thn (ha pins s σ H _ I h) fun c s1 ⟨H1,I1,q1⟩=>?_)
 cases c with
 | true=>exact ⟨H1,I1,q1⟩
 | false=>exact hb wh pins s1 σ H1 Q I1 q1
theorem b6f (ha:PT X a tA):PT X (.UnaryOp .Not a pos) (tNot tA):=by
 intro pins s σ H Q I h
 exact isTrue_not (ha pins s σ H (fun c H1=>Q (!c) H1) I h)
noncomputable def tIf (t:TT) (ta tb:TE):TE:=fun σ H Q=>t σ H fun c H1=>if c = true then ta σ H1 Q else tb σ H1 Q
theorem b2k {c:Expr} (hc:PT X c tA) (ha:PE X a ta) (hb:PE X b tb):PE X (.IfExp c a b pos) (tIf tA ta tb):=by
 intro pins s σ H Q I h
 refine wpAny_IfExp (thn (hc pins s σ H _ I h) fun d s1 ⟨H1,I1,q1⟩=>?_)
 cases d with
 | true=>exact ha pins s1 σ H1 Q I1 q1
 | false=>exact hb pins s1 σ H1 Q I1 q1
end
noncomputable def SqL (K:W.Frag) (H:Hp) (a:Addr) (xs:List V):Prop:=
 Rd H a (.lst xs) \/
  ∃ (o:Obj) (its:Array Value) (n:Nat),K.lookup a = some o/\o.cls = .type "list"/\o.dict = none/\o.data = .seq its n/\its.size<=sizeLine/\Vals xs its.toList
noncomputable def SqT (K:W.Frag) (H:Hp) (a:Addr) (xs:List V):Prop:=
 Rd H a (.tup xs) \/
  ∃ (o:Obj) (its:Array Value) (n:Nat),K.lookup a = some o/\o.cls = .type "tuple"/\o.data = .seq its n/\its.size<=sizeLine/\Vals xs its.toList
noncomputable def absV:Value->Option V
 | .none=>some .non
 | .bool b=>some (.bl b)
 | .int i _=>some (.int i)
 | .str x _=>some (.str x)
 | .bytes b _=>some (.byt b)
 | .float b _=>some (.flt b)
 | .ref a=>some (.ref a)
 | .type n=>some (.ty n)
 | _=>none
theorem RelV.abs {x:V} {u:Value} (r:RelV x u):absV u = some x:=by
 cases x with
 | non=>cases r; rfl
 | bl _=>cases r; rfl
 | int _=>obtain ⟨t,rfl⟩:=r; rfl
 | str _=>obtain ⟨t,rfl⟩:=r; rfl
 | byt _=>obtain ⟨t,rfl⟩:=r; rfl
 | flt _=>obtain ⟨t,rfl⟩:=r; rfl
 | ref _=>cases r; rfl
 | ty _=>cases r; rfl
theorem RelV.inj {x y:V} {u:Value} (r:RelV x u) (q:RelV y u):x = y:=Option.some.inj (r.abs.symm.trans q.abs)
theorem Vals.inj:∀ {xs ys:List V} {us:List Value},Vals xs us->Vals ys us->xs = ys
 | _,_,_,.nil,.nil=>rfl
 | _,_,_,.cons r t,.cons r' t'=>by rw [r.inj r',Vals.inj t t']
section
variable {X:Cx} {pins:List (Addr × Obj)} {σ:St} {H:Hp} {s:Shared} {a:Addr} {xs ys:List V}
theorem SqL.of {K:W.Frag} (h:H a = some (.lst xs)):SqL K H a xs:=.inl (.inl h)
theorem SqT.of {K:W.Frag} (h:H a = some (.tup xs)):SqT K H a xs:=.inl (.inl h)
theorem Inv.list (I:Inv X pins σ H s) (h:SqL X.K H a xs):∃ its:List Value,Vals xs its/\PlainL s.heap a its.toArray/\xs.length<=sizeLine:=by
 rcases h with h | ⟨o,its,n,hk,hc,hd,hs,hz,r⟩
 ·obtain ⟨z,its,n,r,e⟩:=h.ok I.hok
  exact ⟨its,r,⟨_,n,e,rfl,rfl,rfl⟩,z⟩
 ·refine ⟨its.toList,r,⟨o,n,I.kIn a o hk,hc,hd,by simpa using hs⟩,?_⟩
  have e:=r.length
  simp only [Array.length_toList] at e
  omega
theorem Inv.tuple (I:Inv X pins σ H s) (h:SqT X.K H a xs):∃ its:List Value,Vals xs its/\IsTup s.heap a its.toArray/\xs.length<=sizeLine:=by
 rcases h with h | ⟨o,its,n,hk,hc,hs,hz,r⟩
 ·obtain ⟨z,its,r,p⟩:=h.ok I.hok
  exact ⟨its,r,p,z⟩
 ·refine ⟨its.toList,r,⟨o,I.kIn a o hk,hc,n,by simpa using hs⟩,?_⟩
  have e:=r.length
  simp only [Array.length_toList] at e
  omega
theorem Inv.list_inj (I:Inv X pins σ H s) (h:SqL X.K H a xs) (h':SqL X.K H a ys):xs = ys:=by
 obtain ⟨its,r,⟨o,n,e,_,_,d⟩,_⟩:=I.list h
 obtain ⟨its',r',⟨o',n',e',_,_,d'⟩,_⟩:=I.list h'
 rw [e] at e'; cases e'
 rw [d] at d'
 injection d' with d1 _
 have:its = its':=by simpa using congrArg Array.toList d1
 subst this
 exact r.inj r'
theorem Inv.tuple_inj (I:Inv X pins σ H s) (h:SqT X.K H a xs) (h':SqT X.K H a ys):xs = ys:=by
 obtain ⟨its,r,⟨o,e,_,n,d⟩,_⟩:=I.tuple h
 obtain ⟨its',r',⟨o',e',_,n',d'⟩,_⟩:=I.tuple h'
 rw [e] at e'; cases e'
 rw [d] at d'
 injection d' with d1 _
 have:its = its':=by simpa using congrArg Array.toList d1
 subst this
 exact r.inj r'
end
noncomputable abbrev Cx.wish (X:Cx) (E:Value->Shared->Prop):Cx:={ X with xe:=E }
noncomputable abbrev Cx.nox (X:Cx):Cx:=X.wish fun _ _=>False
theorem Cx.Ok.wish {X:Cx} (ok:X.Ok) (E:Value->Shared->Prop):(X.wish E).Ok:=
 ⟨ok.mod,ok.kind,ok.glob,ok.blt,ok.above,ok.inj,ok.has,ok.cab,ok.hd,ok.frames,ok.stk,ok.exf,ok.bs,ok.bsz,ok.noex,ok.exfs,ok.funs,ok.frf⟩
theorem Cx.Ok.unwish {X:Cx} {E:Value->Shared->Prop} (ok:(X.wish E).Ok):X.Ok:=
 ⟨ok.mod,ok.kind,ok.glob,ok.blt,ok.above,ok.inj,ok.has,ok.cab,ok.hd,ok.frames,ok.stk,ok.exf,ok.bs,ok.bsz,ok.noex,ok.exfs,ok.funs,ok.frf⟩
section
variable {X:Cx} {pins:List (Addr × Obj)} {σ:St} {H:Hp} {s:Shared} {E:Value->Shared->Prop}
theorem Inv.wish (I:Inv X pins σ H s) (E:Value->Shared->Prop):Inv (X.wish E) pins σ H s:=⟨I.ok.wish E,I.os,I.bare,I.base,I.loc,I.cell,I.free,I.freeC,I.pin,I.hok,I.len⟩
theorem Inv.unwish (I:Inv (X.wish E) pins σ H s):Inv X pins σ H s:=⟨I.ok.unwish,I.os,I.bare,I.base,I.loc,I.cell,I.free,I.freeC,I.pin,I.hok,I.len⟩
theorem SP.unwish {D:Ends} {f:Flow} {s':Shared} (h:SP (X.wish E) pins D f s'):SP X pins D f s':=by
 cases f with
 | next=>obtain ⟨σ',H',I,q⟩:=h; exact ⟨σ',H',I.unwish,q⟩
 | brk=>obtain ⟨σ',H',I,q⟩:=h; exact ⟨σ',H',I.unwish,q⟩
 | cont=>obtain ⟨σ',H',I,q⟩:=h; exact ⟨σ',H',I.unwish,q⟩
 | ret u=>obtain ⟨v,σ',H',I,r,q⟩:=h; exact ⟨v,σ',H',I.unwish,r,q⟩
theorem PE.nox {e:Expr} {t:TE} (h:PE X.nox e t):PE X e t:=fun pins s σ H Q I hw=>
 wpAny_mono (h pins s σ H Q (I.wish _) hw) (fun _ _ ⟨v,H',I',r,q⟩=>⟨v,H',I'.unwish,r,q⟩) fun _ _ z=>False.elim z
theorem PT.nox {e:Expr} {t:TT} (h:PT X.nox e t):PT X e t:=fun pins s σ H Q I hw=>
 wpAny_mono (h pins s σ H Q (I.wish _) hw) (fun _ _ ⟨H',I',q⟩=>⟨H',I'.unwish,q⟩) fun _ _ z=>False.elim z
theorem PSs.nox {st:List Stmt} {t:TS} (h:PSs X.nox st t):PSs X st t:=fun pins s σ H D I hw=>
 wpAny_mono (h pins s σ H D (I.wish _) hw) (fun _ _ q=>q.unwish) fun _ _ z=>False.elim z
end
section
variable {X:Cx} {st:Stmt} {rest:List Stmt} {t u:TS} {e:Expr} {te:TE} {pos:Pos}
noncomputable def tNext:TS:=fun D σ H=>D.nx σ H
noncomputable def tSeq (t u:TS):TS:=fun D σ H=>t { D with nx:=u D } σ H
theorem a0s:PSs X [] tNext:=fun _ _ σ H _ I h=>wpAny_execs_nil ⟨σ,H,I,h⟩
theorem a0d (h1:PS X st t) (h2:PSs X rest u):PSs X (st :: rest) (tSeq t u):=by
 intro pins s σ H D I h
 refine wpAny_execs_cons (thn (h1 pins s σ H { D with nx:=u D } I h) fun f s1 q=>?_)
 cases f with
 | next=>
  obtain ⟨σ',H',I',q⟩:=q
  exact h2 pins s1 σ' H' D I' q
 | ret v=>exact q
 | brk=>exact q
 | cont=>exact q
theorem a0g (h1:PS X st t):PSs X [st] t:=by
 intro pins s σ H D I h
 refine wpAny_execs_cons (thn (h1 pins s σ H D I h) fun f s1 q=>?_)
 cases f with
 | next=>exact wpAny_execs_nil q
 | ret v=>exact q
 | brk=>exact q
 | cont=>exact q
theorem Inv.quiet {pins:List (Addr × Obj)} {σ:St} {H:Hp} {s:Shared} (I:Inv X pins σ H s):interactive X.env = false:=by simp [interactive,I.ok.kind]
noncomputable def tDrop (te:TE):TS:=fun D σ H=>te σ H fun _ H1=>D.nx σ H1
theorem a4v (he:PE X e te) (hs:swapsWith e none pos.line X.env = pure false:=by rfl):PS X (.Expr e pos) (tDrop te):=by
 intro pins s σ H D I h
 exact wpAny_Expr_any (thn (he pins s σ H _ I h) fun v s1 ⟨x,H1,I1,r1,q1⟩=>⟨σ,H1,I1,q1⟩) I.quiet hs
noncomputable def tRet (te:TE):TS:=fun D σ H=>te σ H D.rt
theorem a0n (he:PE X e te):PS X (.Return (some e) pos) (tRet te):=by
 intro pins s σ H D I h
 exact wpAny_Return_some (thn (he pins s σ H _ I h) fun v s1 ⟨x,H1,I1,r1,q1⟩=>⟨x,σ,H1,I1,r1,q1⟩)
noncomputable def tIfS (c:TT) (t u:TS):TS:=fun D σ H=>c σ H fun b H1=>if b = true then t D σ H1 else u D σ H1
theorem a0y {c:Expr} {a b:List Stmt} {tc:TT} (hc:PT X c tc) (ha:PSs X a t) (hb:PSs X b u):PS X (.If c a b pos) (tIfS tc t u):=by
 intro pins s σ H D I h
 refine wpAny_If (thn (hc pins s σ H _ I h) fun d s1 ⟨H1,I1,q1⟩=>?_)
 cases d with
 | true=>exact ha pins s1 σ H1 D I1 q1
 | false=>exact hb pins s1 σ H1 D I1 q1
noncomputable def tNever:TS:=fun _ _ _=>False
theorem c5l:PS X st tNever:=fun _ _ _ _ _ _ h=>h.elim
end
noncomputable abbrev TG:=V->St->Hp->(St->Hp->Prop)->Prop
noncomputable abbrev TGs:=List V->St->Hp->(St->Hp->Prop)->Prop
noncomputable def PG (X:Cx) (target:Expr) (t:TG):Prop:=
 ∀ (pins:List (Addr × Obj)) (s:Shared) (σ:St) (H:Hp) (v:V) (u:Value) (Q:St->Hp->Prop),Inv X pins σ H s->RelV v u->t v σ H Q ->
  wpAny (model X.prog X.w) X.A (assign target X.env u) (fun _ s'=>∃ σ' H',Inv X pins σ' H' s'/\Q σ' H') X.xe s
noncomputable abbrev TSet:=V->V->V->Hp->(Hp->Prop)->Prop
noncomputable def PSet (X:Cx) (t:TSet):Prop:=
 ∀ (pins:List (Addr × Obj)) (s:Shared) (σ:St) (H:Hp) (o i v:V) (ov iv u:Value) (Q:Hp->Prop),Inv X pins σ H s->RelV o ov->RelV i iv->RelV v u->t o i v H Q ->
  wpAny (model X.prog X.w) X.A (setItem ov iv u) (fun _ s'=>∃ H',Inv X pins σ H' s'/\Q H') X.xe s
noncomputable abbrev TIp:=V->V->Hp->VK->Prop
noncomputable def PIp (X:Cx) (op:Operator) (t:TIp):Prop:=
 ∀ (pins:List (Addr × Obj)) (s:Shared) (σ:St) (H:Hp) (x y:V) (v u:Value) (Q:VK),Inv X pins σ H s->RelV x v->RelV y u->t x y H Q ->
  wpAny (model X.prog X.w) X.A (inplaceOp op v u) (EP X pins σ Q) X.xe s
section
variable {X:Cx} {pos:Pos}
noncomputable def b5t (i:Nat):TG:=fun v σ H Q=>Q (σ.set i (some v)) H
theorem a3e {i:Nat} {x:Str} (hN:X.N.Nodup) (hi:X.N[i]? = some x) (hx:Loc X.env.scope x) (hf:X.fn x = true\/X.env.scope.names.lookup x = some .local:=by first | exact .inl rfl | exact .inr rfl | assumption):PG X (.Name x pos) (b5t i):=by
 intro pins s σ H v u Q I r h
 exact wpAny_assign_Name (b0d I hN hi hx r (fun s' I'=>⟨_,H,I',h⟩) hf)
noncomputable def gNil:TGs:=fun vs σ H Q=>vs = []/\Q σ H
noncomputable def gCons (t:TG) (u:TGs):TGs:=fun vs σ H Q=>∃ v r,vs = v :: r/\t v σ H fun σ' H'=>u r σ' H' Q
noncomputable def gSub (to ti:TE) (t:TSet):TG:=fun v σ H Q=>to σ H fun o H1=>ti σ H1 fun i H2=>t o i v H2 fun H3=>Q σ H3
theorem c2l {o i:Expr} {to ti:TE} {t:TSet} (ho:PE X o to) (hi:PE X i ti) (hs:PSet X t)
  (ha:∀ v,assign (.Subscript o i pos) X.env v = (do
   let ov <- holding [v] (eval o X.env)
   let iv <- holding [v,ov] (eval i X.env)
   standAt pos
   holding [v,ov,iv] (setItem ov iv v)
   release [v,ov,iv] []):=by intro _; rfl):PG X (.Subscript o i pos) (gSub to ti t):=by
 intro pins s σ H v u Q I r h
 rw [ha]
 refine wpAny_bind (wpAny_holding (thn (ho pins s σ H _ I h) fun ov s1 ⟨x,H1,I1,r1,q1⟩=>?_))
 refine wpAny_bind (wpAny_holding (thn (hi pins s1 σ H1 _ I1 q1) fun iv s2 ⟨y,H2,I2,r2,q2⟩=>?_))
 refine wpAny_bind (wpAny_standAt (wpAny_bind (wpAny_holding (thn (hs pins s2 σ H2 x y v ov iv u _ I2 r1 r2 r q2) fun _ s3 ⟨H3,I3,q3⟩=>?_))))
 exact wpAny_release ⟨σ,H3,I3,q3⟩
noncomputable def tAsg (te:TE) (g:TG):TS:=fun D σ H=>te σ H fun x H1=>g x σ H1 D.nx
theorem c2m {tg e:Expr} {te:TE} {g:TG} (he:PE X e te) (hg:PG X tg g) (hs:swapsWithSole [tg] e pos.line X.env = pure false:=by rfl) (hw:swappedStores [tg] e X.env = pure none:=by rfl)
  (h1:(assignEach [tg] X.env).map (·.2) = [assign tg X.env]:=by rfl):PS X (.Assign [tg] e pos) (tAsg te g):=by
 intro pins s σ H D I h
 refine wpAny_Assign_stores (thn (he pins s σ H _ I h) fun v s1 ⟨x,H1,I1,r1,q1⟩=>?_) hs hw
 rw [h1]
 exact thn (hg pins s1 σ H1 x v _ I1 r1 q1) fun _ s2 q=>q
theorem a0r {i:Nat} {x:Str} {e:Expr} {te:TE} {pos':Pos} (hN:X.N.Nodup) (hi:X.N[i]? = some x) (hx:Loc X.env.scope x) (he:PE X e te) (hs:swapsWith e (some (.Name x pos')) pos.line X.env = pure false:=by rfl) (hf:X.fn x = true\/X.env.scope.names.lookup x = some .local:=by first | exact .inl rfl | exact .inr rfl | assumption) :
  PS X (.Assign [.Name x pos'] e pos) (tAsg te (b5t i)):=by
 intro pins s σ H D I h
 refine wpAny_Assign_Name (thn (he pins s σ H _ I h) fun v s1 ⟨y,H1,I1,r1,q1⟩=>?_) hs
 exact b0d I1 hN hi hx r1 (fun s2 I2=>⟨_,H1,I2,q1⟩) hf
noncomputable def tAug (i:Nat) (te:TE) (ti:TIp):TS:=fun D σ H=>∃ x,σ[i]? = some (some x)/\te σ H fun y H1=>ti x y H1 fun z H2=>D.nx (σ.set i (some z)) H2
theorem ps_aug {i:Nat} {x:Str} {e:Expr} {te:TE} {op:Operator} {ti:TIp} {pos':Pos} (hN:X.N.Nodup) (hi:X.N[i]? = some x) (hx:Loc X.env.scope x) (he:PE X e te) (ho:PIp X op ti) (hf:X.fn x = true\/X.env.scope.names.lookup x = some .local:=by first | exact .inl rfl | exact .inr rfl | assumption) :
  PS X (.AugAssign (.Name x pos') op e pos) (tAug i te ti):=by
 intro pins s σ H D I h
 obtain ⟨v,e1,h⟩:=h
 obtain ⟨m,hn,hl⟩:=I.loc
 have vis:Vis X.env.scope x:=by rcases hx with k | k; exact .inl k; exact .inr (.inl k)
 obtain ⟨u,r,l⟩:=hl i x v hi e1 vis
 refine wpAny_AugAssign_Name ?_
 have go:wpAny (model X.prog X.w) X.A (eval e X.env) (fun w s₂=>wpAny (model X.prog X.w) X.A (inplaceOp op u w) (fun r s₃=>wpAny (model X.prog X.w) X.A (storeName X.env x r) (fun _=>SP X pins D .next) X.xe s₃) X.xe s₂) X.xe s:=by
  refine thn (he pins s σ H _ I h) fun w s1 ⟨y,H1,I1,r1,q1⟩=>?_
  refine thn (ho pins s1 σ H1 v y u w _ I1 r r1 q1) fun z s2 ⟨zv,H2,I2,r2,q2⟩=>?_
  exact b0d I2 hN hi hx r2 (fun s3 I3=>⟨_,H2,I3,q2⟩) hf
 rcases l with ⟨hk,hm⟩ | ⟨hk,c,hc,hcell⟩
 ·exact wpAny_loadName_local I.ok.kind hk hn hm go
 ·rcases hk with hk | hk
  ·exact wpAny_loadName_cell I.ok.kind hk hc hcell go
  ·rcases hx with k | k
   ·have:X.env.scope.names.lookup x = some .free:=hk
    rw [k] at this; cases this
   ·have:X.env.scope.names.lookup x = some .free:=hk
    rw [k] at this; cases this
end
section
variable {X:Cx} {pos:Pos}
noncomputable def b6g (c:TT) (tb:TS):TS:=fun D σ H=>∃ W:Nat->St->Hp->Prop,(∃ m,W m σ H)/\∀ m σ H,W m σ H ->
 c σ H fun b H1=>if b = true then ∃ N:St->Hp->Prop,(∀ σ' H',N σ' H'->∃ m',m' < m/\W m' σ' H')/\tb { D with nx:=N,ct:=N,bk:=D.nx } σ H1 else D.nx σ H1
theorem a5w {c:Expr} {body:List Stmt} {tc:TT} {tb:TS} (hp:PassesOwn (model X.prog X.w) X.A X.env X.xe) (hc:PT X c tc) (hb:PSs X body tb):PS X (.While c body [] pos) (b6g tc tb):=by
 intro pins s σ H D I h
 obtain ⟨W,⟨m0,w0⟩,turn⟩:=h
 refine wpAny_While (codeAny_whileLoop (fun n s'=>∃ σ' H',Inv X pins σ' H' s'/\W n σ' H') ?_ m0 ⟨σ,H,I,w0⟩)
 rintro n s1 ⟨σ1,H1,I1,w1⟩
 refine wpAny_passesOwn hp (thn (hc pins s1 σ1 H1 _ I1 (turn n σ1 H1 w1)) fun b s2 ⟨H2,I2,q2⟩=>?_)
 cases b with
 | true=>
  obtain ⟨N,hN,q2⟩:=q2
  rw [if_pos rfl]
  refine wpAny_passesOwn hp (thn (hb pins s2 σ1 H2 _ I2 q2) fun f s3 q3=>?_)
  cases f with
  | next=>
   obtain ⟨σ3,H3,I3,n3⟩:=q3
   obtain ⟨m',hm,w3⟩:=hN σ3 H3 n3
   exact ⟨m',hm,σ3,H3,I3,w3⟩
  | cont=>
   obtain ⟨σ3,H3,I3,n3⟩:=q3
   obtain ⟨m',hm,w3⟩:=hN σ3 H3 n3
   exact ⟨m',hm,σ3,H3,I3,w3⟩
  | brk=>exact q3
  | ret v=>exact q3
 | false=>
  rw [if_neg Bool.false_ne_true]
  exact wpAny_execs_nil ⟨σ1,H2,I2,q2⟩
end
structure It where
 go:Nat->Hp->Prop
 yld:Nat->Hp->V->Hp->Prop
 stop:Nat->Hp->Prop
noncomputable def FpOk (X:Cx) (pins:List (Addr × Obj)) (H:Hp) (b:Addr):Prop:=
 H b = none/\b ≠ X.env.locals/\b ∉ X.fs/\(b ∈ X.ex\/X.s₀.heap.objs.size<=b)/\(∀ x c,X.env.cells.lookup x = some c->c ≠ b)/\∀ p ∈ X.pn ++ pins,p.1 ≠ b
theorem Inv.fpOk {X:Cx} {pins:List (Addr × Obj)} {σ:St} {H H':Hp} {s:Shared} {b:Addr} (I:Inv X pins σ H s) (hb:s.heap.objs.size<=b) (hn:H' b = none):FpOk X pins H' b:=by
 refine ⟨hn,Nat.ne_of_gt (Nat.lt_of_lt_of_le I.lt hb),I.nofs hb,.inr (Nat.le_trans I.sz hb),fun x c e z=>?_,fun p hp z=>?_⟩
 ·obtain ⟨v,q⟩:=I.cell x c e
  exact absurd (Nat.lt_of_lt_of_le q.lt (by rw [z]; exact hb)) (Nat.lt_irrefl _)
 ·exact absurd (Nat.lt_of_lt_of_le (Heap.lt_size (I.pin p hp).1) (by rw [z]; exact hb)) (Nat.lt_irrefl _)
structure Turn (P:Program) (w:World) (K:W.Frag) (tg:Expr) (J:It) (fp:List Addr) (it:Addr) (tn:Nat->Heap->Prop):Prop where
 mem:it ∈ fp
 obj:∀ i h,tn i h->∀ b ∈ fp,∃ o,h.get? b = some o/\∀ v,o.data ≠ .cell v
 keep:∀ i h h',tn i h->(∀ b ∈ fp,∀ o,h.get? b = some o->h'.get? b = some o)->tn i h'
 item:∀ (X:Cx),X.prog = P->X.w = w->X.K = K->X.calm = true->∀ (i:Nat) (pins:List (Addr × Obj)) (s:Shared) (σ:St) (H:Hp) (E:Value->Shared->Prop),Inv X pins σ H s->(∀ b ∈ fp,FpOk X pins H b)->tn i s.heap->J.go i H ->
  wpAny (model P w) X.A (pyNext (.ref it)) (fun r s1=>∃ u,r = some u /\
   wpAny (model P w) X.A (letOwnedTupleGo tg (.ref it) u) (fun _ s2=>∃ x H',Inv X pins σ H' s2/\RelV x u/\J.yld i H x H'/\tn (i + 1) s2.heap/\∀ b ∈ fp,H' b = none) E s1) E s
 done:∀ (X:Cx),X.prog = P->X.w = w->X.K = K->X.calm = true->∀ (i:Nat) (pins:List (Addr × Obj)) (s:Shared) (σ:St) (H:Hp) (E:Value->Shared->Prop),Inv X pins σ H s->(∀ b ∈ fp,FpOk X pins H b)->tn i s.heap->J.stop i H ->
  wpAny (model P w) X.A (pyNext (.ref it)) (fun r s1=>r = none/\Inv X pins σ H s1) E s
 self:∀ (A:Around) (i:Nat) (s:Shared) (Q:Value->Shared->Prop) (E:Value->Shared->Prop),tn i s.heap->Q (.ref it) s->wpAny (model P w) A (pyIter (.ref it)) Q E s
noncomputable abbrev TI:=St->Hp->(It->Hp->Prop)->Prop
noncomputable def PIE (X:Cx) (pins:List (Addr × Obj)) (σ:St) (tg:Expr) (R:It->Hp->Prop) (itv:Value) (s2:Shared):Prop:=
 ∃ (it:Addr) (fp:List Addr) (tn:Nat->Heap->Prop) (J:It) (H':Hp),itv = .ref it/\Inv X pins σ H' s2/\Turn X.prog X.w X.K tg J fp it tn/\tn 0 s2.heap/\(∀ b ∈ fp,FpOk X pins H' b)/\R J H'
noncomputable def PI (X:Cx) (tg iter:Expr) (wi:TI):Prop:=
 ∀ (pins:List (Addr × Obj)) (s:Shared) (σ:St) (H:Hp) (R:It->Hp->Prop),Inv X pins σ H s->wi σ H R ->
  wpAny (model X.prog X.w) X.A (eval iter X.env) (fun v s1=>wpAny (model X.prog X.w) X.A (pyIter v) (PIE X pins σ tg R) X.xe s1) X.xe s
theorem b5u {M:Model} {A:Around} {E:Value->Shared->Prop} {s:Shared} {tg:Expr} {it:Addr} {u:Value} {o:Obj} {n:String} {vs:Array Value} {Q:Unit->Shared->Prop} (ho:s.heap.get? it = some o) (hc:o.cls = .type n) (hd:o.data = .fields vs)
  (hn:["enumerate","zip","dict_itemiterator","dict_reverseitemiterator","odict_iterator","itertools.zip_longest","itertools.pairwise"].contains n = false) (hQ:Q () s):wpAny M A (letOwnedTupleGo tg (.ref it) u) Q E s:=by
 unfold letOwnedTupleGo
 cases tg <;> first
  | exact wpAny_pure hQ
  | (cases u <;> first
    | exact wpAny_pure hQ
    | (refine wpAny_bind (wpAny_load ho ?_)
       rw [hc,hd]
       show wpAny M A (if (["enumerate","zip","dict_itemiterator","dict_reverseitemiterator","odict_iterator","itertools.zip_longest","itertools.pairwise"].contains n && vs[0]? == some (rawInt _)) = true then _ else _) Q E s
       rw [if_neg (by intro h; rw [hn,Bool.false_and] at h; cases h)]
       exact wpAny_pure hQ))
noncomputable def Itl (K:W.Frag) (a:Addr):It:=
 ⟨fun i H=>∃ xs x,SqL K H a xs/\xs[i]? = some x,fun i H x H'=>H' = H/\∀ xs,SqL K H a xs->xs[i]? = some x,fun i H=>∃ xs,SqL K H a xs/\xs.length<=i⟩
noncomputable def Itt (K:W.Frag) (a:Addr):It:=
 ⟨fun i H=>∃ xs x,SqT K H a xs/\xs[i]? = some x,fun i H x H'=>H' = H/\∀ xs,SqT K H a xs->xs[i]? = some x,fun i H=>∃ xs,SqT K H a xs/\xs.length<=i⟩
noncomputable def Itr (lo:Int) (n:Nat):It:=⟨fun i _=>i < n,fun i H x H'=>H' = H/\x = .int (lo + i),fun i _=>n<=i⟩
theorem c2n {P:Program} {w:World} {K:W.Frag} {tg:Expr} (a it:Addr):Turn P w K tg (Itl K a) [it] it (fun i h=>h.IsListIter it a i) where
 mem:=by simp
 obj:=fun i h st b hb=>by
  have e:b = it:=by simpa using hb
  subst e
  obtain ⟨o,e,c,d⟩:=st
  exact ⟨o,e,fun v z=>by rw [d] at z; cases z⟩
 keep:=fun i h h' st k=>st.at fun o e=>k it (by simp) o e
 item:=by
  intro X hP hw hK hc i pins s σ H E I hf st hg
  subst hP hw hK
  obtain ⟨xs,x,hq,hx⟩:=hg
  obtain ⟨its,rv,p,hz⟩:=I.list hq
  obtain ⟨u,hu,ru⟩:=rv.get hx
  obtain ⟨f0,f1,f2,f3,f4,f5⟩:=hf it (by simp)
  refine wpAny_pyNext_list_item st p.isList (x:=u) (by simpa using hu) fun h' st' sb=>?_
  have I1:Inv X pins σ H { s with heap:=h' }:=I.turned (t':=s.toks) (fun b o hb e=>(sb.2 b hb).trans e) f0 f1 f3 f4 f5
  obtain ⟨o,e,c,d⟩:=id st'
  exact ⟨u,rfl,b5u (s:={ s with heap:=h' }) e c d (by decide) ⟨x,H,I1,ru,⟨rfl,fun ys hy=>by rw [I.list_inj hy hq]; exact hx⟩,st',fun b hb=>(hf b hb).1⟩⟩
 done:=by
  intro X hP hw hK hc i pins s σ H E I hf st hg
  subst hP hw hK
  obtain ⟨xs,hq,hx⟩:=hg
  obtain ⟨its,rv,p,hz⟩:=I.list hq
  obtain ⟨f0,f1,f2,f3,f4,f5⟩:=hf it (by simp)
  have hl:=rv.length
  exact wpAny_pyNext_list_end (I.ok.hd hc) st p.isList (by simp; omega) fun h' eb=>⟨rfl,I.turned (t':=s.toks) (fun b o hb e=>eb b o hb e) f0 f1 f3 f4 f5⟩
 self:=fun _ _ _ _ _ st h=>wpAny_pyIter_listiter st h
theorem c0u {P:Program} {w:World} {K:W.Frag} {tg:Expr} (a it:Addr):Turn P w K tg (Itt K a) [it] it (fun i h=>h.IsTupleIter it a i) where
 mem:=by simp
 obj:=fun i h st b hb=>by
  have e:b = it:=by simpa using hb
  subst e
  obtain ⟨o,e,c,d⟩:=st
  exact ⟨o,e,fun v z=>by rw [d] at z; cases z⟩
 keep:=fun i h h' st k=>st.at fun o e=>k it (by simp) o e
 item:=by
  intro X hP hw hK hc i pins s σ H E I hf st hg
  subst hP hw hK
  obtain ⟨xs,x,hq,hx⟩:=hg
  obtain ⟨its,rv,p,hz⟩:=I.tuple hq
  obtain ⟨u,hu,ru⟩:=rv.get hx
  obtain ⟨f0,f1,f2,f3,f4,f5⟩:=hf it (by simp)
  refine wpAny_pyNext_tuple_item st (show s.heap.IsTuple a its.toArray from p) (x:=u) (by simpa using hu) fun h' st' sb=>?_
  have I1:Inv X pins σ H { s with heap:=h' }:=I.turned (t':=s.toks) (fun b o hb e=>(sb.2 b hb).trans e) f0 f1 f3 f4 f5
  obtain ⟨o,e,c,d⟩:=id st'
  exact ⟨u,rfl,b5u (s:={ s with heap:=h' }) e c d (by decide) ⟨x,H,I1,ru,⟨rfl,fun ys hy=>by rw [I.tuple_inj hy hq]; exact hx⟩,st',fun b hb=>(hf b hb).1⟩⟩
 done:=by
  intro X hP hw hK hc i pins s σ H E I hf st hg
  subst hP hw hK
  obtain ⟨xs,hq,hx⟩:=hg
  obtain ⟨its,rv,p,hz⟩:=I.tuple hq
  obtain ⟨f0,f1,f2,f3,f4,f5⟩:=hf it (by simp)
  have hl:=rv.length
  exact wpAny_pyNext_tuple_end (I.ok.hd hc) st (show s.heap.IsTuple a its.toArray from p) (by simp; omega) fun h' eb=>⟨rfl,I.turned (t':=s.toks) (fun b o hb e=>eb b o hb e) f0 f1 f3 f4 f5⟩
 self:=fun _ _ _ _ _ st h=>wpAny_pyIter_tupleiter st h
theorem c0v {P:Program} {w:World} {K:W.Frag} {tg:Expr} (it:Addr) (lo:Int) (n:Nat):Turn P w K tg (Itr lo n) [it] it (fun i h=>IsRangeIter h it (lo + (i:Nat) * 1) ((n:Int) - (i:Nat)) 1) where
 mem:=by simp
 obj:=fun i h st b hb=>by
  have e:b = it:=by simpa using hb
  subst e
  exact ⟨_,st,fun v z=>by
   have z':Data.fields _ = Data.cell v:=z
   cases z'⟩
 keep:=fun i h h' st k=>k it (by simp) _ st
 item:=by
  intro X hP hw hK hc i pins s σ H E I hf st hg
  subst hP hw hK
  obtain ⟨f0,f1,f2,f3,f4,f5⟩:=hf it (by simp)
  have W:=Walks.range (prog:=X.prog) (w:=X.w) (I.ok.hd hc) it lo 1 n
  refine W.item i s _ _ hg st fun v h' tk hv st' kk=>?_
  obtain ⟨t,rfl⟩:=hv
  have I1:Inv X pins σ H { s with heap:=h',toks:=tk }:=I.turned (fun b o hb e=>kk b o (by simpa using hb) e) f0 f1 f3 f4 f5
  refine ⟨_,rfl,b5u (s:={ s with heap:=h',toks:=tk }) (n:="range_iterator") st' rfl rfl (by decide) ⟨.int (lo + i),H,I1,⟨t,?_⟩,⟨rfl,rfl⟩,st',fun b hb=>(hf b hb).1⟩⟩
  rw [Int.mul_one]
 done:=by
  intro X hP hw hK hc i pins s σ H E I hf st hg
  subst hP hw hK
  obtain ⟨f0,f1,f2,f3,f4,f5⟩:=hf it (by simp)
  exact wpAny_pyNext_range_end (I.ok.hd hc) st (by have:n<=i:=hg; omega) fun h' eb=>⟨rfl,I.turned (t':=s.toks) (fun b o hb e=>eb b o hb e) f0 f1 f3 f4 f5⟩
 self:=fun _ _ _ _ _ st h=>wpAny_pyIter_rangeiter st h
section
variable {X:Cx} {tg:Expr}
noncomputable def iList (K:W.Frag) (tl:TE):TI:=fun σ H R=>tl σ H fun x H1=>∃ a,x = .ref a/\(∃ xs,SqL K H1 a xs)/\R (Itl K a) H1
noncomputable def iTup (K:W.Frag) (tl:TE):TI:=fun σ H R=>tl σ H fun x H1=>∃ a,x = .ref a/\(∃ xs,SqT K H1 a xs)/\R (Itt K a) H1
theorem pi_list {l:Expr} {tl:TE} (hl:PE X l tl):PI X tg l (iList X.K tl):=by
 intro pins s σ H R I h
 refine thn (hl pins s σ H _ I h) fun v s1 ⟨x,H1,I1,r1,q1⟩=>?_
 obtain ⟨a,e,⟨xs,hq⟩,q⟩:=q1
 subst e
 cases r1
 obtain ⟨its,rv,p,hz⟩:=I1.list hq
 refine wpAny_pyIter_list p.isList ?_
 refine ⟨s1.heap.objs.size,[s1.heap.objs.size],_,_,H1,rfl,I1.kept (t':=s1.toks) fun b o e=>Heap.get?_push_of_some _ e,c2n a _,⟨_,Heap.get?_push_size _ rfl,rfl,rfl⟩,fun b hb=>?_,q⟩
 have e:b = s1.heap.objs.size:=by simpa using hb
 subst e
 exact I1.fpOk (Nat.le_refl _) (I1.hok.fresh (Nat.le_refl _))
theorem pi_tup {l:Expr} {tl:TE} (hl:PE X l tl):PI X tg l (iTup X.K tl):=by
 intro pins s σ H R I h
 refine thn (hl pins s σ H _ I h) fun v s1 ⟨x,H1,I1,r1,q1⟩=>?_
 obtain ⟨a,e,⟨xs,hq⟩,q⟩:=q1
 subst e
 cases r1
 obtain ⟨its,rv,p,hz⟩:=I1.tuple hq
 refine wpAny_pyIter_tuple (show s1.heap.IsTuple a its.toArray from p) ?_
 refine ⟨s1.heap.objs.size,[s1.heap.objs.size],_,_,H1,rfl,I1.kept (t':=s1.toks) fun b o e=>Heap.get?_push_of_some _ e,c0u a _,⟨_,Heap.get?_push_size _ rfl,rfl,rfl⟩,fun b hb=>?_,q⟩
 have e:b = s1.heap.objs.size:=by simpa using hb
 subst e
 exact I1.fpOk (Nat.le_refl _) (I1.hok.fresh (Nat.le_refl _))
theorem c5m {pins:List (Addr × Obj)} {σ:St} {H:Hp} {s:Shared} {R:It->Hp->Prop} {E:Value->Shared->Prop} {lo hi:Int} {t u v:Tok} {tk:Nat} (I:Inv X pins σ H s) (h1:-(2 ^ 62)<=lo) (h2:lo < 2 ^ 62) (h3:-(2 ^ 62)<=hi) (h4:hi < 2 ^ 62)
  (q:R (Itr lo (hi - lo).toNat) H):wpAny (model X.prog X.w) X.A (pyIter (.ref s.heap.objs.size)) (PIE X pins σ tg R) E { s with heap:=s.heap.push { cls:=.type "range",data:=.fields #[.int lo t,.int hi u,.int 1 v] },toks:=tk }:=by
 refine wpAny_pyIter_range (IsRange.new ..) (small_one h1 h2 h3 h4) ?_
 have I1:Inv X pins σ H { s with heap:=s.heap.push { cls:=.type "range",data:=.fields #[.int lo t,.int hi u,.int 1 v] },toks:=tk }:=I.kept fun b o e=>Heap.get?_push_of_some _ e
 refine ⟨(s.heap.push { cls:=.type "range",data:=.fields #[.int lo t,.int hi u,.int 1 v] }).objs.size,[(s.heap.push { cls:=.type "range",data:=.fields #[.int lo t,.int hi u,.int 1 v] }).objs.size],_,_,H,rfl,
  I1.kept (t':=tk) fun b o e=>Heap.get?_push_of_some _ e,c0v _ lo (hi - lo).toNat,?_,fun b hb=>?_,q⟩
 ·have e1:lo + ((0:Nat):Int) * 1 = lo:=by simp
  have e2:(((hi - lo).toNat:Nat):Int) - ((0:Nat):Int) = Builtin.Range.rangeSize lo hi 1:=by rw [rangeSize_one]; split <;> omega
  show IsRangeIter _ _ (lo + ((0:Nat):Int) * 1) ((((hi - lo).toNat:Nat):Int) - ((0:Nat):Int)) 1
  rw [e1,e2]
  exact Heap.get?_push_size _ rfl
 ·have e:b = (s.heap.push { cls:=.type "range",data:=.fields #[.int lo t,.int hi u,.int 1 v] }).objs.size:=by simpa using hb
  subst e
  exact I1.fpOk (Nat.le_refl _) (I1.hok.fresh (Nat.le_refl _))
noncomputable def iRng1 (ta:TA):TI:=fun σ H R=>ta σ H fun vs H1=>∃ j:Int,vs = [.int j]/\-(2 ^ 62)<=j/\j < 2 ^ 62/\R (Itr 0 j.toNat) H1
noncomputable def iRng2 (ta:TA):TI:=fun σ H R=>ta σ H fun vs H1=>∃ i j:Int,vs = [.int i,.int j]/\(-(2 ^ 62)<=i/\i < 2 ^ 62/\-(2 ^ 62)<=j/\j < 2 ^ 62)/\R (Itr i (j - i).toNat) H1
theorem a4f {a:Expr} {ta:TA} {p pos:Pos} (hg:Gl X "range") (hm:X.mg "range" = none) (ha:PA X [a] ta) (hs:starEach [a] X.env = [(false,eval a X.env)]:=by rfl):PI X tg (.Call (.Name "range" p) [a] [] pos) (iRng1 ta):=by
 intro pins s σ H R I h
 refine Call_ (a7m I hg hm boot_range (PyProof.Rows.callWith_type1 (thn (ha pos pins s σ H _ I h) fun us s1 ⟨vs,H1,I1,r1,q1⟩=>?_) hs rfl))
 obtain ⟨j,e,q1,q2,q⟩:=q1
 subst e
 cases r1 with
 | cons r rr=>
  cases rr
  obtain ⟨t,rfl⟩:=r
  exact call_range_1 (c5m I1 (by omega) (by omega) q1 q2 (by simpa using q))
noncomputable def tFor (wi:TI) (g:TG) (tb:TS):TS:=fun D σ H=>wi σ H fun J H1=>∃ W:Nat->Nat->St->Hp->Prop,(∃ m,W 0 m σ H1)/\∀ i m σ H,W i m σ H ->
 (J.stop i H/\D.nx σ H)\/(J.go i H/\∃ N:St->Hp->Prop,(∀ σ' H',N σ' H'->∃ m',m' < m/\W (i + 1) m' σ' H')/\∀ x H',J.yld i H x H'->g x σ H' fun σ2 H2=>tb { D with nx:=N,ct:=N,bk:=D.nx } σ2 H2)
noncomputable def a9h (fp:List Addr) (h:Heap):List (Addr × Obj):=fp.filterMap fun b=>(h.get? b).map fun o=>(b,o)
theorem a7v {fp:List Addr} {h:Heap} {b:Addr} {o:Obj} (hb:b ∈ fp) (e:h.get? b = some o):(b,o) ∈ a9h fp h:=List.mem_filterMap.mpr ⟨b,hb,by rw [e]; rfl⟩
theorem c2o {fp:List Addr} {h:Heap} {p:Addr × Obj} (hp:p ∈ a9h fp h):p.1 ∈ fp/\h.get? p.1 = some p.2:=by
 obtain ⟨b,hb,e⟩:=List.mem_filterMap.mp hp
 cases q:h.get? b with
 | none=>rw [q] at e; cases e
 | some o=>
  rw [q] at e
  have e':(b,o) = p:=Option.some.inj e
  subst e'
  exact ⟨hb,q⟩
theorem Inv.pinned {pins:List (Addr × Obj)} {σ:St} {H:Hp} {s:Shared} {fp:List Addr} (I:Inv X pins σ H s) (hf:∀ b ∈ fp,FpOk X pins H b) (ho:∀ b ∈ fp,∃ o,s.heap.get? b = some o/\∀ v,o.data ≠ .cell v):Inv X (pins ++ a9h fp s.heap) σ H s:=
 I.pins_of fun p hp=>(List.mem_append.mp hp).elim (fun z=>I.pin p (List.mem_append_right _ z)) fun z=>by
  obtain ⟨hb,e⟩:=c2o z
  obtain ⟨f0,f1,f2,_⟩:=hf p.1 hb
  obtain ⟨o,e',d⟩:=ho p.1 hb
  rw [e] at e'; cases e'
  exact ⟨e,f0,f1,f2,d⟩
theorem Inv.unpinned {pins pl:List (Addr × Obj)} {σ:St} {H:Hp} {s:Shared} (I:Inv X (pins ++ pl) σ H s):Inv X pins σ H s:=I.pins_of fun p hp=>I.pin p (List.mem_append_right _ (List.mem_append_left _ hp))
theorem a4a {iter:Expr} {body:List Stmt} {wi:TI} {g:TG} {tb:TS} {pos:Pos} (hp:PassesOwn (model X.prog X.w) X.A X.env X.xe) (hc:X.calm = true) (hi:PI X tg iter wi) (hg:PG X tg g) (hb:PSs X body tb)
  (hs:∀ x,foldedSetIterable iter X.env x = pure x:=by intro _; rfl):PS X (.For tg iter body [] pos) (tFor wi g tb):=by
 intro pins s σ H D I h
 refine wpAny_For (thn (hi pins s σ H _ I h) fun v s1 h1=>thn h1 fun itv s2 h2=>?_) hs
 obtain ⟨it,fp,tn,J,H2,e,I2,T,st2,f2,W,⟨m0,w0⟩,turn⟩:=h2
 subst e
 have stat:∀ {H':Hp},(∀ b ∈ fp,H' b = none)->∀ b ∈ fp,FpOk X pins H' b:=fun hn b hb=>⟨hn b hb,(f2 b hb).2⟩
 refine codeAny_forLoop_any (fun n s'=>∃ i σ' H',Inv X pins σ' H' s'/\tn i s'.heap/\(∀ b ∈ fp,H' b = none)/\W i n σ' H') ?_ m0 ⟨0,σ,H2,I2,st2,fun b hb=>(f2 b hb).1,w0⟩
 rintro n s3 ⟨i,σ3,H3,I3,st3,fr3,w3⟩
 rcases turn i n σ3 H3 w3 with ⟨stop,qn⟩ | ⟨go,N,hN,step⟩
 ·refine wpAny_passesOwn hp (thn (T.done X rfl rfl rfl hc i pins s3 σ3 H3 X.xe I3 (stat fr3) st3 stop) fun r s4 ⟨hr,I4⟩=>?_)
  subst hr
  exact wpAny_execs_nil ⟨σ3,H3,I4,qn⟩
 ·refine wpAny_passesOwn hp (thn (T.item X rfl rfl rfl hc i pins s3 σ3 H3 X.xe I3 (stat fr3) st3 go) fun r s4 ⟨u,hr,h4⟩=>?_)
  subst hr
  refine wpAny_passesOwn hp (thn h4 fun _ s5 ⟨x,H5,I5,r5,y5,st5,fr5⟩=>?_)
  have I5':=I5.pinned (stat fr5) (T.obj _ _ st5)
  refine wpAny_passesOwn hp (thn (hg _ s5 σ3 H5 x u _ I5' r5 (step x H5 y5)) fun _ s6 ⟨σ6,H6,I6,q6⟩=>?_)
  refine wpAny_passesOwn hp (thn (hb _ s6 σ6 H6 _ I6 q6) fun f s7 q7=>?_)
  have again:∀ {σ7:St} {H7:Hp},Inv X (pins ++ a9h fp s5.heap) σ7 H7 s7->N σ7 H7->∃ m,m < n/\∃ i σ' H',Inv X pins σ' H' s7/\tn i s7.heap/\(∀ b ∈ fp,H' b = none)/\W i m σ' H':=fun {σ7 H7} I7 n7=>by
   obtain ⟨m',hm,w7⟩:=hN σ7 H7 n7
   refine ⟨m',hm,i + 1,σ7,H7,I7.unpinned,T.keep _ _ _ st5 fun b hb o e=>(I7.pin (b,o) (List.mem_append_right _ (List.mem_append_right _ (a7v hb e)))).1,fun b hb=>?_,w7⟩
   obtain ⟨o,e,d⟩:=T.obj _ _ st5 b hb
   exact (I7.pin (b,o) (List.mem_append_right _ (List.mem_append_right _ (a7v hb e)))).2.1
  cases f with
  | next=>obtain ⟨σ7,H7,I7,n7⟩:=q7; exact again I7 n7
  | cont=>obtain ⟨σ7,H7,I7,n7⟩:=q7; exact again I7 n7
  | brk=>obtain ⟨σ7,H7,I7,q7⟩:=q7; exact ⟨σ7,H7,I7.unpinned,q7⟩
  | ret v=>obtain ⟨x7,σ7,H7,I7,r7,q7⟩:=q7; exact ⟨x7,σ7,H7,I7.unpinned,r7,q7⟩
end
noncomputable abbrev R2:=V->V->Hp->VK->Prop
noncomputable def OpR (X:Cx) (f:Value->Value->Sem Value) (r:R2):Prop:=
 ∀ (pins:List (Addr × Obj)) (s:Shared) (σ:St) (H:Hp) (x y:V) (v u:Value) (Q:VK),Inv X pins σ H s->RelV x v->RelV y u->r x y H Q ->
  wpAny (model X.prog X.w) X.A (f v u) (EP X pins σ Q) X.xe s
noncomputable def UnR (X:Cx) (f:Value->Sem Value) (r:V->Hp->VK->Prop):Prop:=
 ∀ (pins:List (Addr × Obj)) (s:Shared) (σ:St) (H:Hp) (x:V) (v:Value) (Q:VK),Inv X pins σ H s->RelV x v->r x H Q ->
  wpAny (model X.prog X.w) X.A (f v) (EP X pins σ Q) X.xe s
noncomputable def a1z (X:Cx) (f:Value) (r:List V->Hp->VK->Prop):Prop:=
 ∀ (pins:List (Addr × Obj)) (s:Shared) (σ:St) (H:Hp) (xs:List V) (us:List Value) (Q:VK),Inv X pins σ H s->Vals xs us->r xs H Q ->
  wpAny (model X.prog X.w) X.A (call f us) (EP X pins σ Q) X.xe s
noncomputable def TruR (X:Cx) (r:V->Hp->(Bool->Hp->Prop)->Prop):Prop:=
 ∀ (pins:List (Addr × Obj)) (s:Shared) (σ:St) (H:Hp) (x:V) (v:Value) (Q:Bool->Hp->Prop),Inv X pins σ H s->RelV x v->r x H Q ->
  wpAny (model X.prog X.w) X.A (truthy v) (TP X pins σ Q) X.xe s
noncomputable def tOp (r:R2) (ta tb:TE):TE:=fun σ H Q=>ta σ H fun x H1=>tb σ H1 fun y H2=>r x y H2 Q
noncomputable def tUn (r:V->Hp->VK->Prop) (ta:TE):TE:=fun σ H Q=>ta σ H fun x H1=>r x H1 Q
noncomputable def rI (C:Int->Int->Prop) (g:Int->Int->V):R2:=fun x y H Q=>∃ i j,x = .int i/\y = .int j/\C i j/\Q (g i j) H
noncomputable def rI0 (g:Int->Int->V):R2:=fun x y H Q=>∃ i j,x = .int i/\y = .int j/\Q (g i j) H
noncomputable def rU (g:Int->V):V->Hp->VK->Prop:=fun x H Q=>∃ i,x = .int i/\Q (g i) H
section
variable {X:Cx} {a b c:Expr} {ta tb tc:TE} {pos:Pos}
theorem binT (ha:PE X a ta) (hb:PE X b tb) {pins:List (Addr × Obj)} {s:Shared} {σ:St} {H:Hp} {R:V->V->Hp->Prop} (I:Inv X pins σ H s)
  (h:ta σ H fun x H1=>tb σ H1 fun y H2=>R x y H2) {Q:Value->Shared->Prop} {f:Value->Value->Sem Value}
  (hf:∀ v u s2 x y H2,Inv X pins σ H2 s2->RelV x v->RelV y u->R x y H2->wpAny (model X.prog X.w) X.A (f v u) Q X.xe s2) :
  wpAny (model X.prog X.w) X.A (eval a X.env) (fun v s₁=>wpAny (model X.prog X.w) X.A (eval b X.env) (fun u s₂=>wpAny (model X.prog X.w) X.A (f v u) Q X.xe s₂) X.xe s₁) X.xe s:=by
 refine thn (ha pins s σ H _ I h) fun v s1 ⟨x,H1,I1,r1,q1⟩=>?_
 refine thn (hb pins s1 σ H1 _ I1 q1) fun u s2 ⟨y,H2,I2,r2,q2⟩=>?_
 exact hf v u s2 x y H2 I2 r1 r2 q2
theorem a0m {op:Operator} {r:R2} (ho:OpR X (binaryOp op) r) (ha:PE X a ta) (hb:PE X b tb):PE X (.BinOp a op b pos) (tOp r ta tb):=by
 intro pins s σ H Q I h
 exact wpAny_BinOp (binT ha hb I h fun v u s2 x y H2 I2 rx ry q=>ho pins s2 σ H2 x y v u Q I2 rx ry q)
theorem pe_un {op:UnaryOp} {r:V->Hp->VK->Prop} (ho:UnR X (unaryOp op) r) (ha:PE X a ta):PE X (.UnaryOp op a pos) (tUn r ta):=by
 intro pins s σ H Q I h
 exact UnaryOp_ (thn (ha pins s σ H _ I h) fun v s1 ⟨x,H1,I1,r1,q1⟩=>ho pins s1 σ H1 x v Q I1 r1 q1)
theorem opI {f:Value->Value->Sem Value} {C:Int->Int->Prop} {g:Int->Int->Int}
  (rule:∀ (i j:Int) (t u:Tok) (s:Shared) (Q:Value->Shared->Prop) (E:Value->Shared->Prop),C i j->Q (.int (g i j) s.toks) { s with toks:=s.toks + 1 }->wpAny (model X.prog X.w) X.A (f (.int i t) (.int j u)) Q E s) :
  OpR X f (rI C fun i j=>.int (g i j)):=by
 intro pins s σ H x y v u Q I rx ry h
 obtain ⟨i,j,rfl,rfl,hc,q⟩:=h
 obtain ⟨t,rfl⟩:=rx
 obtain ⟨t',rfl⟩:=ry
 exact rule i j t t' s _ _ hc ⟨.int (g i j),H,I.tok _,⟨_,rfl⟩,q⟩
theorem opI0 {f:Value->Value->Sem Value} {g:Int->Int->Int}
  (rule:∀ (i j:Int) (t u:Tok) (s:Shared) (Q:Value->Shared->Prop) (E:Value->Shared->Prop),Q (.int (g i j) s.toks) { s with toks:=s.toks + 1 }->wpAny (model X.prog X.w) X.A (f (.int i t) (.int j u)) Q E s) :
  OpR X f (rI0 fun i j=>.int (g i j)):=by
 intro pins s σ H x y v u Q I rx ry h
 obtain ⟨i,j,rfl,rfl,q⟩:=h
 obtain ⟨t,rfl⟩:=rx
 obtain ⟨t',rfl⟩:=ry
 exact rule i j t t' s _ _ ⟨.int (g i j),H,I.tok _,⟨_,rfl⟩,q⟩
theorem opB0 {f:Value->Value->Sem Value} {g:Int->Int->Bool}
  (rule:∀ (i j:Int) (t u:Tok) (s:Shared) (Q:Value->Shared->Prop) (E:Value->Shared->Prop),Q (.bool (g i j)) s->wpAny (model X.prog X.w) X.A (f (.int i t) (.int j u)) Q E s) :
  OpR X f (rI0 fun i j=>.bl (g i j)):=by
 intro pins s σ H x y v u Q I rx ry h
 obtain ⟨i,j,rfl,rfl,q⟩:=h
 obtain ⟨t,rfl⟩:=rx
 obtain ⟨t',rfl⟩:=ry
 exact rule i j t t' s _ _ ⟨.bl (g i j),H,I,rfl,q⟩
noncomputable def CDiv (i j:Int):Prop:=0 < j/\j < 1073741824
noncomputable def CPow (i j:Int):Prop:=0<=j/\j<=1000000/\i.natAbs < 2 ^ 64
noncomputable def CMul (i j:Int):Prop:=(-(2 ^ 64) < i/\i < 2 ^ 64)\/(-(2 ^ 64) < j/\j < 2 ^ 64)
theorem CMul.ok {i j:Int} (h:CMul i j):IntMulOk i j:=by
 rcases h with ⟨h1,h2⟩ | ⟨h1,h2⟩
 ·exact .of_left (intBits_le_64 h1 h2)
 ·exact .of_right (intBits_le_64 h1 h2)
theorem op_add:OpR X (binaryOp .Add) (rI0 fun i j=>.int (i + j)):=opI0 fun _ _ _ _ _ _ _ q=>add_int q
theorem op_sub:OpR X (binaryOp .Sub) (rI0 fun i j=>.int (i - j)):=opI0 fun _ _ _ _ _ _ _ q=>sub_int q
theorem op_fdiv:OpR X (binaryOp .FloorDiv) (rI CDiv fun i j=>.int (i / j)):=opI fun i j _ _ _ _ _ hc q=>by
 have h1:(0:Int) < j:=hc.1
 have h2:j < 1073741824:=hc.2
 exact floordiv_int (by omega) (by rw [Int.fdiv_eq_ediv_of_nonneg i (by omega)]; exact q) (.inl (PyProof.noPylong_small (by omega)))
theorem op_mod:OpR X (binaryOp .Mod) (rI (fun _ j=>0 < j) fun i j=>.int (i % j)):=opI fun i j _ _ _ _ _ hc q=>by
 have h1:(0:Int) < j:=hc
 exact mod_int' (by omega) (by rw [Int.fmod_eq_emod_of_nonneg i (by omega)]; exact q)
theorem op_pow:OpR X (binaryOp .Pow) (rI CPow fun i j=>.int (i ^ j.toNat)):=opI fun _ _ _ _ _ _ _ hc q=>pow_int_small hc.1 hc.2.1 hc.2.2 q
theorem op_shl:OpR X (binaryOp .LShift) (rI CPow fun i j=>.int (i * 2 ^ j.toNat)):=opI fun _ _ _ _ _ _ _ hc q=>lshift_int_small hc.1 hc.2.1 hc.2.2 q
theorem iop_add:OpR X (inplaceOp .Add) (rI0 fun i j=>.int (i + j)):=opI0 fun _ _ _ _ _ _ _ q=>iadd_int q
theorem unI {f:Value->Sem Value} {g:Int->Int}
  (rule:∀ (i:Int) (t:Tok) (s:Shared) (Q:Value->Shared->Prop) (E:Value->Shared->Prop),Q (.int (g i) s.toks) { s with toks:=s.toks + 1 }->wpAny (model X.prog X.w) X.A (f (.int i t)) Q E s) :
  UnR X f (rU fun i=>.int (g i)):=by
 intro pins s σ H x v Q I rx h
 obtain ⟨i,rfl,q⟩:=h
 obtain ⟨t,rfl⟩:=rx
 exact rule i t s _ _ ⟨.int (g i),H,I.tok _,⟨_,rfl⟩,q⟩
theorem un_neg:UnR X (unaryOp .USub) (rU fun i=>.int (-i)):=unI fun _ _ _ _ _ q=>neg_int q
end
noncomputable def scal:V->V->Bool
 | .non,.non=>true | .non,.int _=>true | .int _,.non=>true | .non,.bl _=>true | .bl _,.non=>true | .non,.str _=>true | .str _,.non=>true
 | .int _,.int _=>true | .bl _,.bl _=>true | .str _,.str _=>true | .byt _,.byt _=>true
 | .int _,.str _=>true | .str _,.int _=>true | .bl _,.str _=>true | .str _,.bl _=>true
 | _,_=>false
noncomputable def rEq:R2:=fun x y H Q=>scal x y = true/\Q (.bl (decide (x = y))) H
noncomputable def rNe:R2:=fun x y H Q=>scal x y = true/\Q (.bl (!decide (x = y))) H
theorem b9p {i j:Int}:decide (V.int i = V.int j) = (i == j):=by
 rw [Bool.eq_iff_iff]
 simp
theorem c2p {i j:Bool}:decide (V.bl i = V.bl j) = (i == j):=by
 rw [Bool.eq_iff_iff]
 simp
theorem b9q {i j:Str}:decide (V.str i = V.str j) = (i == j):=by
 rw [Bool.eq_iff_iff]
 simp
theorem b9r {i j:Array UInt8}:decide (V.byt i = V.byt j) = (i.toList == j.toList):=by
 rw [Bool.eq_iff_iff]
 cases i
 cases j
 simp
section
variable {X:Cx} {a b c:Expr} {ta tb tc:TE} {pos:Pos}
theorem a1f {pins:List (Addr × Obj)} {σ:St} {H:Hp} {s:Shared} {Q:VK} {k k':Bool} (I:Inv X pins σ H s) (q:Q (.bl k) H) (e:k = k'):EP X pins σ Q (.bool k') s:=by
 subst e
 exact ⟨.bl k,H,I,rfl,q⟩
theorem op_eq:OpR X (compareOp .Eq) rEq:=by
 intro pins s σ H x y v u Q I rx ry h
 obtain ⟨hs,q⟩:=h
 cases x with
 | non=>
  cases rx
  cases y with
  | non=>cases ry; exact PySem.EqNone.eq_none_none (a1f I q (by simp))
  | bl j=>cases ry; exact PySem.EqNone.eq_none_bool (a1f I q (by simp))
  | int j=>obtain ⟨t',rfl⟩:=ry; exact PySem.EqNone.eq_none_int (a1f I q (by simp))
  | str j=>obtain ⟨t',rfl⟩:=ry; exact PySem.EqNone.eq_none_str (a1f I q (by simp))
  | _=>exact absurd (show false = true from hs) Bool.false_ne_true
 | bl i=>
  cases rx
  cases y with
  | non=>cases ry; exact PySem.EqNone.eq_bool_none (a1f I q (by simp))
  | bl j=>cases ry; exact eq_bool (a1f I q c2p)
  | str j=>obtain ⟨t',rfl⟩:=ry; exact PySem.EqMixed.eq_bool_str (a1f I q (by simp))
  | _=>exact absurd (show false = true from hs) Bool.false_ne_true
 | int i=>
  obtain ⟨t,rfl⟩:=rx
  cases y with
  | non=>cases ry; exact PySem.EqNone.eq_int_none (a1f I q (by simp))
  | int j=>obtain ⟨t',rfl⟩:=ry; exact eq_int (a1f I q b9p)
  | str j=>obtain ⟨t',rfl⟩:=ry; exact PySem.EqMixed.eq_int_str (a1f I q (by simp))
  | _=>exact absurd (show false = true from hs) Bool.false_ne_true
 | str i=>
  obtain ⟨t,rfl⟩:=rx
  cases y with
  | non=>cases ry; exact PySem.EqNone.eq_str_none (a1f I q (by simp))
  | bl j=>cases ry; exact PySem.EqMixed.eq_str_bool (a1f I q (by simp))
  | int j=>obtain ⟨t',rfl⟩:=ry; exact PySem.EqMixed.eq_str_int (a1f I q (by simp))
  | str j=>obtain ⟨t',rfl⟩:=ry; exact eq_str (a1f I q b9q)
  | _=>exact absurd (show false = true from hs) Bool.false_ne_true
 | byt i=>
  obtain ⟨t,rfl⟩:=rx
  cases y with
  | byt j=>obtain ⟨t',rfl⟩:=ry; exact W.eq_bytes (a1f I q b9r)
  | _=>exact absurd (show false = true from hs) Bool.false_ne_true
 | _=>cases y <;> exact absurd (show false = true from hs) Bool.false_ne_true
theorem op_ne:OpR X (compareOp .NotEq) rNe:=by
 intro pins s σ H x y v u Q I rx ry h
 obtain ⟨hs,q⟩:=h
 cases x with
 | non=>
  cases rx
  cases y with
  | non=>cases ry; exact PySem.EqNone.ne_none_none (a1f I q (by simp))
  | bl j=>cases ry; exact PySem.EqNone.ne_none_bool (a1f I q (by simp))
  | int j=>obtain ⟨t',rfl⟩:=ry; exact PySem.EqNone.ne_none_int (a1f I q (by simp))
  | str j=>obtain ⟨t',rfl⟩:=ry; exact PySem.EqNone.ne_none_str (a1f I q (by simp))
  | _=>exact absurd (show false = true from hs) Bool.false_ne_true
 | bl i=>
  cases rx
  cases y with
  | non=>cases ry; exact PySem.EqNone.ne_bool_none (a1f I q (by simp))
  | bl j=>cases ry; exact ne_bool (a1f I q (congrArg not c2p))
  | str j=>obtain ⟨t',rfl⟩:=ry; exact PySem.EqMixed.ne_bool_str (a1f I q (by simp))
  | _=>exact absurd (show false = true from hs) Bool.false_ne_true
 | int i=>
  obtain ⟨t,rfl⟩:=rx
  cases y with
  | non=>cases ry; exact PySem.EqNone.ne_int_none (a1f I q (by simp))
  | int j=>obtain ⟨t',rfl⟩:=ry; exact ne_int (a1f I q (congrArg not b9p))
  | str j=>obtain ⟨t',rfl⟩:=ry; exact PySem.EqMixed.ne_int_str (a1f I q (by simp))
  | _=>exact absurd (show false = true from hs) Bool.false_ne_true
 | str i=>
  obtain ⟨t,rfl⟩:=rx
  cases y with
  | non=>cases ry; exact PySem.EqNone.ne_str_none (a1f I q (by simp))
  | bl j=>cases ry; exact PySem.EqMixed.ne_str_bool (a1f I q (by simp))
  | int j=>obtain ⟨t',rfl⟩:=ry; exact PySem.EqMixed.ne_str_int (a1f I q (by simp))
  | str j=>obtain ⟨t',rfl⟩:=ry; exact ne_str (a1f I q (congrArg not b9q))
  | _=>exact absurd (show false = true from hs) Bool.false_ne_true
 | byt i=>
  obtain ⟨t,rfl⟩:=rx
  cases y with
  | byt j=>obtain ⟨t',rfl⟩:=ry; exact W.ne_bytes (a1f I q (congrArg not b9r))
  | _=>exact absurd (show false = true from hs) Bool.false_ne_true
 | _=>cases y <;> exact absurd (show false = true from hs) Bool.false_ne_true
theorem op_lt:OpR X (compareOp .Lt) (rI0 fun i j=>.bl (decide (i < j))):=opB0 fun _ _ _ _ _ _ _ q=>lt_int q
theorem op_gt:OpR X (compareOp .Gt) (rI0 fun i j=>.bl (decide (j < i))):=opB0 fun _ _ _ _ _ _ _ q=>gt_int q
theorem op_ge:OpR X (compareOp .GtE) (rI0 fun i j=>.bl (decide (j<=i))):=opB0 fun _ _ _ _ _ _ _ q=>ge_int q
theorem op_isN:OpR X (compareOp .Is) (fun x y H Q=>y = .non/\Q (.bl (decide (x = .non))) H):=by
 intro pins s σ H x y v u Q I rx ry h
 obtain ⟨rfl,q⟩:=h
 cases ry
 refine is_none_gen (a1f I q ?_)
 cases x <;> first
  | (cases rx; rfl)
  | (obtain ⟨t,rfl⟩:=rx; rfl)
theorem op_notN:OpR X (compareOp .IsNot) (fun x y H Q=>y = .non/\Q (.bl (!decide (x = .non))) H):=by
 intro pins s σ H x y v u Q I rx ry h
 obtain ⟨rfl,q⟩:=h
 cases ry
 refine isnot_none_gen (a1f I q ?_)
 cases x <;> first
  | (cases rx; rfl)
  | (obtain ⟨t,rfl⟩:=rx; rfl)
theorem OpR.or {f:Value->Value->Sem Value} {r r':R2} (h:OpR X f r) (h':OpR X f r'):OpR X f (fun x y H Q=>r x y H Q\/r' x y H Q):=by
 intro pins s σ H x y v u Q I rx ry q
 rcases q with q | q
 ·exact h pins s σ H x y v u Q I rx ry q
 ·exact h' pins s σ H x y v u Q I rx ry q
theorem a0p (b:Expr) {op:CmpOp} (h:op ≠ .In:=by decide) (h2:op ≠ .NotIn:=by decide):behindInMarks op b = false:=by
 have e1:(op == CmpOp.In) = false:=by cases op <;> first | rfl | exact absurd rfl h
 have e2:(op == CmpOp.NotIn) = false:=by cases op <;> first | rfl | exact absurd rfl h2
 cases b <;> simp [behindInMarks,e1,e2]
theorem b1o {op:CmpOp} {r:R2} (ho:OpR X (compareOp op) r) (ha:PE X a ta) (hb:PE X b tb) (hm:behindInMarks op b = false):PE X (.Compare a [op] [b] pos) (tOp r ta tb):=by
 intro pins s σ H Q I h
 exact wpAny_Compare1 (binT ha hb I h fun v u s2 x y H2 I2 rx ry q=>ho pins s2 σ H2 x y v u Q I2 rx ry q) hm
noncomputable def tTest (t:TE):TT:=fun σ H Q=>t σ H fun x H'=>∃ k,x = .bl k/\Q k H'
theorem pt_cmpR {op:CmpOp} {r:R2} (ho:OpR X (compareOp op) r) (ha:PE X a ta) (hb:PE X b tb) (hm:behindInMarks op b = false):PT X (.Compare a [op] [b] pos) (tTest (tOp r ta tb)):=by
 intro pins s σ H Q I h
 refine wpAny_isTrue_Compare1 (thn (ha pins s σ H _ I h) fun v s1 ⟨x,H1,I1,r1,q1⟩=>thn (hb pins s1 σ H1 _ I1 q1) fun u s2 ⟨y,H2,I2,r2,q2⟩=>
  thn (ho pins s2 σ H2 x y v u _ I2 r1 r2 q2) fun c s3 ⟨z,H3,I3,r3,k,e,q3⟩=>?_) hm
 subst e
 cases r3
 exact wpAny_truthy_bool ⟨H3,I3,q3⟩
noncomputable def TruV (K:W.Frag) (x:V) (H:Hp) (k:Bool):Prop:=
 match x with
 | .non=>k = false
 | .bl b=>k = b
 | .int i=>k = (i != 0)
 | .str y=>y.length<=sizeLine/\k = ((y.length:Int) != 0)
 | .byt y=>y.size<=sizeLine/\k = ((y.size:Int) != 0)
 | .ref p=>(∃ xs,SqL K H p xs/\k = !xs.isEmpty)\/(∃ xs,SqT K H p xs/\k = !xs.isEmpty)\/∃ kvs,H p = some (.dK kvs)/\k = !kvs.isEmpty
 | _=>False
theorem c0w {κ:Type} {kvs:List (κ × V)} {vs:List (κ × Value)} (r:KV kvs vs):(!vs.isEmpty) = !kvs.isEmpty:=by
 cases r <;> rfl
theorem b3c {xs:List V} {its:List Value} (r:Vals xs its):(!its.toArray.isEmpty) = !xs.isEmpty:=by
 cases r <;> simp
theorem a9i:(sizeLine:Nat) < 2 ^ 63:=by rw [sizeLine_eq]; decide
theorem tru_ok:TruR X (fun x H Q=>∃ k,TruV X.K x H k/\Q k H):=by
 intro pins s σ H x v Q I rx h
 obtain ⟨k,e,q⟩:=h
 have hl:=a9i
 have hs:sizeLine = 16777216:=sizeLine_eq
 cases x with
 | non=>
  cases rx
  have e':k = false:=e
  subst e'
  exact truthy_none ⟨H,I,q⟩
 | bl b=>
  cases rx
  have e':k = b:=e
  subst e'
  exact wpAny_truthy_bool ⟨H,I,q⟩
 | int i=>
  obtain ⟨t,rfl⟩:=rx
  have e':k = (i != 0):=e
  subst e'
  exact PySem.P.truthy_int ⟨H,I,q⟩
 | str y=>
  obtain ⟨t,rfl⟩:=rx
  obtain ⟨hy,e'⟩:y.length<=sizeLine/\k = ((y.length:Int) != 0):=e
  subst e'
  exact PySem.P.truthy_str (by omega) ⟨H,I.tok _,q⟩
 | byt y=>
  obtain ⟨t,rfl⟩:=rx
  obtain ⟨hy,e'⟩:y.size<=sizeLine/\k = ((y.size:Int) != 0):=e
  subst e'
  exact W.truthy_bytes (by omega) ⟨H,I.tok _,q⟩
 | ref p=>
  cases rx
  have e':(∃ xs,SqL X.K H p xs/\k = !xs.isEmpty)\/(∃ xs,SqT X.K H p xs/\k = !xs.isEmpty)\/∃ kvs,H p = some (.dK kvs)/\k = !kvs.isEmpty:=e
  rcases e' with ⟨xs,hx,e'⟩ | ⟨xs,hx,e'⟩ | ⟨kvs,hx,e'⟩
  ·subst e'
   obtain ⟨its,r,pl,hz⟩:=I.list hx
   have hlen:=r.length
   exact wpAny_truthy_list pl.isList (by simp only [List.size_toArray]; omega) ⟨H,I.tok _,by rw [b3c r]; exact q⟩
  ·subst e'
   obtain ⟨its,r,pl,hz⟩:=I.tuple hx
   have hlen:=r.length
   exact truthy_tuple pl (by simp only [List.size_toArray]; omega) ⟨H,I.tok _,by rw [b3c r]; exact q⟩
  ·subst e'
   obtain ⟨hz,hS,vs,r,m⟩:kvs.length<=sizeLine/\(p == sysModules) = false/\∃ vs,KV kvs vs/\s.heap.DictOf (a1k X.prog X.w) p vs:=I.hok p _ hx
   have hlen:kvs.length = vs.length:=Paired.length r
   exact wpAny_truthy_dict hS m (by omega) ⟨H,I.tok _,by rw [c0w r]; exact q⟩
 | _=>exact (show False from e).elim
theorem c0x:OpR X (binaryOp .Add) (fun x y H Q=>∃ i j,x = .str i/\y = .str j/\i.length + j.length<=sizeLine/\Q (.str (i ++ j)) H):=by
 intro pins s σ H x y v u Q I rx ry h
 obtain ⟨i,j,rfl,rfl,hz,q⟩:=h
 obtain ⟨t,rfl⟩:=rx
 obtain ⟨t',rfl⟩:=ry
 exact add_str (fun t' tk=>⟨.str (i ++ j),H,I.tok _,⟨_,rfl⟩,q⟩) hz
theorem b8w:OpR X (inplaceOp .Add) (fun x y H Q=>∃ i j,x = .str i/\y = .str j/\i.length + j.length<=sizeLine/\Q (.str (i ++ j)) H):=by
 intro pins s σ H x y v u Q I rx ry h
 obtain ⟨i,j,rfl,rfl,hz,q⟩:=h
 obtain ⟨t,rfl⟩:=rx
 obtain ⟨t',rfl⟩:=ry
 exact iadd_str (fun t' tk=>⟨.str (i ++ j),H,I.tok _,⟨_,rfl⟩,q⟩) hz
theorem vals1 {x:V} {us:List Value} (r:Vals [x] us):∃ u,us = [u]/\RelV x u:=by
 cases r with
 | cons r1 r2=>cases r2; exact ⟨_,rfl,r1⟩
theorem b3d {x y:V} {us:List Value} (r:Vals [x,y] us):∃ u w',us = [u,w']/\RelV x u/\RelV y w':=by
 cases r with
 | cons r1 r2=>
  cases r2 with
  | cons r3 r4=>cases r4; exact ⟨_,_,rfl,r1,r3⟩
theorem c2q (hc:X.calm = true):a1z X (.builtin "max") (fun xs H Q=>∃ i j,xs = [.int i,.int j]/\Q (.int (if j > i then j else i)) H):=by
 intro pins s σ H xs us Q I r h
 obtain ⟨i,j,rfl,q⟩:=h
 obtain ⟨u,w',rfl,⟨t,rfl⟩,⟨t',rfl⟩⟩:=b3d r
 refine max_two_ints (I.ok.hd hc) fun h' tk k=>⟨_,H,I.kept k,?_,q⟩
 by_cases hj:j > i
 ·rw [if_pos hj,if_pos hj]; exact ⟨_,rfl⟩
 ·rw [if_neg hj,if_neg hj]; exact ⟨_,rfl⟩
theorem c2r (hc:X.calm = true):a1z X (.builtin "min") (fun xs H Q=>∃ i j,xs = [.int i,.int j]/\Q (.int (if j < i then j else i)) H):=by
 intro pins s σ H xs us Q I r h
 obtain ⟨i,j,rfl,q⟩:=h
 obtain ⟨u,w',rfl,⟨t,rfl⟩,⟨t',rfl⟩⟩:=b3d r
 refine min_two_ints (I.ok.hd hc) fun h' tk k=>⟨_,H,I.kept k,?_,q⟩
 by_cases hj:j < i
 ·rw [if_pos hj,if_pos hj]; exact ⟨_,rfl⟩
 ·rw [if_neg hj,if_neg hj]; exact ⟨_,rfl⟩
theorem c2s:a1z X (.type "int") (fun xs H Q=>(∃ i,xs = [.int i]/\Q (.int i) H)\/∃ k,xs = [.bl k]/\Q (.int (if k then 1 else 0)) H):=by
 intro pins s σ H xs us Q I r h
 rcases h with ⟨i,rfl,q⟩ | ⟨k,rfl,q⟩
 ·obtain ⟨u,rfl,t,rfl⟩:=vals1 r
  exact call_int_int ⟨.int i,H,I,⟨_,rfl⟩,q⟩
 ·obtain ⟨u,rfl,r1⟩:=vals1 r
  cases r1
  exact call_int_bool ⟨.int (if k then 1 else 0),H,I.tok _,⟨_,rfl⟩,q⟩
theorem b6h:a1z X (.type "str") (fun xs H Q=>∃ i,xs = [.int i]/\i.natAbs.log2 < 1920/\Q (.str (toString i)) H):=by
 intro pins s σ H xs us Q I r h
 obtain ⟨i,rfl,hz,q⟩:=h
 obtain ⟨u,rfl,t,rfl⟩:=vals1 r
 exact PySem.P.str_of_int hz ⟨.str _,H,I.tok _,⟨_,rfl⟩,q⟩
noncomputable def LenV (K:W.Frag) (x:V) (H:Hp) (n:Nat):Prop:=
 match x with
 | .str y=>y.length<=sizeLine/\n = y.length
 | .byt y=>y.size<=sizeLine/\n = y.size
 | .ref p=>(∃ xs,SqL K H p xs/\n = xs.length)\/∃ xs,SqT K H p xs/\n = xs.length
 | _=>False
theorem c5n:a1z X (.builtin "len") (fun xs H Q=>∃ x n,xs = [x]/\LenV X.K x H n/\Q (.int n) H):=by
 intro pins s σ H xs us Q I r h
 obtain ⟨x,n,rfl,e,q⟩:=h
 obtain ⟨u,rfl,rx⟩:=vals1 r
 have hl:=a9i
 have hs:sizeLine = 16777216:=sizeLine_eq
 cases x with
 | str y=>
  obtain ⟨t,rfl⟩:=rx
  obtain ⟨hy,e'⟩:y.length<=sizeLine/\n = y.length:=e
  subst e'
  exact len_str (by omega) ⟨.int _,H,I.tok _,⟨_,rfl⟩,q⟩
 | byt y=>
  obtain ⟨t,rfl⟩:=rx
  obtain ⟨hy,e'⟩:y.size<=sizeLine/\n = y.size:=e
  subst e'
  exact W.len_bytes (by omega) ⟨.int _,H,I.tok _,⟨_,rfl⟩,q⟩
 | ref p=>
  cases rx
  have e':(∃ xs,SqL X.K H p xs/\n = xs.length)\/∃ xs,SqT X.K H p xs/\n = xs.length:=e
  rcases e' with ⟨xs,hx,e'⟩ | ⟨xs,hx,e'⟩
  ·subst e'
   obtain ⟨its,r',pl,hz⟩:=I.list hx
   have hlen:=r'.length
   exact Calls.call_len_list pl.isList (by simp only [List.size_toArray]; omega) ⟨.int xs.length,H,I.tok _,⟨_,by simp only [List.size_toArray]; rw [hlen]⟩,q⟩
  ·subst e'
   obtain ⟨its,r',pl,hz⟩:=I.tuple hx
   have hlen:=r'.length
   exact len_tuple pl (by simp only [List.size_toArray]; omega) ⟨.int xs.length,H,I.tok _,⟨_,by simp only [List.size_toArray]; rw [hlen]⟩,q⟩
 | _=>exact (show False from e).elim
end
structure ObjM (h:Heap) (x dx C:Addr) (mA:Str->Option Value):Prop where
 obj:h.get? x = some (W.instObj C dx)
 ns:h.Ns1 dx mA
 ne:dx ≠ x
theorem c2t {h:Heap} {dx:Addr} {mA:Str->Option Value} (n:h.Ns1 dx mA):∃ od,h.get? dx = some od/\∀ name,W.lookIn name od = some (mA name):=by
 obtain ⟨o,es,ep,ho,hd,hk,_,hm⟩:=n
 refine ⟨o,ho,fun name=>?_⟩
 have e:=hm name
 unfold nsFind findBy at e
 rw [<- Array.find?_toList] at e
 unfold W.lookIn
 rw [hd]
 dsimp only
 split
 ·rename_i y q
  rw [q] at e
  exact congrArg some e
 ·rename_i q
  rw [q] at e
  have a:es.toList.any (·.refKey) = false:=by
   rw [List.any_eq_false]
   intro y hy
   obtain ⟨z,t,hkey⟩:=hk y (Array.mem_toList_iff.mp hy)
   simp [DictEntry.refKey,hkey]
  have a':¬ es.toList.any (·.refKey) = true:=by rw [a]; exact Bool.false_ne_true
  rw [if_neg a']
  exact congrArg some e
theorem ObjM.look {h:Heap} {x dx C:Addr} {mA:Str->Option Value} (I:ObjM h x dx C mA):∃ od,W.InstAt h x (W.instObj C dx) C (some od)/\∀ name,W.lookIn name od = some (mA name):=
 let ⟨od,ho,hl⟩:=c2t I.ns
 ⟨od,⟨I.obj,rfl,rfl,ho⟩,hl⟩
section
variable {prog:Program} {w:World} {A:Around} {E:Value->Shared->Prop} {s:Shared} {K:W.Frag} {x dx C f:Addr} {mA:Str->Option Value} {name:Str} {v:Value}
theorem get_map {expr:Bool} {Q:Value->Shared->Prop} (X:K.In s.heap) (I:ObjM s.heap x dx C mA) (hg:W.plainGet K C name = true) (hh:W.hasDictIn K C = true)
  (ha:W.findIn K (.ref C) name = some none) (hv:mA name = some v) (hv':W.handedIn v = true) (h:Q v { s with toks:=s.toks + 1 }) :
  wpAny (model prog w) A (getAttr (.ref x) name expr) Q E s:=by
 obtain ⟨od,J,hl⟩:=I.look
 exact W.get_value X J (W.plainGet_of hg).1 (W.findObj_own hh ha rfl (by rw [hl,hv])) hv' h
theorem c5o {pl:Sem Bool} {Q:Value × List Value->Shared->Prop} (X:K.In s.heap) (I:ObjM s.heap x dx C mA) (hg:W.plainGet K C name = true)
  (hf:W.findIn K (.ref C) name = some (some (.ref f))) (ht:W.isFn K (.ref f) = true) (hv:mA name = none) (h:Q (.ref f,[.ref x]) s) :
  wpAny (model prog w) A (getMethod (.ref x) name pl) Q E s:=by
 obtain ⟨od,J,hl⟩:=I.look
 exact W.method_fn X J (W.plainGet_of hg).1 (W.plainGet_of hg).2 hf (beq_iff_eq.mp ht) (by show (W.lookIn name od).map (·.isSome) = some false; rw [hl,hv]; rfl) h
theorem set_map {ns:List Str} {Q:Unit->Shared->Prop} (X:K.In s.heap) (I:ObjM s.heap x dx C mA)
  (hs:W.findIn K (.ref C) "__setattr__" = some (some (.builtin "object.__setattr__"))) (hp:W.plainOver K C = true) (ht:W.takerIn K C name = some none) (hh:W.hasDictIn K C = true)
  (hw:PySem.Within mA ns) (hsz:ns.length<=sizeLine)
  (h:∀ h',ObjM h' x dx C (fun y=>if y = name then some v else mA y)->Heap.SameBut dx s.heap h'->Q () { s with heap:=h',toks:=s.toks + 2 }) :
  wpAny (model prog w) A (setAttr (.ref x) name v) Q E s:=by
 obtain ⟨od,J,hl⟩:=I.look
 refine W.set_plain X J hs (W.osa_open (s:={ s with toks:=s.toks + 1 }) (r:=none) X J hp ht fun b=>?_)
 obtain ⟨cd,hc,hd'⟩:=W.any_some hh
 have hx:s.heap.get? x = some ⟨.ref C,some dx,.plain,#[]⟩:=I.obj
 refine wpAny_bind (wpAny_pure (wpAny_bind (wpAny_bind (wpAny_loadPart hx (wpAny_bind (W.Looks.here (s:={ s with toks:=s.toks + 1 }) (W.looks_clsIn X hc) ?_))))))
 rw [hd']
 refine wpAny_pure (a:=some dx) (wpAny_bind (wpAny_pure (wpAny_bind ?_)))
 refine wpAny_nsSet1 (s:={ s with toks:=s.toks + 1 }) I.ns fun h' hn2 hs2=>?_
 obtain ⟨oD,esD,epD,hoD,hdD,hcD⟩:=hn2.count (PySem.Within.cons name v hw)
 refine wpAny_bind (wpAny_lookBehind hoD (by rw [hdD]; exact pastItsLine_dict (Nat.le_trans hcD (by rw [List.length_cons]; omega))) ?_)
 exact wpAny_pure (h _ ⟨(hs2.2 _ (Ne.symm I.ne)).trans I.obj,hn2,I.ne⟩ hs2)
theorem c5p {R:Result->Shared->Prop} {vs:List Value} {kw:List (Str × Value)} (X:K.In s.heap) (hm:W.makesIn K C = true)
  (hi:W.findIn K (.ref C) "__init__" = some (some (.ref f))) (hf:W.typeIn K (.ref f) = some (.type "function"))
  (h:codeAny (model prog w) (A.under (.builtin "type.__call__" ⟨.ref C :: vs,kw⟩)) (.call (.ref f) ⟨.ref (s.heap.objs.size + 1) :: vs,kw⟩) (W.InitBack (s.heap.objs.size + 1) R)
   { s with heap:=(s.heap.push W.emptyDict).push (W.instObj C s.heap.objs.size) }) :
  codeAny (model prog w) A (.call (.ref C) ⟨vs,kw⟩) R s:=by
 obtain ⟨hh,g,d,t,os⟩:=s
 exact W.make_core (W.makes_of X hm) (W.looks_findIn X hi) (fun self=>W.bind_fn X self hf) (.inl rfl) h
end
noncomputable def putF (f:Str) (v:V):List (Str × V)->List (Str × V)
 | []=>[(f,v)]
 | (g,x) :: r=>if g = f then (g,v) :: r else (g,x) :: putF f v r
theorem b2g (f g:Str) (v:V):∀ fs:List (Str × V),(putF f v fs).lookup g = if g = f then some v else fs.lookup g
 | []=>by
  show List.lookup g [(f,v)] = _
  by_cases h:g = f
  ·have hb:(g == f) = true:=beq_iff_eq.mpr h
   simp only [List.lookup,hb,if_pos h]
  ·have hb:(g == f) = false:=beq_eq_false_iff_ne.mpr h
   simp only [List.lookup,hb,if_neg h]
 | (k,x) :: r=>by
  have ih:=b2g f g v r
  rw [show putF f v ((k,x) :: r) = (if k = f then (k,v) :: r else (k,x) :: putF f v r) from rfl]
  by_cases hk:k = f
  ·rw [if_pos hk]
   by_cases h:g = k
   ·have hb:(g == k) = true:=beq_iff_eq.mpr h
    simp only [List.lookup,hb,if_pos (h.trans hk)]
   ·have hb:(g == k) = false:=beq_eq_false_iff_ne.mpr h
    simp only [List.lookup,hb,if_neg (fun e:g = f=>h (e.trans hk.symm))]
  ·rw [if_neg hk]
   by_cases h:g = k
   ·have hb:(g == k) = true:=beq_iff_eq.mpr h
    simp only [List.lookup,hb,if_neg (fun e:g = f=>hk (h.symm.trans e))]
   ·have hb:(g == k) = false:=beq_eq_false_iff_ne.mpr h
    simp only [List.lookup,hb]
    exact ih
theorem b0w (f:Str) (v:V):∀ fs:List (Str × V),f ∈ (putF f v fs).map (·.1)/\∀ g,g ∈ fs.map (·.1)->g ∈ (putF f v fs).map (·.1)
 | []=>⟨by simp [putF],fun g h=>by simp at h⟩
 | (k,x) :: r=>by
  obtain ⟨i1,i2⟩:=b0w f v r
  rw [show putF f v ((k,x) :: r) = (if k = f then (k,v) :: r else (k,x) :: putF f v r) from rfl]
  by_cases hk:k = f
  ·rw [if_pos hk]
   subst hk
   exact ⟨by simp,fun g h=>by simpa using h⟩
  ·rw [if_neg hk]
   refine ⟨?_,fun g h=>?_⟩
   ·rw [List.map_cons]
    exact List.mem_cons_of_mem _ i1
   ·rw [List.map_cons] at h ⊢
    rcases List.mem_cons.mp h with e | e
    ·exact List.mem_cons.mpr (.inl e)
    ·exact List.mem_cons_of_mem _ (i2 g e)
theorem b2h (f:Str) (v:V):∀ fs:List (Str × V),(putF f v fs).length<=fs.length + 1
 | []=>by simp [putF]
 | (k,x) :: r=>by
  have ih:=b2h f v r
  rw [show putF f v ((k,x) :: r) = (if k = f then (k,v) :: r else (k,x) :: putF f v r) from rfl]
  by_cases hk:k = f
  ·rw [if_pos hk,List.length_cons,List.length_cons]; omega
  ·rw [if_neg hk,List.length_cons,List.length_cons]; omega
theorem RelO.some_of {v:V} {o:Option Value} (r:RelO (some v) o):∃ u,o = some u/\RelV v u:=by
 cases o with
 | none=>exact (show False from r).elim
 | some u=>exact ⟨u,rfl,r⟩
theorem RelO.none_of {o:Option Value} (r:RelO none o):o = none:=by
 cases o with
 | none=>rfl
 | some u=>exact (show False from r).elim
theorem c2u {v:V} {u:Value} (r:RelV v u):W.handedIn u = true:=by
 cases v with
 | non=>cases (show u = Value.none from r); rfl
 | bl b=>cases (show u = Value.bool b from r); rfl
 | int i=>obtain ⟨t,e⟩:=(show ∃ t,u = Value.int i t from r); cases e; rfl
 | str x=>obtain ⟨t,e⟩:=(show ∃ t,u = Value.str x t from r); cases e; rfl
 | byt b=>obtain ⟨t,e⟩:=(show ∃ t,u = Value.bytes b t from r); cases e; rfl
 | flt b=>obtain ⟨t,e⟩:=(show ∃ t,u = Value.float b t from r); cases e; rfl
 | ref a=>cases (show u = Value.ref a from r); rfl
 | ty n=>cases (show u = Value.type n from r); rfl
section
variable {P:Program} {w:World} {H H':Hp} {h h':Heap} {a C dx:Addr} {fs fs':List (Str × V)}
theorem b1p (hok:HOk P w H h) (e:H a = some (.ins C dx fs)):∃ mA,ObjM h a dx C mA/\(∀ f,RelO (fs.lookup f) (mA f))/\PySem.Within mA (fs.map (·.1))/\fs.length<=1000/\H dx = some (.own a):=by
 obtain ⟨d,z,ne,ob,mA,n,r,q⟩:=(show a1m P w H h a (.ins C dx fs) from hok a _ e)
 exact ⟨mA,⟨ob,n,ne⟩,r,q,z,d⟩
end
structure Cls (K:W.Frag) (C:Addr):Prop where
 pg:W.plainGet K C Str.empty = true
 hd:W.hasDictIn K C = true
 po:W.plainOver K C = true
 sa:W.findIn K (.ref C) "__setattr__" = some (some (.builtin "object.__setattr__"))
theorem Cls.get {K:W.Frag} {C:Addr} (c:Cls K C) (f:Str):W.plainGet K C f = true:=c.pg
noncomputable def a5q (K:W.Frag) (C:Addr) (f:Str):Prop:=W.findIn K (.ref C) f = some none
theorem a5q.taker {K:W.Frag} {C:Addr} {f:Str} (n:a5q K C f):W.takerIn K C f = some none:=by
 unfold W.takerIn
 rw [show W.findIn K (.ref C) f = some none from n]
 rfl
structure Meth (K:W.Frag) (C:Addr) (m:Str) (f:Addr):Prop where
 at_:W.findIn K (.ref C) m = some (some (.ref f))
 fn:W.isFn K (.ref f) = true
 kp:W.keepIn K (.ref f) = true
section
variable {X:Cx} {pins:List (Addr × Obj)} {σ:St} {H:Hp} {s:Shared} {a C dx:Addr} {fs:List (Str × V)} {f:Str} {v:V} {A:Around} {E:Value->Shared->Prop}
theorem c0y {b:Bool} {Q:Value->Shared->Prop} (I:Inv X pins σ H s) (e:H a = some (.ins C dx fs)) (c:Cls X.K C) (n:a5q X.K C f) (l:fs.lookup f = some v)
  (h:∀ u s',Inv X pins σ H s'->RelV v u->Q u s'):wpAny (model X.prog X.w) A (getAttr (.ref a) f b) Q E s:=by
 obtain ⟨mA,O,r,_,_,_⟩:=b1p I.hok e
 obtain ⟨u,hu,ru⟩:=RelO.some_of (v:=v) (o:=mA f) (by rw [<- l]; exact r f)
 exact get_map I.kIn O (c.get f) c.hd n hu (c2u ru) (h u _ (I.tok _) ru)
theorem b3e {m:Str} {g:Addr} {pl:Sem Bool} {Q:Value × List Value->Shared->Prop} (I:Inv X pins σ H s) (e:H a = some (.ins C dx fs)) (c:Cls X.K C) (k:Meth X.K C m g) (l:fs.lookup m = none)
  (h:Q (.ref g,[.ref a]) s):wpAny (model X.prog X.w) A (getMethod (.ref a) m pl) Q E s:=by
 obtain ⟨mA,O,r,_,_,_⟩:=b1p I.hok e
 have hn:mA m = none:=RelO.none_of (by rw [<- l]; exact r m)
 exact c5o I.kIn O (c.get m) k.at_ k.fn hn h
theorem c0z {y:V} {u:Value} {Q:Unit->Shared->Prop} (I:Inv X pins σ H s) (e:H a = some (.ins C dx fs)) (c:Cls X.K C) (n:a5q X.K C f) (hl:fs.length < 1000) (ry:RelV y u)
  (h:∀ s',Inv X pins σ (upd H a (.ins C dx (putF f y fs))) s'->Q () s'):wpAny (model X.prog X.w) A (setAttr (.ref a) f u) Q E s:=by
 obtain ⟨mA,O,r,wi,_,ho⟩:=b1p I.hok e
 have hz:(fs.map (·.1)).length<=sizeLine:=by rw [List.length_map,sizeLine_eq]; omega
 refine set_map I.kIn O c.sa c.po n.taker c.hd wi hz fun h' O' sb=>h _ ?_
 have hd:∃ o,h'.get? dx = some o:=let ⟨o,_,_,e',_⟩:=O'.ns; ⟨o,e'⟩
 refine I.write (x:=a) (e:=dx) (by rw [e]; exact True.intro) (.inr ho) (fun b q hb z=>(sb.2 b hb).trans z) hd ?_
 refine ⟨by rw [a0j O.ne]; exact ho,?_,O.ne,O'.obj,_,O'.ns,fun g=>?_,fun g hg=>?_⟩
 ·have:=b2h f y fs; omega
 ·show RelO ((putF f y fs).lookup g) (if g = f then some u else mA g)
  rw [b2g]
  by_cases q:g = f
  ·rw [if_pos q,if_pos q]; exact ry
  ·rw [if_neg q,if_neg q]; exact r g
 ·by_cases q:g = f
  ·rw [q]; exact (b0w f y fs).1
  ·refine (b0w f y fs).2 g (wi g fun z=>hg ?_)
   show (if g = f then some u else mA g) = none
   rw [if_neg q]; exact z
theorem Inv.made (I:Inv X pins σ H s):Inv X pins σ (upd (upd H s.heap.objs.size (.own (s.heap.objs.size + 1))) (s.heap.objs.size + 1) (.ins C s.heap.objs.size []))
  { s with heap:=(s.heap.push W.emptyDict).push (W.instObj C s.heap.objs.size) }:=by
 have e1:(s.heap.push W.emptyDict).get? s.heap.objs.size = some W.emptyDict:=Heap.get?_push_size s.heap rfl
 have e2:((s.heap.push W.emptyDict).push (W.instObj C s.heap.objs.size)).get? (s.heap.objs.size + 1) = some (W.instObj C s.heap.objs.size):=by
  have:=Heap.get?_push_size (s.heap.push W.emptyDict) (o:=W.instObj C s.heap.objs.size) rfl
  rwa [Heap.size_push] at this
 have e3:(s.heap.push W.emptyDict).Ns s.heap.objs.size (fun _=>none):=⟨W.emptyDict,#[],_,e1,rfl,(fun e he=>absurd he (by simp)),fun _=>rfl⟩
 have I1:=I.laid (a:=s.heap.objs.size) (o:=.own (s.heap.objs.size + 1)) (h':=s.heap.push W.emptyDict) (t':=s.toks) (fun b u q=>Heap.get?_push_of_some _ q) (Nat.le_refl _) ⟨_,e1⟩
 refine I1.laid (a:=s.heap.objs.size + 1) (o:=.ins C s.heap.objs.size []) (t':=s.toks) (fun b u q=>Heap.get?_push_of_some _ q) (Nat.le_of_eq (Heap.size_push _ _)) ?_
 have ne:s.heap.objs.size ≠ s.heap.objs.size + 1:=Nat.ne_of_lt (Nat.lt_succ_self _)
 refine ⟨by rw [a0j ne,a0b],Nat.zero_le _,ne,e2,fun _=>none,(Heap.Ns1.of_empty e3).at fun o q=>Heap.get?_push_of_some _ q,fun _=>True.intro,fun y hy=>absurd rfl hy⟩
theorem attr_of {prog:Program} {w:World} {env:Env} {e:Expr} {f:Str} {pos:Pos} {s:Shared} {Q:Value->Shared->Prop} (hb:attributeBase e f env (eval e env) = eval e env)
  (h:wpAny (model prog w) A (eval e env) (fun o s₁=>wpAny (model prog w) A (getAttr o f true) Q E s₁) E s):wpAny (model prog w) A (eval (.Attribute e f pos) env) Q E s:=
 Attribute_any_ h (by rw [arm_eval_Attribute,hb])
end
noncomputable def tFld (K:W.Frag) (ta:TE) (f:Str):TE:=fun σ H Q=>ta σ H fun x H1=>∃ a C dx fs v,x = .ref a/\H1 a = some (.ins C dx fs)/\Cls K C/\a5q K C f/\fs.lookup f = some v/\Q v H1
noncomputable def sFld (K:W.Frag) (ta tv:TE) (f:Str):TS:=fun D σ H=>tv σ H fun y H1=>ta σ H1 fun x H2=>∃ a C dx fs,x = .ref a/\H2 a = some (.ins C dx fs)/\Cls K C/\a5q K C f/\fs.length < 1000 /\
 D.nx σ (upd H2 a (.ins C dx (putF f y fs)))
section
variable {X:Cx} {o e value:Expr} {f:Str} {pos pos' tpos:Pos} {ta tv:TE}
theorem a2a (he:PE X e ta) (hb:attributeBase e f X.env (eval e X.env) = eval e X.env):PE X (.Attribute e f pos) (tFld X.K ta f):=by
 intro pins s σ H Q I h
 refine attr_of hb (thn (he pins s σ H _ I h) fun u s1 ⟨x,H1,I1,rx,a,C,dx,fs,v,ex,ea,c,n,l,q⟩=>?_)
 subst ex
 obtain rfl:u = Value.ref a:=rx
 exact c0y I1 ea c n l fun u' s2 I2 ru=>⟨v,H1,I2,ru,q⟩
theorem c2v (ha:PE X o ta) (hv:PE X value tv) (hs:swapsWith value (some (.Attribute o f pos')) pos.line X.env = pure false):PS X (.Assign [.Attribute o f pos'] value pos) (sFld X.K ta tv f):=by
 intro pins s σ H D I h
 refine plainObj_wpAny_Assign_Attribute (thn (hv pins s σ H _ I h) fun u s1 ⟨y,H1,I1,ry,q⟩=>thn (ha pins s1 σ H1 _ I1 q) fun ov s2 ⟨x,H2,I2,rx,a,C,dx,fs,ex,ea,c,n,l,q2⟩=>?_) hs
 subst ex
 obtain rfl:ov = Value.ref a:=rx
 exact c0z I2 ea c n l ry fun s3 I3=>⟨σ,_,I3,q2⟩
end
section
variable {X:Cx} {pins:List (Addr × Obj)} {σ:St} {H:Hp} {s:Shared} {A:Around} {E:Value->Shared->Prop} {Q:Value->Shared->Prop} {c:Value} {b:Bool}
inductive TyOf (K:W.Frag) (H:Hp):V->Value->Prop where
 | non:TyOf K H .non (.type "NoneType")
 | bl (x:Bool):TyOf K H (.bl x) (.type "bool")
 | int (i:Int):TyOf K H (.int i) (.type "int")
 | str (x:Str):TyOf K H (.str x) (.type "str")
 | flt (x:UInt64):TyOf K H (.flt x) (.type "float")
 | lst {a:Addr} {xs:List V} (e:H a = some (.lst xs)):TyOf K H (.ref a) (.type "list")
 | frz {a:Addr} {o:Obj} {xs:List V} (e:H a = some (.frz o (.lst xs))):TyOf K H (.ref a) (.type "list")
 | tup {a:Addr} {xs:List V} (e:H a = some (.tup xs)):TyOf K H (.ref a) (.type "tuple")
 | dK {a:Addr} {kvs:List (Key × V)} (e:H a = some (.dK kvs)):TyOf K H (.ref a) (.type "dict")
 | dT {a:Addr} {kvs:List (List Key × V)} (e:H a = some (.dT kvs)):TyOf K H (.ref a) (.type "dict")
 | ins {a C dx:Addr} {fs:List (Str × V)} (e:H a = some (.ins C dx fs)) (cl:Cls K C) (ha:W.findIn K (.ref C) "__class__" = some (some (.builtin "object.__class__")))
   (hn:W.specialIn K (.builtin "object.__class__") "__get__" = some (some (.builtin "getset_descriptor.__get__"))) (htk:W.takesIn K (.builtin "object.__class__") = some true)
   (hm:W.mroIn K C (.type "object") = some true):TyOf K H (.ref a) (.ref C)
theorem a7n {x:V} {u t:Value} (I:Inv X pins σ H s) (rx:RelV x u) (ty:TyOf X.K H x t) (e:W.kitOne X.K t c = some b) (h:∀ tk,Q (.bool b) { s with toks:=tk }) :
  wpAny (model X.prog X.w) A (call (.builtin "isinstance") [u,c]) Q E s:=by
 cases ty with
 | non=>cases (show u = Value.none from rx); exact W.kia_one W.kitx_none I.kIn True.intro e (fun z=>nomatch z) h
 | bl y=>cases (show u = Value.bool y from rx); exact W.kia_one W.kitx_bool I.kIn True.intro e (fun z=>nomatch z) h
 | int i=>obtain ⟨t,q⟩:=(show ∃ t,u = Value.int i t from rx); cases q; exact W.kia_one W.kitx_int I.kIn True.intro e (fun z=>nomatch z) h
 | str y=>obtain ⟨t,q⟩:=(show ∃ t,u = Value.str y t from rx); cases q; exact W.kia_one W.kitx_str I.kIn True.intro e (fun z=>nomatch z) h
 | flt y=>obtain ⟨t,q⟩:=(show ∃ t,u = Value.float y t from rx); cases q; exact W.kia_one W.kitx_float I.kIn True.intro e (fun z=>nomatch z) h
 | @lst a xs ea=>
  cases (show u = Value.ref a from rx)
  obtain ⟨_,_,n,_,h1⟩:=(show a1m X.prog X.w H s.heap a (.lst xs) from I.hok a _ ea)
  exact W.kia_one W.kitx_list I.kIn ⟨_,h1,rfl⟩ e (fun z=>nomatch z) h
 | @frz a ob xs ea=>
  cases (show u = Value.ref a from rx)
  obtain ⟨_,_,_,n,_,h1⟩:=(show a1m X.prog X.w H s.heap a (.frz ob (.lst xs)) from I.hok a _ ea)
  exact W.kia_one W.kitx_list I.kIn ⟨_,h1,rfl⟩ e (fun z=>nomatch z) h
 | @tup a xs ea=>
  cases (show u = Value.ref a from rx)
  obtain ⟨_,_,_,p⟩:=(show a1m X.prog X.w H s.heap a (.tup xs) from I.hok a _ ea)
  obtain ⟨o,h1,h2,_⟩:=p
  exact W.kia_one W.kitx_tuple I.kIn ⟨o,h1,h2⟩ e (fun z=>nomatch z) h
 | @dK a kvs ea=>
  cases (show u = Value.ref a from rx)
  obtain ⟨_,_,vs,_,p⟩:=(show a1m X.prog X.w H s.heap a (.dK kvs) from I.hok a _ ea)
  obtain ⟨o,es,ep,h1,h2,_⟩:=p
  exact W.kia_one W.kitx_dict I.kIn ⟨o,h1,h2.1⟩ e (fun z=>nomatch z) h
 | @dT a kvs ea=>
  cases (show u = Value.ref a from rx)
  obtain ⟨_,_,xs,_,o,es,ep,h1,h2,_⟩:=(show a1m X.prog X.w H s.heap a (.dT kvs) from I.hok a _ ea)
  exact W.kia_one W.kitx_dict I.kIn ⟨o,h1,h2.1⟩ e (fun z=>nomatch z) h
 | @ins a C dx fs ea cl ha hn htk hm=>
  cases (show u = Value.ref a from rx)
  obtain ⟨mA,O,_⟩:=b1p I.hok ea
  obtain ⟨od,J,_⟩:=O.look
  exact W.kia_one (W.kitx_own (cl.get _) cl.hd ha hn htk hm) I.kIn J e (fun z=>nomatch z) h
end
structure Room (k:Nat) (A:Around):Prop where
 hd:A.handled = none
 dp:A.depth + 3 * k + 5 < recursionLimit
 un:A.units + 16 * k + 200 < cLine
theorem Room.mono {j k:Nat} {A:Around} (r:Room k A) (h:j<=k):Room j A:=⟨r.hd,by have:=r.dp; omega,by have:=r.un; omega⟩
theorem Room.deeper {k:Nat} {A:Around} (r:Room (k + 1) A) (env:Env):Room k (A.deeper env):=
 ⟨r.hd,by have:=r.dp; show A.depth + 1 + 3 * k + 5 < _; omega,by have:=r.un; show A.units + 3 + 16 * k + 200 < _; omega⟩
theorem Room.in1 {k:Nat} {A:Around} (r:Room (k + 1) A):Room k A.in1:=
 ⟨r.hd,by have:=r.dp; show A.depth + 3 * k + 5 < _; omega,by have:=r.un; show A.units + 1 + 16 * k + 200 < _; omega⟩
theorem c1a {A:Around} {C:Addr} {us:List Value} {kw:List (Str × Value)}:(A.under (.builtin "type.__call__" ⟨.ref C :: us,kw⟩)).depth = A.depth + 1:=by
 first | rfl | simp [Around.under,Code.weight,Code.isCreation,Code.isGuard,Code.isCaller,Code.frames,Code.isFrame,guardIds]
theorem c1b {A:Around} {C:Addr} {us:List Value} {kw:List (Str × Value)}:(A.under (.builtin "type.__call__" ⟨.ref C :: us,kw⟩)).units = A.units + 1:=by
 first | rfl | simp [Around.under,Code.cUnits,Code.frames,Code.isFrame]
theorem Room.make {k:Nat} {A:Around} (r:Room (k + 1) A) (C:Addr) (us:List Value) (kw:List (Str × Value)):Room k (A.under (.builtin "type.__call__" ⟨.ref C :: us,kw⟩)):=
 ⟨r.hd,by have:=r.dp; rw [c1a]; omega,by have:=r.un; rw [c1b]; omega⟩
theorem Room.depth {k:Nat} {A:Around} (r:Room k A):A.depth < recursionLimit:=by have:=r.dp; omega
theorem Room.units {k:Nat} {A:Around} (r:Room k A):A.units + 64 < cLine:=by have:=r.un; omega
noncomputable def tNil:TA:=fun _ H Q=>Q [] H
noncomputable def b5v (ta:TE) (tr:TA):TA:=fun σ H Q=>ta σ H fun x H1=>tr σ H1 fun xs H2=>Q (x :: xs) H2
section
variable {X:Cx} {e:Expr} {es:List Expr} {te:TE} {t:TA} {pos:Pos}
theorem a0e:PA X [] tNil:=fun _ _ _ _ H Q I h=>Calls.spliced_nil ⟨[],H,I,.nil,h⟩
theorem b9s (ha:PE X e te) (hr:PA X es t) (hs:starEach (e :: es) X.env = (false,eval e X.env) :: starEach es X.env:=by rfl):PA X (e :: es) (b5v te t):=by
 intro pos pins s σ H Q I h
 rw [hs]
 show wpAny _ _ (spliced ((false,eval e X.env) :: backTo pos (starEach es X.env))) _ _ s
 refine Calls.spliced_cons (thn (ha pins s σ H _ I h) fun u s1 ⟨x,H1,I1,r1,q1⟩=>?_)
 exact thn (hr pos pins s1 σ H1 _ I1 q1) fun us s2 ⟨xs,H2,I2,r2,q2⟩=>⟨x :: xs,H2,I2,.cons r1 r2,q2⟩
noncomputable def tTup (t:TA):TE:=fun σ H Q=>t σ H fun xs H1=>xs.length<=sizeLine/\∀ p,H1 p = none->Q (.ref p) (upd H1 p (.tup xs))
noncomputable def tLst (t:TA):TE:=fun σ H Q=>t σ H fun xs H1=>xs.length<=sizeLine/\∀ p,H1 p = none->Q (.ref p) (upd H1 p (.lst xs))
theorem a1c {x1} (h:PA X es t):PE X (.Tuple es x1 pos) (tTup t):=by
 intro pins s σ H Q I hq
 refine wpAny_Tuple_spliced (thn (h pos pins s σ H _ I hq) fun us s1 ⟨xs,H1,I1,r,z,q⟩=>⟨by rw [<- r.length]; exact z,?_⟩)
 have hf:H1 s1.heap.objs.size = none:=I1.hok.fresh (Nat.le_refl _)
 refine ⟨.ref s1.heap.objs.size,upd H1 s1.heap.objs.size (.tup xs),I1.laid (t':=s1.toks) (fun b u e=>Heap.get?_push_of_some _ e) (Nat.le_refl _) ?_,rfl,q _ hf⟩
 exact ⟨z,us,r,⟨_,Heap.get?_push_size _ rfl,rfl,_,rfl⟩⟩
theorem a2b (h:PA X es t):PE X (.List es pos) (tLst t):=by
 intro pins s σ H Q I hq
 refine wpAny_List_spliced (thn (h pos pins s σ H _ I hq) fun us s1 ⟨xs,H1,I1,r,z,q⟩=>⟨by rw [<- r.length]; exact z,?_⟩)
 have hf:H1 s1.heap.objs.size = none:=I1.hok.fresh (Nat.le_refl _)
 refine ⟨.ref s1.heap.objs.size,upd H1 s1.heap.objs.size (.lst xs),I1.laid (t':=s1.toks) (fun b u e=>Heap.get?_push_of_some _ e) (Nat.le_refl _) ?_,rfl,q _ hf⟩
 exact ⟨z,us,0,r,Heap.get?_push_size _ rfl⟩
end
noncomputable abbrev Sp:=List V->Hp->VK->XK->Prop
noncomputable abbrev CXT:=List Env->Hp->Shared->XK->Value->Shared->Prop
structure Env0 (P:Program) (w:World) (K:W.Frag) (mg:Str->Option Value) (base:Heap) (A:Around) (outer:List Env) (s:Shared) (H:Hp):Prop where
 frames:A.frames = some outer
 mod:Mod K mg base
 bs:∀ b o,base.get? b = some o->s.heap.get? b = some o/\H b = none
 bsz:base.objs.size<=s.heap.objs.size
 funs:s.heap.FunFrames base outer
 frf:∀ b ∈ frs outer,H b = none
 hok:HOk P w H s.heap
 bare:AllBare s.gens
noncomputable def CE (outer:List Env) (P:Program) (w:World) (H:Hp) (s:Shared) (Q:VK) (u:Value) (s':Shared):Prop:=
 ∃ v H',s'.os = s.os/\AllBare s'.gens/\Un (frs outer) [] H H' s.heap s'.heap/\HOk P w H' s'.heap/\RelV v u/\Q v H'
noncomputable def CR (CX:CXT) (outer:List Env) (P:Program) (w:World) (H:Hp) (s:Shared) (Q:VK) (E:XK) (r:Result) (s':Shared):Prop:=
 match r with
 | .ok (.ret u)=>CE outer P w H s Q u s'
 | .ok _=>False
 | .error e=>CX outer H s E e s'
structure FnOk (P:Program) (w:World) (K:W.Frag) (mg:Str->Option Value) (base:Heap) (CX:CXT) (k:Nat) (f:Addr) (fd:FuncData) (ps:List Str) (sp:Sp):Prop where
 len:∀ vs H Q E,sp vs H Q E->vs.length = ps.length
 run:∀ (A:Around) (outer:List Env) (s:Shared) (H:Hp) (args:Args) (us:List Value) (vs:List V) (Q:VK) (E:XK),Room k A->Env0 P w K mg base A outer s H->BindsTo s fd args (ps.zip us)->Vals vs us->sp vs H Q E ->
  codeAny (model P w) A (.call (.ref f) args) (CR CX outer P w H s Q E) s
theorem FnOk.mono {P:Program} {w:World} {K:W.Frag} {mg:Str->Option Value} {base:Heap} {CX:CXT} {j k:Nat} {f:Addr} {fd:FuncData} {ps:List Str} {sp:Sp} (F:FnOk P w K mg base CX j f fd ps sp) (h:j<=k) :
  FnOk P w K mg base CX k f fd ps sp:=⟨F.len,fun A outer s H args us vs Q E hr=>F.run A outer s H args us vs Q E (hr.mono h)⟩
theorem FnOk.imp {P:Program} {w:World} {K:W.Frag} {mg:Str->Option Value} {base:Heap} {CX:CXT} {k:Nat} {f:Addr} {fd:FuncData} {ps:List Str} {sp sp':Sp} (F:FnOk P w K mg base CX k f fd ps sp)
  (h:∀ vs H Q E,sp' vs H Q E->sp vs H Q E):FnOk P w K mg base CX k f fd ps sp':=
 ⟨fun vs H Q E q=>F.len vs H Q E (h _ _ _ _ q),fun A outer s H args us vs Q E hr he hb hv hs=>F.run A outer s H args us vs Q E hr he hb hv (h _ _ _ _ hs)⟩
theorem Env0.make {P:Program} {w:World} {K:W.Frag} {mg:Str->Option Value} {base:Heap} {A:Around} {outer:List Env} {s:Shared} {H:Hp} (e:Env0 P w K mg base A outer s H) (C:Addr) (us:List Value) (kw:List (Str × Value)) :
  Env0 P w K mg base (A.under (.builtin "type.__call__" ⟨.ref C :: us,kw⟩)) outer s H:=⟨by first | exact e.frames | (simpa [Around.under,Code.envs,Code.isFrame,pushEnvs] using e.frames),e.mod,e.bs,e.bsz,e.funs,e.frf,e.hok,e.bare⟩
theorem Env0.in1 {P:Program} {w:World} {K:W.Frag} {mg:Str->Option Value} {base:Heap} {A:Around} {outer:List Env} {s:Shared} {H:Hp} (e:Env0 P w K mg base A outer s H) :
  Env0 P w K mg base A.in1 outer s H:=⟨e.frames,e.mod,e.bs,e.bsz,e.funs,e.frf,e.hok,e.bare⟩
section
variable {X:Cx} {pins:List (Addr × Obj)} {σ:St} {H:Hp} {s s':Shared}
theorem Inv.env0 (I:Inv X pins σ H s):Env0 X.prog X.w X.K X.mg X.base X.A X.stack s H:=
 ⟨I.ok.frames,I.ok.mod,I.bs,Nat.le_trans I.ok.bsz I.sz,I.stack,I.stkFree,I.hok,I.bare⟩
theorem Inv.after {Q:VK} {u:Value} (I:Inv X pins σ H s) (h:CE X.stack X.prog X.w H s Q u s'):EP X pins σ Q u s':=by
 obtain ⟨v,H',os,bare,un,hok,r,q⟩:=h
 obtain ⟨hh,g,d,t,os'⟩:=s'
 obtain rfl:os' = s.os:=os
 exact ⟨v,H',I.call (h':=hh) (g':=g) (d':=d) (t':=t) (ch:=[]) un hok bare (fun b z=>absurd z (by simp)),r,q⟩
end
noncomputable def tCall (sp:Sp) (dvs:List V) (E:XK) (t:TA):TE:=fun σ H Q=>t σ H fun vs H1=>sp (vs ++ dvs) H1 Q E
noncomputable def tMeth (C:Addr) (m:Str) (sp:Sp) (dvs:List V) (E:XK) (ta:TE) (t:TA):TE:=fun σ H Q=>ta σ H fun x H1=>∃ a dx fs,x = .ref a/\H1 a = some (.ins C dx fs)/\fs.lookup m = none /\
 t σ H1 fun vs H2=>sp (x :: (vs ++ dvs)) H2 Q E
noncomputable def tMake (C:Addr) (sp:Sp) (dvs:List V) (E:XK) (t:TA):TE:=fun σ H Q=>t σ H fun vs H1=>∀ x dx,H1 x = none->H1 dx = none->dx ≠ x ->
 sp (.ref x :: (vs ++ dvs)) (upd (upd H1 dx (.own x)) x (.ins C dx [])) (fun v H2=>v = .non/\Q (.ref x) H2) E
noncomputable def Binds (K:W.Frag) (fd:FuncData) (ps:List Str) (ds:List Value):Prop:=
 ∀ (s:Shared) (us:List Value),K.In s.heap->(us ++ ds).length = ps.length->BindsTo s fd ⟨us,[]⟩ (ps.zip (us ++ ds))
theorem Binds.all {K:W.Frag} {fd:FuncData} {ps:List Str} (h:∀ us:List Value,us.length = ps.length->bindArgs fd ⟨us,[]⟩ = pure (ps.zip us)):Binds K fd ps []:=fun s us _ hl=>by
 rw [List.append_nil] at hl ⊢
 exact .of_eq (h us hl)
noncomputable def a8k (CX:CXT) (X:Cx) (E:XK):Prop:=∀ (pins:List (Addr × Obj)) (σ:St) (H:Hp) (s:Shared) (e:Value) (s':Shared),Inv X pins σ H s->CX X.stack H s E e s'->X.xe e s'
section
variable {X:Cx} {CX:CXT} {k:Nat} {f C:Addr} {fd:FuncData} {ps:List Str} {sp:Sp} {dvs:List V} {ds:List Value} {E:XK} {x m:Str} {p pos apos:Pos} {e o:Expr} {es:List Expr} {ta:TE} {t:TA}
theorem b6i {pins:List (Addr × Obj)} {σ:St} {H:Hp} {s:Shared} {Q:VK} {us:List Value} {vs:List V} (F:FnOk X.prog X.w X.K X.mg X.base CX k f fd ps sp) (hr:Room k X.A) (hb:Binds X.K fd ps ds) (hd:Vals dvs ds) (hx:a8k CX X E)
  (I:Inv X pins σ H s) (r:Vals vs us) (h:sp (vs ++ dvs) H Q E):wpAny (model X.prog X.w) X.A (call (.ref f) us) (EP X pins σ Q) X.xe s:=by
 have r2:Vals (vs ++ dvs) (us ++ ds):=r.append hd
 have hl:(us ++ ds).length = ps.length:=by rw [<- r2.length]; exact F.len _ _ _ _ h
 refine wpAny_call (codeAny_mono (F.run X.A X.stack s H ⟨us,[]⟩ (us ++ ds) (vs ++ dvs) Q E hr I.env0 (hb s us I.kIn hl) r2 h) fun r s' hq=>?_)
 cases r with
 | error e=>exact hx pins σ H s e s' I hq
 | ok fl=>
  cases fl with
  | ret u=>exact I.after hq
  | next=>exact False.elim hq
  | brk=>exact False.elim hq
  | cont=>exact False.elim hq
theorem a0z (F:FnOk X.prog X.w X.K X.mg X.base CX k f fd ps sp) (hr:Room k X.A) (hg:Gl X x) (hm:X.mg x = some (.ref f)) (hk:W.keepIn X.K (.ref f) = true) (hb:Binds X.K fd ps ds) (hd:Vals dvs ds) (hx:a8k CX X E)
  (ha:PA X (e :: es) t) (hdb:(x == ("__debug__" : Str)) = false:=by decide) (he:starEach (e :: es) X.env = (false,eval e X.env) :: starEach es X.env:=by rfl) (hpl:(backTo pos (starEach es X.env)).any (·.1) = false:=by rfl) :
  PE X (.Call (.Name x p) (e :: es) [] pos) (tCall sp dvs E t):=by
 intro pins s σ H Q I h
 refine wpAny_Call_Name_kw (b4c I hg hm ?_ hdb)
 refine W.callWith_K (h₀:=X.base) I.ok.mod.kin hk (thn (ha pos pins s σ H _ I h) fun us s1 ⟨vs,H1,I1,r,q⟩=>⟨I1.kIn,?_⟩) he hpl
 exact b6i F hr hb hd hx I1 r q
theorem a1j {pl:Sem Bool} (he:PE X o ta) (c:Cls X.K C) (hm:Meth X.K C m f) (F:FnOk X.prog X.w X.K X.mg X.base CX k f fd ps sp) (hr:Room k X.A) (hb:Binds X.K fd ps ds) (hd:Vals dvs ds) (hx:a8k CX X E) (ha:PA X (e :: es) t)
  (hst:starEach (e :: es) X.env = (false,eval e X.env) :: starEach es X.env:=by rfl) (hpl:(backTo pos (starEach es X.env)).any (·.1) = false:=by rfl)
  (ht:eval (.Call (.Attribute o m apos) (e :: es) [] pos) X.env = (do
   let ov <- eval o X.env
   standAt apos.atName
   let (f,first) <- holding [ov] (getMethod ov m pl)
   callWith pos f first (backTo pos (starEach (e :: es) X.env)) (backToKw pos (keywordEach [] X.env))):=by rfl) :
  PE X (.Call (.Attribute o m apos) (e :: es) [] pos) (tMeth C m sp dvs E ta t):=by
 intro pins s σ H Q I h
 refine W.methodCall_KW (pl:=pl) (thn (he pins s σ H _ I h) fun u s1 ⟨x,H1,I1,rx,a,dx,fs,ex,ea,l,q⟩=>?_) ht
 subst ex
 obtain rfl:u = Value.ref a:=rx
 refine b3e I1 ea c hm l ?_
 refine W.callWith_K (first:=[.ref a]) (h₀:=X.base) I.ok.mod.kin hm.kp (thn (ha pos pins s1 σ H1 _ I1 q) fun us s2 ⟨vs,H2,I2,r,q2⟩=>⟨I2.kIn,?_⟩) hst hpl
 exact b6i (us:=.ref a :: us) (vs:=.ref a :: vs) F hr hb hd hx I2 (.cons rfl r) q2
theorem b6j {pl:Sem Bool} (he:PE X o ta) (c:Cls X.K C) (hm:Meth X.K C m f) (F:FnOk X.prog X.w X.K X.mg X.base CX k f fd ps sp) (hr:Room k X.A) (hb:Binds X.K fd ps ds) (hd:Vals dvs ds) (hx:a8k CX X E)
  (ht:eval (.Call (.Attribute o m apos) [] [] pos) X.env = (do
   let ov <- eval o X.env
   standAt apos.atName
   let (f,first) <- holding [ov] (getMethod ov m pl)
   callWith pos f first (backTo pos (starEach [] X.env)) (backToKw pos (keywordEach [] X.env))):=by rfl) :
  PE X (.Call (.Attribute o m apos) [] [] pos) (tMeth C m sp dvs E ta tNil):=by
 intro pins s σ H Q I h
 refine W.methodCall_KW (pl:=pl) (thn (he pins s σ H _ I h) fun u s1 ⟨x,H1,I1,rx,a,dx,fs,ex,ea,l,q⟩=>?_) ht
 subst ex
 obtain rfl:u = Value.ref a:=rx
 refine b3e I1 ea c hm l ?_
 exact W.callWith_K0 (first:=[.ref a]) I1.kIn hm.kp (b6i (us:=[.ref a]) (vs:=[.ref a]) F hr hb hd hx I1 (.cons rfl .nil) q)
structure Mk (K:W.Frag) (C f:Addr):Prop where
 makes:W.makesIn K C = true
 init:W.findIn K (.ref C) "__init__" = some (some (.ref f))
 fn:W.isFn K (.ref f) = true
 kp:W.keepIn K (.ref C) = true
theorem c5q {pins:List (Addr × Obj)} {σ:St} {H:Hp} {s:Shared} {Q:VK} {us:List Value} {vs:List V} (M:Mk X.K C f) (F:FnOk X.prog X.w X.K X.mg X.base CX k f fd ps sp) (hr:Room (k + 1) X.A) (hb:Binds X.K fd ps ds) (hd:Vals dvs ds)
  (hx:a8k CX X E) (I:Inv X pins σ H s) (r:Vals vs us)
  (h:∀ x dx,H x = none->H dx = none->dx ≠ x->sp (.ref x :: (vs ++ dvs)) (upd (upd H dx (.own x)) x (.ins C dx [])) (fun v H2=>v = .non/\Q (.ref x) H2) E) :
  wpAny (model X.prog X.w) X.A (call (.ref C) us) (EP X pins σ Q) X.xe s:=by
 have hq:=h (s.heap.objs.size + 1) s.heap.objs.size (I.hok.fresh (Nat.le_succ _)) (I.hok.fresh (Nat.le_refl _)) (Nat.ne_of_lt (Nat.lt_succ_self _))
 have I2:=Inv.made (C:=C) I
 have r2:Vals (V.ref (s.heap.objs.size + 1) :: (vs ++ dvs)) (Value.ref (s.heap.objs.size + 1) :: (us ++ ds)):=.cons rfl (r.append hd)
 have hl:(Value.ref (s.heap.objs.size + 1) :: us ++ ds).length = ps.length:=by
  have e:=r2.length
  rw [F.len _ _ _ _ hq] at e
  exact e.symm
 refine wpAny_call (c5p (f:=f) I.kIn M.makes M.init (beq_iff_eq.mp M.fn) (codeAny_mono (F.run _ X.stack _ _ ⟨Value.ref (s.heap.objs.size + 1) :: us,[]⟩ (Value.ref (s.heap.objs.size + 1) :: (us ++ ds)) _ _ E (hr.make C us [])
  (I2.env0.make C us []) (hb _ (Value.ref (s.heap.objs.size + 1) :: us) I2.kIn hl) r2 hq) fun r s' hq'=>?_))
 cases r with
 | error e=>exact hx pins σ _ _ e s' I2 hq'
 | ok fl=>
  cases fl with
  | ret u=>
   obtain ⟨v,H',I3,rv,ev,q3⟩:=I2.after hq'
   subst ev
   exact ⟨rv,⟨V.ref (s.heap.objs.size + 1),H',I3,rfl,q3⟩⟩
  | next=>exact False.elim hq'
  | brk=>exact False.elim hq'
  | cont=>exact False.elim hq'
theorem c5r (M:Mk X.K C f) (F:FnOk X.prog X.w X.K X.mg X.base CX k f fd ps sp) (hr:Room (k + 1) X.A) (hg:Gl X x) (hm:X.mg x = some (.ref C)) (hb:Binds X.K fd ps ds) (hd:Vals dvs ds) (hx:a8k CX X E)
  (hdb:(x == ("__debug__" : Str)) = false:=by decide):PE X (.Call (.Name x p) [] [] pos) (tMake C sp dvs E tNil):=by
 intro pins s σ H Q I h
 refine wpAny_Call_Name_kw (b4c I hg hm ?_ hdb)
 exact W.callWith_K0 I.kIn M.kp (c5q (us:=[]) M F hr hb hd hx I .nil h)
end
section
variable {X:Cx} {CX:CXT} {k:Nat} {f C:Addr} {fd:FuncData} {ps ks:List Str} {sp:Sp} {E:XK} {x m:Str} {p pos apos kpos:Pos} {e o:Expr} {es:List Expr} {kws:List Keyword} {te ta:TE} {t tk:TA} {nm:Option Str}
variable {g:List Value->List Value->List Value} {gV:List V->List V->List V}
end
structure a0x (N P:List Str) (sc:Scope):Prop where
 kind:sc.kind = .function
 co:sc.isCoroutine = false
 gen:sc.isGenerator = false
 nd:N.Nodup
 pre:N.take P.length = P
 par:∀ x ∈ P,sc.names.lookup x = some .local\/sc.names.lookup x = some .cell
 nofree:∀ y ∈ sc.names,y.2 ≠ .free
theorem b4y {kindOf:Str->Option NameKind} {x:Str}:∀ {binds:List (Str × Value)} {m:Str->Option Value},(∀ v,(x,v) ∉ binds)->bindL kindOf binds m x = m x
 | [],_,_=>rfl
 | (n,v) :: r,m,h=>by
  unfold bindL
  rw [b4y fun w hw=>h w (List.mem_cons_of_mem _ hw)]
  split
  ·have:x ≠ n:=by rintro rfl; exact h v List.mem_cons_self
   simp [this]
  ·rfl
theorem b4z {kindOf:Str->Option NameKind} {x:Str}:∀ {binds:List (Str × Value)} {m:Str->Option Value},(∀ v,(x,v) ∉ binds)->bindC kindOf binds m x = m x
 | [],_,_=>rfl
 | (n,v) :: r,m,h=>by
  unfold bindC
  rw [b4z fun w hw=>h w (List.mem_cons_of_mem _ hw)]
  split
  ·rfl
  ·have:x ≠ n:=by rintro rfl; exact h v List.mem_cons_self
   simp [this]
theorem b5a {kindOf:Str->Option NameKind} {x:Str} {v:Value}:∀ {P:List Str} {vs:List Value} {i:Nat} {m:Str->Option Value},P.Nodup->P[i]? = some x->vs[i]? = some v->kindOf x = some .local ->
  bindL kindOf (P.zip vs) m x = some v
 | [],_,_,_,_,h,_,_=>by simp at h
 | _ :: _,[],_,_,_,_,h,_=>by simp at h
 | p :: P,w :: vs,0,m,nd,h1,h2,hk=>by
  simp at h1 h2; subst h1; subst h2
  show bindL kindOf ((p,w) :: P.zip vs) m p = _
  unfold bindL
  rw [b4y fun v hv=>(List.nodup_cons.mp nd).1 (List.of_mem_zip hv).1,if_pos hk]
  simp
 | p :: P,w :: vs,i + 1,m,nd,h1,h2,hk=>by
  show bindL kindOf ((p,w) :: P.zip vs) m x = _
  unfold bindL
  exact b5a (i:=i) (List.nodup_cons.mp nd).2 (by simpa using h1) (by simpa using h2) hk
theorem b5b {kindOf:Str->Option NameKind} {x:Str} {v:Value}:∀ {P:List Str} {vs:List Value} {i:Nat} {m:Str->Option Value},P.Nodup->P[i]? = some x->vs[i]? = some v->kindOf x ≠ some .local ->
  bindC kindOf (P.zip vs) m x = some v
 | [],_,_,_,_,h,_,_=>by simp at h
 | _ :: _,[],_,_,_,_,h,_=>by simp at h
 | p :: P,w :: vs,0,m,nd,h1,h2,hk=>by
  simp at h1 h2; subst h1; subst h2
  show bindC kindOf ((p,w) :: P.zip vs) m p = _
  unfold bindC
  rw [b4z fun v hv=>(List.nodup_cons.mp nd).1 (List.of_mem_zip hv).1,if_neg hk]
  simp
 | p :: P,w :: vs,i + 1,m,nd,h1,h2,hk=>by
  show bindC kindOf ((p,w) :: P.zip vs) m x = _
  unfold bindC
  exact b5b (i:=i) (List.nodup_cons.mp nd).2 (by simpa using h1) (by simpa using h2) hk
noncomputable def start (N:List Str) (vs:List V):St:=vs.map some ++ List.replicate (N.length - vs.length) none
noncomputable def cxOf (CX:CXT) (P:Program) (w:World) (K:W.Frag) (mg:Str->Option Value) (base:Heap) (N:List Str) (qual:Str) (scope:Scope) (f:Addr) (cd:Value) (A:Around) (outer:List Env) (s:Shared) (H:Hp) (E:XK):Cx where
 prog:=P
 w:=w
 K:=K
 mg:=mg
 base:=base
 A:=A.deeper (envOfC qual scope s.heap.objs.size f cd)
 N:=N
 s₀:=s
 H₀:=H
 env:=envOfC qual scope s.heap.objs.size f cd
 outer:=outer
 stack:=envOfC qual scope s.heap.objs.size f cd :: outer
 ex:=[]
 calm:=true
 fn:=fun _=>true
 pn:=[]
 xe:=fun e s'=>wpAny (model P w) (A.deeper (envOfC qual scope s.heap.objs.size f cd)) (leaving (envOfC qual scope s.heap.objs.size f cd) e) (fun _ s''=>CX outer H s E e s'') (fun e' s''=>CX outer H s E e' s'') s'
theorem b6k {sc:Scope} {n:Nat} {x:Str} (h:sc.names.lookup x = some .cell):∃ c,(cellsFrom n sc.names []).lookup x = some c:=by
 have q:=W.cellsFrom_some sc.names n [] (.inl h)
 exact Option.isSome_iff_exists.mp q
theorem c2w {CX:CXT} {P:Program} {w:World} {K:W.Frag} {mg:Str->Option Value} {base:Heap} {N ps:List Str} {qual:Str} {scope:Scope} {f:Addr} {cd:Value} {A:Around} {outer:List Env} {s s1:Shared} {H:Hp} {E:XK} {us:List Value} {vs:List V}
  (S:a0x N ps scope) (hd:A.handled = none) (e0:Env0 P w K mg base A outer s H) (hl:vs.length = ps.length) (r:Vals vs us)
  (x:InCallC s s.heap.objs.size (bindL (envOfC qual scope s.heap.objs.size f cd).kindOf (ps.zip us) fun _=>none) (cellsFrom (s.heap.objs.size + 1) scope.names []) (bindC (envOfC qual scope s.heap.objs.size f cd).kindOf (ps.zip us) fun _=>none) s1) :
  Inv (cxOf CX P w K mg base N qual scope f cd A outer s H E) [] (start N vs) H s1:=by
 have hpl:ps.length<=N.length:=by have:=congrArg List.length S.pre; rw [List.length_take] at this; omega
 obtain ⟨h1,tk,rfl,hk⟩:=x.done
 have noA:∀ b:Addr,b ∉ (cxOf CX P w K mg base N qual scope f cd A outer s H E).ex:=fun b z=>absurd (show b ∈ ([]:List Addr) from z) (by simp)
 refine ⟨⟨e0.mod,S.kind,rfl,rfl,Nat.le_refl _,fun y z c h1 h2=>?_,fun y hy=>?_,fun y c _ h=>?_,fun _=>hd,Around.frames_deeper e0.frames,.inr ⟨rfl,rfl⟩,fun b z=>absurd z (noA b),e0.bs,e0.bsz,fun b _ _=>noA b,fun b z=>absurd z (noA b),e0.funs,e0.frf⟩,
  rfl,e0.bare,Un.kept hk,⟨_,x.toInCall.ns,fun i y v h1 h2 h3=>?_⟩,fun y c h=>⟨_,x.cell y c h⟩,e0.hok.fresh (Nat.le_refl _),fun y c h=>?_,fun p hp=>absurd (show p ∈ ([]:List (Addr × Obj)) from hp) (by simp),e0.hok.kept hk,?_⟩
 ·exact name_of_addr x.apart (PySem.mem_of_lookup h1) (PySem.mem_of_lookup h2)
 ·have hy:scope.names.lookup y = some .cell\/scope.names.lookup y = some .free:=hy
  rcases hy with hy | hy
  ·exact b6k hy
  ·exact absurd rfl (S.nofree _ (PySem.mem_of_lookup hy))
 ·exact Nat.le_of_lt (x.above y c (PySem.mem_of_lookup h))
 ·have hi:i < vs.length:=by
   unfold start at h2
   by_cases hi:i < vs.length
   ·exact hi
   ·rw [List.getElem?_append_right (by simpa using hi)] at h2
    rw [List.getElem?_replicate] at h2
    split at h2 <;> cases h2
  have ha:vs[i]? = some v:=by
   unfold start at h2
   rw [List.getElem?_append_left (by simpa using hi),List.getElem?_map] at h2
   cases e:vs[i]? with
   | none=>rw [e] at h2; cases h2
   | some a=>rw [e] at h2; cases h2; rfl
  obtain ⟨u,hu,rv⟩:=r.get ha
  have hp:ps[i]? = some y:=by
   rw [<- S.pre,List.getElem?_take_of_lt (by omega)]; exact h1
  have ndP:ps.Nodup:=by rw [<- S.pre]; exact S.nd.sublist (List.take_sublist _ _)
  refine ⟨u,rv,?_⟩
  rcases S.par y (List.mem_of_getElem? hp) with k | k
  ·exact .inl ⟨k,b5a ndP hp hu k⟩
  ·obtain ⟨c,e⟩:=b6k (n:=s.heap.objs.size + 1) k
   refine .inr ⟨.inl k,c,e,?_⟩
   have q:=x.cell y c e
   rw [b5b ndP hp hu (by show scope.names.lookup y ≠ _; rw [k]; decide)] at q
   exact q
 ·exact e0.hok.fresh (Nat.le_of_lt (x.above y c (PySem.mem_of_lookup h)))
 ·unfold start
  show _ = N.length
  rw [List.length_append,List.length_map,List.length_replicate]
  omega
theorem fn_of {CX:CXT} {P:Program} {w:World} {K:W.Frag} {mg:Str->Option Value} {base:Heap} {k:Nat} {f:Addr} {name qual:Str} {params:Arguments} {body:List Stmt} {scope:Scope} {dV kV doc pm cdv ct oc:Value} {an od:Option Addr}
  {osl:Array (Option Value)} {N ps:List Str} {sp:Sp} (lk:K.lookup f = some ⟨oc,od,.func (W.fnOf name qual params body scope dV kV doc pm an cdv ct),osl⟩) (hcd:W.codeIn K cdv qual = true) (S:a0x N ps scope)
  (len:∀ vs H Q E,sp vs H Q E->vs.length = ps.length)
  (hbody:∀ (A:Around) (outer:List Env) (s:Shared) (H:Hp) (vs:List V) (Q:VK) (E:XK),Room k (A.deeper (envOfC qual scope s.heap.objs.size f cdv))->sp vs H Q E ->
   ∃ t,PSs (cxOf CX P w K mg base N qual scope f cdv A outer s H E) body t/\t { nx:=fun _ H'=>Q .non H',rt:=Q } (start N vs) H) :
  FnOk P w K mg base CX (k + 1) f (W.fnOf name qual params body scope dV kV doc pm an cdv ct) ps sp:=by
 refine ⟨len,fun A outer s H args us vs Q E hr e0 hb r hsp=>?_⟩
 have hl:=len _ _ _ _ hsp
 have KX:K.In s.heap:=e0.mod.kin.keeps fun b o e=>(e0.bs b o e).1
 have lim:s.heap.NoLimit:=e0.mod.nolimit.keeps fun b o e=>(e0.bs b o e).1
 have hkind:∀ y ∈ ps.zip us,scope.names.lookup y.1 = some .local\/(scope.names.lookup y.1 = some .cell/\((cellsFrom (s.heap.objs.size + 1) scope.names []).lookup y.1).isSome = true):=fun ⟨n,v⟩ hy=>by
  rcases S.par n (List.of_mem_zip hy).1 with q | q
  ·exact .inl q
  ·exact .inr ⟨q,W.cellsFrom_some _ _ _ (.inl q)⟩
 refine codeAny_call_function hr.depth (KX _ _ lk) rfl S.co S.gen rfl (W.codeRec_of KX hcd) (hb _ _ _ _ ?_)
 refine wpAny_newFunctionEnv_cells S.kind hkind fun env he s1 x=>?_
 subst he
 refine ⟨lim.keeps x.toInCall.keep,codeAny_func ?_⟩
 obtain ⟨t,ht,hq⟩:=hbody A outer s H vs Q E (hr.deeper _) hsp
 have I:Inv (cxOf CX P w K mg base N qual scope f cdv A outer s H E) [] (start N vs) H s1:=c2w S hr.hd e0 hl r x
 refine wpAny_mono (ht [] s1 (start N vs) H _ I hq) (fun fl s' hs=>?_) fun e s' hs=>hs
 have fin:∀ {σ':St} {H':Hp} {v:V} {u:Value},Inv (cxOf CX P w K mg base N qual scope f cdv A outer s H E) [] σ' H' s'->RelV v u->Q v H'->CE outer P w H s Q u s':=
  fun {σ' H' v u} J rv q=>⟨v,H',J.os,J.bare,J.base,J.hok,rv,q⟩
 cases fl with
 | ret u=>
  obtain ⟨v,σ',H',J,rv,q⟩:=hs
  exact fin J rv q
 | next=>
  obtain ⟨σ',H',J,q⟩:=hs
  exact fin (v:=V.non) (u:=Value.none) J rfl q
 | brk=>
  obtain ⟨_,_,_,q⟩:=hs
  exact False.elim q
 | cont=>
  obtain ⟨_,_,_,q⟩:=hs
  exact False.elim q
section
variable {X:Cx} {x:Str} {p pos:Pos} {e:Expr} {es:List Expr} {t:TA} {id T:String} {r:List V->Hp->VK->Prop}
noncomputable def tCB (r:List V->Hp->VK->Prop) (t:TA):TE:=fun σ H Q=>t σ H fun vs H1=>r vs H1 Q
theorem a1i (hc:a1z X (.builtin id) r) (hg:Gl X x) (hm:X.mg x = none) (hv:bootBuiltins x = some (.builtin id)) (ha:PA X (e :: es) t) (hn:x ≠ "__name__":=by decide) (hdb:(x == ("__debug__" : Str)) = false:=by decide)
  (he:starEach (e :: es) X.env = (false,eval e X.env) :: starEach es X.env:=by rfl) (hpl:(backTo pos (starEach es X.env)).any (·.1) = false:=by rfl):PE X (.Call (.Name x p) (e :: es) [] pos) (tCB r t):=by
 intro pins s σ H Q I h
 refine wpAny_Call_Name_kw (a7m I hg hm hv ?_ hn hdb)
 exact PyProof.Rows.callWith_builtin1 (thn (ha pos pins s σ H _ I h) fun us s1 ⟨vs,H1,I1,r1,q1⟩=>hc pins s1 σ H1 vs us Q I1 r1 q1) he hpl
theorem a2h (hc:a1z X (.type T) r) (hg:Gl X x) (hm:X.mg x = none) (hv:bootBuiltins x = some (.type T)) (ha:PA X (e :: es) t) (hn:x ≠ "__name__":=by decide) (hdb:(x == ("__debug__" : Str)) = false:=by decide)
  (he:starEach (e :: es) X.env = (false,eval e X.env) :: starEach es X.env:=by rfl) (hpl:(backTo pos (starEach es X.env)).any (·.1) = false:=by rfl):PE X (.Call (.Name x p) (e :: es) [] pos) (tCB r t):=by
 intro pins s σ H Q I h
 refine wpAny_Call_Name_kw (a7m I hg hm hv ?_ hn hdb)
 exact PyProof.Rows.callWith_type1 (thn (ha pos pins s σ H _ I h) fun us s1 ⟨vs,H1,I1,r1,q1⟩=>hc pins s1 σ H1 vs us Q I1 r1 q1) he hpl
end
end L2
namespace HT
open PySem PyProof.Rows
section
open PySem.SeqAt
open PySem.AutoSeq1 (wpAny_loadPart')
open PySem.MeetsSeq PySem.MeetsSeq2 PySem.MeetsSeq3
end
section
variable {prog:Program} {w:World} {A:Around} {E:Value->Shared->Prop} {s:Shared}
theorem cat_tup {t b:Addr} {vs ws:List Value} {Q:Value->Shared->Prop} (ht:IsTup s.heap t vs.toArray) (hb:IsTup s.heap b ws.toArray) (hv:vs ≠ [])
  (h1:ws = []->Q (.ref t) s) (h2:ws ≠ []->Q (.ref s.heap.objs.size) { s with heap:=s.heap.push { cls:=.type "tuple",data:=.seq (vs ++ ws).toArray } })
  (hsz:vs.length + ws.length<=sizeLine):wpAny (model prog w) A (binaryOp .Add (.ref t) (.ref b)) Q E s:=by
 obtain ⟨⟨cls,dd,data,sl⟩,ho,hc,n,hd⟩:=id ht
 obtain ⟨⟨cls2,dd2,data2,sl2⟩,ho2,hc2,n2,hd2⟩:=id hb
 simp only at hc hd hc2 hd2
 subst hc hd hc2 hd2
 have e:vs.toArray ++ ws.toArray = (vs ++ ws).toArray:=by simp
 by_cases hw:ws = []
 ·exact concat_meets ⟨_,ho,rfl⟩ ⟨_,ho2,rfl⟩ noFill_tuple_add seq_tuple_add F.slot_tuple_add F.entry_tuple_add (F.args_tuple_add_2 _ _)
   (tuple_addW1 t b vs.toArray ws.toArray n n2 dd dd2 sl sl2 (by simpa using hv) (by simp [hw])) ⟨ho,ho2,h1 hw⟩
 ·refine concat_meets ⟨_,ho,rfl⟩ ⟨_,ho2,rfl⟩ noFill_tuple_add seq_tuple_add F.slot_tuple_add F.entry_tuple_add (F.args_tuple_add_2 _ _)
   (tuple_addW2 t b vs.toArray ws.toArray n n2 dd dd2 sl sl2 (by simpa using hv) (by simpa using hw) (by rw [List.size_toArray,List.size_toArray]; exact hsz)) ⟨ho,ho2,?_⟩
  rw [e]
  exact h2 hw
noncomputable def sIx (n d:Nat):Option Int->Nat
 | none=>d
 | some v=>if v < 0 then (v + (n:Int)).toNat else min v.toNat n
theorem sIx_nat (n d k:Nat):sIx n d (some (k:Int)) = min k n:=by
 show (if (k:Int) < 0 then ((k:Int) + (n:Int)).toNat else min (k:Int).toNat n) = min k n
 rw [if_neg (by omega),Int.toNat_natCast]
theorem sIx_le (n d:Nat) (hd:d<=n) (o:Option Int):sIx n d o<=n:=by
 cases o with
 | none=>exact hd
 | some v=>
  show (if v < 0 then (v + (n:Int)).toNat else min v.toNat n)<=n
  by_cases hv:v < 0
  ·rw [if_pos hv]; omega
  ·rw [if_neg hv]; exact Nat.min_le_right _ _
theorem b9t (v:Int) (n d:Nat):(if v < 0 then max (v + (n:Int)) 0 else min v (n:Int)) = ((sIx n d (some v):Nat):Int):=by
 show (if v < 0 then max (v + (n:Int)) 0 else min v (n:Int)) = (((if v < 0 then (v + (n:Int)).toNat else min v.toNat n):Nat):Int)
 by_cases hv:v < 0
 ·simp only [if_pos hv]; omega
 ·simp only [if_neg hv]; omega
theorem c1c (lo hi:Option Int) (n:Nat):Builtin.Slice.sliceAdjust lo hi 1 (n:Int) = (((sIx n 0 lo:Nat):Int),((sIx n n hi:Nat):Int)):=by
 have h1:¬ ((1:Int) < 0):=by omega
 unfold Builtin.Slice.sliceAdjust
 simp only [h1,if_false]
 refine Prod.ext ?_ ?_
 ·cases lo with
  | none=>rfl
  | some v=>exact b9t v n 0
 ·cases hi with
  | none=>rfl
  | some v=>exact b9t v n n
theorem c1d (i j:Nat):Builtin.Slice.slicePlaces (i:Int) (j:Int) 1 = j - i:=by
 unfold Builtin.Slice.slicePlaces
 have h1:(1:Int) > 0:=by omega
 simp only [h1,if_true,Int.ediv_one]
 split <;> omega
theorem b3f {v:Value} {o:Option Int} {Q:Option Int->Shared->Prop} (p:IsPart v o) (h:Q o s):wpAny (model prog w) A (Builtin.Slice.slicePartIndex v) Q E s:=by
 cases p with
 | none=>exact slicePart_none h
 | int i t=>exact slicePart_int h
theorem sliceApplied_gen {sl:Addr} {vl vu:Value} {lo hi:Option Int} {n:Nat} {Q:Int × Int × Nat->Shared->Prop} (hs:s.heap.IsSliceOf sl vl vu .none) (pl:IsPart vl lo) (pu:IsPart vu hi)
  (h:Q (((sIx n 0 lo:Nat):Int),1,sIx n n hi - sIx n 0 lo) s):wpAny (model prog w) A (Builtin.Slice.sliceApplied (.ref sl) (pure (n:Int))) Q E s:=by
 obtain ⟨os,hos,hcs,hds⟩:=id hs
 unfold Builtin.Slice.sliceApplied Builtin.Slice.sliceFields
 refine wpAny_bind (wpAny_bind (wpAny_field hos hds (x:=vl) rfl (wpAny_bind (wpAny_field hos hds (x:=vu) rfl (wpAny_bind (wpAny_field hos hds (x:=.none) rfl (wpAny_pure ?_)))))))
 refine wpAny_bind (slicePart_none ?_)
 show wpAny _ _ (if ((1:Int) == 0) = true then _ else _) _ _ s
 rw [if_neg (by decide)]
 refine wpAny_bind (b3f pl (wpAny_bind (b3f pu (wpAny_bind (wpAny_pure ?_)))))
 show wpAny _ _ (match Builtin.Slice.sliceAdjust lo hi 1 (n:Int) with | (lo,hi)=>pure (lo,(1:Int),Builtin.Slice.slicePlaces lo hi 1)) _ _ s
 rw [c1c lo hi n]
 show wpAny _ _ (pure (((sIx n 0 lo:Nat):Int),(1:Int),Builtin.Slice.slicePlaces ((sIx n 0 lo:Nat):Int) ((sIx n n hi:Nat):Int) 1)) _ _ s
 rw [c1d]
 exact wpAny_pure h
theorem c5s (xs:Array Value) (i k:Nat):((List.range k).filterMap fun (m:Nat)=>xs[((i:Int) + (m:Int) * 1).toNat]?).toArray = ((xs.toList.drop i).take k).toArray:=by
 have e:(fun (m:Nat)=>xs[((i:Int) + (m:Int) * 1).toNat]?) = fun m=>xs[i + m]?:=by
  funext m
  have:((i:Int) + (m:Int) * 1).toNat = i + m:=by omega
  rw [this]
 rw [e]
 have:=pick_run xs i k
 rw [List.filterMap_map] at this
 have e2:((fun x=>xs[x]?) ∘ fun x=>i + x) = fun m=>xs[i + m]?:=rfl
 rw [e2] at this
 rw [this]
theorem getItem_tuple_cut {t sl:Addr} {items:Array Value} {vl vu:Value} {lo hi:Option Int} {Q:Value->Shared->Prop} (ht:IsTup s.heap t items) (hs:s.heap.IsSliceOf sl vl vu .none) (pl:IsPart vl lo) (pu:IsPart vu hi)
  (hw:¬ (sIx items.size 0 lo = 0/\sIx items.size items.size hi = items.size))
  (h:Q (.ref s.heap.objs.size) { s with heap:=s.heap.push { cls:=.type "tuple",data:=.seq ((items.toList.drop (sIx items.size 0 lo)).take (sIx items.size items.size hi - sIx items.size 0 lo)).toArray } })
  (hsz:items.size<=sizeLine):wpAny (model prog w) A (getItem (.ref t) (.ref sl)) Q E s:=by
 have htake:sizeOk (.seq ((items.toList.drop (sIx items.size 0 lo)).take (sIx items.size items.size hi - sIx items.size 0 lo)).toArray):=by
  show ((items.toList.drop (sIx items.size 0 lo)).take (sIx items.size items.size hi - sIx items.size 0 lo)).toArray.size<=sizeLine
  rw [List.size_toArray,List.length_take,List.length_drop,Array.length_toList]
  omega
 have hj:sIx items.size items.size hi<=items.size:=sIx_le _ _ (Nat.le_refl _) hi
 obtain ⟨os,hos,hcs,hds⟩:=id hs
 have hTs:s.TypeIs (.ref sl) "slice":=⟨os,hos,hcs⟩
 unfold getItem
 try with_reducible refine wpAny_holding ?_
 first | refine wpAny_bind (wpAny_pure ?_) | skip
 refine wpAny_bind (wpAny_sequenceKey ht.typeIs (by decide) ?_)
 refine wpAny_bind (wpAny_callSpecial?_slot (name:=Str.ofString "__getitem__") ht.typeIs PyProof.Rows.slot_tuple_getitem
  (wpAny_call_entry PyProof.Rows.slot_tuple_getitem ht.typeIs entry_tuple_getitem ?_ (args_tuple_getitem _ _)))
 show wpAny _ _ (Builtin.Tuple.tupleItemsOf (.ref t) >>= _) _ _ s
 refine wpAny_bind (tupleItemsOf_ ht ?_)
 refine wpAny_bind (wpAny_typeOf hTs ?_)
 rw [if_pos (by decide)]
 refine wpAny_bind (sliceApplied_gen hs pl pu ?_)
 have hno:¬ ((((sIx items.size 0 lo:Nat):Int) == 0 && (1:Int) == 1 && (sIx items.size items.size hi - sIx items.size 0 lo) == items.size) = true):=by
  intro q
  rw [Bool.and_eq_true,Bool.and_eq_true] at q
  have q1:((sIx items.size 0 lo:Nat):Int) = 0:=eq_of_beq q.1.1
  have q2:sIx items.size items.size hi - sIx items.size 0 lo = items.size:=eq_of_beq q.2
  exact hw ⟨by omega,by omega⟩
 show wpAny _ _ (if (((sIx items.size 0 lo:Nat):Int) == 0 && (1:Int) == 1 && (sIx items.size items.size hi - sIx items.size 0 lo) == items.size) = true then _ else _) _ _ s
 rw [if_neg hno,c5s]
 first
  | exact wpAny_bind (m:=Builtin.Tuple.tupleExact _) (wpAny_newObj_type (wpAny_pure ⟨_,rfl,wpAny_pure h⟩) htake)
  | exact wpAny_bind (m:=Builtin.Tuple.tupleExact _) (wpAny_newObj_type (wpAny_bind (wpAny_pure (wpAny_pure ⟨_,rfl,wpAny_pure h⟩))) htake)
  | exact wpAny_bind (wpAny_bind (m:=Builtin.Tuple.tupleExact _) (wpAny_newObj_type (wpAny_pure (wpAny_pure ⟨_,rfl,wpAny_pure h⟩)) htake))
  | exact wpAny_bind (wpAny_bind (m:=Builtin.Tuple.tupleExact _) (wpAny_newObj_type (wpAny_pure ⟨_,rfl,wpAny_pure h⟩) htake))
end
end HT
namespace L2
open PySem PySem.Spec PyProof.Rows
noncomputable abbrev TO:=St->Hp->(Option Int->Hp->Prop)->Prop
noncomputable def PO (X:Cx) (e:Option Expr) (t:TO):Prop:=
 ∀ (pins:List (Addr × Obj)) (s:Shared) (σ:St) (H:Hp) (Q:Option Int->Hp->Prop),Inv X pins σ H s->t σ H Q ->
  wpAny (model X.prog X.w) X.A (evalPart e X.env) (fun u s'=>∃ o H',Inv X pins σ H' s'/\IsPart u o/\Q o H') X.xe s
noncomputable def b9u:TO:=fun _ H Q=>Q none H
noncomputable def tPart (t:TE):TO:=fun σ H Q=>t σ H fun x H1=>∃ i,x = .int i/\Q (some i) H1
theorem intsAre_of {ns:List Int}:∀ {us:List Value},Vals (ns.map V.int) us->IntsAre us ns:=by
 induction ns with
 | nil=>intro us r; rw [List.map_nil] at r; cases r; exact .nil
 | cons n ns ih=>
  intro us r
  rw [List.map_cons] at r
  cases r with
  | cons r1 r2=>
   obtain ⟨t,e⟩:=r1
   subst e
   exact .cons n t (ih r2)
section
variable {X:Cx} {e:Expr} {te:TE} {lo hi:Option Expr} {tl th:TO} {pos p2:Pos}
theorem a8c:PO X none b9u:=by
 intro pins s σ H Q I h
 rw [evalPart_none]
 exact wpAny_pure ⟨none,H,I,.none,h⟩
theorem po_some (h:PE X e te):PO X (some e) (tPart te):=by
 intro pins s σ H Q I hw
 rw [evalPart_some]
 refine thn (h pins s σ H _ I hw) fun u s1 ⟨x,H1,I1,r1,q1⟩=>?_
 obtain ⟨i,rfl,q⟩:=q1
 obtain ⟨t,rfl⟩:=r1
 exact ⟨some i,H1,I1,.int i t,q⟩
noncomputable def SlR (X:Cx) (r:V->Option Int->Option Int->Hp->VK->Prop):Prop:=
 ∀ (pins:List (Addr × Obj)) (s:Shared) (σ:St) (H:Hp) (x:V) (v vl vu:Value) (lo hi:Option Int) (sl:Addr) (Q:VK),Inv X pins σ H s->RelV x v->s.heap.IsSliceOf sl vl vu .none->IsPart vl lo->IsPart vu hi->r x lo hi H Q ->
  ∃ T id,typeLookup (.type T) "__getitem__" = pure (some (.builtin id))/\s.TypeIs v T/\wpAny (model X.prog X.w) X.A (getItem v (.ref sl)) (EP X pins σ Q) X.xe s
theorem SlR.or {r r':V->Option Int->Option Int->Hp->VK->Prop} (h:SlR X r) (h':SlR X r'):SlR X (fun x lo hi H Q=>r x lo hi H Q\/r' x lo hi H Q):=by
 intro pins s σ H x v vl vu lo hi sl Q I rx hs pl pu q
 rcases q with q | q
 ·exact h pins s σ H x v vl vu lo hi sl Q I rx hs pl pu q
 ·exact h' pins s σ H x v vl vu lo hi sl Q I rx hs pl pu q
noncomputable def tSl (r:V->Option Int->Option Int->Hp->VK->Prop) (te:TE) (tl th:TO):TE:=fun σ H Q=>te σ H fun x H1=>tl σ H1 fun l H2=>th σ H2 fun u H3=>r x l u H3 Q
theorem a6z {r:V->Option Int->Option Int->Hp->VK->Prop} (hr:SlR X r) (he:PE X e te) (hl:PO X lo tl) (hu:PO X hi th):PE X (.Subscript e (.Slice lo hi none p2) pos) (tSl r te tl th):=by
 intro pins s σ H Q I h
 refine Subscript_ (thn (he pins s σ H _ I h) fun v s1 ⟨x,H1,I1,r1,q1⟩=>?_)
 refine wpAny_Slice (thn (hl pins s1 σ H1 _ I1 q1) fun vl s2 ⟨l,H2,I2,pl,q2⟩=>thn (hu pins s2 σ H2 _ I2 q2) fun vu s3 ⟨u,H3,I3,pu,q3⟩=>?_)
 rw [evalPart_none]
 refine wpAny_pure ?_
 have I4:Inv X pins σ H3 { s3 with heap:=s3.heap.push { cls:=.type "slice",data:=.fields #[vl,vu,.none] } }:=I3.kept (t':=s3.toks) fun b ob q=>Heap.get?_push_of_some _ q
 obtain ⟨T,id,hT,ht,hg⟩:=hr pins { s3 with heap:=s3.heap.push { cls:=.type "slice",data:=.fields #[vl,vu,.none] } } σ H3 x v vl vu l u s3.heap.objs.size Q I4 r1 (Heap.IsSliceOf.new ..) pl pu q3
 show wpAny (model X.prog X.w) X.A (subscriptTail e (.Slice lo hi none p2) v (.ref s3.heap.objs.size)) (EP X pins σ Q) X.xe { s3 with heap:=s3.heap.push { cls:=.type "slice",data:=.fields #[vl,vu,.none] } }
 exact tail_any (ops:=[.ref s3.heap.objs.size,v]) ht hT hg (by with_unfolding_all rfl)
noncomputable def cutV (xs:List V) (lo hi:Option Int):List V:=(xs.drop (HT.sIx xs.length 0 lo)).take (HT.sIx xs.length xs.length hi - HT.sIx xs.length 0 lo)
theorem b2i (xs:List V) (lo hi:Option Int):(cutV xs lo hi).length<=xs.length:=by
 unfold cutV
 rw [List.length_take,List.length_drop]
 omega
noncomputable def rSlT (K:W.Frag):V->Option Int->Option Int->Hp->VK->Prop:=fun x lo hi H Q=>∃ a xs,x = .ref a/\SqT K H a xs /\
 ¬ (HT.sIx xs.length 0 lo = 0/\HT.sIx xs.length xs.length hi = xs.length)/\∀ p,H p = none->Q (.ref p) (upd H p (.tup (cutV xs lo hi)))
theorem sl_tup:SlR X (rSlT X.K):=by
 intro pins s σ H x v vl vu lo hi sl Q I rx hs pl pu h
 obtain ⟨a,xs,rfl,hx,hw,q⟩:=h
 cases rx
 obtain ⟨its,r,ht,hz⟩:=I.tuple hx
 have hlen:its.toArray.size = xs.length:=by rw [List.size_toArray]; exact r.length.symm
 refine ⟨"tuple",_,PyProof.Rows.slot_tuple_getitem.lookup,ht.typeIs,?_⟩
 refine HT.getItem_tuple_cut ht hs pl pu (by rw [hlen]; exact hw) ?_ (by rw [hlen]; exact hz)
 rw [hlen]
 refine ⟨.ref s.heap.objs.size,_,I.laid (t':=s.toks) (o:=.tup (cutV xs lo hi)) (fun b ob q=>Heap.get?_push_of_some _ q) (Nat.le_refl _) ?_,rfl,q _ (I.hok.fresh (Nat.le_refl _))⟩
 exact ⟨Nat.le_trans (b2i xs lo hi) hz,_,(r.drop (HT.sIx xs.length 0 lo)).take (HT.sIx xs.length xs.length hi - HT.sIx xs.length 0 lo),IsTup.new _ _⟩
noncomputable def rCatT (K:W.Frag):R2:=fun x y H Q=>∃ a b xs ys,x = .ref a/\y = .ref b/\SqT K H a xs/\SqT K H b ys/\xs ≠ []/\xs.length + ys.length<=sizeLine /\
 (ys = []->Q (.ref a) H)/\(ys ≠ []->∀ p,H p = none->Q (.ref p) (upd H p (.tup (xs ++ ys))))
theorem Vals.nil_iff {xs:List V} {us:List Value} (r:Vals xs us):us = [] ↔ xs = []:=by
 cases r with
 | nil=>simp
 | cons _ _=>simp
theorem b9v:OpR X (binaryOp .Add) (rCatT X.K):=by
 intro pins s σ H x y v u Q I rx ry h
 obtain ⟨a,b,xs,ys,rfl,rfl,ha,hb,hx,hz,q1,q2⟩:=h
 cases rx
 cases ry
 obtain ⟨its,r1,p1,_⟩:=I.tuple ha
 obtain ⟨its2,r2,p2,_⟩:=I.tuple hb
 refine HT.cat_tup p1 p2 (fun z=>hx (r1.nil_iff.mp z)) (fun z=>⟨.ref a,H,I,rfl,q1 (r2.nil_iff.mp z)⟩) (fun z=>?_) (by rw [<- r1.length,<- r2.length]; exact hz)
 refine ⟨.ref s.heap.objs.size,_,I.laid (t':=s.toks) (o:=.tup (xs ++ ys)) (fun b ob q=>Heap.get?_push_of_some _ q) (Nat.le_refl _) ?_,rfl,q2 (fun w=>z (r2.nil_iff.mpr w)) _ (I.hok.fresh (Nat.le_refl _))⟩
 exact ⟨by rw [List.length_append]; exact hz,_,r1.append r2,IsTup.new _ _⟩
end
noncomputable def ixN (n:Nat) (i:Int):Option Nat:=if 0<=i then (if i < n then some i.toNat else none) else if -(n:Int)<=i then some (i + n).toNat else none
noncomputable def atI {α:Type} (xs:List α) (i:Int):Option α:=(ixN xs.length i).bind fun j=>xs[j]?
theorem b4d {n:Nat} {i:Int} {j:Nat} (h:ixN n i = some j):seqIndex? i n = some j/\j < n/\-(n:Int)<=i/\i < n:=by
 unfold ixN at h
 by_cases h0:0<=i
 ·rw [if_pos h0] at h
  by_cases h1:i < n
  ·rw [if_pos h1] at h
   have e:i.toNat = j:=Option.some.inj h
   exact ⟨by rw [seqIndex_of h0 h1,e],by omega,by omega,h1⟩
  ·rw [if_neg h1] at h; cases h
 ·rw [if_neg h0] at h
  by_cases h1:-(n:Int)<=i
  ·rw [if_pos h1] at h
   have e:(i + n).toNat = j:=Option.some.inj h
   exact ⟨by rw [seqIndex_neg (by omega) h1,e],by omega,h1,by omega⟩
  ·rw [if_neg h1] at h; cases h
theorem a9j {α:Type} {xs:List α} {i:Int} {v:α} (h:atI xs i = some v):∃ j,seqIndex? i xs.length = some j/\xs[j]? = some v/\j < xs.length/\-(xs.length:Int)<=i/\i < xs.length:=by
 unfold atI at h
 cases e:ixN xs.length i with
 | none=>rw [e] at h; cases h
 | some j=>
  rw [e] at h
  obtain ⟨h1,h2,h3,h4⟩:=b4d e
  exact ⟨j,h1,h,h2,h3,h4⟩
theorem atI_nat {α:Type} {xs:List α} {j:Nat} {v:α} (h:xs[j]? = some v):atI xs (j:Int) = some v:=by
 have hj:j < xs.length:=(List.getElem?_eq_some_iff.mp h).1
 have e:ixN xs.length (j:Int) = some j:=by
  unfold ixN
  rw [if_pos (by omega),if_pos (by omega)]; simp
 unfold atI; rw [e]; exact h
noncomputable def b9w (b:Expr):Prop:=∀ o i,subscripted b false o i = operate [o,i] (getItem o i)
noncomputable def IxR (X:Cx) (r:R2):Prop:=
 ∀ (value slice:Expr) (pins:List (Addr × Obj)) (s:Shared) (σ:St) (H:Hp) (x y:V) (v u:Value) (Q:VK),Inv X pins σ H s->RelV x v->RelV y u->r x y H Q ->
  subscripted slice false v u = operate [v,u] (getItem v u)->wpAny (model X.prog X.w) X.A (subscriptTail value slice v u) (EP X pins σ Q) X.xe s
noncomputable def MtR (X:Cx) (id:String) (r:V->List V->Hp->VK->Prop):Prop:=
 ∀ (pins:List (Addr × Obj)) (s:Shared) (σ:St) (H:Hp) (x:V) (xs:List V) (v:Value) (us:List Value) (Q:VK),Inv X pins σ H s->RelV x v->Vals xs us->r x xs H Q ->
  wpAny (model X.prog X.w) X.A (call (.builtin id) (v :: us)) (EP X pins σ Q) X.xe s
section
variable {X:Cx} {a b:Expr} {ta tb:TE} {pos:Pos}
theorem IxR.or {r r':R2} (h:IxR X r) (h':IxR X r'):IxR X (fun x y H Q=>r x y H Q\/r' x y H Q):=by
 intro value slice pins s σ H x y v u Q I rx ry q hs
 rcases q with q | q
 ·exact h value slice pins s σ H x y v u Q I rx ry q hs
 ·exact h' value slice pins s σ H x y v u Q I rx ry q hs
theorem MtR.or {id:String} {r r':V->List V->Hp->VK->Prop} (h:MtR X id r) (h':MtR X id r'):MtR X id (fun x xs H Q=>r x xs H Q\/r' x xs H Q):=by
 intro pins s σ H x xs v us Q I rx rs q
 rcases q with q | q
 ·exact h pins s σ H x xs v us Q I rx rs q
 ·exact h' pins s σ H x xs v us Q I rx rs q
theorem a0k {r:R2} (hr:IxR X r) (ha:PE X a ta) (hb:PE X b tb) (hs:b9w b):PE X (.Subscript a b pos) (tOp r ta tb):=by
 intro pins s σ H Q I h
 exact Subscript_ (binT ha hb I h fun v u s2 x y H2 I2 rx ry q=>hr a b pins s2 σ H2 x y v u Q I2 rx ry q (hs _ _))
noncomputable def rIxL (K:W.Frag):R2:=fun x y H Q=>∃ p xs i v,x = .ref p/\y = .int i/\SqL K H p xs/\atI xs i = some v/\Q v H
noncomputable def rIxT (K:W.Frag):R2:=fun x y H Q=>∃ p xs i v,x = .ref p/\y = .int i/\SqT K H p xs/\atI xs i = some v/\Q v H
noncomputable def rIxS:R2:=fun x y H Q=>∃ z i c,x = .str z/\y = .int i/\z.length<=sizeLine/\atI z.cps.toList i = some c/\Q (.str ⟨#[c]⟩) H
theorem ix_list:IxR X (rIxL X.K):=by
 intro value slice pins s σ H x y v u Q I rx ry h hs
 obtain ⟨p,xs,i,z,rfl,rfl,hq,he,q⟩:=h
 cases rx
 obtain ⟨t,rfl⟩:=ry
 obtain ⟨its,r,pl,hz⟩:=I.list hq
 obtain ⟨j,h1,h2,h3,h4,h5⟩:=a9j he
 obtain ⟨w,ew,rw'⟩:=r.get h2
 have hl:=r.length
 have hn:=a9i
 have fin:EP X pins σ Q w s:=⟨z,H,I,rw',q⟩
 by_cases h0:0<=i
 ·have hj:i.toNat = j:=by
   rw [seqIndex_of h0 h5] at h1
   exact Option.some.inj h1
  exact item_listR pl.isList h0 (by omega) (by rw [hj]; simpa using ew) fin hs
 ·have hj:(i + (its.toArray.size:Int)).toNat = j:=by
   rw [seqIndex_neg (by omega) h4] at h1
   rw [List.size_toArray,<- hl]
   exact Option.some.inj h1
  exact subscriptTail_builtinR (x:=w) pl.isList.typeIs slot_list_getitem.lookup
   (wpAny_getItem_list_neg (Q:=fun r s'=>r = w/\EP X pins σ Q r s') pl.isList (by omega) (by rw [List.size_toArray] <;> omega) (by omega) (by rw [hj]; simpa using ew) ⟨rfl,fin⟩) hs
theorem ix_tup:IxR X (rIxT X.K):=by
 intro value slice pins s σ H x y v u Q I rx ry h hs
 obtain ⟨p,xs,i,z,rfl,rfl,hq,he,q⟩:=h
 cases rx
 obtain ⟨t,rfl⟩:=ry
 obtain ⟨its,r,pl,hz⟩:=I.tuple hq
 obtain ⟨j,h1,h2,h3,h4,h5⟩:=a9j he
 obtain ⟨w,ew,rw'⟩:=r.get h2
 have hl:=r.length
 have hn:=a9i
 have fin:EP X pins σ Q w s:=⟨z,H,I,rw',q⟩
 exact subscriptTail_builtinR (x:=w) pl.typeIs slot_tuple_getitem.lookup
  (getItem_tuple (j:=j) (Q:=fun r s'=>r = w/\EP X pins σ Q r s') pl (by omega) (by omega) (by rw [List.size_toArray,<- hl]; exact h1) (by simpa using ew) ⟨rfl,fin⟩) hs
theorem ix_str:IxR X rIxS:=by
 intro value slice pins s σ H x y v u Q I rx ry h hs
 obtain ⟨z,i,c,rfl,rfl,hz,he,q⟩:=h
 obtain ⟨t,rfl⟩:=rx
 obtain ⟨t',rfl⟩:=ry
 obtain ⟨j,h1,h2,h3,h4,h5⟩:=a9j he
 have hl:z.cps.toList.length = z.length:=by simp [Str.length]
 rw [hl] at h1 h4 h5
 have hn:=a9i
 exact tail_any (typeIs_str s z t) slot_str_getitem.lookup (getItem_str (c:=c) (by
  have e1:decide (i < -(2 ^ 63:Int)) = false:=decide_eq_false (by omega)
  have e2:decide (i >= 2 ^ 63) = false:=decide_eq_false (by omega)
  rw [e1,e2,Bool.or_false]) (by rw [h1]; simpa using h2) ⟨.str ⟨#[c]⟩,H,I.tok _,⟨_,rfl⟩,q⟩) hs
noncomputable def rIx (K:W.Frag):R2:=fun x y H Q=>rIxL K x y H Q\/rIxT K x y H Q\/rIxS x y H Q
theorem ix_seq:IxR X (rIx X.K):=ix_list.or (ix_tup.or ix_str)
theorem c1e (its:List Value) (n j:Nat) (u:Value):Obj.mapSeq (·.setIfInBounds j u) { cls:=.type "list",data:=.seq its.toArray n } = { cls:=.type "list",data:=.seq (its.set j u).toArray n }:=by
 simp [Obj.mapSeq]
theorem Inv.lst {pins:List (Addr × Obj)} {σ:St} {H:Hp} {s:Shared} {p:Addr} {xs:List V} (I:Inv X pins σ H s) (h:H p = some (.lst xs)) :
  ∃ (its:List Value) (n:Nat),Vals xs its/\s.heap.get? p = some { cls:=.type "list",data:=.seq its.toArray n }/\xs.length<=sizeLine:=by
 obtain ⟨z,its,n,r,e⟩:=I.hok p _ h
 exact ⟨its,n,r,e,z⟩
theorem Inv.lstUpd {pins:List (Addr × Obj)} {σ:St} {H:Hp} {s:Shared} {p:Addr} {xs ys:List V} {its its':List Value} {n n':Nat} {f:Obj->Obj} (I:Inv X pins σ H s) (h:H p = some (.lst xs))
  (ho:s.heap.get? p = some { cls:=.type "list",data:=.seq its.toArray n }) (hf:f { cls:=.type "list",data:=.seq its.toArray n } = { cls:=.type "list",data:=.seq its'.toArray n' }) (r:Vals ys its') (hz:ys.length<=sizeLine) (t:Nat) :
  Inv X pins σ (upd H p (.lst ys)) { s with heap:=s.heap.update p f,toks:=t }:=by
 have e:(s.heap.update p f).get? p = some { cls:=.type "list",data:=.seq its'.toArray n' }:=by
  rw [Heap.get?_update_self f ho (by rw [hf] <;> rfl),hf]
 refine I.write (x:=p) (e:=p) (by rw [h]; trivial) (.inl rfl) (fun b u hb q=>(Heap.get?_update_other _ _ (Ne.symm hb)).trans q) ⟨_,e⟩ ?_
 exact ⟨hz,its',n',r,e⟩
noncomputable def rSetL:V->V->V->Hp->(Hp->Prop)->Prop:=fun o i v H Q=>∃ p xs k j,o = .ref p/\i = .int k/\H p = some (.lst xs)/\ixN xs.length k = some j/\Q (upd H p (.lst (xs.set j v)))
theorem b6l:PSet X rSetL:=by
 intro pins s σ H o i v ov iv u Q I ro ri rv h
 obtain ⟨p,xs,k,j,rfl,rfl,hp,hj,q⟩:=h
 cases ro
 obtain ⟨t,rfl⟩:=ri
 obtain ⟨its,n,r,ho,hz⟩:=I.lst hp
 obtain ⟨h1,h2,h3,h4⟩:=b4d hj
 have hl:=r.length
 have hn:=a9i
 have I':Inv X pins σ (upd H p (.lst (xs.set j v))) { s with heap:=s.heap.update p (Obj.mapSeq (·.setIfInBounds j u)) }:=
  I.lstUpd hp ho (c1e its n j u) (r.set rv j) (by rw [List.length_set]; exact hz) s.toks
 by_cases h0:0<=k
 ·have hk:k.toNat = j:=by
   rw [seqIndex_of h0 h4] at h1
   exact Option.some.inj h1
  exact W.ki_setAt ho h0 (by omega) (by rw [List.size_toArray,<- hl]; exact h4) (by rw [hk]; exact ⟨_,I',q⟩)
 ·have hk:(k + (its.toArray.size:Int)).toNat = j:=by
   rw [seqIndex_neg (by omega) h3] at h1
   rw [List.size_toArray,<- hl]
   exact Option.some.inj h1
  exact W.ki_setBack ho (by omega) (by rw [List.size_toArray,<- hl]; exact h3) (by omega) (by rw [hk]; exact ⟨_,I',q⟩)
theorem b6m (lo hi:Option Int) (n:Nat):(sliceBounds lo hi none n).1 = ((HT.sIx n 0 lo:Nat):Int)/\(sliceBounds lo hi none n).2.1 = ((HT.sIx n n hi:Nat):Int)/\(sliceBounds lo hi none n).2.2 = 1:=by
 refine ⟨?_,?_,rfl⟩
 ·cases lo with
  | none=>simp [sliceBounds,HT.sIx]
  | some i=>
   simp only [sliceBounds,HT.sIx,Option.getD_none,show (1:Int) > 0 by decide,if_true]
   by_cases h:i < 0
   ·simp only [h,if_true] <;> omega
   ·simp only [h,if_false] <;> omega
 ·cases hi with
  | none=>simp [sliceBounds,HT.sIx]
  | some i=>
   simp only [sliceBounds,HT.sIx,Option.getD_none,show (1:Int) > 0 by decide,if_true]
   by_cases h:i < 0
   ·simp only [h,if_true] <;> omega
   ·simp only [h,if_false] <;> omega
theorem b5n (its:List Value) (lo hi:Option Int):slicePick its.toArray lo hi none = ((its.drop (HT.sIx its.length 0 lo)).take (HT.sIx its.length its.length hi - HT.sIx its.length 0 lo)).toArray:=by
 obtain ⟨h1,h2,h3⟩:=b6m lo hi its.toArray.size
 unfold slicePick
 rw [h1,h2,h3]
 simp only [sliceRange_one,pick_run,List.size_toArray] <;> rfl
noncomputable def rSlL (K:W.Frag):V->Option Int->Option Int->Hp->VK->Prop:=fun x lo hi H Q=>∃ a xs,x = .ref a/\SqL K H a xs/\∀ p,H p = none->Q (.ref p) (upd H p (.lst (cutV xs lo hi)))
theorem sl_list:SlR X (rSlL X.K):=by
 intro pins s σ H x v vl vu lo hi sl Q I rx hs pl pu h
 obtain ⟨a,xs,rfl,hx,q⟩:=h
 cases rx
 obtain ⟨its,r,ht,hz⟩:=I.list hx
 have hlen:=r.length
 refine ⟨"list",_,slot_list_getitem.lookup,ht.isList.typeIs,?_⟩
 refine wpAny_getItem_list_slice ht.isList hs pl pu .none (by simp) ?_ (by rw [List.size_toArray] <;> omega)
 rw [b5n,<- hlen]
 refine ⟨.ref s.heap.objs.size,_,I.laid (t':=s.toks) (o:=.lst (cutV xs lo hi)) (fun b ob q=>Heap.get?_push_of_some _ q) (Nat.le_refl _) ?_,rfl,q _ (I.hok.fresh (Nat.le_refl _))⟩
 exact ⟨Nat.le_trans (b2i xs lo hi) hz,_,0,(r.drop (HT.sIx xs.length 0 lo)).take (HT.sIx xs.length xs.length hi - HT.sIx xs.length 0 lo),Heap.get?_push_size _ rfl⟩
noncomputable def a7j:V->Bool
 | .non=>true
 | .bl _=>true
 | .int _=>true
 | .str _=>true
 | _=>false
noncomputable def eqV:V->V->Bool
 | .non,.non=>true
 | .bl a,.bl b=>a == b
 | .bl a,.int b=>(if a then 1 else 0) == b
 | .int a,.bl b=>a == (if b then 1 else 0)
 | .int a,.int b=>a == b
 | .str a,.str b=>a == b
 | _,_=>false
theorem eqAt_V {A:Around} {s:Shared} {y x:V} {u v:Value} (ry:RelV y u) (rx:RelV x v) (fy:a7j y = true) (fx:a7j x = true):SeqAt.EqAt A s u v (eqV y x):=by
 cases y with
 | non=>
  cases ry
  cases x with
  | non=>cases rx; exact SeqAt.EqAt.same _
  | bl b=>cases rx; exact SeqAt.EqAt.none_bool b
  | int b=>obtain ⟨t,rfl⟩:=rx; exact SeqAt.EqAt.none_int b t
  | str b=>obtain ⟨t,rfl⟩:=rx; exact SeqAt.EqAt.none_str b t
  | _=>exact absurd (show false = true from fx) Bool.false_ne_true
 | bl a=>
  cases ry
  cases x with
  | non=>cases rx; exact SeqAt.EqAt.bool_none a
  | bl b=>cases rx; exact SeqAt.EqAt.bool_bool a b
  | int b=>obtain ⟨t,rfl⟩:=rx; exact SeqAt.EqAt.bool_int a b t
  | str b=>obtain ⟨t,rfl⟩:=rx; exact SeqAt.EqAt.bool_str a b t
  | _=>exact absurd (show false = true from fx) Bool.false_ne_true
 | int a=>
  obtain ⟨t',rfl⟩:=ry
  cases x with
  | non=>cases rx; exact SeqAt.EqAt.int_none a t'
  | bl b=>cases rx; exact SeqAt.EqAt.int_bool a t' b
  | int b=>obtain ⟨t,rfl⟩:=rx; exact SeqAt.EqAt.int_int a t' b t
  | str b=>obtain ⟨t,rfl⟩:=rx; exact SeqAt.EqAt.int_str a t' b t
  | _=>exact absurd (show false = true from fx) Bool.false_ne_true
 | str a=>
  obtain ⟨t',rfl⟩:=ry
  cases x with
  | non=>cases rx; exact SeqAt.EqAt.str_none a t'
  | bl b=>cases rx; exact SeqAt.EqAt.str_bool a t' b
  | int b=>obtain ⟨t,rfl⟩:=rx; exact SeqAt.EqAt.str_int a t' b t
  | str b=>obtain ⟨t,rfl⟩:=rx; exact SeqAt.EqAt.str_str a t' b t
  | _=>exact absurd (show false = true from fx) Bool.false_ne_true
 | _=>exact absurd (show false = true from fy) Bool.false_ne_true
noncomputable def eqU (x:V) (u:Value):Bool:=match u with
 | .none=>eqV .non x
 | .bool b=>eqV (.bl b) x
 | .int i _=>eqV (.int i) x
 | .str z _=>eqV (.str z) x
 | _=>false
theorem b6n {x y:V} {u:Value} (r:RelV y u) (f:a7j y = true):eqU x u = eqV y x:=by
 cases y with
 | non=>cases r; rfl
 | bl b=>cases r; rfl
 | int i=>obtain ⟨t,rfl⟩:=r; rfl
 | str z=>obtain ⟨t,rfl⟩:=r; rfl
 | _=>exact absurd (show false = true from f) Bool.false_ne_true
theorem b4e {x:V}:∀ {xs:List V} {us:List Value},Vals xs us->xs.all a7j = true->us.any (eqU x) = xs.any fun y=>eqV y x
 | _,_,.nil,_=>rfl
 | y :: xs,u :: us,.cons r t,f=>by
  rw [List.all_cons,Bool.and_eq_true] at f
  rw [List.any_cons,List.any_cons,b6n r f.1,b4e t f.2]
theorem b0e {A:Around} {s:Shared} {x:V} {v:Value} (rx:RelV x v) (fx:a7j x = true):∀ {xs:List V} {us:List Value},Vals xs us->xs.all a7j = true->∀ u ∈ us,SeqAt.EqAt A s u v (eqU x u)
 | _,_,.nil,_=>fun u hu=>by cases hu
 | y :: xs,u :: us,.cons r t,f=>fun u' hu=>by
  rw [List.all_cons,Bool.and_eq_true] at f
  rcases List.mem_cons.mp hu with rfl | hu
  ·rw [b6n r f.1]; exact eqAt_V r rx f.1 fx
  ·exact b0e rx fx t f.2 u' hu
noncomputable def inV (x:V) (xs:List V):Bool:=xs.any fun y=>eqV y x
noncomputable def rIn (K:W.Frag) (neg:Bool):R2:=fun x y H Q=>∃ p xs,y = .ref p/\(SqL K H p xs\/SqT K H p xs)/\a7j x = true/\xs.all a7j = true/\Q (.bl (if neg then !inV x xs else inV x xs)) H
theorem b6o:OpR X (compareOp .NotIn) (rIn X.K true):=by
 intro pins s σ H x y v u Q I rx ry h
 obtain ⟨p,xs,rfl,hq,fx,fs,q⟩:=h
 cases ry
 rcases hq with hq | hq
 ·obtain ⟨its,r,pl,hz⟩:=I.list hq
  refine SeqAt.notIn_listAt (eqU x) pl.isList (fun w hw=>b0e rx fx r fs w (by simpa using hw)) ⟨.bl _,H,I,rfl,?_⟩
  rw [show its.toArray.any (eqU x) = its.any (eqU x) by simp,b4e r fs]
  exact q
 ·obtain ⟨its,r,pl,hz⟩:=I.tuple hq
  refine SeqAt.notIn_tupleAt (eqU x) pl (fun w hw=>b0e rx fx r fs w (by simpa using hw)) ⟨.bl _,H,I,rfl,?_⟩
  rw [show its.toArray.any (eqU x) = its.any (eqU x) by simp,b4e r fs]
  exact q
theorem a1z.or {f:Value} {r r':List V->Hp->VK->Prop} (h:a1z X f r) (h':a1z X f r'):a1z X f (fun xs H Q=>r xs H Q\/r' xs H Q):=by
 intro pins s σ H xs us Q I rs q
 rcases q with q | q
 ·exact h pins s σ H xs us Q I rs q
 ·exact h' pins s σ H xs us Q I rs q
theorem b6p:a1z X (.type "list") (fun xs H Q=>∃ p ys,xs = [.ref p]/\(SqL X.K H p ys\/SqT X.K H p ys)/\∀ l,H l = none->Q (.ref l) (upd H l (.lst ys))):=by
 intro pins s σ H xs us Q I r h
 obtain ⟨p,ys,rfl,hq,q⟩:=h
 obtain ⟨u,rfl,rx⟩:=vals1 r
 cases rx
 have fin:∀ (its:List Value),Vals ys its->ys.length<=sizeLine->∀ (h':Heap) (c':Nat),(∀ b o',s.heap.get? b = some o'->h'.get? b = some o') ->
   h'.get? s.heap.objs.size = some { cls:=.type "list",dict:=none,data:=.seq its.toArray c',slots:=#[] }->EP X pins σ Q (.ref s.heap.objs.size) { s with heap:=h' }:=fun its r' hz h' c' kp e=>
  ⟨.ref s.heap.objs.size,_,I.laid (t':=s.toks) kp (Nat.le_refl _) (show a1m X.prog X.w _ h' _ (.lst ys) from ⟨hz,its,c',r',e⟩),rfl,q _ (I.hok.fresh (Nat.le_refl _))⟩
 rcases hq with hq | hq
 ·obtain ⟨its,r',pl,hz⟩:=I.list hq
  have hlen:=r'.length
  obtain ⟨o,ho,hc,n,hd⟩:=pl.isList
  exact call_list_seq p (.inl rfl) ho hc hd (fun h' c' kp e=>fin its r' hz h' c' kp e) (by simp only [List.size_toArray] <;> omega)
 ·obtain ⟨its,r',pl,hz⟩:=I.tuple hq
  have hlen:=r'.length
  obtain ⟨o,ho,hc,n,hd⟩:=pl
  exact call_list_seq p (.inr rfl) ho hc hd (fun h' c' kp e=>fin its r' hz h' c' kp e) (by simp only [List.size_toArray] <;> omega)
theorem b5o:a1z X (.type "tuple") (fun xs H Q=>∃ p ys,xs = [.ref p]/\((SqL X.K H p ys/\∀ l,H l = none->Q (.ref l) (upd H l (.tup ys)))\/(SqT X.K H p ys/\Q (.ref p) H))):=by
 intro pins s σ H xs us Q I r h
 obtain ⟨p,ys,rfl,h⟩:=h
 obtain ⟨u,rfl,rx⟩:=vals1 r
 cases rx
 rcases h with ⟨hq,q⟩ | ⟨hq,q⟩
 ·obtain ⟨its,r',pl,hz⟩:=I.list hq
  have hlen:=r'.length
  refine call_tuple_list pl.isList (fun h' kp=>?_) (by simp only [List.size_toArray] <;> omega)
  have I1:Inv X pins σ H { s with heap:=h' }:=I.kept (t':=s.toks) kp
  have I2:Inv X pins σ (upd H h'.objs.size (.tup ys)) { s with heap:=h'.push { cls:=.type "tuple",data:=.seq its.toArray } }:=
   I1.laid (t':=s.toks) (fun b o e=>Heap.get?_push_of_some _ e) (Nat.le_refl _) (show a1m X.prog X.w _ _ _ (.tup ys) from ⟨hz,its,r',IsTup.new _ _⟩)
  exact ⟨.ref h'.objs.size,_,I2,rfl,q _ (I1.hok.fresh (Nat.le_refl _))⟩
 ·obtain ⟨its,r',pl,hz⟩:=I.tuple hq
  exact call_tuple_same pl ⟨.ref p,H,I,rfl,q⟩
noncomputable def tyV (K:W.Frag) (T:String) (x:V) (H:Hp):Prop:=match x with
 | .str _=>T = "str"
 | .int _=>T = "int"
 | .ref p=>(T = "list"/\∃ xs,SqL K H p xs)\/(T = "tuple"/\∃ o,K.lookup p = some o/\o.cls = .type "tuple"/\o.dict = none) \/
   (T = "dict"/\((∃ kvs,H p = some (.dK kvs))\/∃ kvs,H p = some (.dT kvs)))\/(T = "set"/\∃ S n,H p = some (.set S n))
 | _=>False
theorem c2x {pins:List (Addr × Obj)} {σ:St} {H:Hp} {s:Shared} {T:String} {x:V} {v:Value} (I:Inv X pins σ H s) (r:RelV x v) (ty:tyV X.K T x H) :
  s.TypeIs v T/\∀ a,v = .ref a->∃ ob,s.heap.get? a = some ob/\ob.dict = none:=by
 cases x with
 | str z=>
  obtain ⟨t,rfl⟩:=r
  cases (show T = "str" from ty)
  exact ⟨typeIs_str s z t,fun _ e=>nomatch e⟩
 | int i=>
  obtain ⟨t,rfl⟩:=r
  cases (show T = "int" from ty)
  exact ⟨typeIs_int s i t,fun _ e=>nomatch e⟩
 | ref p=>
  cases r
  rcases ty with ⟨rfl,xs,hq⟩ | ⟨rfl,o,hk,hc,hd⟩ | ⟨rfl,hk⟩ | ⟨rfl,S,n,hk⟩
  ·obtain ⟨its,_,pl,_⟩:=I.list hq
   refine ⟨pl.isList.typeIs,fun a e=>?_⟩
   cases e
   obtain ⟨o,n,e,c,hd,_⟩:=pl
   exact ⟨o,e,hd⟩
  ·refine ⟨⟨o,I.kIn p o hk,hc⟩,fun a e=>?_⟩
   cases e
   exact ⟨o,I.kIn _ o hk,hd⟩
  ·have z:∃ o,s.heap.get? p = some o/\o.ExactDict:=by
    rcases hk with ⟨kvs,hk⟩ | ⟨kvs,hk⟩
    ·obtain ⟨_,_,_,_,o,_,_,e,ex,_⟩:=I.hok p _ hk
     exact ⟨o,e,ex⟩
    ·obtain ⟨_,_,_,_,o,_,_,e,ex,_⟩:=I.hok p _ hk
     exact ⟨o,e,ex⟩
   obtain ⟨o,e,ex⟩:=z
   refine ⟨⟨o,e,ex.1⟩,fun a e2=>?_⟩
   cases e2
   exact ⟨o,e,ex.2.1⟩
  ·obtain ⟨o,_,_,_,e,ex,_⟩:=I.hok p _ hk
   refine ⟨⟨o,e,ex.1⟩,fun a e2=>?_⟩
   cases e2
   exact ⟨o,e,ex.2.1⟩
 | _=>exact False.elim ty
noncomputable def tBM0 (K:W.Frag) (T:String) (r:V->List V->Hp->VK->Prop) (to:TE):TE:=fun σ H Q=>to σ H fun x H1=>tyV K T x H1/\r x [] H1 Q
noncomputable def tBM (K:W.Frag) (T:String) (r:V->List V->Hp->VK->Prop) (to:TE) (t:TA):TE:=fun σ H Q=>to σ H fun x H1=>tyV K T x H1/\t σ H1 fun xs H2=>r x xs H2 Q
variable {o e:Expr} {es:List Expr} {to:TE} {t:TA} {name:Str} {apos cpos:Pos} {T id:String} {r:V->List V->Hp->VK->Prop}
theorem pe_bm0 (pa:PlainAttrs T) (slot:Slot T name id) (hty:typeOf (.builtin id) = pure (.type "method_descriptor")) (hm:MtR X id r) (ho:PE X o to)
  (hbase:attributeBase o name X.env (eval o X.env) = eval o X.env:=by rfl) (hline:(apos.endLine == cpos.line) = true:=by rfl):PE X (.Call (.Attribute o name apos) [] [] cpos) (tBM0 X.K T r to):=by
 intro pins s σ H Q I h
 refine wpAny_Call_method0_late hbase hline (thn (ho pins s σ H _ I h) fun v s1 ⟨x,H1,I1,r1,ty,q1⟩=>?_)
 obtain ⟨h1,h2⟩:=c2x I1 r1 ty
 exact ⟨T,id,pa,slot,hty,h1,h2,Calls.callWith_builtin rfl (PySem.evalArgs_none (hm pins s1 σ H1 x [] v [] Q I1 r1 .nil q1))⟩
theorem pe_bm (pa:PlainAttrs T) (slot:Slot T name id) (hty:typeOf (.builtin id) = pure (.type "method_descriptor")) (hm:MtR X id r) (ho:PE X o to) (ha:PA X (e :: es) t)
  (hbase:attributeBase o name X.env (eval o X.env) = eval o X.env:=by rfl)
  (hfew:((backTo cpos (starEach (e :: es) X.env)).all (fun x=>!x.1) && (backToKw cpos (keywordEach [] X.env)).all (fun x=>x.1.isSome)
   && decide ((e :: es).length + ([]:List Keyword).length + (if ([]:List Keyword).isEmpty then 0 else 1) < 30)) = true:=by rfl)
  (hline:(apos.endLine == cpos.line) = true:=by rfl) (hs:starEach (e :: es) X.env = (false,eval e X.env) :: starEach es X.env:=by rfl) (hplain:(backTo cpos (starEach es X.env)).any (·.1) = false:=by rfl) :
  PE X (.Call (.Attribute o name apos) (e :: es) [] cpos) (tBM X.K T r to t):=by
 intro pins s σ H Q I h
 refine wpAny_Call_method_late hbase hfew hline rfl (thn (ho pins s σ H _ I h) fun v s1 ⟨x,H1,I1,r1,ty,q1⟩=>?_)
 obtain ⟨h1,h2⟩:=c2x I1 r1 ty
 refine ⟨T,id,pa,slot,hty,h1,h2,?_⟩
 have hA:=ha cpos pins s1 σ H1 _ I1 q1
 rw [hs] at hA ⊢
 refine Calls.callWith_builtin (by show (false || (backTo cpos (starEach es X.env)).any (·.1)) = false; rw [hplain] <;> rfl) (Calls.evalArgs_plain ?_)
 exact thn hA fun us s2 ⟨vs,H2,I2,r2,q2⟩=>hm pins s2 σ H2 x vs v us Q I2 r1 r2 q2
end
noncomputable def MtM (X:Cx) (id:String) (r:V->List V->Hp->VK->Prop):Prop:=
 ∀ (pins:List (Addr × Obj)) (s:Shared) (σ:St) (H:Hp) (x:V) (xs:List V) (v:Value) (us:List Value) (Q:VK),Inv X pins σ H s->RelV x v->Vals xs us->r x xs H Q ->
  wpAny (model X.prog X.w) X.A (call (.builtin id) (v :: us)) (EP X pins σ Q) X.xe s
theorem Vals.one:∀ {x:V} {us:List Value},Vals [x] us->∃ u,us = [u]/\RelV x u
 | _,_,.cons r .nil=>⟨_,rfl,r⟩
theorem Vals.zero:∀ {us:List Value},Vals [] us->us = []
 | _,.nil=>rfl
theorem Vals.dropLast {xs:List V} {us:List Value} (h:Vals xs us):Vals xs.dropLast us.dropLast:=by
 induction h with
 | nil=>exact .nil
 | cons r t ih=>
  cases t with
  | nil=>exact .nil
  | cons q t'=>exact .cons r ih
theorem Vals.eraseIdx:∀ {xs:List V} {us:List Value} (i:Nat),Vals xs us->Vals (xs.eraseIdx i) (us.eraseIdx i)
 | _,_,_,.nil=>.nil
 | _,_,0,.cons _ t=>t
 | _,_,i + 1,.cons r t=>.cons r (Vals.eraseIdx i t)
theorem Vals.reverse {xs:List V} {us:List Value} (h:Vals xs us):Vals xs.reverse us.reverse:=by
 induction h with
 | nil=>exact .nil
 | cons r t ih=>rw [List.reverse_cons,List.reverse_cons]; exact Vals.append ih (.cons r .nil)
theorem Vals.rep {xs:List V} {us:List Value} (h:Vals xs us):∀ k:Nat,Vals (List.replicate k xs).flatten (List.replicate k us).flatten
 | 0=>.nil
 | k + 1=>by
  rw [List.replicate_succ,List.replicate_succ,List.flatten_cons,List.flatten_cons]
  exact Vals.append h (Vals.rep h k)
theorem c1f {α:Type} (l:List α):l.eraseIdx (l.length - 1) = l.dropLast:=by
 induction l with
 | nil=>rfl
 | cons a r ih=>
  cases r with
  | nil=>rfl
  | cons b r=>
   have e:(a :: b :: r).length - 1 = ((b :: r).length - 1) + 1:=by
    have h1:(a :: b :: r).length = r.length + 2:=rfl
    have h2:(b :: r).length = r.length + 1:=rfl
    omega
   rw [e,List.eraseIdx_cons_succ,ih]
   all_goals rfl
theorem foldl_rep (its:List Value):∀ (k:Nat) (acc:List Value),
  List.foldl (fun x1 x2=>x1 ++ x2) acc.toArray (List.replicate k its.toArray) = (acc ++ (List.replicate k its).flatten).toArray
 | 0,acc=>by simp
 | k + 1,acc=>by
  have e:acc.toArray ++ its.toArray = (acc ++ its).toArray:=by simp
  have e2:(acc ++ its) ++ (List.replicate k its).flatten = acc ++ (List.replicate (k + 1) its).flatten:=by
   rw [List.replicate_succ,List.flatten_cons,List.append_assoc]
  rw [<- e2,<- foldl_rep its k (acc ++ its),<- e,List.replicate_succ,List.foldl_cons]
section
variable {X:Cx} {pins:List (Addr × Obj)} {σ:St} {H:Hp} {s:Shared} {l b:Addr} {xs ys zs:List V}
theorem Inv.lset {its its':List Value} {n:Nat} {f:Array Value->Array Value} {t':Nat} (I:Inv X pins σ H s) (hH:H l = some (.lst xs))
  (e:s.heap.get? l = some { cls:=.type "list",data:=.seq its.toArray n }) (hf:f its.toArray = its'.toArray) (hv:Vals ys its') (hz:ys.length<=sizeLine) :
  Inv X pins σ (upd H l (.lst ys)) { s with heap:=s.heap.update l (Obj.mapSeq f),toks:=t' }:=by
 have q:=PySem.IsL.update e f
 rw [hf] at q
 refine I.write (x:=l) (e:=l) (by rw [hH]; exact trivial) (.inl rfl) (fun b' u hb hu=>(Heap.get?_update_other s.heap (Obj.mapSeq f) (Ne.symm hb)).trans hu) ⟨_,q⟩ ?_
 exact ⟨hz,its',_,hv,q⟩
theorem Inv.lnew {its:List Value} {t':Nat} (I:Inv X pins σ H s) (hv:Vals ys its) (hz:ys.length<=sizeLine) :
  Inv X pins σ (upd H s.heap.objs.size (.lst ys)) { s with heap:=s.heap.push { cls:=.type "list",data:=.seq its.toArray },toks:=t' }:=
 I.laid (fun _ _ q=>Heap.get?_push_of_some _ q) (Nat.le_refl _) ⟨hz,its,0,hv,Heap.get?_push_size _ rfl⟩
theorem Inv.fresh (I:Inv X pins σ H s):H s.heap.objs.size = none:=I.hok.fresh (Nat.le_refl _)
theorem Inv.lstM (I:Inv X pins σ H s) (hH:H l = some (.lst xs)):xs.length<=sizeLine/\∃ (its:List Value) (n:Nat),Vals xs its/\xs.length = its.length/\s.heap.get? l = some { cls:=.type "list",data:=.seq its.toArray n }:=by
 obtain ⟨z,its,n,r,e⟩:=I.hok l _ hH
 exact ⟨z,its,n,r,r.length,e⟩
theorem b2l {n:Nat} (h:n<=sizeLine):Builtin.List.listTooLong n = false:=by
 unfold Builtin.List.listTooLong
 exact decide_eq_false (by omega)
end
section
variable {X:Cx}
noncomputable def rAppend:V->List V->Hp->VK->Prop:=fun x vs H Q=>∃ l xs y,x = .ref l/\vs = [y]/\H l = some (.lst xs)/\xs.length < sizeLine/\Q .non (upd H l (.lst (xs ++ [y])))
theorem b5c:MtM X "list.append" rAppend:=by
 intro pins s σ H x vs v us Q I rx rv h
 obtain ⟨l,xs,y,rfl,rfl,hH,hz,q⟩:=h
 cases rx
 obtain ⟨u,rfl,ru⟩:=rv.one
 obtain ⟨z,its,n,r,hl,e⟩:=I.lstM hH
 refine call_meets F.slot_list_append ⟨_,e,rfl⟩ F.entry_list_append (F.args_list_append_2 _ _) (PySem.list_append l its.toArray n u (by rw [List.size_toArray]; omega)) ⟨e,?_⟩
 refine ⟨.non,_,I.lset (its':=its ++ [u]) hH e (by simp) (r.append (.cons ru .nil)) ?_,rfl,q⟩
 rw [List.length_append,List.length_singleton]
 omega
noncomputable def rExtend:V->List V->Hp->VK->Prop:=fun x vs H Q=>∃ l b xs zs,x = .ref l/\vs = [.ref b]/\H l = some (.lst xs)/\H b = some (.lst zs)/\xs.length + zs.length<=sizeLine/\Q .non (upd H l (.lst (xs ++ zs)))
theorem c2y:MtM X "list.extend" rExtend:=by
 intro pins s σ H x vs v us Q I rx rv h
 obtain ⟨l,b,xs,zs,rfl,rfl,hH,hB,hz,q⟩:=h
 cases rx
 obtain ⟨u,rfl,ru⟩:=rv.one
 cases ru
 obtain ⟨z,its,n,r,hl,e⟩:=I.lstM hH
 obtain ⟨z2,its2,n2,r2,hl2,e2⟩:=I.lstM hB
 have hsz:its.toArray.size + its2.toArray.size<=sizeLine:=by rw [List.size_toArray,List.size_toArray]; omega
 have hlong:¬ (!its.toArray.isEmpty && Builtin.List.listTooLong (its.toArray.size + its2.toArray.size)) = true:=by
  rw [b2l hsz,Bool.and_false]
  exact Bool.false_ne_true
 refine call_meets F.slot_list_extend ⟨_,e,rfl⟩ F.entry_list_extend (F.args_list_extend_2 _ _)
  (AutoSeq1.list_extend_list_list_0 l its.toArray n b its2.toArray n2 hlong (by rw [List.size_toArray]; omega) (by omega)) ⟨e,e2,?_⟩
 refine ⟨.non,_,I.lset (its':=its ++ its2) hH e (by simp) (r.append r2) ?_,rfl,q⟩
 rw [List.length_append]
 omega
noncomputable def rPop:V->List V->Hp->VK->Prop:=fun x vs H Q=>∃ l xs y,x = .ref l/\vs = []/\H l = some (.lst xs)/\xs[xs.length - 1]? = some y/\Q y (upd H l (.lst xs.dropLast))
theorem mt_pop:MtM X "list.pop" rPop:=by
 intro pins s σ H x vs v us Q I rx rv h
 obtain ⟨l,xs,y,rfl,rfl,hH,hy,q⟩:=h
 cases rx
 have hus:=rv.zero
 subst hus
 obtain ⟨z,its,n,r,hl,e⟩:=I.lstM hH
 obtain ⟨u,hu,ru⟩:=r.get hy
 have hy':its.toArray[its.toArray.size - 1]? = some u:=by
  show its.toArray[its.length - 1]? = some u
  rw [<- Array.getElem?_toList,<- hl]
  exact hu
 refine call_meets F.slot_list_pop ⟨_,e,rfl⟩ F.entry_list_pop (F.args_list_pop_1 _) (MeetsSeq.list_pop_last l its.toArray n u hy' (by rw [List.size_toArray]; omega)) ⟨e,?_⟩
 refine ⟨y,_,I.lset (its':=its.dropLast) hH e ?_ r.dropLast ?_,ru,q⟩
 ·show its.toArray.eraseIdxIfInBounds (its.toArray.size - 1) = its.dropLast.toArray
  rw [List.size_toArray,List.eraseIdxIfInBounds_toArray,c1f]
 ·rw [List.length_dropLast]
  omega
noncomputable def rCat:R2:=fun x y H Q=>∃ l b xs zs,x = .ref l/\y = .ref b/\H l = some (.lst xs)/\H b = some (.lst zs)/\xs.length + zs.length<=sizeLine/\∀ p,H p = none->Q (.ref p) (upd H p (.lst (xs ++ zs)))
theorem op_cat:OpR X (binaryOp .Add) rCat:=by
 intro pins s σ H x y v u Q I rx ry h
 obtain ⟨l,b,xs,zs,rfl,rfl,hH,hB,hz,q⟩:=h
 cases rx
 cases ry
 obtain ⟨z,its,n,r,hl,e⟩:=I.lstM hH
 obtain ⟨z2,its2,n2,r2,hl2,e2⟩:=I.lstM hB
 refine PySem.P.add_list e e2 ?_ (by rw [List.size_toArray,List.size_toArray]; omega)
 have ea:its.toArray ++ its2.toArray = (its ++ its2).toArray:=by simp
 rw [ea]
 exact ⟨.ref _,_,I.lnew (t':=s.toks) (r.append r2) (by rw [List.length_append]; omega),rfl,q _ I.fresh⟩
noncomputable def rRep:R2:=fun x y H Q=>∃ l k xs,x = .ref l/\y = .int k/\H l = some (.lst xs)/\-(2 ^ 63)<=k/\k < 2 ^ 63/\xs.length * k.toNat<=sizeLine /\
 ∀ p,H p = none->Q (.ref p) (upd H p (.lst (List.replicate k.toNat xs).flatten))
theorem len_rep {α:Type} (xs:List α) (k:Nat):(List.replicate k xs).flatten.length = k * xs.length:=by
 induction k with
 | zero=>simp
 | succ k ih=>rw [List.replicate_succ,List.flatten_cons,List.length_append,ih,Nat.succ_mul,Nat.add_comm]
theorem op_rep:OpR X (binaryOp .Mult) rRep:=by
 intro pins s σ H x y v u Q I rx ry h
 obtain ⟨l,k,xs,rfl,rfl,hH,h1,h2,hz,q⟩:=h
 cases rx
 obtain ⟨t,rfl⟩:=ry
 obtain ⟨z,its,n,r,hl,e⟩:=I.lstM hH
 have hlen:its.toArray.size * k.toNat<=sizeLine:=by rw [List.size_toArray,<- hl]; exact hz
 have hcap:¬ its.toArray.size * k.toNat > (2 ^ 63 - 1) / 8:=by
  have:(sizeLine:Nat)<=(2 ^ 63 - 1) / 8:=by decide
  omega
 have hfit:¬ (!Builtin.List.listFitsIndex k) = true:=by
  rw [fitsIndex_both h1 h2]
  exact Bool.false_ne_true
 have hlong:¬ Builtin.List.listTooLong (its.toArray.size * k.toNat) = true:=by
  rw [b2l hlen]
  exact Bool.false_ne_true
 have hnew:List.foldl (fun x1 x2=>x1 ++ x2) #[] (List.replicate (if its.toArray.isEmpty = true then 0 else k.toNat) its.toArray) = (List.replicate k.toNat its).flatten.toArray:=by
  have f0:∀ m:Nat,List.foldl (fun x1 x2=>x1 ++ x2) #[] (List.replicate m its.toArray) = (List.replicate m its).flatten.toArray:=fun m=>by
   have:=foldl_rep its m []
   rw [List.nil_append] at this
   exact this
  rw [f0]
  cases its with
  | nil=>simp
  | cons a r'=>rw [if_neg (by simp)]
 refine wpAny_binaryOp_repeat_ref (T:="list") (U:="int") (by decide) ⟨_,e,rfl⟩ (fun s'=>typeIs_int s' k t) noFill_list_mul F.fills_int_mul F.slot_int_rmul repeat_list F.slot_int_index.lookup
  (call_meets F.slot_int_rmul (typeIs_int s k t) F.entry_int_rmul (F.args_int_rmul_2 _ _) (int___rmul___int_list k t l its.toArray n)
   ⟨e,rfl,⟨_,e,rfl⟩,call_meets F.slot_list_mul ⟨_,e,rfl⟩ F.entry_list_mul (F.args_list_mul_2 _ _) (AutoListH.list___mul___list_int_3 l its.toArray n k t hfit hcap hlong) ⟨e,?_⟩⟩)
 rw [hnew]
 exact ⟨.ref _,_,I.lnew (t':=s.toks) (r.rep k.toNat) (by rw [len_rep,Nat.mul_comm]; exact hz),rfl,q _ I.fresh⟩
end
section
variable {prog:Program} {w:World} {A:Around} {E:Value->Shared->Prop} {s:Shared}
end
section
variable {X:Cx}
end
section
variable {κ:Type} [DecidableEq κ]
noncomputable def valV (kvs:List (κ × V)) (k:κ):Option V:=(kvs.find? fun kv=>decide (kv.1 = k)).map (·.2)
noncomputable def putK (kvs:List (κ × V)) (k:κ) (v:V):List (κ × V):=
 if (kvs.any fun kv=>decide (kv.1 = k)) = true then kvs.map (fun kv=>if kv.1 = k then (kv.1,v) else kv) else kvs ++ [(k,v)]
noncomputable def dropK (kvs:List (κ × V)) (k:κ):List (κ × V):=kvs.filter fun kv=>decide (kv.1 ≠ k)
theorem a2c {p:κ × V} {r:List (κ × V)} {k:κ} (e:p.1 = k):valV (p :: r) k = some p.2:=by simp [valV,List.find?_cons,e]
theorem a2d {p:κ × V} {r:List (κ × V)} {k:κ} (e:¬ p.1 = k):valV (p :: r) k = valV r k:=by simp [valV,List.find?_cons,e]
theorem a5x (k:κ):∀ kvs:List (κ × V),(kvs.any fun kv=>decide (kv.1 = k)) = (valV kvs k).isSome
 | []=>rfl
 | p :: r=>by
  rw [List.any_cons]
  by_cases e:p.1 = k
  ·simp only [a2c e,decide_eq_true e,Bool.true_or,Option.isSome_some]
  ·rw [a2d e,decide_eq_false e,Bool.false_or]; exact a5x k r
theorem b6q (k j:κ) (y:V):∀ kvs:List (κ × V),valV (kvs.map fun kv=>if kv.1 = k then (kv.1,y) else kv) j = (valV kvs j).map fun x=>if j = k then y else x
 | []=>rfl
 | p :: r=>by
  have ih:=b6q k j y r
  rw [List.map_cons]
  by_cases h:p.1 = k
  ·rw [if_pos h]
   by_cases e:p.1 = j
   ·rw [a2c (p:=(p.1,y)) e,a2c e,Option.map_some,if_pos (e.symm.trans h)]
   ·rw [a2d (p:=(p.1,y)) e,a2d e,ih]
  ·rw [if_neg h]
   by_cases e:p.1 = j
   ·rw [a2c (p:=p) e,a2c e,Option.map_some,if_neg (fun z=>h (e.trans z))]
   ·rw [a2d (p:=p) e,a2d e,ih]
theorem b5d (k j:κ) (y:V):∀ kvs:List (κ × V),valV kvs k = none->valV (kvs ++ [(k,y)]) j = if j = k then some y else valV kvs j
 | [],_=>by
  by_cases e:k = j
  ·rw [if_pos e.symm]; exact a2c (p:=(k,y)) e
  ·rw [if_neg (fun z=>e z.symm)]; exact a2d (p:=(k,y)) e
 | p :: r,hn=>by
  rw [List.cons_append]
  have hk:¬ p.1 = k:=fun z=>by rw [a2c z] at hn; cases hn
  rw [a2d hk] at hn
  have ih:=b5d k j y r hn
  by_cases e:p.1 = j
  ·rw [a2c e,a2c e,if_neg (fun z=>hk (e.trans z))]
  ·rw [a2d e,a2d e,ih]
theorem b0f (kvs:List (κ × V)) (k j:κ) (y:V):valV (putK kvs k y) j = if j = k then some y else valV kvs j:=by
 unfold putK
 by_cases a:(kvs.any fun kv=>decide (kv.1 = k)) = true
 ·rw [if_pos a,b6q]
  rw [a5x] at a
  by_cases e:j = k
  ·obtain ⟨x,hx⟩:=Option.isSome_iff_exists.mp a
   rw [if_pos e,e,hx,Option.map_some,if_pos rfl]
  ·rw [if_neg e]
   cases valV kvs j with
   | none=>rfl
   | some x=>rw [Option.map_some,if_neg e]
 ·rw [if_neg a]
  refine b5d k j y kvs ?_
  rw [a5x] at a
  cases q:valV kvs k with
  | none=>rfl
  | some x=>rw [q] at a; exact (a rfl).elim
theorem a9f (kvs:List (κ × V)) (k:κ) (v:V):(putK kvs k v).length<=kvs.length + 1:=by
 unfold putK
 split
 ·rw [List.length_map]; omega
 ·rw [List.length_append,List.length_cons,List.length_nil]; omega
theorem a7a {kvs:List (κ × V)} {k:κ} (v:V) (h:valV kvs k = none):putK kvs k v = kvs ++ [(k,v)]:=by
 unfold putK
 rw [a5x,h]
 exact if_neg (by decide)
theorem RelO.isSome_eq {o:Option V} {u:Option Value} (r:RelO o u):o.isSome = u.isSome:=by
 cases o with
 | none=>cases u with
  | none=>rfl
  | some _=>exact (show False from r).elim
 | some _=>cases u with
  | none=>exact (show False from r).elim
  | some _=>rfl
theorem RelO.getD {o:Option V} {u:Option Value} {d:V} {d':Value} (r:RelO o u) (rd:RelV d d'):RelV (o.getD d) (u.getD d'):=by
 cases o with
 | none=>cases u with
  | none=>exact rd
  | some _=>exact (show False from r).elim
 | some _=>cases u with
  | none=>exact (show False from r).elim
  | some _=>exact r
theorem KV.val {kvs:List (κ × V)} {vs:List (κ × Value)} (r:KV kvs vs) (k:κ):RelO (valV kvs k) (valueAt vs k):=by
 unfold KV at r
 induction r with
 | nil=>exact True.intro
 | @cons p q ps qs h t ih=>
  obtain ⟨h1,h2⟩:=h
  by_cases e:p.1 = k
  ·have e':q.1 = k:=h1.symm.trans e
   have b:valueAt (q :: qs) k = some q.2:=by simp [valueAt,List.find?_cons,e']
   rw [a2c e,b]; exact h2
  ·have e':¬ q.1 = k:=fun z=>e (h1.trans z)
   have b:valueAt (q :: qs) k = valueAt qs k:=by simp [valueAt,List.find?_cons,e']
   rw [a2d e,b]; exact ih
theorem KV.any {kvs:List (κ × V)} {vs:List (κ × Value)} (r:KV kvs vs) (k:κ):(kvs.any fun kv=>decide (kv.1 = k)) = vs.any fun kv=>decide (kv.1 = k):=by
 unfold KV at r
 induction r with
 | nil=>rfl
 | cons h t ih=>rw [List.any_cons,List.any_cons,ih,h.1]
theorem KV.repl {kvs:List (κ × V)} {vs:List (κ × Value)} (r:KV kvs vs) (k:κ) {y:V} {u:Value} (ry:RelV y u) :
  KV (kvs.map fun kv=>if kv.1 = k then (kv.1,y) else kv) (vs.map fun kv=>if kv.1 = k then (kv.1,u) else kv):=by
 unfold KV at r ⊢
 induction r with
 | nil=>exact .nil
 | @cons p q ps qs h t ih=>
  rw [List.map_cons,List.map_cons]
  refine .cons ?_ ih
  obtain ⟨h1,h2⟩:=h
  by_cases e:p.1 = k
  ·rw [if_pos e,if_pos (h1.symm.trans e)]; exact ⟨h1,ry⟩
  ·rw [if_neg e,if_neg (fun z=>e (h1.trans z))]; exact ⟨h1,h2⟩
theorem KV.put {kvs:List (κ × V)} {vs:List (κ × Value)} (r:KV kvs vs) (k:κ) {y:V} {u:Value} (ry:RelV y u):KV (putK kvs k y) (stored vs k u):=by
 unfold putK stored
 rw [r.any k]
 by_cases e:(vs.any fun kv=>decide (kv.1 = k)) = true
 ·rw [if_pos e,if_pos e]; exact r.repl k ry
 ·rw [if_neg e,if_neg e]; exact Paired.snoc r ⟨rfl,ry⟩
theorem KV.drop {kvs:List (κ × V)} {vs:List (κ × Value)} (r:KV kvs vs) (k:κ):KV (dropK kvs k) (without vs k):=by
 unfold KV at r ⊢
 unfold dropK without
 induction r with
 | nil=>exact .nil
 | @cons p q ps qs h t ih=>
  obtain ⟨h1,h2⟩:=h
  rw [List.filter_cons,List.filter_cons]
  by_cases e:p.1 = k
  ·have a:¬ decide (p.1 ≠ k) = true:=by simp [e]
   have b:¬ decide (q.1 ≠ k) = true:=by simp [h1.symm.trans e]
   rw [if_neg a,if_neg b]; exact ih
  ·have e':¬ q.1 = k:=fun z=>e (h1.trans z)
   have a:decide (p.1 ≠ k) = true:=by simp [e]
   have b:decide (q.1 ≠ k) = true:=by simp [e']
   rw [if_pos a,if_pos b]; exact .cons ⟨h1,h2⟩ ih
theorem KV.length {kvs:List (κ × V)} {vs:List (κ × Value)} (r:KV kvs vs):kvs.length = vs.length:=Paired.length r
end
theorem b1q {P:Program} {w:World} {k:Key} {u:Value} (r:RelV (kV k) u):(a1k P w).is k u = true:=by
 cases k with
 | inl i=>obtain ⟨t,e⟩:=(show ∃ t,u = Value.int i t from r); subst e; exact a9d P w i t
 | inr x=>obtain ⟨t,e⟩:=(show ∃ t,u = Value.str x t from r); subst e; exact a9e P w x t
theorem b5e {P:Program} {w:World}:∀ {ks:List Key} {us:List Value},Vals (ks.map kV) us->ItemsAre (a1k P w) ks us
 | [],_,r=>by rw [List.map_nil] at r; cases r; exact .nil
 | k :: ks,_,r=>by
  rw [List.map_cons] at r
  cases r with
  | cons h t=>exact .cons (b1q h) (b5e t)
noncomputable abbrev KT (H:Hp):List (List Key × V)->List (List Key × Addr × Value)->Prop:=Paired fun p q=>p.1 = q.1/\H q.2.1 = some (.tup (p.1.map kV))/\RelV p.2 q.2.2
theorem KT.val {H:Hp} {kvs:List (List Key × V)} {xs:List (List Key × Addr × Value)} (r:KT H kvs xs) (k:List Key):RelO (valV kvs k) ((atKey xs k).map (·.2)):=by
 induction r with
 | nil=>exact True.intro
 | @cons p q ps qs h t ih=>
  obtain ⟨h1,_,h2⟩:=h
  by_cases e:p.1 = k
  ·have e':q.1 = k:=h1.symm.trans e
   have b:atKey (q :: qs) k = some q.2:=by simp [atKey,List.find?_cons,e']
   rw [a2c e,b]; exact h2
  ·have e':¬ q.1 = k:=fun z=>e (h1.trans z)
   have b:atKey (q :: qs) k = atKey qs k:=by simp [atKey,List.find?_cons,e']
   rw [a2d e,b]; exact ih
theorem KT.repl {H:Hp} {kvs:List (List Key × V)} {xs:List (List Key × Addr × Value)} (r:KT H kvs xs) (k:List Key) {y:V} {u:Value} (ry:RelV y u) :
  KT H (kvs.map fun kv=>if kv.1 = k then (kv.1,y) else kv) (xs.map (putAt k u)):=by
 induction r with
 | nil=>exact .nil
 | @cons p q ps qs h t ih=>
  rw [List.map_cons,List.map_cons]
  refine .cons ?_ ih
  obtain ⟨h1,h2,h3⟩:=h
  unfold putAt
  by_cases e:p.1 = k
  ·rw [if_pos e,if_pos (h1.symm.trans e)]; exact ⟨h1,h2,ry⟩
  ·rw [if_neg e,if_neg (fun z=>e (h1.trans z))]; exact ⟨h1,h2,h3⟩
theorem KT.put {H:Hp} {kvs:List (List Key × V)} {xs:List (List Key × Addr × Value)} (r:KT H kvs xs) (k:List Key) {b:Addr} {y:V} {u:Value} (hb:H b = some (.tup (k.map kV))) (ry:RelV y u) :
  KT H (putK kvs k y) (storedH xs k b u):=by
 have e:(kvs.any fun kv=>decide (kv.1 = k)) = (atKey xs k).isSome:=by
  rw [a5x,(r.val k).isSome_eq,Option.isSome_map]
 unfold putK storedH
 rw [e]
 by_cases q:(atKey xs k).isSome = true
 ·rw [if_pos q,if_pos q]; exact r.repl k ry
 ·rw [if_neg q,if_neg q]; exact Paired.snoc r ⟨rfl,hb,ry⟩
theorem KT.keeps {H H':Hp} {kvs:List (List Key × V)} {xs:List (List Key × Addr × Value)} (r:KT H kvs xs) (ht:∀ b ys,H b = some (.tup ys)->H' b = some (.tup ys)):KT H' kvs xs:=
 Paired.mapP r fun _ _ z=>⟨z.1,ht _ _ z.2.1,z.2.2⟩
section
variable {P:Program} {w:World} {H:Hp} {h:Heap} {a:Addr}
theorem rd_of {u:HO} (ok:HOk P w H h) (e:Rd H a u):a1m P w H h a u:=e.ok ok
theorem b1r {kvs:List (Key × V)} (ok:HOk P w H h) (e:Rd H a (.dK kvs)):kvs.length<=sizeLine/\(a == sysModules) = false/\∃ vs,KV kvs vs/\h.DictOf (a1k P w) a vs:=
 show a1m P w H h a (.dK kvs) from rd_of ok e
theorem dk_of {kvs:List (Key × V)} (ok:HOk P w H h) (e:H a = some (.dK kvs)):kvs.length<=sizeLine/\(a == sysModules) = false/\∃ vs,KV kvs vs/\h.DictOf (a1k P w) a vs:=b1r ok (.inl e)
theorem b0x {ks:List Key} (ok:HOk P w H h) (e:H a = some (.tup (ks.map kV))):(tupleKind (a1k P w)).is h ks a:=by
 obtain ⟨_,its,r,o,h1,h2,n,h3⟩:=(show a1m P w H h a (.tup (ks.map kV)) from ok a _ e)
 exact ⟨o,its.toArray,n,h1,h2,h3,by simpa using b5e r⟩
theorem b1s {kvs:List (List Key × V)} (ok:HOk P w H h) (e:Rd H a (.dT kvs)):kvs.length<=sizeLine/\(a == sysModules) = false /\
  ∃ xs,KT H kvs xs/\h.DictOfH (tupleKind (a1k P w)) a xs:=by
 obtain ⟨z,y,xs,r,o,es,ep,h1,h2,h3,h4,h5⟩:=(show a1m P w H h a (.dT kvs) from rd_of ok e)
 refine ⟨z,y,xs,r,o,es,ep,h1,h2,h3,h4,fun x hx=>?_,h5⟩
 have all:∀ {l:List (List Key × V)} {m:List (List Key × Addr × Value)},KT H l m->∀ x ∈ m,(tupleKind (a1k P w)).is h x.1 x.2.1:=by
  intro l m q
  induction q with
  | nil=>intro x hx; exact nomatch hx
  | @cons p q ps qs hq t ih=>
   intro x hx
   rcases List.mem_cons.mp hx with e | hx
   ·subst e
    exact b0x ok (by rw [<- hq.1]; exact hq.2.1)
   ·exact ih x hx
 exact all r x hx
theorem dt_of {kvs:List (List Key × V)} (ok:HOk P w H h) (e:H a = some (.dT kvs)):kvs.length<=sizeLine/\(a == sysModules) = false /\
  ∃ xs,KT H kvs xs/\h.DictOfH (tupleKind (a1k P w)) a xs:=b1s ok (.inl e)
end
noncomputable def DGet (H:Hp) (a:Addr) (y:V) (r:Option V):Prop:=
 (∃ kvs k,Rd H a (.dK kvs)/\y = kV k/\r = valV kvs k)\/∃ kvs k b,Rd H a (.dT kvs)/\y = .ref b/\H b = some (.tup (k.map kV))/\r = valV kvs k
noncomputable def DPut (H:Hp) (a:Addr) (y v:V) (H':Hp):Prop:=
 (∃ kvs k,H a = some (.dK kvs)/\y = kV k/\kvs.length < sizeLine/\H' = upd H a (.dK (putK kvs k v))) \/
 ∃ kvs k b,H a = some (.dT kvs)/\y = .ref b/\H b = some (.tup (k.map kV))/\kvs.length < sizeLine/\H' = upd H a (.dT (putK kvs k v))
theorem DGet.k {H:Hp} {a:Addr} {kvs:List (Key × V)} {k:Key} (e:H a = some (.dK kvs)):DGet H a (kV k) (valV kvs k):=.inl ⟨kvs,k,.inl e,rfl,rfl⟩
theorem DGet.t {H:Hp} {a b:Addr} {kvs:List (List Key × V)} {k:List Key} (e:H a = some (.dT kvs)) (eb:H b = some (.tup (k.map kV))):DGet H a (.ref b) (valV kvs k):=.inr ⟨kvs,k,b,.inl e,rfl,eb,rfl⟩
theorem DPut.k {H:Hp} {a:Addr} {kvs:List (Key × V)} {k:Key} {v:V} (e:H a = some (.dK kvs)) (hl:kvs.length < sizeLine):DPut H a (kV k) v (upd H a (.dK (putK kvs k v))):=.inl ⟨kvs,k,e,rfl,hl,rfl⟩
theorem DPut.t {H:Hp} {a b:Addr} {kvs:List (List Key × V)} {k:List Key} {v:V} (e:H a = some (.dT kvs)) (eb:H b = some (.tup (k.map kV))) (hl:kvs.length < sizeLine) :
  DPut H a (.ref b) v (upd H a (.dT (putK kvs k v))):=.inr ⟨kvs,k,b,e,rfl,eb,hl,rfl⟩
section
variable {X:Cx} {pins:List (Addr × Obj)} {σ:St} {H:Hp} {s:Shared} {a:Addr} {y v:V} {u r:Value} {o:Option V} {A:Around} {E:Value->Shared->Prop}
theorem Inv.big (I:Inv X pins σ H s):sysModules < s.heap.objs.size:=by
 have h:mainGlobals < s.heap.objs.size:=(I.mod.glob.keeps I.bk).lt
 exact Nat.lt_trans (by decide) h
theorem c2z {Q:Value->Shared->Prop} (hu:A.units + 1 < cLine) (I:Inv X pins σ H s) (g:DGet H a y (some v)) (ry:RelV y u) (h:∀ w' s',Inv X pins σ H s'->RelV v w'->Q w' s') :
  wpAny (model X.prog X.w) A (getItem (.ref a) u) Q E s:=by
 rcases g with ⟨kvs,k,e,ey,l⟩ | ⟨kvs,k,b,e,ey,eb,l⟩
 ·subst ey
  obtain ⟨z,hd,vs,rel,dd⟩:=b1r I.hok e
  obtain ⟨w',hw,rw'⟩:=RelO.some_of (v:=v) (o:=valueAt vs k) (by rw [l]; exact rel.val k)
  exact wpAny_getItem_of (b1q ry) dd.mapOf hw (h w' _ (I.tok _) rw')
 ·subst ey
  cases (show u = Value.ref b from ry)
  obtain ⟨z,hd,xs,rel,dd⟩:=b1s I.hok e
  obtain ⟨w',hw,rw'⟩:=RelO.some_of (v:=v) (o:=(atKey xs k).map (·.2)) (by rw [l]; exact rel.val k)
  obtain ⟨p,hp,hp2⟩:=Option.map_eq_some_iff.mp hw
  refine wpAny_getItem_heap (tupleKind_room_in1 hu) (b0x I.hok eb) dd hp ?_
  rw [hp2]
  exact h w' _ (I.tok _) rw'
theorem d_notIn {Q:Value->Shared->Prop} (hu:A.units + 1 < cLine) (I:Inv X pins σ H s) (g:DGet H a y o) (ry:RelV y u) (h:∀ s',Inv X pins σ H s'->Q (.bool (!o.isSome)) s') :
  wpAny (model X.prog X.w) A (compareOp .NotIn u (.ref a)) Q E s:=by
 rcases g with ⟨kvs,k,e,ey,l⟩ | ⟨kvs,k,b,e,ey,eb,l⟩
 ·subst ey
  obtain ⟨z,hd,vs,rel,dd⟩:=b1r I.hok e
  refine wpAny_notIn_of (b1q ry) hd dd.mapOf ?_
  rw [<- (rel.val k).isSome_eq,<- l]
  exact h _ (I.tok _)
 ·subst ey
  cases (show u = Value.ref b from ry)
  obtain ⟨z,hd,xs,rel,dd⟩:=b1s I.hok e
  refine wpAny_notIn_heap (tupleKind_room_in1 hu) (b0x I.hok eb) hd dd ?_
  have q:=(rel.val k).isSome_eq
  rw [Option.isSome_map] at q
  rw [<- q,<- l]
  exact h _ (I.tok _)
theorem b4f {h':Heap} {t':Nat} {ob:HO} (I:Inv X pins σ H s) (mu:Mut (H a)) (hs:Heap.SameBut a s.heap h') (he:∃ q,h'.get? a = some q) (new:a1m X.prog X.w (upd H a ob) h' a ob) :
  Inv X pins σ (upd H a ob) { s with heap:=h',toks:=t' }:=
 I.write (x:=a) (e:=a) mu (.inl rfl) (fun b q hb z=>(hs.2 b hb).trans z) he new
theorem c3a {P:Program} {w:World} {H':Hp} {h':Heap} {kvs:List (Key × V)} {vs:List (Key × Value)} (z:kvs.length<=sizeLine) (hd:(a == sysModules) = false) (rel:KV kvs vs) (dd:h'.DictOf (a1k P w) a vs) :
  a1m P w H' h' a (.dK kvs):=⟨z,hd,vs,rel,dd⟩
theorem c3b {H':Hp} {Q:Unit->Shared->Prop} (hu:A.units + 1 < cLine) (I:Inv X pins σ H s) (g:DPut H a y v H') (ry:RelV y u) (rv:RelV v r) (h:∀ s',Inv X pins σ H' s'->Q () s') :
  wpAny (model X.prog X.w) A (setItem (.ref a) u r) Q E s:=by
 rcases g with ⟨kvs,k,e,ey,l,eH⟩ | ⟨kvs,k,b,e,ey,eb,l,eH⟩
 ·subst ey eH
  obtain ⟨z,hd,vs,rel,dd⟩:=dk_of I.hok e
  have hz:vs.length<=sizeLine:=by rw [<- rel.length]; exact z
  have hl:(putK kvs k v).length<=sizeLine:=by have:=a9f kvs k v; omega
  refine wpAny_setItem_pairs (hsz:=hz) (b1q ry) dd fun h' dd' hs=>h _ ?_
  have he:∃ q,h'.get? a = some q:=let ⟨q,_,_,hq,_⟩:=dd'; ⟨q,hq⟩
  exact b4f I (by rw [e]; exact True.intro) hs he (c3a hl hd (rel.put k rv) dd')
 ·subst ey eH
  cases (show u = Value.ref b from ry)
  obtain ⟨z,hd,xs,rel,dd⟩:=dt_of I.hok e
  have hz:xs.length<=sizeLine:=by rw [<- Paired.length rel]; exact z
  have hl:(putK kvs k v).length<=sizeLine:=by have:=a9f kvs k v; omega
  refine wpAny_setItem_heap (hsz:=hz) (tupleKind_room_in1 hu) (b0x I.hok eb) dd fun h' dd' hs=>h _ ?_
  obtain ⟨q,es,ep,hq,h2,h3,h4,_,h5⟩:=dd'
  refine b4f I (by rw [e]; exact True.intro) hs ⟨q,hq⟩ ⟨hl,hd,_,(rel.put k eb rv).keeps fun c ys ec=>?_,q,es,ep,hq,h2,h3,h4,h5⟩
  rw [a0j (ne_of ec e (fun z=>nomatch z))]
  exact ec
end
section
variable {X:Cx} {pins:List (Addr × Obj)} {σ:St} {H:Hp} {s:Shared} {a:Addr} {kvs:List (Key × V)} {k:Key} {u:Value} {A:Around} {E:Value->Shared->Prop}
end
noncomputable def NoSl (i:Expr):Prop:=∀ ov iv,subscripted i false ov iv = operate [ov,iv] (getItem ov iv)
theorem subD_of {prog:Program} {w:World} {A:Around} {E:Value->Shared->Prop} {s:Shared} {env:Env} {value slice:Expr} {pos:Pos} {T id:String} {Q:Value->Shared->Prop}
  (hl:typeLookup (.type T) "__getitem__" = pure (some (.builtin id))) (hs:NoSl slice)
  (h:wpAny (model prog w) A (eval value env) (fun o s₁=>wpAny (model prog w) A (eval slice env) (fun i s₂=>s₂.TypeIs o T/\wpAny (model prog w) A (getItem o i) Q E s₂) E s₁) E s) :
  wpAny (model prog w) A (eval (.Subscript value slice pos) env) Q E s:=by
 refine Subscript_ (wpAny_mono h (fun o s₁ h₁=>wpAny_mono h₁ (fun i s₂ h₂=>?_) fun _ _ x=>x) fun _ _ x=>x)
 obtain ⟨hT,h₂⟩:=h₂
 unfold subscriptTail
 refine wpAny_bind ?_
 rw [getitemInPython_of_ne hT.not_modules]
 refine wpAny_bind (wpAny_specialOf hT hl ?_)
 have fin:wpAny (model prog w) A (subscripted slice false o i) (fun r s₃=>wpAny (model prog w) A (letTemporaryGo value o r >>= fun _=>pure r) Q E s₃) E s₂:=by
  rw [hs o i]
  exact wpAny_operating (wpAny_mono h₂ (fun r s₃ h₃=>wpAny_bind (wpAny_letTemporaryGo (wpAny_pure h₃))) fun _ _ x=>x)
 first
  | exact wpAny_pure (wpAny_bind fin)
  | exact wpAny_bind (wpAny_pure (wpAny_bind fin))
  | exact wpAny_bind fin
theorem b8x {X:Cx} {pins:List (Addr × Obj)} {σ:St} {H:Hp} {s:Shared} {a:Addr} {y:V} {o:Option V} (I:Inv X pins σ H s) (g:DGet H a y o):s.TypeIs (.ref a) "dict":=by
 rcases g with ⟨kvs,k,e,_,_⟩ | ⟨kvs,k,b,e,_,_,_⟩
 ·obtain ⟨_,_,vs,_,dd⟩:=b1r I.hok e
  exact dd.typeIs
 ·obtain ⟨_,_,xs,_,dd⟩:=b1s I.hok e
  exact dd.typeIs
noncomputable def tDGet (td ty:TE):TE:=fun σ H Q=>td σ H fun x H1=>ty σ H1 fun y H2=>∃ a v,x = .ref a/\DGet H2 a y (some v)/\Q v H2
noncomputable def sDPut (td ty tv:TE):TS:=fun D σ H=>tv σ H fun v H1=>td σ H1 fun x H2=>ty σ H2 fun y H3=>∃ a H4,x = .ref a/\DPut H3 a y v H4/\D.nx σ H4
section
variable {X:Cx} {o i e value:Expr} {pos pos' tpos:Pos} {td ty tv:TE}
theorem a9k (hu:X.A.units + 1 < cLine) (ho:PE X o td) (hi:PE X i ty) (hs:NoSl i):PE X (.Subscript o i pos) (tDGet td ty):=by
 intro pins s σ H Q I h
 refine subD_of F.slot_dict_getitem.lookup hs (thn (ho pins s σ H _ I h) fun u s1 ⟨x,H1,I1,rx,q1⟩=>thn (hi pins s1 σ H1 _ I1 q1) fun iv s2 ⟨y,H2,I2,ry,a,v,ex,g,q2⟩=>?_)
 subst ex
 obtain rfl:u = Value.ref a:=rx
 exact ⟨b8x I2 g,c2z hu I2 g ry fun w' s3 I3 rw'=>⟨v,H2,I3,rw',q2⟩⟩
theorem a9l (hu:X.A.units + 1 < cLine) (ho:PE X o td) (hi:PE X i ty) (hv:PE X value tv) (hs:swapsWith value (some (.Subscript o i pos')) pos.line X.env = pure false) :
  PS X (.Assign [.Subscript o i pos'] value pos) (sDPut td ty tv):=by
 intro pins s σ H D I h
 refine wpAny_Assign_Subscript (thn (hv pins s σ H _ I h) fun r s1 ⟨v,H1,I1,rv,q1⟩=>thn (ho pins s1 σ H1 _ I1 q1) fun u s2 ⟨x,H2,I2,rx,q2⟩=>thn (hi pins s2 σ H2 _ I2 q2) fun iv s3 ⟨y,H3,I3,ry,a,H4,ex,g,q3⟩=>?_) hs
 subst ex
 obtain rfl:u = Value.ref a:=rx
 exact c3b hu I3 g ry rv fun s4 I4=>⟨σ,H4,I4,q3⟩
end
theorem c5t {P:Program} {w:World} {H:Hp} (h:Heap) (hb:sysModules < h.objs.size):a1m P w H (h.push { cls:=.type "dict",data:=.dict #[] }) h.objs.size (.dK []):=
 ⟨Nat.zero_le _,beq_eq_false_iff_ne.mpr (Ne.symm (Nat.ne_of_lt hb)),[],.nil,Heap.DictOf.new h⟩
theorem c5u {P:Program} {w:World} {H:Hp} (h:Heap) (hb:sysModules < h.objs.size):a1m P w H (h.push { cls:=.type "dict",data:=.dict #[] }) h.objs.size (.dT []):=
 ⟨Nat.zero_le _,beq_eq_false_iff_ne.mpr (Ne.symm (Nat.ne_of_lt hb)),[],.nil,_,#[],0,Heap.get?_push_size _ rfl,⟨rfl,rfl,rfl⟩,rfl,rfl,List.nodup_nil⟩
noncomputable def tDNewK:TE:=fun _ H Q=>∀ p,H p = none->Q (.ref p) (upd H p (.dK []))
noncomputable def tDNewT:TE:=fun _ H Q=>∀ p,H p = none->Q (.ref p) (upd H p (.dT []))
section
variable {X:Cx} {pos:Pos}
theorem a8l:PE X (.Dict [] [] pos) tDNewK:=fun pins s σ H Q I h=>
 wpAny_Dict_empty ⟨.ref s.heap.objs.size,_,I.laid (a:=s.heap.objs.size) (o:=.dK []) (t':=s.toks) (fun _ _ q=>Heap.get?_push_of_some _ q) (Nat.le_refl _) (c5t s.heap I.big),rfl,h _ (I.hok.fresh (Nat.le_refl _))⟩
theorem c5v:PE X (.Dict [] [] pos) tDNewT:=fun pins s σ H Q I h=>
 wpAny_Dict_empty ⟨.ref s.heap.objs.size,_,I.laid (a:=s.heap.objs.size) (o:=.dT []) (t':=s.toks) (fun _ _ q=>Heap.get?_push_of_some _ q) (Nat.le_refl _) (c5u s.heap I.big),rfl,h _ (I.hok.fresh (Nat.le_refl _))⟩
end
structure M2 (X:Cx) (o:Expr) (m:Str) (apos:Pos) (e f:Expr) (cpos:Pos):Prop where
 base:attributeBase o m X.env (eval o X.env) = eval o X.env
 few:((backTo cpos (starEach [e,f] X.env)).all (fun x=>!x.1) && (backToKw cpos (keywordEach [] X.env)).all (fun x=>x.1.isSome)
  && decide (([e,f]:List Expr).length + ([]:List Keyword).length + (if ([]:List Keyword).isEmpty then 0 else 1) < 30)) = true
 line:(apos.endLine == cpos.line) = true
 trees:backTo cpos (starEach [e,f] X.env) = [(false,eval e X.env),(false,eval f X.env)]
noncomputable def IsD (H:Hp) (a:Addr):Prop:=(∃ kvs,Rd H a (.dK kvs))\/∃ kvs,Rd H a (.dT kvs)
theorem isD_at {X:Cx} {pins:List (Addr × Obj)} {σ:St} {H:Hp} {s:Shared} {a:Addr} (I:Inv X pins σ H s) (d:IsD H a) :
  s.TypeIs (.ref a) "dict"/\(∀ b,Value.ref a = .ref b->∃ ob,s.heap.get? b = some ob/\ob.dict = none)/\(a == sysModules) = false:=by
 rcases d with ⟨kvs,e⟩ | ⟨kvs,e⟩
 ·obtain ⟨_,hd,vs,_,dd⟩:=b1r I.hok e
  refine ⟨dd.typeIs,fun b q=>?_,hd⟩
  cases q
  obtain ⟨ob,_,_,h1,h2,_⟩:=dd
  exact ⟨ob,h1,h2.2.1⟩
 ·obtain ⟨_,hd,xs,_,dd⟩:=b1s I.hok e
  refine ⟨dd.typeIs,fun b q=>?_,hd⟩
  cases q
  obtain ⟨ob,_,_,h1,h2,_⟩:=dd
  exact ⟨ob,h1,h2.2.1⟩
section
variable {X:Cx} {pins:List (Addr × Obj)} {σ:St} {H:Hp} {s:Shared} {a:Addr} {y d:V} {u r:Value} {o:Option V} {A:Around} {E:Value->Shared->Prop}
theorem d_get2 {Q:Value->Shared->Prop} (hu:A.units + 1 < cLine) (I:Inv X pins σ H s) (g:DGet H a y o) (ry:RelV y u) (rd:RelV d r) (h:∀ w' s',Inv X pins σ H s'->RelV (o.getD d) w'->Q w' s') :
  wpAny (model X.prog X.w) A (call (.builtin "dict.get") [.ref a,u,r]) Q E s:=by
 rcases g with ⟨kvs,k,e,ey,l⟩ | ⟨kvs,k,b,e,ey,eb,l⟩
 ·subst ey
  obtain ⟨z,hd,vs,rel,dd⟩:=b1r I.hok e
  refine call_meetsIn F.slot_dict_get dd.typeIs F.entry_dict_get (F.args_dict_get_3 _ _ _) (meets_dict_get_default (a1k X.prog X.w) a (b1q ry) hd r) ⟨_,dd.mapOf,h _ _ (I.tok _) ?_⟩
  rw [l]
  exact (rel.val k).getD rd
 ·subst ey
  cases (show u = Value.ref b from ry)
  obtain ⟨z,hd,xs,rel,dd⟩:=b1s I.hok e
  refine call_meetsIn F.slot_dict_get dd.typeIs F.entry_dict_get (F.args_dict_get_3 _ _ _) (meetsH_dict_get_default (tupleKind (a1k X.prog X.w)) a b hd r) ⟨tupleKind_room_in1 hu,k,xs,b0x I.hok eb,dd,h _ _ (I.tok _) ?_⟩
  rw [l]
  exact (rel.val k).getD rd
end
noncomputable def c3c (td ty tx:TE):TE:=fun σ H Q=>td σ H fun x H1=>∃ a,x = .ref a/\IsD H1 a/\ty σ H1 fun y H2=>tx σ H2 fun z H3=>∃ o,DGet H3 a y o/\Q (o.getD z) H3
section
variable {X:Cx} {o e f:Expr} {apos cpos:Pos} {td ty tx:TE}
theorem b2m (hu:X.A.units + 1 < cLine) (ho:PE X o td) (he:PE X e ty) (hf:PE X f tx) (m:M2 X o "get" apos e f cpos):PE X (.Call (.Attribute o "get" apos) [e,f] [] cpos) (c3c td ty tx):=by
 intro pins s σ H Q I h
 refine wpAny_Call_method m.base m.few m.line F.plainAttrs_dict F.slot_dict_get F.type_dict_get (thn (ho pins s σ H _ I h) fun u s1 ⟨x,H1,I1,rx,a,ex,d,q1⟩=>?_)
 subst ex
 obtain rfl:u = Value.ref a:=rx
 obtain ⟨t1,t2,_⟩:=isD_at I1 d
 refine ⟨t1,t2,?_⟩
 rw [m.trees]
 refine Calls.callWith_builtin rfl (Calls.evalArgs_plain (Calls.spliced_cons (thn (he pins s1 σ H1 _ I1 q1) fun iv s2 ⟨y,H2,I2,ry,q2⟩=>
  Calls.spliced_cons (thn (hf pins s2 σ H2 _ I2 q2) fun fv s3 ⟨z,H3,I3,rz,ov,g,q3⟩=>Calls.spliced_nil ?_))))
 exact d_get2 hu I3 g ry rz fun w' s4 I4 rw'=>⟨_,H3,I4,rw',q3⟩
end
section
variable {X:Cx} {pins:List (Addr × Obj)} {σ:St} {H:Hp} {s:Shared} {a:Addr} {kvs:List (Key × V)} {A:Around} {E:Value->Shared->Prop}
end
section
variable {X:Cx} {pins:List (Addr × Obj)} {σ:St} {H:Hp} {s:Shared} {a:Addr} {y:V} {u:Value} {A:Around} {E:Value->Shared->Prop}
end
end L2
namespace Att
open PySem PySem.W PySem.Calls PyProof.Rows
theorem b3g {P:Params} {h:Heap}:∀ (ns:List Int) (vs:List Value),WellAll P h vs (ns.map WData.int)->IntsAre vs ns:=by
 intro ns
 induction ns with
 | nil=>
  intro vs w
  rw [List.map_nil] at w
  cases w
  exact .nil
 | cons n ns ih=>
  intro vs w
  rw [List.map_cons] at w
  cases w with
  | cons a b=>
   cases a
   exact .cons _ _ (ih _ b)
theorem c3d {l:OpenLaw} {n:Nat} (hn:l.most = some n) {P:Params} {h:Heap} {args:List WData} {vals:List Value}
  (hpre:l.row.toRowW.claim.pre args = true) (hwl:WellAll P h vals args) :
  ∃ a vs ns,vals = [Value.ref a]/\args = [WData.list (ns.map WData.int)]/\h.get? a = some { cls:=.type "list",data:=.seq vs.toArray }/\IntsAre vs ns/\ns.length<=n:=by
 have hsh:WShape.hasAll [] args [.list .int] = true:=(pre_splitW hpre).1
 have hc:l.pre.holds [] { args:=args } = true:=(pre_splitW hpre).2
 obtain ⟨d,r,rfl,h1,h2⟩:=hasAllW_cons hsh
 obtain rfl:=hasAllW_nil h2
 obtain ⟨xs,rfl,h3⟩:=hasW_list h1
 obtain ⟨ns,rfl⟩:=items_int h3
 have hlen:ns.length<=n:=by
  unfold OpenLaw.pre at hc
  have h4:(WTm.not (.lt (.lit (.int (n:Int))) (.len (.arg 0)))).holds [] { args:=[.list (ns.map .int)] } = true:=by
   have h4:=(holds_andW hc).1
   rw [hn] at h4
   exact h4
  have h5:=condW_of h4 (w_not (w_lt w_lit (w_len_list (w_arg rfl))))
  rw [List.length_map] at h5
  refine Nat.le_of_not_lt fun q=>?_
  have q':(n:Int) < ((ns.length:Nat):Int):=by omega
  first
   | (rw [decide_eq_true q'] at h5; exact absurd h5 (by decide))
   | (simp at h5; omega)
 cases hwl with
 | cons w1 w2=>
  cases w2
  cases w1 with
  | list ho hall=>exact ⟨_,_,ns,rfl,rfl,ho,b3g ns _ hall,hlen⟩
theorem c3e (l:OpenLaw) (args:List WData):l.row.toRowW.claim.post args (.bool true) args = true:=
 postW_of (r:=l.row.toRowW) (X:=(true == true))
  (show WShape.has [] (.bool true) .bool = true by first | rfl | decide | simp [WShape.has,WShape.arms,WShape.armsAll])
  (show (WTm.eq .res (.lit (.bool true))).value [] { args:=args,res:=some (.bool true),after:=args } = some (.bool (true == true)) from w_eq_bool (w_res rfl) w_lit) rfl
theorem attach_call {l:OpenLaw} {n:Nat} {q:Program} {loose:List Str} {XP:(Str->Option Value)->Heap->Prop} {YP:World->Heap->Prop} {d:DefRec}
  (hn:l.most = some n) (hdf:d.params.defaults = [])
  (call:∀ (w:World) (s₀ s₁:Shared) (mg mb:Str->Option Value) (fa:Addr) (o:Obj) (pm cd doc:Value) (a:Addr) (vs:List Value) (ns:List Int),
   Ground q loose [] XP w s₀ mg mb s₁.heap->YP w s₁.heap ->
   s₁.heap.get? fa = some o->o.data = .func (docDef d.name d.params d.body d.scope pm cd doc)->s₁.heap.CodeRec cd d.name->mg d.name = some (.ref fa) ->
   s₁.heap.get? a = some { cls:=.type "list",data:=.seq vs.toArray }->IntsAre vs ns->ns.length<=n->s₁.gens = #[] ->
   codeAny (model l.prog w) callerA (.call (.ref fa) ⟨[.ref a],[]⟩) (fun r s'=>r = .ok (.ret (.bool true))/\OldK s₁.heap s'.heap/\s'.os = s₁.os/\AllBare s'.gens) s₁) :
  WalkO q loose XP YP l.row.toRowW d [] (fun f vs=>PySem.call f vs):=by
 intro w s₀ s₁ mg mb G Y fa o pm cd doc dV kV ho hd hcd hD hmg hg args vals as hpre hlay hrd hwl hlo
 obtain rfl:dV = .none:=Dflts.none hD hdf
 obtain rfl:kV = .none:=Dflts.noKw hD
 obtain ⟨a,vs,ns,rfl,rfl,hobj,hints,hlen⟩:=c3d hn hpre hwl
 refine enter_call (codeAny_mono (call w s₀ s₁ mg mb fa o pm cd doc a vs ns G Y ho (fd_plain hd) hcd hmg hobj hints hlen hg) fun r s' hq=>?_)
 obtain ⟨rfl,h2,h3,h4⟩:=hq
 exact ⟨.inl ⟨.bool true,.bool true,[],rfl,fun _=>rfl,.bool true,c3e l _,fun _=>⟨List.Pairwise.nil,fun _ hm=>(nomatch hm)⟩⟩,h2,h3,h4⟩
section
variable {prog:Program} {w:World} {A:Around} {E:Value->Shared->Prop} {s:Shared} {K:Frag}
end
end Att
namespace L2
open PySem PySem.Spec PyProof.Rows
theorem b5f:∀ {vs:List Value} {ns:List Int},IntsAre vs ns->Vals (ns.map V.int) vs
 | _,_,.nil=>.nil
 | _,_,.cons n t h=>.cons ⟨t,rfl⟩ (b5f h)
noncomputable def Only (H:Hp):Prop:=∀ b,H b = none\/∃ o xs,H b = some (.frz o (.lst xs))
theorem c5w {P:Program} {w:World} {K:W.Frag} {mg mb:Str->Option Value} {CX:CXT} {k:Nat} {fa a:Addr} {fd:FuncData} {x:Str} {sp:Sp} {s₁:Shared} {vs:List Value} {ns:List Int}
  (KX:K.In s₁.heap) (hns:s₁.heap.Ns mainGlobals mg) (hb:s₁.heap.Ns builtinsNs mb) (hbb:∀ x:Str,x ≠ "__name__"->mb x = bootBuiltins x) (hlim:s₁.heap.NoLimit) (hg:s₁.gens = #[])
  (ha:s₁.heap.get? a = some { cls:=.type "list",data:=.seq vs.toArray }) (hi:IntsAre vs ns) (hl:ns.length<=sizeLine) (hr:Room k callerA)
  (F:∀ base:Heap,K.In base->base.Ns mainGlobals mg->FnOk P w K mg base CX k fa fd [x] sp) (hbind:∀ (s:Shared) (u:Value),BindsTo s fd ⟨[u],[]⟩ [(x,u)])
  (hsp:∀ H:Hp,Only H->SqL K H a (ns.map V.int)->sp [.ref a] H (fun v _=>v = .bl true) fun _ _ _=>False)
  (hCX:∀ H e s',CX [] H s₁ (fun _ _ _=>False) e s'->False) :
  codeAny (model P w) callerA (.call (.ref fa) ⟨[.ref a],[]⟩) (fun r s'=>r = .ok (.ret (.bool true))/\OldK s₁.heap s'.heap/\s'.os = s₁.os/\AllBare s'.gens) s₁:=by
 have rv:=b5f hi
 have lenV:=hi.length
 have core:∀ H:Hp,Only H->SqL K H a (ns.map V.int)->HOk P w H s₁.heap->(∀ b,H b ≠ none->b = a)->(H a ≠ none->K.lookup a = none) ->
   codeAny (model P w) callerA (.call (.ref fa) ⟨[.ref a],[]⟩) (fun r s'=>r = .ok (.ret (.bool true))/\OldK s₁.heap s'.heap/\s'.os = s₁.os/\AllBare s'.gens) s₁:=by
  intro H hO hS hok hA hK
  have base_of:∀ {b:Addr} {o:Obj},s₁.heap.get? b = some o->H b = none->(hidT s₁.heap H).get? b = some o:=fun e n=>c5k e n
  have noA:∀ {b:Addr} {o:Obj} {es:Array DictEntry} {ep:Nat},s₁.heap.get? b = some o->o.data = .dict es ep->H b = none:=fun {b o es ep} e d=>by
   cases q:H b with
   | none=>rfl
   | some u=>
    have e':b = a:=hA b (by rw [q]; simp)
    subst e'
    rw [ha] at e; cases e
    have d':Data.seq vs.toArray _ = Data.dict es ep:=d
    cases d'
  have nsK:∀ {b:Addr} {m:Str->Option Value},s₁.heap.Ns b m->(hidT s₁.heap H).Ns b m:=fun {b m} ⟨o,es,ep,e,d,r⟩=>⟨o,es,ep,base_of e (noA e d),d,r⟩
  have hKb:K.In (hidT s₁.heap H):=fun b o e=>base_of (KX b o e) (by
   cases q:H b with
   | none=>rfl
   | some u=>
    have e':b = a:=hA b (by rw [q]; simp)
    subst e'
    rw [hK (by rw [q]; simp)] at e; cases e)
  have hM:Mod K mg (hidT s₁.heap H):=⟨hKb,nsK hns,⟨mb,nsK hb,hbb⟩,let ⟨mc,h1,h2⟩:=hlim; ⟨mc,nsK h1,h2⟩⟩
  have e0:Env0 P w K mg (hidT s₁.heap H) callerA [] s₁ H:=⟨rfl,hM,fun b o e=>of_hidT e,Nat.le_of_eq (c2k _ _),trivial,fun b hb=>absurd (show b ∈ ([]:List Addr) from hb) (by simp),hok,.of_eq hg⟩
  refine codeAny_mono ((F _ hKb (nsK hns)).run callerA [] s₁ H ⟨[.ref a],[]⟩ [.ref a] [.ref a] _ _ hr e0 (hbind s₁ (.ref a)) (.cons rfl .nil) (hsp H hO hS)) fun r s' h=>?_
  cases r with
  | error e=>exact (hCX H e s' h).elim
  | ok fl=>
   cases fl with
   | next=>exact False.elim h
   | brk=>exact False.elim h
   | cont=>exact False.elim h
   | ret u=>
    obtain ⟨v,H',os,bare,un,hok',r',q⟩:=h
    have q':v = .bl true:=q
    subst q'
    obtain rfl:u = Value.bool true:=r'
    refine ⟨rfl,OldK.of_keep fun b o e=>?_,os,bare⟩
    cases q:H b with
    | none=>exact un.keep b o e q (by intro z; exact absurd (show b ∈ ([]:List Addr) from z) (by simp)) (by simp)
    | some u=>
     rcases hO b with z | ⟨ob,xs,z⟩
     ·rw [q] at z; cases z
     ·have z2:=un.frzs b ob _ z
      obtain ⟨e1,_⟩:=hok b _ z
      obtain ⟨e2,_⟩:=hok' b _ z2
      rw [e] at e1; cases e1
      exact e2
 cases hk:K.lookup a with
 | some o=>
  have e:=KX a o hk
  rw [ha] at e
  cases e
  refine core (fun _=>none) (fun _=>.inl rfl) (.inr ⟨_,vs.toArray,_,hk,rfl,rfl,rfl,by rw [List.size_toArray,lenV]; exact hl,by simpa using rv⟩) (fun b u z=>by have z':(none:Option HO) = some u:=z; cases z') (fun b z=>absurd rfl z) fun z=>absurd rfl z
 | none=>
  refine core (fun b=>if b = a then some (.frz { cls:=.type "list",data:=.seq vs.toArray } (.lst (ns.map V.int))) else none) (fun b=>?_) (.inl (.inr ⟨{ cls:=.type "list",data:=.seq vs.toArray },if_pos rfl⟩)) (fun b u z=>?_) (fun b z=>?_) fun _=>hk
  ·by_cases hb:b = a
   ·exact .inr ⟨_,_,if_pos hb⟩
   ·exact .inl (if_neg hb)
  ·by_cases hb:b = a
   ·have z':=(if_pos hb).symm.trans z
    cases z'
    subst hb
    exact ⟨ha,by rw [List.length_map]; exact hl,vs,_,rv,ha⟩
   ·have z':=(if_neg hb).symm.trans z
    cases z'
  ·by_cases hb:b = a
   ·exact hb
   ·exact absurd (if_neg hb) z
noncomputable abbrev KOf {K:W.Frag} {h:Heap} (_:K.In h):W.Frag:=K
theorem walk_of {l:W.OpenLaw} {n k:Nat} {q:Program} {loose:List Str} {XP:(Str->Option Value)->Heap->Prop} {YP:World->Heap->Prop} {d:DefRec} {K:Params->W.Frag} {CX:World->CXT} {sp:World->Sp} {x:Str}
  (hn:l.most = some n) (hn2:n<=sizeLine) (hdf:d.params.defaults = []) (hr:Room k callerA)
  (hY:∀ (w:World) (h:Heap),YP w h->(K w.params).In h)
  (F:∀ (w:World) (mg:Str->Option Value) (fa:Addr) (h:Heap),(K w.params).In h->h.Ns mainGlobals mg->mg d.name = some (.ref fa) ->
   ∃ fd:FuncData,(∀ (s:Shared) (u:Value),BindsTo s fd ⟨[u],[]⟩ [(x,u)]) /\
    ∀ base:Heap,(K w.params).In base->base.Ns mainGlobals mg->FnOk l.prog w (K w.params) mg base (CX w) k fa fd [x] (sp w))
  (hsp:∀ (w:World) (H:Hp) (a:Addr) (ns:List Int),ns.length<=n->Only H->SqL (K w.params) H a (ns.map V.int)->sp w [.ref a] H (fun v _=>v = .bl true) fun _ _ _=>False)
  (hCX:∀ (w:World) (H:Hp) (s:Shared) (e:Value) (s':Shared),CX w [] H s (fun _ _ _=>False) e s'->False) :
  W.WalkO q loose XP YP l.row.toRowW d [] (fun f vs=>PySem.call f vs):=by
 refine Att.attach_call hn hdf fun w s₀ s₁ mg mb fa o pm cd doc a vs ns G Y ho hd hcd hmg hobj hints hlen hg=>?_
 have KX:=hY w _ Y
 obtain ⟨fd,hb,hF⟩:=F w mg fa _ KX G.T.g hmg
 exact c5w KX G.T.g G.T.b G.T.builtins G.T.nolimit hg hobj hints (Nat.le_trans hlen hn2) hr hF hb (fun H hO hS=>hsp w H a ns hlen hO hS) fun H e s'=>hCX w H s₁ e s'
noncomputable def inClass (s:Stmt) (j:Nat):Stmt:=match s with
 | .ClassDef _ _ _ body _ _ _ _ _ _ _=>body.getD j (.Pass ⟨0,0,0,0⟩)
 | _=>.Pass ⟨0,0,0,0⟩
noncomputable def a0w (s:Stmt):Arguments:=match s with
 | .FunctionDef _ a _ _ _ _ _ _ _ _=>a
 | _=>{ posonlyargs:=[],args:=[],vararg:=none,kwonlyargs:=[],kw_defaults:=[],kwarg:=none,defaults:=[] }
noncomputable def a0u (s:Stmt):List Stmt:=match s with
 | .FunctionDef _ _ b _ _ _ _ _ _ _=>b
 | _=>[]
noncomputable def a0h (s:Stmt):Scope:=match s with
 | .FunctionDef _ _ _ _ _ _ sc _ _ _=>sc
 | _=>{ kind:=.function,names:=[],isGenerator:=false,isCoroutine:=false }
noncomputable abbrev CX0:CXT:=fun _ _ _ _ _ _=>False
noncomputable abbrev E0:XK:=fun _ _ _=>False
theorem a0v {X:Cx}:a8k CX0 X E0:=fun _ _ _ _ _ _ _ h=>h.elim
structure Fun (K:W.Frag) (x qual:Str) (st:Stmt) (f:Addr) (fd:FuncData):Prop where
 ex:∃ (oc:Value) (od:Option Addr) (kV doc pm:Value) (an:Option Addr) (cdv ct:Value) (osl:Array (Option Value)),
  fd = W.fnOf x qual (a0w st) (a0u st) (a0h st) .none kV doc pm an cdv ct/\K.lookup f = some ⟨oc,od,.func fd,osl⟩/\W.codeIn K cdv qual = true
 kp:W.keepIn K (.ref f) = true
section
variable {P:Program} {w:World} {K:W.Frag} {mg:Str->Option Value} {base:Heap}
theorem Fun.ok {x qual:Str} {st:Stmt} {f:Addr} {fd:FuncData} {N ps:List Str} {k:Nat} {sp:Sp} (F:Fun K x qual st f fd) (S:a0x N ps (a0h st)) (len:∀ vs H Q E,sp vs H Q E->vs.length = ps.length)
  (hbody:∀ (cdv:Value) (A:Around) (outer:List Env) (s:Shared) (H:Hp) (vs:List V) (Q:VK) (E:XK),Room k (A.deeper (envOfC qual (a0h st) s.heap.objs.size f cdv))->sp vs H Q E ->
   ∃ t,PSs (cxOf CX0 P w K mg base N qual (a0h st) f cdv A outer s H E).nox (a0u st) t/\t { nx:=fun _ H'=>Q .non H',rt:=Q } (start N vs) H):FnOk P w K mg base CX0 (k + 1) f fd ps sp:=by
 obtain ⟨oc,od,kV,doc,pm,an,cdv,ct,osl,rfl,lk,hcd⟩:=F.ex
 refine fn_of lk hcd S len fun A outer s H vs Q E hr hsp=>?_
 obtain ⟨t,h,q⟩:=hbody cdv A outer s H vs Q E hr hsp
 exact ⟨t,h.nox,q⟩
theorem Fun.binds {x qual:Str} {st:Stmt} {f:Addr} {fd:FuncData} {ps:List Str} (F:Fun K x qual st f fd)
  (h:∀ (kV doc pm:Value) (an:Option Addr) (cdv ct:Value) (us:List Value),us.length = ps.length->bindArgs (W.fnOf x qual (a0w st) (a0u st) (a0h st) .none kV doc pm an cdv ct) ⟨us,[]⟩ = pure (ps.zip us)):Binds K fd ps []:=by
 obtain ⟨oc,od,kV,doc,pm,an,cdv,ct,osl,rfl,lk,hcd⟩:=F.ex
 exact .all (h kV doc pm an cdv ct)
theorem a1a {x qual:Str} {st:Stmt} {f:Addr} {oc:Value} {od an:Option Addr} {osl:Array (Option Value)} {kV doc pm cdv ct:Value} (l:K.lookup f = some ⟨oc,od,.func (W.fnOf x qual (a0w st) (a0u st) (a0h st) .none kV doc pm an cdv ct),osl⟩)
  (c:W.codeIn K cdv qual = true) (k:W.keepIn K (.ref f) = true):Fun K x qual st f (W.fnOf x qual (a0w st) (a0u st) (a0h st) .none kV doc pm an cdv ct):=⟨⟨oc,od,kV,doc,pm,an,cdv,ct,osl,rfl,l,c⟩,k⟩
end
theorem a3z {A:Around} {k:Nat} (hr:Room k A):A.units + 1 < cLine:=Nat.lt_of_le_of_lt (Nat.add_le_add_left (by decide:1<=64) _) hr.units
section
variable {X:Cx}
end
theorem iteF {A B:Prop} (h:B):if false = true then A else B:=by
 rw [if_neg Bool.false_ne_true]
 exact h
theorem iteT {A B:Prop} (h:A):if true = true then A else B:=by
 rw [if_pos rfl]
 exact h
noncomputable def Same (H H':Hp):Prop:=∀ b o,H b = some o->H' b = some o
theorem Same.refl (H:Hp):Same H H:=fun _ _ h=>h
theorem Same.trans {H H1 H2:Hp} (a:Same H H1) (b:Same H1 H2):Same H H2:=fun c o h=>b c o (a c o h)
theorem Same.free {H H':Hp} (e:Same H H') {l:Addr} (h:H' l = Option.none):H l = Option.none:=by
 cases q:H l with
 | none=>rfl
 | some o=>
  rw [e l o q] at h
  cases h
theorem Same.seq {K:W.Frag} {H H':Hp} {a:Addr} {xs:List V} (e:Same H H') (h:SqL K H a xs):SqL K H' a xs:=by
 rcases h with (h | ⟨o,h⟩) | h
 ·exact .inl (.inl (e _ _ h))
 ·exact .inl (.inr ⟨o,e _ _ h⟩)
 ·exact .inr h
section
variable {X:Cx}
end
section
variable {κ:Type} [DecidableEq κ]
end
end L2
set_option maxHeartbeats 4000000
namespace My
open PySem PySem.W PySem.Calls PyProof.Rows
theorem b3h {tb:String->Option Builtin} {p:Program} {w:World} {n₀:Nat} {ann:Option Value}:∀ {n:Nat} {s s':Shared} {t:Thread} {f:Flow} {c:Code} {q:Pos},segRun tb p w n₀ ann 0 n s t = some (f,s',c,q)->topRun tb p w n₀ ann n s t = some s'
 | 0,_,_,_,_,_,_,h=>by cases h
 | n + 1,s,s',t,f,c,q,h=>by
  unfold segRun at h
  unfold topRun
  cases he:endAt 0 t with
  | some x=>
   rw [he] at h
   cases h
   have:through t = true:=by
    unfold endAt at he
    unfold through
    obtain ⟨cur,code,pos,st⟩:=t
    cases st with
    | nil=>split at he <;> simp_all
    | cons a b=>simp at he
   rw [this]
  | none=>
   have:through t = false:=by
    unfold endAt at he
    unfold through
    obtain ⟨cur,code,pos,st⟩:=t
    cases st with
    | nil=>
     dsimp only at he ⊢
     split at he
     ·cases he
     ·rename_i h1
      simp only [List.isEmpty_nil,Bool.true_and]
      split
      ·exact (h1 _ rfl rfl).elim
      ·rfl
    | cons a b=>rfl
   rw [he] at h
   rw [this]
   cases hk:stepOk n₀ ann t with
   | false=>rw [hk] at h; cases h
   | true=>
    rw [hk] at h
    cases hs:step (denote tb) p w s t with
    | halt o x=>rw [hs] at h; cases h
    | go s₂ t₂=>rw [hs] at h; exact b3h h
noncomputable def bootT (P:Params):BT:=.node (boot_o_0 P) (.node (boot_o_1 P) (.node (boot_o_3 P) (.node (boot_o_7 P) .nil .nil) .nil) (.node (boot_o_5 P) (.node (boot_o_9 P) .nil .nil) .nil)) (.node (boot_o_2 P) (.node (boot_o_4 P) (.node (boot_o_8 P) .nil .nil) .nil) (.node (boot_o_6 P) (.node (boot_o_10 P) .nil .nil) .nil))
theorem boot_abs (P:Params):absHeap (bootT P) 11 {} = boot_heap P:=by kernel_rfl
noncomputable def bootS (w:World) (os:OsState):SharedT:=⟨bootT w.params,11,{},#[],boot_drawn,boot_toks,os⟩
noncomputable def looks {α:Type} (p q:Program) (loose:List Str) (Xt:Shared->Bool) (Yf:Shared->α) (g0:Bool) (h₀:Heap) (s:Shared):=
 ((staticsOk (importedModules p.main.body) h₀ s.heap && namesBound p s.heap && gensDone s && laidKept h₀ s.heap),openSeen q loose (importedModules p.main.body) Xt g0 s,Yf s)
theorem left_of {p q:Program} {loose:List Str} {Xt:Shared->Bool} {α:Type} {Yf:Shared->α} {Ya:World->α} {N M:Nat} {g0:Bool}
  (e:opening p = plainProg p.main.scope.names) (hN:Nat.ble 600 N = true) (f:∀ s,fenceModules? p s = some s)
  (size:∀ w:World,((boot_heap w.params).isNs mainGlobals,(boot_heap w.params).nsMap mainGlobals "__annotations__") = (true,some (.ref 6)))
  (le:Nat.ble M N = true)
  (run:∀ w:World,(fun os=>(segRunT treeTable p w 11 (some (.ref 6)) 0 M (bootS w os) (topStub p)).map fun r=>looks p q loose Xt Yf g0 (boot_heap w.params) r.2.1.abs) = fun _=>some (true,openGood q loose,Ya w)) :
  LeftO p q loose Xt Yf Ya N g0:=fun w=>by
 obtain ⟨⟨h,gs,d,k,os⟩,e1,e2⟩:=Option.map_eq_some_iff.mp (boot_open e hN f w)
 obtain ⟨rfl,rfl,rfl,rfl⟩:h = boot_heap w.params/\gs = #[]/\d = boot_drawn/\k = boot_toks:=by simpa using e2
 obtain ⟨z1,z3⟩:_/\_:=by simpa only [Prod.mk.injEq] using size w
 obtain ⟨⟨fl,s,c,ps⟩,r1,r2⟩:=Option.map_eq_some_iff.mp (congrFun (run w) os)
 obtain ⟨l1,l2,l3⟩:_/\_/\_:=by simpa only [looks,Prod.mk.injEq] using r2
 have r:=topRun_mono (N - M) _ _ _ _ (b3h (segRun_of r1))
 rw [show M + (N - M) = N by have:=Nat.le_of_ble_eq_true le; omega] at r
 have t:topFrom treeTable p w N ⟨boot_heap w.params,#[],boot_drawn,boot_toks,os⟩ = some s.abs:=by
  unfold topFrom
  dsimp only
  rw [z1]
  show (topRun treeTable p w 11 _ N ⟨boot_heap w.params,#[],boot_drawn,boot_toks,os⟩ (topStub p)).bind _ = _
  rw [z3]
  have r':topRun treeTable p w 11 (some (.ref 6)) N ⟨boot_heap w.params,#[],boot_drawn,boot_toks,os⟩ (topStub p) = some s.abs:=by
   rw [<- boot_abs]; exact r
  rw [r']
  show (match staticsOk (importedModules p.main.body) (boot_heap w.params) s.abs.heap && namesBound p s.abs.heap && gensDone s.abs && laidKept (boot_heap w.params) s.abs.heap with | true=>some s.abs | false=>none) = some s.abs
  rw [l1]
 unfold openEnds
 rw [e1]
 show ((topFrom treeTable p w N ⟨boot_heap w.params,#[],boot_drawn,boot_toks,os⟩).map _) = _
 rw [t]
 exact congrArg some (by dsimp only; rw [l2,l3])
theorem c3f (w:World):((boot_heap w.params).isNs mainGlobals,(boot_heap w.params).nsMap mainGlobals "__annotations__") = (true,some (.ref 6)):=by kernel_rfl
end My
lay_quick PySem.W.topStub PySem.W.openGood PySem.W.SharedT.abs PySem.W.xlAt PySem.W.recOk PySem.W.view My.looks
namespace L2
open PySem PySem.Spec PyProof.Rows
noncomputable def clOf (env:Env):List (Str × NameKind)->List (Str × Addr)->List (Str × Addr)
 | [],acc=>acc
 | (n,k) :: r,acc=>if k = .free then clOf env r ((n,(env.cells.lookup n).getD 0) :: acc) else clOf env r acc
theorem b2n {env:Env} (f:(Str × NameKind)->List (Str × Addr)->Sem (ForInStep (List (Str × Addr))))
  (h1:∀ n r c,env.cells.lookup n = some c->f (n,.free) r = pure (.yield ((n,c) :: r))) (h2:∀ n k r,k ≠ .free->f (n,k) r = pure (.yield r)) :
  ∀ (l:List (Str × NameKind)) (acc:List (Str × Addr)),(∀ y ∈ l,y.2 = .free->∃ c,env.cells.lookup y.1 = some c)->forIn l acc f = pure (clOf env l acc)
 | [],acc,_=>by rw [List.forIn_nil]; rfl
 | (n,k) :: r,acc,h=>by
  have hr:∀ y ∈ r,y.2 = .free->∃ c,env.cells.lookup y.1 = some c:=fun y hy=>h y (List.mem_cons_of_mem _ hy)
  rw [List.forIn_cons]
  by_cases hk:k = .free
  ·subst hk
   obtain ⟨c,hc⟩:=h _ List.mem_cons_self rfl
   have hc:env.cells.lookup n = some c:=hc
   rw [h1 n acc c hc]
   have ih:=b2n f h1 h2 r ((n,c) :: acc) hr
   show (forIn r ((n,c) :: acc) f) = _
   rw [ih]
   unfold clOf
   rw [if_pos rfl,hc]
   rw [<- clOf.eq_def]
   rfl
  ·rw [h2 n k acc hk]
   have ih:=b2n f h1 h2 r acc hr
   show (forIn r acc f) = _
   rw [ih]
   conv=>rhs; unfold clOf
   rw [if_neg hk]
theorem b3i {scope:Scope} {env:Env} (h:∀ y ∈ scope.names,y.2 = .free->∃ c,env.cells.lookup y.1 = some c):closureFor scope env = pure (clOf env scope.names []):=by
 unfold closureFor
 have e:=b2n (env:=env) (fun x r=>if x.2 == NameKind.free then do let c <- cellOf env x.1; pure (ForInStep.yield ((x.1,c) :: r)) else pure (ForInStep.yield r))
  (fun n r c hc=>by
   have e:cellOf env n = pure c:=by unfold cellOf; rw [hc]
   show (if (NameKind.free == NameKind.free) = true then _ else _) = _
   rw [if_pos (by decide),e]
   rfl)
  (fun n k r hk=>by
   show (if (k == NameKind.free) = true then _ else _) = _
   rw [if_neg (by intro z; exact hk (eq_of_beq z))]) scope.names [] h
 exact (congrArg (fun m=>m >>= fun cs=>(pure cs:Sem (List (Str × Addr)))) e)
theorem b2o {env:Env}:∀ (l:List (Str × NameKind)) (acc:List (Str × Addr)) (y:Str) (c:Addr),(∀ y ∈ l,y.2 = .free->∃ c,env.cells.lookup y.1 = some c)->(∀ y c,acc.lookup y = some c->env.cells.lookup y = some c) ->
  (clOf env l acc).lookup y = some c->env.cells.lookup y = some c
 | [],acc,y,c,_,ha,e=>ha y c e
 | (n,k) :: r,acc,y,c,h,ha,e=>by
  have hr:∀ y ∈ r,y.2 = .free->∃ c,env.cells.lookup y.1 = some c:=fun y hy=>h y (List.mem_cons_of_mem _ hy)
  unfold clOf at e
  by_cases hk:k = .free
  ·rw [if_pos hk] at e
   refine b2o r _ y c hr (fun z d q=>?_) e
   rw [List.lookup_cons] at q
   cases hz:z == n with
   | true=>
    rw [hz] at q
    have q':(env.cells.lookup n).getD 0 = d:=Option.some.inj q
    obtain ⟨c',hc'⟩:=h _ List.mem_cons_self hk
    have hc':env.cells.lookup n = some c':=hc'
    rw [hc'] at q'
    have q':c' = d:=q'
    rw [eq_of_beq hz,hc',q']
   | false=>
    rw [hz] at q
    exact ha z d q
  ·rw [if_neg hk] at e
   exact b2o r acc y c hr ha e
theorem b2p {env:Env}:∀ (l:List (Str × NameKind)) (acc:List (Str × Addr)) (y:Str),(∃ c,acc.lookup y = some c)->∃ c,(clOf env l acc).lookup y = some c
 | [],_,_,h=>h
 | (n,k) :: r,acc,y,h=>by
  unfold clOf
  by_cases hk:k = .free
  ·rw [if_pos hk]
   refine b2p r _ y ?_
   rw [List.lookup_cons]
   cases hz:y == n with
   | true=>exact ⟨_,rfl⟩
   | false=>exact h
  ·rw [if_neg hk]
   exact b2p r acc y h
theorem b0g {env:Env}:∀ (l:List (Str × NameKind)) (acc:List (Str × Addr)) (y:Str),(y,NameKind.free) ∈ l->∃ c,(clOf env l acc).lookup y = some c
 | [],_,_,h=>by simp at h
 | (n,k) :: r,acc,y,h=>by
  unfold clOf
  by_cases hk:k = .free
  ·rw [if_pos hk]
   rcases List.mem_cons.mp h with e | e
   ·refine b2p r _ y ?_
    have e1:y = n:=congrArg Prod.fst e
    rw [List.lookup_cons,e1]
    simp
   ·exact b0g r _ y e
  ·rw [if_neg hk]
   rcases List.mem_cons.mp h with e | e
   ·exact absurd (congrArg Prod.snd e).symm hk
   ·exact b0g r acc y e
theorem a7b (scope:Scope) (env:Env) (y:Str):(relabel scope env).names.lookup y = (scope.names.lookup y).map fun k=>if (k == NameKind.free && env.scope.kind == .function && env.kindOf y == some .cell) = true then .cell else k:=by
 show (scope.names.map _).lookup y = _
 induction scope.names with
 | nil=>rfl
 | cons p r ih=>
  obtain ⟨n,k⟩:=p
  rw [List.map_cons,List.lookup_cons (a:=y) (k:=n) (b:=k)]
  cases hz:y == n with
  | true=>
   have e:y = n:=eq_of_beq hz
   subst e
   show List.lookup y ((if (k == NameKind.free && env.scope.kind == .function && env.kindOf y == some .cell) = true then (y,NameKind.cell) else (y,k)) :: _) = some (if _ then _ else _)
   by_cases hc:(k == NameKind.free && env.scope.kind == .function && env.kindOf y == some .cell) = true
   ·rw [if_pos hc,if_pos hc]; simp
   ·rw [if_neg hc,if_neg hc]; simp
  | false=>
   show List.lookup y ((if (k == NameKind.free && env.scope.kind == .function && env.kindOf n == some .cell) = true then (n,NameKind.cell) else (n,k)) :: _) = _
   by_cases hc:(k == NameKind.free && env.scope.kind == .function && env.kindOf n == some .cell) = true
   ·rw [if_pos hc,List.lookup_cons,hz]; exact ih
   ·rw [if_neg hc,List.lookup_cons,hz]; exact ih
noncomputable def a2q (X:Cx) (scope:Scope) (x:Str) (N':List Str) (C:Addr) (s:Shared) (H:Hp) (fp:List Addr) (pn:List (Addr × Obj)):Cx where
 prog:=X.prog
 w:=X.w
 K:=X.K
 mg:=X.mg
 base:=X.base
 A:=X.A
 N:=x :: N'
 s₀:=s
 H₀:=H
 env:=compEnvC scope (clOf X.env scope.names []) C X.env
 outer:=X.stack
 stack:=X.stack
 ex:=fp
 fn:=fun _=>false
 calm:=X.calm
 pn:=pn
 xe:=fun _ _=>False
section
variable {X:Cx} {pins:List (Addr × Obj)} {σ:St} {H:Hp} {s:Shared}
structure b0y (X:Cx) (scope:Scope) (x:Str) (N':List Str):Prop where
 loc:scope.names.lookup x = some .local
 nocell:∀ y ∈ scope.names,y.2 ≠ .cell
 kind:scope.kind = .function
 names:∀ y ∈ scope.names,y.2 = .local->scope.names.lookup y.1 = some .local
 free:∀ y ∈ scope.names,y.2 = .free->X.env.kindOf y.1 = some .cell\/X.env.kindOf y.1 = some .free
 nin:x ∉ N'
 nd:N'.Nodup
 len:N'.length = X.N.length
 sub:∀ (i:Nat) (y:Str),N'[i]? = some y->X.N[i]? = some y\/scope.names.lookup y = none
 only:∀ y ∈ scope.names,y.2 = .local->y.1 = x\/y.1 ∉ N'
theorem Inv.compIn {scope:Scope} {x:Str} {N':List Str} {fp:List Addr} {h1:Heap} {tk:Nat} {m:Str->Option Value} (S:b0y X scope x N') (I:Inv X pins σ H s) (hf:∀ b ∈ fp,FpOk X pins H b) (hfl:∀ b ∈ fp,b < s.heap.objs.size)
  (hn:h1.Ns s.heap.objs.size m) (hsb:∀ b o,s.heap.get? b = some o->h1.get? b = some o) :
  Inv (a2q X scope x N' s.heap.objs.size s H fp (X.pn ++ pins)) [] (none :: σ) H { s with heap:=h1,toks:=tk }:=by
 have hcells:∀ y ∈ scope.names,y.2 = .free->∃ c,X.env.cells.lookup y.1 = some c:=fun y hy hk=>I.ok.has y.1 (S.free y hy hk)
 have sub:∀ y c,(clOf X.env scope.names []).lookup y = some c->X.env.cells.lookup y = some c:=fun y c e=>b2o _ _ y c hcells (fun z d q=>by simp at q) e
 have lk:∀ (y:Str) (k:NameKind),(relabel scope X.env).names.lookup y = some k->k = .cell\/k = .free->scope.names.lookup y = some .free:=fun y k e hk=>by
  rw [a7b] at e
  cases q:scope.names.lookup y with
  | none=>rw [q] at e; cases e
  | some k0=>
   rw [q] at e
   have e':(if (k0 == NameKind.free && X.env.scope.kind == .function && X.env.kindOf y == some .cell) = true then NameKind.cell else k0) = k:=Option.some.inj e
   by_cases hc:(k0 == NameKind.free && X.env.scope.kind == .function && X.env.kindOf y == some .cell) = true
   ·simp only [Bool.and_eq_true] at hc
    rw [eq_of_beq hc.1.1]
   ·rw [if_neg hc] at e'
    subst e'
    rcases hk with hk | hk
    ·exact absurd hk (S.nocell _ (PySem.mem_of_lookup q))
    ·rw [hk]
 have lt:∀ {b:Addr} {o:Obj},s.heap.get? b = some o->b ≠ s.heap.objs.size:=fun e=>Nat.ne_of_lt (Heap.lt_size e)
 refine ⟨⟨I.ok.mod,by show (relabel scope X.env).kind = _; exact S.kind,I.ok.glob,I.ok.blt,Nat.le_refl _,fun y z c e1 e2=>I.ok.inj y z c (sub y c e1) (sub z c e2),fun y hy=>?_,fun y c hz=>(by cases hz),I.ok.hd,I.ok.frames,.inl rfl,
  fun b hb=>⟨Nat.ne_of_lt (hfl b hb),fun y c e=>(hf b hb).2.2.2.2.1 y c (sub y c e)⟩,I.bs,Nat.le_trans I.ok.bsz I.sz,fun b o e hb=>?_,fun b hb hz=>?_,I.stack,I.stkFree⟩,
  rfl,I.bare,Un.kept hsb,⟨m,hn,fun i y v h1 h2 h3=>?_⟩,fun y c e=>?_,I.hok.fresh (Nat.le_refl _),fun y c e=>I.freeC y c (sub y c e),fun p hp=>?_,I.hok.kept hsb,?_⟩
 ·have hy:(relabel scope X.env).names.lookup y = some .cell\/(relabel scope X.env).names.lookup y = some .free:=hy
  have q:scope.names.lookup y = some .free:=hy.elim (fun z=>lk y _ z (.inl rfl)) fun z=>lk y _ z (.inr rfl)
  exact b0g _ _ y (PySem.mem_of_lookup q)
 ·obtain ⟨_,_,_,f3,_,_⟩:=hf b hb
  rcases f3 with f3 | f3
  ·exact I.ok.noex b o e f3
  ·exact absurd (Nat.lt_of_lt_of_le (Heap.lt_size e) (Nat.le_trans I.ok.bsz f3)) (Nat.lt_irrefl _)
 ·have hz:b ∈ frs X.stack:=hz
  obtain ⟨_,f1,f2,_⟩:=hf b hb
  rcases List.mem_cons.mp (I.stkSub b hz) with z | z
  ·exact f1 z
  ·exact f2 z
 ·cases i with
  | zero=>simp at h2
  | succ i=>
   have h1:N'[i]? = some y:=by simpa [a2q] using h1
   have h2:σ[i]? = some (some v):=by simpa using h2
   have hne:N'[i]? ≠ some x:=fun z=>S.nin (List.mem_of_getElem? z)
   have h3:Vis (relabel scope X.env) y:=h3
   obtain ⟨m',hn',hl'⟩:=I.loc
   have q:scope.names.lookup y = some .free:=by
    rcases h3 with z | z | z
    ·exfalso
     rw [a7b] at z
     cases q:scope.names.lookup y with
     | none=>rw [q] at z; cases z
     | some k0=>
      rw [q] at z
      have e':(if (k0 == NameKind.free && X.env.scope.kind == .function && X.env.kindOf y == some .cell) = true then NameKind.cell else k0) = .local:=Option.some.inj z
      by_cases hc:(k0 == NameKind.free && X.env.scope.kind == .function && X.env.kindOf y == some .cell) = true
      ·rw [if_pos hc] at e'; cases e'
      ·rw [if_neg hc] at e'
       subst e'
       rcases S.only _ (PySem.mem_of_lookup q) rfl with w | w
       ·exact hne (by rw [h1]; exact congrArg some w)
       ·exact w (List.mem_of_getElem? h1)
    ·exact lk y _ z (.inl rfl)
    ·exact lk y _ z (.inr rfl)
   obtain ⟨c,hc⟩:=b0g (env:=X.env) scope.names [] y (PySem.mem_of_lookup q)
   have hk:X.env.kindOf y = some .cell\/X.env.kindOf y = some .free:=S.free _ (PySem.mem_of_lookup q) rfl
   have h1':X.N[i]? = some y:=(S.sub i y h1).resolve_right fun z=>by rw [q] at z; cases z
   obtain ⟨u,r,l⟩:=hl' i y v h1' h2 (.inr hk)
   refine ⟨u,r,?_⟩
   have kd:(compEnvC scope (clOf X.env scope.names []) s.heap.objs.size X.env).kindOf y = some .cell\/(compEnvC scope (clOf X.env scope.names []) s.heap.objs.size X.env).kindOf y = some .free:=by
    rcases h3 with z | z | z
    ·exfalso
     rw [a7b,q] at z
     have e':(if (NameKind.free == NameKind.free && X.env.scope.kind == .function && X.env.kindOf y == some .cell) = true then NameKind.cell else NameKind.free) = .local:=Option.some.inj z
     by_cases hc:(NameKind.free == NameKind.free && X.env.scope.kind == .function && X.env.kindOf y == some .cell) = true
     ·rw [if_pos hc] at e'; cases e'
     ·rw [if_neg hc] at e'; cases e'
    ·exact .inl z
    ·exact .inr z
   rcases l with ⟨a,_⟩ | ⟨_,c',hc',ic⟩
   ·rcases hk with k | k <;> (rw [k] at a; cases a)
   ·have e:X.env.cells.lookup y = some c:=sub y c hc
    rw [e] at hc'
    cases hc'
    obtain ⟨o,ho,hd⟩:=ic
    exact .inr ⟨kd,c,hc,⟨o,hsb _ _ ho,hd⟩⟩
 ·obtain ⟨v,o,ho,hd⟩:=I.cell y c (sub y c e)
  exact ⟨v,o,hsb _ _ ho,hd⟩
 ·have hp:p ∈ X.pn ++ pins:=by
   have hp:p ∈ (X.pn ++ pins) ++ []:=hp
   rwa [List.append_nil] at hp
  obtain ⟨e,n,ne,nf,d⟩:=I.pin p hp
  refine ⟨hsb _ _ e,n,lt e,fun hz=>?_,d⟩
  have hz:p.1 ∈ frs X.stack:=hz
  rcases List.mem_cons.mp (I.stkSub _ hz) with z | z
  ·exact ne z
  ·exact nf z
 ·show (none :: σ).length = (x :: N').length
  rw [List.length_cons,List.length_cons,I.len,S.len]
noncomputable def PTs (X:Cx) (ifs:List Expr) (t:TT):Prop:=
 ∀ (pins:List (Addr × Obj)) (s:Shared) (σ:St) (H:Hp) (Q:Bool->Hp->Prop) (E:Value->Shared->Prop),Inv X pins σ H s->t σ H Q ->
  wpAny (model X.prog X.w) X.A (forIn ifs true fun c r=>if r = true then do let ok <- isTrue c X.env (eval c X.env); pure (ForInStep.yield ok) else pure (ForInStep.yield r)) (TP X pins σ Q) E s
noncomputable def tYes:TT:=fun _ H Q=>Q true H
theorem a6i:PTs X [] tYes:=fun _ _ _ H _ _ I h=>wpAny_tests_nil ⟨H,I,h⟩
theorem c3g {prog:Program} {w:World} {A:Around} {R:Result->Shared->Prop} {s:Shared} {elt target iter:Expr} {ifs:List Expr} {scope:Scope} {pos:Pos} {it acc:Value} {env:Env} (J:Nat->Shared->Prop)
  (turn:∀ n s,J n s->wpAny (model prog w) A (pyNext it) (fun r s1=>match r with
   | none=>R (.ok .next) s1
   | some v=>wpAny (model prog w) A (letOwnedTupleGo target it v) (fun _ s2=>wpAny (model prog w) A (assign target env v) (fun _ s3=>
     wpAny (model prog w) A (forIn ifs true fun c r=>if r = true then do let ok <- isTrue c env (eval c env); pure (ForInStep.yield ok) else pure (ForInStep.yield r)) (fun ok s4=>
      if ok = true then wpAny (model prog w) A (eval elt env) (fun y s5=>wpAny (model prog w) A (call (.builtin "list.append") [acc,y]) (fun _ s6=>∃ m,m < n/\J m s6) (fun _ _=>False) s5) (fun _ _=>False) s4
      else ∃ m,m < n/\J m s4) (fun _ _=>False) s3) (fun _ _=>False) s2) (fun _ _=>False) s1) (fun _ _=>False) s)
  (n:Nat) (h:J n s):codeAny (model prog w) A (.compLoop (.ListComp elt [⟨target,iter,ifs,0⟩] scope pos) 0 it acc env) R s:=by
 have no:∀ {α:Type} {t:Sem α} {Q:α->Shared->Prop} {E:Value->Shared->Prop} {s:Shared},wpAny (model prog w) A t Q (fun _ _=>False) s->wpAny (model prog w) A t Q E s:=
  fun q=>wpAny_mono q (fun _ _ z=>z) fun _ _ z=>z.elim
 refine codeAny_loop rfl J (fun n s hJ=>?_) n h
 refine wpAny_noted (m:=compTurn (.ListComp elt [⟨target,iter,ifs,0⟩] scope pos) 0 it acc env) ?_
 rw [compTurn_list]
 refine wpAny_bind (wpAny_standAt (wpAny_bind (no (thn (turn n s hJ) fun r s1 q1=>?_))))
 cases r with
 | none=>exact wpAny_pure q1
 | some v=>
  refine no ?_
  refine wpAny_bind (thn q1 fun _ s2 q2=>wpAny_bind (thn q2 fun _ s3 q3=>wpAny_bind (thn q3 fun ok s4 q4=>?_)))
  cases ok with
  | false=>exact wpAny_pure ⟨rfl,q4⟩
  | true=>exact wpAny_bind (wpAny_bind (thn q4 fun y s5 q5=>wpAny_bind (thn q5 fun _ s6 q6=>wpAny_pure (wpAny_pure ⟨rfl,q6⟩))))
noncomputable def b5w (J:It) (tt:TT) (te:TE) (σ:St) (Q:VK) (D:Addr) (H1:Hp):Prop:=∃ W:Nat->Nat->List V->Hp->Prop,(∃ m,W 0 m [] (upd H1 D (.lst []))) /\
 ∀ i m ys H',W i m ys H'->(J.stop i H'/\Q (.ref D) H')\/(J.go i H'/\∀ v H2,J.yld i H' v H2->tt (some v :: σ) H2 fun b H3=>
  if b = true then te (some v :: σ) H3 fun y H4=>H4 D = some (.lst ys)/\ys.length < sizeLine/\∃ m',m' < m/\W (i + 1) m' (ys ++ [y]) (upd H4 D (.lst (ys ++ [y])))
  else ∃ m',m' < m/\W (i + 1) m' ys H3)
noncomputable def tComp (wi:TI) (tt:TT) (te:TE):TE:=fun σ H Q=>wi σ H fun J H1=>∀ D,H1 D = none->b5w J tt te σ Q D H1
theorem b5g {elt iter:Expr} {x:Str} {N':List Str} {px:Pos} {ifs:List Expr} {scope:Scope} {pos:Pos} {tt:TT} {te:TE} (hc:X.calm = true) (S:b0y X scope x N')
  (ht:∀ C s H fp pn,PTs (a2q X scope x N' C s H fp pn) ifs tt) (he:∀ C s H fp pn,PE (a2q X scope x N' C s H fp pn) elt te) {Q:VK} {itv:Value} {s2:Shared} {RR:Value->Addr->Result->Shared->Prop}
  (h2:PIE X pins σ (.Name x px) (fun J H1=>∀ D,H1 D = none->b5w J tt te σ Q D H1) itv s2)
  (hend:∀ (D C:Addr) (H6:Hp) (s7:Shared) (m7:Str->Option Value),Inv X pins σ H6 s7->s7.heap.Ns C m7->FpOk X pins H6 C->Q (.ref D) H6->RR (.ref D) C (.ok .next) s7) :
  wpAny (model X.prog X.w) X.A (newList []) (fun acc s3=>wpAny (model X.prog X.w) X.A (newFunctionEnv scope X.env.globals (clOf X.env scope.names []) [] X.env.qual none .none (some X.env)) (fun cenv s4=>
   codeAny (model X.prog X.w) X.A (.compStart (.ListComp elt [⟨.Name x px,iter,ifs,0⟩] scope pos) 0 itv acc { cenv with scope:=relabel scope X.env }) (RR acc cenv.locals) s4) X.xe s3) X.xe s2:=by
 obtain ⟨it,fp,tn,J,H2,e,I2,T,st2,f2,hW⟩:=h2
 subst e
 have hlt:∀ b ∈ fp,b < s2.heap.objs.size:=fun b hb=>by
  obtain ⟨o,ho,_⟩:=T.obj _ _ st2 b hb
  exact Heap.lt_size ho
 obtain ⟨W,⟨m0,w0⟩,hturn⟩:=hW s2.heap.objs.size (I2.hok.fresh (Nat.le_refl _))
 refine wpAny_newObj_type ?_ (by show 0<=sizeLine; exact Nat.zero_le _)
 have I3:Inv X pins σ (upd H2 s2.heap.objs.size (.lst [])) { s2 with heap:=s2.heap.push { cls:=.type "list",data:=.seq ([]:List Value).toArray } }:=I2.lnew (t':=s2.toks) .nil (Nat.zero_le _)
 have f3:∀ b ∈ fp,FpOk X pins (upd H2 s2.heap.objs.size (.lst [])) b:=fun b hb=>by
  obtain ⟨g0,g⟩:=f2 b hb
  exact ⟨by rw [a0j (Nat.ne_of_lt (hlt b hb))]; exact g0,g⟩
 have st3:tn 0 (s2.heap.push { cls:=.type "list",data:=.seq ([]:List Value).toArray }):=T.keep _ _ _ st2 fun b _ o e=>Heap.get?_push_of_some _ e
 have hlt3:∀ b ∈ fp,b < (s2.heap.push { cls:=.type "list",data:=.seq ([]:List Value).toArray }).objs.size:=fun b hb=>by rw [Heap.size_push]; exact Nat.lt_succ_of_lt (hlt b hb)
 generalize hs3:({ s2 with heap:=s2.heap.push { cls:=.type "list",data:=.seq ([]:List Value).toArray } }:Shared) = s3 at I3
 have eh:s3.heap = s2.heap.push { cls:=.type "list",data:=.seq ([]:List Value).toArray }:=by rw [<- hs3]
 rw [<- eh] at st3 hlt3
 show wpAny _ _ (newFunctionEnv scope X.env.globals (clOf X.env scope.names []) [] X.env.qual none .none (some X.env)) _ _ _
 refine wpAny_newFunctionEnv S.nocell (by intro y hy; simp at hy) (fun h4 hns4 hsb4=>?_) S.kind
 have hk4:∀ b o,s3.heap.get? b = some o->h4.get? b = some o:=fun b o e=>(hsb4.2 b (Nat.ne_of_lt (Heap.lt_size e))).trans (Heap.get?_push_of_some _ e)
 have I4:=Inv.compIn (tk:=s3.toks + ([]:List (Str × Value)).length) S I3 f3 hlt3 hns4 hk4
 have st4:tn 0 h4:=T.keep _ _ _ st3 fun b _ o e=>hk4 b o e
 have fx:∀ {H':Hp},(∀ b ∈ fp,H' b = none)->∀ b ∈ fp,FpOk (a2q X scope x N' s3.heap.objs.size s3 (upd H2 s2.heap.objs.size (.lst [])) fp (X.pn ++ pins)) [] H' b:=fun {H'} hn b hb=>by
  obtain ⟨_,g1,g2,g3,g4,g5⟩:=f3 b hb
  refine ⟨hn b hb,Nat.ne_of_lt (hlt3 b hb),I4.ok.exfs b hb,.inl hb,fun y c e=>(I4.ok.exf b hb).2 y c e,fun p hp=>g5 p ?_⟩
  have hp:p ∈ (X.pn ++ pins) ++ []:=hp
  rwa [List.append_nil] at hp
 have loop:∀ s5:Shared,(∃ (i n:Nat) (o:Option V) (ys:List V) (H5:Hp),Inv (a2q X scope x N' s3.heap.objs.size s3 (upd H2 s2.heap.objs.size (.lst [])) fp (X.pn ++ pins)) [] (o :: σ) H5 s5/\tn i s5.heap/\(∀ b ∈ fp,H5 b = none)/\W i n ys H5) ->
   codeAny (model X.prog X.w) X.A (.compLoop (.ListComp elt [⟨.Name x px,iter,ifs,0⟩] scope pos) 0 (.ref it) (.ref s2.heap.objs.size) (compEnvC scope (clOf X.env scope.names []) s3.heap.objs.size X.env))
    (RR (.ref s2.heap.objs.size) s3.heap.objs.size) s5:=by
  rintro s5 ⟨i5,n5,o5,ys5,H5,I5,st5,fr5,w5⟩
  refine c3g (fun n s'=>∃ (i:Nat) (o:Option V) (ys:List V) (H5:Hp),Inv (a2q X scope x N' s3.heap.objs.size s3 (upd H2 s2.heap.objs.size (.lst [])) fp (X.pn ++ pins)) [] (o :: σ) H5 s'/\tn i s'.heap/\(∀ b ∈ fp,H5 b = none)/\W i n ys H5) ?_ n5 ⟨i5,o5,ys5,H5,I5,st5,fr5,w5⟩
  rintro n s6 ⟨i,o,ys,H6,I6,st6,fr6,w6⟩
  rcases hturn i n ys H6 w6 with ⟨stop,qn⟩ | ⟨go,step⟩
  ·refine thn (T.done (a2q X scope x N' s3.heap.objs.size s3 (upd H2 s2.heap.objs.size (.lst [])) fp (X.pn ++ pins)) rfl rfl rfl hc i [] s6 _ H6 _ I6 (fx fr6) st6 stop) fun r s7 ⟨hr,I7⟩=>?_
   subst hr
   obtain ⟨m7,hn7,_⟩:=id I7.loc
   have I8:Inv X pins σ H6 s7:=I3.call' I7.os I7.base I7.hok I7.bare fun b hb=>by
    obtain ⟨_,g1,g2,g3,g4,g5⟩:=f3 b hb
    exact ⟨g3,g1,g4,g5⟩
   have f8:FpOk X pins H6 s3.heap.objs.size:=I3.fpOk (Nat.le_refl _) I7.free
   exact hend _ _ H6 s7 m7 I8 hn7 f8 qn
  ·refine thn (T.item (a2q X scope x N' s3.heap.objs.size s3 (upd H2 s2.heap.objs.size (.lst [])) fp (X.pn ++ pins)) rfl rfl rfl hc i [] s6 _ H6 _ I6 (fx fr6) st6 go) fun r s7 ⟨u,hr,h7⟩=>?_
   subst hr
   refine thn h7 fun _ s8 ⟨v,H8,I8,r8,y8,st8,fr8⟩=>?_
   have I8':=I8.pinned (fx fr8) (T.obj _ _ st8)
   refine wpAny_assign_Name (b0d I8' (i:=0) (List.nodup_cons.mpr ⟨S.nin,S.nd⟩) rfl (.inl (lookup_relabel_local S.loc)) r8 (fun s9 I9=>?_) (.inr (lookup_relabel_local S.loc)))
   have I9:Inv (a2q X scope x N' s3.heap.objs.size s3 (upd H2 s2.heap.objs.size (.lst [])) fp (X.pn ++ pins)) ([] ++ a9h fp s8.heap) (some v :: σ) H8 s9:=I9
   refine thn (ht _ _ _ _ _ _ s9 (some v :: σ) H8 _ _ I9 (step v H8 y8)) fun b s10 ⟨H10,I10,q10⟩=>?_
   have back:∀ {s':Shared} {H':Hp} {ys':List V} {m':Nat},Inv (a2q X scope x N' s3.heap.objs.size s3 (upd H2 s2.heap.objs.size (.lst [])) fp (X.pn ++ pins)) ([] ++ a9h fp s8.heap) (some v :: σ) H' s'->W (i + 1) m' ys' H' ->
     ∃ (i:Nat) (o:Option V) (ys:List V) (H5:Hp),Inv (a2q X scope x N' s3.heap.objs.size s3 (upd H2 s2.heap.objs.size (.lst [])) fp (X.pn ++ pins)) [] (o :: σ) H5 s'/\tn i s'.heap/\(∀ b ∈ fp,H5 b = none)/\W i m' ys H5:=fun {s' H' ys' m'} I' w'=>by
    refine ⟨i + 1,some v,ys',H',I'.unpinned,T.keep _ _ _ st8 fun b hb o e=>(I'.pin (b,o) (List.mem_append_right _ (List.mem_append_right _ (a7v hb e)))).1,fun b hb=>?_,w'⟩
    obtain ⟨o,e,d⟩:=T.obj _ _ st8 b hb
    exact (I'.pin (b,o) (List.mem_append_right _ (List.mem_append_right _ (a7v hb e)))).2.1
   cases b with
   | false=>
    rw [if_neg Bool.false_ne_true] at q10 ⊢
    obtain ⟨m',hm,w'⟩:=q10
    exact ⟨m',hm,back I10 w'⟩
   | true=>
    rw [if_pos rfl] at q10 ⊢
    refine thn (he _ _ _ _ _ _ s10 (some v :: σ) H10 _ I10 q10) fun y s11 ⟨yv,H11,I11,r11,hD,hz,m',hm,w'⟩=>?_
    have ap:=b5c (X:=a2q X scope x N' s3.heap.objs.size s3 (upd H2 s2.heap.objs.size (.lst [])) fp (X.pn ++ pins)) _ s11 (some v :: σ) H11 (.ref s2.heap.objs.size) [yv] (.ref s2.heap.objs.size) [y] (fun _ H'=>W (i + 1) m' (ys ++ [yv]) H') I11 rfl (.cons r11 .nil) ⟨_,ys,yv,rfl,rfl,hD,hz,w'⟩
    exact thn ap fun _ s12 ⟨_,H12,I12,_,w12⟩=>⟨m',hm,back I12 w12⟩
 have l4:=loop { s3 with heap:=h4,toks:=s3.toks + ([]:List (Str × Value)).length } ⟨0,m0,none,[],_,I4,st4,fun b hb=>(f3 b hb).1,w0⟩
 exact codeAny_compStart_list l4 (T.self _ _ _ _ _ st4 l4)
theorem a8d {elt iter:Expr} {x:Str} {N':List Str} {px:Pos} {ifs:List Expr} {scope:Scope} {pos:Pos} {wi:TI} {tt:TT} {te:TE} (hc:X.calm = true) (hi:PI X (.Name x px) iter wi) (S:b0y X scope x N')
  (ht:∀ C s H fp pn,PTs (a2q X scope x N' C s H fp pn) ifs tt) (he:∀ C s H fp pn,PE (a2q X scope x N' C s H fp pn) elt te) (hs:∀ x,foldedSetIterable iter X.env x = pure x:=by intro _; rfl) :
  PE X (.ListComp elt [⟨.Name x px,iter,ifs,0⟩] scope pos) (tComp wi tt te):=by
 intro pins s σ H Q I h
 have hcells:∀ y ∈ scope.names,y.2 = .free->∃ c,X.env.cells.lookup y.1 = some c:=fun y hy hk=>I.ok.has y.1 (S.free y hy hk)
 rw [eval_ListComp]
 refine wpAny_comprehension_free (use:=none) rfl hs (b3i hcells) S.kind S.names (thn (hi pins s σ H _ I h) fun xv s1 h1=>thn h1 fun itv s2 h2=>?_)
 refine b5g (RR:=fun acc C=>compPost (model X.prog X.w) X.A X.xe none (EP X pins σ Q) acc C) hc S ht he h2 fun D C H6 s7 m7 I8 hn7 f8 qn=>?_
 refine ⟨m7,hn7,fun h' hs'=>?_⟩
 obtain ⟨g0,g1,g2,g3,g4,g5⟩:=f8
 exact ⟨.ref D,H6,I8.turned (t':=s7.toks) (fun b o hb e=>(hs'.2 b hb).trans e) g0 g1 g3 g4 g5,rfl,qn⟩
theorem b9x {elt iter:Expr} {x y:Str} {N':List Str} {i:Nat} {px py:Pos} {ifs:List Expr} {scope:Scope} {pos spos:Pos} {wi:TI} {tt:TT} {te:TE} (hN:X.N.Nodup) (hiy:X.N[i]? = some y) (hy:Loc X.env.scope y) (hc:X.calm = true) (hi:PI X (.Name x px) iter wi) (S:b0y X scope x N')
  (ht:∀ C s H fp pn,PTs (a2q X scope x N' C s H fp pn) ifs tt) (he:∀ C s H fp pn,PE (a2q X scope x N' C s H fp pn) elt te)
  (hsw:swapsWith (.ListComp elt [⟨.Name x px,iter,ifs,0⟩] scope pos) (some (.Name y py)) spos.line X.env = pure true:=by rfl) (hs:∀ x,foldedSetIterable iter X.env x = pure x:=by intro _; rfl)
  (hf:X.fn y = true\/X.env.scope.names.lookup y = some .local:=by first | exact .inl rfl | exact .inr rfl | assumption) :
  PS X (.Assign [.Name y py] (.ListComp elt [⟨.Name x px,iter,ifs,0⟩] scope pos) spos) (tAsg (tComp wi tt te) (b5t i)):=by
 intro pins s σ H D I h
 have hcells:∀ y ∈ scope.names,y.2 = .free->∃ c,X.env.cells.lookup y.1 = some c:=fun y hy hk=>I.ok.has y.1 (S.free y hy hk)
 rw [exec_Assign_Name_used _ _ _ _ hsw]
 refine wpAny_bind (wpAny_standAt (wpAny_bind ?_))
 show wpAny _ X.A (do let _ <- comprehension (.ListComp elt [⟨.Name x px,iter,ifs,0⟩] scope pos) scope X.env _ (newList []) false (eval iter X.env) (some (assign (.Name y py) X.env))) _ _ s
 refine wpAny_bind (thn (wpAny_comprehension_free (use:=some (assign (.Name y py) X.env)) (Q:=fun _ s'=>SP X pins D .next s') rfl hs (b3i hcells) S.kind S.names
  (thn (hi pins s σ H _ I h) fun xv s1 h1=>thn h1 fun itv s2 h2=>?_)) fun _ s' hq=>wpAny_pure (wpAny_pure hq))
 refine b5g (RR:=fun acc C=>compPost (model X.prog X.w) X.A X.xe (some (assign (.Name y py) X.env)) (fun _ s'=>SP X pins D .next s') acc C) hc S ht he h2 fun L C H6 s7 m7 I8 hn7 f8 qn=>?_
 obtain ⟨g0,g1,g2,g3,g4,g5⟩:=f8
 show wpAny _ X.A (assign (.Name y py) X.env (.ref L)) _ _ _
 refine wpAny_assign_Name (b4x I8 hN hiy hy (v:=.ref L) (u:=.ref L) rfl (fun s8 I9 hch=>?_) hf)
 obtain ⟨a,hsb,ha⟩:=hch
 have hCa:C ≠ a:=by
  rcases ha with z | z
  ·rw [z]; exact g1
  ·exact fun w=>g4 _ _ z w.symm
 refine ⟨m7,hn7.sameBut hsb hCa,fun h' hs'=>?_⟩
 exact ⟨_,H6,I9.turned (t':=s8.toks) (fun b o hb e=>(hs'.2 b hb).trans e) g0 g1 g3 g4 g5,qn⟩
end
noncomputable def c3h (sc scope:Scope) (N N':List Str) (x:Str):Bool:=
 decide (scope.names.lookup x = some .local) && scope.names.all (fun y=>decide (y.2 ≠ .cell)) && decide (scope.kind = .function) && scope.names.all (fun y=>decide (y.2 = .local->scope.names.lookup y.1 = some .local)) &&
 scope.names.all (fun y=>decide (y.2 = .free->sc.names.lookup y.1 = some .cell\/sc.names.lookup y.1 = some .free)) && decide (x ∉ N') && decide N'.Nodup && decide (N'.length = N.length) &&
 (List.range N'.length).all (fun i=>match N'[i]? with | some y=>decide (N[i]? = some y\/scope.names.lookup y = none) | none=>true) && scope.names.all (fun y=>decide (y.2 = .local->y.1 = x\/y.1 ∉ N'))
theorem a6j {X:Cx} {scope:Scope} {x:Str} (sc:Scope) (N N':List Str) (hsc:X.env.scope = sc) (hN:X.N = N) (h:c3h sc scope N N' x = true):b0y X scope x N':=by
 subst hsc hN
 unfold c3h at h
 simp only [Bool.and_eq_true,List.all_eq_true,decide_eq_true_eq] at h
 obtain ⟨⟨⟨⟨⟨⟨⟨⟨⟨h1,h2⟩,h3⟩,h4⟩,h5⟩,h6⟩,h7⟩,h7'⟩,h8'⟩,h8⟩:=h
 refine ⟨h1,h2,h3,h4,h5,h6,h7,h7',fun i y e=>?_,h8⟩
 have hi:i < N'.length:=(List.getElem?_eq_some_iff.mp e).1
 have z:=h8' i (List.mem_range.mpr hi)
 rw [e] at z
 exact of_decide_eq_true z
section
variable {X:Cx} {tg:Expr}
end
structure Row (J:It) (n:Nat) (vs:Nat->V) (Ok:Hp->Prop):Prop where
 go:∀ i H,i < n->Ok H->J.go i H
 yld:∀ i H v H',i < n->Ok H->J.yld i H v H'->H' = H/\v = vs i
 stop:∀ H,Ok H->J.stop n H
theorem a4g (lo:Int) (n:Nat):Row (Itr lo n) n (fun i=>.int (lo + i)) (fun _=>True):=⟨fun i H h _=>h,fun i H v H' _ _ h=>h,fun H _=>Nat.le_refl n⟩
theorem b2q {K:W.Frag} {a:Addr} {xs:List V}:Row (Itl K a) xs.length (fun i=>xs.getD i .non) (fun H=>SqL K H a xs):=⟨fun i H h q=>⟨xs,xs[i],q,by simp [h]⟩,fun i H v H' hi q h=>by
 obtain ⟨e,y⟩:=h
 refine ⟨e,?_⟩
 have:=y xs q
 rw [List.getD_eq_getElem?_getD,this]; rfl,fun H q=>⟨xs,q,Nat.le_refl _⟩⟩
theorem a8e {K:W.Frag} {a:Addr} {xs:List V}:Row (Itt K a) xs.length (fun i=>xs.getD i .non) (fun H=>SqT K H a xs):=⟨fun i H h q=>⟨xs,xs[i],q,by simp [h]⟩,fun i H v H' hi q h=>by
 obtain ⟨e,y⟩:=h
 refine ⟨e,?_⟩
 have:=y xs q
 rw [List.getD_eq_getElem?_getD,this]; rfl,fun H q=>⟨xs,q,Nat.le_refl _⟩⟩
noncomputable def ForW (J:It) (g:TG) (tb:TS) (D:Ends) (σ:St) (H:Hp):Prop:=∃ W:Nat->Nat->St->Hp->Prop,(∃ m,W 0 m σ H)/\∀ i m σ H,W i m σ H ->
   (J.stop i H/\D.nx σ H)\/(J.go i H/\∃ N:St->Hp->Prop,(∀ σ' H',N σ' H'->∃ m',m' < m/\W (i + 1) m' σ' H')/\∀ x H',J.yld i H x H'->g x σ H' fun σ2 H2=>tb { D with nx:=N,ct:=N,bk:=D.nx } σ2 H2)
theorem a3f {J:It} {n:Nat} {vs:Nat->V} {Ok:Hp->Prop} (R:Row J n vs Ok) {g:TG} {tb:TS} {D:Ends} {σ:St} {H:Hp} (Pv:Nat->St->Hp->Prop) (h0:Pv 0 σ H) (hok:∀ i σ H,Pv i σ H->Ok H)
  (hs:∀ i σ H,i < n->Pv i σ H->g (vs i) σ H fun σ2 H2=>tb { D with nx:=Pv (i + 1),ct:=Pv (i + 1),bk:=D.nx } σ2 H2) (hd:∀ σ H,Pv n σ H->D.nx σ H) :
  ForW J g tb D σ H:=by
 refine ⟨fun i m σ H=>m = n - i/\i<=n/\Pv i σ H,⟨n,by simp,Nat.zero_le _,h0⟩,?_⟩
 rintro i m σ H ⟨rfl,hi,p⟩
 by_cases hlt:i < n
 ·refine .inr ⟨R.go i H hlt (hok i σ H p),Pv (i + 1),fun σ' H' p'=>⟨n - (i + 1),by omega,rfl,hlt,p'⟩,fun x H' y=>?_⟩
  obtain ⟨e1,e2⟩:=R.yld i H x H' hlt (hok i σ H p) y
  subst e1 e2
  exact hs i σ _ hlt p
 ·have e:i = n:=by omega
  subst e
  exact .inl ⟨R.stop H (hok i σ H p),hd σ H p⟩
theorem a5c {J:It} {n:Nat} {vs:Nat->V} {Ok:Hp->Prop} (R:Row J n vs Ok) {te:TE} {Q:VK} {σ:St} {H1:Hp} {D:Addr} (Pv:Nat->List V->Hp->Prop) (hn:n<=sizeLine) (h0:Pv 0 [] (upd H1 D (.lst []))) (hok:∀ i ys H,Pv i ys H->Ok H)
  (hs:∀ i ys H (Q':VK),i < n->ys.length = i->Pv i ys H->(∀ y H4,H4 D = some (.lst ys)->Pv (i + 1) (ys ++ [y]) (upd H4 D (.lst (ys ++ [y])))->Q' y H4)->te (some (vs i) :: σ) H Q')
  (hd:∀ ys H,ys.length = n->Pv n ys H->Q (.ref D) H) :
  b5w J tYes te σ Q D H1:=by
 refine ⟨fun i m ys H=>m = n - i/\i<=n/\ys.length = i/\Pv i ys H,⟨n,by simp,Nat.zero_le _,rfl,h0⟩,?_⟩
 rintro i m ys H ⟨rfl,hi,hl,p⟩
 by_cases hlt:i < n
 ·refine .inr ⟨R.go i H hlt (hok i ys H p),fun v H2 y=>?_⟩
  obtain ⟨e1,e2⟩:=R.yld i H v H2 hlt (hok i ys H p) y
  subst e1 e2
  exact hs i ys _ _ hlt hl p fun v H4 q1 q2=>⟨q1,by omega,n - (i + 1),by omega,rfl,hlt,by simp [hl],q2⟩
 ·have e:i = n:=by omega
  subst e
  exact .inl ⟨R.stop H (hok _ ys H p),hd ys H hl p⟩
noncomputable def mVar (i:Nat):TE:=fun σ H Q=>match σ[i]? with | some (some v)=>Q v H | _=>False
noncomputable def mB (Q:Bool->Hp->Prop):VK:=fun z H'=>match z with | .bl k=>Q k H' | _=>False
theorem mB_eq (Q:Bool->Hp->Prop):mB Q = fun z H'=>∃ k,z = .bl k/\Q k H':=by
 funext z H'
 cases z <;> simp [mB]
section
variable {X:Cx} {a b c e:Expr} {ta tb tc te:TE} {pos:Pos}
theorem mv (i:Nat) {x:Str} {pos:Pos} (hN:X.N[i]? = some x:=by rfl) (hv:Vis X.env.scope x:=by first | exact Or.inl rfl | exact Or.inr (Or.inl rfl) | exact Or.inr (Or.inr rfl)) (hd:(x == ("__debug__" : Str)) = false:=by decide)
  (hcd:(x == ("__classdict__" : Str)) = false:=by decide):PE X (.Name x pos) (mVar i):=by
 intro pins s σ H Q I h
 refine pe_var hN hv hd hcd pins s σ H Q I ?_
 unfold mVar at h
 split at h
 ·rename_i v q; exact ⟨v,q,h⟩
 ·exact h.elim
noncomputable def m2 (C:Int->Int->Prop) (g:Int->Int->V):R2:=fun x y H Q=>match x,y with
 | .int i,.int j=>C i j/\Q (g i j) H
 | _,_=>False
noncomputable def m20 (g:Int->Int->V):R2:=fun x y H Q=>match x,y with
 | .int i,.int j=>Q (g i j) H
 | _,_=>False
theorem b5x {C:Int->Int->Prop} {g:Int->Int->V} {x y:V} {H:Hp} {Q:VK} (h:m2 C g x y H Q):rI C g x y H Q:=by
 cases x <;> cases y <;> first | exact (show False from h).elim | exact ⟨_,_,rfl,rfl,h⟩
theorem b3j {g:Int->Int->V} {x y:V} {H:Hp} {Q:VK} (h:m20 g x y H Q):rI0 g x y H Q:=by
 cases x <;> cases y <;> first | exact (show False from h).elim | exact ⟨_,_,rfl,rfl,h⟩
theorem OpR.imp {f:Value->Value->Sem Value} {r r':R2} (h:OpR X f r) (k:∀ x y H Q,r' x y H Q->r x y H Q):OpR X f r':=fun pins s σ H x y v u Q I rx ry q=>h pins s σ H x y v u Q I rx ry (k x y H Q q)
noncomputable def mAdd (K:W.Frag):R2:=fun x y H Q=>match x,y with
 | .int i,.int j=>Q (.int (i + j)) H
 | .str i,.str j=>i.length + j.length<=sizeLine/\Q (.str (i ++ j)) H
 | .ref p,.ref q=>(∃ xs ys,H p = some (.lst xs)/\H q = some (.lst ys)/\xs.length + ys.length<=sizeLine/\∀ d,H d = none->Q (.ref d) (upd H d (.lst (xs ++ ys)))) \/
   ∃ xs ys,SqT K H p xs/\SqT K H q ys/\xs ≠ []/\xs.length + ys.length<=sizeLine/\(ys = []->Q (.ref p) H)/\(ys ≠ []->∀ d,H d = none->Q (.ref d) (upd H d (.tup (xs ++ ys))))
 | _,_=>False
theorem mo_add:OpR X (binaryOp .Add) (mAdd X.K):=by
 refine (op_add.or (c0x.or (op_cat.or b9v))).imp fun x y H Q h=>?_
 cases x <;> cases y <;> first
  | exact (show False from h).elim
  | exact .inl ⟨_,_,rfl,rfl,h⟩
  | exact .inr (.inl ⟨_,_,rfl,rfl,h⟩)
  | (rcases h with ⟨xs,ys,h1,h2,h3,h4⟩ | ⟨xs,ys,h1,h2,h3,h4,h5⟩
     ·exact .inr (.inr (.inl ⟨_,_,xs,ys,rfl,rfl,h1,h2,h3,h4⟩))
     ·exact .inr (.inr (.inr ⟨_,_,xs,ys,rfl,rfl,h1,h2,h3,h4,h5⟩)))
theorem a2r:OpR X (binaryOp .Sub) (m20 fun i j=>.int (i - j)):=op_sub.imp fun _ _ _ _ h=>b3j h
noncomputable def mMul:R2:=fun x y H Q=>match x,y with
 | .int i,.int j=>IntMulOk i j/\Q (.int (i * j)) H
 | .ref l,.int k=>∃ xs,H l = some (.lst xs)/\-(2 ^ 63)<=k/\k < 2 ^ 63/\xs.length * k.toNat<=sizeLine/\∀ p,H p = none->Q (.ref p) (upd H p (.lst (List.replicate k.toNat xs).flatten))
 | _,_=>False
theorem op_mulW:OpR X (binaryOp .Mult) (rI (fun i j=>IntMulOk i j) fun i j=>.int (i * j)):=opI fun _ _ _ _ _ _ _ hc q=>mul_int q hc
theorem a8m:OpR X (binaryOp .Mult) mMul:=by
 refine (op_mulW.or op_rep).imp fun x y H Q h=>?_
 cases x <;> cases y <;> first
  | exact (show False from h).elim
  | exact .inl ⟨_,_,rfl,rfl,h⟩
  | (obtain ⟨xs,h1,h2,h3,h4,h5⟩:=h; exact .inr ⟨_,_,xs,rfl,rfl,h1,h2,h3,h4,h5⟩)
theorem a2f:OpR X (binaryOp .FloorDiv) (m2 CDiv fun i j=>.int (i / j)):=op_fdiv.imp fun _ _ _ _ h=>b5x h
theorem a1d:OpR X (binaryOp .Mod) (m2 (fun _ j=>0 < j) fun i j=>.int (i % j)):=op_mod.imp fun _ _ _ _ h=>b5x h
theorem c3i:OpR X (binaryOp .Pow) (m2 CPow fun i j=>.int (i ^ j.toNat)):=op_pow.imp fun _ _ _ _ h=>b5x h
theorem mo_lt:OpR X (compareOp .Lt) (m20 fun i j=>.bl (decide (i < j))):=op_lt.imp fun _ _ _ _ h=>b3j h
theorem a8y:OpR X (compareOp .Gt) (m20 fun i j=>.bl (decide (j < i))):=op_gt.imp fun _ _ _ _ h=>b3j h
theorem mo_ge:OpR X (compareOp .GtE) (m20 fun i j=>.bl (decide (j<=i))):=op_ge.imp fun _ _ _ _ h=>b3j h
noncomputable def mEq (n:Bool):R2:=fun x y H Q=>match x,y with
 | .int i,.int j=>Q (.bl (n ^^ decide (i = j))) H
 | .str i,.str j=>Q (.bl (n ^^ decide (i = j))) H
 | .bl i,.bl j=>Q (.bl (n ^^ decide (i = j))) H
 | .non,.non=>Q (.bl (n ^^ true)) H
 | .non,.int _=>Q (.bl n) H
 | .non,.str _=>Q (.bl n) H
 | .non,.bl _=>Q (.bl n) H
 | .int _,.non=>Q (.bl n) H
 | .str _,.non=>Q (.bl n) H
 | .bl _,.non=>Q (.bl n) H
 | .int _,.str _=>Q (.bl n) H
 | .str _,.int _=>Q (.bl n) H
 | .bl _,.str _=>Q (.bl n) H
 | .str _,.bl _=>Q (.bl n) H
 | _,_=>False
theorem a1e:OpR X (compareOp .Eq) (mEq false):=by
 refine op_eq.imp fun x y H Q h=>?_
 cases x <;> cases y <;> first
  | exact (show False from h).elim
  | exact ⟨rfl,by simpa [mEq] using h⟩
theorem b3k:OpR X (compareOp .NotEq) (mEq true):=by
 refine op_ne.imp fun x y H Q h=>?_
 cases x <;> cases y <;> first
  | exact (show False from h).elim
  | exact ⟨rfl,by simpa [mEq] using h⟩
noncomputable def mTest (t:TE):TT:=fun σ H Q=>t σ H (mB Q)
theorem c5x (t:TE):mTest t = tTest t:=by
 funext σ H Q
 show t σ H (mB Q) = t σ H _
 rw [mB_eq]
theorem a0q {op:CmpOp} {r:R2} (ho:OpR X (compareOp op) r) (ha:PE X a ta) (hb:PE X b tb) (hm:behindInMarks op b = false):PT X (.Compare a [op] [b] pos) (mTest (tOp r ta tb)):=by
 rw [c5x]; exact pt_cmpR ho ha hb hm
noncomputable def mChain (r r':R2) (ta tb tc:TE):TE:=fun σ H Q=>ta σ H fun x H1=>tb σ H1 fun y H2=>r x y H2 (mB fun k H3=>if k = true then tc σ H3 fun w' H4=>r' y w' H4 Q else Q (.bl false) H3)
noncomputable def mTru (K:W.Frag) (Q:Bool->Hp->Prop):VK:=fun x H=>match x with
 | .non=>Q false H
 | .bl b=>Q b H
 | .int i=>Q (decide (i ≠ 0)) H
 | .str y=>y.length<=sizeLine/\Q (decide (y.length ≠ 0)) H
 | .ref p=>(∃ xs,SqL K H p xs/\Q (!xs.isEmpty) H)\/(∃ xs,SqT K H p xs/\Q (!xs.isEmpty) H)\/∃ kvs,H p = some (.dK kvs)/\Q (!kvs.isEmpty) H
 | _=>False
theorem mTru_to {K:W.Frag} {Q:Bool->Hp->Prop} {x:V} {H:Hp} (h:mTru K Q x H):∃ k,TruV K x H k/\Q k H:=by
 cases x with
 | non=>exact ⟨_,rfl,h⟩
 | bl b=>exact ⟨_,rfl,h⟩
 | int i=>
  have h:Q (decide (i ≠ 0)) H:=h
  refine ⟨i != 0,rfl,?_⟩
  have e:(i != 0) = decide (i ≠ 0):=by
   rw [Bool.eq_iff_iff]; simp
  rw [e]; exact h
 | str y=>
  obtain ⟨h1,h⟩:y.length<=sizeLine/\Q (decide (y.length ≠ 0)) H:=h
  refine ⟨((y.length:Int) != 0),⟨h1,rfl⟩,?_⟩
  have e:((y.length:Int) != 0) = decide (y.length ≠ 0):=by
   rw [Bool.eq_iff_iff]; simp
  rw [e]; exact h
 | ref p=>
  rcases h with ⟨xs,h1,h2⟩ | ⟨xs,h1,h2⟩ | ⟨xs,h1,h2⟩
  ·exact ⟨_,.inl ⟨xs,h1,rfl⟩,h2⟩
  ·exact ⟨_,.inr (.inl ⟨xs,h1,rfl⟩),h2⟩
  ·exact ⟨_,.inr (.inr ⟨xs,h1,rfl⟩),h2⟩
 | _=>exact (show False from h).elim
noncomputable def mTrue (K:W.Frag) (ta:TE):TT:=fun σ H Q=>ta σ H (mTru K Q)
theorem mt_tru (ha:PE X a ta) (he:∀ whole,isTrue a X.env whole = (do let v <- whole; standAt a.pos; holding [v] (truthy v)):=by intro _; rfl):PT X a (mTrue X.K ta):=by
 intro pins s σ H Q I h
 exact isTrue_plain (thn (ha pins s σ H _ I h) fun v s1 ⟨x,H1,I1,r1,q1⟩=>tru_ok pins s1 σ H1 x v Q I1 r1 (mTru_to q1)) (he _)
noncomputable def mAndV (ta tb:TE):TE:=fun σ H Q=>ta σ H (mB fun c H1=>if c = true then tb σ H1 Q else Q (.bl false) H1)
noncomputable def mOrV (ta tb:TE):TE:=fun σ H Q=>ta σ H (mB fun c H1=>if c = true then Q (.bl true) H1 else tb σ H1 Q)
variable {rest:List Expr}
noncomputable def mIx (K:W.Frag):R2:=fun x y H Q=>match x,y with
 | .ref p,.int i=>(∃ xs v,SqL K H p xs/\atI xs i = some v/\Q v H)\/∃ xs v,SqT K H p xs/\atI xs i = some v/\Q v H
 | .str z,.int i=>z.length<=sizeLine/\∃ c,atI z.cps.toList i = some c/\Q (.str ⟨#[c]⟩) H
 | _,_=>False
theorem mi_seq:IxR X (mIx X.K):=by
 intro value slice pins s σ H x y v u Q I rx ry h hs
 refine ix_seq value slice pins s σ H x y v u Q I rx ry ?_ hs
 cases x <;> cases y <;> first
  | exact (show False from h).elim
  | (rcases h with ⟨xs,v,h1,h2,h3⟩ | ⟨xs,v,h1,h2,h3⟩
     ·exact .inl ⟨_,xs,_,v,rfl,rfl,h1,h2,h3⟩
     ·exact .inr (.inl ⟨_,xs,_,v,rfl,rfl,h1,h2,h3⟩))
  | (obtain ⟨h1,c,h2,h3⟩:=h; exact .inr (.inr ⟨_,_,c,rfl,rfl,h1,h2,h3⟩))
noncomputable def inS (i j:Str):Bool:=!(Builtin.Str.occurrences j i 0 j.length 1).isEmpty
noncomputable def mInS (n:Bool):R2:=fun x y H Q=>match x,y with
 | .str i,.str j=>Q (.bl (n ^^ inS i j)) H
 | _,_=>False
noncomputable def mI (R:Option Int->Hp->Prop):VK:=fun x H1=>match x with | .int i=>R (some i) H1 | _=>False
noncomputable def b5y (t:TE):TO:=fun σ H Q=>t σ H (mI Q)
theorem a8f (h:PE X e te):PO X (some e) (b5y te):=by
 have q:b5y te = tPart te:=by
  funext σ H Q
  unfold b5y tPart
  congr 1
  funext x H1
  cases x <;> simp [mI]
 rw [q]; exact po_some h
noncomputable def mLen (K:W.Frag):List V->Hp->VK->Prop:=fun vs H Q=>match vs with
 | [.str y]=>y.length<=sizeLine/\Q (.int y.length) H
 | [.ref p]=>(∃ xs,SqL K H p xs/\Q (.int xs.length) H)\/∃ xs,SqT K H p xs/\Q (.int xs.length) H
 | _=>False
theorem mc_len:a1z X (.builtin "len") (mLen X.K):=by
 intro pins s σ H xs us Q I r h
 refine c5n pins s σ H xs us Q I r ?_
 unfold mLen at h
 split at h
 ·exact ⟨_,_,rfl,⟨h.1,rfl⟩,h.2⟩
 ·rcases h with ⟨ys,h1,h2⟩ | ⟨ys,h1,h2⟩
  ·exact ⟨_,_,rfl,.inl ⟨ys,h1,rfl⟩,h2⟩
  ·exact ⟨_,_,rfl,.inr ⟨ys,h1,rfl⟩,h2⟩
 ·exact h.elim
theorem c5y (K:W.Frag) (t:Value):W.kitOne K t t = some true:=by
 unfold W.kitOne
 rw [if_pos (by simp)]
end
section
variable {X:Cx} {a b c e:Expr} {ta tb tc te:TE} {pos:Pos}
noncomputable def mNotV (K:W.Frag) (ta:TE):TE:=fun σ H Q=>ta σ H (mTru K fun b H'=>Q (.bl (!b)) H')
noncomputable def b4g:V->List V->Hp->VK->Prop:=fun x vs H Q=>match x,vs with
 | .ref l,[y]=>∃ xs,H l = some (.lst xs)/\xs.length < sizeLine/\Q .non (upd H l (.lst (xs ++ [y])))
 | _,_=>False
theorem a7o:MtR X "list.append" b4g:=by
 intro pins s σ H x xs v us Q I rx rs h
 refine b5c pins s σ H x xs v us Q I rx rs ?_
 unfold b4g at h
 split at h
 ·obtain ⟨ys,h1,h2,h3⟩:=h
  exact ⟨_,ys,_,rfl,rfl,h1,h2,h3⟩
 ·exact h.elim
noncomputable def mPop:V->List V->Hp->VK->Prop:=fun x vs H Q=>match x,vs with
 | .ref l,[]=>∃ xs y,H l = some (.lst (xs ++ [y]))/\Q y (upd H l (.lst xs))
 | _,_=>False
theorem a9m:MtR X "list.pop" mPop:=by
 intro pins s σ H x xs v us Q I rx rs h
 refine mt_pop pins s σ H x xs v us Q I rx rs ?_
 unfold mPop at h
 split at h
 ·obtain ⟨ys,y,h1,h2⟩:=h
  exact ⟨_,_,y,rfl,rfl,h1,by simp,by rw [List.dropLast_concat]; exact h2⟩
 ·exact h.elim
noncomputable def mUn (g:Int->Int):V->Hp->VK->Prop:=fun x H Q=>match x with | .int i=>Q (.int (g i)) H | _=>False
theorem mu_neg:UnR X (unaryOp .USub) (mUn fun i=>-i):=by
 intro pins s σ H x v Q I rx h
 refine un_neg pins s σ H x v Q I rx ?_
 cases x <;> first | exact (show False from h).elim | exact ⟨_,rfl,h⟩
end
section
variable {X:Cx}
theorem b9y {x:Str} {z:Int} {tk:Tok} {pos:Pos} (hg:Gl X x) (hm:X.mg x = some (.int z tk)) (hd:(x == ("__debug__" : Str)) = false:=by decide):PE X (.Name x pos) (tC (.int z)):=a8b hg hm ⟨tk,rfl⟩ hd
end
section
variable {X:Cx} {a b c e o:Expr} {es:List Expr} {ta tb tc te to:TE} {t:TA} {pos:Pos} {tg l:Expr} {tl:TE}
theorem pe_bty {x:Str} {n:String} {pos:Pos} (hg:Gl X x) (hm:X.mg x = none) (hv:bootBuiltins x = some (.type n)) (hn:x ≠ "__name__":=by decide) (hd:(x == ("__debug__" : Str)) = false:=by decide):PE X (.Name x pos) (tC (.ty n)):=pe_bltn hg hm hv rfl hn hd
theorem a1g (K:W.Frag) (h:X.K = K):OpR X (binaryOp .Add) (mAdd K):=h ▸ mo_add
theorem a6p (K:W.Frag) (h:X.K = K) (ha:PE X a ta) (he:∀ whole,isTrue a X.env whole = (do let v <- whole; standAt a.pos; holding [v] (truthy v)):=by intro _; rfl):PT X a (mTrue K ta):=h ▸ mt_tru ha he
theorem a0i (K:W.Frag) (h:X.K = K):IxR X (mIx K):=h ▸ mi_seq
theorem a2i (K:W.Frag) (h:X.K = K):a1z X (.builtin "len") (mLen K):=h ▸ mc_len
theorem b2r (K:W.Frag) (h:X.K = K) (hl:PE X l tl):PI X tg l (iList K tl):=h ▸ pi_list hl
theorem a8g (K:W.Frag) (h:X.K = K) (hl:PE X l tl):PI X tg l (iTup K tl):=h ▸ pi_tup hl
theorem a8n (K:W.Frag) (h:X.K = K) {name:Str} {apos cpos:Pos} {T id:String} {r:V->List V->Hp->VK->Prop} (pa:PlainAttrs T) (slot:Slot T name id) (hty:typeOf (.builtin id) = pure (.type "method_descriptor")) (hm:MtR X id r) (ho:PE X o to)
  (hbase:attributeBase o name X.env (eval o X.env) = eval o X.env:=by rfl) (hline:(apos.endLine == cpos.line) = true:=by rfl):PE X (.Call (.Attribute o name apos) [] [] cpos) (tBM0 K T r to):=h ▸ pe_bm0 pa slot hty hm ho hbase hline
theorem a7k (K:W.Frag) (h:X.K = K) {name:Str} {apos cpos:Pos} {T id:String} {r:V->List V->Hp->VK->Prop} (pa:PlainAttrs T) (slot:Slot T name id) (hty:typeOf (.builtin id) = pure (.type "method_descriptor")) (hm:MtR X id r) (ho:PE X o to) (ha:PA X (e :: es) t)
  (hbase:attributeBase o name X.env (eval o X.env) = eval o X.env:=by rfl)
  (hfew:((backTo cpos (starEach (e :: es) X.env)).all (fun x=>!x.1) && (backToKw cpos (keywordEach [] X.env)).all (fun x=>x.1.isSome)
   && decide ((e :: es).length + ([]:List Keyword).length + (if ([]:List Keyword).isEmpty then 0 else 1) < 30)) = true:=by rfl)
  (hline:(apos.endLine == cpos.line) = true:=by rfl) (hs:starEach (e :: es) X.env = (false,eval e X.env) :: starEach es X.env:=by rfl) (hplain:(backTo cpos (starEach es X.env)).any (·.1) = false:=by rfl) :
  PE X (.Call (.Attribute o name apos) (e :: es) [] cpos) (tBM K T r to t):=h ▸ pe_bm pa slot hty hm ho ha hbase hfew hline hs hplain
end
theorem a5r {α:Type} {xs:List α} {i:Int} (h0:0<=i) (h1:i < (xs.length:Int)):∃ v,atI xs i = some v/\xs[i.toNat]? = some v:=by
 have hk:i.toNat < xs.length:=by omega
 have ek:i = ((i.toNat:Nat):Int):=by omega
 have q:xs[i.toNat]? = some xs[i.toNat]:=List.getElem?_eq_getElem hk
 refine ⟨xs[i.toNat],?_,q⟩
 have:=atI_nat q
 rw [<- ek] at this
 exact this
theorem a0f {H:Hp} {p:Addr} (h:H p = none) (o:HO):Same H (upd H p o):=fun b u q=>by rw [a0j (a0t q h)]; exact q
theorem a2x {H H':Hp} {p:Addr} {o:HO} (e:Same H H') (h:H p = none):Same H (upd H' p o):=fun b u q=>by rw [a0j (a0t q h)]; exact e b u q
theorem Same.tup {K:W.Frag} {H H':Hp} {a:Addr} {xs:List V} (e:Same H H') (h:SqT K H a xs):SqT K H' a xs:=by
 rcases h with (h | ⟨o,h⟩) | h
 ·exact .inl (.inl (e _ _ h))
 ·exact .inl (.inr ⟨o,e _ _ h⟩)
 ·exact .inr h
theorem b3l {i j:Int} (h1:0 < j) (h2:j < 1073741824):CDiv i j:=⟨h1,h2⟩
theorem a9g {i j:Int} (h:-(2 ^ 64) < j/\j < 2 ^ 64):IntMulOk i j:=CMul.ok (.inr h)
theorem a7w {i j:Int} (h:-(2 ^ 64) < i/\i < 2 ^ 64):IntMulOk i j:=CMul.ok (.inl h)
section
variable {K:W.Frag} {σ:St} {H:Hp} {Q:VK} {D:Ends} {ta tb tc te:TE} {t u:TS} {A B:TT} {P:Bool->Hp->Prop} {v x y:V} {i j:Int} {n:Nat} {b:Bool} {p q:Str}
theorem mVar_i (h:σ[n]? = some (some v)) (k:Q v H):mVar n σ H Q:=by unfold mVar; rw [h]; exact k
theorem tC_i (k:Q v H):tC v σ H Q:=k
theorem tOp_i {r:R2} (k:ta σ H fun x H1=>tb σ H1 fun y H2=>r x y H2 Q):tOp r ta tb σ H Q:=k
theorem tUn_i {r:V->Hp->VK->Prop} (k:ta σ H fun x H1=>r x H1 Q):tUn r ta σ H Q:=k
theorem mUn_i {g:Int->Int} (k:Q (.int (g i)) H):mUn g (.int i) H Q:=k
theorem m20_i {g:Int->Int->V} (k:Q (g i j) H):m20 g (.int i) (.int j) H Q:=k
theorem m2_i {C:Int->Int->Prop} {g:Int->Int->V} (c:C i j) (k:Q (g i j) H):m2 C g (.int i) (.int j) H Q:=⟨c,k⟩
theorem mAdd_i (k:Q (.int (i + j)) H):mAdd K (.int i) (.int j) H Q:=k
theorem a8o (c:p.length + q.length<=sizeLine) (k:Q (.str (p ++ q)) H):mAdd K (.str p) (.str q) H Q:=⟨c,k⟩
theorem a8p (c:IntMulOk i j) (k:Q (.int (i * j)) H):mMul (.int i) (.int j) H Q:=⟨c,k⟩
theorem mEq_i (k:Q (.bl (b ^^ decide (i = j))) H):mEq b (.int i) (.int j) H Q:=k
theorem mEq_s (k:Q (.bl (b ^^ decide (p = q))) H):mEq b (.str p) (.str q) H Q:=k
theorem mEq_b {c d:Bool} (k:Q (.bl (b ^^ decide (c = d))) H):mEq b (.bl c) (.bl d) H Q:=k
theorem mInS_i (k:Q (.bl (b ^^ inS p q)) H):mInS b (.str p) (.str q) H Q:=k
theorem mB_i (k:P b H):mB P (.bl b) H:=k
theorem mTest_i (k:ta σ H (mB P)):mTest ta σ H P:=k
theorem mTrue_i (k:ta σ H (mTru K P)):mTrue K ta σ H P:=k
theorem mTru_b (k:P b H):mTru K P (.bl b) H:=k
theorem c5z {r r':R2} (k:ta σ H fun x H1=>tb σ H1 fun y H2=>r x y H2 (mB fun k H3=>if k = true then tc σ H3 fun w' H4=>r' y w' H4 Q else Q (.bl false) H3)):mChain r r' ta tb tc σ H Q:=k
theorem mAndV_i (k:ta σ H (mB fun c H1=>if c = true then tb σ H1 Q else Q (.bl false) H1)):mAndV ta tb σ H Q:=k
theorem mOrV_i (k:ta σ H (mB fun c H1=>if c = true then Q (.bl true) H1 else tb σ H1 Q)):mOrV ta tb σ H Q:=k
theorem mNotV_i (k:ta σ H (mTru K fun b H'=>Q (.bl (!b)) H')):mNotV K ta σ H Q:=k
theorem tIf_i (k:A σ H fun c H1=>if c = true then ta σ H1 Q else tb σ H1 Q):tIf A ta tb σ H Q:=k
theorem tAnd_i (k:A σ H fun c H1=>if c = true then B σ H1 P else P false H1):tAnd A B σ H P:=k
theorem tOr_i (k:A σ H fun c H1=>if c = true then P true H1 else B σ H1 P):tOr A B σ H P:=k
theorem tNot_i (k:A σ H fun c H1=>P (!c) H1):tNot A σ H P:=k
theorem b0z (k:t { D with nx:=u D } σ H):tSeq t u D σ H:=k
theorem a8h (k:D.nx σ H):tNext D σ H:=k
theorem tRet_i (k:te σ H D.rt):tRet te D σ H:=k
theorem tIfS_i (k:A σ H fun b H1=>if b = true then t D σ H1 else u D σ H1):tIfS A t u D σ H:=k
theorem tAsg_i {g:TG} (k:te σ H fun x H1=>g x σ H1 D.nx):tAsg te g D σ H:=k
theorem tDrop_i (k:te σ H fun _ H1=>D.nx σ H1):tDrop te D σ H:=k
theorem gName_i {N:St->Hp->Prop} (k:N (σ.set n (some v)) H):b5t n v σ H N:=k
theorem tCB_i {r:List V->Hp->VK->Prop} {a:TA} (k:a σ H fun vs H1=>r vs H1 Q):tCB r a σ H Q:=k
theorem tCons_i {a:TA} {R:List V->Hp->Prop} (k:ta σ H fun x H1=>a σ H1 fun xs H2=>R (x :: xs) H2):b5v ta a σ H R:=k
theorem tNil_i {R:List V->Hp->Prop} (k:R [] H):tNil σ H R:=k
theorem tBM_i {T:String} {r:V->List V->Hp->VK->Prop} {a:TA} (k:ta σ H fun x H1=>tyV K T x H1/\a σ H1 fun xs H2=>r x xs H2 Q):tBM K T r ta a σ H Q:=k
theorem tBM0_i {T:String} {r:V->List V->Hp->VK->Prop} (k:ta σ H fun x H1=>tyV K T x H1/\r x [] H1 Q):tBM0 K T r ta σ H Q:=k
theorem tTup_i {a:TA} (k:a σ H fun xs H1=>xs.length<=sizeLine/\∀ p,H1 p = none->Q (.ref p) (upd H1 p (.tup xs))):tTup a σ H Q:=k
theorem tLst_i {a:TA} (k:a σ H fun xs H1=>xs.length<=sizeLine/\∀ p,H1 p = none->Q (.ref p) (upd H1 p (.lst xs))):tLst a σ H Q:=k
theorem tSl_i {r:V->Option Int->Option Int->Hp->VK->Prop} {tl th:TO} (k:te σ H fun x H1=>tl σ H1 fun l H2=>th σ H2 fun u H3=>r x l u H3 Q):tSl r te tl th σ H Q:=k
theorem c3j {R:Option Int->Hp->Prop} (k:R none H):b9u σ H R:=k
theorem mPart_i {R:Option Int->Hp->Prop} (k:te σ H (mI R)):b5y te σ H R:=k
theorem mI_i {R:Option Int->Hp->Prop} (k:R (some i) H):mI R (.int i) H:=k
theorem a4q {a:Addr} {xs:List V} (c:SqL K H a xs) (k:Q (.int xs.length) H):mLen K [.ref a] H Q:=.inl ⟨xs,c,k⟩
theorem a9n {a:Addr} {xs:List V} (c:SqT K H a xs) (k:Q (.int xs.length) H):mLen K [.ref a] H Q:=.inr ⟨xs,c,k⟩
theorem a1b {a:Addr} {xs:List V} (c:SqL K H a xs) (e:atI xs i = some v) (k:Q v H):mIx K (.ref a) (.int i) H Q:=.inl ⟨xs,v,c,e,k⟩
theorem a0l {a:Addr} {xs:List V} (c:SqT K H a xs) (e:atI xs i = some v) (k:Q v H):mIx K (.ref a) (.int i) H Q:=.inr ⟨xs,v,c,e,k⟩
theorem mIx_s {c:Nat} (z:p.length<=sizeLine) (e:atI p.cps.toList i = some c) (k:Q (.str ⟨#[c]⟩) H):mIx K (.str p) (.int i) H Q:=⟨z,c,e,k⟩
theorem a6k {a:Addr} {xs:List V} (e:H a = some (.lst xs)) (c:xs.length < sizeLine) (k:Q .non (upd H a (.lst (xs ++ [v])))):b4g (.ref a) [v] H Q:=⟨xs,e,c,k⟩
theorem iteB {c d:Prop} (h1:b = true->c) (h2:b = false->d):if b = true then c else d:=by
 cases b with
 | true=>exact h1 rfl
 | false=>exact h2 rfl
theorem c6a {sp:Sp} {E:XK} {a:TA} (k:a σ H fun vs H1=>sp vs H1 Q E):tCall sp [] E a σ H Q:=by
 unfold tCall
 have e:(fun (vs:List V) (H1:Hp)=>sp (vs ++ []) H1 Q E) = fun vs H1=>sp vs H1 Q E:=by funext vs H1; rw [List.append_nil]
 rw [e]; exact k
theorem tFor_i {wi:TI} {g:TG} (k:wi σ H fun J H1=>ForW J g t D σ H1):tFor wi g t D σ H:=k
theorem iList_i {R:It->Hp->Prop} (k:ta σ H fun x H1=>∃ a,x = .ref a/\(∃ xs,SqL K H1 a xs)/\R (Itl K a) H1):iList K ta σ H R:=k
theorem iTup_i {R:It->Hp->Prop} (k:ta σ H fun x H1=>∃ a,x = .ref a/\(∃ xs,SqT K H1 a xs)/\R (Itt K a) H1):iTup K ta σ H R:=k
theorem iRng1_i {a:TA} {R:It->Hp->Prop} (k:a σ H fun vs H1=>∃ j:Int,vs = [.int j]/\-(2 ^ 62)<=j/\j < 2 ^ 62/\R (Itr 0 j.toNat) H1):iRng1 a σ H R:=k
theorem tComp_i {wi:TI} {tt:TT} (k:wi σ H fun J H1=>∀ D,H1 D = none->b5w J tt te σ Q D H1):tComp wi tt te σ H Q:=k
theorem a2k (Post:St->Hp->Prop) (h1:∀ σ' H',Post σ' H'->u D σ' H') (h2:(∀ σ' H',Post σ' H'->u D σ' H')->t { D with nx:=u D } σ H):tSeq t u D σ H:=h2 h1
theorem b5h {z:Str} {i:Int} (h0:0<=i) (h1:i < (z.length:Int)):∃ c,atI z.cps.toList i = some c:=by
 obtain ⟨c,hc,_⟩:=a5r (xs:=z.cps.toList) h0 (by simp only [Array.length_toList]; exact h1)
 exact ⟨c,hc⟩
end
mutual
inductive Den (K:W.Frag) (H:Hp):V->PyData->Prop
 | non:Den K H .non .none
 | bl (b:Bool):Den K H (.bl b) (.bool b)
 | int (i:Int):Den K H (.int i) (.int i)
 | str (x:Str):Den K H (.str x) (.str x)
 | tup {a:Addr} {us:List V} {ds:List PyData}:SqT K H a us->DenL K H us ds->Den K H (.ref a) (.tuple ds)
inductive DenL (K:W.Frag) (H:Hp):List V->List PyData->Prop
 | nil:DenL K H [] []
 | cons {u:V} {us:List V} {d:PyData} {ds:List PyData}:Den K H u d->DenL K H us ds->DenL K H (u :: us) (d :: ds)
end
mutual
theorem Den.monoT {K:W.Frag} {H H':Hp} (e:∀ a xs,SqT K H a xs->SqT K H' a xs):∀ {v:V} {d:PyData},Den K H v d->Den K H' v d
 | _,_,.non=>.non
 | _,_,.bl b=>.bl b
 | _,_,.int i=>.int i
 | _,_,.str x=>.str x
 | _,_,.tup h l=>.tup (e _ _ h) (DenL.monoT e l)
theorem DenL.monoT {K:W.Frag} {H H':Hp} (e:∀ a xs,SqT K H a xs->SqT K H' a xs):∀ {v:List V} {d:List PyData},DenL K H v d->DenL K H' v d
 | _,_,.nil=>.nil
 | _,_,.cons h l=>.cons (Den.monoT e h) (DenL.monoT e l)
end
theorem Den.mono {K:W.Frag} {H H':Hp} (e:Same H H') {v:V} {d:PyData} (h:Den K H v d):Den K H' v d:=h.monoT fun _ _ q=>e.tup q
theorem DenL.mono {K:W.Frag} {H H':Hp} (e:Same H H') {v:List V} {d:List PyData} (h:DenL K H v d):DenL K H' v d:=h.monoT fun _ _ q=>e.tup q
theorem b9z {K:W.Frag} {H:Hp} {p:Addr} {ys:List V} {o:HO} (h:H p = some (.lst ys)):∀ a xs,SqT K H a xs->SqT K (upd H p o) a xs:=fun a xs q=>by
 rcases q with (q | ⟨o',q⟩) | q
 ·exact .inl (.inl (by rw [a0j (ne_of q h (fun z=>by cases z))]; exact q))
 ·exact .inl (.inr ⟨o',by rw [a0j (ne_of q h (fun z=>by cases z))]; exact q⟩)
 ·exact .inr q
theorem Den.lst {K:W.Frag} {H:Hp} {p:Addr} {ys:List V} {o:HO} (h:H p = some (.lst ys)) {v:V} {d:PyData} (q:Den K H v d):Den K (upd H p o) v d:=q.monoT (b9z h)
theorem DenL.lst {K:W.Frag} {H:Hp} {p:Addr} {ys:List V} {o:HO} (h:H p = some (.lst ys)) {v:List V} {d:List PyData} (q:DenL K H v d):DenL K (upd H p o) v d:=q.monoT (b9z h)
section
variable {K:W.Frag} {H:Hp}
theorem DenL.length:∀ {us:List V} {ds:List PyData},DenL K H us ds->us.length = ds.length
 | _,_,.nil=>rfl
 | _,_,.cons _ l=>by rw [List.length_cons,List.length_cons,DenL.length l]
theorem DenL.get:∀ {us:List V} {ds:List PyData} {i:Nat} {u:V},DenL K H us ds->us[i]? = some u->∃ d,ds[i]? = some d/\Den K H u d
 | _,_,_,_,.nil,e=>by simp at e
 | _,_,0,_,.cons h _,e=>by simp at e; subst e; exact ⟨_,rfl,h⟩
 | _,_,i + 1,u,.cons _ l,e=>by
  obtain ⟨d,h1,h2⟩:=DenL.get (i:=i) (u:=u) l (by simpa using e)
  exact ⟨d,by simpa using h1,h2⟩
theorem DenL.append:∀ {us vs:List V} {ds es:List PyData},DenL K H us ds->DenL K H vs es->DenL K H (us ++ vs) (ds ++ es)
 | _,_,_,_,.nil,l=>l
 | _,_,_,_,.cons h t,l=>.cons h (DenL.append t l)
theorem DenL.take:∀ {us:List V} {ds:List PyData} (n:Nat),DenL K H us ds->DenL K H (us.take n) (ds.take n)
 | _,_,0,_=>.nil
 | _,_,_ + 1,.nil=>.nil
 | _,_,n + 1,.cons h t=>.cons h (DenL.take n t)
theorem DenL.drop:∀ {us:List V} {ds:List PyData} (n:Nat),DenL K H us ds->DenL K H (us.drop n) (ds.drop n)
 | _,_,0,l=>l
 | _,_,_ + 1,.nil=>.nil
 | _,_,n + 1,.cons _ t=>DenL.drop n t
end
section
variable {X:Cx} {pins:List (Addr × Obj)} {σ:St} {H:Hp} {s:Shared}
end
section
variable {X:Cx} {a b c e:Expr} {ta tb tc te:TE} {pos:Pos} {tg l:Expr} {tl:TE}
theorem a5o {k:Nat} {A:Around} (hr:Room k A):A.units + 150 < cLine:=by have:=hr.un; omega
noncomputable def mSlL (K:W.Frag):V->Option Int->Option Int->Hp->VK->Prop:=fun x lo hi H Q=>∃ a xs,x = .ref a/\SqL K H a xs/\∀ p,H p = none->Q (.ref p) (upd H p (.lst (cutV xs lo hi)))
theorem ks_list (K:W.Frag) (h:X.K = K):SlR X (mSlL K):=h ▸ sl_list
noncomputable def mTup (K:W.Frag):List V->Hp->VK->Prop:=fun vs H Q=>∃ p ys,vs = [.ref p]/\((SqL K H p ys/\∀ l,H l = none->Q (.ref l) (upd H l (.tup ys)))\/(SqT K H p ys/\Q (.ref p) H))
theorem a7c (K:W.Frag) (h:X.K = K):a1z X (.type "tuple") (mTup K):=h ▸ b5o
noncomputable def mLst (K:W.Frag):List V->Hp->VK->Prop:=fun vs H Q=>∃ p ys,vs = [.ref p]/\(SqL K H p ys\/SqT K H p ys)/\∀ l,H l = none->Q (.ref l) (upd H l (.lst ys))
theorem kc_list (K:W.Frag) (h:X.K = K):a1z X (.type "list") (mLst K):=h ▸ b6p
noncomputable def mMin:List V->Hp->VK->Prop:=fun vs H Q=>∃ i j,vs = [.int i,.int j]/\Q (.int (if j < i then j else i)) H
theorem c3k (hc:X.calm = true):a1z X (.builtin "min") mMin:=c2r hc
noncomputable def mMax:List V->Hp->VK->Prop:=fun vs H Q=>∃ i j,vs = [.int i,.int j]/\Q (.int (if j > i then j else i)) H
theorem mc_max (hc:X.calm = true):a1z X (.builtin "max") mMax:=c2q hc
end
open PySem.AutoSeq1 in
open PySem.MeetsSeq PySem.MeetsSeq2 PySem.MeetsSeq3 in
theorem c1g (l:Addr) (items:Array Value) (n:Nat) (b:Addr) (items2:Array Value) (n2:Nat) (dd:Option Addr) (sl:Array (Option Value)) (hs0:¬(!items.isEmpty && Builtin.List.listTooLong (items.size + items2.size)) = true) (hs1:items.size<=sizeLine) (hs2:items.size + items2.size<=sizeLine + 1) :
  Meets (Builtin.«list.extend» ⟨[.ref l,.ref b],[]⟩) (fun _ R s=>s.heap.get? l = some { cls:=.type "list",dict:=none,data:=.seq items n,slots:=#[] }/\s.heap.get? b = some { cls:=.type "tuple",dict:=dd,data:=.seq items2 n2,slots:=sl } /\
   R (.ok (.ret Value.none)) { s with heap:=s.heap.update l (Obj.mapSeq fun x=>x ++ items2),toks:=s.toks }):=
 .of_wp fun prog w A R s h=>by
  obtain ⟨hp,g,d,tk,os⟩:=s
  obtain ⟨hl,hb,h⟩:=h
  have f1:=idx_int
  have f2:=PySem.AutoSeq1.sub_tuple_tuple
  have f3:=PySem.AutoSeq1.sub_list_list
  have f4:=PySem.AutoSeq1.sub_tuple_list
  have f5:=PySem.AutoSeq1.sub_list_tuple
  have hz':(items ++ items2).size<=sizeLine + 1:=by rw [Array.size_append]; exact hs2
  wp_walk using (wpAny_updateSeq hl rfl (hz:=hs1) (_hz':=hz')),wpAny_loadPart' hl,wpAny_loadPart' hb
  exact ⟨_,rfl,h⟩
section
variable {X:Cx}
noncomputable def mExt (K:W.Frag):V->List V->Hp->VK->Prop:=fun x vs H Q=>∃ l b xs zs,x = .ref l/\vs = [.ref b]/\H l = some (.lst xs)/\(H b = some (.lst zs)\/SqT K H b zs)/\xs.length + zs.length<=sizeLine/\Q .non (upd H l (.lst (xs ++ zs)))
theorem b1a (K:W.Frag) (hK:X.K = K):MtR X "list.extend" (mExt K):=by
 subst hK
 intro pins s σ H x vs v us Q I rx rv h
 obtain ⟨l,b,xs,zs,e1,e2,hH,hB,hz,q⟩:=h
 rcases hB with hB | hB
 ·exact c2y pins s σ H x vs v us Q I rx rv ⟨l,b,xs,zs,e1,e2,hH,hB,hz,q⟩
 ·subst e1 e2
  cases rx
  obtain ⟨u,rfl,ru⟩:=rv.one
  cases ru
  obtain ⟨z,its,n,r,hl,e⟩:=I.lstM hH
  obtain ⟨its2,r2,pl,z2⟩:=I.tuple hB
  obtain ⟨⟨cls,dd,data,sl⟩,ho,hc,n2,hd⟩:=pl
  simp only at hc hd
  subst hc hd
  have hl2:=r2.length
  have hsz:its.toArray.size + its2.toArray.size<=sizeLine:=by rw [List.size_toArray,List.size_toArray]; omega
  have hlong:¬ (!its.toArray.isEmpty && Builtin.List.listTooLong (its.toArray.size + its2.toArray.size)) = true:=by
   rw [b2l hsz,Bool.and_false]
   exact Bool.false_ne_true
  refine call_meets F.slot_list_extend ⟨_,e,rfl⟩ F.entry_list_extend (F.args_list_extend_2 _ _) (c1g l its.toArray n b its2.toArray n2 dd sl hlong (by rw [List.size_toArray]; omega) (by omega)) ⟨e,ho,?_⟩
  refine ⟨.non,_,I.lset (its':=its ++ its2) hH e (by simp) (r.append r2) ?_,rfl,q⟩
  rw [List.length_append]
  omega
end
section
variable {prog:Program} {w:World} {A:Around} {E:Value->Shared->Prop} {s:Shared}
theorem b2e {t sl:Addr} {items:Array Value} {vl vu:Value} {lo hi:Option Int} {Q:Value->Shared->Prop} (ht:IsTup s.heap t items) (hs:s.heap.IsSliceOf sl vl vu .none) (pl:IsPart vl lo) (pu:IsPart vu hi)
  (hw:HT.sIx items.size 0 lo = 0/\HT.sIx items.size items.size hi = items.size) (h:Q (.ref t) s):wpAny (model prog w) A (getItem (.ref t) (.ref sl)) Q E s:=by
 obtain ⟨os,hos,hcs,hds⟩:=id hs
 have hTs:s.TypeIs (.ref sl) "slice":=⟨os,hos,hcs⟩
 unfold getItem
 try with_reducible refine wpAny_holding ?_
 first | refine wpAny_bind (wpAny_pure ?_) | skip
 refine wpAny_bind (wpAny_sequenceKey ht.typeIs (by decide) ?_)
 refine wpAny_bind (wpAny_callSpecial?_slot (name:=Str.ofString "__getitem__") ht.typeIs PyProof.Rows.slot_tuple_getitem
  (wpAny_call_entry PyProof.Rows.slot_tuple_getitem ht.typeIs entry_tuple_getitem ?_ (args_tuple_getitem _ _)))
 show wpAny _ _ (Builtin.Tuple.tupleItemsOf (.ref t) >>= _) _ _ s
 refine wpAny_bind (tupleItemsOf_ ht ?_)
 refine wpAny_bind (wpAny_typeOf hTs ?_)
 rw [if_pos (by decide)]
 refine wpAny_bind (HT.sliceApplied_gen hs pl pu ?_)
 show wpAny _ _ (if (((HT.sIx items.size 0 lo:Nat):Int) == 0 && (1:Int) == 1 && (HT.sIx items.size items.size hi - HT.sIx items.size 0 lo) == items.size) = true then _ else _) _ _ s
 rw [if_pos (by rw [hw.1,hw.2]; simp)]
 refine wpAny_bind ?_
 unfold Builtin.Tuple.tupleIsExact
 refine wpAny_bind (wpAny_typeOf ht.typeIs (wpAny_pure ?_))
 rw [if_pos (by decide)]
 exact wpAny_bind (wpAny_rule (wpAny_pure ⟨_,rfl,wpAny_pure h⟩))
end
section
variable {X:Cx}
noncomputable def b3m (xs:List V) (lo hi:Option Int):Prop:=HT.sIx xs.length 0 lo = 0/\HT.sIx xs.length xs.length hi = xs.length
noncomputable def mSlT (K:W.Frag):V->Option Int->Option Int->Hp->VK->Prop:=fun x lo hi H Q=>∃ a xs,x = .ref a/\SqT K H a xs/\(b3m xs lo hi->Q (.ref a) H)/\(¬ b3m xs lo hi->∀ p,H p = none->Q (.ref p) (upd H p (.tup (cutV xs lo hi))))
theorem b1b (K:W.Frag) (hK:X.K = K):SlR X (mSlT K):=by
 subst hK
 intro pins s σ H x v vl vu lo hi sl Q I rx hs pl pu h
 obtain ⟨a,xs,rfl,hx,h1,h2⟩:=h
 by_cases hw:b3m xs lo hi
 ·cases rx
  obtain ⟨its,r,ht,hz⟩:=I.tuple hx
  have hlen:its.toArray.size = xs.length:=by rw [List.size_toArray]; exact r.length.symm
  exact ⟨"tuple",_,PyProof.Rows.slot_tuple_getitem.lookup,ht.typeIs,b2e ht hs pl pu (by rw [hlen]; exact hw) ⟨.ref a,H,I,rfl,h1 hw⟩⟩
 ·exact sl_tup pins s σ H _ v vl vu lo hi sl Q I rx hs pl pu ⟨a,xs,rfl,hx,hw,h2 hw⟩
theorem c6b {K:W.Frag} {H:Hp} {a:Addr} {us:List V} {ds:List PyData} {lo hi:Option Int} {Q:VK} (hs:SqT K H a us) (hl:DenL K H us ds)
  (q:∀ p H',Same H H'->Den K H' (.ref p) (.tuple ((ds.drop (HT.sIx ds.length 0 lo)).take (HT.sIx ds.length ds.length hi - HT.sIx ds.length 0 lo)))->Q (.ref p) H'):mSlT K (.ref a) lo hi H Q:=by
 have l:=hl.length
 refine ⟨a,us,rfl,hs,fun hw=>?_,fun hw p hp=>?_⟩
 ·obtain ⟨w1,w2⟩:=hw
  refine q a H (Same.refl H) ?_
  rw [<- l,w1,w2,List.drop_zero,Nat.sub_zero,l,List.take_length]
  exact .tup hs hl
 ·refine q p _ (a0f hp _) (.tup (SqT.of a0b) ?_)
  unfold cutV
  rw [<- l]
  exact ((hl.drop _).take _).mono (a0f hp _)
end
section
variable {σ:St} {H:Hp} {D:Ends} {t:TS} {c:TT}
noncomputable def c3l (c:TT) (t:TS) (D:Ends) (σ:St) (H:Hp):Prop:=b6g c t D σ H
theorem c6c (k:c3l c t D σ H):b6g c t D σ H:=k
theorem a5d (Pv:Nat->St->Hp->Prop) (n:Nat) (h0:Pv n σ H)
  (hs:∀ n σ H (R:Bool->Hp->Prop),Pv n σ H->(∀ H1,(∀ (D':Ends),D'.rt = D.rt->D'.bk = D.nx->(∀ σ' H' m,m < n->Pv m σ' H'->D'.nx σ' H')->(∀ σ' H' m,m < n->Pv m σ' H'->D'.ct σ' H')->t D' σ H1)->R true H1)->(∀ H1,D.nx σ H1->R false H1)->c σ H R):c3l c t D σ H:=by
 refine ⟨Pv,⟨n,h0⟩,fun m σ H p=>?_⟩
 refine hs m σ H _ p (fun H1 k=>?_) (fun H1 k=>k)
 exact ⟨fun σ' H'=>∃ m',m' < m/\Pv m' σ' H',fun _ _ h=>h,k _ rfl rfl (fun _ _ m' hm hp=>⟨m',hm,hp⟩) (fun _ _ m' hm hp=>⟨m',hm,hp⟩)⟩
end
section
variable {X:Cx} {a:Expr} {ta:TE}
noncomputable def tyN (K:W.Frag) (H:Hp):V->String->Prop
 | .non,T=>T = "NoneType"
 | .bl _,T=>T = "bool"
 | .int _,T=>T = "int"
 | .str _,T=>T = "str"
 | .ref p,T=>(T = "list"/\∃ xs,SqL K H p xs)\/(T = "tuple"/\∃ xs,SqT K H p xs)\/(T = "dict"/\∃ kvs,H p = some (.dK kvs))
 | _,_=>False
noncomputable def mIs (K:W.Frag):List V->Hp->VK->Prop:=fun vs H Q=>∃ x n T b,vs = [x,.ty n]/\tyN K H x T/\(∀ K':W.Frag,W.kitOne K' (.type T) (.type n) = some b)/\Q (.bl b) H
theorem kc_is (K:W.Frag) (hK:X.K = K):a1z X (.builtin "isinstance") (mIs K):=by
 subst hK
 intro pins s σ H xs us Q I r h
 obtain ⟨x,n,T,b,rfl,ht,hk,q⟩:=h
 obtain ⟨u,w',rfl,r1,r2⟩:=b3d r
 cases r2
 have fin:∀ tk,EP X pins σ Q (.bool b) { s with toks:=tk }:=fun tk=>⟨.bl b,H,I.tok _,rfl,q⟩
 cases x with
 | non=>cases ht; exact a7n I r1 .non (hk _) fin
 | bl y=>cases ht; exact a7n I r1 (.bl y) (hk _) fin
 | int i=>cases ht; exact a7n I r1 (.int i) (hk _) fin
 | str z=>cases ht; exact a7n I r1 (.str z) (hk _) fin
 | ref p=>
  cases r1
  rcases ht with ⟨rfl,xs,hs⟩ | ⟨rfl,xs,hs⟩ | ⟨rfl,kvs,hs⟩
  ·obtain ⟨its,_,⟨o,n',h1,h2,_⟩,_⟩:=I.list hs
   exact W.kia_one W.kitx_list I.kIn ⟨o,h1,h2⟩ (hk _) (fun z=>nomatch z) fin
  ·obtain ⟨its,_,⟨o,h1,h2,_⟩,_⟩:=I.tuple hs
   exact W.kia_one W.kitx_tuple I.kIn ⟨o,h1,h2⟩ (hk _) (fun z=>nomatch z) fin
  ·exact a7n (x:=.ref p) I rfl (.dK hs) (hk _) fin
 | _=>exact (show False from ht).elim
end
section
variable {K:W.Frag} {H:Hp} {Q:VK} {i:Int} {p:Str} {b:Bool} {a:Addr} {xs:List V}
theorem is_bool (k:Q (.bl true) H):mIs K [.bl b,.ty "bool"] H Q:=⟨_,_,_,true,rfl,rfl,fun _=>c5y _ _,k⟩
theorem a9o {α:Type} {xs:List α} {i:Int} {v:α} (h:atI xs i = some v):v ∈ xs:=by
 obtain ⟨j,_,e,_⟩:=a9j h
 exact List.mem_of_getElem? e
theorem c0a (l m:List Nat):(⟨l.toArray⟩:Str) ++ ⟨m.toArray⟩ = ⟨(l ++ m).toArray⟩:=by
 apply Str.ext'
 show l.toArray ++ m.toArray = (l ++ m).toArray
 simp
theorem str_len (l:List Nat):(⟨l.toArray⟩:Str).length = l.length:=by simp [Str.length]
theorem ints_at {ns:List Int} {i:Int} {v:V} (h:atI (ns.map V.int) i = some v):∃ n,v = .int n:=by
 have:=a9o h
 obtain ⟨n,_,e⟩:=List.mem_map.mp this
 exact ⟨n,e.symm⟩
theorem mSlL_i {lo hi:Option Int} (c:SqL K H a xs) (k:∀ p,H p = none->Q (.ref p) (upd H p (.lst (cutV xs lo hi)))):mSlL K (.ref a) lo hi H Q:=⟨a,xs,rfl,c,k⟩
theorem a9p (c:SqL K H a xs) (k:∀ l,H l = none->Q (.ref l) (upd H l (.tup xs))):mTup K [.ref a] H Q:=⟨a,xs,rfl,.inl ⟨c,k⟩⟩
theorem mLst_l (c:SqL K H a xs) (k:∀ l,H l = none->Q (.ref l) (upd H l (.lst xs))):mLst K [.ref a] H Q:=⟨a,xs,rfl,.inl c,k⟩
theorem mMin_i {j:Int} (k:Q (.int (if j < i then j else i)) H):mMin [.int i,.int j] H Q:=⟨i,j,rfl,k⟩
theorem c3m {zs:List V} {l:Addr} (e:H l = some (.lst xs)) (c:SqT K H a zs) (z:xs.length + zs.length<=sizeLine) (k:Q .non (upd H l (.lst (xs ++ zs)))):mExt K (.ref l) [.ref a] H Q:=⟨l,a,xs,zs,rfl,rfl,e,.inr c,z,k⟩
theorem mExt_l {zs:List V} {l:Addr} (e:H l = some (.lst xs)) (c:H a = some (.lst zs)) (z:xs.length + zs.length<=sizeLine) (k:Q .non (upd H l (.lst (xs ++ zs)))):mExt K (.ref l) [.ref a] H Q:=⟨l,a,xs,zs,rfl,rfl,e,.inl c,z,k⟩
theorem a9q {l:Addr} {v:V} (e:H l = some (.lst (xs ++ [v]))) (k:Q v (upd H l (.lst xs))):mPop (.ref l) [] H Q:=⟨xs,v,e,k⟩
theorem c3n {q:Addr} {ys:List V} (e1:H a = some (.lst xs)) (e2:H q = some (.lst ys)) (z:xs.length + ys.length<=sizeLine) (k:∀ d,H d = none->Q (.ref d) (upd H d (.lst (xs ++ ys)))):mAdd K (.ref a) (.ref q) H Q:=.inl ⟨xs,ys,e1,e2,z,k⟩
theorem iRng2_i {σ:St} {ta:TA} {R:It->Hp->Prop} (k:ta σ H fun vs H1=>∃ i j:Int,vs = [.int i,.int j]/\(-(2 ^ 62)<=i/\i < 2 ^ 62/\-(2 ^ 62)<=j/\j < 2 ^ 62)/\R (Itr i (j - i).toNat) H1):iRng2 ta σ H R:=k
end
section
variable {X:Cx}
theorem preSum_eq (ns:List Int):∀ n,n<=ns.length->preSum (fun i=>ns.getD i 0) n = (ns.take n).sum
 | 0,_=>by simp [preSum]
 | n + 1,h=>by
  have hn:n < ns.length:=by omega
  rw [preSum,preSum_eq ns n (by omega),List.take_add_one,List.sum_append,List.getElem?_eq_getElem hn,List.getD_eq_getElem?_getD,List.getElem?_eq_getElem hn]
  simp
noncomputable def mSum (K:W.Frag):List V->Hp->VK->Prop:=fun vs H Q=>∃ (p:Addr) (ns:List Int),vs = [.ref p]/\SqL K H p (ns.map V.int)/\(∀ n ∈ ns,0<=n)/\ns.sum < 2 ^ 62/\Q (.int ns.sum) H
theorem b6r:∀ {ns:List Int},(∀ n ∈ ns,0<=n)->0<=ns.sum
 | [],_=>by simp
 | a :: r,h=>by
  have h1:=h a List.mem_cons_self
  have h2:=b6r (ns:=r) fun n hn=>h n (List.mem_cons_of_mem _ hn)
  rw [List.sum_cons]; omega
theorem kc_sum (K:W.Frag) (hK:X.K = K) (hc:X.calm = true):a1z X (.builtin "sum") (mSum K):=by
 subst hK
 intro pins s σ H xs us Q I r h
 obtain ⟨p,ns,rfl,hs,hn,hm,q⟩:=h
 obtain ⟨u,rfl,r1⟩:=vals1 r
 cases r1
 obtain ⟨its,rv,pl,hz⟩:=I.list hs
 have hi:IntsAre its ns:=intsAre_of rv
 have hlen:its.length = ns.length:=hi.length
 have hl:p < s.heap.objs.size:=by
  obtain ⟨o,n,h1,_⟩:=pl
  exact Heap.lt_size h1
 have part:∀ j,j<=ns.length->0<=(ns.take j).sum/\(ns.take j).sum<=ns.sum:=fun j hj=>by
  have e:=List.take_append_drop j ns
  have h1:=b6r (ns:=ns.take j) fun n hm=>hn n (List.mem_of_mem_take hm)
  have h2:=b6r (ns:=ns.drop j) fun n hm=>hn n (List.mem_of_mem_drop hm)
  have h3:(ns.take j ++ ns.drop j).sum = ns.sum:=by rw [e]
  rw [List.sum_append] at h3
  omega
 refine call_sum_walk (wpAny_pyIter_list pl.isList ?_)
 refine ⟨s.heap.objs.size,[s.heap.objs.size,p],[s.heap.objs.size],its.toArray.size,_,_,fun i=>ns.getD i 0,rfl,Walks.list (A:=X.A.in1) (show X.A.in1.handled = none from I.ok.hd hc) s.heap.objs.size p (Nat.ne_of_lt hl) its.toArray,
  ⟨⟨_,Heap.get?_push_size _ rfl,rfl,rfl⟩,pl.isList.at fun o e=>Heap.get?_push_of_some _ e⟩,fun b hb=>?_,fun i v hv=>?_,fun j hj=>?_,fun h' tk t' hk=>?_⟩
 ·rw [Heap.size_push]
  simp only [List.mem_cons,List.not_mem_nil,or_false] at hb
  rcases hb with rfl | rfl
  ·exact Nat.lt_succ_self _
  ·exact Nat.lt_succ_of_lt hl
 ·have hv:its.toArray[i]? = some v:=hv
  rw [List.getElem?_toArray] at hv
  have hil:i < ns.length:=by
   have:=(List.getElem?_eq_some_iff.mp hv).1
   omega
  have x1:(ns.map V.int)[i]? = some (.int ns[i]):=by rw [List.getElem?_map,List.getElem?_eq_getElem hil]; rfl
  obtain ⟨w,e1,e2⟩:=rv.get x1
  rw [e1] at hv
  cases hv
  obtain ⟨t,rfl⟩:=e2
  refine ⟨t,?_⟩
  show Value.int ns[i] t = Value.int (ns.getD i 0) t
  rw [List.getD_eq_getElem?_getD,List.getElem?_eq_getElem hil]
  rfl
 ·have hj:j < ns.length:=by simpa [hlen] using hj
  have h1:=part (j + 1) (by omega)
  have h3:0<=ns.getD j 0/\ns.getD j 0<=ns.sum:=by
   have e:(ns.take (j + 1)).sum = (ns.take j).sum + ns.getD j 0:=by
    rw [List.take_add_one,List.sum_append,List.getElem?_eq_getElem hj,List.getD_eq_getElem?_getD,List.getElem?_eq_getElem hj]
    simp
   have h0:=part j (by omega)
   have h4:0<=ns.getD j 0:=by
    rw [List.getD_eq_getElem?_getD,List.getElem?_eq_getElem hj]
    exact hn _ (List.getElem_mem hj)
   omega
  rw [preSum_eq ns (j + 1) (by omega)]
  show InLong (ns.getD j 0)/\_
  unfold InLong
  omega
 ·have e:preSum (fun i=>ns.getD i 0) its.toArray.size = ns.sum:=by
   rw [List.size_toArray,hlen,preSum_eq ns _ (Nat.le_refl _),List.take_length]
  rw [e]
  refine ⟨.int _,H,I.kept (fun b o e=>hk b o ?_ (Heap.get?_push_of_some _ e)),⟨_,rfl⟩,q⟩
  intro z
  have z:b = s.heap.objs.size:=by simpa using z
  exact absurd (Heap.lt_size e) (by rw [z]; exact Nat.lt_irrefl _)
end
noncomputable abbrev c3o:Str:=Str.ofString "abcdefghijklmnopqrstuvwxyz"
noncomputable abbrev c3p:Str:=Str.ofString "ABCDEFGHIJKLMNOPQRSTUVWXYZ"
noncomputable abbrev figS:Str:=Str.ofString "0123456789"
noncomputable abbrev b5z:Str:=Str.ofString "+-*/:<=>&^?@#!;$"
noncomputable abbrev a7x:Str:=Str.ofString "abcdefghijklmnopqrstuvwxyzABCDEFGHIJKLMNOPQRSTUVWXYZ0123456789"
noncomputable abbrev one (c:Nat):Str:=⟨#[c]⟩
noncomputable abbrev a6q (K:W.Frag):Sp:=fun vs H Q _=>match vs with
 | [.ref a,.int at_,.int m]=>∃ ns:List Int,SqL K H a (ns.map V.int)/\ns.length<=63/\0<=at_/\at_<=100/\0<=m/\m<=100/\∀ (p:Addr) (cs:List Int) (H':Hp),cs.length<=m.toNat->Same H H'->H' p = some (.lst (cs.map V.int))->Q (.ref p) H'
 | _=>False
noncomputable abbrev a4w:Sp:=fun vs H Q _=>match vs with | [.int c]=>∀ (n:Int) (H':Hp),-(10 ^ 30) < n->n < 10 ^ 30->Same H H'->Q (.int n) H' | _=>False
noncomputable abbrev a7p:Sp:=fun vs H Q _=>match vs with | [.int c]=>∀ z:List Nat,1<=z.length->z.length<=3->(∀ y ∈ z,y ∈ b5z.cps.toList)->z ≠ [60,45]->Q (.str ⟨z.toArray⟩) H | _=>False
theorem ln {n:Nat} (h:n<=100000):n<=sizeLine:=by rw [sizeLine_eq]; omega
theorem ln1 {n:Nat} (h:n < 100000):n < sizeLine:=by rw [sizeLine_eq]; omega
theorem tl62:a7x.length = 62:=by decide +kernel
theorem mk16:b5z.length = 16:=by decide +kernel
section
variable {X:Cx} {e:Expr} {te:TE} {pos:Pos}
noncomputable def mAug (i:Nat) (te:TE) (ti:TIp):TS:=fun D σ H=>∃ x,σ[i]? = some (some x)/\te σ H fun y H1=>ti x y H1 fun z H2=>D.nx (σ.set i (some z)) H2
theorem mps_aug {i:Nat} {x:Str} {op:Operator} {ti:TIp} {pos':Pos} (hN:X.N.Nodup) (hi:X.N[i]? = some x) (hx:Loc X.env.scope x) (he:PE X e te) (ho:PIp X op ti) (hf:X.fn x = true\/X.env.scope.names.lookup x = some .local:=by first | exact .inl rfl | exact .inr rfl | assumption) :
  PS X (.AugAssign (.Name x pos') op e pos) (mAug i te ti):=ps_aug hN hi hx he ho hf
noncomputable def mIAdd:TIp:=fun x y H Q=>match x,y with
 | .int i,.int j=>Q (.int (i + j)) H
 | .str i,.str j=>i.length + j.length<=sizeLine/\Q (.str (i ++ j)) H
 | _,_=>False
theorem mi_add:PIp X .Add mIAdd:=by
 intro pins s σ H x y v u Q I rx ry h
 refine (OpR.or iop_add b8w) pins s σ H x y v u Q I rx ry ?_
 cases x <;> cases y <;> first
  | exact (show False from h).elim
  | exact .inl ⟨_,_,rfl,rfl,h⟩
  | exact .inr ⟨_,_,rfl,rfl,h.1,h.2⟩
end
section
variable {σ:St} {H:Hp} {Q:VK} {D:Ends} {te:TE} {n:Nat} {v:V} {i j:Int}
theorem mAug_i {ti:TIp} (h:σ[n]? = some (some v)) (k:te σ H fun y H1=>ti v y H1 fun z H2=>D.nx (σ.set n (some z)) H2):mAug n te ti D σ H:=⟨v,h,k⟩
theorem mIAdd_i (k:Q (.int (i + j)) H):mIAdd (.int i) (.int j) H Q:=k
end
inductive Trm where
 | num (n:Int)
 | any (x:Str)
 | app (sg:Str) (ks:List Trm)
noncomputable abbrev numS:Str:=Str.ofString "num"
noncomputable abbrev anyS:Str:=Str.ofString "any"
noncomputable abbrev appS:Str:=Str.ofString "app"
mutual
noncomputable def Trm.data:Trm->PyData
 | .num n=>.tuple [.str numS,.int n]
 | .any x=>.tuple [.str anyS,.str x]
 | .app sg ks=>.tuple [.str appS,.str sg,.tuple (Trm.dataL ks)]
noncomputable def Trm.dataL:List Trm->List PyData
 | []=>[]
 | t :: r=>t.data :: Trm.dataL r
end
mutual
noncomputable def Trm.size:Trm->Nat
 | .num _=>1
 | .any _=>1
 | .app _ ks=>1 + Trm.sizeL ks
noncomputable def Trm.sizeL:List Trm->Nat
 | []=>0
 | t :: r=>t.size + Trm.sizeL r
end
theorem Trm.size_pos:∀ t:Trm,1<=t.size
 | .num _=>Nat.le_refl 1
 | .any _=>Nat.le_refl 1
 | .app _ ks=>by unfold Trm.size; omega
theorem Trm.dataL_map:∀ ts:List Trm,Trm.dataL ts = ts.map Trm.data
 | []=>rfl
 | t :: r=>by rw [Trm.dataL,Trm.dataL_map r,List.map_cons]
theorem Trm.sizeL_map:∀ ts:List Trm,Trm.sizeL ts = (ts.map Trm.size).sum
 | []=>rfl
 | t :: r=>by rw [Trm.sizeL,Trm.sizeL_map r,List.map_cons,List.sum_cons]
theorem Trm.sizeL_app (a b:List Trm):Trm.sizeL (a ++ b) = Trm.sizeL a + Trm.sizeL b:=by
 rw [Trm.sizeL_map,Trm.sizeL_map,Trm.sizeL_map,List.map_append,List.sum_append]
theorem Trm.len_le (ts:List Trm):ts.length<=Trm.sizeL ts:=by
 induction ts with
 | nil=>simp
 | cons t r ih=>
  have:=t.size_pos
  rw [Trm.sizeL,List.length_cons]; omega
section
variable {K:W.Frag} {H:Hp} {v:V}
theorem a1u {n:Int} (h:Den K H v (Trm.num n).data):∃ a,v = .ref a/\SqT K H a [.str numS,.int n]:=by
 unfold Trm.data at h
 cases h with
 | tup hs hl=>
  cases hl with
  | cons h1 hl=>
   cases hl with
   | cons h2 hl=>
    cases hl
    cases h1
    cases h2
    exact ⟨_,rfl,hs⟩
theorem a1x {x:Str} (h:Den K H v (Trm.any x).data):∃ a,v = .ref a/\SqT K H a [.str anyS,.str x]:=by
 unfold Trm.data at h
 cases h with
 | tup hs hl=>
  cases hl with
  | cons h1 hl=>
   cases hl with
   | cons h2 hl=>
    cases hl
    cases h1
    cases h2
    exact ⟨_,rfl,hs⟩
theorem a2g {sg:Str} {ks:List Trm} (h:Den K H v (Trm.app sg ks).data):∃ a b us,v = .ref a/\SqT K H a [.str appS,.str sg,.ref b]/\SqT K H b us/\DenL K H us (Trm.dataL ks):=by
 unfold Trm.data at h
 cases h with
 | tup hs hl=>
  cases hl with
  | cons h1 hl=>
   cases hl with
   | cons h2 hl=>
    cases hl with
    | cons h3 hl=>
     cases hl
     cases h1
     cases h2
     cases h3 with
     | tup hb hk=>exact ⟨_,_,_,rfl,hs,hb,hk⟩
theorem a9r {a:Addr} {n:Int} (h:SqT K H a [.str numS,.int n]):Den K H (.ref a) (Trm.num n).data:=by
 unfold Trm.data
 exact .tup h (.cons (.str _) (.cons (.int _) .nil))
theorem a8i {a:Addr} {x:Str} (h:SqT K H a [.str anyS,.str x]):Den K H (.ref a) (Trm.any x).data:=by
 unfold Trm.data
 exact .tup h (.cons (.str _) (.cons (.str _) .nil))
theorem a1v {a b:Addr} {sg:Str} {ks:List Trm} {us:List V} (h:SqT K H a [.str appS,.str sg,.ref b]) (hb:SqT K H b us) (hk:DenL K H us (Trm.dataL ks)):Den K H (.ref a) (Trm.app sg ks).data:=by
 unfold Trm.data
 exact .tup h (.cons (.str _) (.cons (.str _) (.cons (.tup hb hk) .nil)))
theorem a7d {t:Trm} (h:Den K H v t.data):∃ a us ds,v = .ref a/\SqT K H a us/\DenL K H us ds/\t.data = .tuple ds:=by
 cases t with
 | num n=>unfold Trm.data at h ⊢; cases h with | tup hs hl=>exact ⟨_,_,_,rfl,hs,hl,rfl⟩
 | any x=>unfold Trm.data at h ⊢; cases h with | tup hs hl=>exact ⟨_,_,_,rfl,hs,hl,rfl⟩
 | app sg ks=>unfold Trm.data at h ⊢; cases h with | tup hs hl=>exact ⟨_,_,_,rfl,hs,hl,rfl⟩
theorem DenL.snoc {us:List V} {ds:List PyData} {d:PyData} (h:DenL K H us (ds ++ [d])):∃ us' u,us = us' ++ [u]/\DenL K H us' ds/\Den K H u d:=by
 induction ds generalizing us with
 | nil=>
  cases h with
  | cons h1 h2=>
   cases h2
   exact ⟨[],_,rfl,.nil,h1⟩
 | cons x r ih=>
  cases h with
  | cons h1 h2=>
   obtain ⟨us',u,rfl,a,b⟩:=ih h2
   exact ⟨_ :: us',u,rfl,.cons h1 a,b⟩
theorem DenL.at {us:List V} {ds:List PyData} {i:Int} {d:PyData} (h:DenL K H us ds) (e:atI ds i = some d):∃ u,atI us i = some u/\Den K H u d:=by
 obtain ⟨j,h1,h2,h3,h4,h5⟩:=a9j e
 have hl:=h.length
 have hj:j < us.length:=by omega
 obtain ⟨d',e1,e2⟩:=h.get (List.getElem?_eq_getElem hj)
 rw [h2] at e1
 cases e1
 refine ⟨us[j],?_,e2⟩
 unfold atI at e ⊢
 rw [hl]
 cases q:ixN ds.length i with
 | none=>rw [q] at e; cases e
 | some k=>
  rw [q] at e
  have:=(b4d q).1
  rw [h1] at this
  cases this
  exact List.getElem?_eq_getElem hj
end
section
variable {X:Cx} {tg:Expr}
end
theorem c0b (k:Nat) (h:k < 10):(Nat.digitChar k).toNat = 48 + k:=by
 have:k = 0\/k = 1\/k = 2\/k = 3\/k = 4\/k = 5\/k = 6\/k = 7\/k = 8\/k = 9:=by omega
 rcases this with rfl | rfl | rfl | rfl | rfl | rfl | rfl | rfl | rfl | rfl <;> rfl
noncomputable def a2s (n:Nat):List Nat:=(Nat.toDigits 10 n).map Char.toNat
theorem a9s {n:Nat} (h:n < 10):a2s n = [48 + n]:=by
 unfold a2s
 rw [Nat.toDigits_of_lt_base h,List.map_cons,List.map_nil,c0b n h]
theorem a9t {n:Nat} (h:10<=n):a2s n = a2s (n / 10) ++ [48 + n % 10]:=by
 unfold a2s
 rw [Nat.toDigits_of_base_le (by decide) h,List.map_append,List.map_cons,List.map_nil,c0b _ (Nat.mod_lt _ (by decide))]
theorem c0c:∀ n:Nat,(∀ y ∈ a2s n,48<=y/\y<=57)/\∃ x r,a2s n = x :: r/\(n ≠ 0->x ≠ 48):=by
 intro n
 induction n using Nat.strongRecOn with
 | ind n ih=>
  by_cases h:n < 10
  ·rw [a9s h]
   refine ⟨fun y hy=>?_,_,[],rfl,fun h0=>by omega⟩
   rw [List.mem_singleton.mp hy]; omega
  ·have h:10<=n:=by omega
   rw [a9t h]
   obtain ⟨h1,x,r,h2,h3⟩:=ih (n / 10) (by omega)
   refine ⟨fun y hy=>?_,x,r ++ [48 + n % 10],by rw [h2]; rfl,fun _=>h3 (by omega)⟩
   rcases List.mem_append.mp hy with hy | hy
   ·exact h1 y hy
   ·rw [List.mem_singleton.mp hy]; omega
theorem a7e (n:Nat):((toString (n:Int):String):Str) = ⟨(a2s n).toArray⟩:=text_ofNat n
section
variable {X:Cx}
noncomputable def mStr:List V->Hp->VK->Prop:=fun vs H Q=>match vs with
 | [.int i]=>i.natAbs.log2 < 1920/\Q (.str (toString i)) H
 | _=>False
theorem b6s:a1z X (.type "str") mStr:=by
 intro pins s σ H xs us Q I r h
 refine b6h pins s σ H xs us Q I r ?_
 unfold mStr at h
 split at h
 ·exact ⟨_,rfl,h.1,h.2⟩
 ·exact h.elim
theorem c3q {i:Int} (h0:0<=i) (h1:i < 10 ^ 30):i.natAbs.log2 < 1920:=by
 by_cases h:i.natAbs = 0
 ·rw [h]; decide
 ·refine (Nat.log2_lt h).mpr ?_
  refine Nat.lt_of_lt_of_le (m:=10 ^ 30) (by omega) ?_
  refine Nat.le_trans (m:=2 ^ 100) (by decide +kernel) (Nat.pow_le_pow_right (by decide) (by decide))
theorem b6t {i:Int} {H:Hp} {Q:VK} (h0:0<=i) (h1:i < 10 ^ 30) (k:Q (.str ⟨(a2s i.toNat).toArray⟩) H):mStr [.int i] H Q:=by
 refine ⟨c3q h0 h1,?_⟩
 obtain ⟨n,rfl⟩:=Int.eq_ofNat_of_zero_le h0
 have e:=a7e n
 rw [Int.toNat_natCast] at k
 rw [<- e] at k
 exact k
theorem mMax_i {i j:Int} {H:Hp} {Q:VK} (k:Q (.int (if j > i then j else i)) H):mMax [.int i,.int j] H Q:=⟨i,j,rfl,k⟩
end
section
variable {X:Cx}
end
section
variable {X:Cx}
noncomputable def rDIn (n:Bool):R2:=fun x y H Q=>∃ a o,y = .ref a/\DGet H a x o/\Q (.bl (n ^^ o.isSome)) H
theorem b4h (hu:X.A.units + 1 < cLine):OpR X (compareOp .NotIn) (rDIn true):=by
 intro pins s σ H x y v u Q I rx ry h
 obtain ⟨a,o,rfl,g,q⟩:=h
 cases ry
 exact d_notIn hu I g rx fun s3 I3=>⟨.bl _,H,I3,rfl,by simpa using q⟩
end
section
variable {σ:St} {H:Hp} {Q:VK} {D:Ends} {td ty tx tv:TE}
theorem tDGet_i (k:td σ H fun x H1=>ty σ H1 fun y H2=>∃ a v,x = .ref a/\DGet H2 a y (some v)/\Q v H2):tDGet td ty σ H Q:=k
theorem c6d (k:td σ H fun x H1=>∃ a,x = .ref a/\IsD H1 a/\ty σ H1 fun y H2=>tx σ H2 fun z H3=>∃ o,DGet H3 a y o/\Q (o.getD z) H3):c3c td ty tx σ H Q:=k
theorem sDPut_i (k:tv σ H fun v H1=>td σ H1 fun x H2=>ty σ H2 fun y H3=>∃ a H4,x = .ref a/\DPut H3 a y v H4/\D.nx σ H4):sDPut td ty tv D σ H:=k
end
section
variable {X:Cx}
noncomputable def c3r:V->List V->Hp->VK->Prop:=fun x vs H Q=>∃ p,x = .str p/\vs = []/\Builtin.Str.tooLong (Txt.upper p).length = false/\Q (.str (Txt.upper p)) H
theorem c6e:MtR X "str.upper" c3r:=by
 intro pins s σ H x vs v us Q I rx rv h
 obtain ⟨p,rfl,rfl,hz,q⟩:=h
 obtain ⟨t,rfl⟩:=rx
 cases rv
 exact SC.upper hz ⟨.str _,H,I.tok _,⟨_,rfl⟩,q⟩
theorem c6f {p r:Str} {H:Hp} {Q:VK} (e:Txt.upper p = r) (hz:Builtin.Str.tooLong r.length = false) (k:Q (.str r) H):c3r (.str p) [] H Q:=⟨p,rfl,rfl,by rw [e]; exact hz,by rw [e]; exact k⟩
theorem mo_shl:OpR X (binaryOp .LShift) (m2 CPow fun i j=>.int (i * 2 ^ j.toNat)):=op_shl.imp fun _ _ _ _ h=>b5x h
noncomputable def mIsN (n:Bool):R2:=fun x y H Q=>y = .non/\Q (.bl (n ^^ decide (x = .non))) H
theorem c3s:OpR X (compareOp .Is) (mIsN false):=op_isN.imp fun _ _ _ _ h=>⟨h.1,by have:=h.2; rwa [Bool.false_xor] at this⟩
theorem b1t:OpR X (compareOp .IsNot) (mIsN true):=op_notN.imp fun _ _ _ _ h=>⟨h.1,by have:=h.2; rwa [Bool.true_xor] at this⟩
theorem isN_non {n:Bool} {H:Hp} {Q:VK} (k:Q (.bl (!n)) H):mIsN n .non .non H Q:=⟨rfl,by rw [decide_eq_true rfl,Bool.xor_true]; exact k⟩
theorem isN_ref {n:Bool} {a:Addr} {H:Hp} {Q:VK} (k:Q (.bl n) H):mIsN n (.ref a) .non H Q:=⟨rfl,by rw [decide_eq_false (fun z=>by cases z),Bool.xor_false]; exact k⟩
noncomputable def mInt:List V->Hp->VK->Prop:=fun vs H Q=>match vs with
 | [.int i]=>Q (.int i) H
 | [.bl b]=>Q (.int (if b then 1 else 0)) H
 | _=>False
theorem c3t:a1z X (.type "int") mInt:=by
 intro pins s σ H xs us Q I r h
 refine c2s pins s σ H xs us Q I r ?_
 unfold mInt at h
 split at h
 ·exact .inl ⟨_,rfl,h⟩
 ·exact .inr ⟨_,rfl,h⟩
 ·exact h.elim
theorem mInt_b {b:Bool} {H:Hp} {Q:VK} (k:Q (.int (if b then 1 else 0)) H):mInt [.bl b] H Q:=k
end
noncomputable def But (p:Addr) (H H':Hp):Prop:=∀ b o,b ≠ p->H b = some o->H' b = some o
theorem But.refl (p:Addr) (H:Hp):But p H H:=fun _ _ _ h=>h
theorem Same.but {p:Addr} {H H':Hp} (s:Same H H'):But p H H':=fun b o _ h=>s b o h
theorem But.trans {p:Addr} {H H1 H2:Hp} (a:But p H H1) (b:But p H1 H2):But p H H2:=fun c o n h=>b c o n (a c o n h)
theorem a6l {p:Addr} {H:Hp} (o:HO):But p H (upd H p o):=fun b u n h=>by rw [a0j n]; exact h
theorem But.tup {K:W.Frag} {p:Addr} {H H':Hp} {ys:List V} (e:But p H H') (hp:H p = some (.lst ys)) {a:Addr} {xs:List V} (h:SqT K H a xs):SqT K H' a xs:=by
 rcases h with (h | ⟨o,h⟩) | h
 ·exact .inl (.inl (e _ _ (fun z=>by subst z; rw [hp] at h; cases h) h))
 ·exact .inl (.inr ⟨o,e _ _ (fun z=>by subst z; rw [hp] at h; cases h) h⟩)
 ·exact .inr h
theorem But.den {K:W.Frag} {p:Addr} {H H':Hp} {ys:List V} (e:But p H H') (hp:H p = some (.lst ys)) {v:V} {d:PyData} (h:Den K H v d):Den K H' v d:=h.monoT fun _ _ q=>e.tup hp q
theorem But.denL {K:W.Frag} {p:Addr} {H H':Hp} {ys:List V} (e:But p H H') (hp:H p = some (.lst ys)) {v:List V} {d:List PyData} (h:DenL K H v d):DenL K H' v d:=h.monoT fun _ _ q=>e.tup hp q
theorem c6g {α:Type} (f:α->V) (xs:List α) (lo hi:Option Int):cutV (xs.map f) lo hi = ((xs.drop (HT.sIx xs.length 0 lo)).take (HT.sIx xs.length xs.length hi - HT.sIx xs.length 0 lo)).map f:=by
 unfold cutV
 rw [List.length_map,<- List.map_drop,<- List.map_take]
theorem c3u (n:Nat) (m:Int) (h:0<=m):HT.sIx n n (some m) = min m.toNat n:=by
 unfold HT.sIx
 have e:¬ (m < 0):=by omega
 simp only [e,if_false]
section
variable {X:Cx} {pins:List (Addr × Obj)} {σ:St} {H:Hp} {s:Shared} {h':Heap}
theorem Inv.turnedLaid {t':Nat} {ch:List Addr} {T:Addr} {o:HO} (I:Inv X pins σ H s) (hf:∀ b ∈ ch,FpOk X pins H b) (k:∀ b u,b ∉ ch->s.heap.get? b = some u->h'.get? b = some u) (hT:s.heap.objs.size<=T)
  (new:a1m X.prog X.w (upd H T o) h' T o):Inv X pins σ (upd H T o) { s with heap:=h',toks:=t' }:=by
 have hn:H T = none:=I.hok.fresh hT
 have nin:∀ b u,H b = some u->b ∉ ch:=fun b u e hb=>by rw [(hf b hb).1] at e; cases e
 have neT:∀ b u,s.heap.get? b = some u->b ≠ T:=fun b u e=>Nat.ne_of_lt (Nat.lt_of_lt_of_le (Heap.lt_size e) hT)
 refine I.step (g':=s.gens) (d':=s.drawn) (ch:=ch) (fun b hb=>⟨(hf b hb).2.2.2.1,(hf b hb).2.1,(hf b hb).2.2.2.2.1,(hf b hb).2.2.2.2.2⟩) (fun b u _ _ hc e _=>k b u hc e) (fun b u _ _ hc e _=>⟨u.slots,k b u hc e⟩)
  (fun b u hc e n=>by rw [a0j (neT b u e)]; exact n) (fun b u hc e=>⟨u,k b u hc e⟩) (fun b xs q=>by rw [a0j (a0t q hn)]; exact q) (fun b u xs q=>by rw [a0j (a0t q hn)]; exact q) (fun b ps q=>⟨#[],by rw [a0j (a0t q hn),q]; simp⟩) (fun m hm=>?_) (fun b u e=>?_) I.bare
 ·obtain ⟨q,es,ep,ho,r⟩:=hm
  exact ⟨q,es,ep,k _ q (fun hb=>(hf _ hb).2.1 rfl) ho,r⟩
 ·by_cases hb:b = T
  ·subst hb; rw [a0b] at e; cases e; exact new
  ·rw [a0j hb] at e
   refine (I.hok b u e).stay (fun c v hc q=>k c v ?_ q) (fun c q=>by rw [a0j (a0t q hn)]; exact q) fun c xs q=>by rw [a0j (a0t q hn)]; exact q
   rcases hc with z | z
   ·rw [z]; exact nin b u e
   ·exact nin c _ z
end
section
variable {X:Cx}
end
open PySem PySem.Spec PyProof.Rows PySem.W
noncomputable def RawD (h:Heap) (a:Addr) (es:Array DictEntry) (ep:Nat):Prop:=∃ o,h.get? a = some o/\o.ExactDict/\o.data = .dict es ep
theorem RawD.lt {h:Heap} {a:Addr} {es:Array DictEntry} {ep:Nat} (x:RawD h a es ep):a < h.objs.size:=let ⟨_,p,_⟩:=x; Heap.lt_size p
theorem RawD.ty {s:Shared} {a:Addr} {es:Array DictEntry} {ep:Nat} (x:RawD s.heap a es ep):s.TypeIs (.ref a) "dict":=let ⟨o,p,c,_⟩:=x; ⟨o,p,c.1⟩
section
variable {prog:Program} {w:World} {A:Around} {E:Value->Shared->Prop} {s:Shared} {d:Addr} {es:Array DictEntry} {ep:Nat}
theorem c6h {Q:Value->Shared->Prop} (hd:(d == sysModules) = false) (hm:RawD s.heap d es ep)
  (hQ:Q (.ref s.heap.objs.size) { s with heap:=s.heap.push { cls:=.type "dict_keyiterator",data:=.fields #[.ref d,.int 0 0,.int es.size 0,.int ep 0] } }):wpAny (model prog w) A (pyIter (.ref d)) Q E s:=by
 obtain ⟨o,ho,hc,hdat⟩:=id hm
 refine wpAny_pyIter_slot hm.ty F.slot_dict_iter (wpAny_call_entry F.slot_dict_iter hm.ty F.entry_dict_iter ?_ (F.args_dict_iter_1 _))
 (unfold Builtin.«dict.__iter__»; refine wpAny_bind ?_; unfold Builtin.Dict.dictSlotNone; refine wpAny_bind (wpAny_notOrdered_dict hm.ty ?_); show wpAny _ _ (pure (Value.ref d)) _ _ s; refine wpAny_pure ?_)
 (show wpAny _ _ (Builtin.Dict.showsAll d >>= _) _ _ s; unfold Builtin.Dict.showsAll; rw [if_neg (by rw [hd]; exact Bool.false_ne_true)]; refine wpAny_bind (wpAny_pure (wpAny_bind (wpAny_dictEntries ho hdat (wpAny_bind (wpAny_dictEpoch ho hdat ?_))))))
 refine wpAny_bind (wpAny_newObj_type (wpAny_pure ⟨_,rfl,"dict_keyiterator",_,⟨_,Heap.get?_push_size _ rfl,rfl⟩,F.slot_dict_keyiterator_next.lookup,by simpa [rawInt] using hQ⟩))
theorem b6u {it:Addr} {i:Nat} {Q:Option Value->Shared->Prop} (hit:s.heap.IsKeyIter it d i es.size ep) (hm:RawD s.heap d es ep) (hlt:i < es.size)
  (hQ:∀ h',h'.IsKeyIter it d (i + 1) es.size ep->Heap.SameBut it s.heap h'->Q (some es[i].key) { s with heap:=h' }):wpAny (model prog w) A (pyNext (.ref it)) Q E s:=by
 obtain ⟨o,ho,hc,hd⟩:=id hit
 obtain ⟨od,hod,hcd,hdd⟩:=id hm
 (unfold pyNext; refine wpAny_bind (wpAny_attempt (wpAny_callSpecial?_slot (name:=Str.ofString "__next__") hit.typeIs F.slot_dict_keyiterator_next (wpAny_call_entry F.slot_dict_keyiterator_next hit.typeIs F.entry_dict_keyiterator_next ?_ (F.args_dict_keyiterator_next_1 _)))))
 (refine wpAny_bind (wpAny_pure (wpAny_bind (wpAny_bind ?_))); first | refine wpAny_bind (wpAny_typeNameOfWhole_keyiter hit.typeIs (wpAny_pure ?_)) | refine wpAny_bind (wpAny_typeNameOf_keyiter hit.typeIs (wpAny_pure ?_)))
 refine wpAny_bind (wpAny_fieldsOf ho hd ?_)
 simp only [show Builtin.Dict_items.ownsTuple "dict_keyiterator" = false by decide,Bool.false_eq_true,if_false]
 (show wpAny _ _ (if (Value.ref d == Value.none) = true then _ else _) _ _ s; rw [if_neg (show ¬ ((Value.ref d == Value.none) = true) from Bool.false_ne_true)]; refine wpAny_bind (wpAny_pure (wpAny_bind (wpAny_dictEntries hod hdd ?_))))
 (rw [if_neg (by simp)]; refine wpAny_bind (wpAny_pure (wpAny_bind (wpAny_dictEpoch hod hdd ?_))); rw [if_neg (by simp)]; refine wpAny_pure ?_)
 simp only [show ¬ ((i:Int) < 0) from by omega,if_false,Int.toNat_natCast,Array.getElem?_eq_getElem hlt]
 (refine wpAny_bind ?_; first | refine wpAny_bind (wpAny_typeNameOfWhole_keyiter hit.typeIs (wpAny_pure ?_)) | refine wpAny_bind (wpAny_typeNameOf_keyiter hit.typeIs (wpAny_pure ?_)))
 (refine wpAny_bind (wpAny_isOneOf_keyiter hit.typeIs ?_); show wpAny _ _ (setField (.ref it) 1 (rawInt ((i:Int) + 1)) >>= _) _ _ s; refine wpAny_bind (wpAny_setField ho hd (by simp) ?_))
 have new:(s.heap.update it (Obj.mapFields (·.setIfInBounds 1 (rawInt ((i:Int) + 1))))).IsKeyIter it d (i + 1) es.size ep:=⟨_,Heap.get?_update_self _ ho (Obj.isFreed_of_fields (Obj.data_mapFields hd _)),(Obj.cls_mapFields ..).trans hc,by rw [Obj.data_mapFields hd]; simp [rawInt]⟩
 refine wpAny_bind (wpAny_holding ?_)
 (refine wpAny_bind (wpAny_isOneOf_keyiter (s:={ s with heap:=s.heap.update it (Obj.mapFields (·.setIfInBounds 1 (rawInt ((i:Int) + 1)))) }) new.typeIs ?_))
 (show wpAny _ _ (pure es[i].key) _ _ _; exact wpAny_pure (wpAny_pure ⟨_,rfl,wpAny_pure (hQ _ new (Heap.SameBut.update ..))⟩))
theorem b8y {it:Addr} {Q:Option Value->Shared->Prop} (hh:A.handled = none) (hit:s.heap.IsKeyIter it d es.size es.size ep) (hm:RawD s.heap d es ep)
  (hQ:∀ h',Heap.ExtBut it s.heap h'->Q none { s with heap:=h' }):wpAny (model prog w) A (pyNext (.ref it)) Q E s:=by
 obtain ⟨o,ho,hc,hd⟩:=id hit
 obtain ⟨od,hod,hcd,hdd⟩:=id hm
 (unfold pyNext; refine wpAny_bind (wpAny_attempt (wpAny_callSpecial?_slot (name:=Str.ofString "__next__") hit.typeIs F.slot_dict_keyiterator_next (wpAny_call_entry F.slot_dict_keyiterator_next hit.typeIs F.entry_dict_keyiterator_next ?_ (F.args_dict_keyiterator_next_1 _)))))
 (refine wpAny_bind (wpAny_pure (wpAny_bind (wpAny_bind ?_))); first | refine wpAny_bind (wpAny_typeNameOfWhole_keyiter hit.typeIs (wpAny_pure ?_)) | refine wpAny_bind (wpAny_typeNameOf_keyiter hit.typeIs (wpAny_pure ?_)))
 refine wpAny_bind (wpAny_fieldsOf ho hd ?_)
 simp only [show Builtin.Dict_items.ownsTuple "dict_keyiterator" = false by decide,Bool.false_eq_true,if_false]
 (show wpAny _ _ (if (Value.ref d == Value.none) = true then _ else _) _ _ s; rw [if_neg (show ¬ ((Value.ref d == Value.none) = true) from Bool.false_ne_true)]; refine wpAny_bind (wpAny_pure (wpAny_bind (wpAny_dictEntries hod hdd ?_))))
 (rw [if_neg (by simp)]; refine wpAny_bind (wpAny_pure (wpAny_bind (wpAny_dictEpoch hod hdd ?_))); rw [if_neg (by simp)]; refine wpAny_pure ?_)
 simp only [show ¬ ((es.size:Int) < 0) from by omega,if_false,Int.toNat_natCast,Array.getElem?_eq_none (Nat.le_refl es.size)]
 (refine wpAny_bind ?_; first | refine wpAny_bind (wpAny_typeNameOfWhole_keyiter hit.typeIs (wpAny_pure ?_)) | refine wpAny_bind (wpAny_typeNameOf_keyiter hit.typeIs (wpAny_pure ?_)))
 (show wpAny _ _ (setField (.ref it) 0 .none >>= _) _ _ s; refine wpAny_bind (wpAny_setField ho hd (by simp) ?_); show wpAny _ _ (newExc (.type "StopIteration") [] >>= _) _ _ _; refine wpAny_bind ?_; simp only [newExc,newTuple])
 (refine wpAny_bind (wpAny_newObj_type (wpAny_bind (m:=firstArgMember _ _) (wpAny_of_eq (a:=Value.none) (by first | rfl | (simp only [firstArgMember]; rfl)) (wpAny_newObj_type ?_ (by size_fits)))) (by size_fits)))
 (simp only [raiseNew]; refine wpAny_bind (wpAny_handled ?_); rw [show A.in1.handled = none from hh]; refine wpAny_bind (wpAny_pure (wpAny_throw ?_)); refine wpAny_bind (wpAny_isInstance (T:="StopIteration") (b:=true) ⟨_,Heap.get?_push_size _ rfl,rfl⟩ isSubtype_stop ?_))
 exact wpAny_pure (hQ _ (((Heap.SameBut.update ..).extBut.push _).push _))
end
section
variable {X:Cx}
theorem b2j {α β:Type} {R:α->β->Prop}:∀ {xs:List α} {ys:List β},Paired R xs ys->∀ (i:Nat) (y:β),ys[i]? = some y->∃ x,xs[i]? = some x/\R x y
 | _,_,.nil,i,x,h=>by simp at h
 | _,_,.cons r t,0,x,h=>by simp at h; subst h; exact ⟨_,rfl,r⟩
 | _,_,.cons r t,i + 1,x,h=>by simpa using b2j t i x (by simpa using h)
theorem kV_rel {P:Program} {w:World} {k:Key} {u:Value} (h:(a1k P w).is k u = true):RelV (kV k) u:=by
 cases u with
 | int i t=>
  cases k with
  | inl j=>
   have e:(Sum.inl i:Key) = Sum.inl j:=(a1k P w).inj _ _ _ (a9d P w i t) h
   cases e
   exact ⟨t,rfl⟩
  | inr x=>exact nomatch (show (Sum.inl i:Key) = Sum.inr x from (a1k P w).inj _ _ _ (a9d P w i t) h)
 | str x t=>
  cases k with
  | inr j=>
   have e:(Sum.inr x:Key) = Sum.inr j:=(a1k P w).inj _ _ _ (a9e P w x t) h
   cases e
   exact ⟨t,rfl⟩
  | inl i=>exact nomatch (show (Sum.inr x:Key) = Sum.inl i from (a1k P w).inj _ _ _ (a9e P w x t) h)
 | _=>cases k <;> exact absurd (show false = true from h) Bool.false_ne_true
end
open PySem.AutoSeq1 (wpAny_loadPart')
noncomputable def EqIn (prog:Program) (w:World) (A:Around) (s:Shared) (y x:Value):Prop:=∀ (E:Value->Shared->Prop) (Q:Bool->Shared->Prop),Q true s->wpAny (model prog w) A (eqBool y x) Q E s
section
variable {prog:Program} {w:World} {A:Around} {E:Value->Shared->Prop} {s:Shared}
theorem EqIn.at {y x:Value} (h:SeqAt.EqAt A s y x true):EqIn prog w A s y x:=fun E Q q=>h prog w E Q q
variable {K:Type} [DecidableEq K] {knd:HeapKind prog w K}
end
section
variable {X:Cx}
end
section
variable {X:Cx}
end
section
variable {K:W.Frag} {σ:St} {H:Hp} {Q:VK} {D:Ends} {a:Addr} {xs:List V} {n:Nat}
theorem gCons_i {t:TG} {u:TGs} {v:V} {r:List V} {N:St->Hp->Prop} (k:t v σ H fun σ' H'=>u r σ' H' N):gCons t u (v :: r) σ H N:=⟨v,r,rfl,k⟩
theorem gNil_i {N:St->Hp->Prop} (k:N σ H):gNil [] σ H N:=⟨rfl,k⟩
end
section
variable {X:Cx}
theorem a1o {A:Around} {s:Shared} {a b:Key} {u v:Value} (ra:RelV (kV a) u) (rb:RelV (kV b) v):SeqAt.EqAt A s u v (decide (a = b)):=by
 cases a with
 | inl i=>
  obtain ⟨t,rfl⟩:=ra
  cases b with
  | inl j=>
   obtain ⟨t',rfl⟩:=rb
   rw [c2h]
   have:=SeqAt.EqAt.int_int (A:=A) (s:=s) i t j t'
   simpa [PyData.eqv] using this
  | inr y=>
   obtain ⟨t',rfl⟩:=rb
   rw [c2i]
   exact SeqAt.EqAt.int_str i t y t'
 | inr x=>
  obtain ⟨t,rfl⟩:=ra
  cases b with
  | inl j=>
   obtain ⟨t',rfl⟩:=rb
   rw [c2j]
   exact SeqAt.EqAt.str_int x t j t'
  | inr y=>
   obtain ⟨t',rfl⟩:=rb
   rw [b6c]
   have:=SeqAt.EqAt.str_str (A:=A) (s:=s) x t y t'
   have e:(x == y) = decide (x = y):=by
    by_cases h:x = y
    ·subst h; simp
    ·rw [decide_eq_false h]; exact beq_eq_false_iff_ne.mpr h
   rw [<- e]
   simpa [PyData.eqv] using this
theorem all_eq (k1 k2:List Key):((List.range (min k1.length k2.length)).all (fun j=>decide (k1[j]? = k2[j]?)) && (k1.length == k2.length)) = decide (k1 = k2):=by
 by_cases h:k1 = k2
 ·subst h
  simp
 ·rw [decide_eq_false h]
  cases hl:(k1.length == k2.length) with
  | false=>rw [Bool.and_false]
  | true=>
   have hl:k1.length = k2.length:=eq_of_beq hl
   rw [Bool.and_true]
   refine Bool.eq_false_iff.mpr fun z=>h ?_
   apply List.ext_getElem?
   intro j
   by_cases hj:j < k1.length
   ·exact of_decide_eq_true (List.all_eq_true.mp z j (List.mem_range.mpr (by omega)))
   ·rw [List.getElem?_eq_none (by omega),List.getElem?_eq_none (by omega)]
end
structure QE (X:Cx) (e:Expr) (t:TE):Prop where
 pe:PE X e t
structure QS (X:Cx) (st:Stmt) (t:TS):Prop where
 ps:PS X st t
structure QSs (X:Cx) (l:List Stmt) (t:TS):Prop where
 pss:PSs X l t
section
variable {X:Cx} {pos pos':Pos} {e k v:Expr} {te tk tv:TE} {st:Stmt} {rest:List Stmt} {t u:TS}
theorem a8q (h1:QS X st t) (h2:QSs X rest u):QSs X (st :: rest) (tSeq t u):=⟨a0d h1.ps h2.pss⟩
theorem b1u (h1:QS X st t):QSs X [st] t:=⟨a0g h1.ps⟩
end
section
variable {X:Cx} {pos:Pos} {e:Expr} {te:TE}
end
section
variable {X:Cx} {tg:Expr}
noncomputable def iSeq (K:W.Frag) (tl:TE):TI:=fun σ H R=>tl σ H fun x H1=>∃ a,x = .ref a/\((∃ xs,SqL K H1 a xs/\R (Itl K a) H1)\/∃ xs,SqT K H1 a xs/\R (Itt K a) H1)
theorem c3v {K:W.Frag} {σ:St} {H:Hp} {ta:TE} {R:It->Hp->Prop} (k:ta σ H fun x H1=>∃ a,x = .ref a/\((∃ xs,SqL K H1 a xs/\R (Itl K a) H1)\/∃ xs,SqT K H1 a xs/\R (Itt K a) H1)):iSeq K ta σ H R:=k
end
section
variable {M:Model} {A:Around} {E:Value->Shared->Prop}
end
open PySem PySem.W
section
variable {prog:Program} {w:World} {A:Around} {E:Value->Shared->Prop} {R:Result->Shared->Prop} {h:Heap} {g:Array GenState} {d:Drawn} {t:Nat} {os:OsState}
variable {nm q:Str} {C N:Addr} {bs bm:List Value} {sn:List Str} {sub:List Value} {ab:Bool} {col:Option Bool} {dd:Option Addr} {k0 k1 k2 k3 k5:Option Value}
end
section
variable {prog:Program} {w:World} {A:Around} {E:Value->Shared->Prop} {R:Result->Shared->Prop} {h:Heap} {g:Array GenState} {d:Drawn} {t:Nat} {os:OsState} {K:Frag} {C e:Addr} {bm:List Value} {o:Obj} {vs:Array Value}
end
noncomputable def XFp (e C:Addr) (dx:Option Addr) (fr:Bool) (h:Heap):Prop:=∃ o vs t0 x,h.get? e = some o/\o.cls = .ref C/\o.dict = dx/\o.data = .fields vs/\vs[0]? = some (Value.ref t0)/\vs[1]? = some x/\(fr = true->x = .none)/\vs[2]? = some Value.none
noncomputable def XF (e C:Addr) (dx:Option Addr) (fr:Bool):HO:=.ext (XFp e C dx fr)
section
variable {X:Cx} {pins:List (Addr × Obj)} {σ:St} {H:Hp} {s:Shared}
end
section
variable {P:Program} {w:World} {K:Frag} {mg:Str->Option Value} {base:Heap} {N:List Str} {qual:Str} {scope:Scope} {f:Addr} {cd:Value} {A:Around} {outer:List Env} {s:Shared} {H:Hp} {E:XK}
end
section
variable {X:Cx} {pins:List (Addr × Obj)} {σ:St} {H:Hp} {s:Shared} {pos apos np:Pos} {a b o e value:Expr} {es:List Expr} {t:TA} {te ta tv:TE} {f x:Str}
end
section
variable {X:Cx} {CX:CXT} {k:Nat} {f C:Addr} {fd:FuncData} {ps:List Str} {sp:Sp} {dvs:List V} {ds:List Value} {E:XK} {x m:Str} {p pos apos np:Pos} {e o:Expr} {es:List Expr} {ta te:TE} {t:TA} {bm:List Value}
end
section
variable {X:Cx} {pins:List (Addr × Obj)} {σ:St} {H:Hp} {s:Shared} {ea:Addr}
end
section
variable {X:Cx} {k:Nat} {f C':Addr} {fd:FuncData} {ps:List Str} {sp:Sp} {dvs:List V} {ds:List Value} {x y nm cx:Str} {p pos apos cp hpos py tpos:Pos} {e:Expr} {es:List Expr} {t:TA} {bm':List Value} {b0:Stmt} {suite:List Stmt} {ts:TS} {i n:Nat}
end
structure FunD (K:Frag) (x qual:Str) (st:Stmt) (f:Addr) (fd:FuncData) (dV:Value):Prop where
 ex:∃ (oc:Value) (od:Option Addr) (kV doc pm:Value) (an:Option Addr) (cdv ct:Value) (osl:Array (Option Value)),
  fd = fnOf x qual (a0w st) (a0u st) (a0h st) dV kV doc pm an cdv ct/\K.lookup f = some ⟨oc,od,.func fd,osl⟩/\codeIn K cdv qual = true
 kp:keepIn K (.ref f) = true
section
variable {P:Program} {w:World} {K:Frag} {mg:Str->Option Value} {base:Heap}
theorem FunD.ok {dV:Value} {x qual:Str} {st:Stmt} {f:Addr} {fd:FuncData} {N ps:List Str} {k:Nat} {sp:Sp} (F:FunD K x qual st f fd dV) (S:a0x N ps (a0h st)) (len:∀ vs H Q E,sp vs H Q E->vs.length = ps.length)
  (hbody:∀ (cdv:Value) (A:Around) (outer:List Env) (s:Shared) (H:Hp) (vs:List V) (Q:VK) (E:XK),Room k (A.deeper (envOfC qual (a0h st) s.heap.objs.size f cdv))->sp vs H Q E ->
   ∃ t,PSs (cxOf CX0 P w K mg base N qual (a0h st) f cdv A outer s H E).nox (a0u st) t/\t { nx:=fun _ H'=>Q .non H',rt:=Q } (start N vs) H):FnOk P w K mg base CX0 (k + 1) f fd ps sp:=by
 obtain ⟨oc,od,kV,doc,pm,an,cdv,ct,osl,rfl,lk,hcd⟩:=F.ex
 refine fn_of lk hcd S len fun A outer s H vs Q E hr hsp=>?_
 obtain ⟨t,h,q⟩:=hbody cdv A outer s H vs Q E hr hsp
 exact ⟨t,h.nox,q⟩
end
end L2
namespace Att
open PySem PySem.W PySem.Calls PyProof.Rows
end Att
namespace L2
open PySem PySem.Spec PyProof.Rows
open PySem PySem.Spec PyProof.Rows PySem.W
section
variable {X:Cx}
theorem ko_ninV (K:Frag) (h:X.K = K):OpR X (compareOp .NotIn) (rIn K true):=h ▸ b6o
end
theorem b6v (x:Str):∀ xs:List Str,inV (.str x) (xs.map V.str) = decide (x ∈ xs)
 | []=>by simp [inV]
 | y :: r=>by
  have ih:=b6v x r
  unfold inV at ih ⊢
  rw [List.map_cons,List.any_cons,ih]
  by_cases h:y = x
  ·subst h; simp [eqV]
  ·have h2:x ≠ y:=fun z=>h z.symm
   simp [eqV,h,h2]
theorem c6i (xs:List Str):(xs.map V.str).all a7j = true:=by
 rw [List.all_eq_true]
 intro v hv
 obtain ⟨x,_,rfl⟩:=List.mem_map.mp hv
 rfl
theorem c6j {K:Frag} {H:Hp} {Q:VK} {p:Addr} {x:Str} (xs:List Str) (h:SqL K H p (xs.map V.str)\/SqT K H p (xs.map V.str)) (k:Q (.bl (!decide (x ∈ xs))) H):rIn K true (.str x) (.ref p) H Q:=⟨p,_,rfl,h,rfl,c6i xs,by rw [b6v]; exact k⟩
section
variable {K:Frag} {σ:St} {H:Hp} {Q:VK} {D:Ends} {t:TA} {te ta tv:TE} {f:Str} {sp:Sp} {dvs:List V} {E EX:XK} {C C':Addr}
end
noncomputable def rowS:Str:=Str.ofString "row"
noncomputable def IsX (H:Hp) (ea C:Addr) (fs:List (Str × V)):Prop:=∃ dx,H ea = some (XF ea C (some dx) false)/\H dx = some (.xd fs)
theorem IsX.mono {H H':Hp} {ea C:Addr} {fs:List (Str × V)} (h:IsX H ea C fs) (s:Same H H'):IsX H' ea C fs:=by
 obtain ⟨dx,a,b⟩:=h
 exact ⟨dx,s _ _ a,s _ _ b⟩
structure a6r (k:Nat) (A:Around):Prop where
 dp:A.depth + 3 * k + 5 < recursionLimit
 un:A.units + 16 * k + 200 < cLine
theorem a6r.mono {j k:Nat} {A:Around} (r:a6r k A) (h:j<=k):a6r j A:=⟨by have:=r.dp; omega,by have:=r.un; omega⟩
theorem a6r.deeper {k:Nat} {A:Around} (r:a6r (k + 1) A) (env:Env):a6r k (A.deeper env):=
 ⟨by have:=r.dp; show A.depth + 1 + 3 * k + 5 < _; omega,by have:=r.un; show A.units + 3 + 16 * k + 200 < _; omega⟩
theorem a6r.depth {k:Nat} {A:Around} (r:a6r k A):A.depth < recursionLimit:=by have:=r.dp; omega
theorem a6r.of {k:Nat} {A:Around} (r:Room k A):a6r k A:=⟨r.dp,r.un⟩
structure FnOkN (P:Program) (w:World) (K:Frag) (mg:Str->Option Value) (base:Heap) (k:Nat) (f:Addr) (fd:FuncData) (ps:List Str) (sp:Sp):Prop where
 len:∀ vs H Q E,sp vs H Q E->vs.length = ps.length
 run:∀ (A:Around) (outer:List Env) (s:Shared) (H:Hp) (args:Args) (us:List Value) (vs:List V) (Q:VK) (E:XK),a6r k A->Env0 P w K mg base A outer s H->BindsTo s fd args (ps.zip us)->Vals vs us->sp vs H Q E ->
  codeAny (model P w) A (.call (.ref f) args) (CR CX0 outer P w H s Q E) s
theorem FnOkN.fn {P:Program} {w:World} {K:Frag} {mg:Str->Option Value} {base:Heap} {k:Nat} {f:Addr} {fd:FuncData} {ps:List Str} {sp:Sp} (F:FnOkN P w K mg base k f fd ps sp):FnOk P w K mg base CX0 k f fd ps sp:=
 ⟨F.len,fun A outer s H args us vs Q E hr=>F.run A outer s H args us vs Q E (.of hr)⟩
section
variable {P:Program} {w:World} {K:Frag} {mg:Str->Option Value} {base:Heap} {N ps:List Str} {qual:Str} {scope:Scope} {f:Addr} {cd:Value} {A:Around} {outer:List Env} {s s1:Shared} {H:Hp} {E:XK} {us:List Value} {vs:List V}
end
section
variable {X:Cx} {k:Nat} {f:Addr} {fd:FuncData} {ps:List Str} {sp:Sp} {dvs:List V} {ds:List Value} {x:Str} {p pos:Pos} {e:Expr} {es:List Expr} {t:TA}
end
section
variable {prog:Program} {w:World} {A:Around} {E:Value->Shared->Prop} {s:Shared} {K:Frag} {C e:Addr} {bm:List Value} {ox od:Obj}
end
section
variable {X:Cx}
end
section
variable {X:Cx} {pins:List (Addr × Obj)} {σ:St} {H:Hp} {s:Shared} {h':Heap}
theorem Inv.turnedMany {t':Nat} {ch:List Addr} (I:Inv X pins σ H s) (hf:∀ b ∈ ch,FpOk X pins H b) (k:∀ b u,b ∉ ch->s.heap.get? b = some u->h'.get? b = some u):Inv X pins σ H { s with heap:=h',toks:=t' }:=by
 have nin:∀ b u,H b = some u->b ∉ ch:=fun b u e hb=>by rw [(hf b hb).1] at e; cases e
 refine I.step (g':=s.gens) (d':=s.drawn) (ch:=ch) (fun b hb=>⟨(hf b hb).2.2.2.1,(hf b hb).2.1,(hf b hb).2.2.2.2.1,(hf b hb).2.2.2.2.2⟩) (fun b u _ _ hc e _=>k b u hc e) (fun b u _ _ hc e _=>⟨u.slots,k b u hc e⟩)
  (fun b u hc e n=>n) (fun b u hc e=>⟨u,k b u hc e⟩) (fun b xs q=>q) (fun b u xs q=>q) (fun b ps q=>⟨#[],by rw [q]; simp⟩) (fun m hm=>?_) (fun b u e=>?_) I.bare
 ·obtain ⟨q,es,ep,ho,r⟩:=hm
  exact ⟨q,es,ep,k _ q (fun hb=>(hf _ hb).2.1 rfl) ho,r⟩
 ·refine (I.hok b u e).stay (fun c v hc q=>k c v ?_ q) (fun c q=>q) fun c xs q=>q
  rcases hc with z | z
  ·rw [z]; exact nin b u e
  ·exact nin c _ z
end
theorem c3w:∀ n l l':Nat,l < n->l' < n->ZipApart (n + 4) (n + 2) (n + 3) n (n + 1) l l':=fun n l l' h h'=>by constructor <;> (show ¬ ((_:Nat) = _); omega)
section
variable {X:Cx}
end
section
variable {X:Cx} {pos:Pos} {e:Expr} {te:TE}
end
noncomputable def onX (H:Hp) (C:Addr) (E:XK):Prop:=∀ ea H',Same H H'->IsX H' ea C [(rowS,.int 0)]->E (.ref C) (some ea) H'
theorem onX.mono {H H1:Hp} {C:Addr} {E:XK} (h:onX H C E) (s:Same H H1):onX H1 C E:=fun ea H' s' i=>h ea H' (s.trans s') i
section
variable {X:Cx} {es rest:List Expr} {k:Nat} {pos:Pos} {env:Env} {te:TE} {t:TA}
noncomputable def notStar:Expr->Bool
 | .Starred _ _=>false
 | _=>true
theorem b6w {e:Expr} (h:notStar e = true):starEach (e :: rest) env = (false,eval e env) :: starEach rest env:=by
 rw [starEach]
 intro a p z
 rw [z] at h
 cases h
theorem a0a {e:Expr} (ha:PE X e te) (hr:PA X rest t) (h:notStar e = true:=by rfl):PA X (e :: rest) (b5v te t):=b9s ha hr (b6w h)
theorem sw_tup {n:Option Expr} {l:Nat}:swapsWith (.Tuple es k pos) n l env = pure false:=rfl
theorem a9u {n:Option Expr} {l:Nat}:swapsWith (.List es pos) n l env = pure false:=rfl
theorem a3h {a b:Expr} {op:Operator} {n:Option Expr} {l:Nat}:swapsWith (.BinOp a op b pos) n l env = pure false:=rfl
theorem a8r {a b:Expr} {n:Option Expr} {l:Nat}:swapsWith (.Subscript a b pos) n l env = pure false:=rfl
theorem a1h {a:Expr} {kw:List Keyword} {n:Option Expr} {l:Nat}:swapsWith (.Call a es kw pos) n l env = pure false:=rfl
end
structure QA (X:Cx) (es:List Expr) (t:TA):Prop where
 pa:PA X es t
section
variable {X:Cx} {a b e:Expr} {es rest:List Expr} {k:Nat} {pos pos':Pos} {te ta tb:TE} {t:TA} {u v:TS} {st:Stmt} {x:Str}
theorem a6s (h:PE X e te):QE X e te:=⟨h⟩
theorem b3n (h:PS X st u):QS X st u:=⟨h⟩
theorem a7q:QA X [] tNil:=⟨a0e⟩
theorem a2t (ha:QE X e te) (hr:QA X rest t) (h:notStar e = true):QA X (e :: rest) (b5v te t):=⟨b9s ha.pe hr.pa (b6w h)⟩
theorem a8s (h:QA X es t):QE X (.Tuple es k pos) (tTup t):=⟨a1c h.pa⟩
theorem qe_lst (h:QA X es t):QE X (.List es pos) (tLst t):=⟨a2b h.pa⟩
theorem qe_ix {r:R2} (hr:IxR X r) (ha:QE X a ta) (hb:QE X b tb) (hs:b9w b):QE X (.Subscript a b pos) (tOp r ta tb):=⟨a0k hr ha.pe hb.pe hs⟩
theorem qs_ret (he:QE X e te):QS X (.Return (some e) pos) (tRet te):=⟨a0n he.pe⟩
theorem qs_if {c:Expr} {l m:List Stmt} {tc:TT} (hc:PT X c tc) (ha:QSs X l u) (hb:QSs X m v):QS X (.If c l m pos) (tIfS tc u v):=⟨a0y hc ha.pss hb.pss⟩
theorem b4i:QSs X [] tNext:=⟨a0s⟩
end
section
variable {X:Cx}
end
section
variable {X:Cx} {pos:Pos} {e:Expr} {te:TE}
end
namespace FD
end FD
section
variable {prog:Program} {w:World} {A:Around} {R:Result->Shared->Prop}
noncomputable def b6x {K:Type} [DecidableEq K] (knd:PySem.KeyKind prog w K) (ts:List Addr) (kvs:List (K × Value)) (h:Heap):Prop:=∀ (i:Nat) (T:Addr),ts[i]? = some T->∃ (kk:K) (key val:Value),kvs[i]? = some (kk,val)/\knd.is kk key = true/\IsTup h T #[key,val]
theorem b6x.keep {K:Type} [DecidableEq K] {knd:PySem.KeyKind prog w K} {ts:List Addr} {kvs:List (K × Value)} {h h':Heap} (x:b6x knd ts kvs h) (k:∀ T ∈ ts,∀ o,h.get? T = some o->h'.get? T = some o):b6x knd ts kvs h':=fun i T e=>by
 obtain ⟨kk,key,val,e1,e2,o,ho,r⟩:=x i T e
 exact ⟨kk,key,val,e1,e2,o,k T (List.mem_of_getElem? e) o ho,r⟩
end
section
variable {X:Cx}
end
section
variable {X:Cx}
end
noncomputable abbrev Rws:=List (Str × Trm)
noncomputable def a1y (K:Frag) (H:Hp) (kvs:List (Key × V)) (rows:Rws):Prop:=Paired (fun (p:Key × V) (q:Str × Trm)=>p.1 = Sum.inr q.1/\Den K H p.2 q.2.data) kvs rows
noncomputable def b1v (rows:Rws) (x:Str):Option Trm:=(rows.find? fun r=>decide (r.1 = x)).map (·.2)
noncomputable def putR (rows:Rws) (x:Str) (t:Trm):Rws:=if (rows.any fun r=>decide (r.1 = x)) = true then rows.map (fun r=>if r.1 = x then (r.1,t) else r) else rows ++ [(x,t)]
section
variable {K:Frag} {H H':Hp} {kvs:List (Key × V)} {rows:Rws}
theorem a1y.mono (h:a1y K H kvs rows) (s:Same H H'):a1y K H' kvs rows:=Paired.mapP h fun _ _ z=>⟨z.1,z.2.mono s⟩
theorem a1y.monoT (h:a1y K H kvs rows) (e:∀ a xs,SqT K H a xs->SqT K H' a xs):a1y K H' kvs rows:=Paired.mapP h fun _ _ z=>⟨z.1,z.2.monoT e⟩
theorem a1y.len (h:a1y K H kvs rows):kvs.length = rows.length:=Paired.length h
theorem key_inr (a b:Str):((Sum.inr a:Key) = Sum.inr b) ↔ a = b:=⟨fun h=>Sum.inr.inj h,fun h=>by rw [h]⟩
theorem a1y.get:∀ {kvs:List (Key × V)} {rows:Rws},a1y K H kvs rows->∀ x:Str,(b1v rows x = none/\valV kvs (Sum.inr x) = none)\/∃ t v,b1v rows x = some t/\valV kvs (Sum.inr x) = some v/\Den K H v t.data
 | [],[],_,x=>.inl ⟨rfl,rfl⟩
 | (k,v) :: kr,(y,t) :: rr,.cons h r,x=>by
  obtain ⟨e1,e2⟩:=h
  have e1:k = Sum.inr y:=e1
  subst e1
  by_cases hx:y = x
  ·subst hx
   refine .inr ⟨t,v,?_,?_,e2⟩
   ·simp [b1v]
   ·simp [valV]
  ·have ih:=a1y.get r x
   have n1:b1v ((y,t) :: rr) x = b1v rr x:=by simp [b1v,hx]
   have n2:valV ((Sum.inr y,v) :: kr) (Sum.inr x) = valV kr (Sum.inr x):=by simp [valV,hx]
   rw [n1,n2]
   exact ih
theorem a1y.any:∀ {kvs:List (Key × V)} {rows:Rws},a1y K H kvs rows->∀ x:Str,(kvs.any fun kv=>decide (kv.1 = Sum.inr x)) = rows.any fun r=>decide (r.1 = x)
 | [],[],_,x=>rfl
 | (k,v) :: kr,(y,t) :: rr,.cons h r,x=>by
  have e1:k = Sum.inr y:=h.1
  subst e1
  rw [List.any_cons,List.any_cons,a1y.any r x]
  congr 1
  exact decide_eq_decide.mpr (key_inr y x)
theorem a1y.put (h:a1y K H kvs rows) {x:Str} {v:V} {t:Trm} (d:Den K H v t.data):a1y K H (putK kvs (Sum.inr x) v) (putR rows x t):=by
 unfold putK putR
 rw [h.any x]
 split
 ·rename_i hz0
  clear hz0
  induction kvs generalizing rows with
  | nil=>cases rows with | nil=>exact .nil | cons _ _=>cases h
  | cons p r ih=>
   cases rows with
   | nil=>cases h
   | cons q m=>
    cases h with
    | cons e f=>
     refine .cons ?_ (ih f)
     dsimp only
     obtain ⟨e1,e2⟩:=e
     by_cases hx:q.1 = x
     ·rw [if_pos hx,if_pos (by rw [e1,hx])]
      exact ⟨e1,d⟩
     ·rw [if_neg hx,if_neg (by rw [e1]; exact fun z=>hx (Sum.inr.inj z))]
      exact ⟨e1,e2⟩
 ·rename_i hz0
  clear hz0
  induction kvs generalizing rows with
  | nil=>cases rows with | nil=>exact .cons ⟨rfl,d⟩ .nil | cons _ _=>cases h
  | cons p r ih=>
   cases rows with
   | nil=>cases h
   | cons q m=>
    cases h with
    | cons e f=>exact .cons e (ih f)
theorem a1y.mem:∀ {kvs:List (Key × V)} {rows:Rws},a1y K H kvs rows->∀ {k:Key} {v:V},(k,v) ∈ kvs->∃ x t,(x,t) ∈ rows/\k = Sum.inr x/\Den K H v t.data
 | [],[],_,k,v,hm=>by simp at hm
 | p :: kr,q :: rr,.cons h r,k,v,hm=>by
  rcases List.mem_cons.mp hm with e | e
  ·subst e
   exact ⟨q.1,q.2,by simp,h.1,h.2⟩
  ·obtain ⟨x,t,h1,h2,h3⟩:=a1y.mem r e
   exact ⟨x,t,List.mem_cons_of_mem _ h1,h2,h3⟩
end
mutual
noncomputable def eqb:Trm->Trm->Bool
 | .num a,.num b=>decide (a = b)
 | .any x,.any y=>decide (x = y)
 | .app s ks,.app r ls=>decide (s = r) && eqbL ks ls
 | _,_=>false
noncomputable def eqbL:List Trm->List Trm->Bool
 | [],[]=>true
 | a :: r,b :: m=>eqb a b && eqbL r m
 | _,_=>false
end
mutual
theorem b1w:∀ t u:Trm,eqb t u = true ↔ t = u
 | .num a,.num b=>by simp [eqb]
 | .num a,.any y=>by simp [eqb]
 | .num a,.app _ _=>by simp [eqb]
 | .any x,.num b=>by simp [eqb]
 | .any x,.any y=>by simp [eqb]
 | .any x,.app _ _=>by simp [eqb]
 | .app _ _,.num b=>by simp [eqb]
 | .app _ _,.any y=>by simp [eqb]
 | .app s ks,.app r ls=>by
  simp only [eqb,Bool.and_eq_true,decide_eq_true_eq,Trm.app.injEq,b2s ks ls]
theorem b2s:∀ t u:List Trm,eqbL t u = true ↔ t = u
 | [],[]=>by simp [eqbL]
 | [],_ :: _=>by simp [eqbL]
 | _ :: _,[]=>by simp [eqbL]
 | a :: r,b :: m=>by simp only [eqbL,Bool.and_eq_true,List.cons.injEq,b1w a b,b2s r m]
end
theorem a8t (t:Trm):eqb t t = true:=(b1w t t).mpr rfl
theorem b6y:∀ ks ls:List Trm,((List.range (min ks.length ls.length)).all (fun j=>match ks[j]?,ls[j]? with | some a,some b=>eqb a b | _,_=>true) && (ks.length == ls.length)) = eqbL ks ls
 | [],[]=>by simp [eqbL]
 | [],_ :: _=>by simp [eqbL]
 | _ :: _,[]=>by simp [eqbL]
 | a :: r,b :: m=>by
  have ih:=b6y r m
  simp only [eqbL]
  rw [<- ih,List.length_cons,List.length_cons,Nat.succ_min_succ,List.range_succ_eq_map,List.all_cons,List.all_map,Bool.and_assoc]
  congr 1
  congr 1
  ·simp
mutual
theorem Trm.data_inj:∀ {t u:Trm},t.data = u.data->t = u
 | .num a,.num b,h=>by simp [Trm.data] at h; rw [h]
 | .num a,.any y,h=>by simp [Trm.data] at h
 | .num a,.app _ _,h=>by simp [Trm.data] at h
 | .any x,.num b,h=>by simp [Trm.data] at h
 | .any x,.any y,h=>by simp [Trm.data] at h; rw [h]
 | .any x,.app _ _,h=>by simp [Trm.data] at h
 | .app _ _,.num b,h=>by simp [Trm.data] at h
 | .app _ _,.any y,h=>by simp [Trm.data] at h
 | .app s ks,.app r ls,h=>by
  simp only [Trm.data,PyData.tuple.injEq,List.cons.injEq,PyData.str.injEq,and_true,true_and] at h
  rw [h.1,Trm.dataL_inj h.2]
theorem Trm.dataL_inj:∀ {t u:List Trm},Trm.dataL t = Trm.dataL u->t = u
 | [],[],_=>rfl
 | [],_ :: _,h=>by simp [Trm.dataL] at h
 | _ :: _,[],h=>by simp [Trm.dataL] at h
 | a :: r,b :: m,h=>by
  simp only [Trm.dataL,List.cons.injEq] at h
  rw [Trm.data_inj h.1,Trm.dataL_inj h.2]
end
section
variable {X:Cx} {pins:List (Addr × Obj)} {σ:St} {H:Hp} {s:Shared}
mutual
theorem c0d (I:Inv X pins σ H s):∀ {v:V} {d d':PyData},Den X.K H v d->Den X.K H v d'->d = d'
 | _,_,_,.non,h=>by cases h; rfl
 | _,_,_,.bl b,h=>by cases h; rfl
 | _,_,_,.int i,h=>by cases h; rfl
 | _,_,_,.str x,h=>by cases h; rfl
 | _,_,_,.tup hs hl,h=>by
  cases h with
  | tup hs' hl'=>
   have e:=I.tuple_inj hs hs'
   subst e
   rw [b2t I hl hl']
theorem b2t (I:Inv X pins σ H s):∀ {v:List V} {d d':List PyData},DenL X.K H v d->DenL X.K H v d'->d = d'
 | _,_,_,.nil,h=>by cases h; rfl
 | _,_,_,.cons h l,h'=>by
  cases h' with
  | cons g m=>rw [c0d I h g,b2t I l m]
end
theorem b5i (I:Inv X pins σ H s) {A:Around} {a b:Addr} {us us':List V} (hs:SqT X.K H a us) (hs':SqT X.K H b us') (hab:a ≠ b) (e:Nat->Bool) (hu:A.units + 1 < cLine)
  (items:∀ j x x' w w',us[j]? = some x->us'[j]? = some x'->RelV x w->RelV x' w'->SeqAt.EqAt A.in1 s w w' (e j)):SeqAt.EqAt A s (.ref a) (.ref b) ((List.range (min us.length us'.length)).all e && (us.length == us'.length)):=by
 obtain ⟨its,rv,p,_⟩:=I.tuple hs
 obtain ⟨its',rv',p',_⟩:=I.tuple hs'
 have l1:=rv.length
 have l2:=rv'.length
 have key:=SeqAt.RcAt.tuples (A:=A) (e:=e) (show s.heap.IsTuple a its.toArray from p) (show s.heap.IsTuple b its'.toArray from p') (by omega) (fun j h1 h2=>by
  have h1:j < its.length:=by simpa using h1
  have h2:j < its'.length:=by simpa using h2
  have x1:us[j]? = some us[j]:=List.getElem?_eq_getElem (by omega)
  have x2:us'[j]? = some us'[j]:=List.getElem?_eq_getElem (by omega)
  obtain ⟨w1,y1,z1⟩:=rv.get x1
  obtain ⟨w2,y2,z2⟩:=rv'.get x2
  have q1:its.toArray[j] = w1:=by
   have:=List.getElem?_eq_getElem h1
   rw [y1] at this
   simpa using (Option.some.inj this).symm
  have q2:its'.toArray[j] = w2:=by
   have:=List.getElem?_eq_getElem h2
   rw [y2] at this
   simpa using (Option.some.inj this).symm
  rw [q1,q2]
  exact items j _ _ _ _ x1 x2 z1 z2)
 rw [List.size_toArray,List.size_toArray,<- l1,<- l2] at key
 exact SeqAt.EqAt.of_refs hab key
noncomputable def eT (t t':Trm):Nat->Bool
 | 0=>match t,t' with | .num _,.num _=>true | .any _,.any _=>true | .app _ _,.app _ _=>true | _,_=>false
 | 1=>match t,t' with | .num a,.num b=>decide (a = b) | .any x,.any y=>decide (x = y) | .app r _,.app q _=>decide (r = q) | .any x,.app q _=>decide (x = q) | .app r _,.any y=>decide (r = y) | _,_=>false
 | 2=>match t,t' with | .app _ ks,.app _ ls=>eqbL ks ls | _,_=>true
 | _=>true
noncomputable def lenT:Trm->Nat
 | .app _ _=>3
 | _=>2
theorem b6z (t t':Trm):((List.range (min (lenT t) (lenT t'))).all (eT t t') && (lenT t == lenT t')) = eqb t t':=by
 cases t <;> cases t' <;> simp [lenT,eT,eqb,List.range,List.range.loop]
theorem a8u {ks:List Trm} {t:Trm} (h:t ∈ ks):t.size<=Trm.sizeL ks:=by
 obtain ⟨a,b,rfl⟩:=List.append_of_mem h
 rw [Trm.sizeL_app,Trm.sizeL]
 omega
theorem b2u (I:Inv X pins σ H s) (n:Nat) (ih:∀ (A:Around) (t t':Trm) (v v':V) (u u':Value),t.size<=n->A.units + 2 * n + 4 < cLine->Den X.K H v t.data->Den X.K H v' t'.data->RelV v u->RelV v' u'->SeqAt.EqAt A s u u' (eqb t t'))
  (A:Around) (t t':Trm) {a a':Addr} (h:Den X.K H (.ref a) t.data) (h':Den X.K H (.ref a') t'.data) (hz:t.size<=n + 1) (hu:A.units + 2 * (n + 1) + 4 < cLine) :
  ∃ us us',SqT X.K H a us/\SqT X.K H a' us'/\us.length = lenT t/\us'.length = lenT t'/\∀ j x x' w w',us[j]? = some x->us'[j]? = some x'->RelV x w->RelV x' w'->SeqAt.EqAt A.in1 s w w' (eT t t' j):=by
 cases t with
 | num m=>
  obtain ⟨a0,e0,hs⟩:=a1u h
  cases e0
  cases t' with
  | num m'=>
   obtain ⟨a0',e0',hs'⟩:=a1u h'
   cases e0'
   refine ⟨_,_,hs,hs',rfl,rfl,fun j y y' w w' h1 h2 r1 r2=>?_⟩
   match j,h1,h2 with
    | 0,h1,h2=>
     simp only [List.getElem?_cons_zero,Option.some.injEq] at h1 h2
     subst h1 h2
     have:=a1o (A:=A.in1) (s:=s) (a:=Sum.inr numS) (b:=Sum.inr numS) r1 r2
     rw [show decide ((Sum.inr numS:Key) = Sum.inr numS) = true by decide +kernel] at this
     exact this
    | 1,h1,h2=>
     simp only [List.getElem?_cons_succ,List.getElem?_cons_zero,Option.some.injEq] at h1 h2
     subst h1 h2
     have:=a1o (A:=A.in1) (s:=s) (a:=Sum.inl m) (b:=Sum.inl m') r1 r2
     have e9:decide ((Sum.inl m:Key) = Sum.inl m') = decide (m = m'):=by
      refine decide_eq_decide.mpr ⟨fun h=>?_,fun h=>by rw [h]⟩
      injection h
     rw [e9] at this
     exact this
    | j + 2,h1,h2=>simp at h1
  | any x'=>
   obtain ⟨a0',e0',hs'⟩:=a1x h'
   cases e0'
   refine ⟨_,_,hs,hs',rfl,rfl,fun j y y' w w' h1 h2 r1 r2=>?_⟩
   match j,h1,h2 with
    | 0,h1,h2=>
     simp only [List.getElem?_cons_zero,Option.some.injEq] at h1 h2
     subst h1 h2
     have:=a1o (A:=A.in1) (s:=s) (a:=Sum.inr numS) (b:=Sum.inr anyS) r1 r2
     rw [show decide ((Sum.inr numS:Key) = Sum.inr anyS) = false by decide +kernel] at this
     exact this
    | 1,h1,h2=>
     simp only [List.getElem?_cons_succ,List.getElem?_cons_zero,Option.some.injEq] at h1 h2
     subst h1 h2
     have:=a1o (A:=A.in1) (s:=s) (a:=Sum.inl m) (b:=Sum.inr x') r1 r2
     have e9:decide ((Sum.inl m:Key) = Sum.inr x') = false:=decide_eq_false (fun h=>by cases h)
     rw [e9] at this
     exact this
    | j + 2,h1,h2=>simp at h1
  | app sg' ks'=>
   obtain ⟨a0',b',ku',e0',hs',hb',hk'⟩:=a2g h'
   cases e0'
   refine ⟨_,_,hs,hs',rfl,rfl,fun j y y' w w' h1 h2 r1 r2=>?_⟩
   match j,h1,h2 with
    | 0,h1,h2=>
     simp only [List.getElem?_cons_zero,Option.some.injEq] at h1 h2
     subst h1 h2
     have:=a1o (A:=A.in1) (s:=s) (a:=Sum.inr numS) (b:=Sum.inr appS) r1 r2
     rw [show decide ((Sum.inr numS:Key) = Sum.inr appS) = false by decide +kernel] at this
     exact this
    | 1,h1,h2=>
     simp only [List.getElem?_cons_succ,List.getElem?_cons_zero,Option.some.injEq] at h1 h2
     subst h1 h2
     have:=a1o (A:=A.in1) (s:=s) (a:=Sum.inl m) (b:=Sum.inr sg') r1 r2
     have e9:decide ((Sum.inl m:Key) = Sum.inr sg') = false:=decide_eq_false (fun h=>by cases h)
     rw [e9] at this
     exact this
    | j + 2,h1,h2=>simp at h1
 | any x=>
  obtain ⟨a0,e0,hs⟩:=a1x h
  cases e0
  cases t' with
  | num m'=>
   obtain ⟨a0',e0',hs'⟩:=a1u h'
   cases e0'
   refine ⟨_,_,hs,hs',rfl,rfl,fun j y y' w w' h1 h2 r1 r2=>?_⟩
   match j,h1,h2 with
    | 0,h1,h2=>
     simp only [List.getElem?_cons_zero,Option.some.injEq] at h1 h2
     subst h1 h2
     have:=a1o (A:=A.in1) (s:=s) (a:=Sum.inr anyS) (b:=Sum.inr numS) r1 r2
     rw [show decide ((Sum.inr anyS:Key) = Sum.inr numS) = false by decide +kernel] at this
     exact this
    | 1,h1,h2=>
     simp only [List.getElem?_cons_succ,List.getElem?_cons_zero,Option.some.injEq] at h1 h2
     subst h1 h2
     have:=a1o (A:=A.in1) (s:=s) (a:=Sum.inr x) (b:=Sum.inl m') r1 r2
     have e9:decide ((Sum.inr x:Key) = Sum.inl m') = false:=decide_eq_false (fun h=>by cases h)
     rw [e9] at this
     exact this
    | j + 2,h1,h2=>simp at h1
  | any x'=>
   obtain ⟨a0',e0',hs'⟩:=a1x h'
   cases e0'
   refine ⟨_,_,hs,hs',rfl,rfl,fun j y y' w w' h1 h2 r1 r2=>?_⟩
   match j,h1,h2 with
    | 0,h1,h2=>
     simp only [List.getElem?_cons_zero,Option.some.injEq] at h1 h2
     subst h1 h2
     have:=a1o (A:=A.in1) (s:=s) (a:=Sum.inr anyS) (b:=Sum.inr anyS) r1 r2
     rw [show decide ((Sum.inr anyS:Key) = Sum.inr anyS) = true by decide +kernel] at this
     exact this
    | 1,h1,h2=>
     simp only [List.getElem?_cons_succ,List.getElem?_cons_zero,Option.some.injEq] at h1 h2
     subst h1 h2
     have:=a1o (A:=A.in1) (s:=s) (a:=Sum.inr x) (b:=Sum.inr x') r1 r2
     have e9:decide ((Sum.inr x:Key) = Sum.inr x') = decide (x = x'):=by
      refine decide_eq_decide.mpr ⟨fun h=>?_,fun h=>by rw [h]⟩
      injection h
     rw [e9] at this
     exact this
    | j + 2,h1,h2=>simp at h1
  | app sg' ks'=>
   obtain ⟨a0',b',ku',e0',hs',hb',hk'⟩:=a2g h'
   cases e0'
   refine ⟨_,_,hs,hs',rfl,rfl,fun j y y' w w' h1 h2 r1 r2=>?_⟩
   match j,h1,h2 with
    | 0,h1,h2=>
     simp only [List.getElem?_cons_zero,Option.some.injEq] at h1 h2
     subst h1 h2
     have:=a1o (A:=A.in1) (s:=s) (a:=Sum.inr anyS) (b:=Sum.inr appS) r1 r2
     rw [show decide ((Sum.inr anyS:Key) = Sum.inr appS) = false by decide +kernel] at this
     exact this
    | 1,h1,h2=>
     simp only [List.getElem?_cons_succ,List.getElem?_cons_zero,Option.some.injEq] at h1 h2
     subst h1 h2
     have:=a1o (A:=A.in1) (s:=s) (a:=Sum.inr x) (b:=Sum.inr sg') r1 r2
     have e9:decide ((Sum.inr x:Key) = Sum.inr sg') = decide (x = sg'):=by
      refine decide_eq_decide.mpr ⟨fun h=>?_,fun h=>by rw [h]⟩
      injection h
     rw [e9] at this
     exact this
    | j + 2,h1,h2=>simp at h1
 | app sg ks=>
  obtain ⟨a0,b,ku,e0,hs,hb,hk⟩:=a2g h
  cases e0
  cases t' with
  | num m'=>
   obtain ⟨a0',e0',hs'⟩:=a1u h'
   cases e0'
   refine ⟨_,_,hs,hs',rfl,rfl,fun j y y' w w' h1 h2 r1 r2=>?_⟩
   match j,h1,h2 with
    | 0,h1,h2=>
     simp only [List.getElem?_cons_zero,Option.some.injEq] at h1 h2
     subst h1 h2
     have:=a1o (A:=A.in1) (s:=s) (a:=Sum.inr appS) (b:=Sum.inr numS) r1 r2
     rw [show decide ((Sum.inr appS:Key) = Sum.inr numS) = false by decide +kernel] at this
     exact this
    | 1,h1,h2=>
     simp only [List.getElem?_cons_succ,List.getElem?_cons_zero,Option.some.injEq] at h1 h2
     subst h1 h2
     have:=a1o (A:=A.in1) (s:=s) (a:=Sum.inr sg) (b:=Sum.inl m') r1 r2
     have e9:decide ((Sum.inr sg:Key) = Sum.inl m') = false:=decide_eq_false (fun h=>by cases h)
     rw [e9] at this
     exact this
    | j + 2,h1,h2=>simp at h2
  | any x'=>
   obtain ⟨a0',e0',hs'⟩:=a1x h'
   cases e0'
   refine ⟨_,_,hs,hs',rfl,rfl,fun j y y' w w' h1 h2 r1 r2=>?_⟩
   match j,h1,h2 with
    | 0,h1,h2=>
     simp only [List.getElem?_cons_zero,Option.some.injEq] at h1 h2
     subst h1 h2
     have:=a1o (A:=A.in1) (s:=s) (a:=Sum.inr appS) (b:=Sum.inr anyS) r1 r2
     rw [show decide ((Sum.inr appS:Key) = Sum.inr anyS) = false by decide +kernel] at this
     exact this
    | 1,h1,h2=>
     simp only [List.getElem?_cons_succ,List.getElem?_cons_zero,Option.some.injEq] at h1 h2
     subst h1 h2
     have:=a1o (A:=A.in1) (s:=s) (a:=Sum.inr sg) (b:=Sum.inr x') r1 r2
     have e9:decide ((Sum.inr sg:Key) = Sum.inr x') = decide (sg = x'):=by
      refine decide_eq_decide.mpr ⟨fun h=>?_,fun h=>by rw [h]⟩
      injection h
     rw [e9] at this
     exact this
    | j + 2,h1,h2=>simp at h2
  | app sg' ks'=>
   obtain ⟨a0',b',ku',e0',hs',hb',hk'⟩:=a2g h'
   cases e0'
   refine ⟨_,_,hs,hs',rfl,rfl,fun j y y' w w' h1 h2 r1 r2=>?_⟩
   match j,h1,h2 with
    | 0,h1,h2=>
     simp only [List.getElem?_cons_zero,Option.some.injEq] at h1 h2
     subst h1 h2
     have:=a1o (A:=A.in1) (s:=s) (a:=Sum.inr appS) (b:=Sum.inr appS) r1 r2
     rw [show decide ((Sum.inr appS:Key) = Sum.inr appS) = true by decide +kernel] at this
     exact this
    | 1,h1,h2=>
     simp only [List.getElem?_cons_succ,List.getElem?_cons_zero,Option.some.injEq] at h1 h2
     subst h1 h2
     have:=a1o (A:=A.in1) (s:=s) (a:=Sum.inr sg) (b:=Sum.inr sg') r1 r2
     have e9:decide ((Sum.inr sg:Key) = Sum.inr sg') = decide (sg = sg'):=by
      refine decide_eq_decide.mpr ⟨fun h=>?_,fun h=>by rw [h]⟩
      injection h
     rw [e9] at this
     exact this
    | 2,h1,h2=>
     simp only [List.getElem?_cons_succ,List.getElem?_cons_zero,Option.some.injEq] at h1 h2
     subst h1 h2
     obtain rfl:w = Value.ref b:=r1
     obtain rfl:w' = Value.ref b':=r2
     show SeqAt.EqAt A.in1 s (.ref b) (.ref b') (eqbL ks ks')
     by_cases hbb:b = b'
     ·subst hbb
      have e1:=I.tuple_inj hb hb'
      subst e1
      have e2:=Trm.dataL_inj (b2t I hk hk')
      subst e2
      rw [(b2s ks ks).mpr rfl]
      exact SeqAt.EqAt.same _
     ·have l1:=hk.length
      have l2:=hk'.length
      rw [Trm.dataL_map,List.length_map] at l1 l2
      have:=b5i I (A:=A.in1) hb hb' hbb (fun j=>match ks[j]?,ks'[j]? with | some a,some b=>eqb a b | _,_=>true) (by show A.units + 1 + 1 < cLine; omega) (fun j y y' z z' g1 g2 q1 q2=>by
       obtain ⟨d,e1,d1⟩:=hk.get g1
       obtain ⟨d',e2,d2⟩:=hk'.get g2
       rw [Trm.dataL_map,List.getElem?_map] at e1 e2
       cases f1:ks[j]? with
       | none=>rw [f1] at e1; cases e1
       | some k1=>
        cases f2:ks'[j]? with
        | none=>rw [f2] at e2; cases e2
        | some k2=>
         rw [f1] at e1
         rw [f2] at e2
         cases e1
         cases e2
         have hs1:=a8u (List.mem_of_getElem? f1)
         simp only [Trm.size] at hz
         exact ih A.in1.in1 k1 k2 y y' z z' (by omega) (by show A.units + 1 + 1 + 2 * n + 4 < cLine; omega) d1 d2 q1 q2)
      rw [l1,l2,b6y] at this
      exact this
    | j + 3,h1,h2=>simp at h1
theorem b7a (I:Inv X pins σ H s):∀ (n:Nat) (A:Around) (t t':Trm) (v v':V) (u u':Value),t.size<=n->A.units + 2 * n + 4 < cLine->Den X.K H v t.data->Den X.K H v' t'.data->RelV v u->RelV v' u'->SeqAt.EqAt A s u u' (eqb t t'):=by
 intro n
 induction n with
 | zero=>
  intro A t t' v v' u u' hz
  have:=t.size_pos
  omega
 | succ n ih=>
  intro A t t' v v' u u' hz hu h h' r r'
  obtain ⟨a,_,_,rfl,_⟩:=a7d h
  obtain ⟨a',_,_,rfl,_⟩:=a7d h'
  obtain rfl:u = Value.ref a:=r
  obtain rfl:u' = Value.ref a':=r'
  by_cases hab:a = a'
  ·subst hab
   have e1:=Trm.data_inj (c0d I h h')
   rw [e1,a8t]
   exact SeqAt.EqAt.same _
  obtain ⟨us,us',hs,hs',l1,l2,it⟩:=b2u I n ih A t t' h h' hz hu
  have key:=b5i I (A:=A) hs hs' hab (eT t t') (by omega) it
  rw [l1,l2,b6z] at key
  exact key
end
section
variable {X:Cx}
noncomputable def mEqT (K:Frag) (n:Bool):R2:=fun x y H Q=>∃ (t t':Trm),Den K H x t.data/\Den K H y t'.data/\t.size<=70/\Q (.bl (n ^^ eqb t t')) H
theorem c3x (K:Frag) (hK:X.K = K) (hu:X.A.units + 150 < cLine):OpR X (compareOp .Eq) (mEqT K false):=by
 subst hK
 intro pins s σ H x y v u Q I rx ry h
 obtain ⟨t,t',h,h',hz,k⟩:=h
 obtain ⟨a,_,_,rfl,_⟩:=a7d h
 obtain ⟨a',_,_,rfl,_⟩:=a7d h'
 cases rx
 cases ry
 obtain ⟨us,us',hs,hs',l1,l2,it⟩:=b2u I 69 (b7a I 69) X.A t t' h h' (by omega) (by omega)
 obtain ⟨its,rv,p1,_⟩:=I.tuple hs
 obtain ⟨its',rv',p2,_⟩:=I.tuple hs'
 have m1:=rv.length
 have m2:=rv'.length
 refine SeqAt.eq_tupleAt (e:=eT t t') (show s.heap.IsTuple a its.toArray from p1) (show s.heap.IsTuple a' its'.toArray from p2) (by omega) (fun j h1 h2=>?_) ?_
 ·have h1:j < its.length:=by simpa using h1
  have h2:j < its'.length:=by simpa using h2
  have x1:us[j]? = some us[j]:=List.getElem?_eq_getElem (by omega)
  have x2:us'[j]? = some us'[j]:=List.getElem?_eq_getElem (by omega)
  obtain ⟨w1,y1,z1⟩:=rv.get x1
  obtain ⟨w2,y2,z2⟩:=rv'.get x2
  have q1:its.toArray[j] = w1:=by
   have:=List.getElem?_eq_getElem h1
   rw [y1] at this
   simpa using (Option.some.inj this).symm
  have q2:its'.toArray[j] = w2:=by
   have:=List.getElem?_eq_getElem h2
   rw [y2] at this
   simpa using (Option.some.inj this).symm
  rw [q1,q2]
  exact it j _ _ _ _ x1 x2 z1 z2
 ·rw [List.size_toArray,List.size_toArray,<- m1,<- m2,l1,l2,b6z]
  rw [Bool.false_xor] at k
  exact ⟨.bl _,H,I,rfl,k⟩
theorem b7b (K:Frag) (hK:X.K = K) (hu:X.A.units + 150 < cLine):OpR X (compareOp .NotEq) (mEqT K true):=by
 subst hK
 intro pins s σ H x y v u Q I rx ry h
 obtain ⟨t,t',h,h',hz,k⟩:=h
 obtain ⟨a,_,_,rfl,_⟩:=a7d h
 obtain ⟨a',_,_,rfl,_⟩:=a7d h'
 cases rx
 cases ry
 obtain ⟨us,us',hs,hs',l1,l2,it⟩:=b2u I 69 (b7a I 69) X.A t t' h h' (by omega) (by omega)
 obtain ⟨its,rv,p1,_⟩:=I.tuple hs
 obtain ⟨its',rv',p2,_⟩:=I.tuple hs'
 have m1:=rv.length
 have m2:=rv'.length
 refine SeqAt.RcNeAt.tuples (e:=eT t t') (show s.heap.IsTuple a its.toArray from p1) (show s.heap.IsTuple a' its'.toArray from p2) (by omega) (fun j h1 h2=>?_) X.prog X.w _ _ ?_
 ·have h1:j < its.length:=by simpa using h1
  have h2:j < its'.length:=by simpa using h2
  have x1:us[j]? = some us[j]:=List.getElem?_eq_getElem (by omega)
  have x2:us'[j]? = some us'[j]:=List.getElem?_eq_getElem (by omega)
  obtain ⟨w1,y1,z1⟩:=rv.get x1
  obtain ⟨w2,y2,z2⟩:=rv'.get x2
  have q1:its.toArray[j] = w1:=by
   have:=List.getElem?_eq_getElem h1
   rw [y1] at this
   simpa using (Option.some.inj this).symm
  have q2:its'.toArray[j] = w2:=by
   have:=List.getElem?_eq_getElem h2
   rw [y2] at this
   simpa using (Option.some.inj this).symm
  rw [q1,q2]
  exact it j _ _ _ _ x1 x2 z1 z2
 ·rw [List.size_toArray,List.size_toArray,<- m1,<- m2,l1,l2,b6z]
  rw [Bool.true_xor] at k
  exact ⟨.bl _,H,I,rfl,k⟩
theorem a9v {K:Frag} {H:Hp} {Q:VK} {x y:V} {n:Bool} {t t':Trm} (h:Den K H x t.data) (h':Den K H y t'.data) (hz:t.size<=70) (k:Q (.bl (n ^^ eqb t t')) H):mEqT K n x y H Q:=⟨t,t',h,h',hz,k⟩
end
section
variable {prog:Program} {w:World} {A:Around} {E:Value->Shared->Prop} {s:Shared}
theorem a7y {it l:Addr} {i:Nat} {items} {x:Value} {Q:Value->Shared->Prop} (hit:s.heap.IsTupleIter it l i)
  (hl:s.heap.IsTuple l items) (hx:items[i]? = some x)
  (hQ:∀ h',h'.IsTupleIter it l (i + 1)->Heap.SameBut it s.heap h'->Q x { s with heap:=h' }) :
  wpAny (model prog w) A (Builtin.SmallTypes.nextOf (.ref it)) Q E s:=by
 obtain ⟨o,ho,hc,hd⟩:=id hit
 obtain ⟨ol,hol,_,nl,hdl⟩:=hl
 unfold Builtin.SmallTypes.nextOf
 refine wpAny_bind (wpAny_callSpecial?_slot (name:=Str.ofString "__next__") hit.typeIs F.slot_tuple_iterator_next
  (wpAny_call_entry F.slot_tuple_iterator_next hit.typeIs F.entry_tuple_iterator_next ?_ (F.args_tuple_iterator_next_1 _)))
 show wpAny _ _ (field (.ref it) 0 >>= _) _ _ s
 refine wpAny_bind (wpAny_field ho hd (x:=.ref l) rfl ?_)
 show wpAny _ _ (if (Value.ref l == Value.none) = true then _ else _) _ _ s
 rw [if_neg (show ¬ ((Value.ref l == Value.none) = true) from Bool.false_ne_true)]
 show wpAny _ _ (field (.ref it) 1 >>= _) _ _ s
 refine wpAny_bind (wpAny_field ho hd (x:=.int i 0) rfl ?_)
 show wpAny _ _ (seqItems? (.ref l) >>= _) _ _ s
 refine wpAny_bind (wpAny_seqItems hol hdl ?_)
 simp only [Int.toNat_natCast,hx]
 refine wpAny_bind (wpAny_setField ho hd (by simp) (wpAny_pure ⟨x,rfl,wpAny_pure (hQ _ ?_ (Heap.SameBut.update ..))⟩))
 exact ⟨_,Heap.get?_update_self _ ho (Obj.isFreed_of_fields (Obj.data_mapFields hd _)),(Obj.cls_mapFields ..).trans hc,by
  rw [Obj.data_mapFields hd]; simp [rawInt]⟩
theorem b5j {it l:Addr} {i:Nat} {items} {Q:Value->Shared->Prop} (hh:A.handled = none)
  (hit:s.heap.IsTupleIter it l i) (hl:s.heap.IsTuple l items) (hx:items[i]? = none)
  (hE:∀ h' e,Heap.ExtBut it s.heap h'->(∃ o,h'.get? e = some o/\o.cls = .type "StopIteration")->E (.ref e) { s with heap:=h' }) :
  wpAny (model prog w) A (Builtin.SmallTypes.nextOf (.ref it)) Q E s:=by
 obtain ⟨o,ho,hc,hd⟩:=id hit
 obtain ⟨ol,hol,_,nl,hdl⟩:=hl
 unfold Builtin.SmallTypes.nextOf
 refine wpAny_bind (wpAny_callSpecial?_slot (name:=Str.ofString "__next__") hit.typeIs F.slot_tuple_iterator_next
  (wpAny_call_entry F.slot_tuple_iterator_next hit.typeIs F.entry_tuple_iterator_next ?_ (F.args_tuple_iterator_next_1 _)))
 show wpAny _ _ (field (.ref it) 0 >>= _) _ _ s
 refine wpAny_bind (wpAny_field ho hd (x:=.ref l) rfl ?_)
 show wpAny _ _ (if (Value.ref l == Value.none) = true then _ else _) _ _ s
 rw [if_neg (show ¬ ((Value.ref l == Value.none) = true) from Bool.false_ne_true)]
 show wpAny _ _ (field (.ref it) 1 >>= _) _ _ s
 refine wpAny_bind (wpAny_field ho hd (x:=.int i 0) rfl ?_)
 show wpAny _ _ (seqItems? (.ref l) >>= _) _ _ s
 refine wpAny_bind (wpAny_seqItems hol hdl ?_)
 simp only [Int.toNat_natCast,hx]
 refine wpAny_bind (wpAny_rule (wpAny_bind (wpAny_setField ho hd (by simp) ?_)))
 show wpAny _ _ (newExc (.type "StopIteration") [] >>= _) _ _ _
 refine wpAny_bind ?_
 simp only [newExc,newTuple]
 refine wpAny_bind (wpAny_newObj_type ?_ (by size_fits))
 refine wpAny_bind (m:=firstArgMember _ _) (wpAny_of_eq (a:=Value.none) (by first | rfl | (simp only [firstArgMember]; rfl)) ?_)
 refine wpAny_newObj_type ?_ (by size_fits)
 simp only [raiseNew]
 refine wpAny_bind (wpAny_handled ?_)
 first | rw [show A.in1.handled = none from hh] | rw [hh]
 refine wpAny_bind (wpAny_pure (wpAny_throw ?_))
 exact hE _ _ (((Heap.SameBut.update ..).extBut.push _).push _) ⟨_,Heap.get?_push_size _ rfl,rfl⟩
noncomputable abbrev a7r (h:Heap) (z TI TO:Addr) (f0:Value) (f1:Bool):Prop:=
 h.get? z = some { cls:=.type "zip",dict:=none,data:=.fields #[f0,.bool f1,.bool false,.ref TI,.ref TO],slots:=#[] }
theorem c3y {z TI TO i1 i2 l1 l2:Addr} {k1 k2:Nat} {xs ys:Array Value} {x y a b:Value} {Q:Value->Shared->Prop} (D:ZipApart z TI TO i1 i2 l1 l2)
  (hz:IsZip s.heap z TI TO .none) (hTI:IsPair s.heap TI (.ref i1) (.ref i2)) (hTO:IsPair s.heap TO a b)
  (h1:s.heap.IsTupleIter i1 l1 k1) (h2:s.heap.IsTupleIter i2 l2 k2) (hl1:s.heap.IsTuple l1 xs) (hl2:s.heap.IsTuple l2 ys) (hx:xs[k1]? = some x) (hy:ys[k2]? = some y)
  (hQ:∀ h',a7r h' z TI TO (rawInt s.heap.objs.size) false->IsPair h' TO x y->h'.IsTupleIter i1 l1 (k1 + 1)->h'.IsTupleIter i2 l2 (k2 + 1)->IsPair h' s.heap.objs.size x y->h'.objs.size = s.heap.objs.size + 1 ->
   (∀ c o,c ≠ z->c ≠ TO->c ≠ i1->c ≠ i2->s.heap.get? c = some o->h'.get? c = some o)->Q (.ref s.heap.objs.size) { s with heap:=h' }) :
  wpAny (model prog w) A (Builtin.«zip.__next__» ⟨[.ref z],[]⟩) (fun fin s'=>∃ v,fin = .done (.ret v)/\Q v s') E s:=by
 show wpAny _ _ (field (.ref z) 2 >>= _) _ _ _
 refine wpAny_bind (wpAny_field hz rfl (x:=.bool false) rfl ?_)
 show wpAny _ _ (field (.ref z) 3 >>= _) _ _ _
 refine wpAny_bind (wpAny_field hz rfl (x:=.ref TI) rfl ?_)
 refine wpAny_bind (wpAny_seqItems hTI rfl ?_)
 show wpAny _ _ (Builtin.SmallTypes.ownedTupleIsFree (.ref z) >>= _) _ _ _
 refine wpAny_bind ?_
 unfold Builtin.SmallTypes.ownedTupleIsFree
 refine wpAny_bind (wpAny_field hz rfl (x:=.none) rfl (wpAny_pure ?_))
 simp only [if_true]
 refine wpAny_bind (wpAny_rule ?_)
 refine wpAny_bind (wpAny_field hz rfl (x:=.ref TO) rfl ?_)
 refine wpAny_bind (wpAny_setField_rec hz (by simp) fun h₁ hz₁ hs₁=>?_)
 replace hz₁:IsZip h₁ z TI TO .ellipsis:=hz₁
 refine wpAny_bind ?_
 simp only [List.zipIdx_cons,List.zipIdx_nil,List.forIn_cons,List.forIn_nil]
 refine wpAny_bind (wpAny_bind (wpAny_onRaise ?_))
 show wpAny _ _ (Builtin.SmallTypes.nextOf (.ref i1) >>= _) _ _ _
 refine wpAny_bind (a7y (h1.extBut hs₁.extBut D.i1z) (hl1.extBut hs₁.extBut D.l1z) hx fun h₂ h1₂ hs₂=>wpAny_pure ?_)
 have hTO₂:IsPair h₂ TO a b:=hs₂.extBut _ _ D.TOi1 (hs₁.extBut _ _ D.TOz hTO)
 refine wpAny_bind (wpAny_seqItems hTO₂ rfl ?_)
 refine wpAny_bind (wpAny_updateSeq_pair hTO₂ fun h₃ hTO₃ hs₃=>?_)
 replace hTO₃:IsPair h₃ TO x b:=hTO₃
 refine wpAny_bind (wpAny_letGo (wpAny_pure ?_))
 refine wpAny_bind (wpAny_bind (wpAny_onRaise ?_))
 show wpAny _ _ (Builtin.SmallTypes.nextOf (.ref i2) >>= _) _ _ _
 refine wpAny_bind (a7y (((h2.extBut hs₁.extBut D.i2z).extBut hs₂.extBut D.i12.symm).extBut hs₃.extBut D.TOi2.symm)
  (((hl2.extBut hs₁.extBut D.l2z).extBut hs₂.extBut D.l2i1).extBut hs₃.extBut D.l2TO) hy fun h₄ h2₄ hs₄=>wpAny_pure ?_)
 have hTO₄:IsPair h₄ TO x b:=hs₄.extBut _ _ D.TOi2 hTO₃
 refine wpAny_bind (wpAny_seqItems hTO₄ rfl ?_)
 refine wpAny_bind (wpAny_updateSeq_pair hTO₄ fun h₅ hTO₅ hs₅=>?_)
 replace hTO₅:IsPair h₅ TO x y:=hTO₅
 refine wpAny_bind (wpAny_letGo (wpAny_pure (wpAny_pure ?_)))
 refine wpAny_bind (wpAny_seqItems hTO₅ rfl ?_)
 refine wpAny_bind (wpAny_newTuple ?_)
 have hsz:h₅.objs.size = s.heap.objs.size:=by rw [hs₅.1,hs₄.1,hs₃.1,hs₂.1,hs₁.1]
 have hz₅:IsZip h₅ z TI TO .ellipsis:=hs₅.extBut _ _ D.TOz.symm (hs₄.extBut _ _ D.i2z.symm (hs₃.extBut _ _ D.TOz.symm (hs₂.extBut _ _ D.i1z.symm hz₁)))
 have hk₅:∀ c o,c ≠ z->c ≠ TO->c ≠ i1->c ≠ i2->s.heap.get? c = some o->h₅.get? c = some o:=fun c o c1 c2 c3 c4 e=>
  hs₅.extBut _ _ c2 (hs₄.extBut _ _ c4 (hs₃.extBut _ _ c2 (hs₂.extBut _ _ c3 (hs₁.extBut _ _ c1 e))))
 have h1₅:h₅.IsTupleIter i1 l1 (k1 + 1):=((h1₂.extBut hs₃.extBut D.TOi1.symm).extBut hs₄.extBut D.i12).extBut hs₅.extBut D.TOi1.symm
 have h2₅:h₅.IsTupleIter i2 l2 (k2 + 1):=h2₄.extBut hs₅.extBut D.TOi2.symm
 have hzlt:z < h₅.objs.size:=Heap.lt_size hz₅
 show wpAny _ _ (Builtin.SmallTypes.ownedTupleHandOut (.ref z) (.ref h₅.objs.size) >>= _) _ _ _
 refine wpAny_bind ?_
 unfold Builtin.SmallTypes.ownedTupleHandOut
 have hz₆:IsZip (h₅.push { cls:=.type "tuple",data:=.seq #[x,y] }) z TI TO .ellipsis:=Heap.get?_push_of_some _ hz₅
 refine wpAny_bind (wpAny_setField_rec hz₆ (by simp) fun h₇ hz₇ hs₇=>?_)
 replace hz₇:IsZip h₇ z TI TO (rawInt h₅.objs.size):=hz₇
 refine wpAny_setField_rec hz₇ (by simp) fun h₈ hz₈ hs₈=>?_
 replace hz₈:IsZip h₈ z TI TO (rawInt h₅.objs.size):=hz₈
 have up:∀ c o,c ≠ z->h₅.get? c = some o->h₈.get? c = some o:=fun c o c1 e=>hs₈.extBut _ _ c1 (hs₇.extBut _ _ c1 (Heap.get?_push_of_some _ e))
 have hT₈:IsPair h₈ h₅.objs.size x y:=hs₈.extBut _ _ (Nat.ne_of_gt hzlt) (hs₇.extBut _ _ (Nat.ne_of_gt hzlt) (Heap.get?_push_size _ rfl))
 have hz8:h₈.objs.size = h₅.objs.size + 1:=by rw [hs₈.1,hs₇.1,Heap.size_push]
 rw [hsz] at hz₈ hT₈ hz8
 refine wpAny_pure ⟨_,rfl,?_⟩
 show Q (.ref h₅.objs.size) _
 rw [hsz]
 exact hQ h₈ hz₈ (up _ _ D.TOz hTO₅) (h1₅.at fun o e=>up _ o D.i1z e) (h2₅.at fun o e=>up _ o D.i2z e) hT₈ hz8 fun c o c1 c2 c3 c4 e=>up c o c1 (hk₅ c o c1 c2 c3 c4 e)
theorem b7c {z TI TO i1 i2 l1 l2:Addr} {k1:Nat} {xs:Array Value} {Q:Fin->Shared->Prop} (hh:A.handled = none) (D:ZipApart z TI TO i1 i2 l1 l2)
  (hz:IsZip s.heap z TI TO .none) (hTI:IsPair s.heap TI (.ref i1) (.ref i2))
  (h1:s.heap.IsTupleIter i1 l1 k1) (hl1:s.heap.IsTuple l1 xs) (hx:xs[k1]? = none)
  (hE:∀ h' e,(∀ c o,c ≠ z->c ≠ TO->c ≠ i1->c ≠ i2->s.heap.get? c = some o->h'.get? c = some o)->(∃ o,h'.get? e = some o/\o.cls = .type "StopIteration")->E (.ref e) { s with heap:=h' }) :
  wpAny (model prog w) A (Builtin.«zip.__next__» ⟨[.ref z],[]⟩) Q E s:=by
 show wpAny _ _ (field (.ref z) 2 >>= _) _ _ _
 refine wpAny_bind (wpAny_field hz rfl (x:=.bool false) rfl ?_)
 show wpAny _ _ (field (.ref z) 3 >>= _) _ _ _
 refine wpAny_bind (wpAny_field hz rfl (x:=.ref TI) rfl ?_)
 refine wpAny_bind (wpAny_seqItems hTI rfl ?_)
 show wpAny _ _ (Builtin.SmallTypes.ownedTupleIsFree (.ref z) >>= _) _ _ _
 refine wpAny_bind ?_
 unfold Builtin.SmallTypes.ownedTupleIsFree
 refine wpAny_bind (wpAny_field hz rfl (x:=.none) rfl (wpAny_pure ?_))
 simp only [if_true]
 refine wpAny_bind (wpAny_rule ?_)
 refine wpAny_bind (wpAny_field hz rfl (x:=.ref TO) rfl ?_)
 refine wpAny_bind (wpAny_setField_rec hz (by simp) fun h₁ hz₁ hs₁=>?_)
 replace hz₁:IsZip h₁ z TI TO .ellipsis:=hz₁
 refine wpAny_bind ?_
 simp only [List.zipIdx_cons,List.zipIdx_nil,List.forIn_cons,List.forIn_nil]
 refine wpAny_bind (wpAny_bind (wpAny_onRaise ?_))
 show wpAny _ _ (Builtin.SmallTypes.nextOf (.ref i1) >>= _) _ _ _
 refine wpAny_bind (b5j hh (h1.extBut hs₁.extBut D.i1z) (hl1.extBut hs₁.extBut D.l1z) hx fun h₂ e hs₂ he=>?_)
 obtain ⟨oe,hoe,hce⟩:=he
 have hz₂:IsZip h₂ z TI TO .ellipsis:=hs₂ _ _ D.i1z.symm hz₁
 have hez:e ≠ z:=fun x=>by subst x; rw [hz₂] at hoe; cases hoe; simp at hce
 refine wpAny_setField_rec hz₂ (by simp) fun h₃ _ hs₃=>hE h₃ e (fun c o c1 _ c3 _ x=>hs₃.extBut _ _ c1 (hs₂ _ _ c3 (hs₁.extBut _ _ c1 x))) ⟨oe,hs₃.extBut _ _ hez hoe,hce⟩
theorem b0t {z TI TO T:Addr} {f1:Bool} {o:Obj} {Q:Bool->Shared->Prop} (hz:a7r s.heap z TI TO (rawInt T) f1) (hT:s.heap.get? T = some o)
  (hQ:∀ h',a7r h' z TI TO (rawInt T) true->Heap.SameBut z s.heap h'->Q false { s with heap:=h' }):wpAny (model prog w) A (Builtin.SmallTypes.ownedTupleIsFree (.ref z)) Q E s:=by
 unfold Builtin.SmallTypes.ownedTupleIsFree
 refine wpAny_bind (wpAny_field hz rfl (x:=rawInt T) rfl ?_)
 show wpAny _ _ (loadIfAlive ((T:Int).toNat) >>= _) _ _ _
 rw [Int.toNat_natCast]
 refine wpAny_bind (kdx_alive hT ?_)
 simp only [Option.isNone_some,Bool.false_eq_true,if_false]
 refine wpAny_bind (wpAny_field hz rfl (x:=.bool f1) rfl ?_)
 cases f1 with
 | true=>
  rw [if_neg (show ¬ ((Value.bool true != Value.bool true) = true) from Bool.false_ne_true)]
  exact wpAny_pure (hQ _ hz (Heap.SameBut.refl _ _))
 | false=>
  rw [if_pos (show (Value.bool false != Value.bool true) = true from rfl)]
  refine wpAny_bind (wpAny_setField_rec hz (by simp) fun h₃ he₃ hs₃=>?_)
  exact wpAny_pure (hQ _ he₃ hs₃)
theorem c3z {z TI TO i1 i2 l1 l2 T:Addr} {f1:Bool} {oT:Obj} {k1 k2:Nat} {xs ys:Array Value} {x y:Value} {Q:Value->Shared->Prop} (D:ZipApart z TI TO i1 i2 l1 l2)
  (hz:a7r s.heap z TI TO (rawInt T) f1) (hT:s.heap.get? T = some oT) (hTI:IsPair s.heap TI (.ref i1) (.ref i2))
  (h1:s.heap.IsTupleIter i1 l1 k1) (h2:s.heap.IsTupleIter i2 l2 k2) (hl1:s.heap.IsTuple l1 xs) (hl2:s.heap.IsTuple l2 ys) (hx:xs[k1]? = some x) (hy:ys[k2]? = some y)
  (hQ:∀ h',a7r h' z TI TO (rawInt T) true->h'.IsTupleIter i1 l1 (k1 + 1)->h'.IsTupleIter i2 l2 (k2 + 1)->IsPair h' s.heap.objs.size x y->h'.objs.size = s.heap.objs.size + 1 ->
   (∀ c o,c ≠ z->c ≠ i1->c ≠ i2->s.heap.get? c = some o->h'.get? c = some o)->Q (.ref s.heap.objs.size) { s with heap:=h' }) :
  wpAny (model prog w) A (Builtin.«zip.__next__» ⟨[.ref z],[]⟩) (fun fin s'=>∃ v,fin = .done (.ret v)/\Q v s') E s:=by
 show wpAny _ _ (field (.ref z) 2 >>= _) _ _ _
 refine wpAny_bind (wpAny_field hz rfl (x:=.bool false) rfl ?_)
 show wpAny _ _ (field (.ref z) 3 >>= _) _ _ _
 refine wpAny_bind (wpAny_field hz rfl (x:=.ref TI) rfl ?_)
 refine wpAny_bind (wpAny_seqItems hTI rfl ?_)
 show wpAny _ _ (Builtin.SmallTypes.ownedTupleIsFree (.ref z) >>= _) _ _ _
 refine wpAny_bind (b0t hz hT fun h₁ hz₁ hs₁=>?_)
 simp only [Bool.false_eq_true,if_false]
 refine wpAny_bind ?_
 simp only [List.forIn_toArray,List.forIn_cons,List.forIn_nil]
 refine wpAny_bind (wpAny_bind (wpAny_holding ?_))
 show wpAny _ _ (Builtin.SmallTypes.nextOf (.ref i1) >>= _) _ _ _
 refine wpAny_bind (a7y (h1.extBut hs₁.extBut D.i1z) (hl1.extBut hs₁.extBut D.l1z) hx fun h₂ h1₂ hs₂=>wpAny_pure ?_)
 refine wpAny_pure ?_
 refine wpAny_bind (wpAny_bind (wpAny_holding ?_))
 show wpAny _ _ (Builtin.SmallTypes.nextOf (.ref i2) >>= _) _ _ _
 refine wpAny_bind (a7y ((h2.extBut hs₁.extBut D.i2z).extBut hs₂.extBut D.i12.symm) ((hl2.extBut hs₁.extBut D.l2z).extBut hs₂.extBut D.l2i1) hy fun h₄ h2₄ hs₄=>wpAny_pure ?_)
 refine wpAny_pure (wpAny_pure ?_)
 refine wpAny_bind (wpAny_newTuple (hsz:=by show 2<=sizeLine; rw [sizeLine_eq]; omega) ?_)
 have hsz:h₄.objs.size = s.heap.objs.size:=by rw [hs₄.1,hs₂.1,hs₁.1]
 refine wpAny_pure ⟨_,rfl,?_⟩
 show Q (.ref h₄.objs.size) _
 have hz₄:a7r h₄ z TI TO (rawInt T) true:=hs₄.extBut _ _ D.i2z.symm (hs₂.extBut _ _ D.i1z.symm hz₁)
 have e5:IsPair (h₄.push { cls:=.type "tuple",data:=.seq #[x,y] }) h₄.objs.size x y:=Heap.get?_push_size _ rfl
 rw [hsz] at e5 ⊢
 refine hQ _ (Heap.get?_push_of_some _ hz₄) ((h1₂.extBut hs₄.extBut D.i12).at fun o e=>Heap.get?_push_of_some _ e) (h2₄.at fun o e=>Heap.get?_push_of_some _ e) e5 (by rw [Heap.size_push,hsz]) fun c o c1 c3 c4 e=>Heap.get?_push_of_some _ (hs₄.extBut _ _ c4 (hs₂.extBut _ _ c3 (hs₁.extBut _ _ c1 e)))
theorem b7d {z TI TO i1 i2 l1 l2 T:Addr} {f1:Bool} {oT:Obj} {k1:Nat} {xs:Array Value} {Q:Fin->Shared->Prop} (hh:A.handled = none) (D:ZipApart z TI TO i1 i2 l1 l2)
  (hz:a7r s.heap z TI TO (rawInt T) f1) (hT:s.heap.get? T = some oT) (hTI:IsPair s.heap TI (.ref i1) (.ref i2))
  (h1:s.heap.IsTupleIter i1 l1 k1) (hl1:s.heap.IsTuple l1 xs) (hx:xs[k1]? = none)
  (hE:∀ h' e,(∀ c o,c ≠ z->c ≠ TO->c ≠ i1->c ≠ i2->s.heap.get? c = some o->h'.get? c = some o)->(∃ o,h'.get? e = some o/\o.cls = .type "StopIteration")->E (.ref e) { s with heap:=h' }) :
  wpAny (model prog w) A (Builtin.«zip.__next__» ⟨[.ref z],[]⟩) Q E s:=by
 show wpAny _ _ (field (.ref z) 2 >>= _) _ _ _
 refine wpAny_bind (wpAny_field hz rfl (x:=.bool false) rfl ?_)
 show wpAny _ _ (field (.ref z) 3 >>= _) _ _ _
 refine wpAny_bind (wpAny_field hz rfl (x:=.ref TI) rfl ?_)
 refine wpAny_bind (wpAny_seqItems hTI rfl ?_)
 show wpAny _ _ (Builtin.SmallTypes.ownedTupleIsFree (.ref z) >>= _) _ _ _
 refine wpAny_bind (b0t hz hT fun h₁ hz₁ hs₁=>?_)
 simp only [Bool.false_eq_true,if_false]
 refine wpAny_bind ?_
 simp only [List.forIn_toArray,List.forIn_cons,List.forIn_nil]
 refine wpAny_bind (wpAny_bind (wpAny_holding ?_))
 show wpAny _ _ (Builtin.SmallTypes.nextOf (.ref i1) >>= _) _ _ _
 refine wpAny_bind (b5j hh (h1.extBut hs₁.extBut D.i1z) (hl1.extBut hs₁.extBut D.l1z) hx fun h₂ e hs₂ he=>?_)
 exact hE h₂ e (fun c o c1 _ c3 _ x=>hs₂ _ _ c3 (hs₁.extBut _ _ c1 x)) he
end
theorem c1h:typeLookup (.type "zip") "__len__" = pure none:=by rw [typeLookup_type,builtinLookup_eq_fast]; kernel_rfl
theorem b8z:typeLookup (.type "zip") "__length_hint__" = pure none:=by rw [typeLookup_type,builtinLookup_eq_fast]; kernel_rfl
noncomputable abbrev ztH1 (h:Heap) (l1:Addr):Heap:=h.push { cls:=.type "tuple_iterator",data:=.fields #[.ref l1,.int 0 0] }
noncomputable abbrev ztH2 (h:Heap) (l1 l2:Addr):Heap:=(ztH1 h l1).push { cls:=.type "tuple_iterator",data:=.fields #[.ref l2,.int 0 0] }
noncomputable abbrev ztH3 (h:Heap) (l1 l2:Addr):Heap:=(ztH2 h l1 l2).push { cls:=.type "tuple",data:=.seq #[.ref h.objs.size,.ref (ztH1 h l1).objs.size] }
noncomputable abbrev ztH4 (h:Heap) (l1 l2:Addr):Heap:=(ztH3 h l1 l2).push { cls:=.type "tuple",data:=.seq #[.none,.none] }
noncomputable abbrev ztH5 (h:Heap) (l1 l2:Addr):Heap:=(ztH4 h l1 l2).push { cls:=.type "zip",data:=.fields #[.none,.bool false,.bool false,.ref (ztH2 h l1 l2).objs.size,.ref (ztH3 h l1 l2).objs.size] }
theorem c1i (l1 l2:Addr) (xs ys:Array Value) :
  Meets (Builtin.«zip.__new__» ⟨[.type "zip",.ref l1,.ref l2],[]⟩) (fun _ R s=>s.heap.IsTuple l1 xs/\s.heap.IsTuple l2 ys /\
   R (.ok (.ret (.ref (ztH4 s.heap l1 l2).objs.size))) { s with heap:=ztH5 s.heap l1 l2 }):=
 .of_wp fun prog w A R s h=>by
  obtain ⟨hp,g,d,tk,os⟩:=s; obtain ⟨hl1,hl2,h⟩:=h
  have hsub:=sub_zip
  have hL1:Heap.IsTuple (Shared.heap ⟨hp,g,d,tk,os⟩) l1 xs:=hl1
  have hL2:Heap.IsTuple (Shared.heap ⟨hp.push { cls:=.type "tuple_iterator",data:=.fields #[.ref l1,.int 0 0] },g,d,tk,os⟩) l2 ys:=Heap.IsTuple.push hl2 _
  wp_walk using wpAny_pyIter_tuple hL1,wpAny_pyIter_tuple hL2
  exact ⟨_,rfl,h⟩
section
variable {prog:Program} {w:World} {A:Around} {E:Value->Shared->Prop} {s:Shared}
theorem c4a {l1 l2:Addr} {xs ys:Array Value} {Q:Value->Shared->Prop} (hl1:s.heap.IsTuple l1 xs) (hl2:s.heap.IsTuple l2 ys)
  (h:∀ h',IsZip h' (s.heap.objs.size + 4) (s.heap.objs.size + 2) (s.heap.objs.size + 3) .none->IsPair h' (s.heap.objs.size + 2) (.ref s.heap.objs.size) (.ref (s.heap.objs.size + 1)) ->
   IsPair h' (s.heap.objs.size + 3) .none .none->h'.IsTupleIter s.heap.objs.size l1 0->h'.IsTupleIter (s.heap.objs.size + 1) l2 0->h'.objs.size = s.heap.objs.size + 5 ->
   (∀ c o,s.heap.get? c = some o->h'.get? c = some o)->Q (.ref (s.heap.objs.size + 4)) { s with heap:=h' }) :
  wpAny (model prog w) A (call (.type "zip") [.ref l1,.ref l2]) Q E s:=by
 refine callType_new F.called_zip (by decide) (F.typeCall_zip_2 _ _) (F.newCall_zip_2 _ _) (fun obj=>F.args_object_init_3 obj _ _) F.entry_zip_new
  (c1i l1 l2 xs ys) ⟨hl1,hl2,?_⟩
 have z1:(ztH1 s.heap l1).objs.size = s.heap.objs.size + 1:=Heap.size_push ..
 have z2:(ztH2 s.heap l1 l2).objs.size = s.heap.objs.size + 2:=by rw [Heap.size_push,z1]
 have z3:(ztH3 s.heap l1 l2).objs.size = s.heap.objs.size + 3:=by rw [Heap.size_push,z2]
 have z4:(ztH4 s.heap l1 l2).objs.size = s.heap.objs.size + 4:=by rw [Heap.size_push,z3]
 have z5:(ztH5 s.heap l1 l2).objs.size = s.heap.objs.size + 5:=by rw [Heap.size_push,z4]
 have g5:(ztH5 s.heap l1 l2).get? (ztH4 s.heap l1 l2).objs.size = some _:=Heap.get?_push_size _ rfl
 have g4:(ztH5 s.heap l1 l2).get? (ztH3 s.heap l1 l2).objs.size = some _:=Heap.get?_push_of_some _ (Heap.get?_push_size _ rfl)
 have g3:(ztH5 s.heap l1 l2).get? (ztH2 s.heap l1 l2).objs.size = some _:=Heap.get?_push_of_some _ (Heap.get?_push_of_some _ (Heap.get?_push_size _ rfl))
 have g2:(ztH5 s.heap l1 l2).get? (ztH1 s.heap l1).objs.size = some _:=Heap.get?_push_of_some _ (Heap.get?_push_of_some _ (Heap.get?_push_of_some _ (Heap.get?_push_size _ rfl)))
 have g1:(ztH5 s.heap l1 l2).get? s.heap.objs.size = some _:=Heap.get?_push_of_some _ (Heap.get?_push_of_some _ (Heap.get?_push_of_some _ (Heap.get?_push_of_some _ (Heap.get?_push_size _ rfl))))
 show _/\_
 rw [z2,z3,z4] at g5
 rw [z1,z2] at g3
 rw [z3] at g4
 rw [z1] at g2
 rw [z4]
 exact ⟨⟨_,g5,rfl⟩,h _ g5 g3 g4 ⟨_,g1,rfl,rfl⟩ ⟨_,g2,rfl,rfl⟩ z5 fun c o x=>
  Heap.get?_push_of_some _ (Heap.get?_push_of_some _ (Heap.get?_push_of_some _ (Heap.get?_push_of_some _ (Heap.get?_push_of_some _ x))))⟩
noncomputable def ZS (h:Heap) (z TI TO i1 i2 t1 t2 S:Addr) (i:Nat):Prop:=
 ((IsZip h z TI TO .none/\∃ a b,IsPair h TO a b)\/∃ (T:Addr) (f1:Bool) (o:Obj),a7r h z TI TO (rawInt T) f1/\h.get? T = some o/\T ≠ z/\T ≠ TO/\T ≠ i1/\T ≠ i2/\T ≠ S)/\IsPair h TI (.ref i1) (.ref i2)/\h.IsTupleIter i1 t1 i/\h.IsTupleIter i2 t2 i
theorem ZS.keep {h h':Heap} {z TI TO i1 i2 t1 t2 S:Addr} {i:Nat} (st:ZS h z TI TO i1 i2 t1 t2 S i) (k:∀ c o,c ≠ S->h.get? c = some o->h'.get? c = some o) (n:S ≠ z/\S ≠ TI/\S ≠ TO/\S ≠ i1/\S ≠ i2):ZS h' z TI TO i1 i2 t1 t2 S i:=by
 obtain ⟨q,hTI,h1,h2⟩:=st
 refine ⟨?_,k _ _ n.2.1.symm hTI,h1.at fun o e=>k _ o n.2.2.2.1.symm e,h2.at fun o e=>k _ o n.2.2.2.2.symm e⟩
 rcases q with ⟨hz,a,b,hTO⟩ | ⟨T,f1,o,hz,hT,d⟩
 ·exact .inl ⟨k _ _ n.1.symm hz,a,b,k _ _ n.2.2.1.symm hTO⟩
 ·exact .inr ⟨T,f1,o,k _ _ n.1.symm hz,k _ _ d.2.2.2.2 hT,d⟩
theorem zs_item {z TI TO i1 i2 t1 t2 S:Addr} {i:Nat} {xs ys:Array Value} {x y:Value} {Q:Option Value->Shared->Prop} (D:ZipApart z TI TO i1 i2 t1 t2) (st:ZS s.heap z TI TO i1 i2 t1 t2 S i) (hS:S < s.heap.objs.size)
  (hl1:s.heap.IsTuple t1 xs) (hl2:s.heap.IsTuple t2 ys) (hx:xs[i]? = some x) (hy:ys[i]? = some y)
  (hQ:∀ h',ZS h' z TI TO i1 i2 t1 t2 S (i + 1)->IsPair h' s.heap.objs.size x y->(∀ c o,c ≠ z->c ≠ TO->c ≠ i1->c ≠ i2->s.heap.get? c = some o->h'.get? c = some o)->Q (some (.ref s.heap.objs.size)) { s with heap:=h' }) :
  wpAny (model prog w) A (pyNext (.ref z)) Q E s:=by
 obtain ⟨q,hTI,h1,h2⟩:=st
 have lt:∀ {c o},s.heap.get? c = some o->s.heap.objs.size ≠ c:=fun e=>Nat.ne_of_gt (Heap.lt_size e)
 have n1:s.heap.objs.size ≠ i1:=by obtain ⟨_,e,_⟩:=h1; exact lt e
 have n2:s.heap.objs.size ≠ i2:=by obtain ⟨_,e,_⟩:=h2; exact lt e
 rcases q with ⟨hz,a,b,hTO⟩ | ⟨T,f1,o,hz,hT,d⟩
 ·have hTy:s.TypeIs (.ref z) "zip":=⟨_,hz,rfl⟩
  unfold pyNext
  refine wpAny_bind (wpAny_attempt (wpAny_callSpecial?_slot (name:=Str.ofString "__next__") hTy F.slot_zip_next
   (wpAny_call_entry F.slot_zip_next hTy F.entry_zip_next
    (c3y D hz hTI hTO h1 h2 hl1 hl2 hx hy fun h' a1 a2 a3 a4 a5 a6 a7=>wpAny_pure (hQ h' ⟨.inr ⟨_,false,_,a1,a5,lt hz,lt hTO,n1,n2,Nat.ne_of_gt hS⟩,a7 _ _ D.TIz D.TITO D.TIi1 D.TIi2 hTI,a3,a4⟩ a5 a7)) (F.args_zip_next_1 _))))
 ·have hTy:s.TypeIs (.ref z) "zip":=⟨_,hz,rfl⟩
  unfold pyNext
  refine wpAny_bind (wpAny_attempt (wpAny_callSpecial?_slot (name:=Str.ofString "__next__") hTy F.slot_zip_next
   (wpAny_call_entry F.slot_zip_next hTy F.entry_zip_next
    (c3z D hz hT hTI h1 h2 hl1 hl2 hx hy fun h' a1 a3 a4 a5 a6 a7=>wpAny_pure (hQ h' ⟨.inr ⟨T,true,o,a1,a7 _ _ d.1 d.2.2.1 d.2.2.2.1 hT,d⟩,a7 _ _ D.TIz D.TIi1 D.TIi2 hTI,a3,a4⟩ a5 fun c o c1 _ c3 c4 e=>a7 c o c1 c3 c4 e)) (F.args_zip_next_1 _))))
theorem zs_end {z TI TO i1 i2 t1 t2 S:Addr} {i:Nat} {xs:Array Value} {Q:Option Value->Shared->Prop} (hh:A.handled = none) (D:ZipApart z TI TO i1 i2 t1 t2) (st:ZS s.heap z TI TO i1 i2 t1 t2 S i)
  (hl1:s.heap.IsTuple t1 xs) (hx:xs[i]? = none)
  (hQ:∀ h',(∀ c o,c ≠ z->c ≠ TO->c ≠ i1->c ≠ i2->s.heap.get? c = some o->h'.get? c = some o)->Q none { s with heap:=h' }) :
  wpAny (model prog w) A (pyNext (.ref z)) Q E s:=by
 obtain ⟨q,hTI,h1,h2⟩:=st
 rcases q with ⟨hz,a,b,hTO⟩ | ⟨T,f1,o,hz,hT,d⟩
 ·have hTy:s.TypeIs (.ref z) "zip":=⟨_,hz,rfl⟩
  unfold pyNext
  refine wpAny_bind (wpAny_attempt (wpAny_callSpecial?_slot (name:=Str.ofString "__next__") hTy F.slot_zip_next
   (wpAny_call_entry F.slot_zip_next hTy F.entry_zip_next (b7c hh D hz hTI h1 hl1 hx fun h' e hk he=>?_) (F.args_zip_next_1 _))))
  obtain ⟨o,ho,hc⟩:=he
  refine wpAny_bind (wpAny_isInstance (T:="StopIteration") (b:=true) ⟨o,ho,hc⟩ isSubtype_stop ?_)
  exact wpAny_pure (hQ _ hk)
 ·have hTy:s.TypeIs (.ref z) "zip":=⟨_,hz,rfl⟩
  unfold pyNext
  refine wpAny_bind (wpAny_attempt (wpAny_callSpecial?_slot (name:=Str.ofString "__next__") hTy F.slot_zip_next
   (wpAny_call_entry F.slot_zip_next hTy F.entry_zip_next (b7d hh D hz hT hTI h1 hl1 hx fun h' e hk he=>?_) (F.args_zip_next_1 _))))
  obtain ⟨o,ho,hc⟩:=he
  refine wpAny_bind (wpAny_isInstance (T:="StopIteration") (b:=true) ⟨o,ho,hc⟩ isSubtype_stop ?_)
  exact wpAny_pure (hQ _ hk)
end
noncomputable def a8j (H:Hp) (qs:List Addr) (xs ys:List V):Prop:=∀ (j:Nat) (q:Addr) (x y:V),qs[j]? = some q->xs[j]? = some x->ys[j]? = some y->H q = some (.tup [x,y])
section
variable {X:Cx} {pins:List (Addr × Obj)} {σ:St}
theorem c6k {A:Around} {R:Result->Shared->Prop} {z TI TO i1 i2 t1 t2 S:Addr} {xs ys:List V} {H0:Hp} (hh:A.handled = none) (D:ZipApart z TI TO i1 i2 t1 t2) (ltS:∀ b ∈ [z,TI,TO,i1,i2],b < S) (hlen:ys.length = xs.length) (h0:H0 S = none) (res:Value)
  (hR:∀ s' H' qs,Inv X pins σ H' s'->Same H0 H'->H' S = some (.lst (qs.map V.ref))->qs.length = xs.length->a8j H' qs xs ys->R (.ok (.ret res)) s') :
  ∀ (k i:Nat) (s:Shared) (H:Hp) (qs:List Addr),xs.length - i = k->i<=xs.length->Inv X pins σ H s->SqT X.K H t1 xs->SqT X.K H t2 ys->ZS s.heap z TI TO i1 i2 t1 t2 S i->(∀ b ∈ [z,TI,TO,i1,i2],FpOk X pins H b)->Same H0 H->H S = some (.lst (qs.map V.ref))->qs.length = i->a8j H qs xs ys ->
   codeAny (model X.prog X.w) A (.builtin "list.extend.loop" ⟨[.ref S,.ref z,res],[]⟩) R s:=by
 have n:S ≠ z/\S ≠ TI/\S ≠ TO/\S ≠ i1/\S ≠ i2:=⟨Nat.ne_of_gt (ltS _ (by simp)),Nat.ne_of_gt (ltS _ (by simp)),Nat.ne_of_gt (ltS _ (by simp)),Nat.ne_of_gt (ltS _ (by simp)),Nat.ne_of_gt (ltS _ (by simp))⟩
 intro k
 induction k with
 | zero=>
  intro i s H qs hk hi I hq1 hq2 st hf sm hS hl pr
  have hin:i = xs.length:=by omega
  obtain ⟨its,rv,p,hz⟩:=I.tuple hq1
  have hlx:=rv.length
  refine codeAny_builtin F.entry_extend_loop ?_
  rw [Around.under_plainId F.plain_extend_loop _]
  show wpAny _ A.in1 (pyNext (.ref z) >>= _) _ _ s
  refine wpAny_bind (zs_end (A:=A.in1) hh D st (show s.heap.IsTuple t1 its.toArray from p) (by simp; omega) fun h' he=>?_)
  refine wpAny_pure (hR { s with heap:=h' } H qs (I.turnedMany (t':=s.toks) (ch:=[z,TI,TO,i1,i2]) hf fun c u hc e=>he c u (fun q=>hc (by simp [q])) (fun q=>hc (by simp [q])) (fun q=>hc (by simp [q])) (fun q=>hc (by simp [q])) e) sm hS (by omega) pr)
 | succ k ih=>
  intro i s H qs hk hi I hq1 hq2 st hf sm hS hl pr
  have hlt:i < xs.length:=by omega
  have hlt':i < ys.length:=by omega
  obtain ⟨its,rv,p,hz⟩:=I.tuple hq1
  obtain ⟨its',rv',p',hz'⟩:=I.tuple hq2
  obtain ⟨u,hu,ru⟩:=rv.get (List.getElem?_eq_getElem hlt)
  obtain ⟨u',hu',ru'⟩:=rv'.get (List.getElem?_eq_getElem hlt')
  obtain ⟨zS,it3,n3,r3,l3,e3⟩:=I.lstM hS
  have hSl:S < s.heap.objs.size:=Heap.lt_size e3
  refine codeAny_builtin F.entry_extend_loop ?_
  rw [Around.under_plainId F.plain_extend_loop _]
  show wpAny _ A.in1 (pyNext (.ref z) >>= _) _ _ s
  refine wpAny_bind (zs_item D st hSl (show s.heap.IsTuple t1 its.toArray from p) (show s.heap.IsTuple t2 its'.toArray from p') (by simpa using hu) (by simpa using hu') fun h' st' hp hkp=>?_)
  have hk':∀ b o,b ∉ [z,TI,TO,i1,i2]->s.heap.get? b = some o->h'.get? b = some o:=fun c o hc e=>hkp c o (fun q=>hc (by simp [q])) (fun q=>hc (by simp [q])) (fun q=>hc (by simp [q])) (fun q=>hc (by simp [q])) e
  have fr:H s.heap.objs.size = none:=I.hok.fresh (Nat.le_refl _)
  have I1:Inv X pins σ (upd H s.heap.objs.size (.tup [xs[i],ys[i]])) { s with heap:=h' }:=I.turnedLaid (t':=s.toks) (ch:=[z,TI,TO,i1,i2]) hf hk' (Nat.le_refl _) ⟨by simp [sizeLine_eq],[u,u'],.cons ru (.cons ru' .nil),⟨_,hp,rfl,_,rfl⟩⟩
  have hST:S ≠ s.heap.objs.size:=Nat.ne_of_lt hSl
  have hS1:upd H s.heap.objs.size (.tup [xs[i],ys[i]]) S = some (.lst (qs.map V.ref)):=by rw [a0j hST]; exact hS
  have e4:h'.get? S = some { cls:=.type "list",data:=.seq it3.toArray n3 }:=hkp S _ n.1 n.2.2.1 n.2.2.2.1 n.2.2.2.2 e3
  have hq:(qs.map V.ref).length = i:=by rw [List.length_map]; exact hl
  have I2:=I1.lset (t':=s.toks) (f:=(·.push (Value.ref s.heap.objs.size))) (its':=it3 ++ [Value.ref s.heap.objs.size]) (ys:=(qs ++ [s.heap.objs.size]).map V.ref) hS1 e4 (by simp) (by rw [List.map_append]; exact r3.append (.cons rfl .nil)) (by rw [List.length_map,List.length_append,List.length_singleton]; omega)
  show wpAny _ A.in1 (updateSeq S (·.push (Value.ref s.heap.objs.size)) >>= _) _ _ _
  refine wpAny_bind ?_
  have b1:But S H (upd (upd H s.heap.objs.size (.tup [xs[i],ys[i]])) S (.lst ((qs ++ [s.heap.objs.size]).map V.ref))):=fun b o hb e=>by
   rw [a0j hb,a0j (a0t e fr)]
   exact e
  refine wpAny_updateSeq e4 rfl (wpAny_pure ⟨plainId_quiet F.plain_extend_loop _,ih (i + 1) _ _ (qs ++ [s.heap.objs.size]) (by omega) hlt I2 (b1.tup hS hq1) (b1.tup hS hq2) (st'.keep (fun c o hc e=>(Heap.get?_update_other _ _ (Ne.symm hc)).trans e) n) (fun b hb=>?_) (fun b o e=>?_) a0b (by rw [List.length_append,hl]; rfl) (fun j q x y g1 g2 g3=>?_)⟩) (by rw [List.size_toArray]; omega) (by show (it3.toArray.push (Value.ref s.heap.objs.size)).size<=sizeLine + 1; rw [Array.size_push,List.size_toArray]; omega)
  ·have fb:=hf b hb
   have nb:b ≠ S:=fun q=>by rw [q] at fb; rw [fb.1] at hS; cases hS
   have nT:b ≠ s.heap.objs.size:=Nat.ne_of_lt (Nat.lt_trans (ltS b hb) hSl)
   refine ⟨?_,fb.2⟩
   rw [a0j nb,a0j nT]
   exact fb.1
  ·exact b1 b o (fun q=>by rw [q,h0] at e; cases e) (sm b o e)
  ·rcases Nat.lt_trichotomy j qs.length with h1 | h1 | h1
   ·rw [List.getElem?_append_left h1] at g1
    have:=pr j q x y g1 g2 g3
    exact b1 _ _ (fun e=>by rw [e,hS] at this; cases this) this
   ·subst h1
    have hb:s.heap.objs.size = q:=by simpa using g1
    subst hb
    rw [a0j hST.symm,a0b]
    rw [hl] at g2 g3
    rw [List.getElem?_eq_getElem hlt] at g2
    rw [List.getElem?_eq_getElem hlt'] at g3
    cases g2
    cases g3
    rfl
   ·have hnone:(qs ++ [s.heap.objs.size])[j]? = none:=List.getElem?_eq_none (by rw [List.length_append,List.length_singleton]; omega)
    rw [hnone] at g1
    cases g1
theorem b7e {A:Around} {E:Value->Shared->Prop} {s:Shared} {H:Hp} {Q:Value->Shared->Prop} {z TI TO i1 i2 t1 t2:Addr} {xs ys:List V} (hh:A.handled = none) (D:ZipApart z TI TO i1 i2 t1 t2) (I:Inv X pins σ H s) (hq1:SqT X.K H t1 xs) (hq2:SqT X.K H t2 ys) (hlen:ys.length = xs.length)
  (hz:IsZip s.heap z TI TO .none) (hTI:IsPair s.heap TI (.ref i1) (.ref i2)) (hTO:IsPair s.heap TO .none .none) (h1:s.heap.IsTupleIter i1 t1 0) (h2:s.heap.IsTupleIter i2 t2 0) (hf:∀ b ∈ [z,TI,TO,i1,i2],FpOk X pins H b)
  (h:∀ s' H' p qs,H p = none->Inv X pins σ H' s'->Same H H'->H' p = some (.lst (qs.map V.ref))->qs.length = xs.length->a8j H' qs xs ys->Q (.ref p) s') :
  wpAny (model X.prog X.w) A (call (.type "list") [.ref z]) Q E s:=by
 refine callType_codes (Q₁:=fun obj s₁=>obj = .ref s.heap.objs.size/\s₁ = { s with heap:=s.heap.push { cls:=.type "list",data:=.seq #[] } }) F.called_list (F.typeCall_list_1 _) F.entry_list_init
  (code_list_new _ ⟨rfl,rfl⟩) fun obj s₁ h₁=>?_
 obtain ⟨rfl,rfl⟩:=h₁
 have hS:(s.heap.push { cls:=.type "list",data:=.seq #[] }).get? s.heap.objs.size = some { cls:=.type "list",data:=.seq #[] }:=Heap.get?_push_size _ rfl
 refine ⟨⟨_,hS,rfl⟩,F.args_list_init_2 _ _,?_⟩
 have ltS:∀ b ∈ [z,TI,TO,i1,i2],b < s.heap.objs.size:=fun b hb=>by
  obtain ⟨_,e1,_⟩:=h1
  obtain ⟨_,e2,_⟩:=h2
  simp only [List.mem_cons,List.not_mem_nil,or_false] at hb
  rcases hb with rfl | rfl | rfl | rfl | rfl
  ·exact Heap.lt_size hz
  ·exact Heap.lt_size hTI
  ·exact Heap.lt_size hTO
  ·exact Heap.lt_size e1
  ·exact Heap.lt_size e2
 generalize hSS:s.heap.objs.size = S at hS ltS ⊢
 have fr:H S = none:=by rw [<- hSS]; exact I.hok.fresh (Nat.le_refl _)
 show wpAny _ _ (do let old <- Builtin.List.listItems (.ref S); Builtin.List.listUpdate (.ref S) (fun _=>#[]); letGo old.toList.reverse; Builtin.List.listExtendWith (.ref S) (.ref z) .none) _ _ _
 refine wpAny_bind ?_
 unfold Builtin.List.listItems
 refine wpAny_bind (wpAny_seqItems hS rfl (wpAny_pure ?_))
 show wpAny _ _ (updateSeq S (fun _=>#[]) >>= fun _=>letGo (#[]:Array Value).toList.reverse >>= fun _=>Builtin.List.listExtendWith (.ref S) (.ref z) .none) _ _ _
 refine wpAny_bind (wpAny_updateSeq hS rfl ?_)
 have hS₁:=Heap.get?_update_self (Obj.mapSeq (fun _=>(#[]:Array Value))) hS rfl
 have k1:∀ b o,b ≠ S->s.heap.get? b = some o->((s.heap.push { cls:=.type "list",data:=.seq #[] }).update S (Obj.mapSeq (fun _=>(#[]:Array Value)))).get? b = some o:=
  fun b o hb e=>(Heap.get?_update_other _ _ (Ne.symm hb)).trans (Heap.get?_push_of_some _ e)
 refine wpAny_bind (wpAny_letGo ?_)
 generalize ((s.heap.push { cls:=.type "list",data:=.seq #[] }).update S (Obj.mapSeq (fun _=>(#[]:Array Value)))) = hp1 at hS₁ k1 ⊢
 have nz:z ≠ S:=Nat.ne_of_lt (ltS z (by simp))
 have hz1:IsZip hp1 z TI TO .none:=k1 _ _ nz hz
 have hT1:Shared.TypeIs { s with heap:=hp1 } (.ref z) "zip":=⟨_,hz1,rfl⟩
 unfold Builtin.List.listExtendWith
 refine wpAny_bind (wpAny_typeOf hT1 ?_)
 have g1:Builtin.List.listSameRef (.ref S) (.ref z) = false:=by simp [Builtin.List.listSameRef,nz.symm]
 have g2:(Value.type "zip" == Value.type "list") = false:=by decide
 have g3:(Value.type "zip" == Value.type "tuple") = false:=by decide
 simp only [g1,g2,g3,Bool.or_false,Bool.false_eq_true,if_false]
 refine wpAny_bind (wpAny_pyIter_zip hz1 ?_)
 refine wpAny_bind (wpAny_holding ?_)
 unfold Builtin.List.listLengthHint
 refine wpAny_bind (wpAny_specialOf hT1 c1h ?_)
 show wpAny _ _ (specialOf (Value.ref z) (Str.ofString "__length_hint__") >>= _) _ _ _
 refine wpAny_bind (wpAny_specialOf hT1 b8z ?_)
 refine wpAny_pure ?_
 show wpAny _ _ (rule "list.extend.makes-room" >>= fun _=>Builtin.List.listTouch (.ref S) >>= fun _=>
  again (.builtin "list.extend.loop" ⟨[.ref S,.ref z,.none],[]⟩)) _ _ _
 refine wpAny_bind (wpAny_rule ?_)
 refine wpAny_bind ?_
 show wpAny _ _ (updateSeq S (·.push .none) >>= fun _=>updateSeq S (·.pop)) _ _ _
 refine wpAny_bind (wpAny_updateSeq hS₁ rfl ?_)
 have hS₂:=Heap.get?_update_self (Obj.mapSeq (·.push Value.none)) hS₁ rfl
 refine wpAny_updateSeq (hz:=by seq_fits) hS₂ rfl ?_
 have hS₃:=Heap.get?_update_self (Obj.mapSeq (·.pop)) hS₂ rfl
 have k3:∀ b o,b ≠ S->s.heap.get? b = some o->((hp1.update S (Obj.mapSeq (·.push Value.none))).update S (Obj.mapSeq (·.pop))).get? b = some o:=
  fun b o hb e=>(Heap.get?_update_other _ _ (Ne.symm hb)).trans ((Heap.get?_update_other _ _ (Ne.symm hb)).trans (k1 b o hb e))
 refine wpAny_pure ⟨plainId_quiet F.plain_extend_loop _,?_⟩
 have keepS:∀ b o,s.heap.get? b = some o->((hp1.update S (Obj.mapSeq (·.push Value.none))).update S (Obj.mapSeq (·.pop))).get? b = some o:=fun b o e=>k3 b o (fun q=>by have:=Heap.lt_size e; rw [q,hSS] at this; exact Nat.lt_irrefl _ this) e
 have I1:Inv X pins σ (upd H S (.lst [])) { s with heap:=((hp1.update S (Obj.mapSeq (·.push Value.none))).update S (Obj.mapSeq (·.pop))) }:=I.laid (t':=s.toks) (a:=S) (o:=.lst []) keepS (by rw [hSS]; exact Nat.le_refl _) ⟨Nat.zero_le _,[],_,.nil,hS₃⟩
 have sm:Same H (upd H S (.lst [])):=fun b o e=>by rw [a0j (a0t e fr)]; exact e
 refine c6k (A:=A.in1) (X:=X) (pins:=pins) (σ:=σ) (H0:=H) (xs:=xs) (ys:=ys) hh D ltS hlen fr .none (fun s' H' qs I' sm' hS' hl' pr'=>⟨rfl,h s' H' S qs fr I' sm' hS' hl' pr'⟩) xs.length 0 _ _ [] (by omega) (Nat.zero_le _) I1 (sm.tup hq1) (sm.tup hq2) ⟨.inl ⟨k3 _ _ nz hz,_,_,k3 _ _ (Nat.ne_of_lt (ltS TO (by simp))) hTO⟩,k3 _ _ (Nat.ne_of_lt (ltS TI (by simp))) hTI,h1.at fun o e=>k3 _ o (Nat.ne_of_lt (ltS i1 (by simp))) e,h2.at fun o e=>k3 _ o (Nat.ne_of_lt (ltS i2 (by simp))) e⟩ (fun b hb=>⟨by rw [a0j (Nat.ne_of_lt (ltS b hb))]; exact (hf b hb).1,(hf b hb).2⟩) sm a0b rfl (fun j q x y g _ _=>by simp at g)
end
section
variable {X:Cx}
noncomputable def b7f (K:W.Frag) (ta:TA):TE:=fun σ H Q=>ta σ H fun vs H1=>∃ a b xs ys,vs = [.ref a,.ref b]/\SqT K H1 a xs/\SqT K H1 b ys/\ys.length = xs.length/\∀ p H2 qs,H1 p = none->Same H1 H2->H2 p = some (.lst (qs.map V.ref))->qs.length = xs.length->a8j H2 qs xs ys->Q (.ref p) H2
theorem c1j (K:W.Frag) (hK:X.K = K) (hc:X.calm = true) {a b:Expr} {ta:TA} {p1 p2 pos1 pos2:Pos} (hg:Gl X "list") (hm:X.mg "list" = none) (hg2:Gl X "zip") (hm2:X.mg "zip" = none) (ha:PA X [a,b] ta)
  (hs:starEach (a :: [b]) X.env = (false,eval a X.env) :: starEach [b] X.env:=by rfl) (hpl:(backTo pos2 (starEach [b] X.env)).any (·.1) = false:=by rfl)
  (hs1:starEach [Expr.Call (.Name "zip" p2) [a,b] [] pos2] X.env = [(false,eval (.Call (.Name "zip" p2) [a,b] [] pos2) X.env)]:=by rfl) :
  PE X (.Call (.Name "list" p1) [.Call (.Name "zip" p2) [a,b] [] pos2] [] pos1) (b7f K ta):=by
 subst hK
 intro pins s σ H Q I h
 refine Call_ (a7m I hg hm boot_list (PyProof.Rows.callWith_type1 ?_ hs1 rfl))
 rw [hs1]
 show wpAny _ _ (spliced ((false,eval (.Call (.Name "zip" p2) [a,b] [] pos2) X.env) :: backTo pos1 (starEach [] X.env))) _ _ s
 refine Calls.spliced_cons ?_
 refine Call_ (a7m I hg2 hm2 (by decide +kernel:bootBuiltins "zip" = some (.type "zip")) (PyProof.Rows.callWith_type1 (thn (ha pos2 pins s σ H _ I h) fun us s1 ⟨vs,H1,I1,r1,q1⟩=>?_) hs hpl))
 obtain ⟨l,l',xs,ys,e,hq,hq',hlen,q⟩:=q1
 subst e
 obtain ⟨u,u',rfl,r1,r2⟩:=b3d r1
 cases r1
 cases r2
 obtain ⟨its,rv,pl,hz⟩:=I1.tuple hq
 obtain ⟨its',rv',pl',hz'⟩:=I1.tuple hq'
 have tl:s1.heap.IsTuple l its.toArray:=pl
 have tl':s1.heap.IsTuple l' its'.toArray:=pl'
 have hlt:l < s1.heap.objs.size:=by obtain ⟨o,ho,_⟩:=tl; exact Heap.lt_size ho
 have hlt':l' < s1.heap.objs.size:=by obtain ⟨o,ho,_⟩:=tl'; exact Heap.lt_size ho
 refine c4a tl tl' fun h' he hTI hTO hi1 hi2 hsz hk=>?_
 refine Calls.spliced_nil ?_
 have D:ZipApart (s1.heap.objs.size + 4) (s1.heap.objs.size + 2) (s1.heap.objs.size + 3) s1.heap.objs.size (s1.heap.objs.size + 1) l l':=c3w _ _ _ hlt hlt'
 have I2:Inv X pins σ H1 { s1 with heap:=h' }:=I1.kept (t':=s1.toks) hk
 refine b7e (I1.ok.hd hc) D I2 hq hq' hlen he hTI hTO hi1 hi2 (fun b hb=>?_) fun s' H' p qs fr I' sm hp hl pr=>⟨.ref p,H',I',rfl,q p H' qs fr sm hp hl pr⟩
 have hb:s1.heap.objs.size<=b:=by
  simp only [List.mem_cons,List.not_mem_nil,or_false] at hb
  rcases hb with rfl | rfl | rfl | rfl | rfl
  ·exact Nat.le_add_right _ _
  ·exact Nat.le_add_right _ _
  ·exact Nat.le_add_right _ _
  ·exact Nat.le_refl _
  ·exact Nat.le_add_right _ _
 exact I1.fpOk hb (I1.hok.fresh hb)
theorem c1k {K:W.Frag} {σ:St} {H:Hp} {ta:TA} {Q:VK} (k:ta σ H fun vs H1=>∃ a b xs ys,vs = [.ref a,.ref b]/\SqT K H1 a xs/\SqT K H1 b ys/\ys.length = xs.length/\∀ p H2 qs,H1 p = none->Same H1 H2->H2 p = some (.lst (qs.map V.ref))->qs.length = xs.length->a8j H2 qs xs ys->Q (.ref p) H2):b7f K ta σ H Q:=k
noncomputable def mSetd:V->List V->Hp->VK->Prop:=fun x vs H Q=>∃ (a:Addr) (kvs:List (Key × V)) (k:Key) (d:V),x = .ref a/\vs = [kV k,d]/\H a = some (.dK kvs)/\kvs.length < sizeLine/\(∀ v,valV kvs k = some v->Q v H)/\(valV kvs k = none->Q d (upd H a (.dK (putK kvs k d))))
theorem mm_setd:MtR X "dict.setdefault" mSetd:=by
 intro pins s σ H x vs v us Q I rx rv h
 obtain ⟨a,kvs,k,d,rfl,rfl,ha,hz,q1,q2⟩:=h
 cases rx
 obtain ⟨u,u',rfl,r1,r2⟩:=b3d rv
 obtain ⟨z1,d1,vs1,rel,dd⟩:=dk_of I.hok ha
 refine call_meetsIn F.slot_dict_setdefault dd.typeIs F.entry_dict_setdefault (F.args_dict_setdefault_3 _ _ _) (kt_meets_setdefault (a1k X.prog X.w) a (b1q r1) d1 u')
  ⟨vs1,dd,by rw [<- rel.length]; exact z1,fun w' hw=>?_,fun hn h' dd' hs=>?_⟩
 ·have hr:=rel.val k
  rw [hw] at hr
  cases hv:valV kvs k with
  | none=>rw [hv] at hr; cases hr
  | some y=>
   rw [hv] at hr
   obtain ⟨y',e1,r3⟩:=RelO.some_of hr
   cases e1
   exact ⟨y,H,I.tok _,r3,q1 y hv⟩
 ·have hr:=rel.val k
  rw [hn] at hr
  cases hv:valV kvs k with
  | some y=>rw [hv] at hr; obtain ⟨_,e1,_⟩:=RelO.some_of hr; cases e1
  | none=>
   refine ⟨d,_,?_,r2,q2 hv⟩
   have hl:(putK kvs k d).length<=sizeLine:=by have:=a9f kvs k d; omega
   have he:∃ q,h'.get? a = some q:=let ⟨q,_,_,hq,_⟩:=dd'; ⟨q,hq⟩
   exact b4f I (by rw [ha]; exact True.intro) hs he (c3a hl d1 (rel.put k r2) dd')
theorem mSetd_i {a:Addr} {kvs:List (Key × V)} {k:Key} {d y:V} {H:Hp} {Q:VK} (ey:y = kV k) (ha:H a = some (.dK kvs)) (hz:kvs.length < sizeLine) (q1:∀ v,valV kvs k = some v->Q v H) (q2:valV kvs k = none->Q d (upd H a (.dK (putK kvs k d)))):mSetd (.ref a) [y,d] H Q:=⟨a,kvs,k,d,rfl,by rw [ey],ha,hz,q1,q2⟩
noncomputable def mNeKs (K:W.Frag):R2:=fun x y H Q=>∃ (p:Addr) (k1:List Key),x = .ref p/\SqT K H p (k1.map kV)/\((y = .non/\Q (.bl true) H)\/∃ (q:Addr) (k2:List Key),y = .ref q/\SqT K H q (k2.map kV)/\Q (.bl (!decide (k1 = k2))) H)
theorem ko_neKs (K:W.Frag) (hK:X.K = K) (hu:X.A.units + 150 < cLine):OpR X (compareOp .NotEq) (mNeKs K):=by
 subst hK
 intro pins s σ H x y v u Q I rx ry h
 obtain ⟨p,k1,rfl,hp,h⟩:=h
 cases rx
 obtain ⟨its,rv,p1,_⟩:=I.tuple hp
 rcases h with ⟨rfl,k⟩ | ⟨q,k2,rfl,hq,k⟩
 ·cases ry
  exact SeqAt.RcNeAt.tuple_none (show s.heap.IsTuple p its.toArray from p1) (by omega) X.prog X.w _ _ ⟨.bl true,H,I,rfl,k⟩
 cases ry
 obtain ⟨its',rv',p2,_⟩:=I.tuple hq
 have l1:=rv.length
 have l2:=rv'.length
 rw [List.length_map] at l1 l2
 refine SeqAt.RcNeAt.tuples (e:=fun j=>decide (k1[j]? = k2[j]?)) (show s.heap.IsTuple p its.toArray from p1) (show s.heap.IsTuple q its'.toArray from p2) (by omega) (fun j h1 h2=>?_) X.prog X.w _ _ ?_
 ·have g1:j < its.length:=by simpa using h1
  have g2:j < its'.length:=by simpa using h2
  have j1:j < k1.length:=by omega
  have j2:j < k2.length:=by omega
  obtain ⟨w1,y1,z1⟩:=rv.get (show (k1.map kV)[j]? = some (kV k1[j]) by rw [List.getElem?_map,List.getElem?_eq_getElem j1]; rfl)
  obtain ⟨w2,y2,z2⟩:=rv'.get (show (k2.map kV)[j]? = some (kV k2[j]) by rw [List.getElem?_map,List.getElem?_eq_getElem j2]; rfl)
  have q1:its.toArray[j] = w1:=by
   have:=List.getElem?_eq_getElem g1
   rw [y1] at this
   simpa using (Option.some.inj this).symm
  have q2:its'.toArray[j] = w2:=by
   have:=List.getElem?_eq_getElem g2
   rw [y2] at this
   simpa using (Option.some.inj this).symm
  rw [q1,q2]
  have e0:decide (k1[j]? = k2[j]?) = decide (k1[j] = k2[j]):=by rw [List.getElem?_eq_getElem j1,List.getElem?_eq_getElem j2]; exact decide_eq_decide.mpr ⟨fun h=>Option.some.inj h,fun h=>by rw [h]⟩
  rw [e0]
  exact a1o z1 z2
 ·rw [List.size_toArray,List.size_toArray,<- l1,<- l2,all_eq]
  exact ⟨.bl _,H,I,rfl,k⟩
end
noncomputable def Itd (a:Addr) (o:Obj) (kvs:List (Key × V)):It:=⟨fun i H=>i < kvs.length/\H a = some (.frz o (.dK kvs)),fun i H x H'=>H' = H/\∃ k v,kvs[i]? = some (k,v)/\x = kV k,fun i H=>i = kvs.length/\H a = some (.frz o (.dK kvs))⟩
theorem c0e {P:Program} {w:World} {H:Hp} {h:Heap} {a:Addr} {o:Obj} {kvs:List (Key × V)} {es:Array DictEntry} {ep:Nat} (hd:o.data = .dict es ep) (hok:a1m P w H h a (.frz o (.dK kvs))) :
  RawD h a es ep/\es.size = kvs.length/\∀ (i:Nat) (hi:i < es.size),∃ k v,kvs[i]? = some (k,v)/\RelV (kV k) es[i].key:=by
 obtain ⟨ho,z,lo,vs,rel,dd⟩:=hok
 obtain ⟨ep',o',es',ho',hx,hd',hk,hpr,hn⟩:=dd.dictAt
 rw [ho] at ho'
 cases ho'
 rw [hd] at hd'
 cases hd'
 have hsz:es.size = vs.length:=by rw [<- hpr.length]; simp
 have hlx:=rel.length
 refine ⟨⟨o,ho,hx,hd⟩,by omega,fun i hi=>?_⟩
 obtain ⟨p,hp⟩:∃ p,vs[i]? = some p:=⟨vs[i]'(by omega),List.getElem?_eq_getElem (by omega)⟩
 obtain ⟨h1,h2⟩:=hpr.get? (e:=es[i]) (by simp [hi]) hp
 obtain ⟨kv,h3,h4,h5⟩:=b2j rel i p hp
 refine ⟨kv.1,kv.2,h3,?_⟩
 rw [h4]
 exact kV_rel h1
theorem c4b {P:Program} {w:World} {K:W.Frag} {tg:Expr} (a it:Addr) (o:Obj) (kvs:List (Key × V)) (es:Array DictEntry) (ep:Nat) (hd:o.data = .dict es ep):Turn P w K tg (Itd a o kvs) [it] it (fun i h=>h.IsKeyIter it a i es.size ep) where
 mem:=by simp
 obj:=fun i h st b hb=>by
  have e:b = it:=by simpa using hb
  subst e
  obtain ⟨o,e,c,d⟩:=st
  exact ⟨o,e,fun v z=>by rw [d] at z; cases z⟩
 keep:=fun i h h' st k=>by
  obtain ⟨o,e,c⟩:=st
  exact ⟨o,k it (by simp) o e,c⟩
 item:=by
  intro X hP hw hK hc i pins s σ H E I hf st hg
  subst hP hw hK
  obtain ⟨hi,hH⟩:=hg
  obtain ⟨raw,hsz,hget⟩:=c0e hd (I.hok a _ hH)
  obtain ⟨f0,f1,f2,f3,f4,f5⟩:=hf it (by simp)
  obtain ⟨k,v,h1,h2⟩:=hget i (by omega)
  refine b6u st raw (by omega) fun h' st' sb=>?_
  have I1:Inv X pins σ H { s with heap:=h' }:=I.turned (t':=s.toks) (fun b o hb e=>(sb.2 b hb).trans e) f0 f1 f3 f4 f5
  obtain ⟨o2,e,c,d⟩:=id st'
  exact ⟨_,rfl,b5u (s:={ s with heap:=h' }) e c d (by decide) ⟨kV k,H,I1,h2,⟨rfl,k,v,h1,rfl⟩,st',fun b hb=>(hf b hb).1⟩⟩
 done:=by
  intro X hP hw hK hc i pins s σ H E I hf st hg
  subst hP hw hK
  obtain ⟨f0,f1,f2,f3,f4,f5⟩:=hf it (by simp)
  obtain ⟨hi,hH⟩:=hg
  obtain ⟨raw,hsz,hget⟩:=c0e hd (I.hok a _ hH)
  rw [hi,<- hsz] at st
  exact b8y (I.ok.hd hc) st raw fun h' eb=>⟨rfl,I.turned (t':=s.toks) (fun b o hb e=>eb b o hb e) f0 f1 f3 f4 f5⟩
 self:=fun _ _ _ _ _ st h=>wpAny_pyIter_keyiter st h
theorem b0h {a:Addr} {o:Obj} {kvs:List (Key × V)}:Row (Itd a o kvs) kvs.length (fun i=>((kvs[i]?).map fun p=>kV p.1).getD .non) (fun H=>H a = some (.frz o (.dK kvs))):=⟨fun i H h q=>⟨h,q⟩,fun i H v H' hi q h=>by
 obtain ⟨e,k,x,h1,h2⟩:=h
 refine ⟨e,?_⟩
 rw [h1,h2]
 rfl,fun H q=>⟨rfl,q⟩⟩
section
variable {X:Cx} {tg:Expr}
noncomputable def NFz (X:Cx) (a:Addr):Prop:=∀ o u,X.H₀ a ≠ some (.frz o u)
noncomputable def iDict (NF:Addr->Prop) (tl:TE):TI:=fun σ H R=>tl σ H fun x H1=>∃ a kvs,x = .ref a/\H1 a = some (.dK kvs)/\∀ o,NF a->R (Itd a o kvs) (upd H1 a (.frz o (.dK kvs)))
theorem b1x {l:Expr} {tl:TE} (hl:PE X l tl):PI X tg l (iDict (NFz X) tl):=by
 intro pins s σ H R I h
 refine thn (hl pins s σ H _ I h) fun u s1 ⟨x,H1,I1,r1,a,kvs,ex,ha,q⟩=>?_
 subst ex
 cases r1
 obtain ⟨z,lo,vs,rel,dd⟩:=dk_of I1.hok ha
 obtain ⟨ep,o,es,ho,hx,hd,hk,hpr,hn⟩:=dd.dictAt
 have nf:NFz X a:=fun o' u' e=>by
  have:=I1.base.frzs a o' u' e
  rw [ha] at this
  cases this
 have I2:Inv X pins σ (upd H1 a (.frz o (.dK kvs))) s1:=I1.write (t':=s1.toks) (h':=s1.heap) (x:=a) (e:=a) (by rw [ha]; exact True.intro) (.inl rfl) (fun b q hb e=>e) ⟨o,ho⟩ ⟨ho,z,lo,vs,rel,dd⟩
 refine c6h lo ⟨o,ho,hx,hd⟩ ?_
 refine ⟨s1.heap.objs.size,[s1.heap.objs.size],_,_,_,rfl,I2.kept (t':=s1.toks) fun b q e=>Heap.get?_push_of_some _ e,c4b a _ o kvs es ep hd,⟨_,Heap.get?_push_size _ rfl,rfl,rfl⟩,fun b hb=>?_,q o nf⟩
 have e:b = s1.heap.objs.size:=by simpa using hb
 subst e
 exact I2.fpOk (Nat.le_refl _) (I2.hok.fresh (Nat.le_refl _))
theorem Inv.thaw {pins:List (Addr × Obj)} {σ:St} {H:Hp} {s:Shared} {a:Addr} {o:Obj} {kvs:List (Key × V)} (I:Inv X pins σ H s) (nf:NFz X a) (hH:H a = some (.frz o (.dK kvs))):Inv X pins σ (upd H a (.dK kvs)) s:=by
 have ne0:∀ b,H b = none->b ≠ a:=fun b h z=>by rw [z,hH] at h; cases h
 have ne1:∀ b u,H b = some u->(∀ o' u',u ≠ .frz o' u')->b ≠ a:=fun b u h n z=>by
  rw [z,hH] at h
  exact n _ _ (Option.some.inj h).symm
 have hok:=I.hok
 refine { I with base:=⟨I.base.keep,I.base.slot,fun b o' g h e=>?_,I.base.there,fun b xs e=>?_,fun b o' u e=>?_,fun b ps e=>?_⟩,free:=?_,freeC:=fun x c e=>?_,pin:=fun p hp=>?_,hok:=fun b u e=>?_ }
 ·have:=I.base.free b o' g h e
  rw [a0j (ne0 b this)]
  exact this
 ·have:=I.base.tups b xs e
  rw [a0j (ne1 b _ this (fun _ _ z=>by cases z))]
  exact this
 ·have:=I.base.frzs b o' u e
  have nb:b ≠ a:=fun z=>by subst z; exact nf o' u e
  rw [a0j nb]
  exact this
 ·obtain ⟨more,this⟩:=I.base.tbls b ps e
  refine ⟨more,?_⟩
  rw [a0j (ne1 b _ this (fun _ _ z=>by cases z))]
  exact this
 ·rw [a0j (ne0 _ I.free)]
  exact I.free
 ·have:=I.freeC x c e
  rw [a0j (ne0 _ this)]
  exact this
 ·obtain ⟨h1,h2,h3⟩:=I.pin p hp
  refine ⟨h1,?_,h3⟩
  rw [a0j (ne0 _ h2)]
  exact h2
 ·by_cases hb:b = a
  ·subst hb
   rw [a0b] at e
   cases e
   exact (hok b _ hH).2
  ·rw [a0j hb] at e
   refine (hok b u e).stay (fun c v _ q=>q) (fun c q=>?_) fun c xs q=>?_
   ·rw [a0j (ne1 c _ q (fun _ _ z=>by cases z))]; exact q
   ·rw [a0j (ne1 c _ q (fun _ _ z=>by cases z))]; exact q
end
section
variable {X:Cx}
end
theorem c1l:typeLookup (.type "list_reverseiterator") "__len__" = pure none:=by rw [typeLookup_type,builtinLookup_eq_fast]; kernel_rfl
theorem c6l:typeLookup (.type "list_reverseiterator") "__length_hint__" = pure (some (.builtin "list_reverseiterator.__length_hint__")):=by rw [typeLookup_type,builtinLookup_eq_fast]; kernel_rfl
theorem c4c:typeLookup (.type "reversed") "__len__" = pure none:=by rw [typeLookup_type,builtinLookup_eq_fast]; kernel_rfl
theorem b2v:Manifest.owners.lookup (String.ofList ['d','e','s','r','e','v','e','r'].reverse) = some Manifest.sig_reversed:=by kernel_rfl
theorem a5e:Slot "reversed" "__next__" "reversed.__next__":=
 .of (owner:="reversed") (n:="__next__") (by rw [typeLookup_type,builtinLookup_eq_fast]; kernel_rfl) (by decide +kernel) (by decide +kernel) (by decide +kernel)
  (by first | exact .inl (by decide +kernel) | exact .inr (by decide +kernel)) (by rw [isSubtype_type]; kernel_rfl)
theorem b0u:entryFor table "reversed.__next__" = some Builtin.«reversed.__next__»:=entryFor_of_tree (by kernel_rfl)
theorem a9w (a:Value):argsOk "reversed.__next__" ⟨[a],[]⟩:=by
 unfold argsOk; rw [signature?_of (id:="reversed.__next__") (n:=['_','_','t','x','e','n','_','_']) (o:=['d','e','s','r','e','v','e','r']) (by kernel_rfl) b2v]; kernel_rfl
theorem b1c:Slot "reversed" "__iter__" "reversed.__iter__":=
 .of (owner:="reversed") (n:="__iter__") (by rw [typeLookup_type,builtinLookup_eq_fast]; kernel_rfl) (by decide +kernel) (by decide +kernel) (by decide +kernel)
  (by first | exact .inl (by decide +kernel) | exact .inr (by decide +kernel)) (by rw [isSubtype_type]; kernel_rfl)
theorem b4j (a:Value):argsOk "reversed.__iter__" ⟨[a],[]⟩:=by
 unfold argsOk; rw [signature?_of (id:="reversed.__iter__") (n:=['_','_','r','e','t','i','_','_']) (o:=['d','e','s','r','e','v','e','r']) (by kernel_rfl) b2v]; kernel_rfl
theorem b5p:entryFor table "reversed.__iter__" = some Builtin.«dict_keyiterator.__iter__»:=
 entryFor_alias (id':="dict_keyiterator.__iter__") (by kernel_rfl) (by first | rfl | decide +kernel | (unfold String.splitOn; simp +decide [String.splitOnAux])) (by decide +kernel) (by kernel_rfl)
theorem a8v:Slot "reversed" "__length_hint__" "reversed.__length_hint__":=
 .of (owner:="reversed") (n:="__length_hint__") (by rw [typeLookup_type,builtinLookup_eq_fast]; kernel_rfl) (by decide +kernel) (by decide +kernel) (by decide +kernel)
  (by first | exact .inl (by decide +kernel) | exact .inr (by decide +kernel)) (by rw [isSubtype_type]; kernel_rfl)
theorem b5q:entryFor table "reversed.__length_hint__" = some Builtin.«reversed.__length_hint__»:=entryFor_of_tree (by kernel_rfl)
theorem b4k (a:Value):argsOk "reversed.__length_hint__" ⟨[a],[]⟩:=by
 unfold argsOk; rw [signature?_of (id:="reversed.__length_hint__") (n:="__length_hint__".toList.reverse) (o:=['d','e','s','r','e','v','e','r']) (by kernel_rfl) b2v]; kernel_rfl
theorem b7g:Slot "reversed" "__init__" "object.__init__":=
 .of (owner:="object") (n:="__init__") (by rw [typeLookup_type,builtinLookup_eq_fast]; kernel_rfl) (by decide +kernel) (by decide +kernel) (by decide +kernel)
  (by first | exact .inl (by decide +kernel) | exact .inr (by decide +kernel)) (by rw [isSubtype_type]; kernel_rfl)
theorem c4d:TypeCalled "reversed" "reversed.__new__" "object.__init__":=
 ⟨by decide +kernel,by decide +kernel,⟨_,_,F.mro_reversed⟩,madeBy_type F.mro_reversed F.lookup_reversed_new (by decide +kernel),by decide +kernel,by rw [isSubtype_type]; kernel_rfl,b7g⟩
theorem c1m:typeLookup (.type "tuple") "__reversed__" = pure none:=by rw [typeLookup_type,builtinLookup_eq_fast]; kernel_rfl
noncomputable def IsRv (h:Heap) (a t:Addr) (i:Int):Prop:=∃ o,h.get? a = some o/\o.cls = .type "reversed"/\o.data = .fields #[.ref t,rawInt i]
theorem IsRv.typeIs {s:Shared} {a t:Addr} {i:Int} (x:IsRv s.heap a t i):s.TypeIs (.ref a) "reversed":=let ⟨o,ho,hc,_⟩:=x; ⟨o,ho,hc⟩
theorem IsRv.at {h h':Heap} {a l:Addr} {i:Int} (x:IsRv h a l i) (e:∀ o,h.get? a = some o->h'.get? a = some o):IsRv h' a l i:=let ⟨o,ho,r⟩:=x; ⟨o,e _ ho,r⟩
noncomputable def b3o (t:Addr) (i:Int):Obj:={ cls:=.type "reversed",data:=.fields #[.ref t,rawInt i] }
theorem c4e (t:Addr) (items:Array Value) (hn:(items.size:Int) < 2 ^ 63) :
  Meets (Builtin.«reversed.__new__» ⟨[.type "reversed",.ref t],[]⟩) (fun _ R s=>IsTup s.heap t items/\∀ tk,R (.ok (.ret (.ref s.heap.objs.size))) { s with heap:=s.heap.push (b3o t ((items.size:Int) - 1)),toks:=tk }):=
 .of_wp fun prog w A R s h=>by
  obtain ⟨ht,h⟩:=h
  unfold Builtin.«reversed.__new__»
  refine wpAny_bind (wpAny_of_eq (newClass_reversed _) ?_)
  try dsimp only
  refine wpAny_bind (wpAny_of_eq (a:=()) (by first | rfl | kernel_rfl) ?_)
  refine wpAny_bind (wpAny_of_eq (a:=()) (by first | rfl | kernel_rfl) ?_)
  try dsimp only
  refine wpAny_bind (wpAny_specialOf ht.typeIs c1m ?_)
  try dsimp only
  refine wpAny_bind ?_
  show wpAny _ _ (isInstance (Value.ref t) (.type "dict") >>= _) _ _ _
  refine wpAny_bind (wpAny_isInstance (T:="tuple") (b:=false) ht.typeIs (by rw [isSubtype_type]; kernel_rfl) ?_)
  refine wpAny_ite_split (fun hab=>absurd hab (by decide)) (fun _=>?_)
  refine wpAny_bind (wpAny_specialOf ht.typeIs slot_tuple_getitem.lookup ?_)
  refine wpAny_ite_split (fun _=>?_) (fun hab=>absurd (by decide +kernel) hab)
  refine wpAny_pure ?_
  refine wpAny_ite_split (fun hab=>absurd hab (by decide)) (fun _=>?_)
  refine wpAny_bind (len_tuple ht hn ?_)
  refine wpAny_bind (m:=asInt? _) (wpAny_pure ?_)
  refine wpAny_bind ?_
  show wpAny _ _ (newObj (.type "reversed") (.fields #[.ref t,rawInt ((items.size:Int) - 1)])) _ _ _
  refine wpAny_newObj_type (wpAny_pure ⟨_,rfl,?_⟩)
  exact h _
section
variable {prog:Program} {w:World} {A:Around} {E:Value->Shared->Prop} {s:Shared}
theorem b2f {t:Addr} {items:Array Value} {Q:Value->Shared->Prop} (ht:IsTup s.heap t items) (hn:(items.size:Int) < 2 ^ 63)
  (h:∀ tk,Q (.ref s.heap.objs.size) { s with heap:=s.heap.push (b3o t ((items.size:Int) - 1)),toks:=tk }):wpAny (model prog w) A (call (.type "reversed") [.ref t]) Q E s:=by
 refine callType_new c4d (by decide) (F.typeCall_reversed_1 _) (F.newCall_reversed_1 _) (fun obj=>F.args_object_init_2 obj _) F.entry_reversed_new (c4e t items hn) ⟨ht,fun tk=>?_⟩
 exact ⟨⟨_,Heap.get?_push_size _ rfl,rfl⟩,h tk⟩
theorem b7h {it t:Addr} {i:Nat} {items:Array Value} {x:Value} {Q:Option Value->Shared->Prop} (hit:IsRv s.heap it t (i:Int)) (ht:IsTup s.heap t items) (hi:(i:Int) < 2 ^ 63) (hx:items[i]? = some x)
  (hQ:∀ h' tk,IsRv h' it t ((i:Int) - 1)->Heap.SameBut it s.heap h'->Q (some x) { s with heap:=h',toks:=tk }):wpAny (model prog w) A (pyNext (.ref it)) Q E s:=by
 obtain ⟨o,ho,hc,hd⟩:=id hit
 unfold pyNext
 refine wpAny_bind (wpAny_attempt (wpAny_callSpecial?_slot (name:=Str.ofString "__next__") hit.typeIs a5e
  (wpAny_call_entry a5e hit.typeIs b0u ?_ (a9w _))))
 unfold Builtin.«reversed.__next__»
 refine wpAny_bind (wpAny_of_eq (a:=(Value.ref it,[])) rfl ?_)
 try dsimp only
 refine wpAny_bind (wpAny_field ho hd (x:=.ref t) rfl ?_)
 refine wpAny_bind (wpAny_field ho hd (x:=rawInt (i:Int)) rfl ?_)
 show wpAny _ _ (if (i:Int) < 0 then _ else _) _ _ s
 rw [if_neg (by omega)]
 refine wpAny_bind (wpAny_specialOf ht.typeIs slot_tuple_getitem.lookup ?_)
 refine wpAny_ite_split (fun hab=>absurd hab (by decide)) (fun _=>?_)
 refine wpAny_bind (wpAny_mkInt ?_)
 have hlt:i < items.size:=by
  rcases Nat.lt_or_ge i items.size with z | z
  ·exact z
  ·rw [Array.getElem?_eq_none z] at hx; cases hx
 have hj:seqIndex? (i:Int) items.size = some i:=by
  unfold seqIndex?
  simp
  omega
 refine wpAny_bind (wpAny_attempt (getItem_tuple (s:={ s with toks:=s.toks + 1 }) (j:=i) ht (by omega) hi hj hx ?_))
 refine wpAny_bind (wpAny_field ho hd (x:=rawInt (i:Int)) rfl ?_)
 show wpAny _ _ (setField (.ref it) 1 (rawInt ((i:Int) - 1)) >>= fun _=>ret x) _ _ _
 refine wpAny_bind (wpAny_setField ho hd (by simp) ?_)
 refine wpAny_pure ⟨x,rfl,wpAny_pure (hQ _ _ ?_ (Heap.SameBut.update ..))⟩
 exact ⟨_,Heap.get?_update_self _ ho (Obj.isFreed_of_fields (Obj.data_mapFields hd _)),(Obj.cls_mapFields ..).trans hc,by
  rw [Obj.data_mapFields hd]; simp⟩
theorem b9a {it t:Addr} {Q:Option Value->Shared->Prop} (hh:A.handled = none) (hit:IsRv s.heap it t (-1))
  (hQ:∀ h',Heap.ExtBut it s.heap h'->Q none { s with heap:=h' }):wpAny (model prog w) A (pyNext (.ref it)) Q E s:=by
 obtain ⟨o,ho,hc,hd⟩:=id hit
 unfold pyNext
 refine wpAny_bind (wpAny_attempt (wpAny_callSpecial?_slot (name:=Str.ofString "__next__") hit.typeIs a5e
  (wpAny_call_entry a5e hit.typeIs b0u ?_ (a9w _))))
 unfold Builtin.«reversed.__next__»
 refine wpAny_bind (wpAny_of_eq (a:=(Value.ref it,[])) rfl ?_)
 try dsimp only
 refine wpAny_bind (wpAny_field ho hd (x:=.ref t) rfl ?_)
 refine wpAny_bind (wpAny_field ho hd (x:=rawInt (-1)) rfl ?_)
 show wpAny _ _ (if (-1:Int) < 0 then _ else _) _ _ s
 rw [if_pos (by decide)]
 refine wpAny_bind (wpAny_rule ?_)
 refine wpAny_bind ?_
 show wpAny _ _ (setField (.ref it) 1 (rawInt (-1)) >>= fun _=>setField (.ref it) 0 .none) _ _ _
 refine wpAny_bind (wpAny_setField ho hd (by simp) ?_)
 have ho1:=Heap.get?_update_self (Obj.mapFields (·.setIfInBounds 1 (rawInt (-1)))) ho (Obj.isFreed_of_fields (Obj.data_mapFields hd _))
 have hd1:(Obj.mapFields (fun x=>x.setIfInBounds 1 (rawInt (-1))) o).data = .fields #[.ref t,rawInt (-1)]:=by rw [Obj.data_mapFields hd]; simp
 refine wpAny_setField ho1 hd1 (by simp) ?_
 refine wpAny_bind ?_
 show wpAny _ _ (newExc (.type "StopIteration") [] >>= _) _ _ _
 refine wpAny_bind ?_
 simp only [newExc,newTuple]
 refine wpAny_bind (wpAny_newObj_type ?_ (by size_fits))
 refine wpAny_bind (m:=firstArgMember _ _) (wpAny_of_eq (a:=Value.none) (by first | rfl | (simp only [firstArgMember]; rfl)) ?_)
 refine wpAny_newObj_type ?_ (by size_fits)
 simp only [raiseNew]
 refine wpAny_bind (wpAny_handled ?_)
 first | rw [show A.in1.handled = none from hh] | rw [hh]
 refine wpAny_bind (wpAny_pure (wpAny_throw ?_))
 refine wpAny_bind (wpAny_isInstance (T:="StopIteration") (b:=true) ⟨_,Heap.get?_push_size _ rfl,rfl⟩ isSubtype_stop ?_)
 refine wpAny_pure (hQ _ (fun b u hb e=>?_))
 exact Heap.get?_push_of_some _ (Heap.get?_push_of_some _ ((Heap.get?_update_other _ _ (Ne.symm hb)).trans ((Heap.get?_update_other _ _ (Ne.symm hb)).trans e)))
theorem iter_rv {it t:Addr} {i:Int} {Q:Value->Shared->Prop} (hit:IsRv s.heap it t i) (h:Q (.ref it) s):wpAny (model prog w) A (pyIter (.ref it)) Q E s:=by
 refine wpAny_pyIter_slot hit.typeIs b1c (wpAny_call_entry b1c hit.typeIs b5p ?_ (b4j _))
 show wpAny _ _ (ret (.ref it)) _ _ s
 exact wpAny_pure ⟨_,rfl,"reversed",_,hit.typeIs,a5e.lookup,h⟩
theorem c6m {r:Addr} {Q:Bool->Shared->Prop} (hT:s.TypeIs (.ref r) "list_reverseiterator") (h:Q false s):wpAny (model prog w) A (Builtin.List.listLengthHint (.ref r)) Q E s:=by
 unfold Builtin.List.listLengthHint
 refine wpAny_bind (wpAny_specialOf hT c1l ?_)
 show wpAny _ _ (specialOf (Value.ref r) (Str.ofString "__length_hint__") >>= _) _ _ _
 refine wpAny_bind (wpAny_specialOf hT c6l ?_)
 generalize hid:("list_reverseiterator.__length_hint__" : String) = id0
 wp_delta
 rw [show splitId id0 = some ("list_reverseiterator","__length_hint__") from by subst hid; decide +kernel]
 subst hid
 refine wpAny_bind (wpAny_isInstance (T:="list_reverseiterator") (b:=true) hT (by rw [isSubtype_type]; kernel_rfl) ?_)
 refine wpAny_ite_split (fun hab=>absurd hab (by decide)) (fun _=>?_)
 refine wpAny_ite_split (fun _=>?_) (fun hab=>absurd (by decide +kernel) hab)
 refine wpAny_ite_split (fun hab=>absurd hab (by decide +kernel)) (fun _=>?_)
 exact wpAny_pure h
theorem hint_rv {r t:Addr} {i:Int} {items:Array Value} {Q:Bool->Shared->Prop} (hit:IsRv s.heap r t i) (ht:IsTup s.heap t items) (hi:i = (items.size:Int) - 1) (hn:items.size<=2 ^ 24) (h:∀ b tk,Q b { s with toks:=tk }):wpAny (model prog w) A (Builtin.List.listLengthHint (.ref r)) Q E s:=by
 have hT:=hit.typeIs
 obtain ⟨o,ho,hc,hd⟩:=id hit
 unfold Builtin.List.listLengthHint
 refine wpAny_bind (wpAny_specialOf hT c4c ?_)
 show wpAny _ _ (specialOf (Value.ref r) (Str.ofString "__length_hint__") >>= _) _ _ _
 refine wpAny_bind (wpAny_specialOf hT a8v.lookup ?_)
 generalize hid:("reversed.__length_hint__" : String) = id0
 wp_delta
 rw [show splitId id0 = some ("reversed","__length_hint__") from by subst hid; decide +kernel]
 subst hid
 refine wpAny_bind (wpAny_isInstance (T:="reversed") (b:=true) hT (by rw [isSubtype_type]; kernel_rfl) ?_)
 refine wpAny_ite_split (fun hab=>absurd hab (by decide)) (fun _=>?_)
 refine wpAny_ite_split (fun hab=>absurd hab (by decide +kernel)) (fun _=>?_)
 refine wpAny_bind (wpAny_rule ?_)
 refine wpAny_bind (wpAny_of_eq (a8v.bind _) ?_)
 refine wpAny_bind (wpAny_attempt (wpAny_call_entry a8v hT b5q ?_ (b4k _)))
 unfold Builtin.«reversed.__length_hint__»
 refine wpAny_bind (wpAny_of_eq (a:=Value.ref r) rfl ?_)
 refine wpAny_bind (wpAny_field ho hd (x:=.ref t) rfl ?_)
 refine wpAny_ite_split (fun hab=>absurd hab Bool.false_ne_true) (fun _=>?_)
 refine wpAny_bind (len_tuple ht (by omega) ?_)
 refine wpAny_bind (m:=asInt? _) (wpAny_pure ?_)
 refine wpAny_bind (wpAny_field ho hd (x:=rawInt i) rfl ?_)
 show wpAny _ _ (if (items.size:Int) < i + 1 then _ else _) _ _ _
 rw [if_neg (by omega)]
 refine wpAny_bind (wpAny_mkInt (wpAny_pure ⟨_,rfl,?_⟩))
 refine wpAny_bind (m:=asInt? _) (wpAny_pure ?_)
 have e1:Builtin.List.listFitsIndex (i + 1) = true:=by simp [Builtin.List.listFitsIndex]; omega
 have e2:Builtin.List.listTooLong (i + 1).toNat = false:=by simp [Builtin.List.listTooLong,sizeLine_eq]; omega
 refine wpAny_ite_split (fun hab=>absurd hab (by rw [e1]; decide)) (fun _=>?_)
 refine wpAny_ite_split (fun hab=>absurd hab (by omega)) (fun _=>?_)
 refine wpAny_ite_split (fun hab=>absurd hab (by rw [e2]; decide)) (fun _=>?_)
 exact wpAny_pure (h _ _)
theorem c6n (hh:A.handled = none) (I t:Addr) (hne:t ≠ I) (items:Array Value) (hn:items.size<=2 ^ 24) :
  Walks prog w A I [I,t] [I] items.size (fun i v=>items[items.size - 1 - i]? = some v) (fun i h=>i<=items.size/\IsRv h I t ((items.size:Int) - 1 - (i:Int))/\IsTup h t items) where
 sub:=fun b hb=>by simp at hb; simp [hb]
 frame:=fun _ _ _ x hk=>⟨x.1,x.2.1.at fun o e=>hk I (by simp) o e,let ⟨o,ho,r⟩:=x.2.2; ⟨o,hk t (by simp) o ho,r⟩⟩
 item:=fun i s Q E hi x hQ=>by
  have e:(items.size:Int) - 1 - (i:Int) = ((items.size - 1 - i:Nat):Int):=by omega
  have hit:=x.2.1
  rw [e] at hit
  have hx:items[items.size - 1 - i]? = some (items[items.size - 1 - i]'(by omega)):=Array.getElem?_eq_getElem (by omega)
  refine b7h hit x.2.2 (by omega) hx fun h' tk hit' hs'=>?_
  have e2:((items.size - 1 - i:Nat):Int) - 1 = (items.size:Int) - 1 - ((i + 1:Nat):Int):=by omega
  rw [e2] at hit'
  exact hQ _ h' tk hx ⟨hi,hit',let ⟨o,ho,r⟩:=x.2.2; ⟨o,(hs'.2 t hne).trans ho,r⟩⟩ fun b o hb eo=>hs'.extBut b o (fun h=>hb (by simp [h])) eo
 done:=fun s Q E x hQ=>by
  have e:(items.size:Int) - 1 - (items.size:Int) = -1:=by omega
  have hit:=x.2.1
  rw [e] at hit
  exact b9a hh hit fun h' he'=>hQ h' s.toks fun b o hb eo=>he' b o (fun h=>hb (by simp [h])) eo
 self:=fun _ _ _ _ x hQ=>iter_rv x.2.1 hQ
theorem b1d {Q:Value->Shared->Prop} {T:String} {I:Addr} {fp wr:List Addr} {n:Nat} {P:Nat->Value->Prop} {St:Nat->Heap->Prop} (W:Walks prog w A.in1.in1 I fp wr n P St) (hn:n<=sizeLine)
  (hT:∀ (s':Shared),St 0 s'.heap->s'.TypeIs (.ref I) T) (h2:(Value.type T == Value.type "list") = false) (h3:(Value.type T == Value.type "tuple") = false)
  (hint:∀ {A':Around} {E':Value->Shared->Prop} (s':Shared) (Q':Bool->Shared->Prop),St 0 s'.heap->(∀ b tk,Q' b { s' with toks:=tk })->wpAny (model prog w) A' (Builtin.List.listLengthHint (.ref I)) Q' E' s')
  (hst:St 0 s.heap) (hfp:∀ b ∈ fp,b < s.heap.objs.size) (hI:I ∈ fp)
  (hQ:∀ h' tk acc' c',(∀ b o,b ∉ wr->s.heap.get? b = some o->h'.get? b = some o) ->
   h'.get? s.heap.objs.size = some { cls:=.type "list",dict:=none,data:=.seq acc' c',slots:=#[] }->ItemsOf P acc' n->Q (.ref s.heap.objs.size) { s with heap:=h',toks:=tk }) :
  wpAny (model prog w) A (call (.type "list") [.ref I]) Q E s:=by
 have hSf:s.heap.objs.size ∉ fp:=fun hm=>Nat.lt_irrefl _ (hfp _ hm)
 have hSI:s.heap.objs.size ≠ I:=fun e=>hSf (e ▸ hI)
 refine callType_codes (Q₁:=fun obj s₁=>obj = .ref s.heap.objs.size/\s₁ = { s with heap:=s.heap.push { cls:=.type "list",data:=.seq #[] } }) F.called_list (F.typeCall_list_1 _) F.entry_list_init
  (code_list_new _ ⟨rfl,rfl⟩) fun obj s₁ h₁=>?_
 obtain ⟨rfl,rfl⟩:=h₁
 have hS:(s.heap.push { cls:=.type "list",data:=.seq #[] }).get? s.heap.objs.size = some { cls:=.type "list",data:=.seq #[] }:=Heap.get?_push_size _ rfl
 refine ⟨⟨_,hS,rfl⟩,F.args_list_init_2 _ _,?_⟩
 generalize hSS:s.heap.objs.size = S at hS hSf hSI hQ ⊢
 show wpAny _ _ (do let old <- Builtin.List.listItems (.ref S); Builtin.List.listUpdate (.ref S) (fun _=>#[]); letGo old.toList.reverse; Builtin.List.listExtendWith (.ref S) (.ref I) .none) _ _ _
 refine wpAny_bind ?_
 unfold Builtin.List.listItems
 refine wpAny_bind (wpAny_seqItems hS rfl (wpAny_pure ?_))
 show wpAny _ _ (updateSeq S (fun _=>#[]) >>= fun _=>letGo (#[]:Array Value).toList.reverse >>= fun _=>Builtin.List.listExtendWith (.ref S) (.ref I) .none) _ _ _
 refine wpAny_bind (wpAny_updateSeq hS rfl ?_)
 have hS₁:=Heap.get?_update_self (Obj.mapSeq (fun _=>(#[]:Array Value))) hS rfl
 have k1:∀ b o,b ≠ S->s.heap.get? b = some o->((s.heap.push { cls:=.type "list",data:=.seq #[] }).update S (Obj.mapSeq (fun _=>(#[]:Array Value)))).get? b = some o:=
  fun b o hb e=>(Heap.get?_update_other _ _ (Ne.symm hb)).trans (Heap.get?_push_of_some _ e)
 refine wpAny_bind (wpAny_letGo ?_)
 generalize ((s.heap.push { cls:=.type "list",data:=.seq #[] }).update S (Obj.mapSeq (fun _=>(#[]:Array Value)))) = hp1 at hS₁ k1 ⊢
 have neS:∀ b ∈ fp,b ≠ S:=fun b hb e=>hSf (e ▸ hb)
 have st1:St 0 hp1:=W.frame 0 _ _ hst fun b hb o e=>k1 b o (neS b hb) e
 unfold Builtin.List.listExtendWith
 refine wpAny_bind (wpAny_typeOf (hT { s with heap:=hp1 } st1) ?_)
 have g1:Builtin.List.listSameRef (.ref S) (.ref I) = false:=by simp [Builtin.List.listSameRef,hSI]
 simp only [g1,h2,h3,Bool.or_false,Bool.false_eq_true,if_false]
 refine wpAny_bind (W.self 0 { s with heap:=hp1 } _ _ st1 ?_)
 refine wpAny_bind (wpAny_holding (hint { s with heap:=hp1 } _ st1 fun b tk=>?_))
 have key:∀ (h:Heap) (c₁:Nat),(∀ b o,b ≠ S->s.heap.get? b = some o->h.get? b = some o)->h.get? S = some { cls:=.type "list",data:=.seq #[] c₁ } ->
   codeAny (model prog w) A.in1 (.builtin "list.extend.loop" ⟨[.ref S,.ref I,.none],[]⟩) (wants (fun r s'=>r = .none/\Q (.ref S) s') E) { s with heap:=h,toks:=tk }:=by
  intro h c₁ hk hS₂
  refine codeAny_extend_loopS W.toS hn S hSf .none n 0 _ #[] c₁ rfl (Nat.zero_le _) (W.frame 0 _ _ hst fun b hb o e=>hk b o (neS b hb) e) hS₂ (ItemsOf.nil _) fun s' acc' c' hm hS' hacc=>?_
  rw [Moved.eq_with hm]
  refine ⟨rfl,hQ s'.heap s'.toks acc' c' (fun b o hb e=>hm.heap b o (fun hmem=>?_) (hk b o (fun z=>?_) e)) hS' hacc⟩
  ·rcases List.mem_cons.mp hmem with e' | hmem
   ·have:=Heap.lt_size e
    rw [e',hSS] at this
    exact Nat.lt_irrefl _ this
   ·exact hb hmem
  ·have:=Heap.lt_size e
   rw [z,hSS] at this
   exact Nat.lt_irrefl _ this
 refine wpAny_ite_split (fun _=>?_) (fun _=>wpAny_pure ⟨plainId_quiet F.plain_extend_loop _,key _ _ k1 hS₁⟩)
 refine wpAny_bind (wpAny_rule ?_)
 refine wpAny_bind ?_
 show wpAny _ _ (updateSeq S (·.push .none) >>= fun _=>updateSeq S (·.pop)) _ _ _
 refine wpAny_bind (wpAny_updateSeq hS₁ rfl ?_)
 have hS₂:=Heap.get?_update_self (Obj.mapSeq (·.push Value.none)) hS₁ rfl
 refine wpAny_updateSeq (hz:=by seq_fits) hS₂ rfl ?_
 have hS₃:=Heap.get?_update_self (Obj.mapSeq (·.pop)) hS₂ rfl
 exact wpAny_pure ⟨plainId_quiet F.plain_extend_loop _,key _ _ (fun b o hb e=>(Heap.get?_update_other _ _ (Ne.symm hb)).trans ((Heap.get?_update_other _ _ (Ne.symm hb)).trans (k1 b o hb e))) hS₃⟩
end
theorem c4f {its:List Value} {acc:Array Value} (h:ItemsOf (fun i v=>its.toArray[its.toArray.size - 1 - i]? = some v) acc its.toArray.size):acc = its.reverse.toArray:=by
 obtain ⟨h1,h2⟩:=h
 apply Array.ext'
 rw [List.toList_toArray]
 apply List.ext_getElem?
 intro j
 have hs:acc.toList.length = its.length:=by rw [Array.length_toList,h1,List.size_toArray]
 by_cases hj:j < its.length
 ·have hj':j < acc.size:=by rw [<- Array.length_toList]; omega
  have e:=h2 j acc[j] (Array.getElem?_eq_getElem hj')
  rw [List.getElem?_reverse hj,Array.getElem?_toList,Array.getElem?_eq_getElem hj']
  rw [List.size_toArray,List.getElem?_toArray] at e
  exact e.symm
 ·rw [List.getElem?_eq_none (by omega),List.getElem?_eq_none (by rw [List.length_reverse]; omega)]
section
variable {X:Cx}
noncomputable def b7i (K:W.Frag) (ta:TA):TE:=fun σ H Q=>ta σ H fun vs H1=>∃ a xs,vs = [.ref a]/\(SqL K H1 a xs\/SqT K H1 a xs)/\xs.length<=100000/\∀ p,H1 p = none->Q (.ref p) (upd H1 p (.lst xs.reverse))
theorem c1n (K:W.Frag) (hK:X.K = K) (hc:X.calm = true) {a:Expr} {ta:TA} {p1 p2 pos1 pos2:Pos} (hg:Gl X "list") (hm:X.mg "list" = none) (hg2:Gl X "reversed") (hm2:X.mg "reversed" = none) (ha:PA X [a] ta)
  (hs:starEach [a] X.env = [(false,eval a X.env)]:=by rfl)
  (hs1:starEach [Expr.Call (.Name "reversed" p2) [a] [] pos2] X.env = [(false,eval (.Call (.Name "reversed" p2) [a] [] pos2) X.env)]:=by rfl) :
  PE X (.Call (.Name "list" p1) [.Call (.Name "reversed" p2) [a] [] pos2] [] pos1) (b7i K ta):=by
 subst hK
 intro pins s σ H Q I h
 refine Call_ (a7m I hg hm boot_list (PyProof.Rows.callWith_type1 ?_ hs1 rfl))
 rw [hs1]
 show wpAny _ _ (spliced ((false,eval (.Call (.Name "reversed" p2) [a] [] pos2) X.env) :: backTo pos1 (starEach [] X.env))) _ _ s
 refine Calls.spliced_cons ?_
 refine Call_ (a7m I hg2 hm2 boot_reversed (PyProof.Rows.callWith_type1 (thn (ha pos2 pins s σ H _ I h) fun us s1 ⟨vs,H1,I1,r1,q1⟩=>?_) hs rfl))
 obtain ⟨l,xs,e,hq,hlen,q⟩:=q1
 subst e
 have fin:∀ (its:List Value) (h':Heap) (tk:Nat) (acc':Array Value) (c':Nat),Vals xs its->(∀ b o,s1.heap.get? b = some o->h'.get? b = some o)->h'.get? (s1.heap.objs.size + 1) = some { cls:=.type "list",dict:=none,data:=.seq acc' c',slots:=#[] }->ItemsOf (fun i v=>its.toArray[its.toArray.size - 1 - i]? = some v) acc' its.toArray.size->EP X pins σ Q (.ref (s1.heap.objs.size + 1)) { s1 with heap:=h',toks:=tk }:=by
  intro its h' tk acc' c' rv hk hS hacc
  have ea:=c4f hacc
  subst ea
  have fr:H1 (s1.heap.objs.size + 1) = none:=I1.hok.fresh (Nat.le_add_right _ _)
  refine ⟨.ref _,upd H1 (s1.heap.objs.size + 1) (.lst xs.reverse),I1.laid (t':=tk) hk (Nat.le_add_right _ _) ⟨by rw [List.length_reverse,sizeLine_eq]; omega,its.reverse,c',rv.reverse,hS⟩,rfl,q _ fr⟩
 have keepA:∀ (o0:Obj) (h':Heap),(∀ b o,b ∉ [s1.heap.objs.size]->(s1.heap.push o0).get? b = some o->h'.get? b = some o)->∀ b o,s1.heap.get? b = some o->h'.get? b = some o:=fun o0 h' hk b o e=>hk b o (fun z=>by
  rw [List.mem_singleton.mp z] at e
  exact Nat.lt_irrefl _ (Heap.lt_size e)) (Heap.get?_push_of_some _ e)
 cases r1 with
 | cons r rr=>
  cases rr
  cases r
  rcases hq with hq | hq
  ·obtain ⟨its,rv,pl,hz⟩:=I1.list hq
   have hlen':=rv.length
   have hL:s1.heap.IsList l its.toArray:=pl.isList
   have hlt:l < s1.heap.objs.size:=by obtain ⟨o,ho,_⟩:=hL; exact Heap.lt_size ho
   refine call_reversed_list hL ?_
   refine Calls.spliced_nil ?_
   have zz:(s1.heap.push (revObj l ((its.toArray.size:Int) - 1))).objs.size = s1.heap.objs.size + 1:=Heap.size_push ..
   have st0:0<=its.toArray.size/\(s1.heap.push (revObj l ((its.toArray.size:Int) - 1))).IsRevIter s1.heap.objs.size l ((its.toArray.size:Int) - 1 - ((0:Nat):Int))/\(s1.heap.push (revObj l ((its.toArray.size:Int) - 1))).IsList l its.toArray:=by
    refine ⟨Nat.zero_le _,?_,hL.at fun o e=>Heap.get?_push_of_some _ e⟩
    have e1:(its.toArray.size:Int) - 1 - ((0:Nat):Int) = (its.toArray.size:Int) - 1:=by omega
    rw [e1]
    exact ⟨_,Heap.get?_push_size _ rfl,rfl,rfl⟩
   have W:=Walks.listRev (prog:=X.prog) (w:=X.w) (A:=X.A.in1.in1) (I1.ok.hd hc) s1.heap.objs.size l (Nat.ne_of_lt hlt) its.toArray
   refine b1d (T:="list_reverseiterator") W (by rw [List.size_toArray,<- hlen',sizeLine_eq]; omega) (fun s' st=>st.2.1.typeIs) (by decide) (by decide) (fun s' Q' st k=>c6m st.2.1.typeIs (k false s'.toks)) st0 (fun b hb=>?_) (by simp) (fun h' tk acc' c' hk hS hacc=>?_)
   ·rw [zz]
    simp only [List.mem_cons,List.not_mem_nil,or_false] at hb
    rcases hb with rfl | rfl
    ·exact Nat.lt_succ_self _
    ·exact Nat.lt_succ_of_lt hlt
   ·rw [zz] at hS ⊢
    exact fin its h' tk acc' c' rv (keepA _ h' hk) hS hacc
  ·obtain ⟨its,rv,pl,hz⟩:=I1.tuple hq
   have hlen':=rv.length
   have hlt:l < s1.heap.objs.size:=pl.lt
   refine b2f pl (by rw [List.size_toArray,<- hlen']; omega) (fun tk0=>?_)
   refine Calls.spliced_nil ?_
   have zz:(s1.heap.push (b3o l ((its.toArray.size:Int) - 1))).objs.size = s1.heap.objs.size + 1:=Heap.size_push ..
   have st0:0<=its.toArray.size/\IsRv (s1.heap.push (b3o l ((its.toArray.size:Int) - 1))) s1.heap.objs.size l ((its.toArray.size:Int) - 1 - ((0:Nat):Int))/\IsTup (s1.heap.push (b3o l ((its.toArray.size:Int) - 1))) l its.toArray:=by
    refine ⟨Nat.zero_le _,?_,pl.push _⟩
    have e1:(its.toArray.size:Int) - 1 - ((0:Nat):Int) = (its.toArray.size:Int) - 1:=by omega
    rw [e1]
    exact ⟨_,Heap.get?_push_size _ rfl,rfl,rfl⟩
   have hsz:its.toArray.size<=2 ^ 24:=by rw [List.size_toArray,<- hlen']; omega
   have W:=c6n (prog:=X.prog) (w:=X.w) (A:=X.A.in1.in1) (I1.ok.hd hc) s1.heap.objs.size l (Nat.ne_of_lt hlt) its.toArray hsz
   refine b1d (T:="reversed") W (by rw [List.size_toArray,<- hlen',sizeLine_eq]; omega) (fun s' st=>st.2.1.typeIs) (by decide) (by decide) (fun s' Q' st k=>hint_rv st.2.1 st.2.2 (by omega) hsz k) st0 (fun b hb=>?_) (by simp) (fun h' tk acc' c' hk hS hacc=>?_)
   ·rw [zz]
    simp only [List.mem_cons,List.not_mem_nil,or_false] at hb
    rcases hb with rfl | rfl
    ·exact Nat.lt_succ_self _
    ·exact Nat.lt_succ_of_lt hlt
   ·rw [zz] at hS ⊢
    exact fin its h' tk acc' c' rv (keepA _ h' hk) hS hacc
theorem c1o {K:W.Frag} {σ:St} {H:Hp} {ta:TA} {Q:VK} (k:ta σ H fun vs H1=>∃ a xs,vs = [.ref a]/\(SqL K H1 a xs\/SqT K H1 a xs)/\xs.length<=100000/\∀ p,H1 p = none->Q (.ref p) (upd H1 p (.lst xs.reverse))):b7i K ta σ H Q:=k
end
section
variable {X:Cx} {pos:Pos} {e e2:Expr} {te te2:TE}
noncomputable def tF2n (a:Str) (te:TE):TE:=fun σ H Q=>te σ H fun x H1=>∃ i:Int,x = .int i/\i.natAbs.log2 < 1920/\(Str.ofString (toString i)).length<=1000/\Q (.str (a ++ Str.ofString (toString i))) H1
theorem pe_f2n {a:Str} {j1 p1 p2} (he:PE X e te) (ha:a.length<=1000:=by decide +kernel):PE X (.JoinedStr [.Constant (.str a) j1 p1,.FormattedValue e (-1) none p2] pos) (tF2n a te):=by
 intro pins s σ H Q I h
 have z9:100000<=sizeLine:=by decide
 have ea:∀ x:Str,Str.empty ++ x = x:=fun x=>by apply Str.ext'; show (#[]:Array Nat) ++ x.cps = x.cps; simp
 refine JoinedStr_many (joinParts_cons (Calls.Constant_str ?_))
 have hz:(Str.empty ++ a).length<=sizeLine:=by rw [ea]; omega
 refine ⟨hz,joinParts_cons (FormattedValue_plain (thn (he pins _ σ H _ (I.tok _) h) fun v s1 ⟨x,H1,I1,r1,q1⟩=>?_))⟩
 rw [ea]
 obtain ⟨i,rfl,hl,hy,q⟩:=q1
 obtain ⟨t,rfl⟩:=r1
 refine formatField_int_small hl ?_
 generalize Str.ofString (toString i) = y at hy q ⊢
 refine ⟨by rw [strLen_append]; omega,?_⟩
 refine joinParts_nil ?_ (by rw [strLen_append]; omega)
 exact ⟨.str (a ++ y),H1,(I1.tok _).tok _,⟨_,rfl⟩,q⟩
theorem tF2n_i {a:Str} {σ:St} {H:Hp} {Q:VK} (k:te σ H fun x H1=>∃ i:Int,x = .int i/\i.natAbs.log2 < 1920/\(Str.ofString (toString i)).length<=1000/\Q (.str (a ++ Str.ofString (toString i))) H1):tF2n a te σ H Q:=k
end
section
variable {X:Cx}
end
section
variable {X:Cx}
end
section
variable {X:Cx}
end
section
variable {K:W.Frag} {σ:St} {H:Hp} {Q:VK} {D:Ends} {ta tv:TE} {t:TA} {f m:Str} {C:Addr} {sp:Sp} {dvs:List V} {E:XK}
theorem tFld_i (k:ta σ H fun x H1=>∃ a C dx fs v,x = .ref a/\H1 a = some (.ins C dx fs)/\Cls K C/\a5q K C f/\fs.lookup f = some v/\Q v H1):tFld K ta f σ H Q:=k
theorem sFld_i (k:tv σ H fun y H1=>ta σ H1 fun x H2=>∃ a C dx fs,x = .ref a/\H2 a = some (.ins C dx fs)/\Cls K C/\a5q K C f/\fs.length < 1000/\D.nx σ (upd H2 a (.ins C dx (putF f y fs)))):sFld K ta tv f D σ H:=k
theorem tMeth_i (k:ta σ H fun x H1=>∃ a dx fs,x = .ref a/\H1 a = some (.ins C dx fs)/\fs.lookup m = none/\t σ H1 fun vs H2=>sp (x :: (vs ++ dvs)) H2 Q E):tMeth C m sp dvs E ta t σ H Q:=k
theorem tMake_i (k:t σ H fun vs H1=>∀ x dx,H1 x = none->H1 dx = none->dx ≠ x->sp (.ref x :: (vs ++ dvs)) (upd (upd H1 dx (.own x)) x (.ins C dx [])) (fun v H2=>v = .non/\Q (.ref x) H2) E):tMake C sp dvs E t σ H Q:=k
end
section
variable {X:Cx}
end
section
variable {X:Cx}
end
section
variable {X:Cx} {tg:Expr}
noncomputable def c4g (NF:Addr->Prop) (t:TS):TS:=fun D σ H=>t { nx:=fun σ' H'=>∃ a o kvs,NF a/\H' a = some (.frz o (.dK kvs))/\D.nx σ' (upd H' a (.dK kvs)),rt:=fun v H'=>∃ a o kvs,NF a/\H' a = some (.frz o (.dK kvs))/\D.rt v (upd H' a (.dK kvs)),bk:=D.bk,ct:=D.ct } σ H
theorem b0i {st:Stmt} {t:TS} (h:PS X st t):PS X st (c4g (NFz X) t):=by
 intro pins s σ H D I q
 refine thn (h pins s σ H _ I q) fun f s1 r=>?_
 cases f with
 | next=>
  obtain ⟨σ',H',I',a,o,kvs,nf,hH,q'⟩:=r
  exact ⟨σ',_,I'.thaw nf hH,q'⟩
 | brk=>exact r
 | cont=>exact r
 | ret u=>
  obtain ⟨v,σ',H',I',rv,a,o,kvs,nf,hH,q'⟩:=r
  exact ⟨v,σ',_,I'.thaw nf hH,rv,q'⟩
theorem b0j {NF:Addr->Prop} {t:TS} {D:Ends} {σ:St} {H:Hp} (k:t { nx:=fun σ' H'=>∃ a o kvs,NF a/\H' a = some (.frz o (.dK kvs))/\D.nx σ' (upd H' a (.dK kvs)),rt:=fun v H'=>∃ a o kvs,NF a/\H' a = some (.frz o (.dK kvs))/\D.rt v (upd H' a (.dK kvs)),bk:=D.bk,ct:=D.ct } σ H):c4g NF t D σ H:=k
end
section
variable {X:Cx} {pos:Pos} {e e2:Expr} {te te2:TE}
end
section
variable {X:Cx} {pins:List (Addr × Obj)} {σ:St} {H:Hp} {s:Shared}
end
section
variable {P:Program} {w:World} {A:Around} {E:Value->Shared->Prop} {s:Shared} {d a:Addr} {o:Obj} {ep:Nat}
end
section
variable {X:Cx}
end
section
variable {X:Cx}
end
section
variable {X:Cx} {e:Expr} {ta:TE} {f:Str} {pos:Pos}
end
theorem gSub_i {to ti:TE} {t:TSet} {v:V} {σ:St} {H:Hp} {N:St->Hp->Prop} (k:to σ H fun o H1=>ti σ H1 fun i H2=>t o i v H2 fun H3=>N σ H3):gSub to ti t v σ H N:=k
section
variable {X:Cx}
end
section
variable {X:Cx}
end
theorem b1y {NF:Addr->Prop} {tl:TE} {σ:St} {H:Hp} {R:It->Hp->Prop} (k:tl σ H fun x H1=>∃ a kvs,x = .ref a/\H1 a = some (.dK kvs)/\∀ o,NF a->R (Itd a o kvs) (upd H1 a (.frz o (.dK kvs)))):iDict NF tl σ H R:=k
section
variable {X:Cx} {ea:Addr} {tg:Expr}
end
section
variable {X:Cx} {k:Nat} {f C C':Addr} {fd:FuncData} {ps:List Str} {sp:Sp} {dvs:List V} {ds:List Value} {m nm cx:Str} {pos apos cp hpos tpos xpos:Pos} {e o:Expr} {es:List Expr} {ta:TE} {t:TA} {bm':List Value} {b0:Stmt} {suite:List Stmt} {ts:Addr->TS} {n:Nat}
end
section
variable {X:Cx}
noncomputable def mEq1S (K:W.Frag):R2:=fun x y H Q=>∃ (p q:Addr) (y0 z:Str) (us:List V),x = .ref p/\y = .ref q/\SqT K H p (.str y0 :: us)/\SqT K H q [.str z]/\Q (.bl (decide (y0 = z) && us.isEmpty)) H
theorem b4l (K:W.Frag) (hK:X.K = K) (hu:X.A.units + 150 < cLine):OpR X (compareOp .Eq) (mEq1S K):=by
 subst hK
 intro pins s σ H x y v u Q I rx ry h
 obtain ⟨p,q,y0,z,us,rfl,rfl,hp,hq,k⟩:=h
 cases rx
 cases ry
 obtain ⟨its,rv,p1,_⟩:=I.tuple hp
 obtain ⟨its',rv',p2,_⟩:=I.tuple hq
 have l1:=rv.length
 have l2:=rv'.length
 rw [List.length_cons] at l1 l2
 refine SeqAt.eq_tupleAt (e:=fun j=>decide ((Sum.inr y0:Key) = Sum.inr z)) (show s.heap.IsTuple p its.toArray from p1) (show s.heap.IsTuple q its'.toArray from p2) (by omega) (fun j h1 h2=>?_) ?_
 ·have g1:j < its.length:=by simpa using h1
  have g2:j < its'.length:=by simpa using h2
  have j0:j = 0:=by simp at l2; omega
  subst j0
  obtain ⟨w1,y1,z1⟩:=rv.get (show (V.str y0 :: us)[0]? = some (V.str y0) from rfl)
  obtain ⟨w2,y2,z2⟩:=rv'.get (show [V.str z][0]? = some (V.str z) from rfl)
  have q1:its.toArray[0] = w1:=by
   have:=List.getElem?_eq_getElem g1
   rw [y1] at this
   simpa using (Option.some.inj this).symm
  have q2:its'.toArray[0] = w2:=by
   have:=List.getElem?_eq_getElem g2
   rw [y2] at this
   simpa using (Option.some.inj this).symm
  rw [q1,q2]
  exact a1o (a:=Sum.inr y0) (b:=Sum.inr z) z1 z2
 ·have e:(((List.range (min its.toArray.size its'.toArray.size)).all fun j=>decide ((Sum.inr y0:Key) = Sum.inr z)) && (its.toArray.size == its'.toArray.size)) = (decide (y0 = z) && us.isEmpty):=by
   rw [List.size_toArray,List.size_toArray,<- l1,<- l2,List.length_nil,Nat.min_eq_right (by omega),b6c]
   cases us with
   | nil=>simp
   | cons a r=>simp
  rw [e]
  exact ⟨.bl _,H,I,rfl,k⟩
theorem b4m {K:Frag} {H:Hp} {Q:VK} {p q:Addr} {y0 z:Str} {us:List V} (hp:SqT K H p (.str y0 :: us)) (hq:SqT K H q [.str z]) (k:Q (.bl (decide (y0 = z) && us.isEmpty)) H):mEq1S K (.ref p) (.ref q) H Q:=⟨p,q,y0,z,us,rfl,rfl,hp,hq,k⟩
end
section
variable {X:Cx} {tg:Expr}
end
section
variable {X:Cx}
end
section
variable {X:Cx}
noncomputable def mAddT (K:W.Frag):R2:=fun x y H Q=>∃ p q xs ys,x = .ref p/\y = .ref q/\SqT K H p xs/\SqT K H q ys/\xs.length + ys.length<=sizeLine/\(xs = []->Q (.ref q) H)/\(xs ≠ []->ys = []->Q (.ref p) H)/\(xs ≠ []->ys ≠ []->∀ d,H d = none->Q (.ref d) (upd H d (.tup (xs ++ ys))))
theorem c6o {prog:Program} {w:World} {A:Around} {E:Value->Shared->Prop} {s:Shared} {t b:Addr} {vs ws:List Value} {Q:Value->Shared->Prop} (ht:IsTup s.heap t vs.toArray) (hb:IsTup s.heap b ws.toArray) (hv:vs = []) (h0:Q (.ref b) s):wpAny (model prog w) A (binaryOp .Add (.ref t) (.ref b)) Q E s:=by
 obtain ⟨⟨cls,dd,data,sl⟩,ho,hc,n,hd⟩:=id ht
 obtain ⟨⟨cls2,dd2,data2,sl2⟩,ho2,hc2,n2,hd2⟩:=id hb
 simp only at hc hd hc2 hd2
 subst hc hd hc2 hd2
 exact concat_meets ⟨_,ho,rfl⟩ ⟨_,ho2,rfl⟩ noFill_tuple_add seq_tuple_add F.slot_tuple_add F.entry_tuple_add (F.args_tuple_add_2 _ _)
  (tuple_addW0 t b vs.toArray ws.toArray n n2 dd dd2 sl sl2 (by simp [hv])) ⟨ho,ho2,h0⟩
theorem a9x (K:W.Frag) (h:X.K = K):OpR X (binaryOp .Add) (mAddT K):=by
 subst h
 intro pins s σ H x y v u Q I rx ry h
 obtain ⟨p,q,xs,ys,rfl,rfl,hp,hq,hz,q0,q1,q2⟩:=h
 by_cases hx:xs = []
 ·cases rx
  cases ry
  obtain ⟨its,r1,p1,_⟩:=I.tuple hp
  obtain ⟨its2,r2,p2,_⟩:=I.tuple hq
  exact c6o p1 p2 (r1.nil_iff.mpr hx) ⟨.ref q,H,I,rfl,q0 hx⟩
 ·exact b9v pins s σ H _ _ v u Q I rx ry ⟨p,q,xs,ys,rfl,rfl,hp,hq,hx,hz,q1 hx,q2 hx⟩
theorem a9y {K:W.Frag} {H:Hp} {Q:VK} {p q:Addr} {xs ys:List V} (hp:SqT K H p xs) (hq:SqT K H q ys) (hz:xs.length + ys.length<=sizeLine) (k:∀ r H',Same H H'->SqT K H' r (xs ++ ys)->Q (.ref r) H'):mAddT K (.ref p) (.ref q) H Q:=by
 refine ⟨p,q,xs,ys,rfl,rfl,hp,hq,hz,fun e=>?_,fun _ e=>?_,fun _ _ d hd=>k d _ (a0f hd _) (SqT.of a0b)⟩
 ·subst e; exact k q H (Same.refl H) hq
 ·subst e; exact k p H (Same.refl H) (by rw [List.append_nil]; exact hp)
noncomputable def mIdx:V->List V->Hp->VK->Prop:=fun x vs H Q=>∃ (a:Addr) (xs:List Str) (z:Str),x = .ref a/\vs = [.str z]/\H a = some (.lst (xs.map V.str))/\z ∈ xs/\xs.length<=1000/\∀ j:Nat,xs[j]? = some z->Q (.int (j:Int)) H
theorem b7j {z:Str}:∀ {xs:List Str},z ∈ xs->∃ j:Nat,xs[j]? = some z/\∀ m,m < j->xs[m]? ≠ some z
 | [],h=>by cases h
 | x :: xs,h=>by
  by_cases e:x = z
  ·exact ⟨0,by rw [e]; rfl,fun m hm=>by omega⟩
  ·obtain ⟨j,h1,h2⟩:=b7j (xs:=xs) (by rcases List.mem_cons.mp h with g | g; exact absurd g.symm e; exact g)
   refine ⟨j + 1,by simpa using h1,fun m hm=>?_⟩
   cases m with
   | zero=>intro g; simp at g; exact e g
   | succ m=>intro g; exact h2 m (by omega) (by simpa using g)
theorem c4h (xs:List Str):(xs.map V.str).all a7j = true:=by
 induction xs with
 | nil=>rfl
 | cons x xs ih=>rw [List.map_cons,List.all_cons,ih]; rfl
theorem c0f:∀ {xs:List V} {us:List Value} {i:Nat} {u:Value},Vals xs us->us[i]? = some u->∃ x,xs[i]? = some x/\RelV x u
 | _,_,i,u,.nil,e=>by simp at e
 | _,_,0,u,.cons r t,e=>by simp at e; subst e; exact ⟨_,rfl,r⟩
 | _,_,i + 1,u,.cons r t,e=>by
  obtain ⟨x,h1,h2⟩:=c0f (i:=i) t (by simpa using e)
  exact ⟨x,by simpa using h1,h2⟩
theorem c0g {xs:List Str} {its:List Value} (r:Vals (xs.map V.str) its) (z:Str) {m:Nat} (hm:m < its.length):eqU (.str z) its[m] = decide (xs[m]? = some z):=by
 obtain ⟨x,h1,h2⟩:=c0f r (List.getElem?_eq_getElem hm)
 rw [List.getElem?_map] at h1
 cases e:xs[m]? with
 | none=>rw [e] at h1; cases h1
 | some y=>
  rw [e] at h1
  cases h1
  rw [b6n h2 rfl]
  show decide (y = z) = decide (some y = some z)
  simp
theorem c6p:MtR X "list.index" mIdx:=by
 intro pins s σ H x vs v us Q I rx rv h
 obtain ⟨a,xs,z,rfl,rfl,hH,hz,hl,q⟩:=h
 cases rx
 obtain ⟨u,rfl,r1⟩:=vals1 rv
 obtain ⟨z0,its,n,r,hl',e⟩:=I.lstM hH
 obtain ⟨j,h1,h2⟩:=b7j hz
 have hj:=(List.getElem?_eq_some_iff.mp h1).1
 rw [List.length_map] at hl'
 refine call_meets F.slot_list_index ⟨_,e,rfl⟩ F.entry_list_index (F.args_list_index_2 _ _) (SeqAt.list_indexAt a its.toArray n none #[] u (eqU (.str z)) j (by rw [List.size_toArray]; omega) (by omega) ?_ ?_) ⟨e,fun y hy=>b0e r1 rfl r (c4h xs) y (by simpa using hy),⟨.int (j:Int),H,I.tok _,⟨_,rfl⟩,q j h1⟩⟩
 ·show eqU (.str z) its[j] = true
  rw [c0g r z (by omega)]
  exact decide_eq_true h1
 ·intro m hm hlt
  show eqU (.str z) its[m] = false
  rw [c0g r z (by simpa using hm)]
  exact decide_eq_false (h2 m hlt)
theorem b7k {H:Hp} {Q:VK} {a:Addr} {xs:List Str} {z:Str} (h:H a = some (.lst (xs.map V.str))) (hz:z ∈ xs) (hl:xs.length<=1000) (k:∀ j:Nat,xs[j]? = some z->Q (.int (j:Int)) H):mIdx (.ref a) [.str z] H Q:=⟨a,xs,z,rfl,rfl,h,hz,hl,k⟩
end
end L2
namespace My
open PySem PySem.Spec PyProof.Rows L2
inductive Bx where
 | free
 | num (n:Int)
 | app (s:Str) (ks:List Nat)
 | to (b:Nat)
noncomputable abbrev Bs:=List Bx
noncomputable def Bx.out:Bx->List Nat
 | .app _ ks=>ks
 | .to b=>[b]
 | _=>[]
noncomputable def Ed (bs:Bs) (a b:Nat):Prop:=∃ x,bs[a]? = some x/\b ∈ x.out
structure Wf (bs:Bs):Prop where
 inn:∀ a b,Ed bs a b->b < bs.length
 ar:∀ (a:Nat) s ks,bs[a]? = some (.app s ks)->ks.length<=4
 acy:∃ rk:Nat->Nat,∀ a b,Ed bs a b->rk b < rk a
theorem b3p {p q:Nat->Bool}:∀ {l:List Nat},(∀ x ∈ l,p x = true->q x = true)->l.countP p<=l.countP q
 | [],_=>by simp
 | x :: l,h=>by
  have ih:=b3p (l:=l) fun y hy=>h y (List.mem_cons_of_mem _ hy)
  have hx:=h x (List.mem_cons_self ..)
  rw [List.countP_cons,List.countP_cons]
  cases hp:p x <;> cases hq:q x <;> simp_all <;> omega
theorem b3q {p q:Nat->Bool} {b:Nat} (hq:q b = true) (hp:p b = false):∀ {l:List Nat},(∀ x ∈ l,p x = true->q x = true)->b ∈ l->l.countP p < l.countP q
 | [],_,hb=>by cases hb
 | x :: l,h,hb=>by
  have hle:=b3p (l:=l) fun y hy=>h y (List.mem_cons_of_mem _ hy)
  rw [List.countP_cons,List.countP_cons]
  by_cases e:b = x
  ·subst e
   rw [hq,hp]
   simp
   omega
  ·have hb':b ∈ l:=by
    rcases List.mem_cons.mp hb with z | z
    ·exact absurd z e
    ·exact z
   have ih:=b3q hq hp (l:=l) (fun y hy=>h y (List.mem_cons_of_mem _ hy)) hb'
   have hx:=h x (List.mem_cons_self ..)
   cases hp:p x <;> cases hq:q x <;> simp_all <;> omega
theorem Wf.rank {bs:Bs} (w:Wf bs):∃ rk:Nat->Nat,(∀ a,rk a<=bs.length)/\∀ a b,Ed bs a b->rk b < rk a:=by
 obtain ⟨rk,h⟩:=w.acy
 refine ⟨fun a=>(List.range bs.length).countP fun x=>decide (rk x < rk a),fun a=>?_,fun a b e=>?_⟩
 ·have:=List.countP_le_length (p:=fun x=>decide (rk x < rk a)) (l:=List.range bs.length)
  simpa using this
 ·have h1:=h a b e
  have h2:=w.inn a b e
  refine b3q (b:=b) (by simpa using h1) (by simp) (fun x _ hx=>?_) (by simpa using h2)
  have:=of_decide_eq_true hx
  simp only [decide_eq_true_eq]
  omega
inductive End (bs:Bs):Nat->Nat->Prop where
 | here {a:Nat} {x:Bx}:bs[a]? = some x->(∀ b,x ≠ .to b)->End bs a a
 | step {a b c:Nat}:bs[a]? = some (.to b)->End bs b c->End bs a c
inductive Rch (bs:Bs):Nat->Nat->Prop where
 | refl (a:Nat):Rch bs a a
 | head {a b c:Nat}:Ed bs a b->Rch bs b c->Rch bs a c
theorem Rch.trans {bs:Bs} {a b c:Nat} (h:Rch bs a b) (k:Rch bs b c):Rch bs a c:=by
 induction h with
 | refl a=>exact k
 | head e _ ih=>exact .head e (ih k)
theorem Rch.rk {bs:Bs} {rk:Nat->Nat} (hr:∀ a b,Ed bs a b->rk b < rk a) {a b:Nat} (h:Rch bs a b):rk b<=rk a:=by
 induction h with
 | refl a=>exact Nat.le_refl _
 | head e _ ih=>have:=hr _ _ e; omega
theorem Ed.to {bs:Bs} {a b:Nat} (h:bs[a]? = some (.to b)):Ed bs a b:=⟨_,h,by simp [Bx.out]⟩
theorem Ed.kid {bs:Bs} {a k:Nat} {s:Str} {ks:List Nat} (h:bs[a]? = some (.app s ks)) (hk:k ∈ ks):Ed bs a k:=⟨_,h,hk⟩
theorem End.rch {bs:Bs} {a c:Nat} (h:End bs a c):Rch bs a c:=by
 induction h with
 | here _ _=>exact .refl _
 | step e _ ih=>exact .head (Ed.to e) ih
theorem End.is {bs:Bs} {a c:Nat} (h:End bs a c):∃ x,bs[c]? = some x/\∀ b,x ≠ .to b:=by
 induction h with
 | here e n=>exact ⟨_,e,n⟩
 | step _ _ ih=>exact ih
theorem End.uniq {bs:Bs} {a c d:Nat} (h:End bs a c) (k:End bs a d):c = d:=by
 induction h with
 | here e n=>
  cases k with
  | here _ _=>rfl
  | step e2 _=>rw [e] at e2; cases e2; exact absurd rfl (n _)
 | step e _ ih=>
  cases k with
  | here e2 n=>rw [e] at e2; cases e2; exact absurd rfl (n _)
  | step e2 k=>rw [e] at e2; cases e2; exact ih k
theorem End.self {bs:Bs} {a c:Nat} (h:End bs a c):End bs c c:=by
 obtain ⟨x,e,n⟩:=h.is
 exact .here e n
theorem End.lt {bs:Bs} {a c:Nat} (h:End bs a c):c < bs.length:=by
 obtain ⟨x,e,n⟩:=h.is
 exact (List.getElem?_eq_some_iff.mp e).1
theorem Wf.end_ {bs:Bs} (w:Wf bs):∀ {a:Nat},a < bs.length->∃ c,End bs a c:=by
 obtain ⟨rk,hr⟩:=w.acy
 suffices h:∀ n a,rk a<=n->a < bs.length->∃ c,End bs a c from fun {a} ha=>h _ a (Nat.le_refl _) ha
 intro n
 induction n with
 | zero=>
  intro a h0 ha
  cases e:bs[a] with
  | to b=>
   have e':bs[a]? = some (.to b):=by rw [List.getElem?_eq_getElem ha,e]
   have:=hr _ _ (Ed.to e')
   omega
  | free=>exact ⟨a,.here (x:=.free) (by rw [List.getElem?_eq_getElem ha,e]) (fun b z=>by cases z)⟩
  | num m=>exact ⟨a,.here (x:=.num m) (by rw [List.getElem?_eq_getElem ha,e]) (fun b z=>by cases z)⟩
  | app s ks=>exact ⟨a,.here (x:=.app s ks) (by rw [List.getElem?_eq_getElem ha,e]) (fun b z=>by cases z)⟩
 | succ n ih=>
  intro a h0 ha
  cases e:bs[a] with
  | to b=>
   have e':bs[a]? = some (.to b):=by rw [List.getElem?_eq_getElem ha,e]
   have h1:=hr _ _ (Ed.to e')
   obtain ⟨c,hc⟩:=ih b (by omega) (w.inn _ _ (Ed.to e'))
   exact ⟨c,.step e' hc⟩
  | free=>exact ⟨a,.here (x:=.free) (by rw [List.getElem?_eq_getElem ha,e]) (fun b z=>by cases z)⟩
  | num m=>exact ⟨a,.here (x:=.num m) (by rw [List.getElem?_eq_getElem ha,e]) (fun b z=>by cases z)⟩
  | app s ks=>exact ⟨a,.here (x:=.app s ks) (by rw [List.getElem?_eq_getElem ha,e]) (fun b z=>by cases z)⟩
theorem a2l {bs:Bs} {a:Nat} (b:Bx) (ha:a < bs.length) (i:Nat):(bs.set a b)[i]? = if i = a then some b else bs[i]?:=by
 rw [List.getElem?_set]
 by_cases e:a = i
 ·subst e; simp [ha]
 ·rw [if_neg e,if_neg (fun z=>e z.symm)]
theorem Ed.set {bs:Bs} {a b x y:Nat} (ha:bs[a]? = some .free) (h:Ed bs x y):Ed (bs.set a (.to b)) x y:=by
 obtain ⟨u,e,m⟩:=h
 refine ⟨u,?_,m⟩
 rw [a2l _ (List.getElem?_eq_some_iff.mp ha).1,if_neg (fun z=>?_)]
 ·exact e
 ·rw [z,ha] at e; cases e; cases m
theorem Ed.of_set {bs:Bs} {a b x y:Nat} (ha:bs[a]? = some .free) (h:Ed (bs.set a (.to b)) x y):(x = a/\y = b)\/Ed bs x y:=by
 obtain ⟨u,e,m⟩:=h
 rw [a2l _ (List.getElem?_eq_some_iff.mp ha).1] at e
 by_cases z:x = a
 ·rw [if_pos z] at e; cases e
  simp only [Bx.out,List.mem_singleton] at m
  exact .inl ⟨z,m⟩
 ·rw [if_neg z] at e; exact .inr ⟨u,e,m⟩
theorem Rch.set {bs:Bs} {a b x y:Nat} (ha:bs[a]? = some .free) (h:Rch bs x y):Rch (bs.set a (.to b)) x y:=by
 induction h with
 | refl a=>exact .refl _
 | head e _ ih=>exact .head (e.set ha) ih
open Classical in
theorem Wf.set {bs:Bs} (w:Wf bs) {a b:Nat} (ha:bs[a]? = some .free) (hb:b < bs.length) (hn:¬ Rch bs b a):Wf (bs.set a (.to b)):=by
 obtain ⟨rk,hr⟩:=w.acy
 refine ⟨fun x y h=>?_,fun x s ks h=>?_,fun x=>if Rch bs x a then rk x + rk b + 1 else rk x,fun x y h=>?_⟩
 ·rw [List.length_set]
  rcases h.of_set ha with ⟨_,rfl⟩ | h
  ·exact hb
  ·exact w.inn _ _ h
 ·rw [a2l _ (List.getElem?_eq_some_iff.mp ha).1] at h
  by_cases z:x = a
  ·rw [if_pos z] at h; cases h
  ·rw [if_neg z] at h; exact w.ar _ _ _ h
 ·dsimp only
  rcases h.of_set ha with ⟨rfl,rfl⟩ | h
  ·rw [if_neg hn,if_pos (Rch.refl _)]; omega
  ·have:=hr _ _ h
   by_cases z:Rch bs y a
   ·rw [if_pos z,if_pos (Rch.head h z)]; omega
   ·rw [if_neg z]; split <;> omega
theorem End.set_ne {bs:Bs} {a b x c:Nat} (ha:bs[a]? = some .free) (h:End bs x c) (hn:c ≠ a):End (bs.set a (.to b)) x c:=by
 have hl:=(List.getElem?_eq_some_iff.mp ha).1
 induction h with
 | here e n=>exact .here (by rw [a2l _ hl,if_neg hn]; exact e) n
 | @step x y c e _ ih=>
  refine .step (b:=y) ?_ (ih hn)
  rw [a2l _ hl,if_neg (fun z=>?_)]
  ·exact e
  ·rw [z,ha] at e; cases e
theorem End.set_eq {bs:Bs} {a b x d:Nat} (ha:bs[a]? = some .free) (h:End bs x a) (hd:End (bs.set a (.to b)) b d):End (bs.set a (.to b)) x d:=by
 have hl:=(List.getElem?_eq_some_iff.mp ha).1
 generalize e0:a = c at h
 induction h with
 | here e n=>subst e0; exact .step (by rw [a2l _ hl,if_pos rfl]) hd
 | @step x y c e _ ih=>
  subst e0
  refine .step (b:=y) ?_ (ih rfl)
  rw [a2l _ hl,if_neg (fun z=>?_)]
  ·exact e
  ·rw [z,ha] at e; cases e
open Classical in
noncomputable def stp (bs:Bs) (a b:Nat):Option (Bs × List (Nat × Nat)):=
 match bs[a]?,bs[b]? with
 | some .free,_=>if a = b then some (bs,[]) else if Rch bs b a then none else some (bs.set a (.to b),[])
 | some _,some .free=>if Rch bs a b then none else some (bs.set b (.to a),[])
 | some (.num n),some (.num m)=>if n = m then some (bs,[]) else none
 | some (.app s ks),some (.app t ls)=>if s = t/\ks.length = ls.length then some (bs,ks.zip ls) else none
 | _,_=>none
inductive Run:Nat->Bs->List (Nat × Nat)->Bs->Bool->Prop where
 | nil {bs:Bs}:Run 0 bs [] bs true
 | go {n:Nat} {bs bs1 bs':Bs} {x y a b:Nat} {l st:List (Nat × Nat)} {r:Bool}:End bs x a->End bs y b->stp bs a b = some (bs1,l)->Run n bs1 (l ++ st) bs' r->Run (n + 1) bs ((x,y) :: st) bs' r
 | stop {bs:Bs} {x y a b:Nat} {st:List (Nat × Nat)}:End bs x a->End bs y b->stp bs a b = none->Run 1 bs ((x,y) :: st) bs false
theorem Run.cons {n:Nat} {bs bs':Bs} {x y a b:Nat} {st:List (Nat × Nat)} {r:Bool} (h:Run n bs ((x,y) :: st) bs' r) (ha:End bs x a) (hb:End bs y b):(stp bs a b = none/\bs' = bs/\r = false)\/∃ bs1 l m,stp bs a b = some (bs1,l)/\m < n/\Run m bs1 (l ++ st) bs' r:=by
 cases h with
 | go h1 h2 h3 h4=>rw [h1.uniq ha,h2.uniq hb] at h3; exact .inr ⟨_,_,_,h3,by omega,h4⟩
 | stop h1 h2 h3=>rw [h1.uniq ha,h2.uniq hb] at h3; exact .inl ⟨h3,rfl,rfl⟩
inductive Eqv (bs:Bs) (A:Nat->Nat->Prop):Nat->Nat->Prop where
 | asm {x y:Nat}:A x y->Eqv bs A x y
 | one {x y a:Nat}:End bs x a->End bs y a->Eqv bs A x y
 | num {x y a b:Nat} {n:Int}:End bs x a->End bs y b->bs[a]? = some (.num n)->bs[b]? = some (.num n)->Eqv bs A x y
 | app {x y a b:Nat} {s:Str} {ks ls:List Nat}:End bs x a->End bs y b->bs[a]? = some (.app s ks)->bs[b]? = some (.app s ls)->ks.length = ls.length->(∀ p ∈ ks.zip ls,Eqv bs A p.1 p.2)->Eqv bs A x y
noncomputable abbrev NoA:Nat->Nat->Prop:=fun _ _=>False
theorem Eqv.bind {bs:Bs} {A B:Nat->Nat->Prop} {x y:Nat} (h:Eqv bs A x y) (k:∀ x y,A x y->Eqv bs B x y):Eqv bs B x y:=by
 induction h with
 | asm h=>exact k _ _ h
 | one h1 h2=>exact .one h1 h2
 | num h1 h2 h3 h4=>exact .num h1 h2 h3 h4
 | app h1 h2 h3 h4 h5 _ ih=>exact .app h1 h2 h3 h4 h5 ih
theorem Eqv.no {bs:Bs} {B:Nat->Nat->Prop} {x y:Nat} (h:Eqv bs NoA x y):Eqv bs B x y:=h.bind fun _ _ z=>z.elim
theorem Eqv.set {bs:Bs} {A:Nat->Nat->Prop} {x y a b:Nat} (ha:bs[a]? = some .free) (w:Wf (bs.set a (.to b))) (h:Eqv bs A x y):Eqv (bs.set a (.to b)) A x y:=by
 have hl:=(List.getElem?_eq_some_iff.mp ha).1
 have ne:∀ {c:Nat} {u:Bx},bs[c]? = some u->u ≠ .free->c ≠ a/\(bs.set a (.to b))[c]? = some u:=fun {c u} e n=>by
  have z:c ≠ a:=fun z=>by rw [z,ha] at e; cases e; exact n rfl
  exact ⟨z,by rw [a2l _ hl,if_neg z]; exact e⟩
 induction h with
 | asm h=>exact .asm h
 | @one x y c h1 h2=>
  by_cases e:c = a
  ·subst e
   obtain ⟨d,hd⟩:=w.end_ (a:=b) (w.inn c b (Ed.to (by rw [a2l _ hl,if_pos rfl])))
   exact .one (h1.set_eq ha hd) (h2.set_eq ha hd)
  ·exact .one (h1.set_ne ha e) (h2.set_ne ha e)
 | num h1 h2 h3 h4=>
  have e3:=ne h3 (fun z=>by cases z)
  have e4:=ne h4 (fun z=>by cases z)
  exact .num (h1.set_ne ha e3.1) (h2.set_ne ha e4.1) e3.2 e4.2
 | app h1 h2 h3 h4 h5 _ ih=>
  have e3:=ne h3 (fun z=>by cases z)
  have e4:=ne h4 (fun z=>by cases z)
  exact .app (h1.set_ne ha e3.1) (h2.set_ne ha e4.1) e3.2 e4.2 h5 ih
theorem Eqv.ends {bs:Bs} {x y a b:Nat} (h:Eqv bs NoA a b) (ha:End bs x a) (hb:End bs y b):Eqv bs NoA x y:=by
 cases h with
 | asm z=>exact z.elim
 | one h1 h2=>rw [<- ha.self.uniq h1] at h2; rw [<- hb.self.uniq h2] at ha; exact .one ha hb
 | num h1 h2 h3 h4=>rw [<- ha.self.uniq h1] at h3; rw [<- hb.self.uniq h2] at h4; exact .num ha hb h3 h4
 | app h1 h2 h3 h4 h5 h6=>rw [<- ha.self.uniq h1] at h3; rw [<- hb.self.uniq h2] at h4; exact .app ha hb h3 h4 h5 h6
noncomputable def Skip (bs:Bs) (x y:Nat):Prop:=∀ n st bs' r,Run n bs ((x,y) :: st) bs' r->∃ m,m < n/\Run m bs st bs' r
theorem skips {bs:Bs}:∀ {l:List (Nat × Nat)},(∀ p ∈ l,Skip bs p.1 p.2)->∀ {n st bs' r},Run n bs (l ++ st) bs' r->∃ m,m<=n/\Run m bs st bs' r
 | [],_,n,st,bs',r,h=>⟨n,Nat.le_refl _,h⟩
 | p :: l,hs,n,st,bs',r,h=>by
  obtain ⟨m,h1,h2⟩:=hs p (List.mem_cons_self ..) n (l ++ st) bs' r h
  obtain ⟨k,h3,h4⟩:=skips (fun q hq=>hs q (List.mem_cons_of_mem _ hq)) h2
  exact ⟨k,by omega,h4⟩
theorem b7l {ks:List Nat} {p:Nat × Nat} (h:p ∈ ks.zip ks):p.1 = p.2/\p.1 ∈ ks:=by
 induction ks with
 | nil=>cases h
 | cons k ks ih=>
  rw [List.zip_cons_cons] at h
  rcases List.mem_cons.mp h with rfl | h
  ·exact ⟨rfl,List.mem_cons_self ..⟩
  ·exact ⟨(ih h).1,List.mem_cons_of_mem _ (ih h).2⟩
theorem Skip.refl {bs:Bs} (w:Wf bs) {x y a:Nat} (hx:End bs x a) (hy:End bs y a):Skip bs x y:=by
 obtain ⟨rk,hr⟩:=w.acy
 suffices h:∀ n a x y,rk a < n->End bs x a->End bs y a->Skip bs x y from h _ a x y (Nat.lt_succ_self _) hx hy
 intro n
 induction n with
 | zero=>intro a x y h0; omega
 | succ n ih=>
  intro a x y h0 hx hy k st bs' r hR
  obtain ⟨u,hu,hn⟩:=hx.is
  rcases hR.cons hx hy with ⟨z,_,_⟩ | ⟨bs1,l,m,e,hm,hR2⟩
  ·unfold stp at z
   rw [hu] at z
   cases u with
   | free=>simp at z
   | num i=>simp at z
   | app s ks=>simp at z
   | to b=>exact absurd rfl (hn b)
  ·unfold stp at e
   rw [hu] at e
   cases u with
   | free=>simp at e; obtain ⟨rfl,rfl⟩:=e; exact ⟨m,hm,hR2⟩
   | num i=>simp at e; obtain ⟨rfl,rfl⟩:=e; exact ⟨m,hm,hR2⟩
   | app s ks=>
    simp at e; obtain ⟨rfl,rfl⟩:=e
    have hs:∀ p ∈ ks.zip ks,Skip bs p.1 p.2:=fun p hp=>by
     obtain ⟨e1,e2⟩:=b7l hp
     have hk:=Ed.kid hu e2
     obtain ⟨c,hc⟩:=w.end_ (w.inn _ _ hk)
     have h1:=hr _ _ hk
     have h2:=hc.rch.rk hr
     exact ih c _ _ (by omega) hc (e1 ▸ hc)
    obtain ⟨m2,h2,h3⟩:=skips hs hR2
    exact ⟨m2,by omega,h3⟩
   | to b=>exact absurd rfl (hn b)
theorem Eqv.skip {bs:Bs} (w:Wf bs) {x y:Nat} (h:Eqv bs NoA x y):Skip bs x y:=by
 induction h with
 | asm z=>exact z.elim
 | one h1 h2=>exact Skip.refl w h1 h2
 | num h1 h2 h3 h4=>
  intro k st bs' r hR
  rcases hR.cons h1 h2 with ⟨z,_,_⟩ | ⟨bs1,l,m,e,hm,hR2⟩
  ·unfold stp at z; rw [h3,h4] at z; simp at z
  ·unfold stp at e; rw [h3,h4] at e; simp at e; obtain ⟨rfl,rfl⟩:=e; exact ⟨m,hm,hR2⟩
 | app h1 h2 h3 h4 h5 _ ih=>
  intro k st bs' r hR
  rcases hR.cons h1 h2 with ⟨z,_,_⟩ | ⟨bs1,l,m,e,hm,hR2⟩
  ·unfold stp at z; rw [h3,h4] at z; simp [h5] at z
  ·unfold stp at e; rw [h3,h4] at e; simp [h5] at e; obtain ⟨rfl,rfl⟩:=e
   obtain ⟨m2,h2,h3⟩:=skips ih hR2
   exact ⟨m2,by omega,h3⟩
theorem b1z {bs bs1:Bs} {a b:Nat} {l:List (Nat × Nat)} (h:stp bs a b = some (bs1,l)) :
  (bs1 = bs/\l = []/\(a = b\/∃ n,bs[a]? = some (.num n)/\bs[b]? = some (.num n))) \/
  (bs1 = bs/\∃ s ks ls,bs[a]? = some (.app s ks)/\bs[b]? = some (.app s ls)/\ks.length = ls.length/\l = ks.zip ls) \/
  (∃ c d,bs[c]? = some .free/\¬ Rch bs d c/\((c = a/\d = b)\/(c = b/\d = a))/\bs1 = bs.set c (.to d)/\l = []):=by
 unfold stp at h
 split at h
 ·rename_i e1
  by_cases e:a = b
  ·rw [if_pos e] at h; cases h; exact .inl ⟨rfl,rfl,.inl e⟩
  ·rw [if_neg e] at h
   by_cases e2:Rch bs b a
   ·rw [if_pos e2] at h; cases h
   ·rw [if_neg e2] at h; cases h; exact .inr (.inr ⟨a,b,e1,e2,.inl ⟨rfl,rfl⟩,rfl,rfl⟩)
 ·rename_i e1
  by_cases e2:Rch bs a b
  ·rw [if_pos e2] at h; cases h
  ·rw [if_neg e2] at h; cases h; exact .inr (.inr ⟨b,a,e1,e2,.inr ⟨rfl,rfl⟩,rfl,rfl⟩)
 ·rename_i n m e1 e2
  by_cases e:n = m
  ·rw [if_pos e] at h; cases h; subst e; exact .inl ⟨rfl,rfl,.inr ⟨n,e1,e2⟩⟩
  ·rw [if_neg e] at h; cases h
 ·rename_i s ks t ls e1 e2
  by_cases e:s = t/\ks.length = ls.length
  ·rw [if_pos e] at h; cases h; obtain ⟨rfl,e⟩:=e; exact .inr (.inl ⟨rfl,s,ks,ls,e1,e2,e,rfl⟩)
  ·rw [if_neg e] at h; cases h
 ·cases h
noncomputable def Bx.isFree:Bx->Bool
 | .free=>true
 | _=>false
noncomputable def nf (bs:Bs):Nat:=bs.countP Bx.isFree
theorem nf_le (bs:Bs):nf bs<=bs.length:=List.countP_le_length
theorem b7m {bs:Bs} {a b:Nat} (ha:bs[a]? = some .free):nf (bs.set a (.to b)) + 1 = nf bs:=by
 induction bs generalizing a with
 | nil=>cases ha
 | cons x bs ih=>
  cases a with
  | zero=>
   simp only [List.getElem?_cons_zero,Option.some.injEq] at ha
   subst ha
   show (Bx.to b :: bs).countP Bx.isFree + 1 = (Bx.free :: bs).countP Bx.isFree
   rw [List.countP_cons,List.countP_cons]
   simp [Bx.isFree]
  | succ a=>
   have:=ih (a:=a) (by simpa using ha)
   show (x :: bs.set a (.to b)).countP Bx.isFree + 1 = (x :: bs).countP Bx.isFree
   rw [List.countP_cons,List.countP_cons]
   unfold nf at this
   omega
theorem b7n {rk:Nat->Nat} {R:Nat}:∀ {ks:List Nat},(∀ k ∈ ks,rk k < R)->(ks.map fun k=>5 ^ rk k).sum<=ks.length * 5 ^ (R - 1)
 | [],_=>by simp
 | k :: ks,h=>by
  have ih:=b7n (ks:=ks) fun x hx=>h x (List.mem_cons_of_mem _ hx)
  have h1:=h k (List.mem_cons_self ..)
  have h2:5 ^ rk k<=5 ^ (R - 1):=Nat.pow_le_pow_right (by decide) (by omega)
  rw [List.map_cons,List.sum_cons,List.length_cons,Nat.add_mul]
  omega
theorem c0h {rk:Nat->Nat} {R:Nat} {ks:List Nat} (h:∀ k ∈ ks,rk k < R) (hl:ks.length<=4):(ks.map fun k=>5 ^ rk k).sum < 5 ^ R:=by
 have h1:=b7n h
 cases R with
 | zero=>
  cases ks with
  | nil=>simp
  | cons k ks=>exact absurd (h k (List.mem_cons_self ..)) (by omega)
 | succ R=>
  rw [Nat.add_sub_cancel] at h1
  have h2:ks.length * 5 ^ R<=4 * 5 ^ R:=Nat.mul_le_mul_right _ hl
  have h3:0 < 5 ^ R:=Nat.pow_pos (by decide)
  rw [Nat.pow_succ]
  omega
theorem c0i {ks ls:List Nat} (h:ks.length = ls.length) (f:Nat->Nat):((ks.zip ls).map fun p=>f p.1) = ks.map f:=by
 induction ks generalizing ls with
 | nil=>rfl
 | cons k ks ih=>
  cases ls with
  | nil=>cases h
  | cons l ls=>rw [List.zip_cons_cons,List.map_cons,List.map_cons,ih (by simpa using h)]
theorem b7o {ks ls:List Nat} {p:Nat × Nat} (h:p ∈ ks.zip ls):p.1 ∈ ks/\p.2 ∈ ls:=by
 obtain ⟨x,y⟩:=p
 exact ⟨(List.of_mem_zip h).1,(List.of_mem_zip h).2⟩
theorem b3r {bs bs1:Bs} {a b:Nat} {l:List (Nat × Nat)} (w:Wf bs) (ha:a < bs.length) (hb:b < bs.length) (h:stp bs a b = some (bs1,l)):Wf bs1/\bs1.length = bs.length/\∀ p ∈ l,p.1 < bs.length/\p.2 < bs.length:=by
 rcases b1z h with ⟨rfl,rfl,_⟩ | ⟨rfl,s,ks,ls,e1,e2,_,rfl⟩ | ⟨c,d,e1,e2,e3,rfl,rfl⟩
 ·exact ⟨w,rfl,fun p hp=>by cases hp⟩
 ·exact ⟨w,rfl,fun p hp=>⟨w.inn _ _ (Ed.kid e1 (b7o hp).1),w.inn _ _ (Ed.kid e2 (b7o hp).2)⟩⟩
 ·refine ⟨w.set e1 (by rcases e3 with ⟨_,rfl⟩ | ⟨_,rfl⟩ <;> assumption) e2,by rw [List.length_set],fun p hp=>by cases hp⟩
theorem b7p:∀ (k:Nat) (bs:Bs),nf bs < k->Wf bs->∀ st:List (Nat × Nat),(∀ p ∈ st,p.1 < bs.length/\p.2 < bs.length)->∃ n bs' r,Run n bs st bs' r:=by
 intro k
 induction k with
 | zero=>intro bs hk; omega
 | succ k ihk=>
  intro bs hk w
  obtain ⟨rk,hr⟩:=w.acy
  suffices h:∀ (S:Nat) (st:List (Nat × Nat)),(st.map fun p=>5 ^ rk p.1).sum<=S->(∀ p ∈ st,p.1 < bs.length/\p.2 < bs.length)->∃ n bs' r,Run n bs st bs' r from fun st hv=>h _ st (Nat.le_refl _) hv
  intro S
  induction S with
  | zero=>
   intro st hS hv
   cases st with
   | nil=>exact ⟨_,_,_,.nil⟩
   | cons p st=>
    have:0 < 5 ^ rk p.1:=Nat.pow_pos (by decide)
    rw [List.map_cons,List.sum_cons] at hS
    omega
  | succ S ih=>
   intro st hS hv
   cases st with
   | nil=>exact ⟨_,_,_,.nil⟩
   | cons p st=>
    obtain ⟨x,y⟩:=p
    have hv1:=hv (x,y) (List.mem_cons_self ..)
    obtain ⟨a,ha⟩:=w.end_ hv1.1
    obtain ⟨b,hb⟩:=w.end_ hv1.2
    rw [List.map_cons,List.sum_cons] at hS
    dsimp only at hS
    cases hs:stp bs a b with
    | none=>exact ⟨_,_,_,.stop ha hb hs⟩
    | some q=>
     obtain ⟨bs1,l⟩:=q
     obtain ⟨w1,l1,v1⟩:=b3r w ha.lt hb.lt hs
     have ra:=ha.rch.rk hr
     have pp:0 < 5 ^ rk x:=Nat.pow_pos (by decide)
     have hvl:∀ p ∈ l ++ st,p.1 < bs.length/\p.2 < bs.length:=fun p hp=>by
      rcases List.mem_append.mp hp with z | z
      ·exact v1 p z
      ·exact hv p (List.mem_cons_of_mem _ z)
     rcases b1z hs with ⟨rfl,rfl,_⟩ | ⟨rfl,s,ks,ls,e1,e2,e3,rfl⟩ | ⟨c,d,e1,e2,e3,rfl,rfl⟩
     ·obtain ⟨n,bs',r,h⟩:=ih ([] ++ st) (by rw [List.nil_append]; omega) hvl
      exact ⟨_,_,_,.go ha hb hs h⟩
     ·have z1:=c0h (rk:=rk) (R:=rk a) (fun k hk=>hr _ _ (Ed.kid e1 hk)) (w.ar _ _ _ e1)
      have z2:5 ^ rk a<=5 ^ rk x:=Nat.pow_le_pow_right (by decide) ra
      obtain ⟨n,bs',r,h⟩:=ih (ks.zip ls ++ st) (by rw [List.map_append,List.sum_append,c0i e3 (fun k=>5 ^ rk k)]; omega) hvl
      exact ⟨_,_,_,.go ha hb hs h⟩
     ·have:=b7m (b:=d) e1
      obtain ⟨n,bs',r,h⟩:=ihk _ (by omega) w1 _ (by rw [l1]; exact hvl)
      exact ⟨_,_,_,.go ha hb hs h⟩
noncomputable def Bd (B:Nat):List Nat->Prop
 | []=>True
 | r :: l=>l.length + 1 + 4 * r<=B/\Bd B l
theorem Bd.len {B:Nat}:∀ {l:List Nat},Bd B l->l.length<=B
 | [],_=>Nat.zero_le _
 | r :: l,h=>by rw [List.length_cons]; have:=h.1; omega
theorem Bd.more {B C:Nat} (h:B<=C):∀ {l:List Nat},Bd B l->Bd C l
 | [],_=>trivial
 | r :: l,k=>⟨Nat.le_trans k.1 h,Bd.more h k.2⟩
theorem Bd.push {B r:Nat} {l:List Nat} (h:Bd B (r :: l)):∀ {ks:List Nat},ks.length<=4->(∀ k ∈ ks,k < r)->Bd B (ks ++ l)
 | [],_,_=>h.2
 | k :: ks,h3,hk=>by
  rw [List.length_cons] at h3
  refine ⟨?_,Bd.push h (by omega) fun x hx=>hk x (List.mem_cons_of_mem _ hx)⟩
  have h1:=h.1
  have h2:=hk k (List.mem_cons_self ..)
  show (ks ++ l).length + 1 + 4 * k<=B
  rw [List.length_append]
  omega
theorem Bd.anew {B:Nat} {f g:Nat × Nat->Nat} (hg:∀ p,g p<=128):∀ {st:List (Nat × Nat)},Bd B (st.map f)->Bd (B + 512) (st.map g)
 | [],_=>trivial
 | p :: st,h=>by
  have h1:=h.1
  have h2:=hg p
  refine ⟨?_,Bd.anew hg h.2⟩
  rw [List.length_map] at h1 ⊢
  omega
structure Lim (bs:Bs) (st:List (Nat × Nat)):Prop where
 len:bs.length<=128
 wf:Wf bs
 val:∀ p ∈ st,p.1 < bs.length/\p.2 < bs.length
 bd:∃ rk:Nat->Nat,(∀ a,rk a<=128)/\(∀ a b,Ed bs a b->rk b < rk a)/\Bd (512 * (130 - nf bs)) (st.map fun p=>rk p.1)
theorem Lim.size {bs:Bs} {st:List (Nat × Nat)} (h:Lim bs st):st.length<=66560:=by
 obtain ⟨rk,_,_,b⟩:=h.bd
 have:=b.len
 rw [List.length_map] at this
 omega
theorem Lim.one {bs:Bs} {a b:Nat} (hl:bs.length<=128) (w:Wf bs) (ha:a < bs.length) (hb:b < bs.length):Lim bs [(a,b)]:=by
 obtain ⟨rk,h1,h2⟩:=w.rank
 refine ⟨hl,w,fun p hp=>?_,rk,fun a=>Nat.le_trans (h1 a) hl,h2,?_,trivial⟩
 ·rw [List.mem_singleton] at hp; subst hp; exact ⟨ha,hb⟩
 ·have:=nf_le bs
  have:=h1 a
  show 0 + 1 + 4 * rk a<=_
  omega
theorem Lim.pop {bs:Bs} {p:Nat × Nat} {st:List (Nat × Nat)} (h:Lim bs (p :: st)):Lim bs st:=by
 obtain ⟨rk,h1,h2,h3⟩:=h.bd
 exact ⟨h.len,h.wf,fun q hq=>h.val q (List.mem_cons_of_mem _ hq),rk,h1,h2,h3.2⟩
theorem Lim.step {bs bs1:Bs} {x y a b:Nat} {l st:List (Nat × Nat)} (h:Lim bs ((x,y) :: st)) (ha:End bs x a) (hb:End bs y b) (hs:stp bs a b = some (bs1,l)):Lim bs1 (l ++ st):=by
 obtain ⟨w1,l1,v1⟩:=b3r h.wf ha.lt hb.lt hs
 have hvl:∀ p ∈ l ++ st,p.1 < bs1.length/\p.2 < bs1.length:=fun p hp=>by
  rw [l1]
  rcases List.mem_append.mp hp with z | z
  ·exact v1 p z
  ·exact h.val p (List.mem_cons_of_mem _ z)
 obtain ⟨rk,h1,h2,h3⟩:=h.bd
 refine ⟨by rw [l1]; exact h.len,w1,hvl,?_⟩
 rcases b1z hs with ⟨rfl,rfl,_⟩ | ⟨rfl,s,ks,ls,e1,e2,e3,rfl⟩ | ⟨c,d,e1,e2,e3,rfl,rfl⟩
 ·exact ⟨rk,h1,h2,h3.2⟩
 ·refine ⟨rk,h1,h2,?_⟩
  rw [List.map_append,c0i e3 rk]
  refine Bd.push h3 (by rw [List.length_map]; exact h.wf.ar _ _ _ e1) (fun k hk=>?_)
  obtain ⟨k,hk',rfl⟩:=List.mem_map.mp hk
  have r1:=h2 _ _ (Ed.kid e1 hk')
  have r2:=ha.rch.rk h2
  show rk k < rk x
  omega
 ·obtain ⟨rk',g1,g2⟩:=w1.rank
  rw [List.length_set] at g1
  have z:=b7m (b:=d) e1
  have z2:=nf_le bs
  have z3:=h.len
  refine ⟨rk',fun a=>Nat.le_trans (g1 a) z3,g2,?_⟩
  rw [show 512 * (130 - nf (bs.set c (.to d))) = 512 * (130 - nf bs) + 512 by omega]
  exact Bd.anew (fun p=>Nat.le_trans (g1 p.1) z3) h3.2
noncomputable def Met (bs:Bs) (met st:List (Nat × Nat)):Prop:=∀ p ∈ met,∃ top rest,st = top ++ rest/\(∀ q ∈ top,∃ k,Ed bs p.1 k/\Rch bs k q.1)/\Eqv bs (fun x y=>(x,y) ∈ top) p.1 p.2
theorem Met.pop {bs:Bs} {met st:List (Nat × Nat)} {x y:Nat} (h:Met bs met ((x,y) :: st)) (e:Eqv bs NoA x y):Met bs met st:=fun p hp=>by
 obtain ⟨top,rest,h1,h2,h3⟩:=h p hp
 cases top with
 | nil=>exact ⟨[],st,rfl,fun q hq=>(by cases hq),h3⟩
 | cons q top=>
  rw [List.cons_append] at h1
  injection h1 with h1 h4
  subst h1
  refine ⟨top,rest,h4,fun q hq=>h2 q (List.mem_cons_of_mem _ hq),h3.bind fun u v hm=>?_⟩
  rcases List.mem_cons.mp hm with z | z
  ·cases z; exact e.no
  ·exact .asm z
theorem Met.known {bs:Bs} (w:Wf bs) {met st:List (Nat × Nat)} {x y a b:Nat} (h:Met bs met ((x,y) :: st)) (ha:End bs x a) (hb:End bs y b) (hm:(a,b) ∈ met):Eqv bs NoA x y:=by
 obtain ⟨top,rest,h1,h2,h3⟩:=h _ hm
 cases top with
 | nil=>exact Eqv.ends (h3.bind fun u v z=>by cases z) ha hb
 | cons q top=>
  rw [List.cons_append] at h1
  injection h1 with h1 h4
  subst h1
  obtain ⟨k,e1,e2⟩:=h2 _ (List.mem_cons_self ..)
  obtain ⟨rk,hr⟩:=w.acy
  have r1:=hr _ _ e1
  have r2:=e2.rk hr
  have r3:=ha.rch.rk hr
  dsimp only at r1 r2
  omega
theorem Met.step {bs bs1:Bs} (w:Wf bs) {met l st:List (Nat × Nat)} {x y a b:Nat} (h:Met bs met ((x,y) :: st)) (ha:End bs x a) (hb:End bs y b) (hs:stp bs a b = some (bs1,l)):Met bs1 ((a,b) :: met) (l ++ st):=by
 obtain ⟨w1,l1,v1⟩:=b3r w ha.lt hb.lt hs
 have key:(∀ q ∈ l,Ed bs1 a q.1)/\Eqv bs1 (fun x y=>(x,y) ∈ l) x y/\Eqv bs1 (fun x y=>(x,y) ∈ l) a b/\(∀ u v,Ed bs u v->Ed bs1 u v)/\(∀ u v,Rch bs u v->Rch bs1 u v)/\(∀ A u v,Eqv bs A u v->Eqv bs1 A u v):=by
  rcases b1z hs with ⟨rfl,rfl,e⟩ | ⟨rfl,s,ks,ls,e1,e2,e3,rfl⟩ | ⟨c,d,e1,e2,e3,rfl,rfl⟩
  ·refine ⟨fun q hq=>by (cases hq),?_,?_,fun _ _ e=>e,fun _ _ e=>e,fun _ _ _ e=>e⟩
   ·rcases e with rfl | ⟨n,e1,e2⟩
    ·exact .one ha hb
    ·exact .num ha hb e1 e2
   ·rcases e with rfl | ⟨n,e1,e2⟩
    ·exact .one ha.self hb.self
    ·exact .num ha.self hb.self e1 e2
  ·refine ⟨fun q hq=>Ed.kid e1 (b7o hq).1,.app ha hb e1 e2 e3 fun p hp=>.asm hp,.app ha.self hb.self e1 e2 e3 fun p hp=>.asm hp,fun _ _ e=>e,fun _ _ e=>e,fun _ _ _ e=>e⟩
  ·have hd:d < (bs.set c (.to d)).length:=by rw [List.length_set]; rcases e3 with ⟨_,rfl⟩ | ⟨_,rfl⟩; exact hb.lt; exact ha.lt
   obtain ⟨f,hf⟩:=w1.end_ hd
   have hn:d ≠ c:=fun z=>e2 (z ▸ Rch.refl _)
   have dd:End bs d d:=by rcases e3 with ⟨_,rfl⟩ | ⟨_,rfl⟩; exact hb.self; exact ha.self
   have fd:f = d:=hf.uniq (dd.set_ne e1 hn)
   subst fd
   refine ⟨fun q hq=>by (cases hq),?_,?_,fun _ _ e=>e.set e1,fun _ _ e=>e.set e1,fun _ _ _ e=>e.set e1 w1⟩
   ·rcases e3 with ⟨rfl,rfl⟩ | ⟨rfl,rfl⟩
    ·exact .one (ha.set_eq e1 hf) (hb.set_ne e1 hn)
    ·exact .one (ha.set_ne e1 hn) (hb.set_eq e1 hf)
   ·rcases e3 with ⟨rfl,rfl⟩ | ⟨rfl,rfl⟩
    ·exact .one (ha.self.set_eq e1 hf) hf
    ·exact .one hf (hb.self.set_eq e1 hf)
 obtain ⟨k1,k2,k3,k4,k5,k6⟩:=key
 intro p hp
 rcases List.mem_cons.mp hp with rfl | hp
 ·exact ⟨l,st,rfl,fun q hq=>⟨q.1,k1 q hq,.refl _⟩,k3⟩
 ·obtain ⟨top,rest,h1,h2,h3⟩:=h p hp
  cases top with
  | nil=>exact ⟨[],l ++ st,rfl,fun q hq=>(by cases hq),k6 _ _ _ h3⟩
  | cons q top=>
   rw [List.cons_append] at h1
   injection h1 with h1 h4
   subst h1
   refine ⟨l ++ top,rest,by rw [h4,List.append_assoc],fun q hq=>?_,(k6 _ _ _ h3).bind fun u v hm=>?_⟩
   ·rcases List.mem_append.mp hq with z | z
    ·obtain ⟨k,e1,e2⟩:=h2 _ (List.mem_cons_self ..)
     exact ⟨k,k4 _ _ e1,(k5 _ _ (e2.trans ha.rch)).trans (.head (k1 q z) (.refl _))⟩
    ·obtain ⟨k,e1,e2⟩:=h2 q (List.mem_cons_of_mem _ z)
     exact ⟨k,k4 _ _ e1,k5 _ _ e2⟩
   ·rcases List.mem_cons.mp hm with z | z
    ·cases z; exact k2.bind fun u v z=>.asm (List.mem_append_left _ z)
    ·exact .asm (List.mem_append_right _ z)
open Classical in
noncomputable def undo (bs:Bs) (l:List Nat):Bs:=bs.mapIdx fun i x=>if i ∈ l then .free else x
theorem c6q (bs:Bs) (l:List Nat):(undo bs l).length = bs.length:=by rw [undo,List.length_mapIdx]
open Classical in
theorem a3p (bs:Bs) (l:List Nat) (i:Nat):(undo bs l)[i]? = bs[i]?.map fun x=>if i ∈ l then Bx.free else x:=by
 rw [undo,List.getElem?_mapIdx]
theorem b2w (bs:Bs):undo bs [] = bs:=by
 apply List.ext_getElem?
 intro i
 rw [a3p]
 simp
theorem b0k (bs:Bs) (l k:List Nat):undo bs (l ++ k) = undo (undo bs k) l:=by
 apply List.ext_getElem?
 intro i
 rw [a3p,a3p,a3p,Option.map_map]
 congr 1
 funext x
 by_cases h1:i ∈ l <;> by_cases h2:i ∈ k <;> simp [h1,h2]
theorem c6r {bs:Bs} {a b:Nat} (ha:bs[a]? = some .free):undo (bs.set a (.to b)) [a] = bs:=by
 apply List.ext_getElem?
 intro i
 rw [a3p,a2l _ (List.getElem?_eq_some_iff.mp ha).1]
 by_cases e:i = a
 ·subst e; simp [ha]
 ·simp [e]
theorem c6s {bs:Bs} {a:Nat} (ha:a < bs.length):undo bs [a] = bs.set a .free:=by
 apply List.ext_getElem?
 intro i
 rw [a3p,a2l _ ha]
 by_cases e:i = a
 ·subst e; simp [ha]
 ·simp [e]
structure Up (bs:Bs) (tr:List Nat) (bs':Bs) (tr':List Nat):Prop where
 ex:∃ l,tr' = tr ++ l/\undo bs' l = bs/\∀ a ∈ l,a < bs.length
 len:bs'.length = bs.length
theorem Up.refl (bs:Bs) (tr:List Nat):Up bs tr bs tr:=⟨⟨[],by simp,b2w _,fun a h=>by cases h⟩,rfl⟩
theorem Up.bind {bs bs':Bs} {tr tr':List Nat} (u:Up bs tr bs' tr') {a b:Nat} (ha:bs'[a]? = some .free):Up bs tr (bs'.set a (.to b)) (tr' ++ [a]):=by
 obtain ⟨⟨l,h1,h2,h3⟩,h4⟩:=u
 have hl:=(List.getElem?_eq_some_iff.mp ha).1
 refine ⟨⟨l ++ [a],by rw [h1,List.append_assoc],by rw [b0k,c6r ha,h2],fun x hx=>?_⟩,by rw [List.length_set,h4]⟩
 rcases List.mem_append.mp hx with z | z
 ·exact h3 x z
 ·rw [List.mem_singleton.mp z,<- h4]; exact hl
structure Mrk (bs:Bs) (tr:List Nat) (n t:Nat) (sv:Bs):Prop where
 tl:t<=tr.length
 nl:n<=bs.length
 inn:∀ a ∈ tr.take t,a < n
 all:∀ a ∈ tr,a < bs.length
 sv:(undo bs (tr.drop t)).take n = sv
theorem Mrk.now {bs:Bs} {tr:List Nat} (h:∀ a ∈ tr,a < bs.length):Mrk bs tr bs.length tr.length bs:=
 ⟨Nat.le_refl _,Nat.le_refl _,fun a ha=>h a (List.mem_of_mem_take ha),h,by rw [List.drop_length,b2w,List.take_length]⟩
theorem Mrk.up {bs bs' sv:Bs} {tr tr':List Nat} {n t:Nat} (m:Mrk bs tr n t sv) (u:Up bs tr bs' tr'):Mrk bs' tr' n t sv:=by
 obtain ⟨⟨l,h1,h2,h3⟩,h4⟩:=u
 subst h1
 refine ⟨by rw [List.length_append]; have:=m.tl; omega,by rw [h4]; exact m.nl,fun a ha=>m.inn a ?_,fun a ha=>?_,?_⟩
 ·rwa [List.take_append_of_le_length m.tl] at ha
 ·rw [h4]
  rcases List.mem_append.mp ha with z | z
  ·exact m.all a z
  ·exact h3 a z
 ·rw [List.drop_append_of_le_length m.tl,b0k,h2]; exact m.sv
theorem Mrk.make {bs sv:Bs} {tr:List Nat} {n t:Nat} (m:Mrk bs tr n t sv) (b:Bx):Mrk (bs ++ [b]) tr n t sv:=by
 refine ⟨m.tl,by rw [List.length_append]; have:=m.nl; omega,m.inn,fun a ha=>by rw [List.length_append]; have:=m.all a ha; omega,?_⟩
 rw [<- m.sv]
 apply List.ext_getElem?
 intro i
 have h:=m.nl
 rw [List.getElem?_take,List.getElem?_take]
 by_cases hi:i < n
 ·rw [if_pos hi,if_pos hi,a3p,a3p,List.getElem?_append_left (by omega)]
 ·rw [if_neg hi,if_neg hi]
theorem Mrk.back {bs sv sv0:Bs} {tr:List Nat} {n t n0 t0:Nat} (m:Mrk bs tr n t sv) (m0:Mrk bs tr n0 t0 sv0) (hn:n0<=n) (ht:t0<=t):Mrk sv (tr.take t) n0 t0 sv0:=by
 have h1:=m.nl
 have h2:=m.tl
 have hsv:sv.length = n:=by rw [<- m.sv,List.length_take,c6q]; omega
 refine ⟨by rw [List.length_take]; omega,by omega,fun a ha=>m0.inn a ?_,fun a ha=>by rw [hsv]; exact m.inn a ha,?_⟩
 ·rwa [List.take_take,Nat.min_eq_left ht] at ha
 ·rw [<- m0.sv,<- m.sv]
  have e:tr.drop t0 = (tr.take t).drop t0 ++ tr.drop t:=by
   have:tr.take t ++ tr.drop t = tr:=List.take_append_drop t tr
   conv=>lhs; rw [<- this]
   rw [List.drop_append_of_le_length (by rw [List.length_take]; omega)]
  rw [e,b0k]
  apply List.ext_getElem?
  intro i
  rw [List.getElem?_take,List.getElem?_take]
  by_cases hi:i < n0
  ·rw [if_pos hi,if_pos hi,a3p,a3p,List.getElem?_take,if_pos (by omega)]
  ·rw [if_neg hi,if_neg hi]
local macro_rules | `(tactic| walk_at "or1") => `(tactic| first | exact Or.inl rfl | exact Or.inr rfl)
local macro_rules | `(tactic| walk_at "stq") => `(tactic| first | refine tAsg_i ?_ | refine gName_i ?_ | refine tRet_i ?_ | refine tIfS_i ?_ | refine a8h ?_ | refine tDrop_i ?_ | refine mTest_i ?_ | refine mTrue_i ?_ | refine mTru_b ?_ | refine mB_i ?_ | refine tOp_i ?_ | refine tUn_i ?_ | refine mUn_i ?_ | refine m20_i ?_ | refine mAdd_i ?_ | refine mEq_i ?_ | refine mEq_s ?_ | refine mEq_b ?_ | refine mInS_i ?_ | (refine' mVar_i ?hv ?_; (case hv => with_unfolding_all rfl)) | refine tC_i ?_ | refine c5z ?_ | refine mAndV_i ?_ | refine mOrV_i ?_ | refine mNotV_i ?_ | refine tIf_i ?_ | refine tAnd_i ?_ | refine tOr_i ?_ | refine tNot_i ?_ | refine tCB_i ?_ | refine c6a ?_ | refine tCons_i ?_ | refine tNil_i ?_ | refine tBM_i ?_ | refine tBM0_i ?_ | refine tTup_i ?_ | refine tLst_i ?_ | refine tSl_i ?_ | refine c3j ?_ | refine mPart_i ?_ | refine mI_i ?_ | refine is_bool ?_ | refine mMin_i ?_ | refine isN_non ?_ | refine isN_ref ?_ | refine mInt_b ?_ | refine mMax_i ?_ | refine tDGet_i ?_ | refine c6d ?_ | refine sDPut_i ?_ | refine iRng2_i ?_ | refine c3v ?_ | refine gCons_i ?_ | refine gNil_i ?_ | refine c6c ?_ | (refine' mAug_i ?hw ?_; (case hw => with_unfolding_all rfl)) | refine mIAdd_i ?_ | refine tFor_i ?_ | refine tMeth_i ?_ | refine tFld_i ?_ | refine sFld_i ?_ | refine tMake_i ?_ | refine gSub_i ?_ | refine c1k ?_ | refine c1o ?_ | refine tF2n_i ?_ | refine c3v ?_ | refine iList_i ?_ | refine iTup_i ?_ | refine iRng1_i ?_ | refine tComp_i ?_ | (refine m2_i ?hc ?_; (case hc => first | (show (0 : Int) < _; decide) | exact b3l (by decide) (by decide))))
local macro_rules | `(tactic| walk_at "stp") => `(tactic| repeat (with_reducible first | refine b0z ?_ | walk_at "stq"))
local macro_rules | `(tactic| walk_at "stm") => `(tactic| repeat (with_reducible walk_at "stq"))
noncomputable def top (i:Nat):Stmt:=PySem.Challenge.pw_goaltrail_k51_boxes_made_one.main.body.getD i (.Pass ⟨0,0,0,0⟩)
noncomputable abbrev a3q:Stmt:=inClass (top 13) 0
noncomputable abbrev a3r:Stmt:=inClass (top 13) 1
noncomputable abbrev a3s:Stmt:=inClass (top 13) 2
noncomputable abbrev a2y:Stmt:=inClass (top 13) 3
noncomputable abbrev a4l:Stmt:=inClass (top 13) 4
noncomputable abbrev a2z:Stmt:=inClass (top 13) 5
noncomputable abbrev a3t:Stmt:=inClass (top 13) 6
noncomputable abbrev a4m:Stmt:=inClass (top 13) 7
noncomputable abbrev a1p:Stmt:=inClass (top 13) 8
noncomputable abbrev a3u:Stmt:=inClass (top 13) 9
noncomputable abbrev a1l:Stmt:=inClass (top 13) 10
noncomputable abbrev a3v:Stmt:=inClass (top 13) 11
noncomputable abbrev a2m:Stmt:=inClass (top 13) 12
noncomputable abbrev a3i:Stmt:=inClass (top 13) 13
noncomputable abbrev a3w:Stmt:=inClass (top 13) 14
noncomputable abbrev a1t:Stmt:=inClass (top 13) 15
noncomputable abbrev a5y:Stmt:=top 4
noncomputable abbrev b0l:Stmt:=top 7
noncomputable abbrev a5f:Stmt:=top 8
noncomputable abbrev b0m:Stmt:=top 9
noncomputable abbrev a5g:Stmt:=top 15
noncomputable abbrev a5z:Stmt:=top 16
noncomputable abbrev a4h:Stmt:=top 17
noncomputable abbrev a4n:Stmt:=top 18
noncomputable abbrev a6a:Stmt:=top 19
noncomputable abbrev a4i:Stmt:=top 20
noncomputable abbrev a6b:Stmt:=top 21
noncomputable abbrev a6c:Stmt:=top 22
noncomputable abbrev a6d:Stmt:=top 23
noncomputable abbrev a6m:Stmt:=top 24
noncomputable abbrev a3n:Stmt:=top 25
noncomputable abbrev a5h:Stmt:=top 26
noncomputable abbrev a3x:Stmt:=top 27
noncomputable abbrev a4o:Stmt:=top 28
noncomputable abbrev a6n:Stmt:=top 29
noncomputable abbrev a4j:Stmt:=top 30
noncomputable abbrev a3j:Stmt:=top 31
noncomputable abbrev a2n:Stmt:=top 32
noncomputable abbrev a6e:Stmt:=top 33
noncomputable abbrev a8z:Stmt:=top 34
theorem b7q:a0x ["self"] ["self"] (a0h a3q):=⟨rfl,rfl,rfl,by decide +kernel,rfl,by decide +kernel,by decide +kernel⟩
theorem b7r:a0x ["self","box"] ["self","box"] (a0h a3r):=⟨rfl,rfl,rfl,by decide +kernel,rfl,by decide +kernel,by decide +kernel⟩
theorem b7s:a0x ["self"] ["self"] (a0h a3s):=⟨rfl,rfl,rfl,by decide +kernel,rfl,by decide +kernel,by decide +kernel⟩
theorem b4n:a0x ["self","n"] ["self","n"] (a0h a2y):=⟨rfl,rfl,rfl,by decide +kernel,rfl,by decide +kernel,by decide +kernel⟩
theorem b9b:a0x ["self","sign","kids"] ["self","sign","kids"] (a0h a4l):=⟨rfl,rfl,rfl,by decide +kernel,rfl,by decide +kernel,by decide +kernel⟩
theorem a7f:a0x ["self","at","here"] ["self","at"] (a0h a2z):=⟨rfl,rfl,rfl,by decide +kernel,rfl,by decide +kernel,by decide +kernel⟩
theorem b1e:a0x ["self","at","here"] ["self","at"] (a0h a3t):=⟨rfl,rfl,rfl,by decide +kernel,rfl,by decide +kernel,by decide +kernel⟩
theorem a4x:a0x ["self","at","other","met","todo","told","pair","kids"] ["self","at","other"] (a0h a4m):=⟨rfl,rfl,rfl,by decide +kernel,rfl,by decide +kernel,by decide +kernel⟩
theorem a4y:a0x ["self","left","right","one","other"] ["self","left","right"] (a0h a1p):=⟨rfl,rfl,rfl,by decide +kernel,rfl,by decide +kernel,by decide +kernel⟩
theorem b7t:a0x ["self","at","other"] ["self","at","other"] (a0h a3u):=⟨rfl,rfl,rfl,by decide +kernel,rfl,by decide +kernel,by decide +kernel⟩
theorem a2v:a0x ["self","at","other","seen","todo","here"] ["self","at","other"] (a0h a1l):=⟨rfl,rfl,rfl,by decide +kernel,rfl,by decide +kernel,by decide +kernel⟩
theorem b7u:a0x ["self"] ["self"] (a0h a3v):=⟨rfl,rfl,rfl,by decide +kernel,rfl,by decide +kernel,by decide +kernel⟩
theorem b3s:a0x ["self","mark"] ["self","mark"] (a0h a2m):=⟨rfl,rfl,rfl,by decide +kernel,rfl,by decide +kernel,by decide +kernel⟩
theorem a4r:a0x ["self","at","most","count","todo","box"] ["self","at","most"] (a0h a3i):=⟨rfl,rfl,rfl,by decide +kernel,rfl,by decide +kernel,by decide +kernel⟩
theorem b7v:a0x ["self","at"] ["self","at"] (a0h a3w):=⟨rfl,rfl,rfl,by decide +kernel,rfl,by decide +kernel,by decide +kernel⟩
theorem a6f:a0x ["self","at","box","address"] ["self","at"] (a0h a1t):=⟨rfl,rfl,rfl,by decide +kernel,rfl,by decide +kernel,by decide +kernel⟩
theorem c4i:a0x ["term"] ["term"] (a0h a5y):=⟨rfl,rfl,rfl,by decide +kernel,rfl,by decide +kernel,by decide +kernel⟩
theorem sc_num:a0x ["n"] ["n"] (a0h b0l):=⟨rfl,rfl,rfl,by decide +kernel,rfl,by decide +kernel,by decide +kernel⟩
theorem c1p:a0x ["name"] ["name"] (a0h a5f):=⟨rfl,rfl,rfl,by decide +kernel,rfl,by decide +kernel,by decide +kernel⟩
theorem sc_app:a0x ["sign","kids"] ["sign","kids"] (a0h b0m):=⟨rfl,rfl,rfl,by decide +kernel,rfl,by decide +kernel,by decide +kernel⟩
theorem a6t:a0x ["_law_script","_law_many","_law_cells_here","_law_number_here"] ["_law_script","_law_many"] (a0h a5g):=⟨rfl,rfl,rfl,by decide +kernel,rfl,by decide +kernel,by decide +kernel⟩
theorem c4j:a0x ["_law_left"] ["_law_left"] (a0h a5z):=⟨rfl,rfl,rfl,by decide +kernel,rfl,by decide +kernel,by decide +kernel⟩
theorem c1q:a0x ["_law_term_here"] ["_law_term_here"] (a0h a4h):=⟨rfl,rfl,rfl,by decide +kernel,rfl,by decide +kernel,by decide +kernel⟩
theorem b9c:a0x ["_law_cell"] ["_law_cell"] (a0h a4n):=⟨rfl,rfl,rfl,by decide +kernel,rfl,by decide +kernel,by decide +kernel⟩
theorem a5i:a0x ["_law_cell","_law_at","_law_k","_law_small","_law_some","_law_word_here","_law_j","_law_n"] ["_law_cell","_law_at","_law_k"] (a0h a6a):=⟨rfl,rfl,rfl,by decide +kernel,rfl,by decide +kernel,by decide +kernel⟩
theorem c1r:a0x ["_law_cell","_law_at"] ["_law_cell","_law_at"] (a0h a4i):=⟨rfl,rfl,rfl,by decide +kernel,rfl,by decide +kernel,by decide +kernel⟩
theorem a7s:a0x ["_law_cell","_law_signs","_law_mark_here","_law_k"] ["_law_cell"] (a0h a6b):=⟨rfl,rfl,rfl,by decide +kernel,rfl,by decide +kernel,by decide +kernel⟩
theorem c4k:a0x ["_law_cell","_law_many","_law_words_here"] ["_law_cell","_law_many","_law_words_here"] (a0h a6c):=⟨rfl,rfl,rfl,by decide +kernel,rfl,by decide +kernel,by decide +kernel⟩
theorem a3b:a0x ["_law_left","_law_room","_law_words_here","_law_cell","_law_way","_law_many","_law_kids","_law_k","_law_kid"] ["_law_left","_law_room","_law_words_here"] (a0h a6d):=⟨rfl,rfl,rfl,by decide +kernel,rfl,by decide +kernel,by decide +kernel⟩
theorem b0n:a0x ["_law_term_here","_law_left","_law_values","_law_cell","_law_name"] ["_law_term_here","_law_left","_law_values"] (a0h a6m):=⟨rfl,rfl,rfl,by decide +kernel,rfl,by decide +kernel,by decide +kernel⟩
theorem b9d:a0x ["_law_term_here","_law_values"] ["_law_term_here","_law_values"] (a0h a3n):=⟨rfl,rfl,rfl,by decide +kernel,rfl,by decide +kernel,by decide +kernel⟩
theorem a7z:a0x ["_law_term_here","_law_cell","_law_words_here","_law_n","_law_sign_here","_law_kids"] ["_law_term_here","_law_cell","_law_words_here"] (a0h a5h):=⟨rfl,rfl,rfl,by decide +kernel,rfl,by decide +kernel,by decide +kernel⟩
theorem a4b:a0x ["_law_one","_law_other_here","_law_left","_law_words_here","_law_cell","_law_many","_law_k","_law_at","_law_kid"] ["_law_one","_law_other_here","_law_left","_law_words_here"] (a0h a3x):=⟨rfl,rfl,rfl,by decide +kernel,rfl,by decide +kernel,by decide +kernel⟩
theorem a5s:a0x ["_law_one","_law_other_here","_law_cell","_law_many","_law_k","_law_at","_law_kid"] ["_law_one","_law_other_here","_law_cell"] (a0h a4o):=⟨rfl,rfl,rfl,by decide +kernel,rfl,by decide +kernel,by decide +kernel⟩
theorem b7w:a0x ["_law_heap","_law_term_here","_law_known","_law_kids"] ["_law_heap","_law_term_here","_law_known"] (a0h a6n):=⟨rfl,rfl,rfl,by decide +kernel,rfl,by decide +kernel,by decide +kernel⟩
theorem c1s:a0x ["_law_term_here","_law_names"] ["_law_term_here","_law_names"] (a0h a4j):=⟨rfl,rfl,rfl,by decide +kernel,rfl,by decide +kernel,by decide +kernel⟩
theorem a5u:a0x ["_law_heap","_law_places","_law_terms","_law_known","_law_names","_law_name","_law_k"] ["_law_heap","_law_places","_law_terms","_law_known"] (a0h a3j):=⟨rfl,rfl,rfl,by decide +kernel,rfl,by decide +kernel,by decide +kernel⟩
theorem a2e:a0x ["_law_heap","_law_places","_law_known","_law_values","_law_names","_law_name","_law_whole","_law_most","_law_seen"] ["_law_heap","_law_places","_law_known","_law_values"] (a0h a2n):=⟨rfl,rfl,rfl,by decide +kernel,rfl,by decide +kernel,by decide +kernel⟩
theorem c4l:a0x ["_law_heap","_law_places","_law_other_here","_law_turned"] ["_law_heap","_law_places","_law_other_here","_law_turned"] (a0h a6e):=⟨rfl,rfl,rfl,by decide +kernel,rfl,by decide +kernel,by decide +kernel⟩
theorem a2j:a0x ["_law_script","_law_cells_here","_law_words_here","_law_left","_law_term_here","_law_values","_law_one","_law_other_here","_law_spoiled_here","_law_terms","_law_heap","_law_known","_law_places","_law_some","_law_note","_law_k","_law_way","_law_could"] ["_law_script"] (a0h a8z):=⟨rfl,rfl,rfl,by decide +kernel,rfl,by decide +kernel,by decide +kernel⟩
set_option genInjectivity false in
structure Ad where
 k_TrailError:Addr
 k_Big:Addr
 k_Heap:Addr
 a_Heap_init:Addr
 d_Heap_init:FuncData
 a_Heap_made:Addr
 d_Heap_made:FuncData
 a_Heap_free:Addr
 d_Heap_free:FuncData
 a_Heap_number:Addr
 d_Heap_number:FuncData
 a_Heap_app:Addr
 d_Heap_app:FuncData
 a_Heap_end_of:Addr
 d_Heap_end_of:FuncData
 a_Heap_look:Addr
 d_Heap_look:FuncData
 a_Heap_one:Addr
 d_Heap_one:FuncData
 a_Heap_kids_of_one:Addr
 d_Heap_kids_of_one:FuncData
 a_Heap_bind:Addr
 d_Heap_bind:FuncData
 a_Heap_stands_within:Addr
 d_Heap_stands_within:FuncData
 a_Heap_mark:Addr
 d_Heap_mark:FuncData
 a_Heap_back_to:Addr
 d_Heap_back_to:FuncData
 a_Heap_parts:Addr
 d_Heap_parts:FuncData
 a_Heap_term:Addr
 d_Heap_term:FuncData
 a_Heap_read_out:Addr
 d_Heap_read_out:FuncData
 a_key_of:Addr
 d_key_of:FuncData
 a_num:Addr
 d_num:FuncData
 a_unknown:Addr
 d_unknown:FuncData
 a_app:Addr
 d_app:FuncData
 a_l_cells:Addr
 d_l_cells:FuncData
 a_l_next:Addr
 d_l_next:FuncData
 a_l_parts:Addr
 d_l_parts:FuncData
 a_l_number:Addr
 d_l_number:FuncData
 a_l_word:Addr
 d_l_word:FuncData
 a_l_words:Addr
 d_l_words:FuncData
 a_l_mark:Addr
 d_l_mark:FuncData
 a_l_sign:Addr
 d_l_sign:FuncData
 a_l_term:Addr
 d_l_term:FuncData
 a_l_dug:Addr
 d_l_dug:FuncData
 a_l_put_in:Addr
 d_l_put_in:FuncData
 a_l_other:Addr
 d_l_other:FuncData
 a_l_spoiled:Addr
 d_l_spoiled:FuncData
 a_l_ringed:Addr
 d_l_ringed:FuncData
 a_l_put:Addr
 d_l_put:FuncData
 a_l_named:Addr
 d_l_named:FuncData
 a_l_all_read:Addr
 d_l_all_read:FuncData
 a_l_open_right:Addr
 d_l_open_right:FuncData
 a_l_turn:Addr
 d_l_turn:FuncData
 a_law:Addr
 d_law:FuncData
 c_FREE:Addr
 t_MOST_PARTS:Tok
structure Txt (K:W.Frag) (mg:Str->Option Value) (t:Ad):Prop where
 m_TrailError:mg "TrailError" = some (.ref t.k_TrailError)
 m_Big:mg "Big" = some (.ref t.k_Big)
 m_Heap:mg "Heap" = some (.ref t.k_Heap)
 cl_Heap:Cls K t.k_Heap
 no_Heap_boxes:a5q K t.k_Heap "boxes"
 no_Heap_trail:a5q K t.k_Heap "trail"
 mk_Heap:Mk K t.k_Heap t.a_Heap_init
 me_Heap_made:Meth K t.k_Heap "made" t.a_Heap_made
 me_Heap_free:Meth K t.k_Heap "free" t.a_Heap_free
 me_Heap_number:Meth K t.k_Heap "number" t.a_Heap_number
 me_Heap_app:Meth K t.k_Heap "app" t.a_Heap_app
 me_Heap_end_of:Meth K t.k_Heap "end_of" t.a_Heap_end_of
 me_Heap_look:Meth K t.k_Heap "look" t.a_Heap_look
 me_Heap_one:Meth K t.k_Heap "one" t.a_Heap_one
 me_Heap_kids_of_one:Meth K t.k_Heap "kids_of_one" t.a_Heap_kids_of_one
 me_Heap_bind:Meth K t.k_Heap "bind" t.a_Heap_bind
 me_Heap_stands_within:Meth K t.k_Heap "stands_within" t.a_Heap_stands_within
 me_Heap_mark:Meth K t.k_Heap "mark" t.a_Heap_mark
 me_Heap_back_to:Meth K t.k_Heap "back_to" t.a_Heap_back_to
 me_Heap_parts:Meth K t.k_Heap "parts" t.a_Heap_parts
 me_Heap_term:Meth K t.k_Heap "term" t.a_Heap_term
 me_Heap_read_out:Meth K t.k_Heap "read_out" t.a_Heap_read_out
 F_Heap_init:Fun K "__init__" "Heap.__init__" a3q t.a_Heap_init t.d_Heap_init
 b_Heap_init:Binds K t.d_Heap_init ["self"] []
 F_Heap_made:Fun K "made" "Heap.made" a3r t.a_Heap_made t.d_Heap_made
 b_Heap_made:Binds K t.d_Heap_made ["self","box"] []
 F_Heap_free:Fun K "free" "Heap.free" a3s t.a_Heap_free t.d_Heap_free
 b_Heap_free:Binds K t.d_Heap_free ["self"] []
 F_Heap_number:Fun K "number" "Heap.number" a2y t.a_Heap_number t.d_Heap_number
 b_Heap_number:Binds K t.d_Heap_number ["self","n"] []
 F_Heap_app:Fun K "app" "Heap.app" a4l t.a_Heap_app t.d_Heap_app
 b_Heap_app:Binds K t.d_Heap_app ["self","sign","kids"] []
 F_Heap_end_of:Fun K "end_of" "Heap.end_of" a2z t.a_Heap_end_of t.d_Heap_end_of
 b_Heap_end_of:Binds K t.d_Heap_end_of ["self","at"] []
 F_Heap_look:Fun K "look" "Heap.look" a3t t.a_Heap_look t.d_Heap_look
 b_Heap_look:Binds K t.d_Heap_look ["self","at"] []
 F_Heap_one:Fun K "one" "Heap.one" a4m t.a_Heap_one t.d_Heap_one
 b_Heap_one:Binds K t.d_Heap_one ["self","at","other"] []
 F_Heap_kids_of_one:Fun K "kids_of_one" "Heap.kids_of_one" a1p t.a_Heap_kids_of_one t.d_Heap_kids_of_one
 b_Heap_kids_of_one:Binds K t.d_Heap_kids_of_one ["self","left","right"] []
 F_Heap_bind:Fun K "bind" "Heap.bind" a3u t.a_Heap_bind t.d_Heap_bind
 b_Heap_bind:Binds K t.d_Heap_bind ["self","at","other"] []
 F_Heap_stands_within:Fun K "stands_within" "Heap.stands_within" a1l t.a_Heap_stands_within t.d_Heap_stands_within
 b_Heap_stands_within:Binds K t.d_Heap_stands_within ["self","at","other"] []
 F_Heap_mark:Fun K "mark" "Heap.mark" a3v t.a_Heap_mark t.d_Heap_mark
 b_Heap_mark:Binds K t.d_Heap_mark ["self"] []
 F_Heap_back_to:Fun K "back_to" "Heap.back_to" a2m t.a_Heap_back_to t.d_Heap_back_to
 b_Heap_back_to:Binds K t.d_Heap_back_to ["self","mark"] []
 F_Heap_parts:Fun K "parts" "Heap.parts" a3i t.a_Heap_parts t.d_Heap_parts
 b_Heap_parts:Binds K t.d_Heap_parts ["self","at","most"] []
 F_Heap_term:Fun K "term" "Heap.term" a3w t.a_Heap_term t.d_Heap_term
 b_Heap_term:Binds K t.d_Heap_term ["self","at"] []
 F_Heap_read_out:Fun K "read_out" "Heap.read_out" a1t t.a_Heap_read_out t.d_Heap_read_out
 b_Heap_read_out:Binds K t.d_Heap_read_out ["self","at"] []
 F_key_of:Fun K "key_of" "key_of" a5y t.a_key_of t.d_key_of
 b_key_of:Binds K t.d_key_of ["term"] []
 m_key_of:mg "key_of" = some (.ref t.a_key_of)
 F_num:Fun K "num" "num" b0l t.a_num t.d_num
 b_num:Binds K t.d_num ["n"] []
 m_num:mg "num" = some (.ref t.a_num)
 F_unknown:Fun K "unknown" "unknown" a5f t.a_unknown t.d_unknown
 b_unknown:Binds K t.d_unknown ["name"] []
 m_unknown:mg "unknown" = some (.ref t.a_unknown)
 F_app:Fun K "app" "app" b0m t.a_app t.d_app
 b_app:Binds K t.d_app ["sign","kids"] []
 m_app:mg "app" = some (.ref t.a_app)
 F_l_cells:Fun K "_law_cells" "_law_cells" a5g t.a_l_cells t.d_l_cells
 b_l_cells:Binds K t.d_l_cells ["_law_script","_law_many"] []
 m_l_cells:mg "_law_cells" = some (.ref t.a_l_cells)
 F_l_next:Fun K "_law_next" "_law_next" a5z t.a_l_next t.d_l_next
 b_l_next:Binds K t.d_l_next ["_law_left"] []
 m_l_next:mg "_law_next" = some (.ref t.a_l_next)
 F_l_parts:Fun K "_law_parts" "_law_parts" a4h t.a_l_parts t.d_l_parts
 b_l_parts:Binds K t.d_l_parts ["_law_term_here"] []
 m_l_parts:mg "_law_parts" = some (.ref t.a_l_parts)
 F_l_number:Fun K "_law_number" "_law_number" a4n t.a_l_number t.d_l_number
 b_l_number:Binds K t.d_l_number ["_law_cell"] []
 m_l_number:mg "_law_number" = some (.ref t.a_l_number)
 F_l_word:Fun K "_law_word" "_law_word" a6a t.a_l_word t.d_l_word
 b_l_word:Binds K t.d_l_word ["_law_cell","_law_at","_law_k"] []
 m_l_word:mg "_law_word" = some (.ref t.a_l_word)
 F_l_words:Fun K "_law_words" "_law_words" a4i t.a_l_words t.d_l_words
 b_l_words:Binds K t.d_l_words ["_law_cell","_law_at"] []
 m_l_words:mg "_law_words" = some (.ref t.a_l_words)
 F_l_mark:Fun K "_law_mark" "_law_mark" a6b t.a_l_mark t.d_l_mark
 b_l_mark:Binds K t.d_l_mark ["_law_cell"] []
 m_l_mark:mg "_law_mark" = some (.ref t.a_l_mark)
 F_l_sign:Fun K "_law_sign" "_law_sign" a6c t.a_l_sign t.d_l_sign
 b_l_sign:Binds K t.d_l_sign ["_law_cell","_law_many","_law_words_here"] []
 m_l_sign:mg "_law_sign" = some (.ref t.a_l_sign)
 F_l_term:Fun K "_law_term" "_law_term" a6d t.a_l_term t.d_l_term
 b_l_term:Binds K t.d_l_term ["_law_left","_law_room","_law_words_here"] []
 m_l_term:mg "_law_term" = some (.ref t.a_l_term)
 F_l_dug:Fun K "_law_dug" "_law_dug" a6m t.a_l_dug t.d_l_dug
 b_l_dug:Binds K t.d_l_dug ["_law_term_here","_law_left","_law_values"] []
 m_l_dug:mg "_law_dug" = some (.ref t.a_l_dug)
 F_l_put_in:Fun K "_law_put_in" "_law_put_in" a3n t.a_l_put_in t.d_l_put_in
 b_l_put_in:Binds K t.d_l_put_in ["_law_term_here","_law_values"] []
 m_l_put_in:mg "_law_put_in" = some (.ref t.a_l_put_in)
 F_l_other:Fun K "_law_other" "_law_other" a5h t.a_l_other t.d_l_other
 b_l_other:Binds K t.d_l_other ["_law_term_here","_law_cell","_law_words_here"] []
 m_l_other:mg "_law_other" = some (.ref t.a_l_other)
 F_l_spoiled:Fun K "_law_spoiled" "_law_spoiled" a3x t.a_l_spoiled t.d_l_spoiled
 b_l_spoiled:Binds K t.d_l_spoiled ["_law_one","_law_other_here","_law_left","_law_words_here"] []
 m_l_spoiled:mg "_law_spoiled" = some (.ref t.a_l_spoiled)
 F_l_ringed:Fun K "_law_ringed" "_law_ringed" a4o t.a_l_ringed t.d_l_ringed
 b_l_ringed:Binds K t.d_l_ringed ["_law_one","_law_other_here","_law_cell"] []
 m_l_ringed:mg "_law_ringed" = some (.ref t.a_l_ringed)
 F_l_put:Fun K "_law_put" "_law_put" a6n t.a_l_put t.d_l_put
 b_l_put:Binds K t.d_l_put ["_law_heap","_law_term_here","_law_known"] []
 m_l_put:mg "_law_put" = some (.ref t.a_l_put)
 F_l_named:Fun K "_law_named" "_law_named" a4j t.a_l_named t.d_l_named
 b_l_named:Binds K t.d_l_named ["_law_term_here","_law_names"] []
 m_l_named:mg "_law_named" = some (.ref t.a_l_named)
 F_l_all_read:Fun K "_law_all_read" "_law_all_read" a3j t.a_l_all_read t.d_l_all_read
 b_l_all_read:Binds K t.d_l_all_read ["_law_heap","_law_places","_law_terms","_law_known"] []
 m_l_all_read:mg "_law_all_read" = some (.ref t.a_l_all_read)
 F_l_open_right:Fun K "_law_open_right" "_law_open_right" a2n t.a_l_open_right t.d_l_open_right
 b_l_open_right:Binds K t.d_l_open_right ["_law_heap","_law_places","_law_known","_law_values"] []
 m_l_open_right:mg "_law_open_right" = some (.ref t.a_l_open_right)
 F_l_turn:Fun K "_law_turn" "_law_turn" a6e t.a_l_turn t.d_l_turn
 b_l_turn:Binds K t.d_l_turn ["_law_heap","_law_places","_law_other_here","_law_turned"] []
 m_l_turn:mg "_law_turn" = some (.ref t.a_l_turn)
 F_law:Fun K "law" "law" a8z t.a_law t.d_law
 b_law:Binds K t.d_law ["_law_script"] []
 m_law:mg "law" = some (.ref t.a_law)
 m_app_terms:mg "app_terms" = some (.ref t.a_app)
 n_bool:mg "bool" = none
 n_int:mg "int" = none
 n_isinstance:mg "isinstance" = none
 n_len:mg "len" = none
 n_list:mg "list" = none
 n_max:mg "max" = none
 n_min:mg "min" = none
 n_range:mg "range" = none
 n_reversed:mg "reversed" = none
 n_str:mg "str" = none
 n_sum:mg "sum" = none
 n_tuple:mg "tuple" = none
 n_zip:mg "zip" = none
 m_FREE:mg "FREE" = some (.ref t.c_FREE)
 q_FREE:∀ H:Hp,SqT K H t.c_FREE [.str (PySem.Str.ofString "free")]
 m_MOST_PARTS:mg "MOST_PARTS" = some (.int 40 t.t_MOST_PARTS)
theorem nil_or_snoc' {α:Type} (l:List α):l = []\/∃ r x,l = r ++ [x]:=by
 cases l.eq_nil_or_concat with
 | inl h=>exact .inl h
 | inr h=>obtain ⟨r,x,h⟩:=h; exact .inr ⟨r,x,by simpa using h⟩
noncomputable abbrev a4s:Str:=Str.ofString "boxes"
noncomputable abbrev b7x:Str:=Str.ofString "trail"
noncomputable abbrev a5p:Str:=Str.ofString "free"
noncomputable abbrev toS:Str:=Str.ofString "to"
noncomputable abbrev nsV (ks:List Nat):List V:=ks.map fun k:Nat=>V.int (k:Int)
noncomputable abbrev nsD (ks:List Nat):List PyData:=ks.map fun k:Nat=>PyData.int (k:Int)
noncomputable def Bx.data:Bx->PyData
 | .free=>.tuple [.str a5p]
 | .num n=>.tuple [.str numS,.int n]
 | .app s ks=>.tuple [.str appS,.str s,.tuple (nsD ks)]
 | .to b=>.tuple [.str toS,.int (b:Int)]
noncomputable def Bx.lw:Bx->PyData
 | .num n=>.tuple [.str numS,.int n,.tuple []]
 | b=>b.data
noncomputable def Bx.key:Bx->List Key
 | .num n=>[.inr numS,.inl n]
 | .app s ks=>[.inr appS,.inr s,.inl (ks.length:Int)]
 | _=>[]
noncomputable def Bx.seen (a:Nat):Bx->PyData
 | .free=>.tuple [.str a5p,.int a]
 | b=>b.data
noncomputable def Bx.kind:Bx->Str
 | .free=>a5p
 | .num _=>numS
 | .app _ _=>appS
 | .to _=>toS
noncomputable def Bx.isTo:Bx->Bool
 | .to _=>true
 | _=>false
noncomputable def Bx.isApp:Bx->Bool
 | .app _ _=>true
 | _=>false
noncomputable def fsH (pb pt:Addr):List (Str × V):=[(a4s,.ref pb),(b7x,.ref pt)]
theorem a1q (pb pt:Addr):(fsH pb pt).lookup (Str.ofString "boxes") = some (.ref pb):=by
 simp only [fsH,List.lookup,show (Str.ofString "boxes" == a4s) = true by decide +kernel]
theorem b0o (pb pt:Addr):(fsH pb pt).lookup (Str.ofString "trail") = some (.ref pt):=by
 simp only [fsH,List.lookup,show (Str.ofString "trail" == a4s) = false by decide +kernel,show (Str.ofString "trail" == b7x) = true by decide +kernel]
theorem a1n {pb pt:Addr} {m:Str} (h1:(m == a4s) = false:=by decide +kernel) (h2:(m == b7x) = false:=by decide +kernel):(fsH pb pt).lookup m = none:=by
 simp only [fsH,List.lookup,h1,h2]
structure HS (K:W.Frag) (C:Addr) (H:Hp) (x pb pt:Addr) (bs:Bs) (tr:List Nat):Prop where
 ob:∃ dx,H x = some (.ins C dx (fsH pb pt))
 bx:∃ us,H pb = some (.lst us)/\DenL K H us (bs.map Bx.data)
 trl:H pt = some (.lst (nsV tr))
 ne:pb ≠ pt
noncomputable def HFr (pb pt:Addr) (H H':Hp):Prop:=∀ b o,b ≠ pb->b ≠ pt->H b = some o->H' b = some o
theorem HFr.refl (pb pt:Addr) (H:Hp):HFr pb pt H H:=fun _ _ _ _ e=>e
theorem HFr.trans {pb pt:Addr} {H H1 H2:Hp} (a:HFr pb pt H H1) (b:HFr pb pt H1 H2):HFr pb pt H H2:=fun c o h h2 e=>b c o h h2 (a c o h h2 e)
theorem HFr.of {pb pt:Addr} {H H':Hp} (s:Same H H'):HFr pb pt H H':=fun b o _ _ e=>s b o e
theorem tup_fr {K:W.Frag} {pb pt:Addr} {H H':Hp} {ys zs:List V} (h:H pb = some (.lst ys)) (h2:H pt = some (.lst zs)) (f:HFr pb pt H H'):∀ a xs,SqT K H a xs->SqT K H' a xs:=fun a xs q=>by
 rcases q with (q | ⟨o,q⟩) | q
 ·exact .inl (.inl (f _ _ (fun z=>by rw [z,h] at q; cases q) (fun z=>by rw [z,h2] at q; cases q) q))
 ·exact .inl (.inr ⟨o,f _ _ (fun z=>by rw [z,h] at q; cases q) (fun z=>by rw [z,h2] at q; cases q) q⟩)
 ·exact .inr q
section
variable {K:W.Frag} {C:Addr} {H H':Hp} {x pb pt:Addr} {bs:Bs} {tr:List Nat}
theorem HS.tup (w:HS K C H x pb pt bs tr) (f:HFr pb pt H H'):∀ a xs,SqT K H a xs->SqT K H' a xs:=by
 obtain ⟨us,h,_⟩:=w.bx
 exact tup_fr h w.trl f
theorem HS.same (w:HS K C H x pb pt bs tr) (s:Same H H'):HS K C H' x pb pt bs tr:=by
 obtain ⟨⟨dx,h1⟩,⟨us,h2,h3⟩,h4,h5⟩:=w
 exact ⟨⟨dx,s _ _ h1⟩,⟨us,s _ _ h2,h3.mono s⟩,s _ _ h4,h5⟩
theorem HS.upB {vs:List V} {bs':Bs} (w:HS K C H x pb pt bs tr) (hv:DenL K H vs (bs'.map Bx.data)):HS K C (upd H pb (.lst vs)) x pb pt bs' tr/\HFr pb pt H (upd H pb (.lst vs)):=by
 have f:HFr pb pt H (upd H pb (.lst vs)):=fun b o hb _ e=>by rw [a0j hb]; exact e
 obtain ⟨us,h2,h3⟩:=w.bx
 obtain ⟨dx,h1⟩:=w.ob
 refine ⟨⟨⟨dx,f _ _ (fun z=>by rw [z,h2] at h1; cases h1) (fun z=>by rw [z,w.trl] at h1; cases h1) h1⟩,⟨vs,a0b,hv.monoT (w.tup f)⟩,by rw [a0j (Ne.symm w.ne)]; exact w.trl,w.ne⟩,f⟩
theorem HS.upT {tr':List Nat} (w:HS K C H x pb pt bs tr):HS K C (upd H pt (.lst (nsV tr'))) x pb pt bs tr'/\HFr pb pt H (upd H pt (.lst (nsV tr'))):=by
 have f:HFr pb pt H (upd H pt (.lst (nsV tr'))):=fun b o _ hb e=>by rw [a0j hb]; exact e
 obtain ⟨us,h2,h3⟩:=w.bx
 obtain ⟨dx,h1⟩:=w.ob
 refine ⟨⟨⟨dx,f _ _ (fun z=>by rw [z,h2] at h1; cases h1) (fun z=>by rw [z,w.trl] at h1; cases h1) h1⟩,⟨us,by rw [a0j w.ne]; exact h2,h3.monoT (w.tup f)⟩,a0b,w.ne⟩,f⟩
theorem b1f {us:List V} {n:Nat} {b:Bx} {f:Bx->PyData} (h3:DenL K H us (bs.map f)) (e:bs[n]? = some b):∃ u,us[n]? = some u/\atI us (n:Int) = some u/\Den K H u (f b):=by
 have hl:us.length = bs.length:=by rw [h3.length,List.length_map]
 have hn:=(List.getElem?_eq_some_iff.mp e).1
 obtain ⟨u,e1,e2⟩:=a5r (xs:=us) (i:=(n:Int)) (by omega) (by omega)
 have e2':us[n]? = some u:=by simpa using e2
 obtain ⟨d,e3,e4⟩:=h3.get e2'
 rw [List.getElem?_map,e] at e3
 cases e3
 exact ⟨u,e2',e1,e4⟩
theorem a6g {us:List V} {f:Bx->PyData} (h3:DenL K H us (bs.map f)):us.length = bs.length:=by rw [h3.length,List.length_map]
end
theorem c0j {K:W.Frag} {H:Hp}:∀ {us:List V} {ks:List Nat},DenL K H us (nsD ks)->us = nsV ks
 | _,[],h=>by cases h; rfl
 | _,k :: ks,h=>by
  cases h with
  | cons h1 r=>cases h1; rw [c0j r]; rfl
theorem c4m {K:W.Frag} {H:Hp}:∀ ks:List Nat,DenL K H (nsV ks) (nsD ks)
 | []=>.nil
 | k :: ks=>.cons (.int _) (c4m ks)
theorem c6t {K:W.Frag} {H:Hp} {u:V} (h:Den K H u (.tuple [.str a5p])):∃ a,u = .ref a/\SqT K H a [.str a5p]:=by
 cases h with
 | tup hs hl=>cases hl with | cons h1 r=>cases h1; cases r; exact ⟨_,rfl,hs⟩
theorem b3t {K:W.Frag} {H:Hp} {u:V} {s:Str} {n:Int} (h:Den K H u (.tuple [.str s,.int n])):∃ a,u = .ref a/\SqT K H a [.str s,.int n]:=by
 cases h with
 | tup hs hl=>cases hl with | cons h1 r=>cases h1; cases r with | cons h2 r=>cases h2; cases r; exact ⟨_,rfl,hs⟩
theorem a6h {K:W.Frag} {H:Hp} {u:V} {s:Str} {ks:List Nat} (h:Den K H u (.tuple [.str appS,.str s,.tuple (nsD ks)])):∃ a b,u = .ref a/\SqT K H a [.str appS,.str s,.ref b]/\SqT K H b (nsV ks):=by
 cases h with
 | tup hs hl=>
  cases hl with
  | cons h1 r=>
   cases h1
   cases r with
   | cons h2 r=>
    cases h2
    cases r with
    | cons h3 r=>
     cases r
     cases h3 with
     | tup hs3 hl3=>
      rw [c0j hl3] at hs3
      exact ⟨_,_,rfl,hs,hs3⟩
theorem atI0 {x:V} {r:List V}:atI (x :: r) 0 = some x:=by
 obtain ⟨v,e1,e2⟩:=a5r (xs:=x :: r) (i:=0) (by omega) (by rw [List.length_cons]; omega)
 rw [e1]
 simpa using e2.symm
theorem a8w {K:W.Frag} {H:Hp} {u:V}:∀ {b:Bx},Den K H u b.data->∃ a us,u = .ref a/\SqT K H a (.str b.kind :: us)/\(decide (b.kind = a5p) && us.isEmpty) = b.isFree
 | .free,h=>by obtain ⟨a,rfl,hs⟩:=c6t h; exact ⟨a,[],rfl,hs,by decide +kernel⟩
 | .num n,h=>by obtain ⟨a,rfl,hs⟩:=b3t h; exact ⟨a,_,rfl,hs,by simp [Bx.isFree]⟩
 | .app s ks,h=>by obtain ⟨a,b,rfl,hs,_⟩:=a6h h; exact ⟨a,_,rfl,hs,by simp [Bx.isFree]⟩
 | .to b,h=>by obtain ⟨a,rfl,hs⟩:=b3t h; exact ⟨a,_,rfl,hs,by simp [Bx.isFree]⟩
theorem kind_to:∀ b:Bx,decide (b.kind = Str.ofString "to") = b.isTo
 | .free=>by decide +kernel
 | .num _=>show decide (numS = Str.ofString "to") = false by decide +kernel
 | .app _ _=>show decide (appS = Str.ofString "to") = false by decide +kernel
 | .to _=>show decide (toS = Str.ofString "to") = true by decide +kernel
theorem c6u:∀ b:Bx,decide (b.kind = Str.ofString "app") = b.isApp
 | .free=>by decide +kernel
 | .num _=>show decide (numS = Str.ofString "app") = false by decide +kernel
 | .app _ _=>show decide (appS = Str.ofString "app") = true by decide +kernel
 | .to _=>show decide (toS = Str.ofString "app") = false by decide +kernel
theorem End.box {bs:Bs} {a c:Nat} {x:Bx} (h:End bs a c) (e:bs[c]? = some x):x.isTo = false:=by
 obtain ⟨y,e2,n⟩:=h.is
 rw [e] at e2
 cases e2
 cases x <;> first | rfl | exact absurd rfl (n _)
noncomputable abbrev prD (p:Nat × Nat):PyData:=.tuple [.int (p.1:Int),.int (p.2:Int)]
noncomputable def PL (K:W.Frag) (H:Hp) (p:Addr) (l:List (Nat × Nat)):Prop:=∃ us,H p = some (.lst us)/\DenL K H us (l.map prD)
noncomputable abbrev a9a (K:W.Frag):Sp:=fun vs H Q _=>match vs with | [.ref a]=>∃ b:Bx,Den K H (.ref a) b.data/\b.isFree = false/\(∀ c,b ≠ .to c)/\(∀ s ks,b = .app s ks->ks.length<=4)/\∀ (p:Addr) (H':Hp),Same H H'->SqT K H' p (b.key.map kV)->Q (.ref p) H' | _=>False
noncomputable abbrev a6u (K:W.Frag) (C:Addr):Sp:=fun vs H Q _=>match vs with | [.ref x]=>∃ dx,H x = some (.ins C dx [])/\∀ (pb pt:Addr) (H':Hp),HS K C H' x pb pt [] []->(∀ b o,b ≠ x->H b = some o->H' b = some o)->H pb = none->H pt = none->Q .non H' | _=>False
noncomputable abbrev a4c (K:W.Frag) (C:Addr):Sp:=fun vs H Q _=>match vs with | [.ref x,v]=>∃ (dx pb pt:Addr) (us:List V),H x = some (.ins C dx (fsH pb pt))/\H pb = some (.lst us)/\us.length<=1000/\Q (.int (us.length:Int)) (upd H pb (.lst (us ++ [v]))) | _=>False
noncomputable abbrev a5j (K:W.Frag) (C:Addr):Sp:=fun vs H Q _=>match vs with | [.ref x]=>∃ (pb pt:Addr) (bs:Bs) (tr:List Nat),HS K C H x pb pt bs tr/\bs.length<=900/\∀ H',HFr pb pt H H'->HS K C H' x pb pt (bs ++ [.free]) tr->Q (.int (bs.length:Int)) H' | _=>False
noncomputable abbrev a4d (K:W.Frag) (C:Addr):Sp:=fun vs H Q _=>match vs with | [.ref x,.int n]=>∃ (pb pt:Addr) (bs:Bs) (tr:List Nat),HS K C H x pb pt bs tr/\bs.length<=900/\∀ H',HFr pb pt H H'->HS K C H' x pb pt (bs ++ [.num n]) tr->Q (.int (bs.length:Int)) H' | _=>False
noncomputable abbrev a5t (K:W.Frag) (C:Addr):Sp:=fun vs H Q _=>match vs with | [.ref x,.str s,.ref p]=>∃ (pb pt:Addr) (bs:Bs) (tr ks:List Nat),HS K C H x pb pt bs tr/\bs.length<=900/\ks.length<=4/\SqL K H p (nsV ks)/\∀ H',HFr pb pt H H'->HS K C H' x pb pt (bs ++ [.app s ks]) tr->Q (.int (bs.length:Int)) H' | _=>False
noncomputable abbrev a3g (K:W.Frag) (C:Addr):Sp:=fun vs H Q _=>match vs with | [.ref x,.int a]=>∃ (pb pt:Addr) (bs:Bs) (tr:List Nat) (n e:Nat),HS K C H x pb pt bs tr/\Wf bs/\a = (n:Int)/\End bs n e/\Q (.int (e:Int)) H | _=>False
noncomputable abbrev a4e (K:W.Frag) (C:Addr):Sp:=fun vs H Q _=>match vs with | [.ref x,.int a]=>∃ (pb pt:Addr) (bs:Bs) (tr:List Nat) (n e:Nat) (b:Bx),HS K C H x pb pt bs tr/\Wf bs/\a = (n:Int)/\End bs n e/\bs[e]? = some b/\∀ (v:V) (H':Hp),Same H H'->Den K H' v (b.seen e)->Q v H' | _=>False
noncomputable abbrev a7l (K:W.Frag) (C:Addr):Sp:=fun vs H Q _=>match vs with | [.ref x,.int a,.int b]=>∃ (pb pt:Addr) (bs:Bs) (tr:List Nat) (n m k:Nat) (bs':Bs) (r:Bool),HS K C H x pb pt bs tr/\a = (n:Int)/\b = (m:Int)/\Lim bs [(n,m)]/\tr.length<=6000/\Run k bs [(n,m)] bs' r/\∀ (tr':List Nat) (H':Hp),HFr pb pt H H'->HS K C H' x pb pt bs' tr'->Up bs tr bs' tr'->tr'.length<=tr.length + 128->Q (.bl r) H' | _=>False
noncomputable abbrev a3k (K:W.Frag) (C:Addr):Sp:=fun vs H Q _=>match vs with | [.ref x,.int a0,.int b0]=>∃ (pb pt:Addr) (bs:Bs) (tr:List Nat) (a b:Nat),HS K C H x pb pt bs tr/\bs.length<=128/\Wf bs/\a0 = (a:Int)/\b0 = (b:Int)/\End bs a a/\End bs b b/\a ≠ b/\tr.length<=10000/\(stp bs a b = none->∀ H',Same H H'->Q .non H')/\(∀ bs1 l,stp bs a b = some (bs1,l)->∀ (p:Addr) (tr':List Nat) (H':Hp),HFr pb pt H H'->HS K C H' x pb pt bs1 tr'->((bs1 = bs/\tr' = tr)\/∃ c d,bs[c]? = some .free/\bs1 = bs.set c (.to d)/\tr' = tr ++ [c])->PL K H' p l->Q (.ref p) H') | _=>False
noncomputable abbrev a6v (K:W.Frag) (C:Addr):Sp:=fun vs H Q _=>match vs with | [.ref x,.int a0,.int b0]=>∃ (pb pt:Addr) (bs:Bs) (tr:List Nat) (a b:Nat),HS K C H x pb pt bs tr/\bs.length<=128/\Wf bs/\a0 = (a:Int)/\b0 = (b:Int)/\bs[a]? = some .free/\End bs b b/\tr.length<=10000/\(Rch bs b a->∀ H',Same H H'->Q .non H')/\(¬ Rch bs b a->∀ (p:Addr) (H':Hp),HFr pb pt H H'->HS K C H' x pb pt (bs.set a (.to b)) (tr ++ [a])->H' p = some (.lst [])->Q (.ref p) H') | _=>False
noncomputable abbrev a2w (K:W.Frag) (C:Addr):Sp:=fun vs H Q _=>match vs with | [.ref x,.int a0,.int b0]=>∃ (pb pt:Addr) (bs:Bs) (tr:List Nat) (a b:Nat),HS K C H x pb pt bs tr/\bs.length<=128/\Wf bs/\a0 = (a:Int)/\b0 = (b:Int)/\End bs a a/\b < bs.length/\∀ (r:Bool) (H':Hp),Same H H'->(r = true ↔ Rch bs b a)->Q (.bl r) H' | _=>False
noncomputable abbrev a6w (K:W.Frag) (C:Addr):Sp:=fun vs H Q _=>match vs with | [.ref x]=>∃ (pb pt:Addr) (bs:Bs) (tr:List Nat),HS K C H x pb pt bs tr/\∀ (p:Addr) (H':Hp),Same H H'->SqT K H' p [.int (bs.length:Int),.int (tr.length:Int)]->Q (.ref p) H' | _=>False
noncomputable abbrev a4z (K:W.Frag) (C:Addr):Sp:=fun vs H Q _=>match vs with | [.ref x,.ref p]=>∃ (pb pt:Addr) (bs:Bs) (tr:List Nat) (n t:Nat) (sv:Bs),HS K C H x pb pt bs tr/\SqT K H p [.int (n:Int),.int (t:Int)]/\Mrk bs tr n t sv/\∀ H',HFr pb pt H H'->HS K C H' x pb pt sv (tr.take t)->Q .non H' | _=>False
theorem b1g {i:Int} (h0:-(10 ^ 12) < i) (h1:i < 10 ^ 12):i.natAbs.log2 < 1920/\(Str.ofString (toString i)).length<=1000:=by
 have hn:i.natAbs < 10 ^ 12:=by omega
 refine ⟨?_,?_⟩
 ·by_cases h:i.natAbs = 0
  ·rw [h]; decide
  ·exact Nat.lt_trans ((Nat.log2_lt h).mpr (Nat.lt_of_lt_of_le hn (show 10 ^ 12<=2 ^ 40 by decide))) (by decide)
 ·have e:=int_text_length_le10 (k:=12) (by decide) hn
  rw [PySem.ofString_length]
  omega
theorem a4p {ls:List Trm} {i:Nat} {l:Trm} (h:ls[i]? = some l):l.size<=Trm.sizeL ls:=by
 have hi:=(List.getElem?_eq_some_iff.mp h).1
 have e:=Trm.sizeL_app (ls.take i) (ls.drop i)
 have hl:ls[i] = l:=(List.getElem?_eq_some_iff.mp h).2
 rw [List.take_append_drop,List.drop_eq_getElem_cons hi,Trm.sizeL,hl] at e
 omega
noncomputable def bnm (a:Nat):Str:=Str.ofString "B" ++ Str.ofString (toString (a:Int))
mutual
noncomputable def Rep (bs:Bs) (a:Nat):Trm->Prop
 | .num n=>∃ e,End bs a e/\bs[e]? = some (.num n)
 | .any x=>∃ e,End bs a e/\bs[e]? = some .free/\x = bnm e
 | .app s ts=>∃ e ks,End bs a e/\bs[e]? = some (.app s ks)/\ks.length<=4/\RepL bs ks ts
noncomputable def RepL (bs:Bs) (ks:List Nat):List Trm->Prop
 | []=>ks = []
 | t :: ts=>∃ k r,ks = k :: r/\Rep bs k t/\RepL bs r ts
end
theorem End.start {bs:Bs} {a c:Nat} (h:End bs a c):a < bs.length:=by
 cases h with
 | here e _=>exact (List.getElem?_eq_some_iff.mp e).1
 | step e _=>exact (List.getElem?_eq_some_iff.mp e).1
theorem Rep.lt {bs:Bs} {a:Nat}:∀ {t:Trm},Rep bs a t->a < bs.length
 | .num n,h=>by rw [Rep] at h; obtain ⟨e,h,_⟩:=h; exact h.start
 | .any x,h=>by rw [Rep] at h; obtain ⟨e,h,_⟩:=h; exact h.start
 | .app s ts,h=>by rw [Rep] at h; obtain ⟨e,ks,h,_⟩:=h; exact h.start
theorem RepL.len {bs:Bs}:∀ {ks:List Nat} {ts:List Trm},RepL bs ks ts->ks.length = ts.length
 | ks,[],h=>by rw [RepL] at h; rw [h]; rfl
 | ks,t :: ts,h=>by
  rw [RepL] at h
  obtain ⟨k,r,rfl,_,h3⟩:=h
  rw [List.length_cons,List.length_cons,RepL.len h3]
theorem RepL.app {bs:Bs} {l:List Nat} {us:List Trm} (h2:RepL bs l us):∀ {ks:List Nat} {ts:List Trm},RepL bs ks ts->RepL bs (ks ++ l) (ts ++ us)
 | ks,[],h=>by rw [RepL] at h; rw [h]; exact h2
 | ks,t :: ts,h=>by
  rw [RepL] at h
  obtain ⟨k,r,rfl,h1,h3⟩:=h
  rw [List.cons_append,List.cons_append,RepL]
  exact ⟨k,r ++ l,rfl,h1,RepL.app h2 h3⟩
theorem RepL.one {bs:Bs} {k:Nat} {t:Trm} (h:Rep bs k t):RepL bs [k] [t]:=by
 rw [RepL]; exact ⟨k,[],rfl,h,by rw [RepL]⟩
theorem RepL.get {bs:Bs}:∀ {ks:List Nat} {ts:List Trm} {i:Nat} {t:Trm},RepL bs ks ts->ts[i]? = some t->∃ k,ks[i]? = some k/\Rep bs k t
 | ks,[],i,t,h,e=>by simp at e
 | ks,u :: ts,0,t,h,e=>by
  rw [RepL] at h
  obtain ⟨k,r,rfl,h1,h3⟩:=h
  simp only [List.getElem?_cons_zero,Option.some.injEq] at e
  subst e
  exact ⟨k,rfl,h1⟩
 | ks,u :: ts,i + 1,t,h,e=>by
  rw [RepL] at h
  obtain ⟨k,r,rfl,h1,h3⟩:=h
  obtain ⟨k',e1,e2⟩:=RepL.get (i:=i) h3 (by simpa using e)
  exact ⟨k',by simpa using e1,e2⟩
theorem RepL.snoc {bs:Bs}:∀ {ks:List Nat} {ts:List Trm} {k:Nat},RepL bs (ks ++ [k]) ts->∃ ts' t,ts = ts' ++ [t]/\RepL bs ks ts'/\Rep bs k t
 | [],[],k,h=>by rw [RepL] at h; cases h
 | [],t :: ts,k,h=>by
  rw [RepL] at h
  obtain ⟨k',r,e,h1,h3⟩:=h
  rw [List.nil_append] at e
  injection e with e1 e2
  subst e1 e2
  cases ts with
  | nil=>exact ⟨[],t,rfl,by rw [RepL],h1⟩
  | cons u ts=>rw [RepL] at h3; obtain ⟨_,_,e,_⟩:=h3; cases e
 | a :: ks,[],k,h=>by rw [RepL] at h; cases h
 | a :: ks,t :: ts,k,h=>by
  rw [RepL] at h
  obtain ⟨k',r,e,h1,h3⟩:=h
  rw [List.cons_append] at e
  injection e with e1 e2
  subst e1 e2
  obtain ⟨ts',u,e,h4,h5⟩:=RepL.snoc h3
  exact ⟨t :: ts',u,by rw [e]; rfl,by rw [RepL]; exact ⟨_,_,rfl,h1,h4⟩,h5⟩
theorem b5k {K:W.Frag} {H:Hp} {u:V} {n:Nat} (h:Den K H u (Bx.free.seen n)):∃ a,u = .ref a/\SqT K H a [.str a5p,.int (n:Int)]:=by
 cases h with
 | tup hs hl=>
  cases hl with
  | cons h1 r=>
   cases h1
   cases r with
   | cons h2 r=>cases h2; cases r; exact ⟨_,rfl,hs⟩
noncomputable abbrev b1h (K:W.Frag):Sp:=fun vs H Q _=>match vs with | [.int n]=>∀ (v:V) (H':Hp),Same H H'->Den K H' v (Trm.num n).data->Q v H' | _=>False
noncomputable abbrev a6x (K:W.Frag):Sp:=fun vs H Q _=>match vs with | [.str x]=>∀ (v:V) (H':Hp),Same H H'->Den K H' v (Trm.any x).data->Q v H' | _=>False
noncomputable abbrev b1i (K:W.Frag):Sp:=fun vs H Q _=>match vs with | [.str s,.ref p]=>∃ (us:List V) (ts:List Trm),SqL K H p us/\DenL K H us (Trm.dataL ts)/\ts.length<=1000/\∀ (v:V) (H':Hp),Same H H'->Den K H' v (Trm.app s ts).data->Q v H' | _=>False
noncomputable abbrev a4t (K:W.Frag) (C:Addr):Sp:=fun vs H Q _=>match vs with | [.ref x,.int a,.int m]=>∃ (pb pt:Addr) (bs:Bs) (tr:List Nat) (n mm:Nat) (t:Trm),HS K C H x pb pt bs tr/\Wf bs/\a = (n:Int)/\m = (mm:Int)/\mm<=400/\Rep bs n t/\∀ H',Same H H'->Q (.int ((min t.size (mm + 1):Nat):Int)) H' | _=>False
noncomputable abbrev a1r (K:W.Frag) (C:Addr) (n:Nat):Sp:=fun vs H Q _=>match vs with | [.ref x,.int a]=>∃ (pb pt:Addr) (bs:Bs) (tr:List Nat) (i:Nat) (t:Trm),HS K C H x pb pt bs tr/\Wf bs/\a = (i:Int)/\Rep bs i t/\t.size<=n/\n<=60/\bs.length<=1000/\∀ (v:V) (H':Hp),Same H H'->Den K H' v t.data->Q v H' | _=>False
theorem b2x {K:W.Frag} {C:Addr} {H:Hp} {x:Addr} {a:Int} {R:Addr->Addr->Bs->List Nat->Nat->Trm->Prop} (h:∃ (pb pt:Addr) (bs:Bs) (tr:List Nat) (i:Nat) (t:Trm),HS K C H x pb pt bs tr/\Wf bs/\a = (i:Int)/\Rep bs i t/\t.size<=0/\R pb pt bs tr i t):False:=by
 obtain ⟨_,_,_,_,_,t,_,_,_,_,z,_⟩:=h
 have:=Trm.size_pos t
 omega
noncomputable abbrev a5k (K:W.Frag) (C:Addr):Sp:=fun vs H Q _=>match vs with | [.ref x,.int a]=>∃ (pb pt:Addr) (bs:Bs) (tr:List Nat) (n:Nat) (t:Trm),HS K C H x pb pt bs tr/\Wf bs/\a = (n:Int)/\Rep bs n t/\bs.length<=1000/\t.size<=40/\∀ (v:V) (H':Hp),Same H H'->Den K H' v t.data->Q v H' | _=>False
section
variable {P:Program} {w:World} {K:W.Frag} {mg:Str->Option Value} {base:Heap} {t:Ad}
theorem c4n (T:Txt K mg t)  : FnOk P w K mg base CX0 1 t.a_key_of t.d_key_of ["term"] (a9a K):=by
 refine T.F_key_of.ok c4i (fun vs H Q E h=>?_) (fun cdv A outer s H vs Q E hr h=>?_)
 ·unfold a9a at h
  split at h
  ·rfl
  ·exact h.elim
 unfold a9a at h
 split at h
 rotate_left
 ·exact h.elim
 refine ⟨_,(a0d (a0y (a0q a1e (a0k (a0i K rfl) (mv 0) a0c (fun _ _=>rfl)) a0o (a0p _)) (a0g (a0n (a1c (a0a a0o (a0a (a0k (a0i K rfl) (mv 0) a0c (fun _ _=>rfl)) a0e))))) a0s) (a0d (a0y (a0q a1e (a0k (a0i K rfl) (mv 0) a0c (fun _ _=>rfl)) a0o (a0p _)) (a0g (a0n (a1c (a0a a0o (a0a (a0k (a0i K rfl) (mv 0) a0c (fun _ _=>rfl)) (a0a (a1i (a2i K rfl) rfl T.n_len PySem.boot_len (a0a (a0k (a0i K rfl) (mv 0) a0c (fun _ _=>rfl)) a0e)) a0e)))))) a0s) (a0g (a0n a3m)))),?_⟩
 rename_i a
 obtain ⟨b,hd,hf,hto,har,q⟩:=h
 cases b with
 | free=>cases hf
 | to c=>exact absurd rfl (hto c)
 | num n=>
  obtain ⟨a,e,hs⟩:=b3t (s:=numS) (n:=n) hd
  cases e
  walk_at "stp"
  refine a0l hs (v:=.str numS) rfl ?_
  walk_at "stp"
  refine iteB (fun e=>?_) (fun e=>absurd e (by decide +kernel))
  walk_at "stp"
  refine a0l hs (v:=.int n) rfl ?_
  walk_at "stp"
  refine ⟨ln (by show 2<=100000; decide),fun p1 hp1=>?_⟩
  have sp1:Same H (upd H p1 (.tup [.str (Str.ofString "num"),.int n])):=a0f hp1 _
  have kp1:(upd H p1 (.tup [.str (Str.ofString "num"),.int n])) p1 = some (.tup [.str (Str.ofString "num"),.int n]):=a0b
  generalize upd H p1 (.tup [.str (Str.ofString "num"),.int n]) = H1 at sp1 kp1 ⊢
  walk_at "stp"
  exact q _ _ sp1 (SqT.of kp1)
 | app s ks=>
  obtain ⟨a,b',e,hs,hs2⟩:=a6h (s:=s) (ks:=ks) hd
  cases e
  walk_at "stp"
  refine a0l hs (v:=.str appS) rfl ?_
  walk_at "stp"
  refine iteB (fun e=>absurd e (by decide +kernel)) (fun e=>?_)
  walk_at "stp"
  refine a0l hs (v:=.str appS) rfl ?_
  walk_at "stp"
  refine iteB (fun e=>?_) (fun e=>absurd e (by decide +kernel))
  walk_at "stp"
  refine a0l hs (v:=.str s) rfl ?_
  walk_at "stp"
  refine a0l hs (v:=.ref b') rfl ?_
  walk_at "stp"
  refine a9n hs2 ?_
  rw [nsV,List.length_map]
  walk_at "stp"
  refine ⟨ln (by show 3<=100000; decide),fun p1 hp1=>?_⟩
  have sp1:Same H (upd H p1 (.tup [.str (Str.ofString "app"),.str s,.int (ks.length:Int)])):=a0f hp1 _
  have kp1:(upd H p1 (.tup [.str (Str.ofString "app"),.str s,.int (ks.length:Int)])) p1 = some (.tup [.str (Str.ofString "app"),.str s,.int (ks.length:Int)]):=a0b
  generalize upd H p1 (.tup [.str (Str.ofString "app"),.str s,.int (ks.length:Int)]) = H1 at sp1 kp1 ⊢
  walk_at "stp"
  exact q _ _ sp1 (SqT.of kp1)
theorem b7y (T:Txt K mg t)  : FnOk P w K mg base CX0 1 t.a_Heap_init t.d_Heap_init ["self"] (a6u K t.k_Heap):=by
 refine T.F_Heap_init.ok b7q (fun vs H Q E h=>?_) (fun cdv A outer s H vs Q E hr h=>?_)
 ·unfold a6u at h
  split at h
  ·rfl
  ·exact h.elim
 unfold a6u at h
 split at h
 rotate_left
 ·exact h.elim
 refine ⟨_,(a0d (c2v (mv 0) (a2b a0e) rfl) (a0g (c2v (mv 0) (a2b a0e) rfl))),?_⟩
 rename_i x
 obtain ⟨dx,hx,q⟩:=h
 walk_at "stp"
 refine ⟨ln (by show 0<=100000; decide),fun pb hpb=>?_⟩
 have spb:Same H (upd H pb (.lst [])):=a0f hpb _
 have kpb:(upd H pb (.lst [])) pb = some (.lst []):=a0b
 generalize upd H pb (.lst []) = H1 at spb kpb ⊢
 walk_at "stp"
 refine ⟨x,_,dx,_,rfl,spb _ _ hx,T.cl_Heap,T.no_Heap_boxes,by simp,?_⟩
 have npb:pb ≠ x:=fun z=>by rw [z,hx] at hpb; cases hpb
 have b2:But x H1 (upd H1 x (.ins t.k_Heap dx [(a4s,.ref pb)])):=a6l _
 have o2:(upd H1 x (.ins t.k_Heap dx [(a4s,.ref pb)])) x = some (.ins t.k_Heap dx [(a4s,.ref pb)]):=a0b
 have n2:∀ c,(upd H1 x (.ins t.k_Heap dx [(a4s,.ref pb)])) c = none->H1 c = none:=fun c hc=>by
  by_cases z:c = x
  ·rw [z,a0b] at hc; cases hc
  ·rwa [a0j z] at hc
 have e2:putF (Str.ofString "boxes") (.ref pb) [] = [(a4s,V.ref pb)]:=rfl
 rw [e2]
 generalize upd H1 x (.ins t.k_Heap dx [(a4s,.ref pb)]) = H2 at b2 o2 n2 ⊢
 walk_at "stp"
 refine ⟨ln (by show 0<=100000; decide),fun pt hpt=>?_⟩
 have spt:Same H2 (upd H2 pt (.lst [])):=a0f hpt _
 have kpt:(upd H2 pt (.lst [])) pt = some (.lst []):=a0b
 generalize upd H2 pt (.lst []) = H3 at spt kpt ⊢
 walk_at "stp"
 refine ⟨x,_,dx,_,rfl,spt _ _ o2,T.cl_Heap,T.no_Heap_trail,by simp,?_⟩
 have e4:putF (Str.ofString "trail") (.ref pt) [(a4s,V.ref pb)] = fsH pb pt:=by
  simp only [putF,fsH,show ¬ a4s = Str.ofString "trail" by decide +kernel,if_false]
 rw [e4]
 have b4:But x H3 (upd H3 x (.ins t.k_Heap dx (fsH pb pt))):=a6l _
 have npt:pt ≠ x:=fun z=>by rw [z,o2] at hpt; cases hpt
 have k2:=b2 _ _ npb kpb
 walk_at "stp"
 refine q pb pt _ ⟨⟨dx,a0b⟩,⟨[],b4 _ _ npb (spt _ _ k2),.nil⟩,b4 _ _ npt kpt,fun z=>by rw [<- z,k2] at hpt; cases hpt⟩ (fun b o hb e=>b4 _ _ hb (spt _ _ (b2 _ _ hb (spb _ _ e)))) hpb (spb.free (n2 _ hpt))
theorem b7z (T:Txt K mg t)  : FnOk P w K mg base CX0 1 t.a_Heap_made t.d_Heap_made ["self","box"] (a4c K t.k_Heap):=by
 refine T.F_Heap_made.ok b7r (fun vs H Q E h=>?_) (fun cdv A outer s H vs Q E hr h=>?_)
 ·unfold a4c at h
  split at h
  ·rfl
  ·exact h.elim
 unfold a4c at h
 split at h
 rotate_left
 ·exact h.elim
 refine ⟨_,(a0d (a4v (a7k K rfl F.plainAttrs_list F.slot_list_append F.type_list_append a7o (a2a (mv 0) rfl) (a0a (mv 1) a0e))) (a0g (a0n (a0m a2r (a1i (a2i K rfl) rfl T.n_len PySem.boot_len (a0a (a2a (mv 0) rfl) a0e)) a0c)))),?_⟩
 rename_i x v
 obtain ⟨dx,pb,pt,us,ho,hb,hl,q⟩:=h
 walk_at "stp"
 refine ⟨x,_,dx,_,_,rfl,ho,T.cl_Heap,T.no_Heap_boxes,a1q _ _,?_⟩
 refine ⟨.inl ⟨rfl,_,SqL.of hb⟩,?_⟩
 walk_at "stp"
 refine a6k hb (ln1 (by omega)) ?_
 walk_at "stp"
 have ho2:(upd H pb (.lst (us ++ [v]))) x = some (.ins t.k_Heap dx (fsH pb pt)):=by rw [a0j (fun z=>by rw [z,hb] at ho; cases ho)]; exact ho
 refine ⟨x,_,dx,_,_,rfl,ho2,T.cl_Heap,T.no_Heap_boxes,a1q _ _,?_⟩
 walk_at "stp"
 refine a4q (SqL.of a0b) ?_
 walk_at "stp"
 rw [List.length_append,List.length_singleton,show ((us.length + 1:Nat):Int) - 1 = (us.length:Int) by omega]
 exact q
theorem b8a (T:Txt K mg t) (G_Heap_made:FnOk P w K mg base CX0 1 t.a_Heap_made t.d_Heap_made ["self","box"] (a4c K t.k_Heap)):FnOk P w K mg base CX0 2 t.a_Heap_free t.d_Heap_free ["self"] (a5j K t.k_Heap):=by
 refine T.F_Heap_free.ok b7s (fun vs H Q E h=>?_) (fun cdv A outer s H vs Q E hr h=>?_)
 ·unfold a5j at h
  split at h
  ·rfl
  ·exact h.elim
 unfold a5j at h
 split at h
 rotate_left
 ·exact h.elim
 refine ⟨_,(a0g (a0n (a1j (mv 0) T.cl_Heap T.me_Heap_made G_Heap_made (hr.mono (by first | decide | omega)) T.b_Heap_made .nil a0v (a0a (a8b (v:=.ref t.c_FREE) rfl T.m_FREE rfl) a0e)))),?_⟩
 rename_i x
 obtain ⟨pb,pt,bs,tr,w1,hl,q⟩:=h
 obtain ⟨dx,ho⟩:=w1.ob
 walk_at "stp"
 refine ⟨x,dx,_,rfl,ho,a1n,?_⟩
 walk_at "stp"
 obtain ⟨dx,ho⟩:=w1.ob
 obtain ⟨us,hb,hd⟩:=w1.bx
 obtain ⟨w2,f2⟩:=w1.upB (vs:=us ++ [.ref t.c_FREE]) (bs':=bs ++ [.free]) (by rw [List.map_append]; exact hd.append (.cons (.tup (T.q_FREE H) (.cons (.str _) .nil)) .nil))
 have e:=a6g hd
 refine ⟨dx,pb,pt,us,ho,hb,by omega,?_⟩
 rw [e]
 exact q _ f2 w2
theorem b4o (T:Txt K mg t) (G_Heap_made:FnOk P w K mg base CX0 1 t.a_Heap_made t.d_Heap_made ["self","box"] (a4c K t.k_Heap)):FnOk P w K mg base CX0 2 t.a_Heap_number t.d_Heap_number ["self","n"] (a4d K t.k_Heap):=by
 refine T.F_Heap_number.ok b4n (fun vs H Q E h=>?_) (fun cdv A outer s H vs Q E hr h=>?_)
 ·unfold a4d at h
  split at h
  ·rfl
  ·exact h.elim
 unfold a4d at h
 split at h
 rotate_left
 ·exact h.elim
 refine ⟨_,(a0g (a0n (a1j (mv 0) T.cl_Heap T.me_Heap_made G_Heap_made (hr.mono (by first | decide | omega)) T.b_Heap_made .nil a0v (a0a (a1c (a0a a0o (a0a (mv 1) a0e))) a0e)))),?_⟩
 rename_i x n
 obtain ⟨pb,pt,bs,tr,w0,hl,q⟩:=h
 obtain ⟨dx,ho⟩:=w0.ob
 walk_at "stp"
 refine ⟨x,dx,_,rfl,ho,a1n,?_⟩
 walk_at "stp"
 refine ⟨ln (by show 2<=100000; decide),fun p1 hp1=>?_⟩
 have sp1:Same H (upd H p1 (.tup [.str (Str.ofString "num"),.int n])):=a0f hp1 _
 have kp1:(upd H p1 (.tup [.str (Str.ofString "num"),.int n])) p1 = some (.tup [.str (Str.ofString "num"),.int n]):=a0b
 generalize upd H p1 (.tup [.str (Str.ofString "num"),.int n]) = H1 at sp1 kp1 ⊢
 walk_at "stp"
 have w1:=w0.same sp1
 obtain ⟨dx,ho⟩:=w1.ob
 obtain ⟨us,hb,hd⟩:=w1.bx
 obtain ⟨w2,f2⟩:=w1.upB (vs:=us ++ [.ref p1]) (bs':=bs ++ [.num n]) (by rw [List.map_append]; exact hd.append (.cons (.tup (SqT.of kp1) (.cons (.str _) (.cons (.int _) .nil))) .nil))
 have e:=a6g hd
 refine ⟨dx,pb,pt,us,ho,hb,by omega,?_⟩
 rw [e]
 exact q _ ((HFr.of sp1).trans f2) w2
theorem b9e (T:Txt K mg t) (G_Heap_made:FnOk P w K mg base CX0 1 t.a_Heap_made t.d_Heap_made ["self","box"] (a4c K t.k_Heap)):FnOk P w K mg base CX0 2 t.a_Heap_app t.d_Heap_app ["self","sign","kids"] (a5t K t.k_Heap):=by
 refine T.F_Heap_app.ok b9b (fun vs H Q E h=>?_) (fun cdv A outer s H vs Q E hr h=>?_)
 ·unfold a5t at h
  split at h
  ·rfl
  ·exact h.elim
 unfold a5t at h
 split at h
 rotate_left
 ·exact h.elim
 refine ⟨_,(a0g (a0n (a1j (mv 0) T.cl_Heap T.me_Heap_made G_Heap_made (hr.mono (by first | decide | omega)) T.b_Heap_made .nil a0v (a0a (a1c (a0a a0o (a0a (mv 1) (a0a (a2h (a7c K rfl) rfl T.n_tuple boot_tuple (a0a (mv 2) a0e)) a0e)))) a0e)))),?_⟩
 rename_i x s p
 obtain ⟨pb,pt,bs,tr,ks,w0,hl,hk,hS,q⟩:=h
 obtain ⟨dx,ho⟩:=w0.ob
 walk_at "stp"
 refine ⟨x,dx,_,rfl,ho,a1n,?_⟩
 walk_at "stp"
 refine a9p hS (fun p1 hp1=>?_)
 have s1:=a0f hp1 (.tup (nsV ks))
 have k1:(upd H p1 (.tup (nsV ks))) p1 = some (.tup (nsV ks)):=a0b
 generalize upd H p1 (.tup (nsV ks)) = H1 at s1 k1 ⊢
 walk_at "stp"
 refine ⟨ln (by show 3<=100000; decide),fun p2 hp2=>?_⟩
 have sp2:Same H1 (upd H1 p2 (.tup [.str (Str.ofString "app"),.str s,.ref p1])):=a0f hp2 _
 have kp2:(upd H1 p2 (.tup [.str (Str.ofString "app"),.str s,.ref p1])) p2 = some (.tup [.str (Str.ofString "app"),.str s,.ref p1]):=a0b
 generalize upd H1 p2 (.tup [.str (Str.ofString "app"),.str s,.ref p1]) = H2 at sp2 kp2 ⊢
 walk_at "stp"
 have w1:=(w0.same s1).same sp2
 obtain ⟨dx,ho⟩:=w1.ob
 obtain ⟨us,hb,hd⟩:=w1.bx
 obtain ⟨w2,f2⟩:=w1.upB (vs:=us ++ [.ref p2]) (bs':=bs ++ [.app s ks]) (by rw [List.map_append]; exact hd.append (.cons (.tup (SqT.of kp2) (.cons (.str _) (.cons (.str _) (.cons (.tup (SqT.of (sp2 _ _ k1)) (c4m ks)) .nil)))) .nil))
 have e:=a6g hd
 refine ⟨dx,pb,pt,us,ho,hb,by omega,?_⟩
 rw [e]
 exact q _ ((HFr.of (s1.trans sp2)).trans f2) w2
theorem b4p (T:Txt K mg t)  : FnOk P w K mg base CX0 1 t.a_Heap_end_of t.d_Heap_end_of ["self","at"] (a3g K t.k_Heap):=by
 refine T.F_Heap_end_of.ok a7f (fun vs H Q E h=>?_) (fun cdv A outer s H vs Q E hr h=>?_)
 ·unfold a3g at h
  split at h
  ·rfl
  ·exact h.elim
 unfold a3g at h
 split at h
 rotate_left
 ·exact h.elim
 refine ⟨_,(a0d (a0r (i:=2) a7f.nd rfl (by walk_at "or1") (mv 1)) (a0d (a5w PassesOwn.never (a0q a1e (a0k (a0i K rfl) (a0k (a0i K rfl) (a2a (mv 0) rfl) (mv 2) (fun _ _=>rfl)) a0c (fun _ _=>rfl)) a0o (a0p _)) (a0g (a0r (i:=2) (hs:=a8r) a7f.nd rfl (by walk_at "or1") (a0k (a0i K rfl) (a0k (a0i K rfl) (a2a (mv 0) rfl) (mv 2) (fun _ _=>rfl)) a0c (fun _ _=>rfl))))) (a0g (a0n (mv 2))))),?_⟩
 rename_i x a
 obtain ⟨pb,pt,bs,tr,n,e0,w1,wf,rfl,he,q⟩:=h
 obtain ⟨dx,ho⟩:=w1.ob
 obtain ⟨us,hb,hd⟩:=w1.bx
 obtain ⟨rk,hr'⟩:=wf.acy
 walk_at "stp"
 refine a5d (fun m σ' H'=>∃ i:Nat,σ' = [some (.ref x),some (.int (n:Int)),some (.int (i:Int))]/\H' = H/\End bs i e0/\m = rk i) (rk n) ⟨n,rfl,rfl,he,rfl⟩ (fun m σ' H' R hP kT kF=>?_)
 obtain ⟨i,rfl,rfl,hi,rfl⟩:=hP
 obtain ⟨bi,hbi⟩:∃ b,bs[i]? = some b:=by cases hi with | here e _=>exact ⟨_,e⟩ | step e _=>exact ⟨_,e⟩
 obtain ⟨u,e1,e2,e3⟩:=b1f hd hbi
 obtain ⟨a,us',rfl,hs,_⟩:=a8w e3
 walk_at "stp"
 refine ⟨x,_,dx,_,_,rfl,ho,T.cl_Heap,T.no_Heap_boxes,a1q _ _,?_⟩
 walk_at "stp"
 refine a1b (SqL.of hb) e2 ?_
 walk_at "stp"
 refine a0l hs (v:=.str bi.kind) atI0 ?_
 walk_at "stp"
 rw [kind_to]
 cases hi with
 | here e nt=>
  rw [hbi] at e
  cases e
  rw [(End.here hbi nt).box hbi]
  refine kF _ ?_
  walk_at "stp"
  exact q
 | @step _ j _ e hj=>
  rw [hbi] at e
  cases e
  refine kT _ (fun D' e4 e5 hnx hct=>?_)
  obtain ⟨a',ea,hs'⟩:=b3t (s:=toS) (n:=(j:Int)) e3
  cases ea
  walk_at "stp"
  refine ⟨x,_,dx,_,_,rfl,ho,T.cl_Heap,T.no_Heap_boxes,a1q _ _,?_⟩
  walk_at "stp"
  refine a1b (SqL.of hb) e2 ?_
  walk_at "stp"
  refine a0l hs' (v:=.int (j:Int)) rfl ?_
  walk_at "stp"
  exact hnx _ _ (rk j) (hr' _ _ (Ed.to hbi)) ⟨j,rfl,rfl,hj,rfl⟩
theorem b8b (T:Txt K mg t) (G_Heap_end_of:FnOk P w K mg base CX0 1 t.a_Heap_end_of t.d_Heap_end_of ["self","at"] (a3g K t.k_Heap)):FnOk P w K mg base CX0 2 t.a_Heap_look t.d_Heap_look ["self","at"] (a4e K t.k_Heap):=by
 refine T.F_Heap_look.ok b1e (fun vs H Q E h=>?_) (fun cdv A outer s H vs Q E hr h=>?_)
 ·unfold a4e at h
  split at h
  ·rfl
  ·exact h.elim
 unfold a4e at h
 split at h
 rotate_left
 ·exact h.elim
 refine ⟨_,(a0d (a0r (i:=2) (hs:=a1h) b1e.nd rfl (by walk_at "or1") (a1j (mv 0) T.cl_Heap T.me_Heap_end_of G_Heap_end_of (hr.mono (by first | decide | omega)) T.b_Heap_end_of .nil a0v (a0a (mv 1) a0e))) (a0g (a0n (b2k (a0q (b4l K rfl (a5o hr)) (a0k (a0i K rfl) (a2a (mv 0) rfl) (mv 2) (fun _ _=>rfl)) (a8b (v:=.ref t.c_FREE) rfl T.m_FREE rfl) (a0p _)) (a1c (a0a a0o (a0a (mv 2) a0e))) (a0k (a0i K rfl) (a2a (mv 0) rfl) (mv 2) (fun _ _=>rfl)))))),?_⟩
 rename_i x a
 obtain ⟨pb,pt,bs,tr,n,e0,b,w1,wf,rfl,he,hn,q⟩:=h
 obtain ⟨dx,ho⟩:=w1.ob
 obtain ⟨us,hb,hd⟩:=w1.bx
 obtain ⟨u,e1,e2,e3⟩:=b1f hd hn
 obtain ⟨a,us',rfl,hs,e5⟩:=a8w e3
 walk_at "stp"
 refine ⟨x,dx,_,rfl,ho,a1n,?_⟩
 walk_at "stp"
 refine ⟨pb,pt,bs,tr,n,e0,w1,wf,rfl,he,?_⟩
 walk_at "stp"
 refine ⟨x,_,dx,_,_,rfl,ho,T.cl_Heap,T.no_Heap_boxes,a1q _ _,?_⟩
 walk_at "stp"
 refine a1b (SqL.of hb) e2 ?_
 walk_at "stp"
 refine b4m hs (T.q_FREE H) ?_
 rw [show (Str.ofString "free") = a5p from rfl,e5]
 cases b with
 | free=>
  walk_at "stp"
  refine iteT ?_
  walk_at "stp"
  refine ⟨ln (by show 2<=100000; decide),fun p1 hp1=>?_⟩
  have sp1:Same H (upd H p1 (.tup [.str (Str.ofString "free"),.int (e0:Int)])):=a0f hp1 _
  have kp1:(upd H p1 (.tup [.str (Str.ofString "free"),.int (e0:Int)])) p1 = some (.tup [.str (Str.ofString "free"),.int (e0:Int)]):=a0b
  generalize upd H p1 (.tup [.str (Str.ofString "free"),.int (e0:Int)]) = H1 at sp1 kp1 ⊢
  walk_at "stp"
  exact q _ _ sp1 (.tup (SqT.of kp1) (.cons (.str _) (.cons (.int _) .nil)))
 | num m=>
  walk_at "stp"
  refine iteF ?_
  walk_at "stp"
  refine ⟨x,_,dx,_,_,rfl,ho,T.cl_Heap,T.no_Heap_boxes,a1q _ _,?_⟩
  walk_at "stp"
  refine a1b (SqL.of hb) e2 ?_
  walk_at "stp"
  exact q _ _ (Same.refl _) e3
 | app s ks=>
  walk_at "stp"
  refine iteF ?_
  walk_at "stp"
  refine ⟨x,_,dx,_,_,rfl,ho,T.cl_Heap,T.no_Heap_boxes,a1q _ _,?_⟩
  walk_at "stp"
  refine a1b (SqL.of hb) e2 ?_
  walk_at "stp"
  exact q _ _ (Same.refl _) e3
 | to c=>
  walk_at "stp"
  refine iteF ?_
  walk_at "stp"
  refine ⟨x,_,dx,_,_,rfl,ho,T.cl_Heap,T.no_Heap_boxes,a1q _ _,?_⟩
  walk_at "stp"
  refine a1b (SqL.of hb) e2 ?_
  walk_at "stp"
  exact q _ _ (Same.refl _) e3
theorem b8c (T:Txt K mg t)  : FnOk P w K mg base CX0 1 t.a_Heap_mark t.d_Heap_mark ["self"] (a6w K t.k_Heap):=by
 refine T.F_Heap_mark.ok b7u (fun vs H Q E h=>?_) (fun cdv A outer s H vs Q E hr h=>?_)
 ·unfold a6w at h
  split at h
  ·rfl
  ·exact h.elim
 unfold a6w at h
 split at h
 rotate_left
 ·exact h.elim
 refine ⟨_,(a0g (a0n (a1c (a0a (a1i (a2i K rfl) rfl T.n_len PySem.boot_len (a0a (a2a (mv 0) rfl) a0e)) (a0a (a1i (a2i K rfl) rfl T.n_len PySem.boot_len (a0a (a2a (mv 0) rfl) a0e)) a0e))))),?_⟩
 rename_i x
 obtain ⟨pb,pt,bs,tr,w1,q⟩:=h
 obtain ⟨dx,ho⟩:=w1.ob
 obtain ⟨us,hb,hd⟩:=w1.bx
 walk_at "stp"
 refine ⟨x,_,dx,_,_,rfl,ho,T.cl_Heap,T.no_Heap_boxes,a1q _ _,?_⟩
 walk_at "stp"
 refine a4q (SqL.of hb) ?_
 rw [a6g hd]
 walk_at "stp"
 refine ⟨x,_,dx,_,_,rfl,ho,T.cl_Heap,T.no_Heap_trail,b0o _ _,?_⟩
 walk_at "stp"
 refine a4q (SqL.of w1.trl) ?_
 rw [nsV,List.length_map]
 walk_at "stp"
 refine ⟨ln (by show 2<=100000; decide),fun p1 hp1=>?_⟩
 have sp1:Same H (upd H p1 (.tup [.int (bs.length:Int),.int (tr.length:Int)])):=a0f hp1 _
 have kp1:(upd H p1 (.tup [.int (bs.length:Int),.int (tr.length:Int)])) p1 = some (.tup [.int (bs.length:Int),.int (tr.length:Int)]):=a0b
 generalize upd H p1 (.tup [.int (bs.length:Int),.int (tr.length:Int)]) = H1 at sp1 kp1 ⊢
 walk_at "stp"
 exact q _ _ sp1 (SqT.of kp1)
end
theorem Rch.kid {bs:Bs} {h a:Nat} (r:Rch bs h a) (n:h ≠ a):∃ y,Ed bs h y/\Rch bs y a:=by
 cases r with
 | refl=>exact absurd rfl n
 | head e r=>exact ⟨_,e,r⟩
theorem rch_in {bs:Bs} (w:Wf bs) {S:Nat->Prop} (hS:∀ s,S s->∀ y e,Ed bs s y->End bs y e->S e) {x a:Nat} (r:Rch bs x a) (ha:End bs a a):∀ {e:Nat},End bs x e->S e->S a:=by
 induction r with
 | refl a=>intro e he h; rw [ha.uniq he]; exact h
 | @head x y a ed r ih=>
  intro e he h
  cases he with
  | here e1 n=>
   obtain ⟨e',h'⟩:=w.end_ (w.inn _ _ ed)
   exact ih ha h' (hS _ h _ _ ed h')
  | step e1 h1=>
   obtain ⟨u,e2,m⟩:=ed
   rw [e1] at e2
   cases e2
   simp only [Bx.out,List.mem_singleton] at m
   subst m
   exact ih ha h1 h
noncomputable def wt (rk:Nat->Nat) (st:List Nat):Nat:=(st.map fun k=>5 ^ rk k).sum
theorem wt_pop {rk:Nat->Nat} {k:Nat} {st:List Nat}:wt rk st < wt rk (k :: st):=by
 have:0 < 5 ^ rk k:=Nat.pow_pos (by decide)
 unfold wt
 rw [List.map_cons,List.sum_cons]
 omega
structure Wk (bs:Bs) (rk:Nat->Nat) (b:Nat) (st:List Nat):Prop where
 val:∀ k ∈ st,k < bs.length
 rch:∀ k ∈ st,Rch bs b k
 bd:Bd 600 (st.map rk)
theorem Wk.pop {bs:Bs} {rk:Nat->Nat} {b k:Nat} {st:List Nat} (w:Wk bs rk b (k :: st)):Wk bs rk b st:=⟨fun x hx=>w.val x (List.mem_cons_of_mem _ hx),fun x hx=>w.rch x (List.mem_cons_of_mem _ hx),w.bd.2⟩
theorem Wk.len {bs:Bs} {rk:Nat->Nat} {b:Nat} {st:List Nat} (w:Wk bs rk b st):st.length<=600:=by have:=w.bd.len; rwa [List.length_map] at this
theorem Wk.one {bs:Bs} {rk:Nat->Nat} {b:Nat} (h:b < bs.length) (hr:rk b<=128):Wk bs rk b [b]:=⟨fun x hx=>by rw [List.mem_singleton.mp hx]; exact h,fun x hx=>by rw [List.mem_singleton.mp hx]; exact .refl _,⟨by show 0 + 1 + 4 * rk b<=600; omega,trivial⟩⟩
theorem Wk.kids {bs:Bs} (wf:Wf bs) {rk:Nat->Nat} (hr:∀ a b,Ed bs a b->rk b < rk a) {b k h:Nat} {st:List Nat} {s:Str} {ks:List Nat} (w:Wk bs rk b (k :: st)) (he:End bs k h) (e:bs[h]? = some (.app s ks)):Wk bs rk b (ks.reverse ++ st)/\wt rk (ks.reverse ++ st) < wt rk (k :: st):=by
 have r1:=he.rch.rk hr
 have r2:∀ x ∈ ks,rk x < rk k:=fun x hx=>by have:=hr _ _ (Ed.kid e hx); omega
 refine ⟨⟨fun x hx=>?_,fun x hx=>?_,?_⟩,?_⟩
 ·rcases List.mem_append.mp hx with z | z
  ·exact wf.inn _ _ (Ed.kid e (List.mem_reverse.mp z))
  ·exact w.pop.val x z
 ·rcases List.mem_append.mp hx with z | z
  ·exact ((w.rch k (List.mem_cons_self ..)).trans he.rch).trans (.head (Ed.kid e (List.mem_reverse.mp z)) (.refl _))
  ·exact w.pop.rch x z
 ·rw [List.map_append]
  refine Bd.push w.bd (by rw [List.length_map,List.length_reverse]; exact wf.ar _ _ _ e) (fun y hy=>?_)
  obtain ⟨x,hx,rfl⟩:=List.mem_map.mp hy
  exact r2 x (List.mem_reverse.mp hx)
 ·unfold wt
  rw [List.map_append,List.sum_append,List.map_cons,List.sum_cons]
  have:=c0h (rk:=rk) (R:=rk k) (ks:=ks.reverse) (fun x hx=>r2 x (List.mem_reverse.mp hx)) (by rw [List.length_reverse]; exact wf.ar _ _ _ e)
  omega
theorem b4q {bs:Bs} {h y:Nat} (hh:End bs h h) (e:Ed bs h y):∃ s ks,bs[h]? = some (.app s ks)/\y ∈ ks:=by
 obtain ⟨u,e1,m⟩:=e
 obtain ⟨v,e2,n⟩:=hh.is
 rw [e1] at e2
 cases e2
 cases u with
 | app s ks=>exact ⟨s,ks,e1,m⟩
 | to b=>exact absurd rfl (n b)
 | free=>cases m
 | num _=>cases m
noncomputable def sn (kvs:List (Key × V)) (n:Nat):Bool:=(valV kvs (Sum.inl (n:Int))).isSome
noncomputable def SnOk (kvs:List (Key × V)):Prop:=kvs.length + (List.range 128).countP (fun i=>!sn kvs i)<=128
theorem a7t (kvs:List (Key × V)) (h n:Nat) (v:V):sn (putK kvs (Sum.inl (h:Int)) v) n = (decide (n = h) || sn kvs n):=by
 unfold sn
 rw [b0f]
 by_cases e:n = h
 ·rw [if_pos (by rw [e]),decide_eq_true e]; rfl
 ·rw [if_neg (fun z=>e (by injection z with z; omega)),decide_eq_false e]; rfl
theorem SnOk.put {kvs:List (Key × V)} (k:SnOk kvs) {h:Nat} (hh:h < 128) (v:V):SnOk (putK kvs (Sum.inl (h:Int)) v):=by
 unfold SnOk at k ⊢
 by_cases e:sn kvs h = true
 ·have e2:(putK kvs (Sum.inl (h:Int)) v).length = kvs.length:=by
   unfold putK
   rw [a5x,show (valV kvs (Sum.inl (h:Int))).isSome = true from e,if_pos rfl,List.length_map]
  rw [e2]
  have:=b3p (l:=List.range 128) (p:=fun i=>!sn (putK kvs (Sum.inl (h:Int)) v) i) (q:=fun i=>!sn kvs i) (fun x _ hx=>by rw [a7t] at hx; simp at hx ⊢; exact hx.2)
  omega
 ·have e1:sn kvs h = false:=by simpa using e
  have e3:valV kvs (Sum.inl (h:Int)) = none:=by unfold sn at e1; simpa using e1
  rw [a7a _ e3,List.length_append,List.length_singleton,<- a7a v e3]
  have:=b3q (b:=h) (l:=List.range 128) (p:=fun i=>!sn (putK kvs (Sum.inl (h:Int)) v) i) (q:=fun i=>!sn kvs i) (by simp [e1]) (by rw [a7t]; simp) (fun x _ hx=>by rw [a7t] at hx; simp at hx ⊢; exact hx.2) (by simpa using hh)
  omega
theorem SnOk.len {kvs:List (Key × V)} (k:SnOk kvs):kvs.length<=128:=by unfold SnOk at k; omega
theorem SnOk.nil:SnOk []:=by
 have:=List.countP_le_length (p:=fun i=>!sn [] i) (l:=List.range 128)
 unfold SnOk
 rw [List.length_range] at this
 exact Nat.le_trans (Nat.le_of_eq (Nat.zero_add _)) this
theorem stp_l {bs:Bs} {a b:Nat} (ha:bs[a]? = some .free) (hn:a ≠ b):(Rch bs b a->stp bs a b = none)/\(¬ Rch bs b a->stp bs a b = some (bs.set a (.to b),[])):=by
 unfold stp
 rw [ha]
 refine ⟨fun h=>?_,fun h=>?_⟩
 ·simp only; rw [if_neg hn,if_pos h]
 ·simp only; rw [if_neg hn,if_neg h]
theorem stp_r {bs:Bs} {a b:Nat} {u:Bx} (ha:bs[a]? = some u) (hu:u.isFree = false) (hb:bs[b]? = some .free):(Rch bs a b->stp bs a b = none)/\(¬ Rch bs a b->stp bs a b = some (bs.set b (.to a),[])):=by
 unfold stp
 rw [ha,hb]
 cases u with
 | free=>cases hu
 | _=>exact ⟨fun h=>by simp only; rw [if_pos h],fun h=>by simp only; rw [if_neg h]⟩
noncomputable def Bx.kz:Bx->Bx->List (Nat × Nat)
 | .app _ ks,.app _ ls=>ks.zip ls
 | _,_=>[]
theorem stp_k {bs:Bs} {a b:Nat} {u v:Bx} (ha:bs[a]? = some u) (hb:bs[b]? = some v) (hu:u.isFree = false) (hv:v.isFree = false) (tu:u.isTo = false) (tv:v.isTo = false):(u.key ≠ v.key->stp bs a b = none)/\(u.key = v.key->stp bs a b = some (bs,u.kz v)):=by
 unfold stp
 rw [ha,hb]
 cases u <;> cases v <;> first | (cases hu; done) | (cases hv; done) | (cases tu; done) | (cases tv; done) | skip
 ·rename_i n m
  refine ⟨fun h=>if_neg fun z=>h (by rw [z]),fun h=>?_⟩
  simp only [Bx.key,List.cons.injEq,Sum.inl.injEq] at h
  simp only
  rw [if_pos h.2.1]; rfl
 ·refine ⟨fun _=>rfl,fun h=>?_⟩
  simp [Bx.key] at h
 ·refine ⟨fun _=>rfl,fun h=>?_⟩
  simp [Bx.key] at h
 ·rename_i s ks t ls
  refine ⟨fun h=>if_neg fun z=>h (by simp only [Bx.key]; rw [z.1,z.2]),fun h=>?_⟩
  simp only [Bx.key,List.cons.injEq,Sum.inl.injEq,Sum.inr.injEq] at h
  simp only
  rw [if_pos ⟨h.2.1,by omega⟩]; rfl
theorem b9f (k:Nat) (st:List Nat):nsV (k :: st).reverse = nsV st.reverse ++ [.int (k:Int)]:=by rw [List.reverse_cons,nsV,List.map_append]; rfl
theorem c1t (ks st:List Nat):nsV (ks.reverse ++ st).reverse = nsV st.reverse ++ nsV ks:=by rw [List.reverse_append,List.reverse_reverse,nsV,List.map_append]
theorem a8x (ks:List Nat):(nsV ks).length = ks.length:=by rw [nsV,List.length_map]
section
variable {P:Program} {w:World} {K:W.Frag} {mg:Str->Option Value} {base:Heap} {t:Ad}
theorem a9z (T:Txt K mg t) (G_Heap_end_of:FnOk P w K mg base CX0 1 t.a_Heap_end_of t.d_Heap_end_of ["self","at"] (a3g K t.k_Heap)):FnOk P w K mg base CX0 2 t.a_Heap_stands_within t.d_Heap_stands_within ["self","at","other"] (a2w K t.k_Heap):=by
 refine T.F_Heap_stands_within.ok a2v (fun vs H Q E h=>?_) (fun cdv A outer s H vs Q E hr h=>?_)
 ·unfold a2w at h
  split at h
  ·rfl
  ·exact h.elim
 unfold a2w at h
 split at h
 rotate_left
 ·exact h.elim
 refine ⟨_,(a0d (a0r (i:=3) a2v.nd rfl (by walk_at "or1") a8l) (a0d (a0r (i:=4) (hs:=a9u) a2v.nd rfl (by walk_at "or1") (a2b (a0a (mv 2) a0e))) (a0d (a5w PassesOwn.never (a6p K rfl (mv 4)) (a0d (a0r (i:=5) (hs:=a1h) a2v.nd rfl (by walk_at "or1") (a1j (mv 0) T.cl_Heap T.me_Heap_end_of G_Heap_end_of (hr.mono (by first | decide | omega)) T.b_Heap_end_of .nil a0v (a0a (a8n K rfl F.plainAttrs_list F.slot_list_pop F.type_list_pop a9m (mv 4)) a0e))) (a0d (a0y (a0q a1e (mv 5) (mv 1) (a0p _)) (a0g (a0n a3y)) a0s) (a0d (a0y (PW.pt (a5b (a0q (b4h (a3z hr)) (mv 5) (mv 3) (by with_unfolding_all rfl)) (a4u (a0q a1e (a0k (a0i K rfl) (a0k (a0i K rfl) (a2a (mv 0) rfl) (mv 5) (fun _ _=>rfl)) a0c (fun _ _=>rfl)) a0o (a0p _))))) (a0g (a4v (a7k K rfl F.plainAttrs_list F.slot_list_extend F.type_list_extend (b1a K rfl) (mv 4) (a0a (a0k (a0i K rfl) (a0k (a0i K rfl) (a2a (mv 0) rfl) (mv 5) (fun _ _=>rfl)) a0c (fun _ _=>rfl)) a0e)))) a0s) (a0g (a9l (a3z hr) (mv 3) (mv 5) a3y rfl)))))) (a0g (a0n a3y))))),?_⟩
 rename_i x a0 b0
 obtain ⟨pb,pt,bs,tr,a,b,w1,hl,wf,rfl,rfl,ha,hb0,q⟩:=h
 obtain ⟨rk,hr1,hr2⟩:=wf.rank
 walk_at "stp"
 intro ps hps
 have s1:Same H (upd H ps (.dK [])):=a0f hps _
 have k1:(upd H ps (.dK [])) ps = some (.dK []):=a0b
 generalize upd H ps (.dK []) = H1 at s1 k1 ⊢
 walk_at "stp"
 refine ⟨ln (by show 1<=100000; decide),fun p hp=>?_⟩
 have sp:Same H1 (upd H1 p (.lst [.int (b:Int)])):=a0f hp _
 have kp:(upd H1 p (.lst [.int (b:Int)])) p = some (.lst [.int (b:Int)]):=a0b
 generalize upd H1 p (.lst [.int (b:Int)]) = H2 at sp kp ⊢
 walk_at "stp"
 have nps:ps ≠ p:=fun z=>by rw [<- z,k1] at hp; cases hp
 have hp0:H p = none:=s1.free hp
 refine a5d (fun m σ' H'=>∃ (st:List Nat) (kvs:List (Key × V)) (o:Option V),σ' = [some (.ref x),some (.int (a:Int)),some (.int (b:Int)),some (.ref ps),some (.ref p),o]/\H' p = some (.lst (nsV st.reverse))/\H' ps = some (.dK kvs)/\Wk bs rk b st/\SnOk kvs/\(∀ s,sn kvs s = true->s ≠ a/\∀ y e,Ed bs s y->End bs y e->sn kvs e = true\/y ∈ st)/\(∀ e,End bs b e->sn kvs e = true\/b ∈ st)/\Same H H'/\m = wt rk st) (wt rk [b]) ⟨[b],[],none,rfl,kp,sp _ _ k1,Wk.one hb0 (Nat.le_trans (hr1 b) hl),SnOk.nil,fun s hs=>(by cases hs),fun e _=>.inr (by simp),s1.trans sp,rfl⟩ (fun m σ' H' R hP kT kF=>?_)
 obtain ⟨st,kvs,o,rfl,h1,h2,h3,h4,h5,h6,h7,h8⟩:=hP
 walk_at "stp"
 refine .inl ⟨_,SqL.of h1,?_⟩
 cases st with
 | nil=>
  refine kF H' ?_
  walk_at "stp"
  refine q false H' h7 ⟨fun z=>(by cases z),fun z=>?_⟩
  obtain ⟨eb,he⟩:=wf.end_ hb0
  have hsb:sn kvs eb = true:=(h6 eb he).resolve_right (by simp)
  exact absurd rfl (h5 a (rch_in wf (S:=fun n=>sn kvs n = true) (fun s hs y e h1 h2=>((h5 s hs).2 y e h1 h2).resolve_right (by simp)) z ha he hsb)).1
 | cons k st=>
  rw [b9f] at h1 ⊢
  rw [show (!(nsV st.reverse ++ [V.int (k:Int)]).isEmpty) = true by simp]
  refine kT H' (fun D' e4 e5 hnx hct=>?_)
  obtain ⟨hd,hk⟩:=wf.end_ (h3.val k (List.mem_cons_self ..))
  obtain ⟨dx,ho⟩:=(w1.same h7).ob
  have hd64:hd < 128:=Nat.lt_of_lt_of_le hk.lt hl
  walk_at "stp"
  refine ⟨x,dx,_,rfl,ho,a1n,?_⟩
  walk_at "stp"
  refine ⟨.inl ⟨rfl,_,SqL.of h1⟩,?_⟩
  refine a9q h1 ?_
  have f5:Same H (upd H' p (.lst (nsV st.reverse))):=a2x h7 hp0
  have k5:(upd H' p (.lst (nsV st.reverse))) p = some (.lst (nsV st.reverse)):=a0b
  have k6:(upd H' p (.lst (nsV st.reverse))) ps = some (.dK kvs):=by rw [a0j nps]; exact h2
  generalize upd H' p (.lst (nsV st.reverse)) = J at f5 k5 k6 ⊢
  have wJ:=w1.same f5
  obtain ⟨dx,ho⟩:=wJ.ob
  obtain ⟨us,hb,hdl⟩:=wJ.bx
  walk_at "stp"
  refine ⟨pb,pt,bs,tr,k,hd,wJ,wf,rfl,hk,?_⟩
  walk_at "stp"
  refine iteB (fun e=>?_) (fun e=>?_)
  ·have e:(hd:Int) = (a:Int):=by simpa using e
   have e:hd = a:=by omega
   subst e
   walk_at "stp"
   rw [e4]
   exact q true J f5 ⟨fun _=>(h3.rch k (List.mem_cons_self ..)).trans hk.rch,fun _=>rfl⟩
  have hda:hd ≠ a:=fun z=>by rw [z] at e; simp at e
  have fin:∀ (st2:List Nat) (J2:Hp),Same H J2->J2 p = some (.lst (nsV st2.reverse))->J2 ps = some (.dK kvs)->Wk bs rk b st2->wt rk st2 < wt rk (k :: st)->(∀ y ∈ st,y ∈ st2)->(∀ y,Ed bs hd y->sn kvs hd = true\/y ∈ st2)->D'.nx [some (.ref x),some (.int (a:Int)),some (.int (b:Int)),some (.ref ps),some (.ref p),some (.int (hd:Int))] (upd J2 ps (.dK (putK kvs (Sum.inl (hd:Int)) (.bl true)))):=fun st2 J2 g1 g2 g3 g4 g5 g6 g7=>by
   refine hnx _ _ (wt rk st2) (by rw [h8]; exact g5) ⟨st2,_,_,rfl,by rw [a0j (Ne.symm nps)]; exact g2,a0b,g4,h4.put hd64 _,fun s hs=>?_,fun e he=>?_,a2x g1 hps,rfl⟩
   ·rw [a7t] at hs
    have old:∀ s,sn kvs s = true->∀ y e,Ed bs s y->End bs y e->sn (putK kvs (Sum.inl (hd:Int)) (.bl true)) e = true\/y ∈ st2:=fun s hs y e hy he=>by
     rcases (h5 s hs).2 y e hy he with z | z
     ·exact .inl (by rw [a7t,z,Bool.or_true])
     ·rcases List.mem_cons.mp z with rfl | z
      ·exact .inl (by rw [a7t,he.uniq hk]; simp)
      ·exact .inr (g6 y z)
    by_cases z:sn kvs s = true
    ·exact ⟨(h5 s z).1,old s z⟩
    ·have zs:s = hd:=by simpa [z] using hs
     subst zs
     exact ⟨hda,fun y e hy he=>.inr ((g7 y hy).resolve_left z)⟩
   ·rcases h6 e he with z | z
    ·exact .inl (by rw [a7t,z,Bool.or_true])
    ·rcases List.mem_cons.mp z with z | z
     ·subst z
      exact .inl (by rw [a7t,he.uniq hk]; simp)
     ·exact .inr (g6 _ z)
  have hput:kvs.length < sizeLine:=ln1 (by have:=h4.len; omega)
  have skip:(∀ y,Ed bs hd y->sn kvs hd = true\/y ∈ st)->D'.nx [some (.ref x),some (.int (a:Int)),some (.int (b:Int)),some (.ref ps),some (.ref p),some (.int (hd:Int))] (upd J ps (.dK (putK kvs (Sum.inl (hd:Int)) (.bl true)))):=fun g7=>fin st J f5 k5 k6 h3.pop wt_pop (fun y hy=>hy) g7
  walk_at "stp"
  refine ⟨ps,_,rfl,DGet.k (k:=Sum.inl (hd:Int)) k6,?_⟩
  walk_at "stp"
  refine iteB (fun e1=>?_) (fun e1=>?_)
  ·obtain ⟨bi,hbi⟩:=hk.is
   obtain ⟨u,e2,e3,e6⟩:=b1f hdl hbi.1
   obtain ⟨aa,us',rfl,hs,_⟩:=a8w e6
   walk_at "stp"
   refine ⟨x,_,dx,_,_,rfl,ho,T.cl_Heap,T.no_Heap_boxes,a1q _ _,?_⟩
   walk_at "stp"
   refine a1b (SqL.of hb) e3 ?_
   walk_at "stp"
   refine a0l hs (v:=.str bi.kind) atI0 ?_
   walk_at "stp"
   rw [c6u]
   cases hbk:bi with
   | app s ks=>
    subst hbk
    obtain ⟨a',b',ea,hs',hs2⟩:=a6h (s:=s) (ks:=ks) e6
    cases ea
    obtain ⟨g1,g2⟩:=h3.kids wf hr2 hk hbi.1
    have lz:=h3.pop.len
    have lk:=wf.ar _ _ _ hbi.1
    refine iteT ?_
    walk_at "stp"
    refine ⟨.inl ⟨rfl,_,SqL.of k5⟩,?_⟩
    walk_at "stp"
    refine ⟨x,_,dx,_,_,rfl,ho,T.cl_Heap,T.no_Heap_boxes,a1q _ _,?_⟩
    walk_at "stp"
    refine a1b (SqL.of hb) e3 ?_
    walk_at "stp"
    refine a0l hs' (v:=.ref b') rfl ?_
    walk_at "stp"
    refine c3m k5 hs2 (ln (by rw [a8x,a8x,List.length_reverse]; omega)) ?_
    rw [<- c1t]
    have f8:Same H (upd J p (.lst (nsV (ks.reverse ++ st).reverse))):=a2x f5 hp0
    have k8:(upd J p (.lst (nsV (ks.reverse ++ st).reverse))) p = some (.lst (nsV (ks.reverse ++ st).reverse)):=a0b
    have k9:(upd J p (.lst (nsV (ks.reverse ++ st).reverse))) ps = some (.dK kvs):=by rw [a0j nps]; exact k6
    generalize upd J p (.lst (nsV (ks.reverse ++ st).reverse)) = J2 at f8 k8 k9 ⊢
    walk_at "stp"
    refine ⟨ps,_,rfl,DPut.k (k:=Sum.inl (hd:Int)) k9 hput,?_⟩
    exact fin _ J2 f8 k8 k9 g1 g2 (fun y hy=>List.mem_append_right _ hy) (fun y hy=>by
     obtain ⟨s',ks',e7,e8⟩:=b4q hk.self hy
     rw [hbi.1] at e7
     cases e7
     exact .inr (List.mem_append_left _ (List.mem_reverse.mpr e8)))
   | _=>
    subst hbk
    refine iteF ?_
    walk_at "stp"
    refine ⟨ps,_,rfl,DPut.k (k:=Sum.inl (hd:Int)) k6 hput,?_⟩
    exact skip (fun y hy=>by
     obtain ⟨s',ks',e7,e8⟩:=b4q hk.self hy
     rw [hbi.1] at e7
     cases e7)
  ·walk_at "stp"
   refine ⟨ps,_,rfl,DPut.k (k:=Sum.inl (hd:Int)) k6 hput,?_⟩
   refine skip (fun y hy=>.inl ?_)
   unfold sn
   simpa using e1
end
section
variable {P:Program} {w:World} {K:W.Frag} {mg:Str->Option Value} {base:Heap} {t:Ad}
theorem c0k {n a:Nat} (h:a < n):ixN n (a:Int) = some a:=by
 unfold ixN
 rw [if_pos (by omega),if_pos (by omega)]
 rfl
theorem b0p {K:W.Frag} {H:Hp}:∀ {us:List V} {ds es:List PyData},DenL K H us (ds ++ es)->∃ u1 u2,us = u1 ++ u2/\DenL K H u1 ds/\DenL K H u2 es
 | us,[],es,h=>⟨[],us,rfl,.nil,h⟩
 | us,d :: ds,es,h=>by
  cases h with
  | cons h1 r=>
   obtain ⟨u1,u2,rfl,a,b⟩:=b0p r
   exact ⟨_ :: u1,u2,rfl,.cons h1 a,b⟩
theorem b5l {K:W.Frag} {H:Hp}:∀ {ks ls:List Nat} {qs:List Addr},ls.length = ks.length->qs.length = ks.length->a8j H qs (nsV ks) (nsV ls)->DenL K H (qs.map V.ref) ((ks.zip ls).map prD)
 | [],ls,qs,h1,h2,_=>by
  have:qs = []:=List.length_eq_zero_iff.mp h2
  subst this
  exact .nil
 | k :: ks,[],qs,h1,_,_=>by cases h1
 | k :: ks,l :: ls,[],_,h2,_=>by cases h2
 | k :: ks,l :: ls,q :: qs,h1,h2,hp=>by
  refine .cons (.tup (SqT.of (hp 0 q (.int k) (.int l) rfl rfl rfl)) (.cons (.int _) (.cons (.int _) .nil))) ?_
  exact b5l (by simpa using h1) (by simpa using h2) fun j q x y e1 e2 e3=>hp (j + 1) q x y (by simpa using e1) (by simpa using e2) (by simpa using e3)
theorem b4r {K:W.Frag} {H:Hp} {v:V} {d:PyData} (hv:Den K H v d):∀ {us:List V} {ds:List PyData} {a:Nat},DenL K H us ds->DenL K H (us.set a v) (ds.set a d)
 | _,_,a,.nil=>.nil
 | _,_,0,.cons h1 r=>.cons hv r
 | _,_,a + 1,.cons h1 r=>.cons h1 (b4r hv r)
theorem b8d (T:Txt K mg t) (G_Heap_stands_within:FnOk P w K mg base CX0 2 t.a_Heap_stands_within t.d_Heap_stands_within ["self","at","other"] (a2w K t.k_Heap)):FnOk P w K mg base CX0 3 t.a_Heap_bind t.d_Heap_bind ["self","at","other"] (a6v K t.k_Heap):=by
 refine T.F_Heap_bind.ok b7t (fun vs H Q E h=>?_) (fun cdv A outer s H vs Q E hr h=>?_)
 ·unfold a6v at h
  split at h
  ·rfl
  ·exact h.elim
 unfold a6v at h
 split at h
 rotate_left
 ·exact h.elim
 refine ⟨_,(a0d (a0y (a6p K rfl (a1j (mv 0) T.cl_Heap T.me_Heap_stands_within G_Heap_stands_within (hr.mono (by first | decide | omega)) T.b_Heap_stands_within .nil a0v (a0a (mv 1) (a0a (mv 2) a0e)))) (a0g (a0n a3m)) a0s) (a0d (c2m (a1c (a0a a0o (a0a (mv 2) a0e))) (c2l (a2a (mv 0) rfl) (mv 1) b6l)) (a0d (a4v (a7k K rfl F.plainAttrs_list F.slot_list_append F.type_list_append a7o (a2a (mv 0) rfl) (a0a (mv 1) a0e))) (a0g (a0n (a2b a0e)))))),?_⟩
 rename_i x a0 b0
 obtain ⟨pb,pt,bs,tr,a,b,w1,hl,wf,rfl,rfl,ha,hb0,htr,q1,q2⟩:=h
 obtain ⟨dx,ho⟩:=w1.ob
 have hal:=(List.getElem?_eq_some_iff.mp ha).1
 walk_at "stp"
 refine ⟨x,dx,_,rfl,ho,a1n,?_⟩
 walk_at "stp"
 refine ⟨pb,pt,bs,tr,a,b,w1,hl,wf,rfl,rfl,.here ha (fun c z=>by cases z),hb0.lt,fun r H1 s1 hr'=>?_⟩
 walk_at "stp"
 cases r with
 | true=>
  refine iteT ?_
  walk_at "stp"
  exact q1 (hr'.mp rfl) H1 s1
 | false=>
  have hn:¬ Rch bs b a:=fun z=>by have:=hr'.mpr z; cases this
  refine iteF ?_
  walk_at "stp"
  refine ⟨ln (by show 2<=100000; decide),fun p2 hp2=>?_⟩
  have sp2:Same H1 (upd H1 p2 (.tup [.str (Str.ofString "to"),.int (b:Int)])):=a0f hp2 _
  have kp2:(upd H1 p2 (.tup [.str (Str.ofString "to"),.int (b:Int)])) p2 = some (.tup [.str (Str.ofString "to"),.int (b:Int)]):=a0b
  generalize upd H1 p2 (.tup [.str (Str.ofString "to"),.int (b:Int)]) = H2 at sp2 kp2 ⊢
  walk_at "stp"
  have w2:=w1.same (s1.trans sp2)
  obtain ⟨dx,ho⟩:=w2.ob
  obtain ⟨us,hb,hd⟩:=w2.bx
  walk_at "stp"
  refine ⟨x,_,dx,_,_,rfl,ho,T.cl_Heap,T.no_Heap_boxes,a1q _ _,?_⟩
  walk_at "stp"
  refine ⟨pb,us,(a:Int),a,rfl,rfl,hb,c0k (by rw [a6g hd]; exact hal),?_⟩
  obtain ⟨w3,f3⟩:=w2.upB (vs:=us.set a (.ref p2)) (bs':=bs.set a (.to b)) (by rw [List.map_set]; exact b4r (.tup (SqT.of kp2) (.cons (.str _) (.cons (.int _) .nil))) hd)
  generalize upd H2 pb (.lst (us.set a (.ref p2))) = H3 at w3 f3 ⊢
  obtain ⟨dx,ho⟩:=w3.ob
  walk_at "stp"
  refine ⟨x,_,dx,_,_,rfl,ho,T.cl_Heap,T.no_Heap_trail,b0o _ _,?_⟩
  refine ⟨.inl ⟨rfl,_,SqL.of w3.trl⟩,?_⟩
  walk_at "stp"
  refine a6k w3.trl (ln1 (by rw [a8x]; omega)) ?_
  rw [show nsV tr ++ [V.int (a:Int)] = nsV (tr ++ [a]) by rw [nsV,nsV,List.map_append]; rfl]
  obtain ⟨w4,f4⟩:=w3.upT (tr':=tr ++ [a])
  generalize upd H3 pt (.lst (nsV (tr ++ [a]))) = H4 at w4 f4 ⊢
  walk_at "stp"
  refine ⟨ln (by show 0<=100000; decide),fun p5 hp5=>?_⟩
  have sp5:Same H4 (upd H4 p5 (.lst [])):=a0f hp5 _
  have kp5:(upd H4 p5 (.lst [])) p5 = some (.lst []):=a0b
  generalize upd H4 p5 (.lst []) = H5 at sp5 kp5 ⊢
  walk_at "stp"
  exact q2 hn p5 H5 ((((HFr.of (s1.trans sp2)).trans f3).trans f4).trans (HFr.of sp5)) (w4.same sp5) kp5
theorem b0v (T:Txt K mg t) (G_Heap_bind:FnOk P w K mg base CX0 3 t.a_Heap_bind t.d_Heap_bind ["self","at","other"] (a6v K t.k_Heap)) (G_key_of:FnOk P w K mg base CX0 1 t.a_key_of t.d_key_of ["term"] (a9a K)):FnOk P w K mg base CX0 4 t.a_Heap_kids_of_one t.d_Heap_kids_of_one ["self","left","right"] (a3k K t.k_Heap):=by
 refine T.F_Heap_kids_of_one.ok a4y (fun vs H Q E h=>?_) (fun cdv A outer s H vs Q E hr h=>?_)
 ·unfold a3k at h
  split at h
  ·rfl
  ·exact h.elim
 unfold a3k at h
 split at h
 rotate_left
 ·exact h.elim
 refine ⟨_,(a0d (a0r (i:=3) (hs:=a8r) a4y.nd rfl (by walk_at "or1") (a0k (a0i K rfl) (a2a (mv 0) rfl) (mv 1) (fun _ _=>rfl))) (a0d (a0r (i:=4) (hs:=a8r) a4y.nd rfl (by walk_at "or1") (a0k (a0i K rfl) (a2a (mv 0) rfl) (mv 2) (fun _ _=>rfl))) (a0d (a0y (a0q (b4l K rfl (a5o hr)) (mv 3) (a8b (v:=.ref t.c_FREE) rfl T.m_FREE rfl) (a0p _)) (a0g (a0n (a1j (mv 0) T.cl_Heap T.me_Heap_bind G_Heap_bind (hr.mono (by first | decide | omega)) T.b_Heap_bind .nil a0v (a0a (mv 1) (a0a (mv 2) a0e))))) a0s) (a0d (a0y (a0q (b4l K rfl (a5o hr)) (mv 4) (a8b (v:=.ref t.c_FREE) rfl T.m_FREE rfl) (a0p _)) (a0g (a0n (a1j (mv 0) T.cl_Heap T.me_Heap_bind G_Heap_bind (hr.mono (by first | decide | omega)) T.b_Heap_bind .nil a0v (a0a (mv 2) (a0a (mv 1) a0e))))) a0s) (a0d (a0y (a0q (ko_neKs K rfl (a5o hr)) (a0z G_key_of (hr.mono (by first | decide | omega)) rfl T.m_key_of T.F_key_of.kp T.b_key_of .nil a0v (a0a (mv 3) a0e)) (a0z G_key_of (hr.mono (by first | decide | omega)) rfl T.m_key_of T.F_key_of.kp T.b_key_of .nil a0v (a0a (mv 4) a0e)) (a0p _)) (a0g (a0n a3m)) a0s) (a0g (a0n (b2k (a0q a1e (a0k (a0i K rfl) (mv 3) a0c (fun _ _=>rfl)) a0o (a0p _)) (c1j K rfl rfl rfl T.n_list rfl T.n_zip (a0a (a0k (a0i K rfl) (mv 3) a0c (fun _ _=>rfl)) (a0a (a0k (a0i K rfl) (mv 4) a0c (fun _ _=>rfl)) a0e))) (a2b a0e))))))))),?_⟩
 rename_i x a0 b0
 obtain ⟨pb,pt,bs,tr,a,b,w1,hl,wf,rfl,rfl,ha,hb0,hab,htr,q1,q2⟩:=h
 obtain ⟨dx,ho⟩:=w1.ob
 obtain ⟨us,hb,hd⟩:=w1.bx
 obtain ⟨u,hu,nu⟩:=ha.is
 obtain ⟨v,hv,nv⟩:=hb0.is
 obtain ⟨au,e1,e2,e3⟩:=b1f hd hu
 obtain ⟨av,g1,g2,g3⟩:=b1f hd hv
 obtain ⟨au,us1,rfl,hs,e5⟩:=a8w e3
 obtain ⟨av,us2,rfl,gs,g5⟩:=a8w g3
 walk_at "stp"
 refine ⟨x,_,dx,_,_,rfl,ho,T.cl_Heap,T.no_Heap_boxes,a1q _ _,?_⟩
 walk_at "stp"
 refine a1b (SqL.of hb) e2 ?_
 walk_at "stp"
 refine ⟨x,_,dx,_,_,rfl,ho,T.cl_Heap,T.no_Heap_boxes,a1q _ _,?_⟩
 walk_at "stp"
 refine a1b (SqL.of hb) g2 ?_
 walk_at "stp"
 refine b4m hs (T.q_FREE H) ?_
 rw [show (Str.ofString "free") = a5p from rfl,e5]
 cases hfu:u.isFree with
 | true=>
  have hu2:bs[a]? = some .free:=by rw [hu]; cases u <;> first | rfl | cases hfu
  obtain ⟨l1,l2⟩:=stp_l hu2 hab
  walk_at "stp"
  refine iteT ?_
  walk_at "stp"
  refine ⟨x,dx,_,rfl,ho,a1n,?_⟩
  walk_at "stp"
  refine ⟨pb,pt,bs,tr,a,b,w1,hl,wf,rfl,rfl,hu2,hb0,htr,fun z H1 s1=>q1 (l1 z) H1 s1,fun z p H1 f1 w2 k1=>?_⟩
  exact q2 _ _ (l2 z) p _ H1 f1 w2 (.inr ⟨a,b,hu2,rfl,rfl⟩) ⟨[],k1,.nil⟩
 | false=>
  walk_at "stp"
  refine iteF ?_
  walk_at "stp"
  refine b4m gs (T.q_FREE H) ?_
  rw [show (Str.ofString "free") = a5p from rfl,g5]
  cases hfv:v.isFree with
  | true=>
   have hv2:bs[b]? = some .free:=by rw [hv]; cases v <;> first | rfl | cases hfv
   obtain ⟨l1,l2⟩:=stp_r hu hfu hv2
   walk_at "stp"
   refine iteT ?_
   walk_at "stp"
   refine ⟨x,dx,_,rfl,ho,a1n,?_⟩
   walk_at "stp"
   refine ⟨pb,pt,bs,tr,b,a,w1,hl,wf,rfl,rfl,hv2,ha,htr,fun z H1 s1=>q1 (l1 z) H1 s1,fun z p H1 f1 w2 k1=>?_⟩
   exact q2 _ _ (l2 z) p _ H1 f1 w2 (.inr ⟨b,a,hv2,rfl,rfl⟩) ⟨[],k1,.nil⟩
  | false=>
   have tu:=ha.box hu
   have tv:=hb0.box hv
   obtain ⟨l1,l2⟩:=stp_k hu hv hfu hfv tu tv
   walk_at "stp"
   refine iteF ?_
   walk_at "stp"
   refine ⟨u,e3,hfu,nu,fun s ks z=>wf.ar _ _ _ (z ▸ hu),fun p1 H1 s1 k1=>?_⟩
   walk_at "stp"
   refine ⟨v,g3.mono s1,hfv,nv,fun s ks z=>wf.ar _ _ _ (z ▸ hv),fun p2 H2 s2 k2=>?_⟩
   walk_at "stp"
   have s02:=s1.trans s2
   refine ⟨p1,u.key,rfl,s2.tup k1,.inr ⟨p2,v.key,rfl,k2,?_⟩⟩
   walk_at "stp"
   refine iteB (fun e=>?_) (fun e=>?_)
   ·walk_at "stp"
    exact q1 (l1 (by simpa using e)) H2 s02
   have e:u.key = v.key:=by simpa using e
   have l3:=l2 e
   walk_at "stp"
   cases u with
   | free=>cases hfu
   | to c=>cases tu
   | num n=>
    obtain ⟨a',ea,hs'⟩:=b3t (s:=numS) (n:=n) e3
    cases ea
    refine a0l (s02.tup hs') (v:=.str numS) rfl ?_
    walk_at "stp"
    refine iteB (fun e=>absurd e (by decide +kernel)) (fun _=>?_)
    walk_at "stp"
    refine ⟨ln (by show 0<=100000; decide),fun p3 hp3=>?_⟩
    have sp3:Same H2 (upd H2 p3 (.lst [])):=a0f hp3 _
    have kp3:(upd H2 p3 (.lst [])) p3 = some (.lst []):=a0b
    generalize upd H2 p3 (.lst []) = H3 at sp3 kp3 ⊢
    walk_at "stp"
    exact q2 _ _ l3 p3 tr H3 (HFr.of (s02.trans sp3)) (w1.same (s02.trans sp3)) (.inl ⟨rfl,rfl⟩) ⟨[],kp3,.nil⟩
   | app s ks=>
    cases v with
    | app t' ls=>
     obtain ⟨a',b',ea,hs',hs2⟩:=a6h (s:=s) (ks:=ks) e3
     cases ea
     obtain ⟨a2,b2,ea2,gs',gs2⟩:=a6h (s:=t') (ks:=ls) g3
     cases ea2
     have hlen:ls.length = ks.length:=by simp only [Bx.key,List.cons.injEq,Sum.inl.injEq] at e; omega
     refine a0l (s02.tup hs') (v:=.str appS) rfl ?_
     walk_at "stp"
     refine iteB (fun _=>?_) (fun e=>absurd e (by decide +kernel))
     walk_at "stp"
     refine a0l (s02.tup hs') (v:=.ref b') rfl ?_
     walk_at "stp"
     refine a0l (s02.tup gs') (v:=.ref b2) rfl ?_
     walk_at "stp"
     refine ⟨b',b2,_,_,rfl,s02.tup hs2,s02.tup gs2,by rw [a8x,a8x]; exact hlen,fun p3 H3 qs hp3 s3 k3 l4 k4=>?_⟩
     walk_at "stp"
     refine q2 _ _ l3 p3 tr H3 (HFr.of (s02.trans s3)) (w1.same (s02.trans s3)) (.inl ⟨rfl,rfl⟩) ⟨_,k3,?_⟩
     rw [a8x] at l4
     exact b5l hlen l4 k4
    | _=>simp [Bx.key] at e
theorem b3u (T:Txt K mg t)  : FnOk P w K mg base CX0 1 t.a_Heap_back_to t.d_Heap_back_to ["self","mark"] (a4z K t.k_Heap):=by
 refine T.F_Heap_back_to.ok b3s (fun vs H Q E h=>?_) (fun cdv A outer s H vs Q E hr h=>?_)
 ·unfold a4z at h
  split at h
  ·rfl
  ·exact h.elim
 unfold a4z at h
 split at h
 rotate_left
 ·exact h.elim
 refine ⟨_,(a0d (a5w PassesOwn.never (a0q a8y (a1i (a2i K rfl) rfl T.n_len PySem.boot_len (a0a (a2a (mv 0) rfl) a0e)) (a0k (a0i K rfl) (mv 1) a0c (fun _ _=>rfl)) (a0p _)) (a0g (c2m (a8b (v:=.ref t.c_FREE) rfl T.m_FREE rfl) (c2l (a2a (mv 0) rfl) (a8n K rfl F.plainAttrs_list F.slot_list_pop F.type_list_pop a9m (a2a (mv 0) rfl)) b6l)))) (a0g (a5w PassesOwn.never (a0q a8y (a1i (a2i K rfl) rfl T.n_len PySem.boot_len (a0a (a2a (mv 0) rfl) a0e)) (a0k (a0i K rfl) (mv 1) a0c (fun _ _=>rfl)) (a0p _)) (a0g (a4v (a8n K rfl F.plainAttrs_list F.slot_list_pop F.type_list_pop a9m (a2a (mv 0) rfl))))))),?_⟩
 rename_i x p
 obtain ⟨pb,pt,bs,tr,n,t0,sv,w1,hm,mk,q⟩:=h
 have hz:tr.take t0 ++ tr.drop t0 = tr:=List.take_append_drop t0 tr
 have tl:=mk.tl
 walk_at "stp"
 refine a5d (fun m σ' H'=>∃ (bs1:Bs) (l:List Nat),σ' = [some (.ref x),some (.ref p)]/\HS K t.k_Heap H' x pb pt bs1 (tr.take t0 ++ l)/\HFr pb pt H H'/\undo bs1 l = undo bs (tr.drop t0)/\bs1.length = bs.length/\(∀ a ∈ l,a < bs.length)/\m = l.length) _ ⟨bs,tr.drop t0,rfl,by rw [hz]; exact w1,HFr.refl _ _ _,rfl,rfl,fun a ha=>mk.all a (List.mem_of_mem_drop ha),rfl⟩ (fun m σ' H' R hP kT kF=>?_)
 obtain ⟨bs1,l,rfl,w2,f2,hu,hl,hal,rfl⟩:=hP
 obtain ⟨dx,ho⟩:=w2.ob
 obtain ⟨us,hb,hd⟩:=w2.bx
 have hm2:=w1.tup f2 _ _ hm
 walk_at "stp"
 refine ⟨x,_,dx,_,_,rfl,ho,T.cl_Heap,T.no_Heap_trail,b0o _ _,?_⟩
 walk_at "stp"
 refine a4q (SqL.of w2.trl) ?_
 rw [a8x,List.length_append,List.length_take,Nat.min_eq_left tl]
 walk_at "stp"
 refine a0l hm2 (v:=.int (t0:Int)) rfl ?_
 walk_at "stp"
 rcases nil_or_snoc' l with rfl | ⟨l,a,rfl⟩
 ·rw [show decide (((t0 + ([]:List Nat).length:Nat):Int) > (t0:Int)) = false by simp]
  refine kF H' ?_
  rw [b2w] at hu
  rw [List.append_nil] at w2
  walk_at "stp"
  refine a5d (fun m σ' H'=>∃ (bs1:Bs),σ' = [some (.ref x),some (.ref p)]/\HS K t.k_Heap H' x pb pt bs1 (tr.take t0)/\HFr pb pt H H'/\bs1.take n = sv/\n<=bs1.length/\m = bs1.length) _ ⟨bs1,rfl,w2,f2,by rw [hu]; exact mk.sv,by rw [hl]; exact mk.nl,rfl⟩ (fun m σ' H' R hP kT kF=>?_)
  obtain ⟨bs2,rfl,w3,f3,hs,hn,rfl⟩:=hP
  obtain ⟨dx,ho⟩:=w3.ob
  obtain ⟨us,hb,hd⟩:=w3.bx
  have hm3:=w1.tup f3 _ _ hm
  walk_at "stp"
  refine ⟨x,_,dx,_,_,rfl,ho,T.cl_Heap,T.no_Heap_boxes,a1q _ _,?_⟩
  walk_at "stp"
  refine a4q (SqL.of hb) ?_
  rw [a6g hd]
  walk_at "stp"
  refine a0l hm3 (v:=.int (n:Int)) rfl ?_
  walk_at "stp"
  by_cases z:n = bs2.length
  ·rw [show decide ((bs2.length:Int) > (n:Int)) = false by rw [z]; simp]
   refine kF H' ?_
   walk_at "stp"
   rw [z,List.take_length] at hs
   subst hs
   exact q H' f3 w3
  ·rw [show decide ((bs2.length:Int) > (n:Int)) = true by simp; omega]
   refine kT H' (fun D' e1 e2 hnx hct=>?_)
   rcases nil_or_snoc' bs2 with rfl | ⟨bs2,y,rfl⟩
   ·exact absurd (Nat.le_zero.mp hn) z
   rw [List.length_append,List.length_singleton] at hn z
   rw [List.map_append] at hd
   obtain ⟨us1,us2,rfl,d1,d2⟩:=b0p hd
   obtain ⟨u,rfl⟩:∃ u,us2 = [u]:=by cases d2 with | cons a b=>cases b; exact ⟨_,rfl⟩
   obtain ⟨w4,f4⟩:=w3.upB (vs:=us1) (bs':=bs2) d1
   walk_at "stp"
   refine ⟨x,_,dx,_,_,rfl,ho,T.cl_Heap,T.no_Heap_boxes,a1q _ _,?_⟩
   refine ⟨.inl ⟨rfl,_,SqL.of hb⟩,?_⟩
   walk_at "stp"
   refine a9q hb ?_
   walk_at "stp"
   exact hnx _ _ bs2.length (by rw [List.length_append,List.length_singleton]; omega) ⟨bs2,rfl,w4,f3.trans f4,by rw [List.take_append_of_le_length (by omega)] at hs; exact hs,by omega,rfl⟩
 ·rw [show decide (((t0 + (l ++ [a]).length:Nat):Int) > (t0:Int)) = true by simp; omega]
  refine kT H' (fun D' e1 e2 hnx hct=>?_)
  have hala:=hal a (by simp)
  have ht':H' pt = some (.lst (nsV (tr.take t0 ++ l) ++ [.int (a:Int)])):=by rw [w2.trl,<- List.append_assoc,nsV,List.map_append]; rfl
  obtain ⟨w3,f3⟩:=w2.upT (tr':=tr.take t0 ++ l)
  walk_at "stp"
  refine ⟨x,_,dx,_,_,rfl,ho,T.cl_Heap,T.no_Heap_boxes,a1q _ _,?_⟩
  walk_at "stp"
  refine ⟨x,_,dx,_,_,rfl,ho,T.cl_Heap,T.no_Heap_trail,b0o _ _,?_⟩
  refine ⟨.inl ⟨rfl,_,SqL.of ht'⟩,?_⟩
  walk_at "stp"
  refine a9q ht' ?_
  generalize upd H' pt (.lst (nsV (tr.take t0 ++ l))) = H3 at w3 f3 ⊢
  obtain ⟨us3,hb3,hd3⟩:=w3.bx
  walk_at "stp"
  refine ⟨pb,us3,(a:Int),a,rfl,rfl,hb3,c0k (by rw [a6g hd3,hl]; exact hala),?_⟩
  obtain ⟨w4,f4⟩:=w3.upB (vs:=us3.set a (.ref t.c_FREE)) (bs':=bs1.set a .free) (by rw [List.map_set]; exact b4r (.tup (T.q_FREE H3) (.cons (.str _) .nil)) hd3)
  refine hnx _ _ l.length (by simp) ⟨bs1.set a .free,l,rfl,w4,(f2.trans f3).trans f4,?_,by rw [List.length_set,hl],fun c hc=>hal c (by simp [hc]),rfl⟩
  rw [<- hu,b0k,c6s (by rw [hl]; exact hala)]
end
section
variable {P:Program} {w:World} {K:W.Frag} {mg:Str->Option Value} {base:Heap} {t:Ad}
noncomputable def SnG {κ:Type} [DecidableEq κ] (f:Nat->κ) (N:Nat) (kvs:List (κ × V)):Prop:=kvs.length + (List.range N).countP (fun i=>!(valV kvs (f i)).isSome)<=N
theorem SnG.put {κ:Type} [DecidableEq κ] {f:Nat->κ} {N:Nat} {kvs:List (κ × V)} (k:SnG f N kvs) {h:Nat} (hh:h < N) (v:V):SnG f N (putK kvs (f h) v):=by
 unfold SnG at k ⊢
 have mono:∀ x,(!(valV (putK kvs (f h) v) (f x)).isSome) = true->(!(valV kvs (f x)).isSome) = true:=fun x hx=>by
  rw [b0f] at hx
  by_cases e:f x = f h
  ·rw [if_pos e] at hx; cases hx
  ·rwa [if_neg e] at hx
 by_cases e:(valV kvs (f h)).isSome = true
 ·have e2:(putK kvs (f h) v).length = kvs.length:=by
   unfold putK
   rw [a5x,e,if_pos rfl,List.length_map]
  rw [e2]
  have:=b3p (l:=List.range N) (fun x _ hx=>mono x hx)
  omega
 ·have e3:valV kvs (f h) = none:=by simpa using e
  have e4:(putK kvs (f h) v).length = kvs.length + 1:=by rw [a7a _ e3,List.length_append,List.length_singleton]
  rw [e4]
  have:=b3q (b:=h) (l:=List.range N) (p:=fun i=>!(valV (putK kvs (f h) v) (f i)).isSome) (q:=fun i=>!(valV kvs (f i)).isSome) (by simp [e3]) (by simp [b0f]) (fun x _ hx=>mono x hx) (by simpa using hh)
  omega
theorem SnG.nil {κ:Type} [DecidableEq κ] {f:Nat->κ} {N:Nat}:SnG f N ([]:List (κ × V)):=by
 have:=List.countP_le_length (p:=fun i=>!(valV ([]:List (κ × V)) (f i)).isSome) (l:=List.range N)
 unfold SnG
 rw [List.length_range] at this
 exact Nat.le_trans (Nat.le_of_eq (Nat.zero_add _)) this
noncomputable abbrev pk (a b:Nat):List Key:=[Sum.inl (a:Int),Sum.inl (b:Int)]
noncomputable def pkf (i:Nat):List Key:=pk (i / 128) (i % 128)
theorem pkf_of {a b:Nat} (hb:b < 128):pkf (128 * a + b) = pk a b:=by
 unfold pkf
 rw [show (128 * a + b) / 128 = a by omega,show (128 * a + b) % 128 = b by omega]
theorem a6o {K:W.Frag} {J:Hp} {D:Addr} {o0 o:HO} (h:J D = some o0) (n1:∀ xs,o0 ≠ .tup xs) (n2:∀ o xs,o0 ≠ .frz o (.tup xs)):∀ a xs,SqT K J a xs->SqT K (upd J D o) a xs:=fun a xs q=>by
 rcases q with (q | ⟨ob,q⟩) | q
 ·exact .inl (.inl (by rw [a0j (fun z=>by rw [z,h] at q; exact n1 _ (Option.some.inj q))]; exact q))
 ·exact .inl (.inr ⟨ob,by rw [a0j (fun z=>by rw [z,h] at q; exact n2 _ _ (Option.some.inj q))]; exact q⟩)
 ·exact .inr q
theorem HS.upO {K:W.Frag} {C:Addr} {J:Hp} {x pb pt D:Addr} {bs:Bs} {tr:List Nat} {o0:HO} (w:HS K C J x pb pt bs tr) (o:HO) (h:J D = some o0) (n1:∀ xs,o0 ≠ .tup xs) (n2:∀ o xs,o0 ≠ .frz o (.tup xs)) (n3:∀ c d fs,o0 ≠ .ins c d fs) (d1:D ≠ pb) (d2:D ≠ pt):HS K C (upd J D o) x pb pt bs tr:=by
 obtain ⟨⟨dx,h1⟩,⟨us,h2,h3⟩,h4,h5⟩:=w
 exact ⟨⟨dx,by rw [a0j (fun z=>by rw [z,h] at h1; exact n3 _ _ _ (Option.some.inj h1))]; exact h1⟩,⟨us,by rw [a0j (Ne.symm d1)]; exact h2,h3.monoT (a6o h n1 n2)⟩,by rw [a0j (Ne.symm d2)]; exact h4,h5⟩
theorem HFr.own {pb pt D:Addr} {H J:Hp} {o:HO} (f:HFr pb pt H J) (h:H D = none):HFr pb pt H (upd J D o):=fun b u h1 h2 e=>by
 rw [a0j (fun z=>by rw [z,h] at e; cases e)]; exact f b u h1 h2 e
theorem b8e {K:W.Frag} {H:Hp}:∀ {us:List V} {ds:List PyData},DenL K H us ds->DenL K H us.reverse ds.reverse
 | _,_,.nil=>.nil
 | _,_,.cons h r=>by
  rw [List.reverse_cons,List.reverse_cons]
  exact (b8e r).append (.cons h .nil)
theorem den_pr {K:W.Frag} {H:Hp} {u:V} {p:Nat × Nat} (h:Den K H u (prD p)):∃ a,u = .ref a/\SqT K H a [.int (p.1:Int),.int (p.2:Int)]:=by
 cases h with
 | tup hs hl=>cases hl with | cons h1 r=>cases h1; cases r with | cons h2 r=>cases h2; cases r; exact ⟨_,rfl,hs⟩
theorem b9g (T:Txt K mg t) (G_Heap_end_of:FnOk P w K mg base CX0 1 t.a_Heap_end_of t.d_Heap_end_of ["self","at"] (a3g K t.k_Heap)) (G_Heap_kids_of_one:FnOk P w K mg base CX0 4 t.a_Heap_kids_of_one t.d_Heap_kids_of_one ["self","left","right"] (a3k K t.k_Heap)):FnOk P w K mg base CX0 5 t.a_Heap_one t.d_Heap_one ["self","at","other"] (a7l K t.k_Heap):=by
 refine T.F_Heap_one.ok a4x (fun vs H Q E h=>?_) (fun cdv A outer s H vs Q E hr h=>?_)
 ·unfold a7l at h
  split at h
  ·rfl
  ·exact h.elim
 unfold a7l at h
 split at h
 rotate_left
 ·exact h.elim
 refine ⟨_,(a0d (a0r (i:=3) a4x.nd rfl (by walk_at "or1") c5v) (a0d (a0r (i:=4) (hs:=a9u) a4x.nd rfl (by walk_at "or1") (a2b (a0a (a1c (a0a (mv 1) (a0a (mv 2) a0e))) a0e))) (a0d (a5w PassesOwn.never (a6p K rfl (mv 4)) (a0d (a0r (i:=5) (hs:=a1h) a4x.nd rfl (by walk_at "or1") (a8n K rfl F.plainAttrs_list F.slot_list_pop F.type_list_pop a9m (mv 4))) (a0d (a0r (i:=6) (hs:=sw_tup) a4x.nd rfl (by walk_at "or1") (a1c (a0a (a1j (mv 0) T.cl_Heap T.me_Heap_end_of G_Heap_end_of (hr.mono (by first | decide | omega)) T.b_Heap_end_of .nil a0v (a0a (a0k (a0i K rfl) (mv 5) a0c (fun _ _=>rfl)) a0e)) (a0a (a1j (mv 0) T.cl_Heap T.me_Heap_end_of G_Heap_end_of (hr.mono (by first | decide | omega)) T.b_Heap_end_of .nil a0v (a0a (a0k (a0i K rfl) (mv 5) a0c (fun _ _=>rfl)) a0e)) a0e)))) (a0g (a0y (PW.pt (a5b (a0q b3k (a0k (a0i K rfl) (mv 6) a0c (fun _ _=>rfl)) (a0k (a0i K rfl) (mv 6) a0c (fun _ _=>rfl)) (a0p _)) (a4u (a0q (b4h (a3z hr)) (mv 6) (mv 3) (by with_unfolding_all rfl))))) (a0d (a9l (a3z hr) (mv 3) (mv 6) a3y rfl) (a0d (a0r (i:=7) (hs:=a1h) a4x.nd rfl (by walk_at "or1") (a1j (mv 0) T.cl_Heap T.me_Heap_kids_of_one G_Heap_kids_of_one (hr.mono (by first | decide | omega)) T.b_Heap_kids_of_one .nil a0v (a0a (a0k (a0i K rfl) (mv 6) a0c (fun _ _=>rfl)) (a0a (a0k (a0i K rfl) (mv 6) a0c (fun _ _=>rfl)) a0e)))) (a0d (a0y (a0q c3s (mv 7) a3m (a0p _)) (a0g (a0n a3y)) a0s) (a0g (a4v (a7k K rfl F.plainAttrs_list F.slot_list_extend F.type_list_extend (b1a K rfl) (mv 4) (a0a (c1n K rfl rfl rfl T.n_list rfl T.n_reversed (a0a (mv 7) a0e)) a0e))))))) a0s))))) (a0g (a0n a3y))))),?_⟩
 rename_i x a0 b0
 obtain ⟨pb,pt,bs,tr,n,m,k0,bs',r,w1,rfl,rfl,lim,htr,run,q⟩:=h
 walk_at "stp"
 intro pm hpm
 have s1:Same H (upd H pm (.dT [])):=a0f hpm _
 have k1:(upd H pm (.dT [])) pm = some (.dT []):=a0b
 generalize upd H pm (.dT []) = H1 at s1 k1 ⊢
 walk_at "stp"
 refine ⟨ln (by show 2<=100000; decide),fun pq hpq=>?_⟩
 have spq:Same H1 (upd H1 pq (.tup [.int (n:Int),.int (m:Int)])):=a0f hpq _
 have kpq:(upd H1 pq (.tup [.int (n:Int),.int (m:Int)])) pq = some (.tup [.int (n:Int),.int (m:Int)]):=a0b
 generalize upd H1 pq (.tup [.int (n:Int),.int (m:Int)]) = H2 at spq kpq ⊢
 walk_at "stp"
 refine ⟨ln (by show 1<=100000; decide),fun p hp=>?_⟩
 have sp:Same H2 (upd H2 p (.lst [.ref pq])):=a0f hp _
 have kp:(upd H2 p (.lst [.ref pq])) p = some (.lst [.ref pq]):=a0b
 generalize upd H2 p (.lst [.ref pq]) = H3 at sp kp ⊢
 walk_at "stp"
 have s3:=s1.trans (spq.trans sp)
 have npm:pm ≠ p:=fun z=>by rw [<- z,spq _ _ k1] at hp; cases hp
 have hp0:H p = none:=s1.free (spq.free hp)
 obtain ⟨us0,hb0,_⟩:=w1.bx
 have p1:p ≠ pb:=fun z=>by rw [z,hb0] at hp0; cases hp0
 have p2:p ≠ pt:=fun z=>by rw [z,w1.trl] at hp0; cases hp0
 have m1:pm ≠ pb:=fun z=>by rw [z,hb0] at hpm; cases hpm
 have m2:pm ≠ pt:=fun z=>by rw [z,w1.trl] at hpm; cases hpm
 have hnf:=nf_le bs
 have hl64:=lim.len
 refine a5d (fun k σ' H'=>∃ (st met:List (Nat × Nat)) (kvs:List (List Key × V)) (bs1:Bs) (tr1:List Nat) (us:List V) (o5 o6 o7:Option V),σ' = [some (.ref x),some (.int (n:Int)),some (.int (m:Int)),some (.ref pm),some (.ref p),o5,o6,o7]/\H' p = some (.lst us)/\DenL K H' us (st.reverse.map prD)/\H' pm = some (.dT kvs)/\HS K t.k_Heap H' x pb pt bs1 tr1/\Lim bs1 st/\Met bs1 met st/\(∀ a b,(valV kvs (pk a b)).isSome = true->(a,b) ∈ met)/\SnG pkf 16384 kvs/\Run k bs1 st bs' r/\Up bs tr bs1 tr1/\tr1.length + nf bs1<=tr.length + nf bs/\HFr pb pt H H') k0 ⟨[(n,m)],[],[],bs,tr,_,none,none,none,rfl,kp,.cons (.tup (SqT.of (sp _ _ kpq)) (.cons (.int _) (.cons (.int _) .nil))) .nil,sp _ _ (spq _ _ k1),w1.same s3,lim,fun z hz=>(by cases hz),fun a b hz=>(by cases hz),SnG.nil,run,Up.refl _ _,Nat.le_refl _,HFr.of s3⟩ (fun k σ' H' R hP kT kF=>?_)
 obtain ⟨st,met,kvs,bs1,tr1,us,o5,o6,o7,rfl,h1,h2,h3,w2,h4,h5,h6,h7,h8,h9,h10,f2⟩:=hP
 walk_at "stp"
 refine .inl ⟨_,SqL.of h1,?_⟩
 cases st with
 | nil=>
  cases h2
  refine kF H' ?_
  walk_at "stp"
  cases h8
  exact q tr1 H' f2 w2 h9 (by omega)
 | cons p0 st=>
  obtain ⟨x0,y0⟩:=p0
  rw [List.reverse_cons,List.map_append] at h2
  obtain ⟨us,us2,rfl,d1,d2⟩:=b0p h2
  obtain ⟨u,rfl,d3⟩:∃ u,us2 = [u]/\Den K H' u (prD (x0,y0)):=by cases d2 with | cons a b=>cases b; exact ⟨_,rfl,a⟩
  obtain ⟨ta,rfl,hta⟩:=den_pr d3
  rw [show (!(us ++ [V.ref ta]).isEmpty) = true by simp]
  refine kT H' (fun D' e4 e5 hnx hct=>?_)
  obtain ⟨a,ha⟩:=h4.wf.end_ (h4.val _ (List.mem_cons_self ..)).1
  obtain ⟨b,hb⟩:=h4.wf.end_ (h4.val _ (List.mem_cons_self ..)).2
  have l1:=h4.len
  have a64:a < 128:=Nat.lt_of_lt_of_le ha.lt l1
  have b64:b < 128:=Nat.lt_of_lt_of_le hb.lt l1
  walk_at "stp"
  refine ⟨.inl ⟨rfl,_,SqL.of h1⟩,?_⟩
  refine a9q h1 ?_
  have fJ:HFr pb pt H (upd H' p (.lst us)):=f2.own hp0
  have wJ:HS K t.k_Heap (upd H' p (.lst us)) x pb pt bs1 tr1:=w2.upO _ h1 (fun _ z=>by cases z) (fun _ _ z=>by cases z) (fun _ _ _ z=>by cases z) p1 p2
  have tJ:∀ a xs,SqT K H' a xs->SqT K (upd H' p (.lst us)) a xs:=a6o h1 (fun _ z=>by cases z) (fun _ _ z=>by cases z)
  have k5:(upd H' p (.lst us)) p = some (.lst us):=a0b
  have k6:(upd H' p (.lst us)) pm = some (.dT kvs):=by rw [a0j npm]; exact h3
  generalize upd H' p (.lst us) = J at fJ wJ tJ k5 k6 ⊢
  have d1:=d1.monoT tJ
  have hta:=tJ _ _ hta
  obtain ⟨dx,ho⟩:=wJ.ob
  walk_at "stp"
  refine ⟨x,dx,_,rfl,ho,a1n,?_⟩
  walk_at "stp"
  refine a0l hta (v:=.int (x0:Int)) rfl ?_
  walk_at "stp"
  refine ⟨pb,pt,bs1,tr1,x0,a,wJ,h4.wf,rfl,ha,?_⟩
  walk_at "stp"
  refine ⟨x,dx,_,rfl,ho,a1n,?_⟩
  walk_at "stp"
  refine a0l hta (v:=.int (y0:Int)) rfl ?_
  walk_at "stp"
  refine ⟨pb,pt,bs1,tr1,y0,b,wJ,h4.wf,rfl,hb,?_⟩
  walk_at "stp"
  refine ⟨ln (by show 2<=100000; decide),fun pp hpp=>?_⟩
  have spp:Same J (upd J pp (.tup [.int (a:Int),.int (b:Int)])):=a0f hpp _
  have kpp:(upd J pp (.tup [.int (a:Int),.int (b:Int)])) pp = some (.tup [.int (a:Int),.int (b:Int)]):=a0b
  generalize upd J pp (.tup [.int (a:Int),.int (b:Int)]) = J1 at spp kpp ⊢
  walk_at "stp"
  have fJ1:=fJ.trans (HFr.of spp)
  have wJ1:=wJ.same spp
  have d1:=d1.mono spp
  have k5:=spp _ _ k5
  have k6:=spp _ _ k6
  have kq:J1 pp = some (.tup ((pk a b).map kV)):=kpp
  have skip:Eqv bs1 NoA x0 y0->D'.nx [some (.ref x),some (.int (n:Int)),some (.int (m:Int)),some (.ref pm),some (.ref p),some (.ref ta),some (.ref pp),o7] J1:=fun e=>by
   obtain ⟨k2,hk2,run2⟩:=e.skip h4.wf _ _ _ _ h8
   exact hnx _ _ k2 hk2 ⟨st,met,kvs,bs1,tr1,us,_,_,_,rfl,k5,d1,k6,wJ1,h4.pop,h5.pop e,h6,h7,run2,h9,h10,fJ1⟩
  walk_at "stp"
  refine a0l (SqT.of kpp) (v:=.int (a:Int)) rfl ?_
  walk_at "stp"
  refine a0l (SqT.of kpp) (v:=.int (b:Int)) rfl ?_
  walk_at "stp"
  refine iteB (fun e=>?_) (fun e=>?_)
  ·have hab:a ≠ b:=fun z=>by rw [z] at e; simp at e
   walk_at "stp"
   refine ⟨pm,_,rfl,DGet.t (k:=pk a b) k6 kq,?_⟩
   walk_at "stp"
   refine iteB (fun e1=>?_) (fun e1=>?_)
   ·walk_at "stp"
    have lk:kvs.length < sizeLine:=ln1 (by unfold SnG at h7; omega)
    refine ⟨pm,_,rfl,DPut.t (k:=pk a b) k6 kq lk,?_⟩
    have h7':=h7.put (h:=128 * a + b) (by omega) (.bl true)
    rw [pkf_of b64] at h7'
    have h6':∀ a2 b2,(valV (putK kvs (pk a b) (.bl true)) (pk a2 b2)).isSome = true->(a2,b2) ∈ (a,b) :: met:=fun a2 b2 hz=>by
     rw [b0f] at hz
     by_cases e:pk a2 b2 = pk a b
     ·simp only [List.cons.injEq,Sum.inl.injEq] at e
      rw [show a2 = a by omega,show b2 = b by omega]
      exact List.mem_cons_self ..
     ·rw [if_neg e] at hz; exact List.mem_cons_of_mem _ (h6 a2 b2 hz)
    generalize putK kvs (pk a b) (.bl true) = kvs2 at h7' h6' ⊢
    have fJ2:HFr pb pt H (upd J1 pm (.dT kvs2)):=fJ1.own hpm
    have wJ2:HS K t.k_Heap (upd J1 pm (.dT kvs2)) x pb pt bs1 tr1:=wJ1.upO _ k6 (fun _ z=>by cases z) (fun _ _ z=>by cases z) (fun _ _ _ z=>by cases z) m1 m2
    have tJ2:∀ a xs,SqT K J1 a xs->SqT K (upd J1 pm (.dT kvs2)) a xs:=a6o k6 (fun _ z=>by cases z) (fun _ _ z=>by cases z)
    have k7:(upd J1 pm (.dT kvs2)) p = some (.lst us):=by rw [a0j (Ne.symm npm)]; exact k5
    have k8:(upd J1 pm (.dT kvs2)) pm = some (.dT kvs2):=a0b
    generalize upd J1 pm (.dT kvs2) = J2 at fJ2 wJ2 tJ2 k7 k8 ⊢
    have d1:=d1.monoT tJ2
    have kp2:=tJ2 _ _ (SqT.of kpp)
    obtain ⟨dx,ho⟩:=wJ2.ob
    walk_at "stp"
    refine ⟨x,dx,_,rfl,ho,a1n,?_⟩
    walk_at "stp"
    refine a0l kp2 (v:=.int (a:Int)) rfl ?_
    walk_at "stp"
    refine a0l kp2 (v:=.int (b:Int)) rfl ?_
    walk_at "stp"
    refine ⟨pb,pt,bs1,tr1,a,b,wJ2,l1,h4.wf,rfl,rfl,ha.self,hb.self,hab,by omega,fun hst J3 s3=>?_,fun bs2 l hst p3 tr2 J3 f3 w3 hup hpl=>?_⟩
    ·rcases h8.cons ha hb with ⟨_,rfl,rfl⟩ | ⟨_,_,_,z,_⟩
     ·walk_at "stp"
      refine iteT ?_
      walk_at "stp"
      rw [e4]
      exact q tr1 J3 (fJ2.trans (HFr.of s3)) (wJ2.same s3) h9 (by omega)
     ·rw [hst] at z; cases z
    ·rcases h8.cons ha hb with ⟨z,_⟩ | ⟨bs3,l3,k3,z,hk3,run3⟩
     ·rw [hst] at z; cases z
     rw [hst] at z
     cases z
     have lim2:=h4.step ha hb hst
     have met2:=h5.step h4.wf ha hb hst
     obtain ⟨up2,len2⟩:Up bs tr bs2 tr2/\tr2.length + nf bs2<=tr.length + nf bs:=by
      rcases hup with ⟨rfl,rfl⟩ | ⟨c,d,e1,rfl,rfl⟩
      ·exact ⟨h9,h10⟩
      ·have:=b7m (b:=d) e1
       exact ⟨h9.bind e1,by rw [List.length_append,List.length_singleton]; omega⟩
     obtain ⟨zs,hz,dz⟩:=hpl
     have k9:=f3 _ _ p1 p2 k7
     have k10:=f3 _ _ m1 m2 k8
     have d1:=d1.monoT (wJ2.tup f3)
     have ll:=lim2.size
     rw [List.length_append] at ll
     have lz:=dz.length
     rw [List.length_map] at lz
     have lu:=d1.length
     rw [List.length_map,List.length_reverse] at lu
     walk_at "stp"
     refine iteF ?_
     walk_at "stp"
     refine ⟨.inl ⟨rfl,_,SqL.of k9⟩,?_⟩
     walk_at "stp"
     refine ⟨p3,zs,rfl,.inl (SqL.of hz),by omega,fun p4 hp4=>?_⟩
     have s4:=a0f hp4 (.lst zs.reverse)
     have k11:(upd J3 p4 (.lst zs.reverse)) p4 = some (.lst zs.reverse):=a0b
     generalize upd J3 p4 (.lst zs.reverse) = J4 at s4 k11 ⊢
     walk_at "stp"
     refine mExt_l (s4 _ _ k9) k11 (ln (by rw [List.length_reverse]; omega)) ?_
     walk_at "stp"
     have h4p:=s4 _ _ k9
     have tJ5:∀ a xs,SqT K J4 a xs->SqT K (upd J4 p (.lst (us ++ zs.reverse))) a xs:=a6o h4p (fun _ z=>by cases z) (fun _ _ z=>by cases z)
     refine hnx _ _ k3 hk3 ⟨l ++ st,_,kvs2,bs2,tr2,us ++ zs.reverse,_,_,_,rfl,a0b,?_,by rw [a0j npm]; exact s4 _ _ k10,(w3.same s4).upO _ h4p (fun _ z=>by cases z) (fun _ _ z=>by cases z) (fun _ _ _ z=>by cases z) p1 p2,lim2,met2,h6',h7',run3,up2,len2,((fJ2.trans f3).trans (HFr.of s4)).own hp0⟩
     rw [List.reverse_append,List.map_append]
     refine DenL.append ((d1.mono s4).monoT tJ5) ?_
     rw [List.map_reverse]
     exact ((b8e dz).mono s4).monoT tJ5
   ·walk_at "stp"
    refine skip (h5.known h4.wf ha hb (h6 a b ?_))
    simpa using e1
  ·walk_at "stp"
   have hab:(a:Int) = (b:Int):=by simpa using e
   have hab:a = b:=by omega
   subst hab
   exact skip (.one ha hb)
end
section
variable {P:Program} {w:World} {K:W.Frag} {mg:Str->Option Value} {base:Heap} {t:Ad}
theorem ok_num (T:Txt K mg t)  : FnOk P w K mg base CX0 1 t.a_num t.d_num ["n"] (b1h K):=by
 refine T.F_num.ok sc_num (fun vs H Q E h=>?_) (fun cdv A outer s H vs Q E hr h=>?_)
 ·unfold b1h at h
  split at h
  ·rfl
  ·exact h.elim
 unfold b1h at h
 split at h
 rotate_left
 ·exact h.elim
 refine ⟨_,(a0g (a0n (a1c (a0a a0o (a0a (mv 0) a0e))))),?_⟩
 rename_i n
 walk_at "stp"
 refine ⟨ln (by show 2<=100000; decide),fun p1 hp1=>?_⟩
 have sp1:Same H (upd H p1 (.tup [.str (Str.ofString "num"),.int n])):=a0f hp1 _
 have kp1:(upd H p1 (.tup [.str (Str.ofString "num"),.int n])) p1 = some (.tup [.str (Str.ofString "num"),.int n]):=a0b
 generalize upd H p1 (.tup [.str (Str.ofString "num"),.int n]) = H1 at sp1 kp1 ⊢
 walk_at "stp"
 exact h _ _ sp1 (.tup (SqT.of kp1) (.cons (.str _) (.cons (.int _) .nil)))
theorem c1u (T:Txt K mg t)  : FnOk P w K mg base CX0 1 t.a_unknown t.d_unknown ["name"] (a6x K):=by
 refine T.F_unknown.ok c1p (fun vs H Q E h=>?_) (fun cdv A outer s H vs Q E hr h=>?_)
 ·unfold a6x at h
  split at h
  ·rfl
  ·exact h.elim
 unfold a6x at h
 split at h
 rotate_left
 ·exact h.elim
 refine ⟨_,(a0g (a0n (a1c (a0a a0o (a0a (mv 0) a0e))))),?_⟩
 rename_i x
 walk_at "stp"
 refine ⟨ln (by show 2<=100000; decide),fun p1 hp1=>?_⟩
 have sp1:Same H (upd H p1 (.tup [.str (Str.ofString "any"),.str x])):=a0f hp1 _
 have kp1:(upd H p1 (.tup [.str (Str.ofString "any"),.str x])) p1 = some (.tup [.str (Str.ofString "any"),.str x]):=a0b
 generalize upd H p1 (.tup [.str (Str.ofString "any"),.str x]) = H1 at sp1 kp1 ⊢
 walk_at "stp"
 exact h _ _ sp1 (.tup (SqT.of kp1) (.cons (.str _) (.cons (.str _) .nil)))
theorem ok_app (T:Txt K mg t)  : FnOk P w K mg base CX0 1 t.a_app t.d_app ["sign","kids"] (b1i K):=by
 refine T.F_app.ok sc_app (fun vs H Q E h=>?_) (fun cdv A outer s H vs Q E hr h=>?_)
 ·unfold b1i at h
  split at h
  ·rfl
  ·exact h.elim
 unfold b1i at h
 split at h
 rotate_left
 ·exact h.elim
 refine ⟨_,(a0g (a0n (a1c (a0a a0o (a0a (mv 0) (a0a (a2h (a7c K rfl) rfl T.n_tuple boot_tuple (a0a (mv 1) a0e)) a0e)))))),?_⟩
 rename_i s p
 obtain ⟨us,ts,hS,hd,hl,q⟩:=h
 walk_at "stp"
 refine a9p hS (fun p1 hp1=>?_)
 have s1:=a0f hp1 (.tup us)
 have k1:(upd H p1 (.tup us)) p1 = some (.tup us):=a0b
 generalize upd H p1 (.tup us) = H1 at s1 k1 ⊢
 walk_at "stp"
 refine ⟨ln (by show 3<=100000; decide),fun p2 hp2=>?_⟩
 have sp2:Same H1 (upd H1 p2 (.tup [.str (Str.ofString "app"),.str s,.ref p1])):=a0f hp2 _
 have kp2:(upd H1 p2 (.tup [.str (Str.ofString "app"),.str s,.ref p1])) p2 = some (.tup [.str (Str.ofString "app"),.str s,.ref p1]):=a0b
 generalize upd H1 p2 (.tup [.str (Str.ofString "app"),.str s,.ref p1]) = H2 at sp2 kp2 ⊢
 walk_at "stp"
 exact q _ _ (s1.trans sp2) (.tup (SqT.of kp2) (.cons (.str _) (.cons (.str _) (.cons (.tup (SqT.of (sp2 _ _ k1)) (hd.mono (s1.trans sp2))) .nil))))
theorem b5r (T:Txt K mg t) (G_Heap_look:FnOk P w K mg base CX0 2 t.a_Heap_look t.d_Heap_look ["self","at"] (a4e K t.k_Heap)):FnOk P w K mg base CX0 3 t.a_Heap_parts t.d_Heap_parts ["self","at","most"] (a4t K t.k_Heap):=by
 refine T.F_Heap_parts.ok a4r (fun vs H Q E h=>?_) (fun cdv A outer s H vs Q E hr h=>?_)
 ·unfold a4t at h
  split at h
  ·rfl
  ·exact h.elim
 unfold a4t at h
 split at h
 rotate_left
 ·exact h.elim
 refine ⟨_,(a0d (a0r (i:=3) a4r.nd rfl (by walk_at "or1") a0c) (a0d (a0r (i:=4) (hs:=a9u) a4r.nd rfl (by walk_at "or1") (a2b (a0a (mv 1) a0e))) (a0d (a5w PassesOwn.never (a6p K rfl (mv 4)) (a0d (a0y (a0q mo_ge (mv 3) (mv 2) (a0p _)) (a0g (a0n (a0m (a1g K rfl) (mv 2) a0c))) a0s) (a0d (mps_aug (i:=3) a4r.nd rfl (by walk_at "or1") a0c mi_add) (a0d (a0r (i:=5) (hs:=a1h) a4r.nd rfl (by walk_at "or1") (a1j (mv 0) T.cl_Heap T.me_Heap_look G_Heap_look (hr.mono (by first | decide | omega)) T.b_Heap_look .nil a0v (a0a (a8n K rfl F.plainAttrs_list F.slot_list_pop F.type_list_pop a9m (mv 4)) a0e))) (a0g (a0y (a0q a1e (a0k (a0i K rfl) (mv 5) a0c (fun _ _=>rfl)) a0o (a0p _)) (a0g (a4v (a7k K rfl F.plainAttrs_list F.slot_list_extend F.type_list_extend (b1a K rfl) (mv 4) (a0a (a0k (a0i K rfl) (mv 5) a0c (fun _ _=>rfl)) a0e)))) a0s)))))) (a0g (a0n (mv 3)))))),?_⟩
 rename_i x a m
 obtain ⟨pb,pt,bs,tr,n,mm,t0,w,wf,rfl,rfl,hm,hR,q⟩:=h
 walk_at "stp"
 refine ⟨ln (by show 1<=100000; decide),fun p hp=>?_⟩
 have sp:Same H (upd H p (.lst [.int (n:Int)])):=a0f hp _
 have kp:(upd H p (.lst [.int (n:Int)])) p = some (.lst [.int (n:Int)]):=a0b
 generalize upd H p (.lst [.int (n:Int)]) = H1 at sp kp ⊢
 walk_at "stp"
 refine a5d (fun k σ' H'=>∃ (ks:List Nat) (ts:List Trm) (c:Nat) (o:Option V),σ' = [some (.ref x),some (.int (n:Int)),some (.int (mm:Int)),some (.int (c:Int)),some (.ref p),o]/\H' p = some (.lst (nsV ks))/\RepL bs ks ts/\c + Trm.sizeL ts = t0.size/\c<=mm/\ks.length<=1 + 4 * c/\k = Trm.sizeL ts/\Same H H') t0.size ⟨[n],[t0],0,none,rfl,kp,RepL.one hR,by simp [Trm.sizeL],by omega,by simp,by simp [Trm.sizeL],sp⟩ (fun k σ' H' R hP kT kF=>?_)
 obtain ⟨ks,ts,c,o,rfl,h1,h2,h3,h4,h5,h6,h7⟩:=hP
 walk_at "stp"
 refine .inl ⟨nsV ks,SqL.of h1,?_⟩
 rcases nil_or_snoc' ks with rfl | ⟨ks0,k1,rfl⟩
 ·have e:=h2.len
  have e:ts = []:=List.length_eq_zero_iff.mp e.symm
  subst e
  refine kF H' ?_
  walk_at "stp"
  rw [Trm.sizeL] at h3
  rw [show min t0.size (mm + 1) = c by omega] at q
  exact q H' h7
 ·obtain ⟨ts0,t1,rfl,g1,g2⟩:=h2.snoc
  rw [Trm.sizeL_app] at h3 h6
  have s1:Trm.sizeL [t1] = t1.size:=by simp [Trm.sizeL]
  rw [s1] at h3 h6
  have tp:=t1.size_pos
  have e:(!(nsV (ks0 ++ [k1])).isEmpty) = true:=by simp [nsV]
  rw [e]
  refine kT H' (fun D' e1 e2 hnx hct=>?_)
  walk_at "stp"
  refine iteB (fun e=>?_) (fun e=>?_)
  ·have hc:=of_decide_eq_true e
   walk_at "stp"
   rw [show min t0.size (mm + 1) = mm + 1 by omega] at q
   rw [e1]
   exact q H' h7
  have hc:=of_decide_eq_false e
  rw [List.length_append,List.length_singleton] at h5
  have h1':H' p = some (.lst (nsV ks0 ++ [.int (k1:Int)])):=by rw [h1,nsV,List.map_append]; rfl
  obtain ⟨dx,ho⟩:=(w.same h7).ob
  walk_at "stp"
  refine ⟨x,dx,_,rfl,ho,a1n,?_⟩
  walk_at "stp"
  refine ⟨.inl ⟨rfl,_,SqL.of h1'⟩,?_⟩
  refine a9q h1' ?_
  walk_at "stp"
  have f5:Same H (upd H' p (.lst (nsV ks0))):=a2x h7 hp
  have k6:(upd H' p (.lst (nsV ks0))) p = some (.lst (nsV ks0)):=a0b
  generalize upd H' p (.lst (nsV ks0)) = J at f5 k6 ⊢
  have wJ:=w.same f5
  have fin:∀ (b:Bx) (ks':List Nat) (ts':List Trm) (v:V) (J1:Hp),Same H J1->RepL bs ks' ts'->ks'.length<=4->Trm.sizeL ts' + 1 = t1.size->J1 p = some (.lst (nsV (ks0 ++ ks')))->D'.nx [some (.ref x),some (.int (n:Int)),some (.int (mm:Int)),some (.int ((c:Int) + 1)),some (.ref p),some v] J1:=fun b ks' ts' v J1 s1 r1 l1 z1 k1=>
   hnx _ _ (Trm.sizeL (ts0 ++ ts')) (by rw [Trm.sizeL_app]; omega) ⟨ks0 ++ ks',ts0 ++ ts',c + 1,some v,rfl,k1,r1.app g1,by rw [Trm.sizeL_app]; omega,by omega,by rw [List.length_append]; omega,rfl,s1⟩
  cases t1 with
  | num m=>
   rw [Rep] at g2
   obtain ⟨ee,g2,g3⟩:=g2
   refine ⟨pb,pt,bs,tr,k1,ee,.num m,wJ,wf,rfl,g2,g3,fun v J1 s1 d1=>?_⟩
   obtain ⟨a,rfl,hs⟩:=a1u (n:=m) d1
   walk_at "stp"
   refine a0l hs (v:=.str numS) rfl ?_
   walk_at "stp"
   refine iteB (fun e=>absurd e (by decide +kernel)) (fun e=>?_)
   walk_at "stp"
   exact fin (.num m) [] [] _ J1 (f5.trans s1) (by rw [RepL]) (by simp) rfl (by rw [List.append_nil]; exact s1 _ _ k6)
  | any y=>
   rw [Rep] at g2
   obtain ⟨ee,g2,g3,g4⟩:=g2
   refine ⟨pb,pt,bs,tr,k1,ee,.free,wJ,wf,rfl,g2,g3,fun v J1 s1 d1=>?_⟩
   obtain ⟨a,rfl,hs⟩:=b5k d1
   walk_at "stp"
   refine a0l hs (v:=.str a5p) rfl ?_
   walk_at "stp"
   refine iteB (fun e=>absurd e (by decide +kernel)) (fun e=>?_)
   walk_at "stp"
   exact fin .free [] [] _ J1 (f5.trans s1) (by rw [RepL]) (by simp) rfl (by rw [List.append_nil]; exact s1 _ _ k6)
  | app s0 ts1=>
   rw [Rep] at g2
   obtain ⟨ee,ks',e5,e6,l6,r6⟩:=g2
   refine ⟨pb,pt,bs,tr,k1,ee,.app s0 ks',wJ,wf,rfl,e5,e6,fun v J1 s1 d1=>?_⟩
   obtain ⟨a,b',rfl,hs,hs2⟩:=a6h d1
   walk_at "stp"
   refine a0l hs (v:=.str appS) rfl ?_
   walk_at "stp"
   refine iteB (fun e=>?_) (fun e=>absurd e (by decide +kernel))
   walk_at "stp"
   refine ⟨.inl ⟨rfl,_,SqL.of (s1 _ _ k6)⟩,?_⟩
   walk_at "stp"
   refine a0l hs (v:=.ref b') rfl ?_
   walk_at "stp"
   refine c3m (s1 _ _ k6) hs2 (ln (by simp only [nsV,List.length_map]; omega)) ?_
   walk_at "stp"
   refine fin (.app s0 ks') ks' ts1 _ _ (a2x (f5.trans s1) hp) r6 l6 (by rw [Trm.size]; omega) ?_
   rw [a0b,nsV,nsV,nsV,List.map_append]
theorem b2y (T:Txt K mg t) (G_Heap_look:FnOk P w K mg base CX0 2 t.a_Heap_look t.d_Heap_look ["self","at"] (a4e K t.k_Heap)) (G_unknown:FnOk P w K mg base CX0 1 t.a_unknown t.d_unknown ["name"] (a6x K)) (G_num:FnOk P w K mg base CX0 1 t.a_num t.d_num ["n"] (b1h K)) (G_app:FnOk P w K mg base CX0 1 t.a_app t.d_app ["sign","kids"] (b1i K)) (n:Nat) (G_Heap_read_out:FnOk P w K mg base CX0 (n + 2) t.a_Heap_read_out t.d_Heap_read_out ["self","at"] (a1r K t.k_Heap n)):FnOk P w K mg base CX0 (n + 2 + 1) t.a_Heap_read_out t.d_Heap_read_out ["self","at"] (a1r K t.k_Heap (n + 1)):=by
 refine T.F_Heap_read_out.ok (k:=n + 2) a6f (fun vs H Q E h=>?_) (fun cdv A outer s H vs Q E hr h=>?_)
 ·unfold a1r at h
  split at h
  ·rfl
  ·exact h.elim
 unfold a1r at h
 split at h
 rotate_left
 ·exact h.elim
 refine ⟨_,(a0d (a0r (i:=2) (hs:=a1h) a6f.nd rfl (by walk_at "or1") (a1j (mv 0) T.cl_Heap T.me_Heap_look G_Heap_look (hr.mono (by first | decide | omega)) T.b_Heap_look .nil a0v (a0a (mv 1) a0e))) (a0d (a0y (a0q a1e (a0k (a0i K rfl) (mv 2) a0c (fun _ _=>rfl)) a0o (a0p _)) (a0g (a0n (a0z G_num (hr.mono (by first | decide | omega)) rfl T.m_num T.F_num.kp T.b_num .nil a0v (a0a (a0k (a0i K rfl) (mv 2) a0c (fun _ _=>rfl)) a0e)))) a0s) (a0d (a0y (a0q a1e (a0k (a0i K rfl) (mv 2) a0c (fun _ _=>rfl)) a0o (a0p _)) (a0g (a0n (a0z G_app (hr.mono (by first | decide | omega)) rfl T.m_app_terms T.F_app.kp T.b_app .nil a0v (a0a (a0k (a0i K rfl) (mv 2) a0c (fun _ _=>rfl)) (a0a (a8d rfl (a8g K rfl (a0k (a0i K rfl) (mv 2) a0c (fun _ _=>rfl))) (a6j (a0h a1t) ["self","at","box","address"] ["self","at","box","address"] rfl rfl (by decide +kernel)) (fun _ _ _ _ _=>a6i) (fun _ _ _ _ _=>(a1j (mv 1) T.cl_Heap T.me_Heap_read_out G_Heap_read_out (hr.mono (by first | decide | omega)) T.b_Heap_read_out .nil a0v (a0a (mv 0) a0e)))) a0e))))) a0s) (a0d (a0r (i:=3) (hs:=a8r) a6f.nd rfl (by walk_at "or1") (a0k (a0i K rfl) (mv 2) a0c (fun _ _=>rfl))) (a0g (a0n (a0z G_unknown (hr.mono (by first | decide | omega)) rfl T.m_unknown T.F_unknown.kp T.b_unknown .nil a0v (a0a (pe_f2n (mv 3)) a0e)))))))),?_⟩
 rename_i x a
 obtain ⟨pb,pt,bs,tr,i0,t0,w,wf,rfl,hR,hz,hn,hbl,q⟩:=h
 have tp:=t0.size_pos
 obtain ⟨dx,ho⟩:=w.ob
 walk_at "stp"
 refine ⟨x,dx,_,rfl,ho,a1n,?_⟩
 walk_at "stp"
 cases t0 with
 | num m=>
  rw [Rep] at hR
  obtain ⟨ee,hE,hR⟩:=hR
  refine ⟨pb,pt,bs,tr,i0,ee,.num m,w,wf,rfl,hE,hR,fun v J1 s1 d1=>?_⟩
  obtain ⟨a,rfl,hs⟩:=a1u (n:=m) d1
  walk_at "stp"
  refine a0l hs (v:=.str numS) rfl ?_
  walk_at "stp"
  refine iteB (fun e=>?_) (fun e=>absurd e (by decide +kernel))
  walk_at "stp"
  refine a0l hs (v:=.int m) rfl ?_
  walk_at "stp"
  exact fun v J2 s2 d2=>q v J2 (s1.trans s2) d2
 | any y=>
  rw [Rep] at hR
  obtain ⟨ee,hE,hR,rfl⟩:=hR
  refine ⟨pb,pt,bs,tr,i0,ee,.free,w,wf,rfl,hE,hR,fun v J1 s1 d1=>?_⟩
  obtain ⟨a,rfl,hs⟩:=b5k d1
  walk_at "stp"
  refine a0l hs (v:=.str a5p) rfl ?_
  walk_at "stp"
  refine iteB (fun e=>absurd e (by decide +kernel)) (fun e=>?_)
  walk_at "stp"
  refine a0l hs (v:=.str a5p) rfl ?_
  walk_at "stp"
  refine iteB (fun e=>absurd e (by decide +kernel)) (fun e=>?_)
  walk_at "stp"
  refine a0l hs (v:=.int (ee:Int)) rfl ?_
  walk_at "stp"
  obtain ⟨z1,z2⟩:=b1g (i:=(ee:Int)) (by omega) (by have:=(List.getElem?_eq_some_iff.mp hR).1; omega)
  refine ⟨_,rfl,z1,z2,?_⟩
  walk_at "stp"
  exact fun v J2 s2 d2=>q v J2 (s1.trans s2) d2
 | app s0 ts1=>
  rw [Rep] at hR
  obtain ⟨ee,ks,e5,e6,l6,r6⟩:=hR
  refine ⟨pb,pt,bs,tr,i0,ee,.app s0 ks,w,wf,rfl,e5,e6,fun v J1 s1 d1=>?_⟩
  obtain ⟨a,b,rfl,hs,hs2⟩:=a6h d1
  have hkl:=r6.len
  rw [Trm.size] at hz
  walk_at "stp"
  refine a0l hs (v:=.str appS) rfl ?_
  walk_at "stp"
  refine iteB (fun e=>absurd e (by decide +kernel)) (fun e=>?_)
  walk_at "stp"
  refine a0l hs (v:=.str appS) rfl ?_
  walk_at "stp"
  refine iteB (fun e=>?_) (fun e=>absurd e (by decide +kernel))
  walk_at "stp"
  refine a0l hs (v:=.str s0) rfl ?_
  walk_at "stp"
  refine a0l hs (v:=.ref b) rfl ?_
  refine ⟨b,rfl,⟨_,hs2⟩,fun D hD=>?_⟩
  refine a5c (a8e (xs:=nsV ks)) (fun i ys J=>Same J1 J/\DenL K J ys (Trm.dataL (ts1.take i))/\J D = some (.lst ys)) (ln (by simp only [nsV,List.length_map]; omega)) ⟨a0f hD _,.nil,a0b⟩ (fun i ys J hP=>hP.1.tup hs2) (fun i ys J Q' hi' hl' hP k=>?_) (fun ys J hl' hP=>?_)
  ·obtain ⟨g1,g2,g3⟩:=hP
   rw [nsV,List.length_map] at hi'
   have hti:i < ts1.length:=by omega
   obtain ⟨k0,e7,r7⟩:=r6.get (List.getElem?_eq_getElem hti)
   have hg:(nsV ks).getD i .non = .int (k0:Int):=by rw [List.getD_eq_getElem?_getD,nsV,List.getElem?_map,e7]; rfl
   have lz:=a4p (List.getElem?_eq_getElem hti)
   have wJ:=w.same (s1.trans g1)
   obtain ⟨dx2,ho2⟩:=wJ.ob
   walk_at "stp"
   rw [hg]
   refine ⟨x,dx2,_,rfl,ho2,a1n,?_⟩
   walk_at "stp"
   refine ⟨pb,pt,bs,tr,k0,ts1[i],wJ,wf,rfl,r7,by omega,by omega,hbl,fun v J2 s2 d2=>?_⟩
   refine k _ _ (s2 _ _ g3) ⟨a2x (g1.trans s2) hD,?_,a0b⟩
   rw [List.take_add_one,List.getElem?_eq_getElem hti,Trm.dataL_map,List.map_append,<- Trm.dataL_map]
   exact ((g2.mono s2).append (.cons d2 .nil)).lst (s2 _ _ g3)
  obtain ⟨g1,g2,g3⟩:=hP
  rw [nsV,List.length_map,List.take_of_length_le (by omega)] at g2
  walk_at "stp"
  exact ⟨ys,ts1,SqL.of g3,g2,by omega,fun v J2 s2 d2=>q v J2 (s1.trans (g1.trans s2)) d2⟩
theorem b2z (T:Txt K mg t) (G_Heap_look:FnOk P w K mg base CX0 2 t.a_Heap_look t.d_Heap_look ["self","at"] (a4e K t.k_Heap)) (G_unknown:FnOk P w K mg base CX0 1 t.a_unknown t.d_unknown ["name"] (a6x K)) (G_num:FnOk P w K mg base CX0 1 t.a_num t.d_num ["n"] (b1h K)) (G_app:FnOk P w K mg base CX0 1 t.a_app t.d_app ["sign","kids"] (b1i K)) (n:Nat):FnOk P w K mg base CX0 (n + 2) t.a_Heap_read_out t.d_Heap_read_out ["self","at"] (a1r K t.k_Heap n):=by
 induction n with
 | zero=>
  have no:∀ vs H Q E,(a1r K t.k_Heap 0) vs H Q E->False:=fun vs H Q E h=>by
   unfold a1r at h
   split at h
   ·exact b2x h
   ·exact h
  exact ⟨fun vs H Q E h=>(no vs H Q E h).elim,fun A outer s H args us vs Q E _ _ _ _ h=>(no vs H Q E h).elim⟩
 | succ n ih=>
  have e:n + 1 + 2 = n + 2 + 1:=by omega
  rw [e]
  exact b2y T G_Heap_look G_unknown G_num G_app n ih
theorem b8f (T:Txt K mg t) (G_Heap_read_out:FnOk P w K mg base CX0 43 t.a_Heap_read_out t.d_Heap_read_out ["self","at"] (a1r K t.k_Heap 41)) (G_Heap_parts:FnOk P w K mg base CX0 3 t.a_Heap_parts t.d_Heap_parts ["self","at","most"] (a4t K t.k_Heap)):FnOk P w K mg base CX0 46 t.a_Heap_term t.d_Heap_term ["self","at"] (a5k K t.k_Heap):=by
 refine T.F_Heap_term.ok b7v (fun vs H Q E h=>?_) (fun cdv A outer s H vs Q E hr h=>?_)
 ·unfold a5k at h
  split at h
  ·rfl
  ·exact h.elim
 unfold a5k at h
 split at h
 rotate_left
 ·exact h.elim
 refine ⟨_,(a0d (a0y (a0q a8y (a1j (mv 0) T.cl_Heap T.me_Heap_parts G_Heap_parts (hr.mono (by first | decide | omega)) T.b_Heap_parts .nil a0v (a0a (mv 1) (a0a (b9y rfl T.m_MOST_PARTS) a0e))) (b9y rfl T.m_MOST_PARTS) (a0p _)) (a0g c5l) a0s) (a0g (a0n (a1j (mv 0) T.cl_Heap T.me_Heap_read_out G_Heap_read_out (hr.mono (by first | decide | omega)) T.b_Heap_read_out .nil a0v (a0a (mv 1) a0e))))),?_⟩
 rename_i x a
 obtain ⟨pb,pt,bs,tr,n,t0,w,wf,rfl,hR,hbl,h40,q⟩:=h
 obtain ⟨dx,ho⟩:=w.ob
 walk_at "stp"
 refine ⟨x,dx,_,rfl,ho,a1n,?_⟩
 walk_at "stp"
 refine ⟨pb,pt,bs,tr,n,40,t0,w,wf,rfl,rfl,by omega,hR,fun H1 s1=>?_⟩
 walk_at "stp"
 refine iteB (fun e=>by have:=of_decide_eq_true e; omega) (fun e=>?_)
 walk_at "stp"
 obtain ⟨dx,ho⟩:=(w.same s1).ob
 refine ⟨x,dx,_,rfl,ho,a1n,?_⟩
 walk_at "stp"
 exact ⟨pb,pt,bs,tr,n,t0,w.same s1,wf,rfl,hR,by omega,by omega,hbl,fun v J s2 d=>q v J (s1.trans s2) d⟩
end
theorem a8u {t:Trm}:∀ {ts:List Trm},t ∈ ts->t.size<=Trm.sizeL ts
 | [],h=>by cases h
 | k :: ks,h=>by
  rw [Trm.sizeL]
  rcases List.mem_cons.mp h with z | z
  ·rw [z]; omega
  ·have:=a8u z; omega
mutual
noncomputable def sb (f:Str->Trm):Trm->Trm
 | .num n=>.num n
 | .any x=>f x
 | .app s ks=>.app s (sbL f ks)
noncomputable def sbL (f:Str->Trm):List Trm->List Trm
 | []=>[]
 | k :: ks=>sb f k :: sbL f ks
end
theorem a3l (f:Str->Trm):∀ ts:List Trm,sbL f ts = ts.map (sb f)
 | []=>by rw [sbL]; rfl
 | k :: ks=>by rw [sbL,a3l f ks]; rfl
mutual
theorem b2a (f g:Str->Trm):∀ t:Trm,sb g (sb f t) = sb (fun x=>sb g (f x)) t
 | .num n=>by rw [sb,sb,sb]
 | .any x=>by rw [sb,sb]
 | .app s ks=>by rw [sb,sb,sb,c4o f g ks]
theorem c4o (f g:Str->Trm):∀ ts:List Trm,sbL g (sbL f ts) = sbL (fun x=>sb g (f x)) ts
 | []=>by rw [sbL,sbL,sbL]
 | k :: ks=>by rw [sbL,sbL,sbL,b2a f g k,c4o f g ks]
end
mutual
noncomputable def Occ (x:Str):Trm->Prop
 | .num _=>False
 | .any y=>y = x
 | .app _ ks=>OccL x ks
noncomputable def OccL (x:Str):List Trm->Prop
 | []=>False
 | k :: ks=>Occ x k\/OccL x ks
end
theorem a1s {x:Str}:∀ {ts:List Trm},OccL x ts ↔ ∃ t ∈ ts,Occ x t
 | []=>by rw [OccL]; simp
 | k :: ks=>by rw [OccL,a1s]; simp
mutual
theorem b3v {f g:Str->Trm}:∀ {t:Trm},(∀ x,Occ x t->f x = g x)->sb f t = sb g t
 | .num n,_=>by rw [sb,sb]
 | .any x,h=>by rw [sb,sb]; exact h x (by rw [Occ])
 | .app s ks,h=>by rw [sb,sb,c4p (fun x hx=>h x (by rw [Occ]; exact hx))]
theorem c4p {f g:Str->Trm}:∀ {ts:List Trm},(∀ x,OccL x ts->f x = g x)->sbL f ts = sbL g ts
 | [],_=>by rw [sbL,sbL]
 | k :: ks,h=>by rw [sbL,sbL,b3v (fun x hx=>h x (by rw [OccL]; exact .inl hx)),c4p (fun x hx=>h x (by rw [OccL]; exact .inr hx))]
end
mutual
theorem b8g:∀ t:Trm,sb .any t = t
 | .num n=>by rw [sb]
 | .any x=>by rw [sb]
 | .app s ks=>by rw [sb,c0l ks]
theorem c0l:∀ ts:List Trm,sbL .any ts = ts
 | []=>by rw [sbL]
 | k :: ks=>by rw [sbL,b8g k,c0l ks]
end
mutual
theorem b2b {f:Str->Trm}:∀ t:Trm,t.size<=(sb f t).size
 | .num n=>by rw [sb]; exact Nat.le_refl _
 | .any x=>by rw [sb,Trm.size]; exact (f x).size_pos
 | .app s ks=>by rw [sb,Trm.size,Trm.size]; have:=b8h (f:=f) ks; omega
theorem b8h {f:Str->Trm}:∀ ts:List Trm,Trm.sizeL ts<=Trm.sizeL (sbL f ts)
 | []=>by rw [sbL]; exact Nat.le_refl _
 | k :: ks=>by rw [sbL,Trm.sizeL,Trm.sizeL]; have:=b2b (f:=f) k; have:=b8h (f:=f) ks; omega
end
mutual
theorem c6v {f:Str->Trm} {x:Str}:∀ {t:Trm},Occ x t->(f x).size<=(sb f t).size
 | .num n,h=>by rw [Occ] at h; exact h.elim
 | .any y,h=>by rw [Occ] at h; subst h; rw [sb]; exact Nat.le_refl _
 | .app s ks,h=>by rw [Occ] at h; rw [sb,Trm.size]; have:=b1j (f:=f) h; omega
theorem b1j {f:Str->Trm} {x:Str}:∀ {ts:List Trm},OccL x ts->(f x).size<=Trm.sizeL (sbL f ts)
 | [],h=>by rw [OccL] at h; exact h.elim
 | k :: ks,h=>by
  rw [OccL] at h; rw [sbL,Trm.sizeL]
  rcases h with h | h
  ·have:=c6v (f:=f) h; omega
  ·have:=b1j (f:=f) h; omega
end
noncomputable def SolB (M:Nat->Trm) (a:Nat):Bx->Prop
 | .free=>True
 | .num n=>M a = .num n
 | .app s ks=>M a = .app s (ks.map M)
 | .to c=>M a = M c
noncomputable def Sol (M:Nat->Trm) (bs:Bs):Prop:=∀ a b,bs[a]? = some b->SolB M a b
theorem Sol.end_ {M:Nat->Trm} {bs:Bs} (s:Sol M bs) {a c:Nat} (h:End bs a c):M a = M c:=by
 induction h with
 | here _ _=>rfl
 | step e _ ih=>exact (s _ _ e).trans ih
theorem Sol.put {M:Nat->Trm} {bs:Bs} (s:Sol M bs) {a b:Nat} (h:a < bs.length) (e:M a = M b):Sol M (bs.set a (.to b)):=fun i x hx=>by
 rw [a2l _ h] at hx
 by_cases z:i = a
 ·rw [if_pos z] at hx; cases hx; subst z; exact e
 ·rw [if_neg z] at hx; exact s i x hx
theorem Sol.unput {M:Nat->Trm} {bs:Bs} {a b:Nat} (ha:bs[a]? = some .free) (s:Sol M (bs.set a (.to b))):Sol M bs/\M a = M b:=by
 have h:=(List.getElem?_eq_some_iff.mp ha).1
 refine ⟨fun i x hx=>?_,?_⟩
 ·by_cases z:i = a
  ·rw [z,ha] at hx; cases hx; trivial
  ·exact s i x (by rw [a2l _ h,if_neg z]; exact hx)
 ·exact s a (.to b) (by rw [a2l _ h,if_pos rfl])
theorem Sol.rch {M:Nat->Trm} {bs:Bs} (s:Sol M bs) {x y:Nat} (h:Rch bs x y):(M y).size<=(M x).size:=by
 induction h with
 | refl a=>exact Nat.le_refl _
 | @head a b c e r ih=>
  obtain ⟨u,e1,m⟩:=e
  have z:=s _ _ e1
  cases u with
  | free=>cases m
  | num n=>cases m
  | to d=>rw [List.mem_singleton.mp m] at ih; rw [show M a = M d from z]; exact ih
  | app g ks=>
   rw [show M a = .app g (ks.map M) from z,Trm.size]
   have:=a8u (List.mem_map.mpr ⟨b,m,rfl⟩:M b ∈ ks.map M)
   omega
theorem Sol.rch_lt {M:Nat->Trm} {bs:Bs} (s:Sol M bs) {x y:Nat} (h:Rch bs x y) (hx:End bs x x) (n:x ≠ y):(M y).size < (M x).size:=by
 obtain ⟨k,e,r⟩:=h.kid n
 obtain ⟨g,ks,e1,m⟩:=b4q hx e
 have z:M x = .app g (ks.map M):=s _ _ e1
 have:=s.rch r
 have:=a8u (List.mem_map.mpr ⟨k,m,rfl⟩:M k ∈ ks.map M)
 rw [z,Trm.size]
 omega
theorem b4s {M:Nat->Trm}:∀ {ks ls:List Nat},ks.length = ls.length->((∀ p ∈ ks.zip ls,M p.1 = M p.2) ↔ ks.map M = ls.map M)
 | [],[],_=>by simp
 | [],_ :: _,h=>by cases h
 | _ :: _,[],h=>by cases h
 | k :: ks,l :: ls,h=>by
  have ih:=b4s (M:=M) (ks:=ks) (ls:=ls) (by simpa using h)
  simp only [List.zip_cons_cons,List.mem_cons,forall_eq_or_imp,List.map_cons,List.cons.injEq,ih]
theorem c6w {M:Nat->Trm} {bs bs1:Bs} {a b:Nat} {l:List (Nat × Nat)} (h:stp bs a b = some (bs1,l)) (s:Sol M bs1) (hl:∀ p ∈ l,M p.1 = M p.2):Sol M bs/\M a = M b:=by
 unfold stp at h
 split at h
 ·rename_i ha
  split at h
  ·rename_i e; cases h; subst e; exact ⟨s,rfl⟩
  ·split at h
   ·cases h
   ·cases h; exact s.unput ha
 ·rename_i u _ ha hb
  split at h
  ·cases h
  ·cases h
   obtain ⟨s1,e⟩:=s.unput hb
   exact ⟨s1,e.symm⟩
 ·rename_i n m ha hb
  split at h
  ·rename_i e; cases h; subst e
   exact ⟨s,(show M a = _ from s _ _ ha).trans (show M b = _ from s _ _ hb).symm⟩
  ·cases h
 ·rename_i g ks t ls ha hb
  split at h
  ·rename_i e; cases h
   obtain ⟨rfl,e2⟩:=e
   refine ⟨s,?_⟩
   rw [show M a = _ from s _ _ ha,show M b = _ from s _ _ hb,(b4s e2).mp hl]
  ·cases h
 ·cases h
theorem c4q {M:Nat->Trm} {bs:Bs} {a b:Nat} (s:Sol M bs) (e:M a = M b) (ha:End bs a a) (hb:End bs b b):∃ bs1 l,stp bs a b = some (bs1,l)/\Sol M bs1/\∀ p ∈ l,M p.1 = M p.2:=by
 obtain ⟨u,eu,nu⟩:=ha.is
 obtain ⟨v,ev,nv⟩:=hb.is
 by_cases hu:u = .free
 ·subst hu
  by_cases hab:a = b
  ·refine ⟨bs,[],?_,s,fun p hp=>by cases hp⟩
   unfold stp
   rw [eu]
   simp [hab]
  ·have nr:¬ Rch bs b a:=fun r=>by have:=s.rch_lt r hb (fun z=>hab z.symm); rw [e] at this; omega
   exact ⟨_,_,(stp_l eu hab).2 nr,s.put (List.getElem?_eq_some_iff.mp eu).1 e,fun p hp=>by cases hp⟩
 ·have fu:u.isFree = false:=by cases u <;> first | rfl | exact absurd rfl hu
  have tu:u.isTo = false:=by cases u <;> first | rfl | exact absurd rfl (nu _)
  by_cases hv:v = .free
  ·subst hv
   have hab:a ≠ b:=fun z=>by subst z; rw [eu] at ev; cases ev; exact hu rfl
   have nr:¬ Rch bs a b:=fun r=>by have:=s.rch_lt r ha hab; rw [e] at this; omega
   exact ⟨_,_,(stp_r eu fu ev).2 nr,s.put (List.getElem?_eq_some_iff.mp ev).1 e.symm,fun p hp=>by cases hp⟩
  ·have fv:v.isFree = false:=by cases v <;> first | rfl | exact absurd rfl hv
   have tv:v.isTo = false:=by cases v <;> first | rfl | exact absurd rfl (nv _)
   have zu:=s _ _ eu
   have zv:=s _ _ ev
   have hk:u.key = v.key/\∀ p ∈ u.kz v,M p.1 = M p.2:=by
    cases u with
    | free=>exact absurd rfl hu
    | to _=>exact absurd rfl (nu _)
    | num n=>
     cases v with
     | free=>exact absurd rfl hv
     | to _=>exact absurd rfl (nv _)
     | num m=>
      have:Trm.num n = .num m:=by rw [<- show M a = _ from zu,<- show M b = _ from zv,e]
      injection this with this
      subst this
      exact ⟨rfl,fun p hp=>by cases hp⟩
     | app t ls=>exact absurd (show Trm.num n = .app t (ls.map M) by rw [<- show M a = _ from zu,<- show M b = _ from zv,e]) (fun z=>by cases z)
    | app g ks=>
     cases v with
     | free=>exact absurd rfl hv
     | to _=>exact absurd rfl (nv _)
     | num m=>exact absurd (show Trm.app g (ks.map M) = .num m by rw [<- show M a = _ from zu,<- show M b = _ from zv,e]) (fun z=>by cases z)
     | app t ls=>
      have:Trm.app g (ks.map M) = .app t (ls.map M):=by rw [<- show M a = _ from zu,<- show M b = _ from zv,e]
      injection this with h1 h2
      have h3:ks.length = ls.length:=by have:=congrArg List.length h2; simpa using this
      subst h1
      refine ⟨by simp only [Bx.key]; rw [h3],fun p hp=>(b4s h3).mpr h2 p hp⟩
   exact ⟨_,_,(stp_k eu ev fu fv tu tv).2 hk.1,s,hk.2⟩
theorem b0q {M:Nat->Trm} {n:Nat} {bs bs':Bs} {st:List (Nat × Nat)} {r:Bool} (h:Run n bs st bs' r) (hr:r = true) (s:Sol M bs'):Sol M bs/\∀ p ∈ st,M p.1 = M p.2:=by
 induction h with
 | nil=>exact ⟨s,fun p hp=>by cases hp⟩
 | stop _ _ _=>cases hr
 | go ha hb hs _ ih=>
  obtain ⟨s1,e1⟩:=ih hr s
  obtain ⟨s2,e2⟩:=c6w hs s1 (fun p hp=>e1 p (List.mem_append_left _ hp))
  refine ⟨s2,fun p hp=>?_⟩
  rcases List.mem_cons.mp hp with z | z
  ·rw [z]; exact ((s2.end_ ha).trans e2).trans (s2.end_ hb).symm
  ·exact e1 p (List.mem_append_right _ z)
theorem c4r {M:Nat->Trm} {n:Nat} {bs bs':Bs} {st:List (Nat × Nat)} {r:Bool} (h:Run n bs st bs' r) (s:Sol M bs) (e:∀ p ∈ st,M p.1 = M p.2):r = true/\Sol M bs':=by
 induction h with
 | nil=>exact ⟨rfl,s⟩
 | stop ha hb hs=>
  obtain ⟨bs1,l,h1,_⟩:=c4q s ((s.end_ ha).symm.trans ((e _ (List.mem_cons_self ..)).trans (s.end_ hb))) ha.self hb.self
  rw [h1] at hs; cases hs
 | go ha hb hs _ ih=>
  obtain ⟨bs1,l,h1,h2,h3⟩:=c4q s ((s.end_ ha).symm.trans ((e _ (List.mem_cons_self ..)).trans (s.end_ hb))) ha.self hb.self
  rw [h1] at hs
  cases hs
  refine ih h2 (fun p hp=>?_)
  rcases List.mem_append.mp hp with z | z
  ·exact h3 p z
  ·exact e p (List.mem_cons_of_mem _ z)
theorem b3w {n:Nat} {bs bs':Bs} {st:List (Nat × Nat)} {r:Bool} (h:Run n bs st bs' r) (w:Wf bs) (v:∀ p ∈ st,p.1 < bs.length/\p.2 < bs.length):Wf bs'/\bs'.length = bs.length:=by
 induction h with
 | nil=>exact ⟨w,rfl⟩
 | stop _ _ _=>exact ⟨w,rfl⟩
 | @go n bs bs1 bs' x y a b l st r ha hb hs _ ih=>
  obtain ⟨w1,l1,v1⟩:=b3r w ha.lt hb.lt hs
  obtain ⟨w2,l2⟩:=ih w1 (fun p hp=>by
   rw [l1]
   rcases List.mem_append.mp hp with z | z
   ·exact v1 p z
   ·exact v p (List.mem_cons_of_mem _ z))
  exact ⟨w2,by rw [l2,l1]⟩
noncomputable def tn (n:Nat):Str:=⟨(a2s n).toArray⟩
theorem c6x:∀ (m n:Nat),a2s m = a2s n->m = n:=by
 intro m
 induction m using Nat.strongRecOn with
 | ind m ih=>
  intro n h
  by_cases hm:m < 10
  ·by_cases hn:n < 10
   ·rw [a9s hm,a9s hn] at h
    have:48 + m = 48 + n:=by simpa using h
    omega
   ·rw [a9s hm,a9t (by omega)] at h
    have e:=congrArg List.length h
    obtain ⟨_,x,r,e2,_⟩:=c0c (n / 10)
    rw [e2] at e
    simp at e
  ·by_cases hn:n < 10
   ·rw [a9s hn,a9t (by omega)] at h
    have e:=congrArg List.length h
    obtain ⟨_,x,r,e2,_⟩:=c0c (m / 10)
    rw [e2] at e
    simp at e
   ·rw [a9t (by omega:10<=m),a9t (by omega:10<=n)] at h
    obtain ⟨e1,e2⟩:=List.append_inj' h rfl
    have e3:=ih (m / 10) (by omega) _ e1
    have e4:48 + m % 10 = 48 + n % 10:=by simpa using e2
    omega
theorem tn_inj {m n:Nat} (h:tn m = tn n):m = n:=by
 have:(a2s m).toArray = (a2s n).toArray:=congrArg Str.cps h
 exact c6x m n (by simpa using congrArg Array.toList this)
theorem c6y {a x y:Str} (h:a ++ x = a ++ y):x = y:=by
 have:a.cps ++ x.cps = a.cps ++ y.cps:=congrArg Str.cps h
 have:=congrArg Array.toList this
 rw [Array.toList_append,Array.toList_append] at this
 exact Str.ext' (Array.ext' (List.append_cancel_left this))
theorem b4t {a b:Nat} (h:bnm a = bnm b):a = b:=by
 have h:=c6y (show Str.ofString "B" ++ Str.ofString (toString (a:Int)) = Str.ofString "B" ++ Str.ofString (toString (b:Int)) from h)
 have h2:tn a = tn b:=by
  have e1:=a7e a
  have e2:=a7e b
  exact e1.symm.trans (h.trans e2)
 exact tn_inj h2
mutual
theorem Rep.uniq {bs:Bs}:∀ {a:Nat} {t u:Trm},Rep bs a t->Rep bs a u->t = u
 | a,.num n,u,h,k=>by
  rw [Rep] at h
  obtain ⟨e,h1,h2⟩:=h
  cases u with
  | num m=>rw [Rep] at k; obtain ⟨f,k1,k2⟩:=k; rw [<- h1.uniq k1,h2] at k2; cases k2; rfl
  | any y=>rw [Rep] at k; obtain ⟨f,k1,k2,_⟩:=k; rw [<- h1.uniq k1,h2] at k2; cases k2
  | app t ls=>rw [Rep] at k; obtain ⟨f,_,k1,k2,_⟩:=k; rw [<- h1.uniq k1,h2] at k2; cases k2
 | a,.any x,u,h,k=>by
  rw [Rep] at h
  obtain ⟨e,h1,h2,rfl⟩:=h
  cases u with
  | num m=>rw [Rep] at k; obtain ⟨f,k1,k2⟩:=k; rw [<- h1.uniq k1,h2] at k2; cases k2
  | any y=>rw [Rep] at k; obtain ⟨f,k1,k2,rfl⟩:=k; rw [h1.uniq k1]
  | app t ls=>rw [Rep] at k; obtain ⟨f,_,k1,k2,_⟩:=k; rw [<- h1.uniq k1,h2] at k2; cases k2
 | a,.app s ts,u,h,k=>by
  rw [Rep] at h
  obtain ⟨e,ks,h1,h2,_,h3⟩:=h
  cases u with
  | num m=>rw [Rep] at k; obtain ⟨f,k1,k2⟩:=k; rw [<- h1.uniq k1,h2] at k2; cases k2
  | any y=>rw [Rep] at k; obtain ⟨f,k1,k2,_⟩:=k; rw [<- h1.uniq k1,h2] at k2; cases k2
  | app t ls=>rw [Rep] at k; obtain ⟨f,ks2,k1,k2,_,k3⟩:=k; rw [<- h1.uniq k1,h2] at k2; cases k2; rw [RepL.uniq h3 k3]
theorem RepL.uniq {bs:Bs}:∀ {ks:List Nat} {ts us:List Trm},RepL bs ks ts->RepL bs ks us->ts = us
 | ks,[],us,h,k=>by
  rw [RepL] at h
  cases us with
  | nil=>rfl
  | cons u us=>rw [RepL] at k; obtain ⟨_,_,e,_⟩:=k; rw [h] at e; cases e
 | ks,t :: ts,us,h,k=>by
  rw [RepL] at h
  obtain ⟨a,r,rfl,h1,h2⟩:=h
  cases us with
  | nil=>rw [RepL] at k; cases k
  | cons u us=>
   rw [RepL] at k
   obtain ⟨_,_,e,k1,k2⟩:=k
   cases e
   rw [Rep.uniq h1 k1,RepL.uniq h2 k2]
end
theorem c0m {bs:Bs} {M:Nat->Trm}:∀ {ks:List Nat},(∀ k ∈ ks,Rep bs k (M k))->RepL bs ks (ks.map M)
 | [],_=>by rw [List.map_nil,RepL]
 | k :: ks,h=>by rw [List.map_cons,RepL]; exact ⟨k,ks,rfl,h k (List.mem_cons_self ..),c0m fun x hx=>h x (List.mem_cons_of_mem _ hx)⟩
theorem c0n {bs:Bs}:∀ {ks:List Nat},(∀ k ∈ ks,∃ t,Rep bs k t)->∃ ts,RepL bs ks ts
 | [],_=>⟨[],by rw [RepL]⟩
 | k :: ks,h=>by
  obtain ⟨t,ht⟩:=h k (List.mem_cons_self ..)
  obtain ⟨ts,hts⟩:=c0n fun x hx=>h x (List.mem_cons_of_mem _ hx)
  exact ⟨t :: ts,by rw [RepL]; exact ⟨k,ks,rfl,ht,hts⟩⟩
theorem Wf.rep {bs:Bs} (w:Wf bs):∀ a,a < bs.length->∃ t,Rep bs a t:=by
 obtain ⟨rk,hr⟩:=w.acy
 suffices h:∀ n a,rk a < n->a < bs.length->∃ t,Rep bs a t from fun a ha=>h _ a (Nat.lt_succ_self _) ha
 intro n
 induction n with
 | zero=>intro a h; omega
 | succ n ih=>
  intro a h ha
  obtain ⟨e,he⟩:=w.end_ ha
  obtain ⟨x,ex,nx⟩:=he.is
  cases x with
  | free=>exact ⟨.any (bnm e),by rw [Rep]; exact ⟨e,he,ex,rfl⟩⟩
  | num m=>exact ⟨.num m,by rw [Rep]; exact ⟨e,he,ex⟩⟩
  | to c=>exact absurd rfl (nx c)
  | app s ks=>
   have r:=he.rch.rk hr
   obtain ⟨ts,hts⟩:=c0n (bs:=bs) (ks:=ks) fun k hk=>ih k (by have:=hr _ _ (Ed.kid ex hk); omega) (w.inn _ _ (Ed.kid ex hk))
   exact ⟨.app s ts,by rw [Rep]; exact ⟨e,ks,he,ex,w.ar _ _ _ ex,hts⟩⟩
open Classical in
theorem Wf.sol {bs:Bs} (w:Wf bs):∃ M,Sol M bs/\∀ a,a < bs.length->Rep bs a (M a):=by
 have M:∃ M:Nat->Trm,∀ a,a < bs.length->Rep bs a (M a):=⟨fun a=>if h:∃ t,Rep bs a t then h.choose else .num 0,fun a ha=>by
  have h:=w.rep a ha
  dsimp only
  rw [dif_pos h]
  exact h.choose_spec⟩
 obtain ⟨M,hM⟩:=M
 refine ⟨M,fun a b e=>?_,hM⟩
 have ha:=(List.getElem?_eq_some_iff.mp e).1
 have h:=hM a ha
 cases b with
 | free=>trivial
 | num n=>exact h.uniq (show Rep bs a (.num n) by rw [Rep]; exact ⟨a,.here e (fun _ z=>by cases z),e⟩)
 | to c=>
  have hc:=w.inn _ _ (Ed.to e)
  refine h.uniq ?_
  have k:=hM c hc
  generalize M c = t at k
  cases t with
  | num n=>rw [Rep] at k ⊢; obtain ⟨x,k1,k2⟩:=k; exact ⟨x,.step e k1,k2⟩
  | any y=>rw [Rep] at k ⊢; obtain ⟨x,k1,k2⟩:=k; exact ⟨x,.step e k1,k2⟩
  | app s ts=>rw [Rep] at k ⊢; obtain ⟨x,ks,k1,k2⟩:=k; exact ⟨x,ks,.step e k1,k2⟩
 | app s ks=>
  refine h.uniq (show Rep bs a (.app s (ks.map M)) from ?_)
  rw [Rep]
  exact ⟨a,ks,.here e (fun _ z=>by cases z),e,w.ar _ _ _ e,c0m fun k hk=>hM k (w.inn _ _ (Ed.kid e hk))⟩
mutual
theorem Rep.sb {bs:Bs} {M:Nat->Trm} {f:Str->Trm} (s:Sol M bs) (hf:∀ e,bs[e]? = some .free->f (bnm e) = M e):∀ {a:Nat} {t:Trm},Rep bs a t->sb f t = M a
 | a,.num n,h=>by rw [Rep] at h; obtain ⟨e,h1,h2⟩:=h; rw [My.sb,s.end_ h1]; exact (s _ _ h2).symm
 | a,.any x,h=>by rw [Rep] at h; obtain ⟨e,h1,h2,rfl⟩:=h; rw [My.sb,s.end_ h1]; exact hf e h2
 | a,.app g ts,h=>by
  rw [Rep] at h
  obtain ⟨e,ks,h1,h2,_,h3⟩:=h
  rw [My.sb,s.end_ h1,show M e = _ from s _ _ h2,RepL.sb s hf h3]
theorem RepL.sb {bs:Bs} {M:Nat->Trm} {f:Str->Trm} (s:Sol M bs) (hf:∀ e,bs[e]? = some .free->f (bnm e) = M e):∀ {ks:List Nat} {ts:List Trm},RepL bs ks ts->sbL f ts = ks.map M
 | ks,[],h=>by rw [RepL] at h; rw [h,sbL]; rfl
 | ks,t :: ts,h=>by
  rw [RepL] at h
  obtain ⟨k,r,rfl,h1,h2⟩:=h
  rw [sbL,Rep.sb s hf h1,RepL.sb s hf h2]; rfl
end
open Classical in
theorem c4s (M:Nat->Trm):∃ f:Str->Trm,∀ e,f (bnm e) = M e:=⟨fun y=>if h:∃ e,bnm e = y then M h.choose else .num 0,fun e=>by
 have h:∃ e',bnm e' = bnm e:=⟨e,rfl⟩
 dsimp only
 rw [dif_pos h,b4t h.choose_spec]⟩
theorem Rep.size_le {bs:Bs} {M:Nat->Trm} (s:Sol M bs) {a:Nat} {t:Trm} (h:Rep bs a t):t.size<=(M a).size:=by
 obtain ⟨f,hf⟩:=c4s M
 rw [<- h.sb s (f:=f) (fun e _=>hf e)]
 exact b2b t
noncomputable def NoU (t u:Trm):Prop:=∀ f,sb f t ≠ sb f u
theorem b9h {α:Type} (l:List α):l = []\/∃ r x,l = r ++ [x]:=nil_or_snoc' l
theorem d1:decide (numS = appS) = false:=by decide +kernel
theorem d2:decide (anyS = appS) = false:=by decide +kernel
theorem d3:decide (appS = appS) = true:=by decide +kernel
mutual
noncomputable def ar4:Trm->Prop
 | .num _=>True
 | .any _=>True
 | .app _ ks=>ks.length<=4/\ar4L ks
noncomputable def ar4L:List Trm->Prop
 | []=>True
 | k :: ks=>ar4 k/\ar4L ks
end
theorem a1w:∀ {ts:List Trm},ar4L ts ↔ ∀ t ∈ ts,ar4 t
 | []=>by rw [ar4L]; simp
 | k :: ks=>by rw [ar4L,a1w]; simp
theorem but_own {p k:Addr} {H H':Hp} {o:HO} (e:But p H H') (h:H k = none):But p H (upd H' k o):=fun b u n q=>by rw [a0j (a0t q h)]; exact e b u n q
theorem b2c {ws:List Str} {j:Int} (h0:0<=j) (h1:j < (ws.length:Int)):∃ z:Str,atI (ws.map V.str) j = some (.str z):=by
 obtain ⟨v,hv,_⟩:=a5r (xs:=ws.map V.str) h0 (by rw [List.length_map]; exact h1)
 obtain ⟨z,_,e⟩:=List.mem_map.mp (a9o hv)
 exact ⟨z,by rw [hv,e]⟩
theorem b8i {ws:List Int} {j:Int} (h0:0<=j) (h1:j < (ws.length:Int)):∃ z:Int,atI (ws.map V.int) j = some (.int z):=by
 obtain ⟨v,hv,_⟩:=a5r (xs:=ws.map V.int) h0 (by rw [List.length_map]; exact h1)
 obtain ⟨z,_,e⟩:=List.mem_map.mp (a9o hv)
 exact ⟨z,by rw [hv,e]⟩
theorem c6z {l:List Nat} (h:l.Nodup) {i j:Nat} (hi:i < l.length) (hj:j < l.length) (e:l.getD i 0 = l.getD j 0):i = j:=by
 rw [List.getD_eq_getElem?_getD,List.getD_eq_getElem?_getD,List.getElem?_eq_getElem hi,List.getElem?_eq_getElem hj] at e
 have e:l[i] = l[j]:=e
 have hp:=List.pairwise_iff_getElem.mp h
 rcases Nat.lt_trichotomy i j with z | z | z
 ·exact absurd e (hp i j hi hj z)
 ·exact z
 ·exact absurd e.symm (hp j i hj hi z)
theorem c1v:a7x.cps.toList.Nodup:=by decide +kernel
theorem b3a:a7x.cps.toList.length = 62:=by decide +kernel
theorem st_inj' {x y:List Nat} (h:(⟨x.toArray⟩:Str) = ⟨y.toArray⟩):x = y:=by
 have:x.toArray = y.toArray:=congrArg Str.cps h
 simpa using congrArg Array.toList this
noncomputable abbrev wdN (c at_ k:Int) (i:Nat):Int:=c / (0 + (i:Int) + 1) + 7 * (0 + (i:Int)) + k * (if (false ^^ decide (at_ = 0 + (i:Int))) = true then 1 else 0)
noncomputable def wdC (c at_ k:Int) (i:Nat):Nat:=a7x.cps.toList.getD (wdN c at_ k i % (if i = 0 then 26 else 62)).toNat 0
noncomputable def wdS (c at_ k:Int):Str:=⟨((List.range (1 + c % 12).toNat).map (wdC c at_ k)).toArray⟩
theorem wd_inj {c at_:Int} (h0:0<=at_) (h1:at_ < 1 + c % 12) {k j:Nat} (hk:k < 4) (hj:j < 4) (e:wdS c at_ (k:Int) = wdS c at_ (j:Int)):k = j:=by
 obtain ⟨n,rfl⟩:=Int.eq_ofNat_of_zero_le h0
 have e:=st_inj' e
 have e2:=congrArg (fun l:List Nat=>l[n]?) e
 have hn:n < (1 + c % 12).toNat:=by omega
 simp only [List.getElem?_map,List.getElem?_range hn,Option.map_some,Option.some.injEq] at e2
 unfold wdC at e2
 have hm:∃ m:Int,(if n = 0 then 26 else 62:Int) = m/\26<=m/\m<=62:=by split <;> exact ⟨_,rfl,by decide,by decide⟩
 obtain ⟨m,hm,m1,m2⟩:=hm
 rw [hm] at e2
 have z:∀ y:Int,wdN c (n:Int) y n = c / (0 + (n:Int) + 1) + 7 * (0 + (n:Int)) + y:=fun y=>by unfold wdN; simp
 rw [z,z] at e2
 generalize c / (0 + (n:Int) + 1) + 7 * (0 + (n:Int)) = b at e2
 have u1:=Int.emod_nonneg (b + (k:Int)) (show m ≠ 0 by omega)
 have u2:=Int.emod_lt_of_pos (b + (k:Int)) (show 0 < m by omega)
 have v1:=Int.emod_nonneg (b + (j:Int)) (show m ≠ 0 by omega)
 have v2:=Int.emod_lt_of_pos (b + (j:Int)) (show 0 < m by omega)
 have e3:=c6z c1v (by rw [b3a]; omega) (by rw [b3a]; omega) e2
 have e4:(b + (k:Int)) % m = (b + (j:Int)) % m:=by omega
 have e5:((b + (k:Int)) - (b + (j:Int))) % m = 0:=Int.emod_eq_emod_iff_emod_sub_eq_zero.mp e4
 obtain ⟨q,hq⟩:=Int.dvd_of_emod_eq_zero e5
 have hq0:q = 0:=by
  rcases Int.lt_trichotomy q 0 with g | g | g
  ·have:m * q<=m * (-1):=Int.mul_le_mul_of_nonneg_left (by omega) (by omega)
   omega
  ·exact g
  ·have:m * 1<=m * q:=Int.mul_le_mul_of_nonneg_left (by omega) (by omega)
   omega
 subst hq0
 omega
theorem c4t {α β:Type} {R:β->β->Prop} {f:α->β}:∀ {l:List α},l.Pairwise (fun a b=>R (f a) (f b))->(l.map f).Pairwise R
 | [],_=>.nil
 | a :: l,h=>by
  rw [List.pairwise_cons] at h
  rw [List.map_cons,List.pairwise_cons]
  exact ⟨fun b hb=>by obtain ⟨x,hx,rfl⟩:=List.mem_map.mp hb; exact h.1 x hx,c4t h.2⟩
theorem c4u {c at_:Int} (h0:0<=at_) (h1:at_ < 1 + c % 12):((List.range 4).map fun k:Nat=>wdS c at_ (k:Int)).Nodup:=by
 refine c4t ?_
 have h:∀ a ∈ List.range 4,a < 4:=fun a ha=>List.mem_range.mp ha
 have n:(List.range 4).Nodup:=by decide
 revert h n
 generalize List.range 4 = l
 intro h n
 induction l with
 | nil=>exact .nil
 | cons a l ih=>
  rw [List.nodup_cons] at n
  refine List.pairwise_cons.mpr ⟨fun b hb e=>n.1 (by rw [wd_inj h0 h1 (h a (List.mem_cons_self ..)) (h b (List.mem_cons_of_mem _ hb)) e]; exact hb),ih (fun b hb=>h b (List.mem_cons_of_mem _ hb)) n.2⟩
noncomputable abbrev yNs:List Str:=["Y","Y1","U1"].map Str.ofString
noncomputable def Ys (t:Trm):Prop:=∀ x,Occ x t->x ∈ yNs
noncomputable abbrev a6q (K:W.Frag):Sp:=fun vs H Q _=>match vs with
 | [.ref a,.int m]=>∃ ns:List Int,SqL K H a (ns.map V.int)/\ns.length<=63/\0<=m/\m<=200/\∀ (p:Addr) (cs:List Int) (H':Hp),cs.length = m.toNat->Same H H'->H' p = some (.lst (cs.map V.int))->Q (.ref p) H'
 | _=>False
noncomputable abbrev a3o:Sp:=fun vs H Q _=>match vs with
 | [.ref p]=>∃ ns:List Int,H p = some (.lst (ns.map V.int))/\∀ (v:Int) (ns':List Int) (H':Hp),But p H H'->(∀ b,H' b = none->H b = none)->H' p = some (.lst (ns'.map V.int))->Q (.int v) H'
 | _=>False
noncomputable abbrev a9b (K:W.Frag):Sp:=fun vs H Q _=>match vs with | [.int c,.int at_,.int k]=>∀ (H':Hp),Same H H'->Q (.str (wdS c at_ k)) H' | _=>False
noncomputable abbrev a8a:Sp:=fun vs H Q _=>match vs with | [.int c,.int at_]=>∀ (p:Addr) (ws:List Str) (H':Hp),ws.length = 4->ws.Nodup->Same H H'->H' p = some (.lst (ws.map V.str))->Q (.ref p) H' | _=>False
noncomputable abbrev a4w:Sp:=fun vs H Q _=>match vs with | [.int c]=>∀ n:Int,Q (.int n) H | _=>False
noncomputable abbrev a2p (K:W.Frag) (n:Nat):Sp:=fun vs H Q _=>match vs with | [v]=>∃ t:Trm,Den K H v t.data/\t.size<=n/\n<=1000/\∀ H',Same H H'->Q (.int t.size) H' | _=>False
theorem c1w {K:W.Frag} {H:Hp} {Q:VK} {v:V} (h:∃ t:Trm,Den K H v t.data/\t.size<=0/\0<=1000/\∀ H',Same H H'->Q (.int t.size) H'):False:=by
 obtain ⟨t,_,h,_⟩:=h
 have:=t.size_pos
 omega
theorem b1k:∀ ks:List Trm,(ks.map fun t:Trm=>(t.size:Int)).sum = (Trm.sizeL ks:Int)
 | []=>rfl
 | t :: r=>by rw [List.map_cons,List.sum_cons,b1k r,Trm.sizeL]; omega
noncomputable abbrev a7p:Sp:=fun vs H Q _=>match vs with | [.int c]=>∀ z:Str,Q (.str z) H | _=>False
noncomputable abbrev a7u:Sp:=fun vs H Q _=>match vs with | [.int c,.int m,.ref p]=>∃ ws:List Str,H p = some (.lst (ws.map V.str))/\ws.length = 4/\∀ (z:Str) (H':Hp),Same H H'->Q (.str z) H' | _=>False
noncomputable abbrev a4k (K:W.Frag) (n:Nat):Sp:=fun vs H Q _=>match vs with
 | [.ref p,.int room,.ref wp]=>∃ (ns:List Int) (ws:List Str),p ≠ wp/\H p = some (.lst (ns.map V.int))/\H wp = some (.lst (ws.map V.str))/\ws.length = 4/\1<=room/\room<=(n:Int)/\n<=40 /\
  ∀ (r:Addr) (H':Hp) (t:Trm) (ns':List Int),But p H H'->(∀ b,H' b = none->H b = none)->H' p = some (.lst (ns'.map V.int))->Den K H' (.ref r) t.data->(t.size:Int)<=room->ar4 t->Ys t->Q (.ref r) H'
 | _=>False
theorem c4v {H:Hp} {p wp:Addr} {room:Int} {R:List Int->List Str->Prop} (h:∃ (ns:List Int) (ws:List Str),p ≠ wp/\H p = some (.lst (ns.map V.int))/\H wp = some (.lst (ws.map V.str))/\ws.length = 4/\1<=room/\room<=((0:Nat):Int)/\R ns ws):False:=by
 obtain ⟨_,_,_,_,_,_,h1,h2,_⟩:=h
 have h2:room<=(0:Int):=h2
 omega
section
variable {P:Program} {w:World} {K:W.Frag} {mg:Str->Option Value} {base:Heap} {t:Ad}
theorem c1x (T:Txt K mg t)  : FnOk P w K mg base CX0 1 t.a_l_cells t.d_l_cells ["_law_script","_law_many"] (a6q K):=by
 refine T.F_l_cells.ok a6t (fun vs H Q E h=>?_) (fun cdv A outer s H vs Q E hr h=>?_)
 ·unfold a6q at h
  split at h
  ·rfl
  ·exact h.elim
 unfold a6q at h
 split at h
 rotate_left
 ·exact h.elim
 refine ⟨_,(a0d (a0r (i:=2) (hs:=a1h) a6t.nd rfl (by walk_at "or1") (a2h (kc_list K rfl) rfl T.n_list boot_list (a0a (a6z (ks_list K rfl) (mv 0) a8c (a8f (mv 1))) a0e))) (a0d (a0r (i:=3) (hs:=a3h) a6t.nd rfl (by walk_at "or1") (a0m (a1g K rfl) a0c (a1i (a2i K rfl) rfl T.n_len PySem.boot_len (a0a (mv 0) a0e)))) (a0d (a5w PassesOwn.never (a0q mo_lt (a1i (a2i K rfl) rfl T.n_len PySem.boot_len (a0a (mv 2) a0e)) (mv 1) (a0p _)) (a0d (a0y (a0q a8y (a1i (a2i K rfl) rfl T.n_len PySem.boot_len (a0a (mv 0) a0e)) a0c (a0p _)) (a0g (a0r (i:=3) (hs:=a3h) a6t.nd rfl (by walk_at "or1") (a0m (a1g K rfl) (mv 3) (a0k (a0i K rfl) (mv 0) (a0m a1d (a1i (a2i K rfl) rfl T.n_len PySem.boot_len (a0a (mv 2) a0e)) (a1i (a2i K rfl) rfl T.n_len PySem.boot_len (a0a (mv 0) a0e))) (fun _ _=>rfl))))) a0s) (a0d (a0r (i:=3) (hs:=a3h) a6t.nd rfl (by walk_at "or1") (a0m a1d (a0m (a1g K rfl) (a0m a8m (mv 3) a0c) a0c) a0c)) (a0g (a4v (a7k K rfl F.plainAttrs_list F.slot_list_append F.type_list_append a7o (mv 2) (a0a (a0m a2f (mv 3) a0c) a0e))))))) (a0g (a0n (mv 2)))))),?_⟩
 rename_i a m
 obtain ⟨ns,hS,hn,h0,h1,q⟩:=h
 walk_at "stp"
 refine mSlL_i hS fun p1 hp1=>?_
 walk_at "stp"
 refine mLst_l (SqL.of a0b) fun p hp=>?_
 walk_at "stp"
 rw [c6g] at hp ⊢
 generalize hc0:(ns.drop (HT.sIx ns.length 0 none)).take (HT.sIx ns.length ns.length (some m) - HT.sIx ns.length 0 none) = cs0 at hp ⊢
 have hl0:cs0.length<=m.toNat:=by
  rw [<- hc0,List.length_take,c3u _ _ h0]
  omega
 have s1:Same H (upd H p1 (.lst (cs0.map V.int))):=a0f hp1 _
 have hp0:H p = none:=s1.free hp
 have s2:Same H (upd (upd H p1 (.lst (cs0.map V.int))) p (.lst (cs0.map V.int))):=s1.trans (a0f hp _)
 have hpp:upd (upd H p1 (.lst (cs0.map V.int))) p (.lst (cs0.map V.int)) p = some (.lst (cs0.map V.int)):=a0b
 generalize upd (upd H p1 (.lst (cs0.map V.int))) p (.lst (cs0.map V.int)) = H2 at s2 hpp ⊢
 refine a4q (s2.seq hS) ?_
 walk_at "stp"
 refine a5d (fun n σ' H'=>∃ (x:Int) (cs:List Int),σ' = [some (.ref a),some (.int m),some (.ref p),some (.int x)]/\H' p = some (.lst (cs.map V.int))/\Same H H'/\cs.length<=m.toNat/\n = m.toNat - cs.length) _ ⟨_,cs0,rfl,hpp,s2,hl0,rfl⟩ (fun n σ' H' R hP kT kF=>?_)
 obtain ⟨x,cs,rfl,h2,h3,h4,h5⟩:=hP
 walk_at "stp"
 refine a4q (SqL.of h2) ?_
 walk_at "stp"
 by_cases hlt:cs.length < m.toNat
 ·have e:decide (((cs.map V.int).length:Int) < m) = true:=decide_eq_true (by rw [List.length_map]; omega)
  rw [e]
  refine kT H' (fun D' e1 e2 hnx hct=>?_)
  have rest:∀ y:Int,(D'.nx) [some (.ref a),some (.int m),some (.ref p),some (.int ((y * 742938285 + 3) % 2147483647))] (upd H' p (.lst (cs.map V.int ++ [V.int ((y * 742938285 + 3) % 2147483647 / 23)]))):=fun y=>by
   refine hnx _ _ (m.toNat - (cs.length + 1)) (by omega) ⟨_,cs ++ [(y * 742938285 + 3) % 2147483647 / 23],rfl,by rw [a0b,List.map_append]; rfl,a2x h3 hp0,by rw [List.length_append,List.length_singleton]; omega,by rw [List.length_append,List.length_singleton]⟩
  (with_reducible refine a2k (fun σ' H1=>∃ y:Int,σ' = [some (.ref a),some (.int m),some (.ref p),some (.int y)]/\H1 = H') (fun σ' H1 hP=>?_) (fun k=>?_))
  rotate_left
  ·walk_at "stm"
   refine a4q (h3.seq hS) ?_
   walk_at "stm"
   refine iteB (fun e3=>?_) (fun e3=>?_)
   ·walk_at "stm"
    refine a4q (SqL.of h2) ?_
    walk_at "stm"
    refine a4q (h3.seq hS) ?_
    have hpos:=of_decide_eq_true e3
    refine m2_i (show (0:Int) < _ from hpos) ?_
    have b1:=Int.emod_nonneg ((cs.map V.int).length:Int) (show ((ns.map V.int).length:Int) ≠ 0 by omega)
    have b2:=Int.emod_lt_of_pos ((cs.map V.int).length:Int) hpos
    obtain ⟨v,hv,hv2⟩:=a5r (xs:=ns.map V.int) b1 b2
    obtain ⟨z,rfl⟩:=ints_at hv
    refine a1b (h3.seq hS) hv ?_
    walk_at "stm"
    exact k _ _ ⟨_,rfl,rfl⟩
   ·walk_at "stm"
    exact k _ _ ⟨_,rfl,rfl⟩
  obtain ⟨y,rfl,rfl⟩:=hP
  walk_at "stp"
  refine a8p (a9g (by decide)) ?_
  walk_at "stp"
  refine ⟨.inl ⟨rfl,_,SqL.of h2⟩,?_⟩
  walk_at "stp"
  refine a6k h2 (ln1 (by rw [List.length_map]; omega)) ?_
  exact rest y
 ·have e:decide (((cs.map V.int).length:Int) < m) = false:=decide_eq_false (by rw [List.length_map]; omega)
  rw [e]
  refine kF H' ?_
  walk_at "stp"
  exact q p cs H' (by omega) h3 h2
theorem c4w (T:Txt K mg t)  : FnOk P w K mg base CX0 1 t.a_l_next t.d_l_next ["_law_left"] (a3o):=by
 refine T.F_l_next.ok c4j (fun vs H Q E h=>?_) (fun cdv A outer s H vs Q E hr h=>?_)
 ·unfold a3o at h
  split at h
  ·rfl
  ·exact h.elim
 unfold a3o at h
 split at h
 rotate_left
 ·exact h.elim
 refine ⟨_,(a0d (a0y (a0q a1e (a1i (a2i K rfl) rfl T.n_len PySem.boot_len (a0a (mv 0) a0e)) a0c (a0p _)) (a0g (a0n a0c)) a0s) (a0g (a0n (a8n K rfl F.plainAttrs_list F.slot_list_pop F.type_list_pop a9m (mv 0))))),?_⟩
 rename_i p
 obtain ⟨ns,hp,q⟩:=h
 walk_at "stp"
 refine a4q (SqL.of hp) ?_
 walk_at "stp"
 rcases b9h ns with rfl | ⟨ns',x,rfl⟩
 ·refine iteT ?_
  walk_at "stp"
  exact q 0 [] H (But.refl _ _) (fun _ h=>h) hp
 ·have e:(false ^^ decide ((((ns' ++ [x]).map V.int).length:Int) = 0)) = false:=by simp; omega
  rw [e]
  refine iteF ?_
  walk_at "stp"
  rw [List.map_append] at hp
  refine ⟨.inl ⟨rfl,_,SqL.of hp⟩,?_⟩
  refine a9q (v:=V.int x) hp ?_
  exact q x ns' _ (a6l _) (fun b h=>by
   by_cases z:b = p
   ·subst z; rw [a0b] at h; cases h
   ·rwa [a0j z] at h) a0b
theorem c1y (T:Txt K mg t)  (n:Nat) (G_l_parts:FnOk P w K mg base CX0 (n + 1) t.a_l_parts t.d_l_parts ["_law_term_here"] (a2p K n)):FnOk P w K mg base CX0 (n + 1 + 1) t.a_l_parts t.d_l_parts ["_law_term_here"] (a2p K (n + 1)):=by
 refine T.F_l_parts.ok (k:=n + 1) c1q (fun vs H Q E h=>?_) (fun cdv A outer s H vs Q E hr h=>?_)
 ·unfold a2p at h
  split at h
  ·rfl
  ·exact h.elim
 unfold a2p at h
 split at h
 rotate_left
 ·exact h.elim
 refine ⟨_,(a0d (a0y (a0q a1e (a0k (a0i K rfl) (mv 0) a0c (fun _ _=>rfl)) a0o (a0p _)) (a0g (a0n (a0m (a1g K rfl) a0c (a1i (kc_sum K rfl rfl) rfl T.n_sum boot_sum (a0a (a8d rfl (a8g K rfl (a0k (a0i K rfl) (mv 0) a0c (fun _ _=>rfl))) (a6j (a0h a4h) ["_law_term_here"] ["_law_term_here"] rfl rfl (by decide +kernel)) (fun _ _ _ _ _=>a6i) (fun _ _ _ _ _=>(a0z G_l_parts (hr.mono (by first | decide | omega)) rfl T.m_l_parts T.F_l_parts.kp T.b_l_parts .nil a0v (a0a (mv 0) a0e)))) a0e))))) a0s) (a0g (a0n a0c))),?_⟩
 rename_i v
 obtain ⟨t0,hd,hz,hn,q⟩:=h
 cases t0 with
 | num m=>
  obtain ⟨a,rfl,hs⟩:=a1u hd
  walk_at "stp"
  refine a0l hs (v:=.str numS) rfl ?_
  walk_at "stp"
  rw [Bool.false_xor,d1]
  refine iteF ?_
  walk_at "stp"
  exact q H (Same.refl H)
 | any m=>
  obtain ⟨a,rfl,hs⟩:=a1x hd
  walk_at "stp"
  refine a0l hs (v:=.str anyS) rfl ?_
  walk_at "stp"
  rw [Bool.false_xor,d2]
  refine iteF ?_
  walk_at "stp"
  exact q H (Same.refl H)
 | app sg ks=>
  obtain ⟨a,b,us,rfl,hs,hb,hk⟩:=a2g hd
  walk_at "stp"
  refine a0l hs (v:=.str appS) rfl ?_
  walk_at "stp"
  rw [Bool.false_xor,d3]
  refine iteT ?_
  walk_at "stp"
  refine a0l hs (v:=.ref b) rfl ?_
  refine ⟨b,rfl,⟨_,hb⟩,fun D hD=>?_⟩
  simp only [Trm.size] at hz
  have hl:=hk.length
  rw [Trm.dataL_map,List.length_map] at hl
  have l4:=Trm.len_le ks
  refine a5c (a8e (xs:=us)) (fun i ys H'=>Same H H'/\ys = ((ks.take i).map fun t:Trm=>V.int t.size)/\H' D = some (.lst ys)) (ln (by omega)) ⟨a0f hD _,rfl,a0b⟩ (fun i ys H' hP=>hP.1.tup hb) (fun i ys H' Q' hi' hl' hP k=>?_) (fun ys H' hl' hP=>?_)
  ·obtain ⟨g1,g2,g3⟩:=hP
   have hki:i < ks.length:=by omega
   have hx:us[i]? = some us[i]:=List.getElem?_eq_getElem hi'
   have hg:us.getD i .non = us[i]:=by rw [List.getD_eq_getElem?_getD,hx]; rfl
   obtain ⟨d,e1,e2⟩:=hk.get hx
   rw [Trm.dataL_map,List.getElem?_map,List.getElem?_eq_getElem hki] at e1
   have e1:ks[i].data = d:=Option.some.inj e1
   subst e1
   walk_at "stp"
   rw [hg]
   have hsz:ks[i].size<=Trm.sizeL ks:=by
    have e:=Trm.sizeL_app (ks.take i) (ks.drop i)
    rw [List.take_append_drop,List.drop_eq_getElem_cons hki,Trm.sizeL] at e
    omega
   refine ⟨ks[i],e2.mono g1,by omega,by omega,fun H2 s2=>?_⟩
   refine k _ _ (s2 _ _ g3) ⟨a2x (g1.trans s2) hD,?_,a0b⟩
   rw [g2,List.take_add_one,List.getElem?_eq_getElem hki,List.map_append]
   rfl
  ·obtain ⟨g1,g2,g3⟩:=hP
   have e:ks.take us.length = ks:=List.take_of_length_le (by omega)
   rw [e] at g2
   walk_at "stp"
   refine ⟨D,ks.map fun t:Trm=>(t.size:Int),rfl,SqL.of (by rw [List.map_map]; exact g2 ▸ g3),fun n hn=>?_,?_,?_⟩
   ·obtain ⟨t,_,rfl⟩:=List.mem_map.mp hn
    omega
   ·rw [b1k]; omega
   ·walk_at "stp"
    rw [b1k]
    have e:(1:Int) + (Trm.sizeL ks:Int) = ((Trm.app sg ks).size:Int):=by simp only [Trm.size]; omega
    rw [e]
    exact q H' g1
theorem c1z (T:Txt K mg t)  (n:Nat):FnOk P w K mg base CX0 (n + 1) t.a_l_parts t.d_l_parts ["_law_term_here"] (a2p K n):=by
 induction n with
 | zero=>
  have no:∀ vs H Q E,(a2p K 0) vs H Q E->False:=fun vs H Q E h=>by
   unfold a2p at h
   split at h
   ·exact c1w h
   ·exact h
  exact ⟨fun vs H Q E h=>(no vs H Q E h).elim,fun A outer s H args us vs Q E _ _ _ _ h=>(no vs H Q E h).elim⟩
 | succ n ih=>
  have e:n + 1 + 1 = n + 1 + 1:=by omega
  rw [e]
  exact c1y T  n ih
theorem b9i (T:Txt K mg t)  : FnOk P w K mg base CX0 1 t.a_l_number t.d_l_number ["_law_cell"] (a4w):=by
 refine T.F_l_number.ok b9c (fun vs H Q E h=>?_) (fun cdv A outer s H vs Q E hr h=>?_)
 ·unfold a4w at h
  split at h
  ·rfl
  ·exact h.elim
 unfold a4w at h
 split at h
 rotate_left
 ·exact h.elim
 refine ⟨_,(a0d (a0y (a0q a1e (a0m a1d (mv 0) a0c) a0c (a0p _)) (a0g (a0n (a0m a2r (a0m a1d (a0m a8m (a0m a2f (mv 0) a0c) a0c) (a0m a2r (a0m a8m a0c (a0m c3i a0c a0c)) a0c)) (a0m a2r (a0m c3i a0c a0c) a0c)))) a0s) (a0g (a0n (a0m a2r (a0m a1d (a0m a2f (mv 0) a0c) a0c) a0c)))),?_⟩
 rename_i c
 have hp:(0:Int) < 2 * 10 ^ (30:Int).toNat - 1:=by decide +kernel
 walk_at "stp"
 refine iteB (fun e=>?_) (fun e=>?_)
 ·walk_at "stp"
  refine a8p (a9g (by decide)) ?_
  walk_at "stp"
  refine m2_i (C:=CPow) ⟨by decide,by decide,by decide⟩ ?_
  walk_at "stp"
  refine a8p (a7w (by decide)) ?_
  walk_at "stp"
  refine m2_i (C:=CPow) ⟨by decide,by decide,by decide⟩ ?_
  walk_at "stp"
  exact h _
 ·walk_at "stp"
  exact h _
theorem c4x (T:Txt K mg t)  : FnOk P w K mg base CX0 1 t.a_l_word t.d_l_word ["_law_cell","_law_at","_law_k"] (a9b K):=by
 refine T.F_l_word.ok a5i (fun vs H Q E h=>?_) (fun cdv A outer s H vs Q E hr h=>?_)
 ·unfold a9b at h
  split at h
  ·rfl
  ·exact h.elim
 unfold a9b at h
 split at h
 rotate_left
 ·exact h.elim
 refine ⟨_,(a0d (a0r (i:=3) a5i.nd rfl (by walk_at "or1") a0o) (a0d (a0r (i:=4) (hs:=a3h) a5i.nd rfl (by walk_at "or1") (a0m (a1g K rfl) (a0m (a1g K rfl) (mv 3) (a8n K rfl F.plainAttrs_str F.slot_str_upper F.type_str_upper c6e (mv 3))) a0o)) (a0d (a0r (i:=5) a5i.nd rfl (by walk_at "or1") a0o) (a0d (a4a PassesOwn.never rfl (a4f rfl T.n_range (a0a (a0m (a1g K rfl) a0c (a0m a1d (mv 0) a0c)) a0e)) (a3e (i:=6) a5i.nd rfl (by walk_at "or1")) (a0d (a0r (i:=7) (hs:=a3h) a5i.nd rfl (by walk_at "or1") (a0m (a1g K rfl) (a0m (a1g K rfl) (a0m a2f (mv 0) (a0m (a1g K rfl) (mv 6) a0c)) (a0m a8m a0c (mv 6))) (a0m a8m (mv 2) (a2h c3t rfl T.n_int boot_int (a0a (b1o a1e (mv 1) (mv 6) (a0p _)) a0e))))) (a0g (a0r (i:=5) (hs:=a3h) a5i.nd rfl (by walk_at "or1") (a0m (a1g K rfl) (mv 5) (a0k (a0i K rfl) (mv 4) (a0m a1d (mv 7) (a0k (a0i K rfl) (a2b (a0a a0c (a0a a0c a0e))) (a2h c3t rfl T.n_int boot_int (a0a (b1o a1e (mv 6) a0c (a0p _)) a0e)) (fun _ _=>rfl))) (fun _ _=>rfl))))))) (a0g (a0n (mv 5))))))),?_⟩
 rename_i c at_ k
 walk_at "stp"
 refine ⟨rfl,?_⟩
 refine c6f (r:=c3p) (by decide +kernel) (by decide +kernel) ?_
 walk_at "stp"
 refine a8o (ln (by decide +kernel)) ?_
 walk_at "stp"
 refine a8o (ln (by decide +kernel)) ?_
 walk_at "stp"
 have ht:c3o ++ c3p ++ figS = a7x:=by decide +kernel
 rw [ht]
 have b1:=Int.emod_nonneg c (show (12:Int) ≠ 0 by decide)
 have b2:=Int.emod_lt_of_pos c (show (0:Int) < 12 by decide)
 refine ⟨_,rfl,by omega,by omega,?_⟩
 refine a3f (a4g 0 (1 + c % 12).toNat) (fun i σ' H'=>∃ (o6 o7:Option V) (r:List Nat),σ' = [some (.int c),some (.int at_),some (.int k),some (.str c3o),some (.str a7x),some (.str ⟨r.toArray⟩),o6,o7]/\r = (List.range i).map (wdC c at_ k)/\Same H H') ⟨none,none,[],rfl,rfl,Same.refl H⟩ (fun _ _ _ _=>trivial) (fun i σ' H' hi hP=>?_) (fun σ' H' hP=>?_)
 ·obtain ⟨o6,o7,r,rfl,hl,s1⟩:=hP
  have hrl:r.length = i:=by rw [hl,List.length_map,List.length_range]
  walk_at "stp"
  refine m2_i (b3l (by omega) (by omega)) ?_
  walk_at "stp"
  refine a8p (a7w (by decide)) ?_
  walk_at "stp"
  refine a8p (a9g (by split <;> decide)) ?_
  walk_at "stp"
  generalize hn:c / (0 + (i:Int) + 1) + 7 * (0 + (i:Int)) + k * (if (false ^^ decide (at_ = 0 + (i:Int))) = true then 1 else 0) = n
  refine ⟨ln (by show 2<=100000; decide),fun p hp=>?_⟩
  walk_at "stp"
  have hx:∃ x:Int,atI [V.int 62,V.int 26] (if (false ^^ decide (0 + (i:Int) = 0)) = true then 1 else 0) = some (.int x)/\0 < x/\x<=62/\x = (if i = 0 then 26 else 62):=by
   by_cases hi0:i = 0
   ·subst hi0; exact ⟨26,rfl,by decide,by decide,rfl⟩
   ·rw [show (false ^^ decide (0 + (i:Int) = 0)) = false by rw [decide_eq_false (by omega)]; rfl,if_neg hi0]
    exact ⟨62,rfl,by decide,by decide,rfl⟩
  obtain ⟨x,hx,hx0,hx1,hxe⟩:=hx
  refine a1b (SqL.of a0b) hx ?_
  refine m2_i (show (0:Int) < x from hx0) ?_
  have b5:=Int.emod_nonneg n (show x ≠ 0 by omega)
  have b6:=Int.emod_lt_of_pos n hx0
  obtain ⟨y,hy⟩:=b5h (z:=a7x) b5 (by rw [tl62]; omega)
  refine mIx_s (ln (by rw [tl62]; decide)) hy ?_
  walk_at "stp"
  refine a8o ?_ ?_
  ·refine ln ?_
   rw [str_len,hrl,show (⟨#[y]⟩:Str).length = 1 from rfl]
   omega
  walk_at "stp"
  refine ⟨some (.int (0 + (i:Int))),some (.int n),r ++ [y],?_,?_,s1.trans (a0f hp _)⟩
  ·have e:(⟨r.toArray⟩:Str) ++ ⟨#[y]⟩ = ⟨(r ++ [y]).toArray⟩:=c0a r [y]
   rw [e]
   rfl
  ·have hy2:a7x.cps.toList[(n % x).toNat]? = some y:=by
    obtain ⟨v,e1,e2⟩:=a5r (xs:=a7x.cps.toList) b5 (by rw [b3a]; omega)
    rw [hy] at e1
    cases e1
    exact e2
   rw [List.range_succ,List.map_append,<- hl]
   have:wdC c at_ k i = y:=by
    unfold wdC
    rw [show wdN c at_ k i = n from hn,<- hxe,List.getD_eq_getElem?_getD,hy2]; rfl
   rw [List.map_singleton,this]
 ·obtain ⟨o6,o7,r,rfl,hl,s1⟩:=hP
  walk_at "stp"
  rw [hl]
  exact h _ s1
theorem c2a (T:Txt K mg t) (G_l_word:FnOk P w K mg base CX0 1 t.a_l_word t.d_l_word ["_law_cell","_law_at","_law_k"] (a9b K)):FnOk P w K mg base CX0 2 t.a_l_words t.d_l_words ["_law_cell","_law_at"] (a8a):=by
 refine T.F_l_words.ok c1r (fun vs H Q E h=>?_) (fun cdv A outer s H vs Q E hr h=>?_)
 ·unfold a8a at h
  split at h
  ·rfl
  ·exact h.elim
 unfold a8a at h
 split at h
 rotate_left
 ·exact h.elim
 refine ⟨_,(a0g (a0n (a8d rfl (a4f rfl T.n_range (a0a a0c a0e)) (a6j (a0h a4i) ["_law_cell","_law_at"] ["_law_cell","_law_at"] rfl rfl (by decide +kernel)) (fun _ _ _ _ _=>a6i) (fun _ _ _ _ _=>(a0z G_l_word (hr.mono (by first | decide | omega)) rfl T.m_l_word T.F_l_word.kp T.b_l_word .nil a0v (a0a (mv 1) (a0a (a0m a1d (mv 2) (a0m (a1g K rfl) a0c (a0m a1d (mv 1) a0c))) (a0a (mv 0) a0e)))))))),?_⟩
 rename_i c at_
 walk_at "stp"
 refine ⟨4,rfl,by decide,by decide,fun D hD=>?_⟩
 refine a5c (a4g 0 (4:Int).toNat) (fun i ys H'=>Same H H'/\ys = ((List.range i).map fun k:Nat=>wdS c (at_ % (1 + c % 12)) (k:Int)).map V.str/\H' D = some (.lst ys)) (ln (by decide)) ⟨a0f hD _,rfl,a0b⟩ (fun _ _ _ _=>trivial) (fun i ys H' Q' hi' hl' hP k=>?_) (fun ys H' hl' hP=>?_)
 ·obtain ⟨g1,g2,g3⟩:=hP
  walk_at "stp"
  have b1:=Int.emod_nonneg c (show (12:Int) ≠ 0 by decide)
  refine m2_i (show (0:Int) < _ by omega) ?_
  walk_at "stp"
  intro H2 s2
  rw [Int.zero_add]
  exact k _ _ (s2 _ _ g3) ⟨a2x (g1.trans s2) hD,by rw [g2,List.range_succ,List.map_append,List.map_append]; rfl,a0b⟩
 ·obtain ⟨g1,g2,g3⟩:=hP
  have b1:=Int.emod_nonneg c (show (12:Int) ≠ 0 by decide)
  exact h D _ H' (by rw [List.length_map,List.length_range]) (c4u (Int.emod_nonneg _ (by omega)) (Int.emod_lt_of_pos _ (by omega))) g1 (g2 ▸ g3)
theorem c4y (T:Txt K mg t)  : FnOk P w K mg base CX0 1 t.a_l_mark t.d_l_mark ["_law_cell"] (a7p):=by
 refine T.F_l_mark.ok a7s (fun vs H Q E h=>?_) (fun cdv A outer s H vs Q E hr h=>?_)
 ·unfold a7p at h
  split at h
  ·rfl
  ·exact h.elim
 unfold a7p at h
 split at h
 rotate_left
 ·exact h.elim
 refine ⟨_,(a0d (a0r (i:=1) a7s.nd rfl (by walk_at "or1") a0o) (a0d (a0r (i:=2) a7s.nd rfl (by walk_at "or1") a0o) (a0d (a4a PassesOwn.never rfl (a4f rfl T.n_range (a0a (a0m (a1g K rfl) a0c (a0m a1d (mv 0) a0c)) a0e)) (a3e (i:=3) a7s.nd rfl (by walk_at "or1")) (a0g (a0r (i:=2) (hs:=a3h) a7s.nd rfl (by walk_at "or1") (a0m (a1g K rfl) (mv 2) (a0k (a0i K rfl) (mv 1) (a0m a1d (a0m a2f (a0m a2f (mv 0) a0c) (a0m mo_shl a0c (a0m a8m a0c (mv 3)))) a0c) (fun _ _=>rfl)))))) (a0d (a0y (a0q a1e (mv 2) a0o (a0p _)) (a0g (a0n a0o)) a0s) (a0g (a0n (mv 2))))))),?_⟩
 rename_i c
 have b1:=Int.emod_nonneg c (show (3:Int) ≠ 0 by decide)
 have b2:=Int.emod_lt_of_pos c (show (0:Int) < 3 by decide)
 walk_at "stp"
 refine ⟨_,rfl,by omega,by omega,?_⟩
 refine a3f (a4g 0 (1 + c % 3).toNat) (fun i σ' H'=>∃ (o:Option V) (r:List Nat),σ' = [some (.int c),some (.str b5z),some (.str ⟨r.toArray⟩),o]/\r.length = i/\H' = H) ⟨none,[],rfl,rfl,rfl⟩ (fun _ _ _ _=>trivial) (fun i σ' H' hi hP=>?_) (fun σ' H' hP=>?_)
 ·obtain ⟨o,r,rfl,hl,rfl⟩:=hP
  have hi3:i = 0\/i = 1\/i = 2:=by omega
  walk_at "stp"
  refine a8p (a7w (by decide)) ?_
  refine m2_i (C:=CPow) ⟨by omega,by omega,by decide⟩ ?_
  have hd:∃ d:Int,1 * 2 ^ (4 * (0 + (i:Int))).toNat = d/\0 < d/\d < 1073741824:=by
   rcases hi3 with rfl | rfl | rfl <;> exact ⟨_,rfl,by decide,by decide⟩
  obtain ⟨d,hd,hd0,hd1⟩:=hd
  rw [hd]
  refine m2_i (b3l hd0 hd1) ?_
  walk_at "stp"
  obtain ⟨y,hy⟩:=b5h (z:=b5z) (Int.emod_nonneg (c / 3 / d) (show (16:Int) ≠ 0 by decide)) (by rw [mk16]; exact Int.emod_lt_of_pos _ (by decide))
  refine mIx_s (ln (by rw [mk16]; decide)) hy ?_
  walk_at "stp"
  refine a8o ?_ ?_
  ·refine ln ?_
   rw [str_len,show (⟨#[y]⟩:Str).length = 1 from rfl]
   omega
  walk_at "stp"
  refine ⟨some (.int (0 + (i:Int))),r ++ [y],?_,by rw [List.length_append,hl]; rfl,rfl⟩
  have e:(⟨r.toArray⟩:Str) ++ ⟨#[y]⟩ = ⟨(r ++ [y]).toArray⟩:=c0a r [y]
  rw [e]
  rfl
 ·obtain ⟨o,r,rfl,hl,rfl⟩:=hP
  walk_at "stp"
  refine iteB (fun e=>?_) (fun e=>?_)
  ·walk_at "stp"
   exact h _
  ·walk_at "stp"
   exact h _
theorem c4z (T:Txt K mg t) (G_l_mark:FnOk P w K mg base CX0 1 t.a_l_mark t.d_l_mark ["_law_cell"] (a7p)):FnOk P w K mg base CX0 2 t.a_l_sign t.d_l_sign ["_law_cell","_law_many","_law_words_here"] (a7u):=by
 refine T.F_l_sign.ok c4k (fun vs H Q E h=>?_) (fun cdv A outer s H vs Q E hr h=>?_)
 ·unfold a7u at h
  split at h
  ·rfl
  ·exact h.elim
 unfold a7u at h
 split at h
 rotate_left
 ·exact h.elim
 refine ⟨_,(a0d (a0y (PW.pt (a5b (a0q a1e (mv 1) a0c (a0p _)) (a4u (a0q a1e (a0m a1d (mv 0) a0c) a0c (a0p _))))) (a0g (a0n a0o)) a0s) (a0d (a0y (PW.pt (a5b (a0q a1e (mv 1) a0c (a0p _)) (a4u (a0q a1e (a0m a1d (mv 0) a0c) a0c (a0p _))))) (a0g (a0n (a0z G_l_mark (hr.mono (by first | decide | omega)) rfl T.m_l_mark T.F_l_mark.kp T.b_l_mark .nil a0v (a0a (a0m a2f (mv 0) a0c) a0e)))) a0s) (a0g (a0n (a0k (a0i K rfl) (mv 2) (a0m a1d (a0m a2f (mv 0) a0c) a0c) (fun _ _=>rfl)))))),?_⟩
 rename_i c m p
 obtain ⟨ws,hw,hl,q⟩:=h
 have lst:∀ (H1:Hp) (K1:W.Frag) ,True:=fun _ _=>trivial
 (with_reducible refine a2k (fun σ' H'=>σ' = [some (.int c),some (.int m),some (.ref p)]/\H' = H) (fun σ' H' hP=>?_) (fun k=>?_))
 rotate_left
 ·walk_at "stm"
  refine iteB (fun e=>?_) (fun e=>?_)
  ·walk_at "stm"
   refine iteB (fun e1=>?_) (fun e1=>?_)
   ·walk_at "stm"
    exact q _ _ (Same.refl H)
   ·walk_at "stm"
    exact k _ _ ⟨rfl,rfl⟩
  ·refine iteF ?_
   walk_at "stm"
   exact k _ _ ⟨rfl,rfl⟩
 obtain ⟨rfl,rfl⟩:=hP
 (with_reducible refine a2k (fun σ' H1=>σ' = [some (.int c),some (.int m),some (.ref p)]/\H1 = H') (fun σ' H1 hP=>?_) (fun k=>?_))
 rotate_left
 ·walk_at "stm"
  refine iteB (fun e=>?_) (fun e=>?_)
  ·walk_at "stm"
   refine iteB (fun e1=>?_) (fun e1=>?_)
   ·walk_at "stm"
    intro z
    exact q _ _ (Same.refl _)
   ·(with_reducible refine a8h ?_)
    exact k _ _ ⟨rfl,rfl⟩
  ·refine iteF ?_
   (with_reducible refine a8h ?_)
   exact k _ _ ⟨rfl,rfl⟩
 obtain ⟨rfl,rfl⟩:=hP
 walk_at "stp"
 have b1:=Int.emod_nonneg (c / 4) (show (4:Int) ≠ 0 by decide)
 have b2:=Int.emod_lt_of_pos (c / 4) (show (0:Int) < 4 by decide)
 obtain ⟨z,hz⟩:=b2c (ws:=ws) b1 (by rw [hl]; exact b2)
 refine a1b (SqL.of hw) hz ?_
 exact q _ _ (Same.refl _)
theorem c5a (T:Txt K mg t) (G_l_next:FnOk P w K mg base CX0 1 t.a_l_next t.d_l_next ["_law_left"] (a3o)) (G_l_sign:FnOk P w K mg base CX0 2 t.a_l_sign t.d_l_sign ["_law_cell","_law_many","_law_words_here"] (a7u)) (G_l_number:FnOk P w K mg base CX0 1 t.a_l_number t.d_l_number ["_law_cell"] (a4w)) (G_l_parts:FnOk P w K mg base CX0 42 t.a_l_parts t.d_l_parts ["_law_term_here"] (a2p K 41)) (n:Nat) (G_l_term:FnOk P w K mg base CX0 (n + 42) t.a_l_term t.d_l_term ["_law_left","_law_room","_law_words_here"] (a4k K n)):FnOk P w K mg base CX0 (n + 42 + 1) t.a_l_term t.d_l_term ["_law_left","_law_room","_law_words_here"] (a4k K (n + 1)):=by
 refine T.F_l_term.ok (k:=n + 42) a3b (fun vs H Q E h=>?_) (fun cdv A outer s H vs Q E hr h=>?_)
 ·unfold a4k at h
  split at h
  ·rfl
  ·exact h.elim
 unfold a4k at h
 split at h
 rotate_left
 ·exact h.elim
 refine ⟨_,(a0d (a0r (i:=3) (hs:=a1h) a3b.nd rfl (by walk_at "or1") (a0z G_l_next (hr.mono (by first | decide | omega)) rfl T.m_l_next T.F_l_next.kp T.b_l_next .nil a0v (a0a (mv 0) a0e))) (a0d (a0r (i:=4) (hs:=a3h) a3b.nd rfl (by walk_at "or1") (a0m a1d (mv 3) a0c)) (a0d (a0r (i:=3) (hs:=a3h) a3b.nd rfl (by walk_at "or1") (a0m a2f (mv 3) a0c)) (a0d (a0y (a0q a1e (mv 4) a0c (a0p _)) (a0g (a0n (a1c (a0a a0o (a0a (a0k (a0i K rfl) (a2b (a0a a0o (a0a a0o (a0a a0o a0e)))) (a0m a1d (mv 3) a0c) (fun _ _=>rfl)) a0e))))) a0s) (a0d (a0y (a0q a1e (mv 4) a0c (a0p _)) (a0g (a0n (a1c (a0a a0o (a0a (a0z G_l_number (hr.mono (by first | decide | omega)) rfl T.m_l_number T.F_l_number.kp T.b_l_number .nil a0v (a0a (mv 3) a0e)) a0e))))) a0s) (a0d (a0y (PW.pt (pw_or (a0q a1e (mv 4) a0c (a0p _)) (b6e (a0q mo_lt (mv 1) a0c (a0p _))))) (a0g (a0n (a1c (a0a a0o (a0a (a0k (a0i K rfl) (a0m (a1g K rfl) (mv 2) (a2b (a0a a0o a0e))) (a0m a1d (mv 3) a0c) (fun _ _=>rfl)) (a0a (a1c a0e) a0e)))))) a0s) (a0d (a0r (i:=5) (hs:=a1h) a3b.nd rfl (by walk_at "or1") (a1i (c3k rfl) rfl T.n_min boot_min (a0a (a0k (a0i K rfl) (a2b (a0a a0c (a0a a0c (a0a a0c (a0a a0c (a0a a0c a0e)))))) (a0m a1d (mv 3) a0c) (fun _ _=>rfl)) (a0a (a0m a2r (mv 1) a0c) a0e)))) (a0d (a0r (i:=6) (hs:=a9u) a3b.nd rfl (by walk_at "or1") (a2b a0e)) (a0d (a0r (i:=1) (hs:=a3h) a3b.nd rfl (by walk_at "or1") (a0m a2r (mv 1) a0c)) (a0d (a4a PassesOwn.never rfl (a4f rfl T.n_range (a0a (mv 5) a0e)) (a3e (i:=7) a3b.nd rfl (by walk_at "or1")) (a0d (a0r (i:=8) (hs:=a1h) a3b.nd rfl (by walk_at "or1") (a0z G_l_term (hr.mono (by first | decide | omega)) rfl T.m_l_term T.F_l_term.kp T.b_l_term .nil a0v (a0a (mv 0) (a0a (a0m a2r (mv 1) (a0m a2r (a0m a2r (mv 5) a0c) (mv 7))) (a0a (mv 2) a0e))))) (a0d (a0r (i:=1) (hs:=a3h) a3b.nd rfl (by walk_at "or1") (a0m a2r (mv 1) (a0z G_l_parts (hr.mono (by first | decide | omega)) rfl T.m_l_parts T.F_l_parts.kp T.b_l_parts .nil a0v (a0a (mv 8) a0e)))) (a0g (a4v (a7k K rfl F.plainAttrs_list F.slot_list_append F.type_list_append a7o (mv 6) (a0a (mv 8) a0e))))))) (a0g (a0n (a1c (a0a a0o (a0a (a0z G_l_sign (hr.mono (by first | decide | omega)) rfl T.m_l_sign T.F_l_sign.kp T.b_l_sign .nil a0v (a0a (a0m a2f (mv 3) a0c) (a0a (mv 5) (a0a (mv 2) a0e)))) (a0a (a2h (a7c K rfl) rfl T.n_tuple boot_tuple (a0a (mv 6) a0e)) a0e)))))))))))))))),?_⟩
 rename_i p room wp
 obtain ⟨ns,ws,hpw,hp,hw,hwl,h1,h2,hn,q⟩:=h
 walk_at "stp"
 refine ⟨ns,hp,fun v ns1 H1 b1 f1 hp1=>?_⟩
 have hw1:=b1 _ _ (Ne.symm hpw) hw
 walk_at "stp"
 refine iteB (fun e=>?_) (fun e=>?_)
 ·walk_at "stp"
  refine ⟨ln (by show 3<=100000; decide),fun p1 hp1'=>?_⟩
  walk_at "stp"
  have b5:=Int.emod_nonneg (v / 8) (show (3:Int) ≠ 0 by decide)
  have b6:=Int.emod_lt_of_pos (v / 8) (show (0:Int) < 3 by decide)
  obtain ⟨z,hz⟩:=b2c (ws:=yNs) b5 b6
  refine a1b (SqL.of a0b) hz ?_
  walk_at "stp"
  refine ⟨ln (by show 2<=100000; decide),fun r hr=>?_⟩
  have s3:=(a0f hp1' (.lst (["Y","Y1","U1"].map fun z=>V.str (Str.ofString z)))).trans (a0f hr (.tup [.str anyS,.str z]))
  exact q r _ (.any z) ns1 (b1.trans s3.but) (fun b hb=>f1 b (s3.free hb)) (s3 _ _ hp1) (a8i (SqT.of a0b)) (by simp only [Trm.size]; omega) (by rw [ar4]; trivial) (fun x hx=>by rw [Occ] at hx; rw [<- hx]; obtain ⟨y,h1,h2⟩:=List.mem_map.mp (a9o hz); cases h2; exact h1)
 walk_at "stp"
 refine iteB (fun e1=>?_) (fun e1=>?_)
 ·walk_at "stp"
  intro x
  walk_at "stp"
  refine ⟨ln (by show 2<=100000; decide),fun r hr=>?_⟩
  have s3:=a0f hr (.tup [.str numS,.int x])
  exact q r _ (.num x) ns1 (b1.trans s3.but) (fun b hb=>f1 b (s3.free hb)) (s3 _ _ hp1) (a9r (SqT.of a0b)) (by simp only [Trm.size]; omega) (by rw [ar4]; trivial) (fun x hx=>by rw [Occ] at hx; exact hx.elim)
 walk_at "stp"
 refine iteB (fun e2=>?_) (fun e2=>?_)
 ·refine iteT ?_
  walk_at "stp"
  refine ⟨ln (by show 1<=100000; decide),fun p1 hp1'=>?_⟩
  have t1:Same H1 (upd H1 p1 (.lst (["[]"].map fun z=>V.str (Str.ofString z)))):=a0f hp1' _
  refine c3n (t1 _ _ hw1) a0b (by rw [List.length_map,hwl]; exact ln (by decide)) fun p2 hp2=>?_
  walk_at "stp"
  have b5:=Int.emod_nonneg (v / 8) (show (5:Int) ≠ 0 by decide)
  have b6:=Int.emod_lt_of_pos (v / 8) (show (0:Int) < 5 by decide)
  obtain ⟨z,hz⟩:=b2c (ws:=ws ++ ["[]"].map Str.ofString) b5 (by rw [List.length_append,hwl]; exact b6)
  rw [List.map_append] at hz
  refine a1b (SqL.of a0b) hz ?_
  walk_at "stp"
  refine ⟨ln (by show 0<=100000; decide),fun p3 hp3=>?_⟩
  walk_at "stp"
  refine ⟨ln (by show 3<=100000; decide),fun r hr=>?_⟩
  have s3:=t1.trans ((a0f hp2 _).trans ((a0f hp3 (.tup [])).trans (a0f hr (.tup [.str appS,.str z,.ref p3]))))
  refine q r _ (.app z []) ns1 (b1.trans s3.but) (fun b hb=>f1 b (s3.free hb)) (s3 _ _ hp1) (a1v (SqT.of a0b) ((a0f hr _).tup (SqT.of a0b)) .nil) ?_ (by rw [ar4,ar4L]; exact ⟨Nat.zero_le _,trivial⟩) (fun x hx=>by rw [Occ,OccL] at hx; exact hx.elim)
  simp only [Trm.size,Trm.sizeL]
  omega
 walk_at "stp"
 refine iteB (fun e3=>?_) (fun e3=>?_)
 ·skip
  walk_at "stp"
  refine ⟨ln (by show 1<=100000; decide),fun p1 hp1'=>?_⟩
  have t1:Same H1 (upd H1 p1 (.lst (["[]"].map fun z=>V.str (Str.ofString z)))):=a0f hp1' _
  refine c3n (t1 _ _ hw1) a0b (by rw [List.length_map,hwl]; exact ln (by decide)) fun p2 hp2=>?_
  walk_at "stp"
  have b5:=Int.emod_nonneg (v / 8) (show (5:Int) ≠ 0 by decide)
  have b6:=Int.emod_lt_of_pos (v / 8) (show (0:Int) < 5 by decide)
  obtain ⟨z,hz⟩:=b2c (ws:=ws ++ ["[]"].map Str.ofString) b5 (by rw [List.length_append,hwl]; exact b6)
  rw [List.map_append] at hz
  refine a1b (SqL.of a0b) hz ?_
  walk_at "stp"
  refine ⟨ln (by show 0<=100000; decide),fun p3 hp3=>?_⟩
  walk_at "stp"
  refine ⟨ln (by show 3<=100000; decide),fun r hr=>?_⟩
  have s3:=t1.trans ((a0f hp2 _).trans ((a0f hp3 (.tup [])).trans (a0f hr (.tup [.str appS,.str z,.ref p3]))))
  refine q r _ (.app z []) ns1 (b1.trans s3.but) (fun b hb=>f1 b (s3.free hb)) (s3 _ _ hp1) (a1v (SqT.of a0b) ((a0f hr _).tup (SqT.of a0b)) .nil) ?_ (by rw [ar4,ar4L]; exact ⟨Nat.zero_le _,trivial⟩) (fun x hx=>by rw [Occ,OccL] at hx; exact hx.elim)
  simp only [Trm.size,Trm.sizeL]
  omega
 have hr2:=of_decide_eq_false e3
 walk_at "stp"
 have b5:=Int.emod_nonneg (v / 8) (show (5:Int) ≠ 0 by decide)
 have b6:=Int.emod_lt_of_pos (v / 8) (show (0:Int) < 5 by decide)
 obtain ⟨y,hy⟩:=b8i (ws:=[2,1,2,3,4]) b5 b6
 have hy4:1<=y/\y<=4:=by
  have:=a9o hy
  simp at this
  omega
 refine ⟨ln (by show 5<=100000; decide),fun p5 hp5=>?_⟩
 have s5:Same H1 (upd H1 p5 (.lst [V.int 2,V.int 1,V.int 2,V.int 3,V.int 4])):=a0f hp5 _
 have k5:(upd H1 p5 (.lst [V.int 2,V.int 1,V.int 2,V.int 3,V.int 4])) p5 = some (.lst [V.int 2,V.int 1,V.int 2,V.int 3,V.int 4]):=a0b
 have b1:=b1.trans s5.but
 have f1:∀ b,(upd H1 p5 (.lst [V.int 2,V.int 1,V.int 2,V.int 3,V.int 4])) b = none->H b = none:=fun b hb=>f1 b (s5.free hb)
 have hw1:=s5 _ _ hw1
 have hp1:=s5 _ _ hp1
 walk_at "stp"
 refine a1b (SqL.of k5) hy ?_
 generalize upd H1 p5 (.lst [V.int 2,V.int 1,V.int 2,V.int 3,V.int 4]) = H1 at b1 f1 hw1 hp1 ⊢
 walk_at "stp"
 obtain ⟨m,hm,hm1,hm4,hmr⟩:∃ m:Int,(if room - 1 < y then room - 1 else y) = m/\1<=m/\m<=4/\m<=room - 1:=⟨_,rfl,by split <;> omega⟩
 rw [hm]
 refine ⟨ln (by show 0<=100000; decide),fun pk hpk=>?_⟩
 walk_at "stp"
 refine ⟨m,rfl,by omega,by omega,?_⟩
 have hpk0:H pk = none:=f1 _ hpk
 have npk:pk ≠ p:=fun z=>by subst z; rw [hp1] at hpk; cases hpk
 have nwk:wp ≠ pk:=fun z=>by subst z; rw [hw1] at hpk; cases hpk
 have sk:Same H1 (upd H1 pk (.lst [])):=a0f hpk _
 refine a3f (a4g 0 m.toNat) (fun i σ' H'=>∃ (o7 o8:Option V) (us:List V) (ks:List Trm) (ns':List Int) (rm:Int),σ' = [some (.ref p),some (.int rm),some (.ref wp),some (.int (v / 8)),some (.int (v % 8)),some (.int m),some (.ref pk),o7,o8]/\H' pk = some (.lst us)/\DenL K H' us (Trm.dataL ks)/\ks.length = i/\rm + (Trm.sizeL ks:Int) = room - 1/\m - (i:Int)<=rm/\H' p = some (.lst (ns'.map V.int))/\H' wp = some (.lst (ws.map V.str))/\But p H H'/\(∀ b,H' b = none->H b = none)/\ar4L ks/\(∀ x,OccL x ks->x ∈ yNs)) ⟨none,none,[],[],ns1,_,rfl,a0b,.nil,rfl,by simp only [Trm.sizeL]; omega,by simpa using hmr,sk _ _ hp1,sk _ _ hw1,b1.trans sk.but,fun b hb=>f1 b (sk.free hb),by rw [ar4L]; trivial,fun x hx=>by rw [OccL] at hx; exact hx.elim⟩ (fun _ _ _ _=>trivial) (fun i σ' H' hi hP=>?_) (fun σ' H' hP=>?_)
 ·obtain ⟨o7,o8,us,ks,ns',rm,rfl,j1,j2,j3,j4,j5,j6,j7,j8,j9,ja,jy⟩:=hP
  walk_at "stp"
  refine ⟨ns',ws,hpw,j6,j7,hwl,by omega,by omega,by omega,fun r H2 t2 ns2 b2 f2 hp2 hd2 hsz ha2 hy2=>?_⟩
  walk_at "stp"
  have tp:=t2.size_pos
  refine ⟨t2,hd2,by omega,by decide,fun H3 s3=>?_⟩
  walk_at "stp"
  have hk3:H3 pk = some (.lst us):=s3 _ _ (b2 _ _ npk j1)
  refine ⟨.inl ⟨rfl,_,SqL.of hk3⟩,?_⟩
  walk_at "stp"
  have l1:=j2.length
  rw [Trm.dataL_map,List.length_map] at l1
  refine a6k hk3 (ln1 (by omega)) ?_
  refine ⟨_,_,us ++ [.ref r],ks ++ [t2],ns2,rm - (t2.size:Int),rfl,a0b,?_,by rw [List.length_append,j3]; rfl,?_,?_,?_,?_,?_,?_,?_,?_⟩
  ·rw [Trm.dataL_map,List.map_append,<- Trm.dataL_map]
   exact (((b2.denL j6 j2).mono s3).append (.cons (hd2.mono s3) .nil)).lst hk3
  ·rw [Trm.sizeL_app]
   simp only [Trm.sizeL]
   omega
  ·omega
  ·rw [a0j (Ne.symm npk)]
   exact s3 _ _ hp2
  ·rw [a0j nwk]
   exact s3 _ _ (b2 _ _ (Ne.symm hpw) j7)
  ·exact but_own ((j8.trans b2).trans s3.but) hpk0
  ·intro b hb
   refine j9 b (f2 b (s3.free ?_))
   by_cases z:b = pk
   ·subst z; rw [a0b] at hb; cases hb
   ·rwa [a0j z] at hb
  ·refine a1w.mpr fun t ht=>?_
   rcases List.mem_append.mp ht with z | z
   ·exact a1w.mp ja t z
   ·rw [List.mem_singleton.mp z]; exact ha2
  ·intro x hx
   obtain ⟨t,ht,ho⟩:=a1s.mp hx
   rcases List.mem_append.mp ht with z | z
   ·exact jy x (a1s.mpr ⟨t,z,ho⟩)
   ·rw [List.mem_singleton.mp z] at ho; exact hy2 x ho
 ·obtain ⟨o7,o8,us,ks,ns',rm,rfl,j1,j2,j3,j4,j5,j6,j7,j8,j9,ja,jy⟩:=hP
  walk_at "stp"
  refine ⟨ws,j7,hwl,fun z H3 s3=>?_⟩
  walk_at "stp"
  refine a9p (SqL.of (s3 _ _ j1)) fun b hb=>?_
  walk_at "stp"
  refine ⟨ln (by show 3<=100000; decide),fun r hr=>?_⟩
  have s4:=s3.trans ((a0f hb (.tup us)).trans (a0f hr (.tup [.str appS,.str z,.ref b])))
  refine q r _ (.app z ks) ns' (j8.trans s4.but) (fun b hb=>j9 b (s4.free hb)) (s4 _ _ j6) (a1v (SqT.of a0b) ((a0f hr _).tup (SqT.of a0b)) (j2.mono s4)) ?_ (by rw [ar4]; exact ⟨by omega,ja⟩) (fun x hx=>by rw [Occ] at hx; exact jy x hx)
  simp only [Trm.size]
  omega
theorem c5b (T:Txt K mg t) (G_l_next:FnOk P w K mg base CX0 1 t.a_l_next t.d_l_next ["_law_left"] (a3o)) (G_l_sign:FnOk P w K mg base CX0 2 t.a_l_sign t.d_l_sign ["_law_cell","_law_many","_law_words_here"] (a7u)) (G_l_number:FnOk P w K mg base CX0 1 t.a_l_number t.d_l_number ["_law_cell"] (a4w)) (G_l_parts:FnOk P w K mg base CX0 42 t.a_l_parts t.d_l_parts ["_law_term_here"] (a2p K 41)) (n:Nat):FnOk P w K mg base CX0 (n + 42) t.a_l_term t.d_l_term ["_law_left","_law_room","_law_words_here"] (a4k K n):=by
 induction n with
 | zero=>
  have no:∀ vs H Q E,(a4k K 0) vs H Q E->False:=fun vs H Q E h=>by
   unfold a4k at h
   split at h
   ·exact c4v h
   ·exact h
  exact ⟨fun vs H Q E h=>(no vs H Q E h).elim,fun A outer s H args us vs Q E _ _ _ _ h=>(no vs H Q E h).elim⟩
 | succ n ih=>
  have e:n + 1 + 42 = n + 42 + 1:=by omega
  rw [e]
  exact c5a T G_l_next G_l_sign G_l_number G_l_parts n ih
end
noncomputable abbrev Vw:=List (Str × Trm)
noncomputable def lkV:Vw->Str->Option Trm
 | [],_=>none
 | r :: rs,x=>if r.1 = x then some r.2 else lkV rs x
noncomputable def vf (rs:Vw) (x:Str):Trm:=(lkV rs x).getD (.any x)
theorem lkV_app {rs:Vw} {x:Str} {t:Trm} (c:Vw) (h:lkV rs x = some t):lkV (rs ++ c) x = some t:=by
 induction rs with
 | nil=>cases h
 | cons r rs ih=>
  rw [List.cons_append,lkV]
  rw [lkV] at h
  by_cases e:r.1 = x
  ·rw [if_pos e] at h ⊢; exact h
  ·rw [if_neg e] at h ⊢; exact ih h
theorem b4u {rs:Vw} {x y:Str} {t:Trm} (h:lkV rs x = none):lkV (rs ++ [(x,t)]) y = if y = x then some t else lkV rs y:=by
 induction rs with
 | nil=>
  show (if x = y then some t else none) = _
  by_cases e:x = y
  ·rw [if_pos e,if_pos e.symm]
  ·rw [if_neg e,if_neg (fun z=>e z.symm)]; rfl
 | cons r rs ih=>
  rw [lkV] at h
  by_cases e:r.1 = x
  ·rw [if_pos e] at h; cases h
  ·rw [if_neg e] at h
   rw [List.cons_append,lkV,lkV,ih h]
   by_cases e2:r.1 = y
   ·rw [if_pos e2,if_pos e2,if_neg (fun z=>e (by rw [e2,z]))]
   ·rw [if_neg e2,if_neg e2]
inductive VR (K:W.Frag) (H:Hp):List (Key × V)->Vw->Prop where
 | nil:VR K H [] []
 | cons {x:Str} {v:V} {t:Trm} {kvs:List (Key × V)} {rs:Vw}:Den K H v t.data->VR K H kvs rs->VR K H ((Sum.inr x,v) :: kvs) ((x,t) :: rs)
section
variable {K:W.Frag} {H H':Hp} {kvs:List (Key × V)} {rs:Vw}
theorem VR.monoT (h:VR K H kvs rs) (ht:∀ a xs,SqT K H a xs->SqT K H' a xs):VR K H' kvs rs:=by
 induction h with
 | nil=>exact .nil
 | cons d _ ih=>exact .cons (d.monoT ht) ih
theorem VR.len (h:VR K H kvs rs):kvs.length = rs.length:=by
 induction h with
 | nil=>rfl
 | cons _ _ ih=>rw [List.length_cons,List.length_cons,ih]
theorem VR.val (h:VR K H kvs rs) (x:Str):(valV kvs (Sum.inr x) = none/\lkV rs x = none)\/∃ v t,valV kvs (Sum.inr x) = some v/\lkV rs x = some t/\Den K H v t.data:=by
 induction h with
 | nil=>exact .inl ⟨rfl,rfl⟩
 | @cons y v t kvs rs d _ ih=>
  by_cases e:y = x
  ·exact .inr ⟨v,t,a2c (by rw [e]),by rw [lkV,if_pos e],d⟩
  ·rw [a2d (fun z=>e (Sum.inr.inj z)),lkV,if_neg e]; exact ih
theorem VR.key (h:VR K H kvs rs) {i:Nat} (hi:i < kvs.length):∃ x v,kvs[i]? = some (Sum.inr x,v)/\(lkV rs x).isSome = true:=by
 induction h generalizing i with
 | nil=>simp at hi
 | @cons y v t kvs rs d _ ih=>
  cases i with
  | zero=>exact ⟨y,v,rfl,by rw [lkV,if_pos rfl]; rfl⟩
  | succ i=>
   obtain ⟨x,u,e1,e2⟩:=ih (i:=i) (by simpa using hi)
   refine ⟨x,u,by simpa using e1,?_⟩
   rw [lkV]
   by_cases e:y = x
   ·rw [if_pos e]; rfl
   ·rw [if_neg e]; exact e2
theorem VR.snoc (h:VR K H kvs rs) {x:Str} {v:V} {t:Trm} (d:Den K H v t.data):VR K H (kvs ++ [(Sum.inr x,v)]) (rs ++ [(x,t)]):=by
 induction h with
 | nil=>exact .cons d .nil
 | cons e _ ih=>exact .cons e ih
theorem VR.new (h:VR K H kvs rs) {x:Str} {v:V} {t:Trm} (d:Den K H v t.data) (hn:valV kvs (Sum.inr x) = none):VR K H (putK kvs (Sum.inr x) v) (rs ++ [(x,t)]):=by
 rw [a7a _ hn]; exact h.snoc d
end
noncomputable abbrev xN (n:Nat):Str:=Str.ofString "X" ++ tn n
theorem x_not_y:∀ n,n < 6->xN n ∉ yNs
 | 0,_=>by decide +kernel
 | 1,_=>by decide +kernel
 | 2,_=>by decide +kernel
 | 3,_=>by decide +kernel
 | 4,_=>by decide +kernel
 | 5,_=>by decide +kernel
 | n + 6,h=>by omega
structure VOk (rs:Vw):Prop where
 key:∀ x,(lkV rs x).isSome = true->∃ n,n < 6/\x = xN n
 ok:∀ x t,lkV rs x = some t->t.size<=40
theorem VOk.y {rs:Vw} (h:VOk rs) {y:Str} (hy:y ∈ yNs):lkV rs y = none:=by
 cases e:lkV rs y with
 | none=>rfl
 | some t=>
  obtain ⟨n,hn,rfl⟩:=h.key y (by rw [e]; rfl)
  exact absurd hy (x_not_y n hn)
noncomputable def VEx (rs rs':Vw):Prop:=∀ x t,lkV rs x = some t->lkV rs' x = some t
theorem VEx.refl (rs:Vw):VEx rs rs:=fun _ _ h=>h
theorem VEx.trans {a b c:Vw} (h:VEx a b) (k:VEx b c):VEx a c:=fun x t e=>k x t (h x t e)
structure Dug (rs:Vw) (t t':Trm):Prop where
 occ:∀ y,Occ y t'->y ∈ yNs\/(lkV rs y).isSome = true
 eq:sb (vf rs) t' = t
theorem Dug.more {rs rs':Vw} {t t':Trm} (d:Dug rs t t') (e:VEx rs rs') (k:VOk rs) (k':VOk rs'):Dug rs' t t':=by
 refine ⟨fun y hy=>?_,?_⟩
 ·rcases d.occ y hy with z | z
  ·exact .inl z
  ·obtain ⟨u,hu⟩:=Option.isSome_iff_exists.mp z
   exact .inr (by rw [e y u hu]; rfl)
 ·rw [<- d.eq]
  refine b3v fun y hy=>?_
  unfold vf
  rcases d.occ y hy with z | z
  ·rw [k.y z,k'.y z]
  ·obtain ⟨u,hu⟩:=Option.isSome_iff_exists.mp z
   rw [e y u hu,hu]
noncomputable def DugL (rs:Vw) (ts ts':List Trm):Prop:=(∀ y,OccL y ts'->y ∈ yNs\/(lkV rs y).isSome = true)/\sbL (vf rs) ts' = ts
theorem DugL.more {rs rs':Vw} {ts ts':List Trm} (d:DugL rs ts ts') (e:VEx rs rs') (k:VOk rs) (k':VOk rs'):DugL rs' ts ts':=by
 have h:Dug rs (.app appS ts) (.app appS ts'):=⟨fun y hy=>d.1 y (by rw [Occ] at hy; exact hy),by rw [sb,d.2]⟩
 have h2:=h.more e k k'
 refine ⟨fun y hy=>h2.occ y (by rw [Occ]; exact hy),?_⟩
 have:=h2.eq
 rw [sb] at this
 injection this
theorem DugL.snoc {rs:Vw} {ts ts':List Trm} {t t':Trm} (d:DugL rs ts ts') (k:Dug rs t t'):DugL rs (ts ++ [t]) (ts' ++ [t']):=by
 refine ⟨fun y hy=>?_,by rw [a3l,List.map_append,<- a3l,d.2]; show _ ++ [sb (vf rs) t'] = _; rw [k.eq]⟩
 obtain ⟨u,hu,ho⟩:=a1s.mp hy
 rcases List.mem_append.mp hu with z | z
 ·exact d.1 y (a1s.mpr ⟨u,z,ho⟩)
 ·rw [List.mem_singleton.mp z] at ho; exact k.occ y ho
noncomputable def P2 (p d:Addr) (H H':Hp):Prop:=∀ b o,b ≠ p->b ≠ d->H b = some o->H' b = some o
theorem P2.refl (p d:Addr) (H:Hp):P2 p d H H:=fun _ _ _ _ e=>e
theorem P2.trans {p d:Addr} {H H1 H2:Hp} (a:P2 p d H H1) (b:P2 p d H1 H2):P2 p d H H2:=fun c o h1 h2 e=>b c o h1 h2 (a c o h1 h2 e)
theorem P2.of {p d:Addr} {H H':Hp} (s:Same H H'):P2 p d H H':=fun b o _ _ e=>s b o e
theorem P2.but {p d:Addr} {H H':Hp} (s:But p H H'):P2 p d H H':=fun b o h _ e=>s b o h e
theorem P2.tup {K:W.Frag} {p d:Addr} {H H':Hp} {ys:List V} {kv:List (Key × V)} (f:P2 p d H H') (h1:H p = some (.lst ys)) (h2:H d = some (.dK kv)):∀ a xs,SqT K H a xs->SqT K H' a xs:=fun a xs q=>by
 rcases q with (q | ⟨o,q⟩) | q
 ·exact .inl (.inl (f _ _ (fun z=>by rw [z,h1] at q; cases q) (fun z=>by rw [z,h2] at q; cases q) q))
 ·exact .inl (.inr ⟨o,f _ _ (fun z=>by rw [z,h1] at q; cases q) (fun z=>by rw [z,h2] at q; cases q) q⟩)
 ·exact .inr q
noncomputable abbrev a5l (K:W.Frag) (n:Nat):Sp:=fun vs H Q _=>match vs with | [v,.ref p,.ref d]=>∃ (t:Trm) (ns:List Int) (kvs:List (Key × V)) (rs:Vw) (m:Nat),Den K H v t.data/\H p = some (.lst (ns.map V.int))/\H d = some (.dK kvs)/\VR K H kvs rs/\VOk rs/\rs.length<=m/\m + t.size<=1000/\t.size<=n/\n<=40/\ar4 t/\Ys t/\∀ (x:V) (t':Trm) (ns':List Int) (kvs':List (Key × V)) (rs':Vw) (H':Hp),P2 p d H H'->H' p = some (.lst (ns'.map V.int))->H' d = some (.dK kvs')->VR K H' kvs' rs'->VOk rs'->VEx rs rs'->rs'.length<=m + t.size->Den K H' x t'.data->t'.size<=t.size->ar4 t'->Dug rs' t t'->Q x H' | _=>False
theorem c7a {K:W.Frag} {H:Hp} {v:V} {p d:Addr} {R:Trm->List Int->List (Key × V)->Vw->Nat->Prop} (h:∃ (t:Trm) (ns:List Int) (kvs:List (Key × V)) (rs:Vw) (m:Nat),Den K H v t.data/\H p = some (.lst (ns.map V.int))/\H d = some (.dK kvs)/\VR K H kvs rs/\VOk rs/\rs.length<=m/\m + t.size<=1000/\t.size<=0/\R t ns kvs rs m):False:=by
 obtain ⟨t,_,_,_,_,_,_,_,_,_,_,_,z,_⟩:=h
 have:=t.size_pos
 omega
noncomputable abbrev a3c (K:W.Frag) (n:Nat):Sp:=fun vs H Q _=>match vs with | [v,.ref d]=>∃ (t:Trm) (kvs:List (Key × V)) (rs:Vw),Den K H v t.data/\H d = some (.dK kvs)/\VR K H kvs rs/\t.size<=n/\n<=60/\∀ (v':V) (H':Hp),Same H H'->Den K H' v' (sb (vf rs) t).data->Q v' H' | _=>False
theorem b9j {K:W.Frag} {H:Hp} {v:V} {d:Addr} {R:Trm->List (Key × V)->Vw->Prop} (h:∃ (t:Trm) (kvs:List (Key × V)) (rs:Vw),Den K H v t.data/\H d = some (.dK kvs)/\VR K H kvs rs/\t.size<=0/\R t kvs rs):False:=by
 obtain ⟨t,_,_,_,_,_,z,_⟩:=h
 have:=t.size_pos
 omega
noncomputable def b0r:Trm->Bool
 | .any _=>true
 | _=>false
noncomputable def tky:Trm->List Key
 | .num n=>[.inr numS,.inl n]
 | .app s ks=>[.inr appS,.inr s,.inl (ks.length:Int)]
 | .any _=>[]
theorem b3x {f:Str->Trm}:∀ {t:Trm},b0r t = false->tky (sb f t) = tky t
 | .num n,_=>by rw [sb]
 | .any x,h=>by cases h
 | .app s ks,_=>by rw [sb,tky,tky,a3l,List.length_map]
theorem c0o {t u:Trm} (ht:b0r t = false) (hu:b0r u = false) (h:tky t ≠ tky u):NoU t u:=fun f e=>h (by rw [<- b3x (f:=f) ht,e,b3x hu])
noncomputable def Com (t u:Trm):Prop:=∃ f,sb f t = sb f u
theorem Com.key {t u:Trm} (h:Com t u) (ht:b0r t = false) (hu:b0r u = false):tky t = tky u:=by
 obtain ⟨f,e⟩:=h
 rw [<- b3x (f:=f) ht,e,b3x hu]
theorem Com.app {s r:Str} {ks ls:List Trm} (h:Com (.app s ks) (.app r ls)):s = r/\ks.length = ls.length/\∀ (i:Nat) a b,ks[i]? = some a->ls[i]? = some b->Com a b:=by
 obtain ⟨f,e⟩:=h
 rw [sb,sb] at e
 injection e with e1 e2
 refine ⟨e1,?_,fun i a b ha hb=>⟨f,?_⟩⟩
 ·have:=congrArg List.length e2
  rwa [a3l,a3l,List.length_map,List.length_map] at this
 ·have:=congrArg (fun l:List Trm=>l[i]?) e2
  simp only [a3l,List.getElem?_map,ha,hb,Option.map_some,Option.some.injEq] at this
  exact this
theorem NoU.app {s r:Str} {ks ls:List Trm} {i:Nat} {a b:Trm} (ha:ks[i]? = some a) (hb:ls[i]? = some b) (h:NoU a b):NoU (.app s ks) (.app r ls):=fun f e=>by
 rw [sb,sb] at e
 injection e with e1 e2
 have:=congrArg (fun l:List Trm=>l[i]?) e2
 simp only [a3l,List.getElem?_map,ha,hb,Option.map_some,Option.some.injEq] at this
 exact h f this
theorem NoU.ring {x s:Str} {ks:List Trm} (h:OccL x ks):NoU (.any x) (.app s ks):=fun f e=>by
 have:=b1j (f:=f) h
 rw [sb,sb] at e
 rw [e,Trm.size] at this
 omega
noncomputable abbrev Wl (H:Hp) (wp:Addr) (ws:List Str):Prop:=H wp = some (.lst (ws.map V.str))/\ws.length = 4/\ws.Nodup
noncomputable abbrev a6y (K:W.Frag):Sp:=fun vs H Q _=>match vs with | [v,.int c,.ref wp]=>∃ (t:Trm) (ws:List Str),Den K H v t.data/\b0r t = false/\Wl H wp ws/\ar4 t/\t.size<=40/\∀ (r:Addr) (u:Trm) (H':Hp),Same H H'->Den K H' (.ref r) u.data->b0r u = false->tky u ≠ tky t->u.size<=t.size + 1->ar4 u->(∀ x,Occ x u->Occ x t)->Q (.ref r) H' | _=>False
noncomputable abbrev a2u (K:W.Frag) (n:Nat):Sp:=fun vs H Q _=>match vs with | [v1,v2,.ref p,.ref wp]=>∃ (t1 t2:Trm) (ns:List Int) (ws:List Str),Den K H v1 t1.data/\Den K H v2 t2.data/\Com t1 t2/\H p = some (.lst (ns.map V.int))/\Wl H wp ws/\p ≠ wp/\t1.size<=n/\n<=40/\ar4 t2/\t2.size<=40/\∀ (ns':List Int) (H':Hp),But p H H'->(∀ b,H' b = none->H b = none)->H' p = some (.lst (ns'.map V.int))->(Q .non H')/\∀ (r:Addr) (u:Trm),Den K H' (.ref r) u.data->NoU t1 u->u.size<=t2.size + 1->ar4 u->(∀ x,Occ x u->Occ x t2)->Q (.ref r) H' | _=>False
theorem b8j {K:W.Frag} {H:Hp} {v1 v2:V} {p wp:Addr} {R:Trm->Trm->List Int->List Str->Prop} (h:∃ (t1 t2:Trm) (ns:List Int) (ws:List Str),Den K H v1 t1.data/\Den K H v2 t2.data/\Com t1 t2/\H p = some (.lst (ns.map V.int))/\Wl H wp ws/\p ≠ wp/\t1.size<=0/\R t1 t2 ns ws):False:=by
 obtain ⟨t,_,_,_,_,_,_,_,_,_,z,_⟩:=h
 have:=t.size_pos
 omega
noncomputable abbrev a3d (K:W.Frag) (n:Nat):Sp:=fun vs H Q _=>match vs with | [v1,v2,.int c]=>∃ (t1 t2:Trm),Den K H v1 t1.data/\Den K H v2 t2.data/\Com t1 t2/\t1.size<=n/\n<=40/\ar4 t2/\t2.size<=40/\∀ (H':Hp),Same H H'->(Q .non H')/\∀ (r:Addr) (u:Trm),Den K H' (.ref r) u.data->NoU t1 u->u.size<=t2.size + 3->ar4 u->(∀ x,Occ x u->Occ x t1\/Occ x t2)->Q (.ref r) H' | _=>False
theorem b9k {K:W.Frag} {H:Hp} {v1 v2:V} {R:Trm->Trm->Prop} (h:∃ (t1 t2:Trm),Den K H v1 t1.data/\Den K H v2 t2.data/\Com t1 t2/\t1.size<=0/\R t1 t2):False:=by
 obtain ⟨t,_,_,_,_,z,_⟩:=h
 have:=t.size_pos
 omega
noncomputable abbrev Kn:=List (Str × Nat)
noncomputable def encP (kn:Kn):List (Key × V):=kn.map fun r=>(Sum.inr r.1,V.int (r.2:Int))
noncomputable def lkP:Kn->Str->Option Nat
 | [],_=>none
 | r :: kn,x=>if r.1 = x then some r.2 else lkP kn x
theorem a7g (x:Str):∀ kn:Kn,valV (encP kn) (Sum.inr x) = (lkP kn x).map fun a=>V.int (a:Int)
 | []=>rfl
 | r :: kn=>by
  by_cases e:r.1 = x
  ·rw [encP,List.map_cons,a2c (by rw [e]),lkP,if_pos e]; rfl
  ·rw [encP,List.map_cons,a2d (fun z=>e (Sum.inr.inj z)),lkP,if_neg e]; exact a7g x kn
theorem b8k {kn:Kn} {x:Str} {a:Nat} (c:Kn) (h:lkP kn x = some a):lkP (kn ++ c) x = some a:=by
 induction kn with
 | nil=>cases h
 | cons r kn ih=>
  rw [List.cons_append,lkP]
  rw [lkP] at h
  by_cases e:r.1 = x
  ·rw [if_pos e] at h ⊢; exact h
  ·rw [if_neg e] at h ⊢; exact ih h
theorem b3y {kn:Kn} {x y:Str} {a:Nat} (h:lkP kn x = none):lkP (kn ++ [(x,a)]) y = if y = x then some a else lkP kn y:=by
 induction kn with
 | nil=>
  show (if x = y then some a else none) = _
  by_cases e:x = y
  ·rw [if_pos e,if_pos e.symm]
  ·rw [if_neg e,if_neg (fun z=>e z.symm)]; rfl
 | cons r kn ih=>
  rw [lkP] at h
  by_cases e:r.1 = x
  ·rw [if_pos e] at h; cases h
  ·rw [if_neg e] at h
   rw [List.cons_append,lkP,lkP,ih h]
   by_cases e2:r.1 = y
   ·rw [if_pos e2,if_pos e2,if_neg (fun z=>e (by rw [e2,z]))]
   ·rw [if_neg e2,if_neg e2]
theorem put_new {kn:Kn} {x:Str} {a:Nat} (h:lkP kn x = none):putK (encP kn) (Sum.inr x) (.int (a:Int)) = encP (kn ++ [(x,a)]):=by
 rw [a7a _ (by rw [a7g,h]; rfl),encP,encP,List.map_append]; rfl
noncomputable def nm (kn:Kn) (t:Trm):Trm:=sb (fun x=>.any (bnm ((lkP kn x).getD 0))) t
noncomputable def vin (kn:Kn) (t:Trm):Prop:=∀ x,Occ x t->∃ a,lkP kn x = some a
theorem c0p {kn:Kn} (c:Kn) {t:Trm} (h:vin kn t):vin (kn ++ c) t:=fun x hx=>by obtain ⟨a,e⟩:=h x hx; exact ⟨a,b8k c e⟩
theorem c5c {kn:Kn} (c:Kn) {t:Trm} (h:vin kn t):nm (kn ++ c) t = nm kn t:=b3v fun x hx=>by
 obtain ⟨a,e⟩:=h x hx
 rw [b8k c e,e]
theorem a7h {bs:Bs} {a:Nat} {b:Bx} (c:Bs) (h:bs[a]? = some b):(bs ++ c)[a]? = some b:=by
 rw [List.getElem?_append_left (List.getElem?_eq_some_iff.mp h).1]; exact h
theorem End.more {bs:Bs} (c:Bs) {a e:Nat} (h:End bs a e):End (bs ++ c) a e:=by
 induction h with
 | here e n=>exact .here (a7h c e) n
 | step e _ ih=>exact .step (a7h c e) ih
mutual
theorem Rep.more {bs:Bs} (c:Bs):∀ {a:Nat} {t:Trm},Rep bs a t->Rep (bs ++ c) a t
 | a,.num n,h=>by rw [Rep] at h ⊢; obtain ⟨e,h1,h2⟩:=h; exact ⟨e,h1.more c,a7h c h2⟩
 | a,.any x,h=>by rw [Rep] at h ⊢; obtain ⟨e,h1,h2,h3⟩:=h; exact ⟨e,h1.more c,a7h c h2,h3⟩
 | a,.app s ts,h=>by
  rw [Rep] at h ⊢
  obtain ⟨e,ks,h1,h2,h3,h4⟩:=h
  exact ⟨e,ks,h1.more c,a7h c h2,h3,RepL.more c h4⟩
theorem RepL.more {bs:Bs} (c:Bs):∀ {ks:List Nat} {ts:List Trm},RepL bs ks ts->RepL (bs ++ c) ks ts
 | ks,[],h=>by rw [RepL] at h ⊢; exact h
 | ks,t :: ts,h=>by
  rw [RepL] at h ⊢
  obtain ⟨k,r,h1,h2,h3⟩:=h
  exact ⟨k,r,h1,Rep.more c h2,RepL.more c h3⟩
end
structure PSt (bs:Bs) (kn:Kn):Prop where
 ok:∀ x a,lkP kn x = some a->bs[a]? = some .free
 all:∀ a,bs[a]? = some .free->∃ x,lkP kn x = some a
 inj:∀ x y a,lkP kn x = some a->lkP kn y = some a->x = y
 low:∀ a b,Ed bs a b->b < a
 nto:∀ (a b:Nat),bs[a]? ≠ some (Bx.to b)
 ar:∀ (a:Nat) s ks,bs[a]? = some (.app s ks)->ks.length<=4
 nod:(kn.map (·.1)).Nodup
theorem PSt.nil:PSt [] []:=⟨fun x a h=>(by cases h),fun a h=>(by simp at h),fun x y a h=>(by cases h),fun a b h=>(by obtain ⟨u,e,_⟩:=h; simp at e),fun a b h=>(by simp at h),fun a s ks h=>(by simp at h),.nil⟩
theorem Ed.lt {bs:Bs} {a b:Nat} (h:Ed bs a b):a < bs.length:=by obtain ⟨u,e,_⟩:=h; exact (List.getElem?_eq_some_iff.mp e).1
theorem PSt.wf {bs:Bs} {kn:Kn} (p:PSt bs kn):Wf bs:=⟨fun a b h=>by have:=p.low a b h; have:=h.lt; omega,p.ar,id,p.low⟩
theorem a5m {bs:Bs} {b u:Bx} {a:Nat} (h:(bs ++ [b])[a]? = some u):bs[a]? = some u\/(a = bs.length/\u = b):=by
 by_cases z:a < bs.length
 ·rw [List.getElem?_append_left z] at h; exact .inl h
 ·have z1:=(List.getElem?_eq_some_iff.mp h).1
  rw [List.length_append,List.length_singleton] at z1
  have za:a = bs.length:=by omega
  subst za
  rw [List.getElem?_append_right (Nat.le_refl _),Nat.sub_self] at h
  cases h
  exact .inr ⟨rfl,rfl⟩
theorem PSt.box {bs:Bs} {kn:Kn} (p:PSt bs kn) {b:Bx} (h1:b.isFree = false) (h2:b.isTo = false) (h3:∀ k ∈ b.out,k < bs.length) (h4:b.out.length<=4):PSt (bs ++ [b]) kn:=by
 refine ⟨fun x a e=>a7h _ (p.ok x a e),fun a e=>?_,p.inj,fun a c e=>?_,fun a c e=>?_,fun a s ks e=>?_,p.nod⟩
 ·rcases a5m e with z | ⟨_,z⟩
  ·exact p.all a z
  ·rw [<- z] at h1; cases h1
 ·obtain ⟨u,e,m⟩:=e
  rcases a5m e with z | ⟨rfl,rfl⟩
  ·exact p.low a c ⟨u,z,m⟩
  ·exact h3 c m
 ·rcases a5m e with z | ⟨_,z⟩
  ·exact p.nto a c z
  ·rw [<- z] at h2; cases h2
 ·rcases a5m e with z | ⟨_,z⟩
  ·exact p.ar a s ks z
  ·rw [<- z] at h4; exact h4
theorem lk_key {kn:Kn} {x:Str} (h:lkP kn x = none):x ∉ kn.map (·.1):=by
 induction kn with
 | nil=>simp
 | cons r kn ih=>
  rw [lkP] at h
  by_cases e:r.1 = x
  ·rw [if_pos e] at h; cases h
  ·rw [if_neg e] at h
   rw [List.map_cons,List.mem_cons,not_or]
   exact ⟨fun z=>e z.symm,ih h⟩
theorem PSt.name {bs:Bs} {kn:Kn} (p:PSt bs kn) {x:Str} (h:lkP kn x = none):PSt (bs ++ [.free]) (kn ++ [(x,bs.length)]):=by
 have lt:∀ y a,lkP kn y = some a->a < bs.length:=fun y a e=>(List.getElem?_eq_some_iff.mp (p.ok y a e)).1
 refine ⟨fun y a e=>?_,fun a e=>?_,fun y z a e1 e2=>?_,fun a c e=>?_,fun a c e=>?_,fun a s ks e=>?_,?_⟩
 ·rw [b3y h] at e
  by_cases g:y = x
  ·rw [if_pos g] at e; cases e; simp
  ·rw [if_neg g] at e; exact a7h _ (p.ok y a e)
 ·rcases a5m e with z | ⟨rfl,_⟩
  ·obtain ⟨y,hy⟩:=p.all a z
   exact ⟨y,b8k _ hy⟩
  ·exact ⟨x,by rw [b3y h,if_pos rfl]⟩
 ·rw [b3y h] at e1 e2
  by_cases g:y = x
  ·by_cases g2:z = x
   ·rw [g,g2]
   ·rw [if_pos g] at e1; rw [if_neg g2] at e2; cases e1; have:=lt _ _ e2; omega
  ·by_cases g2:z = x
   ·rw [if_neg g] at e1; rw [if_pos g2] at e2; cases e2; have:=lt _ _ e1; omega
   ·rw [if_neg g] at e1; rw [if_neg g2] at e2; exact p.inj y z a e1 e2
 ·obtain ⟨u,e,m⟩:=e
  rcases a5m e with z | ⟨rfl,rfl⟩
  ·exact p.low a c ⟨u,z,m⟩
  ·cases m
 ·rcases a5m e with z | ⟨_,z⟩
  ·exact p.nto a c z
  ·cases z
 ·rcases a5m e with z | ⟨_,z⟩
  ·exact p.ar a s ks z
  ·cases z
 ·rw [List.map_append]
  refine List.nodup_append.mpr ⟨p.nod,by simp,fun a ha b hb=>?_⟩
  rw [List.map_singleton,List.mem_singleton] at hb
  exact fun z=>lk_key h (by rw [z,hb] at ha; exact ha)
theorem b0a {kn:Kn} (h:(kn.map (·.1)).Nodup):∀ {i:Nat} {r:Str × Nat},kn[i]? = some r->lkP kn r.1 = some r.2:=by
 induction kn with
 | nil=>intro i r e; simp at e
 | cons q kn ih=>
  intro i r e
  rw [List.map_cons,List.nodup_cons] at h
  cases i with
  | zero=>simp at e; rw [<- e,lkP,if_pos rfl]
  | succ i=>
   have e:kn[i]? = some r:=by simpa using e
   rw [lkP,if_neg (fun z=>h.1 ?_)]
   ·exact ih h.2 e
   ·rw [z]; exact List.mem_map.mpr ⟨r,List.mem_of_getElem? e,rfl⟩
noncomputable def P3 (pb pt d:Addr) (H H':Hp):Prop:=∀ b o,b ≠ pb->b ≠ pt->b ≠ d->H b = some o->H' b = some o
theorem P3.trans {pb pt d:Addr} {H H1 H2:Hp} (a:P3 pb pt d H H1) (b:P3 pb pt d H1 H2):P3 pb pt d H H2:=fun c o h1 h2 h3 e=>b c o h1 h2 h3 (a c o h1 h2 h3 e)
theorem P3.of {pb pt d:Addr} {H H':Hp} (s:Same H H'):P3 pb pt d H H':=fun b o _ _ _ e=>s b o e
theorem P3.hfr {pb pt d:Addr} {H H':Hp} (s:HFr pb pt H H'):P3 pb pt d H H':=fun b o h1 h2 _ e=>s b o h1 h2 e
theorem P3.tup {K:W.Frag} {C:Addr} {x pb pt d:Addr} {bs:Bs} {tr:List Nat} {H H':Hp} {kv:List (Key × V)} (f:P3 pb pt d H H') (w:HS K C H x pb pt bs tr) (h2:H d = some (.dK kv)):∀ a xs,SqT K H a xs->SqT K H' a xs:=fun a xs q=>by
 obtain ⟨us,h1,_⟩:=w.bx
 have h3:=w.trl
 rcases q with (q | ⟨o,q⟩) | q
 ·exact .inl (.inl (f _ _ (fun z=>by rw [z,h1] at q; cases q) (fun z=>by rw [z,h3] at q; cases q) (fun z=>by rw [z,h2] at q; cases q) q))
 ·exact .inl (.inr ⟨o,f _ _ (fun z=>by rw [z,h1] at q; cases q) (fun z=>by rw [z,h3] at q; cases q) (fun z=>by rw [z,h2] at q; cases q) q⟩)
 ·exact .inr q
noncomputable abbrev a5n (K:W.Frag) (C:Addr) (n:Nat):Sp:=fun vs H Q _=>match vs with | [.ref x,v,.ref d]=>∃ (pb pt:Addr) (bs:Bs) (tr:List Nat) (t:Trm) (kn:Kn),HS K C H x pb pt bs tr/\PSt bs kn/\Den K H v t.data/\t.size<=n/\n<=60/\ar4 t/\H d = some (.dK (encP kn))/\bs.length + t.size<=800/\kn.length + t.size<=800/\∀ (a:Nat) (bs':Bs) (kn':Kn) (H':Hp),P3 pb pt d H H'->HS K C H' x pb pt (bs ++ bs') tr->H' d = some (.dK (encP (kn ++ kn')))->PSt (bs ++ bs') (kn ++ kn')->Rep (bs ++ bs') a (nm (kn ++ kn') t)->vin (kn ++ kn') t->bs'.length<=t.size->kn'.length<=t.size->Q (.int (a:Int)) H' | _=>False
theorem c7b {K:W.Frag} {C:Addr} {H:Hp} {x:Addr} {v:V} {R:Addr->Addr->Bs->List Nat->Trm->Kn->Prop} (h:∃ (pb pt:Addr) (bs:Bs) (tr:List Nat) (t:Trm) (kn:Kn),HS K C H x pb pt bs tr/\PSt bs kn/\Den K H v t.data/\t.size<=0/\R pb pt bs tr t kn):False:=by
 obtain ⟨_,_,_,_,t,_,_,_,_,z,_⟩:=h
 have:=t.size_pos
 omega
noncomputable abbrev Nw:=List (Str × Str)
noncomputable def encN (nw:Nw):List (Key × V):=nw.map fun r=>(Sum.inr r.1,V.str r.2)
noncomputable def lkN:Nw->Str->Option Str
 | [],_=>none
 | r :: nw,x=>if r.1 = x then some r.2 else lkN nw x
theorem valN (x:Str):∀ nw:Nw,valV (encN nw) (Sum.inr x) = (lkN nw x).map V.str
 | []=>rfl
 | r :: nw=>by
  by_cases e:r.1 = x
  ·rw [encN,List.map_cons,a2c (by rw [e]),lkN,if_pos e]; rfl
  ·rw [encN,List.map_cons,a2d (fun z=>e (Sum.inr.inj z)),lkN,if_neg e]; exact valN x nw
noncomputable abbrev b6a:Str:=Str.ofString "none"
noncomputable def nf_ (nw:Nw) (x:Str):Trm:=.any ((lkN nw x).getD b6a)
noncomputable abbrev a3a (K:W.Frag) (n:Nat):Sp:=fun vs H Q _=>match vs with | [v,.ref d]=>∃ (t:Trm) (nw:Nw),Den K H v t.data/\H d = some (.dK (encN nw))/\t.size<=n/\n<=60/\∀ (v':V) (H':Hp),Same H H'->Den K H' v' (sb (nf_ nw) t).data->Q v' H' | _=>False
theorem c2b {K:W.Frag} {H:Hp} {v:V} {d:Addr} {R:Trm->Nw->Prop} (h:∃ (t:Trm) (nw:Nw),Den K H v t.data/\H d = some (.dK (encN nw))/\t.size<=0/\R t nw):False:=by
 obtain ⟨t,_,_,_,z,_⟩:=h
 have:=t.size_pos
 omega
noncomputable def nwOf (kn:Kn):Nw:=kn.map fun r=>(bnm r.2,r.1)
theorem b8l {kn:Kn} (nod:(kn.map (·.1)).Nodup) (inj:∀ x y a,lkP kn x = some a->lkP kn y = some a->x = y) {x:Str} {a:Nat} (h:lkP kn x = some a):lkN (nwOf kn) (bnm a) = some x:=by
 have key:∀ r ∈ kn,lkP kn r.1 = some r.2:=fun r hr=>by obtain ⟨i,hi⟩:=List.mem_iff_getElem?.mp hr; exact b0a nod hi
 have mem:∃ r ∈ kn,r.1 = x/\r.2 = a:=by
  clear key inj nod
  induction kn with
  | nil=>cases h
  | cons r kn ih=>
   rw [lkP] at h
   by_cases e:r.1 = x
   ·rw [if_pos e] at h; cases h; exact ⟨r,List.mem_cons_self ..,e,rfl⟩
   ·rw [if_neg e] at h; obtain ⟨q,h1,h2⟩:=ih h; exact ⟨q,List.mem_cons_of_mem _ h1,h2⟩
 suffices g:∀ l:Kn,(∀ r ∈ l,r ∈ kn)->(∃ r ∈ l,r.1 = x/\r.2 = a)->lkN (nwOf l) (bnm a) = some x from g kn (fun _ h=>h) mem
 intro l
 induction l with
 | nil=>intro _ ⟨r,h,_⟩; cases h
 | cons r l ih=>
  intro hs hm
  rw [nwOf,List.map_cons,lkN]
  by_cases e:bnm r.2 = bnm a
  ·rw [if_pos e]
   have e2:=b4t e
   have k1:=key r (hs r (List.mem_cons_self ..))
   rw [e2] at k1
   rw [inj _ _ _ k1 h]
  ·rw [if_neg e]
   refine ih (fun q hq=>hs q (List.mem_cons_of_mem _ hq)) ?_
   obtain ⟨q,h1,h2,h3⟩:=hm
   rcases List.mem_cons.mp h1 with z | z
   ·subst z; exact absurd (by rw [h3]) e
   ·exact ⟨q,z,h2,h3⟩
theorem b0s {kn:Kn} (nod:(kn.map (·.1)).Nodup) (inj:∀ x y a,lkP kn x = some a->lkP kn y = some a->x = y) {t:Trm} (h:vin kn t):sb (nf_ (nwOf kn)) (nm kn t) = t:=by
 rw [nm,b2a]
 refine Eq.trans (b3v fun x hx=>?_) (b8g t)
 obtain ⟨a,e⟩:=h x hx
 rw [sb,nf_,e,Option.getD_some,b8l nod inj e]; rfl
section
variable {P:Program} {w:World} {K:W.Frag} {mg:Str->Option Value} {base:Heap} {t:Ad}
theorem b4v {K:W.Frag} {J:Hp} {d:Addr} {kv:List (Key × V)} (h:J d = some (.dK kv)) (o:HO):∀ a xs,SqT K J a xs->SqT K (upd J d o) a xs:=a6o h (fun _ z=>by cases z) (fun _ _ z=>by cases z)
theorem c7c {J:Hp} {d:Addr} {o o2:HO}:upd (upd J d o2) d o = upd J d o:=by
 funext b
 by_cases z:b = d
 ·subst z; rw [a0b,a0b]
 ·rw [a0j z,a0j z,a0j z]
theorem upd_id {J:Hp} {d:Addr} {o:HO} (h:J d = some o):upd J d o = J:=by
 funext b
 by_cases z:b = d
 ·subst z; rw [a0b,h]
 ·rw [a0j z]
theorem P2.put {p d:Addr} {J:Hp} {o:HO}:P2 p d J (upd J d o):=fun b u _ h e=>by rw [a0j h]; exact e
theorem P2.own {p d D:Addr} {H J:Hp} {o:HO} (f:P2 p d H J) (h:H D = none):P2 p d H (upd J D o):=fun b u h1 h2 e=>by
 rw [a0j (fun z=>by rw [z,h] at e; cases e)]; exact f b u h1 h2 e
theorem b8m {rs:Vw} (O:VOk rs) {t:Trm} (h:Ys t):Dug rs t t:=⟨fun y hy=>.inl (h y hy),by
 refine Eq.trans (b3v fun x hx=>?_) (b8g t)
 unfold vf
 rw [O.y (h x hx)]; rfl⟩
theorem b4w {rs:Vw} {x:Str} {t:Trm} (h:lkV rs x = some t):Dug rs t (.any x):=⟨fun y hy=>.inr (by rw [Occ] at hy; rw [<- hy,h]; rfl),by rw [sb,vf,h]; rfl⟩
theorem c7d (T:Txt K mg t) (G_l_next:FnOk P w K mg base CX0 1 t.a_l_next t.d_l_next ["_law_left"] (a3o)) (n:Nat) (G_l_dug:FnOk P w K mg base CX0 (n + 2) t.a_l_dug t.d_l_dug ["_law_term_here","_law_left","_law_values"] (a5l K n)):FnOk P w K mg base CX0 (n + 2 + 1) t.a_l_dug t.d_l_dug ["_law_term_here","_law_left","_law_values"] (a5l K (n + 1)):=by
 refine T.F_l_dug.ok (k:=n + 2) b0n (fun vs H Q E h=>?_) (fun cdv A outer s H vs Q E hr h=>?_)
 ·unfold a5l at h
  split at h
  ·rfl
  ·exact h.elim
 unfold a5l at h
 split at h
 rotate_left
 ·exact h.elim
 refine ⟨_,(a0d (a0r (i:=3) (hs:=a1h) b0n.nd rfl (by walk_at "or1") (a0z G_l_next (hr.mono (by first | decide | omega)) rfl T.m_l_next T.F_l_next.kp T.b_l_next .nil a0v (a0a (mv 1) a0e))) (a0d (a0y (a0q a1e (a0m a1d (mv 3) a0c) a0c (a0p _)) (a0d (a0r (i:=4) (hs:=a3h) b0n.nd rfl (by walk_at "or1") (a0m (a1g K rfl) a0o (a2h b6s rfl T.n_str boot_str (a0a (a0m a1d (a0m a2f (mv 3) a0c) a0c) a0e)))) (a0g (a0y (a0q (c3x K rfl (a5o hr)) (a7k K rfl F.plainAttrs_dict F.slot_dict_setdefault F.type_dict_setdefault mm_setd (mv 2) (a0a (mv 4) (a0a (mv 0) a0e))) (mv 0) (a0p _)) (a0g (a0n (a1c (a0a a0o (a0a (mv 4) a0e))))) a0s))) a0s) (a0d (a0y (a0q a1e (a0m a1d (mv 3) a0c) a0c (a0p _)) (a0g (b0i (a4a PassesOwn.never rfl (b1x (mv 2)) (a3e (i:=4) b0n.nd rfl (by walk_at "or1")) (a0g (a0y (a0q (c3x K rfl (a5o hr)) (a9k (a3z hr) (mv 2) (mv 4) (fun _ _=>rfl)) (mv 0) (a0p _)) (a0g (a0n (a1c (a0a a0o (a0a (mv 4) a0e))))) a0s))))) a0s) (a0d (a0y (a0q b3k (a0k (a0i K rfl) (mv 0) a0c (fun _ _=>rfl)) a0o (a0p _)) (a0g (a0n (mv 0))) a0s) (a0g (a0n (a1c (a0a a0o (a0a (a0k (a0i K rfl) (mv 0) a0c (fun _ _=>rfl)) (a0a (a2h (a7c K rfl) rfl T.n_tuple boot_tuple (a0a (a8d rfl (a8g K rfl (a0k (a0i K rfl) (mv 0) a0c (fun _ _=>rfl))) (a6j (a0h a6m) ["_law_term_here","_law_left","_law_values","_law_cell","_law_name"] ["_law_term_here","_law_left","_law_values","_law_cell","_law_name"] rfl rfl (by decide +kernel)) (fun _ _ _ _ _=>a6i) (fun _ _ _ _ _=>(a0z G_l_dug (hr.mono (by first | decide | omega)) rfl T.m_l_dug T.F_l_dug.kp T.b_l_dug .nil a0v (a0a (mv 0) (a0a (mv 2) (a0a (mv 3) a0e)))))) a0e)) a0e)))))))))),?_⟩
 rename_i v p d
 obtain ⟨t0,ns,kvs,rs,m,hd,hp,hdk,hV,hO,hl,hm,hz,hn,har,hys,q⟩:=h
 have tp:=t0.size_pos
 have npd:p ≠ d:=fun z=>by rw [z,hdk] at hp; cases hp
 walk_at "stp"
 refine ⟨ns,hp,fun c ns1 H1 b1 f1 hp1=>?_⟩
 have F0:P2 p d H H1:=P2.but b1
 have tH:=F0.tup (K:=K) hp hdk
 have D0:=hd.monoT tH
 have K0:=b1 _ _ (Ne.symm npd) hdk
 have V0:=hV.monoT tH
 walk_at "stm"
 (with_reducible refine a2k (fun σ' J1=>∃ (o4:Option V) (kvs1:List (Key × V)) (rs1:Vw),σ' = [some v,some (.ref p),some (.ref d),some (.int c),o4]/\(c % 4 = 1->J1 = H1/\kvs1 = kvs/\rs1 = rs)/\P2 p d H J1/\J1 p = some (.lst (ns1.map V.int))/\J1 d = some (.dK kvs1)/\VR K J1 kvs1 rs1/\VOk rs1/\VEx rs rs1/\rs1.length<=m + 1/\Den K J1 v t0.data) (fun σ' J1 hP=>?_) (fun kk=>?_))
 rotate_left
 ·walk_at "stm"
  refine iteB (fun e=>?_) (fun e=>?_)
  rotate_left
  ·walk_at "stm"
   exact kk _ _ ⟨_,kvs,rs,rfl,fun _=>⟨rfl,rfl,rfl⟩,F0,hp1,K0,V0,hO,VEx.refl _,by omega,D0⟩
  have c4:c % 4 = 0:=by rw [Bool.false_xor] at e; exact of_decide_eq_true e
  have e5:=Int.emod_nonneg (c / 4) (show (6:Int) ≠ 0 by decide)
  have e6:=Int.emod_lt_of_pos (c / 4) (show (0:Int) < 6 by decide)
  (with_reducible refine b0z ?_)
  walk_at "stm"
  refine b6t e5 (Int.lt_trans e6 (by decide)) ?_
  obtain ⟨N,hN,hN6⟩:∃ N:Nat,(c / 4 % 6).toNat = N/\N < 6:=⟨_,rfl,by omega⟩
  rw [hN]
  refine a8o (ln ?_) ?_
  ·show 1 + (tn N).length<=100000
   have:∀ N,N < 6->1 + (tn N).length<=100000:=fun N h=>by
    rcases (by omega:N = 0\/N = 1\/N = 2\/N = 3\/N = 4\/N = 5) with rfl | rfl | rfl | rfl | rfl | rfl <;> decide +kernel
   exact this N hN6
  walk_at "stm"
  refine ⟨.inr (.inr (.inl ⟨rfl,.inl ⟨_,K0⟩⟩)),?_⟩
  walk_at "stm"
  have hkl:=V0.len
  refine mSetd_i (k:=Sum.inr (xN N)) rfl K0 (by rw [sizeLine_eq]; omega) (fun w hw=>?_) (fun hw=>?_)
  ·rcases V0.val (xN N) with ⟨z1,z2⟩ | ⟨w',tw,z1,z2,z3⟩
   ·rw [z1] at hw; cases hw
   rw [z1] at hw
   cases hw
   walk_at "stm"
   refine a9v z3 D0 (Nat.le_trans (hO.ok _ _ z2) (by decide)) ?_
   rw [Bool.false_xor]
   cases hq:eqb tw t0 with
   | false=>
    walk_at "stm"
    refine iteB (fun e=>absurd e (by simp)) (fun e=>?_)
    walk_at "stm"
    exact kk _ _ ⟨_,kvs,rs,rfl,fun z=>absurd z (by omega),F0,hp1,K0,V0,hO,VEx.refl _,by omega,D0⟩
   | true=>
    have ht:=(b1w _ _).mp hq
    subst ht
    walk_at "stm"
    refine iteB (fun e=>?_) (fun e=>absurd e (by simp))
    walk_at "stm"
    refine ⟨ln (by show 2<=100000; decide),fun r hr'=>?_⟩
    have sp:=a0f hr' (.tup [.str anyS,.str (xN N)])
    exact q _ (.any (xN N)) ns1 kvs rs _ (F0.trans (P2.of sp)) (sp _ _ hp1) (sp _ _ K0) (V0.monoT (fun a zs q=>sp.tup q)) hO (VEx.refl _) (by omega) (a8i (SqT.of a0b)) (by rw [Trm.size]; exact tp) (by rw [ar4]; trivial) (b4w z2)
  ·have z2:lkV rs (xN N) = none:=by
    rcases V0.val (xN N) with ⟨z1,z2⟩ | ⟨w',tw,z1,z2,z3⟩
    ·exact z2
    ·rw [z1] at hw; cases hw
   have tJ:=b4v (K:=K) K0 (.dK (putK kvs (Sum.inr (xN N)) v))
   have V2:VR K (upd H1 d (.dK (putK kvs (Sum.inr (xN N)) v))) (putK kvs (Sum.inr (xN N)) v) (rs ++ [(xN N,t0)]):=(V0.new D0 hw).monoT tJ
   have K2:(upd H1 d (.dK (putK kvs (Sum.inr (xN N)) v))) d = some (.dK (putK kvs (Sum.inr (xN N)) v)):=a0b
   have L2:(upd H1 d (.dK (putK kvs (Sum.inr (xN N)) v))) p = some (.lst (ns1.map V.int)):=by rw [a0j npd]; exact hp1
   have F2:P2 p d H (upd H1 d (.dK (putK kvs (Sum.inr (xN N)) v))):=F0.trans P2.put
   have D2:=D0.monoT tJ
   have z3:lkV (rs ++ [(xN N,t0)]) (xN N) = some t0:=by rw [b4u z2,if_pos rfl]
   have O2:VOk (rs ++ [(xN N,t0)]):=by
    refine ⟨fun y hy=>?_,fun y u hy=>?_⟩
    ·rw [b4u z2] at hy
     by_cases g:y = xN N
     ·exact ⟨N,hN6,g⟩
     ·rw [if_neg g] at hy; exact hO.key y hy
    ·rw [b4u z2] at hy
     by_cases g:y = xN N
     ·rw [if_pos g] at hy; cases hy; omega
     ·rw [if_neg g] at hy; exact hO.ok y u hy
   generalize upd H1 d (.dK (putK kvs (Sum.inr (xN N)) v)) = J2 at V2 K2 L2 F2 D2 ⊢
   walk_at "stm"
   refine a9v D2 D2 (by omega) ?_
   rw [Bool.false_xor,a8t]
   walk_at "stm"
   refine iteB (fun e=>?_) (fun e=>absurd e (by simp))
   walk_at "stm"
   refine ⟨ln (by show 2<=100000; decide),fun r hr'=>?_⟩
   have sp:=a0f hr' (.tup [.str anyS,.str (xN N)])
   exact q _ (.any (xN N)) ns1 _ (rs ++ [(xN N,t0)]) _ (F2.trans (P2.of sp)) (sp _ _ L2) (sp _ _ K2) (V2.monoT (fun a zs q=>sp.tup q)) O2 (fun y u hy=>lkV_app _ hy) (by rw [List.length_append,List.length_singleton]; omega) (a8i (SqT.of a0b)) (by rw [Trm.size]; exact tp) (by rw [ar4]; trivial) (b4w z3)
 obtain ⟨o4,kvs1,rs1,rfl,h41,F1,L1,K1,V1,O1,X1,m1,D1⟩:=hP
 clear D0 K0 V0 F0 b1 f1 hp1 hd hdk hV tH
 (with_reducible refine a2k (fun σ' J2=>∃ (o4:Option V),σ' = [some v,some (.ref p),some (.ref d),some (.int c),o4]/\J2 = J1) (fun σ' J2 hP=>?_) (fun kk=>?_))
 rotate_left
 ·walk_at "stm"
  refine iteB (fun e=>?_) (fun e=>?_)
  rotate_left
  ·walk_at "stm"
   exact kk _ _ ⟨_,rfl,rfl⟩
  (with_reducible refine b0j ?_)
  walk_at "stm"
  (with_reducible refine b1y ?_)
  walk_at "stm"
  refine ⟨d,kvs1,rfl,K1,fun ob nf=>?_⟩
  have tJ:=b4v (K:=K) K1 (.frz ob (.dK kvs1))
  have kf:(upd J1 d (.frz ob (.dK kvs1))) d = some (.frz ob (.dK kvs1)):=a0b
  refine a3f b0h (fun i σ' J=>∃ (o4:Option V),σ' = [some v,some (.ref p),some (.ref d),some (.int c),o4]/\J = upd J1 d (.frz ob (.dK kvs1))) ⟨_,rfl,rfl⟩ (fun i σ' J hP=>by obtain ⟨_,_,rfl⟩:=hP; exact kf) (fun i σ' J hi hP=>?_) (fun σ' J hP=>?_)
  ·obtain ⟨o4,rfl,rfl⟩:=hP
   obtain ⟨y,vy,e1,e2⟩:=V1.key hi
   have hg:((kvs1[i]?).map fun p=>kV p.1).getD V.non = .str y:=by rw [e1]; rfl
   rw [hg]
   obtain ⟨w,tw,z1,z2,z3⟩:∃ w tw,valV kvs1 (Sum.inr y) = some w/\lkV rs1 y = some tw/\Den K J1 w tw.data:=by
    rcases V1.val y with ⟨_,z2⟩ | z
    ·rw [z2] at e2; cases e2
    ·exact z
   walk_at "stm"
   refine ⟨d,w,rfl,.inl ⟨kvs1,Sum.inr y,.inr ⟨ob,kf⟩,rfl,z1.symm⟩,?_⟩
   walk_at "stm"
   refine a9v (z3.monoT tJ) (D1.monoT tJ) (Nat.le_trans (O1.ok _ _ z2) (by decide)) ?_
   rw [Bool.false_xor]
   cases hq:eqb tw t0 with
   | false=>
    walk_at "stm"
    refine iteB (fun e=>absurd e (by simp)) (fun e=>?_)
    walk_at "stm"
    exact ⟨_,rfl,rfl⟩
   | true=>
    have ht:=(b1w _ _).mp hq
    subst ht
    walk_at "stm"
    refine iteB (fun e=>?_) (fun e=>absurd e (by simp))
    walk_at "stm"
    refine ⟨ln (by show 2<=100000; decide),fun r hr'=>?_⟩
    have nrd:r ≠ d:=fun z=>by rw [z,kf] at hr'; cases hr'
    have hr1:J1 r = none:=by rw [a0j nrd] at hr'; exact hr'
    refine ⟨d,ob,kvs1,nf,by rw [a0j (Ne.symm nrd)]; exact kf,?_⟩
    have ej:upd (upd (upd J1 d (.frz ob (.dK kvs1))) r (.tup [.str anyS,.str y])) d (.dK kvs1) = upd J1 r (.tup [.str anyS,.str y]):=by
     funext b
     by_cases z:b = d
     ·subst z; rw [a0b,a0j (Ne.symm nrd)]; exact K1.symm
     ·rw [a0j z]
      by_cases z2:b = r
      ·subst z2; rw [a0b,a0b]
      ·rw [a0j z2,a0j z2,a0j z]
    rw [ej]
    have sp:=a0f hr1 (.tup [.str anyS,.str y])
    exact q _ (.any y) ns1 kvs1 rs1 _ (F1.trans (P2.of sp)) (sp _ _ L1) (sp _ _ K1) (V1.monoT (fun a zs q=>sp.tup q)) O1 X1 (by omega) (a8i (SqT.of a0b)) (by rw [Trm.size]; exact tp) (by rw [ar4]; trivial) (b4w z2)
  ·obtain ⟨o4,rfl,rfl⟩:=hP
   refine ⟨d,ob,kvs1,nf,kf,?_⟩
   rw [c7c,upd_id K1]
   exact kk _ _ ⟨_,rfl,rfl⟩
 obtain ⟨o4,rfl,hJ⟩:=hP
 rw [hJ]
 cases t0 with
 | any nm0=>
  obtain ⟨a,rfl,hs⟩:=a1x D1
  walk_at "stp"
  refine a0l hs (v:=.str anyS) rfl ?_
  walk_at "stp"
  refine iteB (fun e=>?_) (fun e=>absurd e (by decide +kernel))
  walk_at "stp"
  exact q _ _ ns1 _ rs1 _ F1 L1 K1 V1 O1 X1 (by omega) D1 (Nat.le_refl _) (by rw [ar4]; trivial) (b8m O1 hys)
 | num k0=>
  obtain ⟨a,rfl,hs⟩:=a1u D1
  walk_at "stp"
  refine a0l hs (v:=.str numS) rfl ?_
  walk_at "stp"
  refine iteB (fun e=>?_) (fun e=>absurd e (by decide +kernel))
  walk_at "stp"
  exact q _ _ ns1 _ rs1 _ F1 L1 K1 V1 O1 X1 (by omega) D1 (Nat.le_refl _) (by rw [ar4]; trivial) (b8m O1 hys)
 | app sg ks=>
  obtain ⟨a,b,us,rfl,hs,hb,hk⟩:=a2g D1
  have hkl:=hk.length
  rw [Trm.dataL_map,List.length_map] at hkl
  have zl:=Trm.len_le ks
  simp only [Trm.size] at hz hm q
  rw [ar4] at har
  walk_at "stp"
  refine a0l hs (v:=.str appS) rfl ?_
  walk_at "stp"
  refine iteB (fun e=>absurd e (by decide +kernel)) (fun e=>?_)
  walk_at "stp"
  refine a0l hs (v:=.str sg) rfl ?_
  walk_at "stp"
  refine a0l hs (v:=.ref b) rfl ?_
  refine ⟨b,rfl,⟨_,hb⟩,fun D hD=>?_⟩
  have sD:=a0f hD (.lst [])
  have nD1:D ≠ p:=fun z=>by rw [z,L1] at hD; cases hD
  have nD2:D ≠ d:=fun z=>by rw [z,K1] at hD; cases hD
  refine a5c (a8e (xs:=us)) (fun i ys J=>P2 p d J1 J/\J D = some (.lst ys)/\∃ (ns2:List Int) (kvs2:List (Key × V)) (rs2:Vw) (ts:List Trm),J p = some (.lst (ns2.map V.int))/\J d = some (.dK kvs2)/\VR K J kvs2 rs2/\VOk rs2/\VEx rs1 rs2/\rs2.length<=m + 1 + Trm.sizeL (ks.take i)/\DenL K J ys (Trm.dataL ts)/\Trm.sizeL ts<=Trm.sizeL (ks.take i)/\ts.length = i/\ar4L ts/\DugL rs2 (ks.take i) ts) (ln (by omega)) ⟨P2.of sD,a0b,ns1,kvs1,rs1,[],sD _ _ L1,sD _ _ K1,V1.monoT (fun a ys q=>sD.tup q),O1,VEx.refl _,by simp [Trm.sizeL]; omega,.nil,by simp [Trm.sizeL],rfl,by rw [ar4L]; trivial,⟨fun y hy=>by rw [OccL] at hy; exact hy.elim,by rw [sbL]; rfl⟩⟩ (fun i ys J hP=>hP.1.tup L1 K1 _ _ hb) (fun i ys J Q' hi' hl' hP k=>?_) (fun ys J hl' hP=>?_)
  ·obtain ⟨g1,g2,ns2,kvs2,rs2,ts,g3,g4,g5,g6,g7,g8,g9,g10,g11,g12,g13⟩:=hP
   have hki:i < ks.length:=by omega
   have hx:us[i]? = some us[i]:=List.getElem?_eq_getElem hi'
   have hg:us.getD i .non = us[i]:=by rw [List.getD_eq_getElem?_getD,hx]; rfl
   obtain ⟨dd,e1,e2⟩:=hk.get hx
   rw [Trm.dataL_map,List.getElem?_map,List.getElem?_eq_getElem hki] at e1
   obtain rfl:ks[i].data = dd:=Option.some.inj e1
   have z1:=a4p (List.getElem?_eq_getElem hki)
   have z4:ks.take (i + 1) = ks.take i ++ [ks[i]]:=by rw [List.take_add_one,List.getElem?_eq_getElem hki]; rfl
   have z3:=Trm.sizeL_app (ks.take i) [ks[i]]
   rw [<- z4] at z3
   have z5:Trm.sizeL [ks[i]] = ks[i].size:=by simp [Trm.sizeL]
   have z6:Trm.sizeL (ks.take (i + 1))<=Trm.sizeL ks:=by
    have:=Trm.sizeL_app (ks.take (i + 1)) (ks.drop (i + 1))
    rw [List.take_append_drop] at this
    omega
   have tJ:=g1.tup (K:=K) L1 K1
   walk_at "stp"
   rw [hg]
   refine ⟨ks[i],ns2,kvs2,rs2,m + 1 + Trm.sizeL (ks.take i),e2.monoT tJ,g3,g4,g5,g6,g8,by omega,by omega,by omega,a1w.mp har.2 _ (List.getElem_mem hki),fun y hy=>hys y (by rw [Occ]; exact a1s.mpr ⟨_,List.getElem_mem hki,hy⟩),fun x t' ns3 kvs3 rs3 J2 F2 L2 K2 V2 O2 X2 m2 dx sx ax gx=>?_⟩
   have g2':J2 D = some (.lst ys):=F2 _ _ nD1 nD2 g2
   have tJ2:=F2.tup (K:=K) g3 g4
   have tD:∀ a zs,SqT K J2 a zs->SqT K (upd J2 D (.lst (ys ++ [x]))) a zs:=a6o g2' (fun _ z=>by cases z) (fun _ _ z=>by cases z)
   refine k _ _ g2' ⟨(g1.trans F2).own hD,a0b,ns3,kvs3,rs3,ts ++ [t'],by rw [a0j (Ne.symm nD1)]; exact L2,by rw [a0j (Ne.symm nD2)]; exact K2,V2.monoT tD,O2,g7.trans X2,by omega,?_,?_,by rw [List.length_append,g11]; rfl,?_,?_⟩
   ·rw [Trm.dataL_map,List.map_append,<- Trm.dataL_map]
    exact ((g9.monoT tJ2).append (.cons dx .nil)).monoT tD
   ·rw [Trm.sizeL_app]
    have:Trm.sizeL [t'] = t'.size:=by simp [Trm.sizeL]
    omega
   ·refine a1w.mpr fun u hu=>?_
    rcases List.mem_append.mp hu with z | z
    ·exact a1w.mp g12 u z
    ·rw [List.mem_singleton.mp z]; exact ax
   ·rw [z4]; exact (g13.more X2 g6 O2).snoc gx
  obtain ⟨g1,g2,ns2,kvs2,rs2,ts,g3,g4,g5,g6,g7,g8,g9,g10,g11,g12,g13⟩:=hP
  rw [List.take_of_length_le (by omega)] at g8 g10 g13
  walk_at "stp"
  refine a9p (SqL.of g2) (fun p2 hp2=>?_)
  have s2:=a0f hp2 (.tup ys)
  have k2:(upd J p2 (.tup ys)) p2 = some (.tup ys):=a0b
  generalize upd J p2 (.tup ys) = J2 at s2 k2 ⊢
  walk_at "stp"
  refine ⟨ln (by show 3<=100000; decide),fun p3 hp3=>?_⟩
  have s3:=a0f hp3 (.tup [.str (Str.ofString "app"),.str sg,.ref p2])
  have ss:=s2.trans s3
  exact q _ (.app sg ts) ns2 kvs2 rs2 _ (F1.trans (g1.trans (P2.of ss))) (ss _ _ g3) (ss _ _ g4) (g5.monoT (fun a zs q=>ss.tup q)) g6 (X1.trans g7) (by omega) (a1v (SqT.of a0b) (SqT.of (s3 _ _ k2)) (g9.mono ss)) (by simp only [Trm.size]; omega) (by rw [ar4]; exact ⟨by omega,g12⟩) ⟨fun y hy=>g13.1 y (by rw [Occ] at hy; exact hy),by rw [sb,g13.2]⟩
theorem c7e (T:Txt K mg t) (G_l_next:FnOk P w K mg base CX0 1 t.a_l_next t.d_l_next ["_law_left"] (a3o)) (n:Nat):FnOk P w K mg base CX0 (n + 2) t.a_l_dug t.d_l_dug ["_law_term_here","_law_left","_law_values"] (a5l K n):=by
 induction n with
 | zero=>
  have no:∀ vs H Q E,(a5l K 0) vs H Q E->False:=fun vs H Q E h=>by
   unfold a5l at h
   split at h
   ·exact c7a h
   ·exact h
  exact ⟨fun vs H Q E h=>(no vs H Q E h).elim,fun A outer s H args us vs Q E _ _ _ _ h=>(no vs H Q E h).elim⟩
 | succ n ih=>
  have e:n + 1 + 2 = n + 2 + 1:=by omega
  rw [e]
  exact c7d T G_l_next n ih
end
section
variable {P:Program} {w:World} {K:W.Frag} {mg:Str->Option Value} {base:Heap} {t:Ad}
theorem b9l (T:Txt K mg t)  (n:Nat) (G_l_put_in:FnOk P w K mg base CX0 (n + 2) t.a_l_put_in t.d_l_put_in ["_law_term_here","_law_values"] (a3c K n)):FnOk P w K mg base CX0 (n + 2 + 1) t.a_l_put_in t.d_l_put_in ["_law_term_here","_law_values"] (a3c K (n + 1)):=by
 refine T.F_l_put_in.ok (k:=n + 2) b9d (fun vs H Q E h=>?_) (fun cdv A outer s H vs Q E hr h=>?_)
 ·unfold a3c at h
  split at h
  ·rfl
  ·exact h.elim
 unfold a3c at h
 split at h
 rotate_left
 ·exact h.elim
 refine ⟨_,(a0d (a0y (a0q a1e (a0k (a0i K rfl) (mv 0) a0c (fun _ _=>rfl)) a0o (a0p _)) (a0g (a0n (b2m (a3z hr) (mv 1) (a0k (a0i K rfl) (mv 0) a0c (fun _ _=>rfl)) (mv 0) ⟨rfl,rfl,rfl,rfl⟩))) a0s) (a0d (a0y (a0q a1e (a0k (a0i K rfl) (mv 0) a0c (fun _ _=>rfl)) a0o (a0p _)) (a0g (a0n (mv 0))) a0s) (a0g (a0n (a1c (a0a a0o (a0a (a0k (a0i K rfl) (mv 0) a0c (fun _ _=>rfl)) (a0a (a2h (a7c K rfl) rfl T.n_tuple boot_tuple (a0a (a8d rfl (a8g K rfl (a0k (a0i K rfl) (mv 0) a0c (fun _ _=>rfl))) (a6j (a0h a3n) ["_law_term_here","_law_values"] ["_law_term_here","_law_values"] rfl rfl (by decide +kernel)) (fun _ _ _ _ _=>a6i) (fun _ _ _ _ _=>(a0z G_l_put_in (hr.mono (by first | decide | omega)) rfl T.m_l_put_in T.F_l_put_in.kp T.b_l_put_in .nil a0v (a0a (mv 0) (a0a (mv 2) a0e))))) a0e)) a0e)))))))),?_⟩
 rename_i v d
 obtain ⟨t0,kvs,rs,hd,hk0,hV,hz,hn,q⟩:=h
 cases t0 with
 | any nm0=>
  obtain ⟨a,rfl,hs⟩:=a1x hd
  walk_at "stp"
  refine a0l hs (v:=.str anyS) rfl ?_
  walk_at "stp"
  refine iteB (fun e=>?_) (fun e=>absurd e (by decide +kernel))
  walk_at "stp"
  refine ⟨d,rfl,.inl ⟨kvs,.inl hk0⟩,?_⟩
  walk_at "stp"
  refine a0l hs (v:=.str nm0) rfl ?_
  walk_at "stp"
  refine ⟨_,DGet.k (k:=Sum.inr nm0) hk0,?_⟩
  walk_at "stp"
  refine q _ _ (Same.refl _) ?_
  rw [sb]
  unfold vf
  rcases hV.val nm0 with ⟨z1,z2⟩ | ⟨w,tw,z1,z2,z3⟩
  ·rw [z1,z2]; exact hd
  ·rw [z1,z2]; exact z3
 | num k0=>
  obtain ⟨a,rfl,hs⟩:=a1u hd
  walk_at "stp"
  refine a0l hs (v:=.str numS) rfl ?_
  walk_at "stp"
  refine iteB (fun e=>absurd e (by decide +kernel)) (fun e=>?_)
  walk_at "stp"
  refine a0l hs (v:=.str numS) rfl ?_
  walk_at "stp"
  refine iteB (fun e=>?_) (fun e=>absurd e (by decide +kernel))
  walk_at "stp"
  exact q _ _ (Same.refl _) (by rw [sb]; exact hd)
 | app sg ks=>
  obtain ⟨a,b,us,rfl,hs,hb,hk⟩:=a2g hd
  have hkl:=hk.length
  rw [Trm.dataL_map,List.length_map] at hkl
  have zl:=Trm.len_le ks
  simp only [Trm.size] at hz
  walk_at "stp"
  refine a0l hs (v:=.str appS) rfl ?_
  walk_at "stp"
  refine iteB (fun e=>absurd e (by decide +kernel)) (fun e=>?_)
  walk_at "stp"
  refine a0l hs (v:=.str appS) rfl ?_
  walk_at "stp"
  refine iteB (fun e=>absurd e (by decide +kernel)) (fun e=>?_)
  walk_at "stp"
  refine a0l hs (v:=.str sg) rfl ?_
  walk_at "stp"
  refine a0l hs (v:=.ref b) rfl ?_
  refine ⟨b,rfl,⟨_,hb⟩,fun D hD=>?_⟩
  refine a5c (a8e (xs:=us)) (fun i ys J=>Same H J/\J D = some (.lst ys)/\DenL K J ys (Trm.dataL ((ks.take i).map (sb (vf rs))))) (ln (by omega)) ⟨a0f hD _,a0b,.nil⟩ (fun i ys J hP=>hP.1.tup hb) (fun i ys J Q' hi' hl' hP k=>?_) (fun ys J hl' hP=>?_)
  ·obtain ⟨g1,g2,g3⟩:=hP
   have hki:i < ks.length:=by omega
   have hx:us[i]? = some us[i]:=List.getElem?_eq_getElem hi'
   have hg:us.getD i .non = us[i]:=by rw [List.getD_eq_getElem?_getD,hx]; rfl
   obtain ⟨dd,e1,e2⟩:=hk.get hx
   rw [Trm.dataL_map,List.getElem?_map,List.getElem?_eq_getElem hki] at e1
   obtain rfl:ks[i].data = dd:=Option.some.inj e1
   have z1:=a4p (List.getElem?_eq_getElem hki)
   walk_at "stp"
   rw [hg]
   refine ⟨ks[i],kvs,rs,e2.mono g1,g1 _ _ hk0,hV.monoT (fun a zs q=>g1.tup q),by omega,by omega,fun v J2 s2 d2=>?_⟩
   refine k _ _ (s2 _ _ g2) ⟨a2x (g1.trans s2) hD,a0b,?_⟩
   rw [List.take_add_one,List.getElem?_eq_getElem hki,Trm.dataL_map,List.map_append,List.map_append,<- Trm.dataL_map]
   exact ((g3.mono s2).append (.cons d2 .nil)).lst (s2 _ _ g2)
  obtain ⟨g1,g2,g3⟩:=hP
  rw [List.take_of_length_le (by omega)] at g3
  walk_at "stp"
  refine a9p (SqL.of g2) (fun p2 hp2=>?_)
  have s2:=a0f hp2 (.tup ys)
  have k2:(upd J p2 (.tup ys)) p2 = some (.tup ys):=a0b
  generalize upd J p2 (.tup ys) = J2 at s2 k2 ⊢
  walk_at "stp"
  refine ⟨ln (by show 3<=100000; decide),fun p3 hp3=>?_⟩
  have s3:=a0f hp3 (.tup [.str (Str.ofString "app"),.str sg,.ref p2])
  have ss:=s2.trans s3
  refine q _ _ (g1.trans ss) ?_
  rw [sb,a3l]
  exact a1v (SqT.of a0b) (SqT.of (s3 _ _ k2)) (g3.mono ss)
theorem b9m (T:Txt K mg t)  (n:Nat):FnOk P w K mg base CX0 (n + 2) t.a_l_put_in t.d_l_put_in ["_law_term_here","_law_values"] (a3c K n):=by
 induction n with
 | zero=>
  have no:∀ vs H Q E,(a3c K 0) vs H Q E->False:=fun vs H Q E h=>by
   unfold a3c at h
   split at h
   ·exact b9j h
   ·exact h
  exact ⟨fun vs H Q E h=>(no vs H Q E h).elim,fun A outer s H args us vs Q E _ _ _ _ h=>(no vs H Q E h).elim⟩
 | succ n ih=>
  have e:n + 1 + 2 = n + 2 + 1:=by omega
  rw [e]
  exact b9l T  n ih
theorem c2c (T:Txt K mg t)  (n:Nat) (G_l_named:FnOk P w K mg base CX0 (n + 2) t.a_l_named t.d_l_named ["_law_term_here","_law_names"] (a3a K n)):FnOk P w K mg base CX0 (n + 2 + 1) t.a_l_named t.d_l_named ["_law_term_here","_law_names"] (a3a K (n + 1)):=by
 refine T.F_l_named.ok (k:=n + 2) c1s (fun vs H Q E h=>?_) (fun cdv A outer s H vs Q E hr h=>?_)
 ·unfold a3a at h
  split at h
  ·rfl
  ·exact h.elim
 unfold a3a at h
 split at h
 rotate_left
 ·exact h.elim
 refine ⟨_,(a0d (a0y (a0q a1e (a0k (a0i K rfl) (mv 0) a0c (fun _ _=>rfl)) a0o (a0p _)) (a0g (a0n (a1c (a0a a0o (a0a (b2m (a3z hr) (mv 1) (a0k (a0i K rfl) (mv 0) a0c (fun _ _=>rfl)) a0o ⟨rfl,rfl,rfl,rfl⟩) a0e))))) a0s) (a0d (a0y (a0q a1e (a0k (a0i K rfl) (mv 0) a0c (fun _ _=>rfl)) a0o (a0p _)) (a0g (a0n (mv 0))) a0s) (a0g (a0n (a1c (a0a a0o (a0a (a0k (a0i K rfl) (mv 0) a0c (fun _ _=>rfl)) (a0a (a2h (a7c K rfl) rfl T.n_tuple boot_tuple (a0a (a8d rfl (a8g K rfl (a0k (a0i K rfl) (mv 0) a0c (fun _ _=>rfl))) (a6j (a0h a4j) ["_law_term_here","_law_names"] ["_law_term_here","_law_names"] rfl rfl (by decide +kernel)) (fun _ _ _ _ _=>a6i) (fun _ _ _ _ _=>(a0z G_l_named (hr.mono (by first | decide | omega)) rfl T.m_l_named T.F_l_named.kp T.b_l_named .nil a0v (a0a (mv 0) (a0a (mv 2) a0e))))) a0e)) a0e)))))))),?_⟩
 rename_i v d
 obtain ⟨t0,nw,hd,hk0,hz,hn,q⟩:=h
 cases t0 with
 | any nm0=>
  obtain ⟨a,rfl,hs⟩:=a1x hd
  walk_at "stp"
  refine a0l hs (v:=.str anyS) rfl ?_
  walk_at "stp"
  refine iteB (fun e=>?_) (fun e=>absurd e (by decide +kernel))
  walk_at "stp"
  refine ⟨d,rfl,.inl ⟨_,.inl hk0⟩,?_⟩
  walk_at "stp"
  refine a0l hs (v:=.str nm0) rfl ?_
  walk_at "stp"
  refine ⟨_,DGet.k (k:=Sum.inr nm0) hk0,?_⟩
  rw [valN]
  have hz2:(Option.map V.str (lkN nw nm0)).getD (V.str b6a) = V.str ((lkN nw nm0).getD b6a):=by cases lkN nw nm0 <;> rfl
  rw [show (V.str (Str.ofString "none")) = V.str b6a from rfl,hz2]
  walk_at "stp"
  refine ⟨ln (by show 2<=100000; decide),fun p1 hp1=>?_⟩
  refine q _ _ (a0f hp1 _) ?_
  rw [sb]
  exact a8i (SqT.of a0b)
 | num k0=>
  obtain ⟨a,rfl,hs⟩:=a1u hd
  walk_at "stp"
  refine a0l hs (v:=.str numS) rfl ?_
  walk_at "stp"
  refine iteB (fun e=>absurd e (by decide +kernel)) (fun e=>?_)
  walk_at "stp"
  refine a0l hs (v:=.str numS) rfl ?_
  walk_at "stp"
  refine iteB (fun e=>?_) (fun e=>absurd e (by decide +kernel))
  walk_at "stp"
  exact q _ _ (Same.refl _) (by rw [sb]; exact hd)
 | app sg ks=>
  obtain ⟨a,b,us,rfl,hs,hb,hk⟩:=a2g hd
  have hkl:=hk.length
  rw [Trm.dataL_map,List.length_map] at hkl
  have zl:=Trm.len_le ks
  simp only [Trm.size] at hz
  walk_at "stp"
  refine a0l hs (v:=.str appS) rfl ?_
  walk_at "stp"
  refine iteB (fun e=>absurd e (by decide +kernel)) (fun e=>?_)
  walk_at "stp"
  refine a0l hs (v:=.str appS) rfl ?_
  walk_at "stp"
  refine iteB (fun e=>absurd e (by decide +kernel)) (fun e=>?_)
  walk_at "stp"
  refine a0l hs (v:=.str sg) rfl ?_
  walk_at "stp"
  refine a0l hs (v:=.ref b) rfl ?_
  refine ⟨b,rfl,⟨_,hb⟩,fun D hD=>?_⟩
  refine a5c (a8e (xs:=us)) (fun i ys J=>Same H J/\J D = some (.lst ys)/\DenL K J ys (Trm.dataL ((ks.take i).map (sb (nf_ nw))))) (ln (by omega)) ⟨a0f hD _,a0b,.nil⟩ (fun i ys J hP=>hP.1.tup hb) (fun i ys J Q' hi' hl' hP k=>?_) (fun ys J hl' hP=>?_)
  ·obtain ⟨g1,g2,g3⟩:=hP
   have hki:i < ks.length:=by omega
   have hx:us[i]? = some us[i]:=List.getElem?_eq_getElem hi'
   have hg:us.getD i .non = us[i]:=by rw [List.getD_eq_getElem?_getD,hx]; rfl
   obtain ⟨dd,e1,e2⟩:=hk.get hx
   rw [Trm.dataL_map,List.getElem?_map,List.getElem?_eq_getElem hki] at e1
   obtain rfl:ks[i].data = dd:=Option.some.inj e1
   have z1:=a4p (List.getElem?_eq_getElem hki)
   walk_at "stp"
   rw [hg]
   refine ⟨ks[i],nw,e2.mono g1,g1 _ _ hk0,by omega,by omega,fun v J2 s2 d2=>?_⟩
   refine k _ _ (s2 _ _ g2) ⟨a2x (g1.trans s2) hD,a0b,?_⟩
   rw [List.take_add_one,List.getElem?_eq_getElem hki,Trm.dataL_map,List.map_append,List.map_append,<- Trm.dataL_map]
   exact ((g3.mono s2).append (.cons d2 .nil)).lst (s2 _ _ g2)
  obtain ⟨g1,g2,g3⟩:=hP
  rw [List.take_of_length_le (by omega)] at g3
  walk_at "stp"
  refine a9p (SqL.of g2) (fun p2 hp2=>?_)
  have s2:=a0f hp2 (.tup ys)
  have k2:(upd J p2 (.tup ys)) p2 = some (.tup ys):=a0b
  generalize upd J p2 (.tup ys) = J2 at s2 k2 ⊢
  walk_at "stp"
  refine ⟨ln (by show 3<=100000; decide),fun p3 hp3=>?_⟩
  have s3:=a0f hp3 (.tup [.str (Str.ofString "app"),.str sg,.ref p2])
  have ss:=s2.trans s3
  refine q _ _ (g1.trans ss) ?_
  rw [sb,a3l]
  exact a1v (SqT.of a0b) (SqT.of (s3 _ _ k2)) (g3.mono ss)
theorem c2d (T:Txt K mg t)  (n:Nat):FnOk P w K mg base CX0 (n + 2) t.a_l_named t.d_l_named ["_law_term_here","_law_names"] (a3a K n):=by
 induction n with
 | zero=>
  have no:∀ vs H Q E,(a3a K 0) vs H Q E->False:=fun vs H Q E h=>by
   unfold a3a at h
   split at h
   ·exact c2b h
   ·exact h
  exact ⟨fun vs H Q E h=>(no vs H Q E h).elim,fun A outer s H args us vs Q E _ _ _ _ h=>(no vs H Q E h).elim⟩
 | succ n ih=>
  have e:n + 1 + 2 = n + 2 + 1:=by omega
  rw [e]
  exact c2c T  n ih
end
section
variable {P:Program} {w:World} {K:W.Frag} {mg:Str->Option Value} {base:Heap} {t:Ad}
theorem b1l {s:Str} {ks:List Trm} {n:Int}:tky (.app s ks) ≠ tky (.num n):=fun e=>by
 simp only [tky,List.cons.injEq,Sum.inr.injEq] at e
 exact absurd e.1 (by decide +kernel)
theorem c5d {m n:Int} (h:m ≠ n):tky (.num m) ≠ tky (.num n):=fun e=>h (by simp only [tky,List.cons.injEq,Sum.inl.injEq] at e; exact e.2.1)
theorem b6b {s r:Str} {ks ls:List Trm} (h:s ≠ r):tky (.app s ks) ≠ tky (.app r ls):=fun e=>h (by simp only [tky,List.cons.injEq,Sum.inr.injEq] at e; exact e.2.1)
theorem tky_l {s r:Str} {ks ls:List Trm} (h:ks.length ≠ ls.length):tky (.app s ks) ≠ tky (.app r ls):=fun e=>h (by simp only [tky,List.cons.injEq,Sum.inl.injEq] at e; have:=e.2.2.1; omega)
theorem b0b {ws:List Str} {i:Nat} (h:i < ws.length):atI (ws.map V.str) (i:Int) = some (.str ws[i]):=by
 obtain ⟨v,e1,e2⟩:=a5r (xs:=ws.map V.str) (i:=(i:Int)) (by omega) (by rw [List.length_map]; omega)
 rw [e1,<- e2,Int.toNat_natCast,List.getElem?_map,List.getElem?_eq_getElem h]; rfl
theorem b8n {ws:List Str} (h:ws.Nodup) {i j:Nat} (hi:i < ws.length) (hj:j < ws.length) (n:i ≠ j):ws[i] ≠ ws[j]:=by
 have hp:=List.pairwise_iff_getElem.mp h
 rcases Nat.lt_or_gt_of_ne n with z | z
 ·exact hp i j hi hj z
 ·exact fun e=>hp j i hj hi z e.symm
theorem c7f (ks:List Trm):((Trm.dataL ks).drop (HT.sIx (Trm.dataL ks).length 0 none)).take (HT.sIx (Trm.dataL ks).length (Trm.dataL ks).length (some (-1)) - HT.sIx (Trm.dataL ks).length 0 none) = Trm.dataL (ks.take (ks.length - 1)):=by
 have hl:(Trm.dataL ks).length = ks.length:=by rw [Trm.dataL_map,List.length_map]
 rw [hl,Trm.dataL_map,Trm.dataL_map]
 show ((ks.map Trm.data).drop 0).take ((-1 + (ks.length:Int)).toNat - 0) = _
 rw [List.drop_zero,Nat.sub_zero,List.map_take]
 congr 1
 omega
theorem c5e {x:Str} {ks:List Trm} {n:Nat} (h:OccL x (ks.take n)):OccL x ks:=by
 obtain ⟨t,h1,h2⟩:=a1s.mp h
 exact a1s.mpr ⟨t,List.mem_of_mem_take h1,h2⟩
theorem b3z (ks:List Trm) (n:Nat):Trm.sizeL (ks.take n)<=Trm.sizeL ks:=by
 have:=Trm.sizeL_app (ks.take n) (ks.drop n)
 rw [List.take_append_drop] at this
 omega
theorem c2e (T:Txt K mg t)  : FnOk P w K mg base CX0 1 t.a_l_other t.d_l_other ["_law_term_here","_law_cell","_law_words_here"] (a6y K):=by
 refine T.F_l_other.ok a7z (fun vs H Q E h=>?_) (fun cdv A outer s H vs Q E hr h=>?_)
 ·unfold a6y at h
  split at h
  ·rfl
  ·exact h.elim
 unfold a6y at h
 split at h
 rotate_left
 ·exact h.elim
 refine ⟨_,(a0d (a0y (a0q a1e (a0k (a0i K rfl) (mv 0) a0c (fun _ _=>rfl)) a0o (a0p _)) (a0d (a0r (i:=3) (hs:=a8r) a7z.nd rfl (by walk_at "or1") (a0k (a0i K rfl) (mv 0) a0c (fun _ _=>rfl))) (a0d (a0y (a0q a1e (a0m a1d (mv 1) a0c) a0c (a0p _)) (a0g (a0n (a1c (a0a a0o (a0a (a0k (a0i K rfl) (mv 2) a0c (fun _ _=>rfl)) (a0a (a1c a0e) a0e)))))) a0s) (a0d (a0y (a0q a8y (mv 3) a0c (a0p _)) (a0g (a0n (a1c (a0a a0o (a0a (a0k (a0i K rfl) (a2b (a0a (a0m a2r (mv 3) a0c) (a0a (a0m a2r a0c (mv 3)) a0e))) (a0m a2r (a0m a1d (mv 1) a0c) a0c) (fun _ _=>rfl)) a0e))))) a0s) (a0g (a0n (a1c (a0a a0o (a0a (a0k (a0i K rfl) (a2b (a0a (a0m (a1g K rfl) (mv 3) a0c) (a0a (a1i (mc_max rfl) rfl T.n_max boot_max (a0a a0c (a0a (a0m a2r a0c (mv 3)) a0e))) a0e))) (a0m a2r (a0m a1d (mv 1) a0c) a0c) (fun _ _=>rfl)) a0e)))))))) a0s) (a0d (a0r (i:=4) (hs:=a8r) a7z.nd rfl (by walk_at "or1") (a0k (a0i K rfl) (mv 0) a0c (fun _ _=>rfl))) (a0d (a0r (i:=5) (hs:=a8r) a7z.nd rfl (by walk_at "or1") (a0k (a0i K rfl) (mv 0) a0c (fun _ _=>rfl))) (a0d (a0y (a0q (ko_ninV K rfl) (mv 4) (mv 2) (by with_unfolding_all rfl)) (a0g (a0n (a1c (a0a a0o (a0a (a0k (a0i K rfl) (mv 2) (a0m a1d (mv 1) a0c) (fun _ _=>rfl)) (a0a (mv 5) a0e)))))) a0s) (a0d (a0y (PW.pt (a5b (a0q a1e (a0m a1d (mv 1) a0c) a0c (a0p _)) (a4u (a0q a8y (a1i (a2i K rfl) rfl T.n_len PySem.boot_len (a0a (mv 5) a0e)) a0c (a0p _))))) (a0g (a0n (a1c (a0a a0o (a0a (mv 4) (a0a (a6z (b1b K rfl) (mv 5) a8c (a8f (pe_un mu_neg a0c))) a0e)))))) a0s) (a0d (a0y (PW.pt (a5b (a0q a1e (a0m a1d (mv 1) a0c) a0c (a0p _)) (a4u (a0q mo_lt (a1i (a2i K rfl) rfl T.n_len PySem.boot_len (a0a (mv 5) a0e)) a0c (a0p _))))) (a0g (a0n (a1c (a0a a0o (a0a (mv 4) (a0a (a0m (a9x K rfl) (mv 5) (a1c (a0a (a1c (a0a a0o (a0a a0c a0e))) a0e))) a0e)))))) a0s) (a0g (a0n (a1c (a0a a0o (a0a (a0k (a0i K rfl) (mv 2) (a0m a1d (a0m (a1g K rfl) (a0m (a1g K rfl) (a7k K rfl F.plainAttrs_list F.slot_list_index F.type_list_index c6p (mv 2) (a0a (mv 4) a0e)) a0c) (a0m a1d (a0m a2f (mv 1) a0c) a0c)) a0c) (fun _ _=>rfl)) (a0a (mv 5) a0e)))))))))))),?_⟩
 rename_i v c wp
 obtain ⟨t0,ws,hd,hna,⟨hw,hwl,hwn⟩,har,hz,q⟩:=h
 have c5:=Int.emod_nonneg c (show (3:Int) ≠ 0 by decide)
 have c6:=Int.emod_lt_of_pos c (show (0:Int) < 3 by decide)
 have c7:=Int.emod_nonneg c (show (4:Int) ≠ 0 by decide)
 have c8:=Int.emod_lt_of_pos c (show (0:Int) < 4 by decide)
 cases t0 with
 | any nm0=>cases hna
 | num n0=>
  obtain ⟨a,rfl,hs⟩:=a1u hd
  walk_at "stp"
  refine a0l hs (v:=.str numS) rfl ?_
  walk_at "stp"
  refine iteB (fun e=>?_) (fun e=>absurd e (by decide +kernel))
  walk_at "stp"
  refine a0l hs (v:=.int n0) rfl ?_
  walk_at "stp"
  refine iteB (fun e=>?_) (fun e=>?_)
  ·walk_at "stp"
   refine a1b (SqL.of hw) (b0b (i:=0) (by omega)) ?_
   walk_at "stp"
   refine ⟨ln (by show 0<=100000; decide),fun p1 hp1=>?_⟩
   have s1:=a0f hp1 (.tup [])
   walk_at "stp"
   refine ⟨ln (by show 3<=100000; decide),fun r hr'=>?_⟩
   have s2:=a0f hr' (.tup [.str appS,.str ws[0],.ref p1])
   exact q r (.app ws[0] []) _ (s1.trans s2) (a1v (SqT.of a0b) (s2.tup (SqT.of a0b)) .nil) rfl b1l (by simp [Trm.size,Trm.sizeL]) (by rw [ar4,ar4L]; exact ⟨Nat.zero_le _,trivial⟩) (fun x hx=>by rw [Occ,OccL] at hx; exact hx.elim)
  have e3:c % 3 = 1\/c % 3 = 2:=by rw [Bool.false_xor] at e; have:=of_decide_eq_false e; omega
  walk_at "stp"
  refine iteB (fun e=>?_) (fun e=>?_)
  ·have hp:=of_decide_eq_true e
   walk_at "stp"
   refine ⟨ln (by show 2<=100000; decide),fun p1 hp1=>?_⟩
   have s1:=a0f hp1 (.lst [.int (n0 - 1),.int (0 - n0)])
   obtain ⟨y,hy,hy2⟩:∃ y:Int,atI [V.int (n0 - 1),V.int (0 - n0)] (c % 3 - 1) = some (.int y)/\y ≠ n0:=by
    rcases e3 with e3 | e3
    ·rw [e3]; exact ⟨_,rfl,by omega⟩
    ·rw [e3]; exact ⟨_,rfl,by omega⟩
   walk_at "stp"
   refine a1b (SqL.of a0b) hy ?_
   walk_at "stp"
   refine ⟨ln (by show 2<=100000; decide),fun r hr'=>?_⟩
   have s2:=a0f hr' (.tup [.str numS,.int y])
   exact q r (.num y) _ (s1.trans s2) (a9r (SqT.of a0b)) rfl (c5d hy2) (by simp [Trm.size]) (by rw [ar4]; trivial) (fun x hx=>by rw [Occ] at hx; exact hx.elim)
  have hp:=of_decide_eq_false e
  walk_at "stp"
  refine ⟨ln (by show 2<=100000; decide),fun p1 hp1=>?_⟩
  have s1:=a0f hp1 (.lst [.int (n0 + 1),.int (if 0 - n0 > 1 then 0 - n0 else 1)])
  obtain ⟨y,hy,hy2⟩:∃ y:Int,atI [V.int (n0 + 1),V.int (if 0 - n0 > 1 then 0 - n0 else 1)] (c % 3 - 1) = some (.int y)/\y ≠ n0:=by
   rcases e3 with e3 | e3
   ·rw [e3]; exact ⟨_,rfl,by omega⟩
   ·rw [e3]; exact ⟨_,rfl,by split <;> omega⟩
  walk_at "stp"
  refine a1b (SqL.of a0b) hy ?_
  walk_at "stp"
  refine ⟨ln (by show 2<=100000; decide),fun r hr'=>?_⟩
  have s2:=a0f hr' (.tup [.str numS,.int y])
  exact q r (.num y) _ (s1.trans s2) (a9r (SqT.of a0b)) rfl (c5d hy2) (by simp [Trm.size]) (by rw [ar4]; trivial) (fun x hx=>by rw [Occ] at hx; exact hx.elim)
 | app sg ks=>
  obtain ⟨a,b,us,rfl,hs,hb,hk⟩:=a2g hd
  have hkl:=hk.length
  rw [Trm.dataL_map,List.length_map] at hkl
  have zl:=Trm.len_le ks
  have har':=har
  rw [ar4] at har'
  walk_at "stp"
  refine a0l hs (v:=.str appS) rfl ?_
  walk_at "stp"
  refine iteB (fun e=>absurd e (by decide +kernel)) (fun e=>?_)
  walk_at "stp"
  refine a0l hs (v:=.str sg) rfl ?_
  walk_at "stp"
  refine a0l hs (v:=.ref b) rfl ?_
  walk_at "stp"
  refine c6j ws (.inl (SqL.of hw)) ?_
  walk_at "stp"
  obtain ⟨n4,hn4⟩:=Int.eq_ofNat_of_zero_le c7
  by_cases hin:sg ∈ ws
  rotate_left
  ·rw [decide_eq_false hin]
   refine iteB (fun e=>?_) (fun e=>absurd e (by simp))
   walk_at "stp"
   rw [hn4]
   have h4:n4 < ws.length:=by omega
   refine a1b (SqL.of hw) (b0b h4) ?_
   walk_at "stp"
   refine ⟨ln (by show 3<=100000; decide),fun r hr'=>?_⟩
   have sp:=a0f hr' (.tup [.str appS,.str ws[n4],.ref b])
   refine q r (.app ws[n4] ks) _ sp (a1v (SqT.of a0b) (sp.tup hb) (hk.mono sp)) rfl (b6b ?_) (by simp only [Trm.size]; omega) har (fun x hx=>by rw [Occ] at hx ⊢; exact hx)
   exact fun z=>hin (by rw [<- z]; exact List.getElem_mem h4)
  rw [decide_eq_true hin]
  refine iteB (fun e=>absurd e (by simp)) (fun e=>?_)
  walk_at "stp"
  refine iteB (fun e1=>?_) (fun e1=>?_)
  ·walk_at "stp"
   refine a9n hb ?_
   walk_at "stp"
   refine iteB (fun e2=>?_) (fun e2=>?_)
   ·have hl0:=of_decide_eq_true e2
    walk_at "stp"
    refine c6b hb hk (fun p1 H1 s1 d1=>?_)
    rw [c7f] at d1
    walk_at "stp"
    refine ⟨ln (by show 3<=100000; decide),fun r hr'=>?_⟩
    have s2:=a0f hr' (.tup [.str appS,.str sg,.ref p1])
    have zz:=b3z ks (ks.length - 1)
    refine q r (.app sg (ks.take (ks.length - 1))) _ (s1.trans s2) ?_ rfl (tky_l (by rw [List.length_take]; omega)) (by simp only [Trm.size]; omega) (by rw [ar4]; exact ⟨by rw [List.length_take]; omega,a1w.mpr fun t ht=>a1w.mp har'.2 t (List.mem_of_mem_take ht)⟩) (fun x hx=>by rw [Occ] at hx ⊢; exact c5e hx)
    exact .tup (SqT.of a0b) (.cons (.str _) (.cons (.str _) (.cons (d1.mono s2) .nil)))
   ·have e3:¬ c % 4 = 1:=by rw [Bool.false_xor] at e1; have:=of_decide_eq_true e1; omega
    walk_at "stp"
    rw [Bool.false_xor,decide_eq_false e3]
    refine iteF ?_
    refine iteF ?_
    walk_at "stp"
    refine ⟨.inl ⟨rfl,_,SqL.of hw⟩,?_⟩
    walk_at "stp"
    refine b7k hw hin (by omega) (fun j hj=>?_)
    walk_at "stp"
    have c9:=Int.emod_nonneg (c / 4) (show (3:Int) ≠ 0 by decide)
    have c10:=Int.emod_lt_of_pos (c / 4) (show (0:Int) < 3 by decide)
    have hj4:=(List.getElem?_eq_some_iff.mp hj).1
    obtain ⟨m,hm,hm4,hmj⟩:∃ m:Nat,((j:Int) + 1 + c / 4 % 3) % 4 = (m:Int)/\m < 4/\m ≠ j:=⟨(((j:Int) + 1 + c / 4 % 3) % 4).toNat,by omega,by omega,by omega⟩
    rw [hm]
    have hm5:m < ws.length:=by omega
    refine a1b (SqL.of hw) (b0b hm5) ?_
    walk_at "stp"
    refine ⟨ln (by show 3<=100000; decide),fun r hr'=>?_⟩
    have sp:=a0f hr' (.tup [.str appS,.str ws[m],.ref b])
    refine q r (.app ws[m] ks) _ sp (a1v (SqT.of a0b) (sp.tup hb) (hk.mono sp)) rfl (b6b ?_) (by simp only [Trm.size]; omega) har (fun x hx=>by rw [Occ] at hx ⊢; exact hx)
    rw [<- (List.getElem?_eq_some_iff.mp hj).2]
    exact b8n hwn hm5 hj4 hmj
  ·refine iteF ?_
   walk_at "stp"
   refine iteB (fun e3=>?_) (fun e3=>?_)
   ·walk_at "stp"
    refine a9n hb ?_
    walk_at "stp"
    refine iteB (fun e2=>?_) (fun e2=>?_)
    ·have hl0:=of_decide_eq_true e2
     walk_at "stp"
     refine ⟨ln (by show 2<=100000; decide),fun p1 hp1=>?_⟩
     have s1:=a0f hp1 (.tup [.str numS,.int 0])
     have k1:(upd H p1 (.tup [.str numS,.int 0])) p1 = some (.tup [.str numS,.int 0]):=a0b
     generalize upd H p1 (.tup [.str numS,.int 0]) = H1 at s1 k1 ⊢
     walk_at "stp"
     refine ⟨ln (by show 1<=100000; decide),fun p2 hp2=>?_⟩
     have s2:=a0f hp2 (.tup [.ref p1])
     have k2:(upd H1 p2 (.tup [.ref p1])) p2 = some (.tup [.ref p1]):=a0b
     generalize upd H1 p2 (.tup [.ref p1]) = H2 at s2 k2 ⊢
     have s12:=s1.trans s2
     walk_at "stp"
     refine a9y (s12.tup hb) (SqT.of k2) (ln (by rw [List.length_singleton]; omega)) (fun p3 H3 s3 k3=>?_)
     walk_at "stp"
     refine ⟨ln (by show 3<=100000; decide),fun r hr'=>?_⟩
     have s4:=a0f hr' (.tup [.str appS,.str sg,.ref p3])
     have ss:=s12.trans (s3.trans s4)
     have dk:DenL K (upd H3 r (.tup [.str appS,.str sg,.ref p3])) (us ++ [.ref p1]) (Trm.dataL (ks ++ [.num 0])):=by
      rw [Trm.dataL_map,List.map_append,<- Trm.dataL_map]
      exact (hk.mono ss).append (.cons (a9r (SqT.of ((s2.trans (s3.trans s4)) _ _ k1))) .nil)
     refine q r (.app sg (ks ++ [.num 0])) _ ss (a1v (SqT.of a0b) (s4.tup k3) dk) rfl (tky_l (by rw [List.length_append,List.length_singleton]; omega)) (by simp only [Trm.size]; rw [Trm.sizeL_app]; simp [Trm.sizeL,Trm.size]; omega) ?_ (fun x hx=>?_)
     ·rw [ar4]
      refine ⟨by rw [List.length_append,List.length_singleton]; omega,a1w.mpr fun t ht=>?_⟩
      rcases List.mem_append.mp ht with z | z
      ·exact a1w.mp har'.2 t z
      ·rw [List.mem_singleton.mp z,ar4]; trivial
     ·rw [Occ] at hx ⊢
      obtain ⟨t,ht,ho⟩:=a1s.mp hx
      rcases List.mem_append.mp ht with z | z
      ·exact a1s.mpr ⟨t,z,ho⟩
      ·rw [List.mem_singleton.mp z,Occ] at ho; exact ho.elim
    ·skip
     walk_at "stp"
     refine ⟨.inl ⟨rfl,_,SqL.of hw⟩,?_⟩
     walk_at "stp"
     refine b7k hw hin (by omega) (fun j hj=>?_)
     walk_at "stp"
     have c9:=Int.emod_nonneg (c / 4) (show (3:Int) ≠ 0 by decide)
     have c10:=Int.emod_lt_of_pos (c / 4) (show (0:Int) < 3 by decide)
     have hj4:=(List.getElem?_eq_some_iff.mp hj).1
     obtain ⟨m,hm,hm4,hmj⟩:∃ m:Nat,((j:Int) + 1 + c / 4 % 3) % 4 = (m:Int)/\m < 4/\m ≠ j:=⟨(((j:Int) + 1 + c / 4 % 3) % 4).toNat,by omega,by omega,by omega⟩
     rw [hm]
     have hm5:m < ws.length:=by omega
     refine a1b (SqL.of hw) (b0b hm5) ?_
     walk_at "stp"
     refine ⟨ln (by show 3<=100000; decide),fun r hr'=>?_⟩
     have sp:=a0f hr' (.tup [.str appS,.str ws[m],.ref b])
     refine q r (.app ws[m] ks) _ sp (a1v (SqT.of a0b) (sp.tup hb) (hk.mono sp)) rfl (b6b ?_) (by simp only [Trm.size]; omega) har (fun x hx=>by rw [Occ] at hx ⊢; exact hx)
     rw [<- (List.getElem?_eq_some_iff.mp hj).2]
     exact b8n hwn hm5 hj4 hmj
   ·refine iteF ?_
    walk_at "stp"
    refine ⟨.inl ⟨rfl,_,SqL.of hw⟩,?_⟩
    walk_at "stp"
    refine b7k hw hin (by omega) (fun j hj=>?_)
    walk_at "stp"
    have c9:=Int.emod_nonneg (c / 4) (show (3:Int) ≠ 0 by decide)
    have c10:=Int.emod_lt_of_pos (c / 4) (show (0:Int) < 3 by decide)
    have hj4:=(List.getElem?_eq_some_iff.mp hj).1
    obtain ⟨m,hm,hm4,hmj⟩:∃ m:Nat,((j:Int) + 1 + c / 4 % 3) % 4 = (m:Int)/\m < 4/\m ≠ j:=⟨(((j:Int) + 1 + c / 4 % 3) % 4).toNat,by omega,by omega,by omega⟩
    rw [hm]
    have hm5:m < ws.length:=by omega
    refine a1b (SqL.of hw) (b0b hm5) ?_
    walk_at "stp"
    refine ⟨ln (by show 3<=100000; decide),fun r hr'=>?_⟩
    have sp:=a0f hr' (.tup [.str appS,.str ws[m],.ref b])
    refine q r (.app ws[m] ks) _ sp (a1v (SqT.of a0b) (sp.tup hb) (hk.mono sp)) rfl (b6b ?_) (by simp only [Trm.size]; omega) har (fun x hx=>by rw [Occ] at hx ⊢; exact hx)
    rw [<- (List.getElem?_eq_some_iff.mp hj).2]
    exact b8n hwn hm5 hj4 hmj
end
section
variable {P:Program} {w:World} {K:W.Frag} {mg:Str->Option Value} {base:Heap} {t:Ad}
theorem c5f {us:List V} {lo hi:Option Int} (w:b3m us lo hi):cutV us lo hi = us:=by
 unfold cutV
 rw [w.1,w.2,List.drop_zero,Nat.sub_zero,List.take_length]
theorem b4a {K:W.Frag} {H:Hp} {a:Addr} {us:List V} {lo hi:Option Int} {Q:VK} (hs:SqT K H a us) (q:∀ p H',Same H H'->SqT K H' p (cutV us lo hi)->Q (.ref p) H'):mSlT K (.ref a) lo hi H Q:=
 ⟨a,us,rfl,hs,fun w=>q a H (Same.refl _) (by rw [c5f w]; exact hs),fun _ p hp=>q p _ (a0f hp _) (SqT.of a0b)⟩
theorem b8o (xs:List V) (k:Nat):cutV xs none (some (k:Int)) = xs.take k:=by
 unfold cutV
 rw [c3u _ _ (by omega),Int.toNat_natCast]
 show (xs.drop 0).take (min k xs.length - 0) = xs.take k
 rw [List.drop_zero,Nat.sub_zero]
 by_cases h:k<=xs.length
 ·rw [Nat.min_eq_left h]
 ·rw [Nat.min_eq_right (by omega),List.take_length,List.take_of_length_le (by omega)]
theorem b8p (xs:List V) (k:Nat):cutV xs (some (k:Int)) none = xs.drop k:=by
 unfold cutV
 rw [show HT.sIx xs.length 0 (some (k:Int)) = min k xs.length from HT.sIx_nat _ _ _]
 show (xs.drop (min k xs.length)).take (xs.length - min k xs.length) = xs.drop k
 rw [List.take_of_length_le (by rw [List.length_drop]; omega)]
 by_cases h:k<=xs.length
 ·rw [Nat.min_eq_left h]
 ·rw [Nat.min_eq_right (by omega),List.drop_of_length_le (by omega),List.drop_of_length_le (by omega)]
noncomputable def swp (ls:List Trm) (i:Nat) (u:Trm):List Trm:=ls.take i ++ [u] ++ ls.drop (i + 1)
theorem c5g {ls:List Trm} {i:Nat} {u:Trm} (h:i < ls.length):(swp ls i u)[i]? = some u:=by
 unfold swp
 rw [List.append_assoc,List.getElem?_append_right (by rw [List.length_take]; omega),List.length_take,Nat.min_eq_left (by omega),Nat.sub_self]
 rfl
theorem swp_len {ls:List Trm} {i:Nat} {u:Trm} (h:i < ls.length):(swp ls i u).length = ls.length:=by
 unfold swp
 rw [List.length_append,List.length_append,List.length_take,List.length_drop,List.length_singleton]
 omega
theorem b8q {ls:List Trm} {i:Nat} {u:Trm} (h:i < ls.length):Trm.sizeL (swp ls i u) + ls[i].size = Trm.sizeL ls + u.size:=by
 have e:=Trm.sizeL_app (ls.take i) (ls.drop i)
 rw [List.take_append_drop,List.drop_eq_getElem_cons h,Trm.sizeL] at e
 unfold swp
 rw [Trm.sizeL_app,Trm.sizeL_app]
 simp only [Trm.sizeL]
 omega
theorem c0q {ls:List Trm} {i:Nat} {u t:Trm} (h:t ∈ swp ls i u):t = u\/t ∈ ls:=by
 unfold swp at h
 rcases List.mem_append.mp h with z | z
 ·rcases List.mem_append.mp z with z | z
  ·exact .inr (List.mem_of_mem_take z)
  ·exact .inl (List.mem_singleton.mp z)
 ·exact .inr (List.mem_of_mem_drop z)
theorem c5h {s:Str} {ls:List Trm} {i:Nat} {u:Trm} (h:i < ls.length) (ha:ar4 (.app s ls)) (hu:ar4 u):ar4 (.app s (swp ls i u)):=by
 rw [ar4] at ha ⊢
 refine ⟨by rw [swp_len h]; exact ha.1,a1w.mpr fun t ht=>?_⟩
 rcases c0q ht with z | z
 ·rw [z]; exact hu
 ·exact a1w.mp ha.2 t z
theorem c0r {s:Str} {ls:List Trm} {i:Nat} {u:Trm} {x:Str} (h:Occ x (.app s (swp ls i u))):Occ x u\/Occ x (.app s ls):=by
 rw [Occ] at h
 obtain ⟨t,h1,h2⟩:=a1s.mp h
 rcases c0q h1 with z | z
 ·rw [z] at h2; exact .inl h2
 ·exact .inr (by rw [Occ]; exact a1s.mpr ⟨t,z,h2⟩)
theorem DenL.cutD {K:W.Frag} {H:Hp}:∀ {us:List V} {ds:List PyData} (n:Nat),DenL K H us ds->DenL K H (us.take n) (ds.take n)/\DenL K H (us.drop n) (ds.drop n)
 | _,_,0,h=>by rw [List.take_zero,List.take_zero,List.drop_zero,List.drop_zero]; exact ⟨.nil,h⟩
 | _,_,n + 1,.nil=>by simp only [List.take_nil,List.drop_nil]; exact ⟨.nil,.nil⟩
 | _,_,n + 1,.cons h r=>by
  have ih:=DenL.cutD n r
  simp only [List.take_succ_cons,List.drop_succ_cons]
  exact ⟨.cons h ih.1,ih.2⟩
theorem c0s {K:W.Frag} {H:Hp} {us:List V} {ls:List Trm} {i:Nat} {r:V} {u:Trm} (h:DenL K H us (Trm.dataL ls)) (hu:Den K H r u.data):DenL K H (us.take i ++ [r] ++ us.drop (i + 1)) (Trm.dataL (swp ls i u)):=by
 rw [Trm.dataL_map] at h ⊢
 unfold swp
 rw [List.map_append,List.map_append,List.map_take,List.map_drop]
 exact ((DenL.cutD i h).1.append (.cons hu .nil)).append (DenL.cutD (i + 1) h).2
theorem b2d {K:W.Frag} {H:Hp} {us:List V} {ls:List Trm} {i:Nat} (h:DenL K H us (Trm.dataL ls)) (hi:i < ls.length):∃ u,atI us (i:Int) = some u/\Den K H u ls[i].data:=by
 have hl:=h.length
 rw [Trm.dataL_map,List.length_map] at hl
 obtain ⟨v,e1,e2⟩:=a5r (xs:=us) (i:=(i:Int)) (by omega) (by omega)
 rw [Int.toNat_natCast] at e2
 obtain ⟨d,e3,e4⟩:=h.get e2
 rw [Trm.dataL_map,List.getElem?_map,List.getElem?_eq_getElem hi] at e3
 cases e3
 exact ⟨v,e1,e4⟩
theorem b8r (T:Txt K mg t) (G_l_next:FnOk P w K mg base CX0 1 t.a_l_next t.d_l_next ["_law_left"] (a3o)) (G_l_other:FnOk P w K mg base CX0 1 t.a_l_other t.d_l_other ["_law_term_here","_law_cell","_law_words_here"] (a6y K)) (n:Nat) (G_l_spoiled:FnOk P w K mg base CX0 (n + 2) t.a_l_spoiled t.d_l_spoiled ["_law_one","_law_other_here","_law_left","_law_words_here"] (a2u K n)):FnOk P w K mg base CX0 (n + 2 + 1) t.a_l_spoiled t.d_l_spoiled ["_law_one","_law_other_here","_law_left","_law_words_here"] (a2u K (n + 1)):=by
 refine T.F_l_spoiled.ok (k:=n + 2) a4b (fun vs H Q E h=>?_) (fun cdv A outer s H vs Q E hr h=>?_)
 ·unfold a2u at h
  split at h
  ·rfl
  ·exact h.elim
 unfold a2u at h
 split at h
 rotate_left
 ·exact h.elim
 refine ⟨_,(a0d (a0y (PW.pt (pw_or (a0q a1e (a0k (a0i K rfl) (mv 0) a0c (fun _ _=>rfl)) a0o (a0p _)) (b6e (a0q a1e (a0k (a0i K rfl) (mv 1) a0c (fun _ _=>rfl)) a0o (a0p _))))) (a0g (a0n a3m)) a0s) (a0d (a0r (i:=4) (hs:=a1h) a4b.nd rfl (by walk_at "or1") (a0z G_l_next (hr.mono (by first | decide | omega)) rfl T.m_l_next T.F_l_next.kp T.b_l_next .nil a0v (a0a (mv 2) a0e))) (a0d (a0y (PW.pt (a5b (a0q a1e (a0k (a0i K rfl) (mv 0) a0c (fun _ _=>rfl)) a0o (a0p _)) (a5b (a0q a8y (a1i (a2i K rfl) rfl T.n_len PySem.boot_len (a0a (a0k (a0i K rfl) (mv 0) a0c (fun _ _=>rfl)) a0e)) a0c (a0p _)) (a4u (a0q a8y (a0m a1d (mv 4) a0c) a0c (a0p _)))))) (a0d (a0r (i:=5) (hs:=a1h) a4b.nd rfl (by walk_at "or1") (a1i (a2i K rfl) rfl T.n_len PySem.boot_len (a0a (a0k (a0i K rfl) (mv 0) a0c (fun _ _=>rfl)) a0e))) (a0g (a4a PassesOwn.never rfl (a4f rfl T.n_range (a0a (mv 5) a0e)) (a3e (i:=6) a4b.nd rfl (by walk_at "or1")) (a0d (a0r (i:=7) (hs:=a3h) a4b.nd rfl (by walk_at "or1") (a0m a1d (a0m (a1g K rfl) (a0m a2f (mv 4) a0c) (mv 6)) (mv 5))) (a0d (a0r (i:=8) (hs:=a1h) a4b.nd rfl (by walk_at "or1") (a0z G_l_spoiled (hr.mono (by first | decide | omega)) rfl T.m_l_spoiled T.F_l_spoiled.kp T.b_l_spoiled .nil a0v (a0a (a0k (a0i K rfl) (a0k (a0i K rfl) (mv 0) a0c (fun _ _=>rfl)) (mv 7) (fun _ _=>rfl)) (a0a (a0k (a0i K rfl) (a0k (a0i K rfl) (mv 1) a0c (fun _ _=>rfl)) (mv 7) (fun _ _=>rfl)) (a0a (mv 2) (a0a (mv 3) a0e)))))) (a0g (a0y (a0q b1t (mv 8) a3m (a0p _)) (a0g (a0n (a1c (a0a a0o (a0a (a0k (a0i K rfl) (mv 1) a0c (fun _ _=>rfl)) (a0a (a0m (a9x K rfl) (a0m (a9x K rfl) (a6z (b1b K rfl) (a0k (a0i K rfl) (mv 1) a0c (fun _ _=>rfl)) a8c (a8f (mv 7))) (a1c (a0a (mv 8) a0e))) (a6z (b1b K rfl) (a0k (a0i K rfl) (mv 1) a0c (fun _ _=>rfl)) (a8f (a0m (a1g K rfl) (mv 7) a0c)) a8c)) a0e)))))) a0s))))))) a0s) (a0g (a0n (a0z G_l_other (hr.mono (by first | decide | omega)) rfl T.m_l_other T.F_l_other.kp T.b_l_other .nil a0v (a0a (mv 1) (a0a (a0m a2f (mv 4) a0c) (a0a (mv 3) a0e))))))))),?_⟩
 rename_i v1 v2 p wp
 obtain ⟨t1,t2,ns,ws,hd1,hd2,hcom,hp,hW,hpw,hz1,hn,har,hz2,q⟩:=h
 have nonQ:Q .non H:=(q ns H (But.refl _ _) (fun b h=>h) hp).1
 cases t1 with
 | any x1=>
  obtain ⟨a1,rfl,hs1⟩:=a1x hd1
  walk_at "stp"
  refine a0l hs1 (v:=.str anyS) rfl ?_
  walk_at "stp"
  refine iteB (fun e=>?_) (fun e=>absurd e (by decide +kernel))
  refine iteT ?_
  walk_at "stp"
  exact nonQ
 | num n1=>
  obtain ⟨a1,rfl,hs1⟩:=a1u hd1
  walk_at "stp"
  refine a0l hs1 (v:=.str numS) rfl ?_
  walk_at "stp"
  refine iteB (fun e=>absurd e (by decide +kernel)) (fun e=>?_)
  walk_at "stp"
  cases t2 with
  | any x2=>
   obtain ⟨a2,rfl,hs2⟩:=a1x hd2
   refine a0l hs2 (v:=.str anyS) rfl ?_
   walk_at "stp"
   refine iteB (fun e=>?_) (fun e=>absurd e (by decide +kernel))
   walk_at "stp"
   exact nonQ
  | app s2 ls=>
   have:=hcom.key rfl rfl
   exact absurd this.symm b1l
  | num n2=>
   have hkey:=hcom.key rfl rfl
   obtain ⟨a2,rfl,hs2⟩:=a1u hd2
   refine a0l hs2 (v:=.str numS) rfl ?_
   walk_at "stp"
   refine iteB (fun e=>absurd e (by decide +kernel)) (fun e=>?_)
   walk_at "stp"
   refine ⟨ns,hp,fun c ns1 H1 b1 f1 hp1=>?_⟩
   walk_at "stm"
   (with_reducible refine a2k (fun σ' J=>∃ (ns':List Int) (o5 o6 o7 o8:Option V),σ' = [some (.ref a1),some (.ref a2),some (.ref p),some (.ref wp),some (.int c),o5,o6,o7,o8]/\But p H J/\(∀ b,J b = none->H b = none)/\J p = some (.lst (ns'.map V.int))) (fun σ' J hP=>?_) (fun kk=>?_))
   ·obtain ⟨ns',o5,o6,o7,o8,rfl,bj,fj,pj⟩:=hP
    walk_at "stp"
    refine ⟨.num n2,ws,bj.den hp hd2,rfl,⟨bj _ _ (Ne.symm hpw) hW.1,hW.2⟩,har,hz2,fun r u J2 s2 d2 na ky su au ou=>?_⟩
    exact (q ns' J2 (bj.trans s2.but) (fun b hb=>fj b (s2.free hb)) (s2 _ _ pj)).2 r u d2 (c0o rfl na (by rw [hkey]; exact Ne.symm ky)) su au ou
   ·walk_at "stm"
    refine a0l (b1.tup hp hs1) (v:=.str numS) rfl ?_
    walk_at "stm"
    refine iteB (fun e=>absurd e (by decide +kernel)) (fun e=>?_)
    refine iteF ?_
    (with_reducible refine a8h ?_)
    exact kk _ _ ⟨ns1,_,_,_,_,rfl,b1,f1,hp1⟩
 | app s1 ks=>
  obtain ⟨a1,c1,us1,rfl,hs1,hb1,hk1⟩:=a2g hd1
  have hkl1:=hk1.length
  rw [Trm.dataL_map,List.length_map] at hkl1
  walk_at "stp"
  refine a0l hs1 (v:=.str appS) rfl ?_
  walk_at "stp"
  refine iteB (fun e=>absurd e (by decide +kernel)) (fun e=>?_)
  walk_at "stp"
  cases t2 with
  | any x2=>
   obtain ⟨a2,rfl,hs2⟩:=a1x hd2
   refine a0l hs2 (v:=.str anyS) rfl ?_
   walk_at "stp"
   refine iteB (fun e=>?_) (fun e=>absurd e (by decide +kernel))
   walk_at "stp"
   exact nonQ
  | num n2=>
   have:=hcom.key rfl rfl
   exact absurd this b1l
  | app s2 ls=>
   have hkey:=hcom.key rfl rfl
   obtain ⟨es,el,ec⟩:=hcom.app
   obtain ⟨a2,c2,us2,rfl,hs2,hb2,hk2⟩:=a2g hd2
   have hkl2:=hk2.length
   rw [Trm.dataL_map,List.length_map] at hkl2
   have zl:=Trm.len_le ks
   simp only [Trm.size] at hz1
   refine a0l hs2 (v:=.str appS) rfl ?_
   walk_at "stp"
   refine iteB (fun e=>absurd e (by decide +kernel)) (fun e=>?_)
   walk_at "stp"
   refine ⟨ns,hp,fun c ns1 H1 b1 f1 hp1=>?_⟩
   walk_at "stm"
   (with_reducible refine a2k (fun σ' J=>∃ (ns':List Int) (o5 o6 o7 o8:Option V),σ' = [some (.ref a1),some (.ref a2),some (.ref p),some (.ref wp),some (.int c),o5,o6,o7,o8]/\But p H J/\(∀ b,J b = none->H b = none)/\J p = some (.lst (ns'.map V.int))) (fun σ' J hP=>?_) (fun kk=>?_))
   ·obtain ⟨ns',o5,o6,o7,o8,rfl,bj,fj,pj⟩:=hP
    walk_at "stp"
    refine ⟨.app s2 ls,ws,bj.den hp hd2,rfl,⟨bj _ _ (Ne.symm hpw) hW.1,hW.2⟩,har,hz2,fun r u J2 s2 d2 na ky su au ou=>?_⟩
    exact (q ns' J2 (bj.trans s2.but) (fun b hb=>fj b (s2.free hb)) (s2 _ _ pj)).2 r u d2 (c0o rfl na (by rw [hkey]; exact Ne.symm ky)) su au ou
   walk_at "stm"
   refine a0l (b1.tup hp hs1) (v:=.str appS) rfl ?_
   walk_at "stm"
   refine iteB (fun e=>?_) (fun e=>absurd e (by decide +kernel))
   walk_at "stm"
   refine a0l (b1.tup hp hs1) (v:=.ref c1) rfl ?_
   walk_at "stm"
   refine a9n (b1.tup hp hb1) ?_
   walk_at "stm"
   refine iteB (fun e1=>?_) (fun e1=>?_)
   rotate_left
   ·refine iteF ?_
    (with_reducible refine a8h ?_)
    exact kk _ _ ⟨ns1,_,_,_,_,rfl,b1,f1,hp1⟩
   have hpos:=of_decide_eq_true e1
   walk_at "stm"
   refine iteB (fun e2=>?_) (fun e2=>?_)
   rotate_left
   ·(with_reducible refine a8h ?_)
    exact kk _ _ ⟨ns1,_,_,_,_,rfl,b1,f1,hp1⟩
   (with_reducible refine b0z ?_)
   walk_at "stm"
   refine a0l (b1.tup hp hs1) (v:=.ref c1) rfl ?_
   walk_at "stm"
   refine a9n (b1.tup hp hb1) ?_
   walk_at "stm"
   refine ⟨_,rfl,by omega,by omega,?_⟩
   refine a3f (a4g 0 _) (fun i σ' J=>∃ (ns':List Int) (o6 o7 o8:Option V),σ' = [some (.ref a1),some (.ref a2),some (.ref p),some (.ref wp),some (.int c),some (.int (us1.length:Int)),o6,o7,o8]/\But p H J/\(∀ b,J b = none->H b = none)/\J p = some (.lst (ns'.map V.int))) ⟨ns1,_,_,_,rfl,b1,f1,hp1⟩ (fun _ _ _ _=>trivial) (fun i σ' J hi hP=>?_) (fun σ' J hP=>?_)
   rotate_left
   ·obtain ⟨ns',o6,o7,o8,rfl,bj,fj,pj⟩:=hP
    exact kk _ _ ⟨ns',_,_,_,_,rfl,bj,fj,pj⟩
   obtain ⟨ns',o6,o7,o8,rfl,bj,fj,pj⟩:=hP
   rw [Int.toNat_natCast] at hi
   walk_at "stp"
   refine m2_i (show (0:Int) < _ by omega) ?_
   have m1:=Int.emod_nonneg (c / 3 + (0 + (i:Int))) (show ((us1.length:Nat):Int) ≠ 0 by omega)
   have m2:=Int.emod_lt_of_pos (c / 3 + (0 + (i:Int))) (show (0:Int) < ((us1.length:Nat):Int) by omega)
   generalize (c / 3 + (0 + (i:Int))) % ((us1.length:Nat):Int) = at0 at m1 m2 ⊢
   obtain ⟨k,rfl⟩:=Int.eq_ofNat_of_zero_le m1
   have hk1':k < ks.length:=by omega
   have hk2':k < ls.length:=by omega
   obtain ⟨w1,x1,y1⟩:=b2d hk1 hk1'
   obtain ⟨w2,x2,y2⟩:=b2d hk2 hk2'
   have zk:=a4p (List.getElem?_eq_getElem hk1')
   have zk2:=a4p (List.getElem?_eq_getElem hk2')
   have hz2':=hz2
   rw [Trm.size] at hz2'
   have har':=har
   rw [ar4] at har'
   walk_at "stp"
   refine a0l (bj.tup hp hs1) (v:=.ref c1) rfl ?_
   walk_at "stp"
   refine a0l (bj.tup hp hb1) x1 ?_
   walk_at "stp"
   refine a0l (bj.tup hp hs2) (v:=.ref c2) rfl ?_
   walk_at "stp"
   refine a0l (bj.tup hp hb2) x2 ?_
   walk_at "stp"
   refine ⟨ks[k],ls[k],ns',ws,bj.den hp y1,bj.den hp y2,ec k _ _ (List.getElem?_eq_getElem hk1') (List.getElem?_eq_getElem hk2'),pj,⟨bj _ _ (Ne.symm hpw) hW.1,hW.2⟩,hpw,by omega,by omega,a1w.mp har'.2 _ (List.getElem_mem hk2'),by omega,fun ns2 J2 b2 f2 hp2=>⟨?_,fun r u du nu su au ou=>?_⟩⟩
   ·walk_at "stp"
    refine iteF ?_
    walk_at "stp"
    exact ⟨ns2,_,_,_,rfl,bj.trans b2,fun b hb=>fj b (f2 b hb),hp2⟩
   have bJ:=bj.trans b2
   walk_at "stp"
   refine iteT ?_
   walk_at "stp"
   refine a0l (bJ.tup hp hs2) (v:=.str s2) rfl ?_
   walk_at "stp"
   refine a0l (bJ.tup hp hs2) (v:=.ref c2) rfl ?_
   walk_at "stp"
   refine b4a (bJ.tup hp hb2) (fun p3 J3 s3 k3=>?_)
   rw [b8o] at k3
   walk_at "stp"
   refine ⟨ln (by show 1<=100000; decide),fun p4 hp4=>?_⟩
   have s4:=a0f hp4 (.tup [.ref r])
   have k4:(upd J3 p4 (.tup [.ref r])) p4 = some (.tup [.ref r]):=a0b
   generalize upd J3 p4 (.tup [.ref r]) = J4 at s4 k4 ⊢
   walk_at "stp"
   refine a9y (s4.tup k3) (SqT.of k4) (ln (by rw [List.length_take,List.length_singleton]; omega)) (fun p5 J5 s5 k5=>?_)
   walk_at "stp"
   have s35:=s3.trans (s4.trans s5)
   refine a0l (s35.tup (bJ.tup hp hs2)) (v:=.ref c2) rfl ?_
   walk_at "stp"
   refine b4a (s35.tup (bJ.tup hp hb2)) (fun p6 J6 s6 k6=>?_)
   rw [show ((k:Int) + 1) = ((k + 1:Nat):Int) by omega,b8p] at k6
   walk_at "stp"
   refine a9y (s6.tup k5) k6 (ln (by rw [List.length_append,List.length_take,List.length_singleton,List.length_drop]; omega)) (fun p7 J7 s7 k7=>?_)
   walk_at "stp"
   refine ⟨ln (by show 3<=100000; decide),fun p8 hp8=>?_⟩
   have s8:=a0f hp8 (.tup [.str appS,.str s2,.ref p7])
   have ss:=s35.trans (s6.trans (s7.trans s8))
   have zs:=b8q (u:=u) hk2'
   refine (q ns2 _ (bJ.trans ss.but) (fun b hb=>fj b (f2 b (ss.free hb))) (ss _ _ hp2)).2 p8 (.app s2 (swp ls k u)) (a1v (SqT.of a0b) (s8.tup k7) (c0s ((bJ.denL hp hk2).mono ss) (du.mono ss))) (NoU.app (List.getElem?_eq_getElem hk1') (c5g hk2') nu) (by simp only [Trm.size]; omega) (c5h hk2' har au) (fun x hx=>?_)
   rcases c0r hx with z | z
   ·rw [Occ]; exact a1s.mpr ⟨_,List.getElem_mem hk2',ou x z⟩
   ·exact z
theorem b8s (T:Txt K mg t) (G_l_next:FnOk P w K mg base CX0 1 t.a_l_next t.d_l_next ["_law_left"] (a3o)) (G_l_other:FnOk P w K mg base CX0 1 t.a_l_other t.d_l_other ["_law_term_here","_law_cell","_law_words_here"] (a6y K)) (n:Nat):FnOk P w K mg base CX0 (n + 2) t.a_l_spoiled t.d_l_spoiled ["_law_one","_law_other_here","_law_left","_law_words_here"] (a2u K n):=by
 induction n with
 | zero=>
  have no:∀ vs H Q E,(a2u K 0) vs H Q E->False:=fun vs H Q E h=>by
   unfold a2u at h
   split at h
   ·exact b8j h
   ·exact h
  exact ⟨fun vs H Q E h=>(no vs H Q E h).elim,fun A outer s H args us vs Q E _ _ _ _ h=>(no vs H Q E h).elim⟩
 | succ n ih=>
  have e:n + 1 + 2 = n + 2 + 1:=by omega
  rw [e]
  exact b8r T G_l_next G_l_other n ih
end
section
variable {P:Program} {w:World} {K:W.Frag} {mg:Str->Option Value} {base:Heap} {t:Ad}
theorem b1m {K:W.Frag} {G:Hp} {x1:Str} {a1 p1 p2 p3 p4 p5 p6:Addr} (c:Int) (da:Den K G (.ref a1) (Trm.any x1).data) (k1:SqT K G p1 [.str numS,.int 0]) (k2:SqT K G p2 [.ref p1,.ref a1]) (k3:SqT K G p3 [.ref a1]) (k4:SqT K G p4 [.ref a1,.ref a1]) (k5:SqT K G p5 [.str appS,.str (Str.ofString "g"),.ref p4]) (k6:SqT K G p6 [.ref p5]):∃ (pk:Addr) (us:List V) (ks:List Trm),atI [V.ref p2,V.ref p3,V.ref p6] (c % 3) = some (.ref pk)/\SqT K G pk us/\DenL K G us (Trm.dataL ks)/\OccL x1 ks/\Trm.sizeL ks<=3/\ar4 (.app (Str.ofString "f") ks)/\(∀ y,OccL y ks->y = x1):=by
 have c5:=Int.emod_nonneg c (show (3:Int) ≠ 0 by decide)
 have c6:=Int.emod_lt_of_pos c (show (0:Int) < 3 by decide)
 rcases (by omega:c % 3 = 0\/c % 3 = 1\/c % 3 = 2) with e | e | e <;> rw [e]
 ·exact ⟨p2,_,[.num 0,.any x1],rfl,k2,.cons (a9r k1) (.cons da .nil),by simp [OccL,Occ],by simp [Trm.sizeL,Trm.size],by simp [ar4,ar4L],fun y hy=>by simp only [OccL,Occ,false_or,or_false] at hy; exact hy.symm⟩
 ·exact ⟨p3,_,[.any x1],rfl,k3,.cons da .nil,by simp [OccL,Occ],by simp [Trm.sizeL,Trm.size],by simp [ar4,ar4L],fun y hy=>by simp only [OccL,Occ,or_false] at hy; exact hy.symm⟩
 ·exact ⟨p6,_,[.app (Str.ofString "g") [.any x1,.any x1]],rfl,k6,.cons (a1v k5 k4 (.cons da (.cons da .nil))) .nil,by simp [OccL,Occ],by simp [Trm.sizeL,Trm.size],by simp [ar4,ar4L],fun y hy=>by simp only [OccL,Occ,or_false,or_self] at hy; exact hy.symm⟩
theorem b9n (T:Txt K mg t)  (n:Nat) (G_l_ringed:FnOk P w K mg base CX0 (n + 2) t.a_l_ringed t.d_l_ringed ["_law_one","_law_other_here","_law_cell"] (a3d K n)):FnOk P w K mg base CX0 (n + 2 + 1) t.a_l_ringed t.d_l_ringed ["_law_one","_law_other_here","_law_cell"] (a3d K (n + 1)):=by
 refine T.F_l_ringed.ok (k:=n + 2) a5s (fun vs H Q E h=>?_) (fun cdv A outer s H vs Q E hr h=>?_)
 ·unfold a3d at h
  split at h
  ·rfl
  ·exact h.elim
 unfold a3d at h
 split at h
 rotate_left
 ·exact h.elim
 refine ⟨_,(@QSs.pss _ _ _ (a8q (qs_if (PW.pt (a5b (a0q a1e (a0k (a0i K rfl) (mv 1) a0c (fun _ _=>rfl)) a0o (a0p _)) (a4u (a0q b3k (a0k (a0i K rfl) (mv 0) a0c (fun _ _=>rfl)) a0o (a0p _))))) (b1u (b3n (a0n a3m))) b4i) (a8q (qs_if (a0q a1e (a0k (a0i K rfl) (mv 0) a0c (fun _ _=>rfl)) a0o (a0p _)) (b1u (qs_ret (a8s (a2t (a6s a0o) (a2t (a6s a0o) (a2t (qe_ix (a0i K rfl) (qe_lst (a2t (a8s (a2t (a8s (a2t (a6s a0o) (a2t (a6s a0c) a7q rfl) rfl)) (a2t (a6s (mv 0)) a7q rfl) rfl)) (a2t (a8s (a2t (a6s (mv 0)) a7q rfl)) (a2t (a8s (a2t (a8s (a2t (a6s a0o) (a2t (a6s a0o) (a2t (a8s (a2t (a6s (mv 0)) (a2t (a6s (mv 0)) a7q rfl) rfl)) a7q rfl) rfl) rfl)) a7q rfl)) a7q rfl) rfl) rfl)) (a6s (a0m a1d (mv 2) a0c)) (fun _ _=>rfl)) a7q rfl) rfl) rfl)))) b4i) (a8q (qs_if (a0q a1e (a0k (a0i K rfl) (mv 0) a0c (fun _ _=>rfl)) a0o (a0p _)) (b1u (b3n (a0n a3m))) b4i) (a8q (b3n (a0r (i:=3) (hs:=a1h) a5s.nd rfl (by walk_at "or1") (a1i (a2i K rfl) rfl T.n_len PySem.boot_len (a0a (a0k (a0i K rfl) (mv 0) a0c (fun _ _=>rfl)) a0e)))) (a8q (b3n (a4a PassesOwn.never rfl (a4f rfl T.n_range (a0a (mv 3) a0e)) (a3e (i:=4) a5s.nd rfl (by walk_at "or1")) (a0d (a0r (i:=5) (hs:=a3h) a5s.nd rfl (by walk_at "or1") (a0m a1d (a0m (a1g K rfl) (mv 2) (mv 4)) (mv 3))) (a0d (a0r (i:=6) (hs:=a1h) a5s.nd rfl (by walk_at "or1") (a0z G_l_ringed (hr.mono (by first | decide | omega)) rfl T.m_l_ringed T.F_l_ringed.kp T.b_l_ringed .nil a0v (a0a (a0k (a0i K rfl) (a0k (a0i K rfl) (mv 0) a0c (fun _ _=>rfl)) (mv 5) (fun _ _=>rfl)) (a0a (a0k (a0i K rfl) (a0k (a0i K rfl) (mv 1) a0c (fun _ _=>rfl)) (mv 5) (fun _ _=>rfl)) (a0a (mv 2) a0e))))) (a0g (a0y (a0q b1t (mv 6) a3m (a0p _)) (a0g (a0n (a1c (a0a a0o (a0a (a0k (a0i K rfl) (mv 1) a0c (fun _ _=>rfl)) (a0a (a0m (a9x K rfl) (a0m (a9x K rfl) (a6z (b1b K rfl) (a0k (a0i K rfl) (mv 1) a0c (fun _ _=>rfl)) a8c (a8f (mv 5))) (a1c (a0a (mv 6) a0e))) (a6z (b1b K rfl) (a0k (a0i K rfl) (mv 1) a0c (fun _ _=>rfl)) (a8f (a0m (a1g K rfl) (mv 5) a0c)) a8c)) a0e)))))) a0s)))))) (b1u (b3n (a0n a3m))))))))),?_⟩
 rename_i v1 v2 c
 obtain ⟨t1,t2,hd1,hd2,hcom,hz1,hn,har,hz2,q⟩:=h
 have nonQ:∀ H',Same H H'->Q .non H':=fun H' s=>(q H' s).1
 obtain ⟨a2,us2,rfl,hS2⟩:∃ a us,v2 = .ref a/\SqT K H a us:=by cases t2 <;> (cases hd2 with | tup hs hl=>exact ⟨_,_,rfl,hs⟩)
 cases t1 with
 | any x1=>
  obtain ⟨a1,rfl,hs1⟩:=a1x hd1
  walk_at "stp"
  cases t2 with
  | any x2=>
   obtain ⟨a2',e,hs2⟩:=a1x hd2
   cases e
   refine a0l hs2 (v:=.str anyS) rfl ?_
   walk_at "stp"
   refine iteB (fun e=>?_) (fun e=>absurd e (by decide +kernel))
   walk_at "stp"
   refine a0l hs1 (v:=.str anyS) rfl ?_
   walk_at "stp"
   refine iteB (fun e=>absurd e (by decide +kernel)) (fun e=>?_)
   walk_at "stp"
   refine a0l hs1 (v:=.str anyS) rfl ?_
   walk_at "stp"
   refine iteB (fun e=>?_) (fun e=>absurd e (by decide +kernel))
   walk_at "stp"
   refine ⟨ln (by show 2<=100000; decide),fun p1 hp1=>?_⟩
   have sp1:=a0f hp1 (.tup [.str numS,.int 0])
   have kp1:(upd H p1 (.tup [.str numS,.int 0])) p1 = some (.tup [.str numS,.int 0]):=a0b
   generalize upd H p1 (.tup [.str numS,.int 0]) = G1 at sp1 kp1 ⊢
   walk_at "stp"
   refine ⟨ln (by show 2<=100000; decide),fun p2 hp2=>?_⟩
   have sp2:=a0f hp2 (.tup [.ref p1,.ref a1])
   have kp2:(upd G1 p2 (.tup [.ref p1,.ref a1])) p2 = some (.tup [.ref p1,.ref a1]):=a0b
   generalize upd G1 p2 (.tup [.ref p1,.ref a1]) = G2 at sp2 kp2 ⊢
   walk_at "stp"
   refine ⟨ln (by show 1<=100000; decide),fun p3 hp3=>?_⟩
   have sp3:=a0f hp3 (.tup [.ref a1])
   have kp3:(upd G2 p3 (.tup [.ref a1])) p3 = some (.tup [.ref a1]):=a0b
   generalize upd G2 p3 (.tup [.ref a1]) = G3 at sp3 kp3 ⊢
   walk_at "stp"
   refine ⟨ln (by show 2<=100000; decide),fun p4 hp4=>?_⟩
   have sp4:=a0f hp4 (.tup [.ref a1,.ref a1])
   have kp4:(upd G3 p4 (.tup [.ref a1,.ref a1])) p4 = some (.tup [.ref a1,.ref a1]):=a0b
   generalize upd G3 p4 (.tup [.ref a1,.ref a1]) = G4 at sp4 kp4 ⊢
   walk_at "stp"
   refine ⟨ln (by show 3<=100000; decide),fun p5 hp5=>?_⟩
   have sp5:=a0f hp5 (.tup [.str appS,.str (Str.ofString "g"),.ref p4])
   have kp5:(upd G4 p5 (.tup [.str appS,.str (Str.ofString "g"),.ref p4])) p5 = some (.tup [.str appS,.str (Str.ofString "g"),.ref p4]):=a0b
   generalize upd G4 p5 (.tup [.str appS,.str (Str.ofString "g"),.ref p4]) = G5 at sp5 kp5 ⊢
   walk_at "stp"
   refine ⟨ln (by show 1<=100000; decide),fun p6 hp6=>?_⟩
   have sp6:=a0f hp6 (.tup [.ref p5])
   have kp6:(upd G5 p6 (.tup [.ref p5])) p6 = some (.tup [.ref p5]):=a0b
   generalize upd G5 p6 (.tup [.ref p5]) = G6 at sp6 kp6 ⊢
   walk_at "stp"
   refine ⟨ln (by show 3<=100000; decide),fun p7 hp7=>?_⟩
   have sp7:=a0f hp7 (.lst [.ref p2,.ref p3,.ref p6])
   have kp7:(upd G6 p7 (.lst [.ref p2,.ref p3,.ref p6])) p7 = some (.lst [.ref p2,.ref p3,.ref p6]):=a0b
   generalize upd G6 p7 (.lst [.ref p2,.ref p3,.ref p6]) = G7 at sp7 kp7 ⊢
   walk_at "stp"
   have t6:=sp6.trans sp7
   have t5:=sp5.trans t6
   have t4:=sp4.trans t5
   have t3:=sp3.trans t4
   have t2':=sp2.trans t3
   have t1:=sp1.trans t2'
   have da:Den K G7 (.ref a1) (Trm.any x1).data:=hd1.mono t1
   obtain ⟨pk,us,ks,e1,e2,e3,e4,e5,e6,e7⟩:=b1m c da (SqT.of (t2' _ _ kp1)) (SqT.of (t3 _ _ kp2)) (SqT.of (t4 _ _ kp3)) (SqT.of (t5 _ _ kp4)) (SqT.of (t6 _ _ kp5)) (SqT.of (sp7 _ _ kp6))
   refine a1b (SqL.of kp7) e1 ?_
   walk_at "stp"
   refine ⟨ln (by show 3<=100000; decide),fun r hr'=>?_⟩
   have s8:=a0f hr' (.tup [.str appS,.str (Str.ofString "f"),.ref pk])
   have z2:=(Trm.any x2).size_pos
   exact (q _ (t1.trans s8)).2 r (.app (Str.ofString "f") ks) (a1v (SqT.of a0b) (s8.tup e2) (e3.mono s8)) (NoU.ring e4) (by simp only [Trm.size] at z2 ⊢; omega) e6 (fun y hy=>.inl (by rw [Occ] at hy; simp only [Occ]; exact (e7 y hy).symm))
  | num n2=>
   obtain ⟨a2',e,hs2⟩:=a1u hd2
   cases e
   refine a0l hs2 (v:=.str numS) rfl ?_
   walk_at "stp"
   refine iteB (fun e=>absurd e (by decide +kernel)) (fun e=>?_)
   refine iteF ?_
   walk_at "stp"
   refine a0l hs1 (v:=.str anyS) rfl ?_
   walk_at "stp"
   refine iteB (fun e=>?_) (fun e=>absurd e (by decide +kernel))
   walk_at "stp"
   refine ⟨ln (by show 2<=100000; decide),fun p1 hp1=>?_⟩
   have sp1:=a0f hp1 (.tup [.str numS,.int 0])
   have kp1:(upd H p1 (.tup [.str numS,.int 0])) p1 = some (.tup [.str numS,.int 0]):=a0b
   generalize upd H p1 (.tup [.str numS,.int 0]) = G1 at sp1 kp1 ⊢
   walk_at "stp"
   refine ⟨ln (by show 2<=100000; decide),fun p2 hp2=>?_⟩
   have sp2:=a0f hp2 (.tup [.ref p1,.ref a1])
   have kp2:(upd G1 p2 (.tup [.ref p1,.ref a1])) p2 = some (.tup [.ref p1,.ref a1]):=a0b
   generalize upd G1 p2 (.tup [.ref p1,.ref a1]) = G2 at sp2 kp2 ⊢
   walk_at "stp"
   refine ⟨ln (by show 1<=100000; decide),fun p3 hp3=>?_⟩
   have sp3:=a0f hp3 (.tup [.ref a1])
   have kp3:(upd G2 p3 (.tup [.ref a1])) p3 = some (.tup [.ref a1]):=a0b
   generalize upd G2 p3 (.tup [.ref a1]) = G3 at sp3 kp3 ⊢
   walk_at "stp"
   refine ⟨ln (by show 2<=100000; decide),fun p4 hp4=>?_⟩
   have sp4:=a0f hp4 (.tup [.ref a1,.ref a1])
   have kp4:(upd G3 p4 (.tup [.ref a1,.ref a1])) p4 = some (.tup [.ref a1,.ref a1]):=a0b
   generalize upd G3 p4 (.tup [.ref a1,.ref a1]) = G4 at sp4 kp4 ⊢
   walk_at "stp"
   refine ⟨ln (by show 3<=100000; decide),fun p5 hp5=>?_⟩
   have sp5:=a0f hp5 (.tup [.str appS,.str (Str.ofString "g"),.ref p4])
   have kp5:(upd G4 p5 (.tup [.str appS,.str (Str.ofString "g"),.ref p4])) p5 = some (.tup [.str appS,.str (Str.ofString "g"),.ref p4]):=a0b
   generalize upd G4 p5 (.tup [.str appS,.str (Str.ofString "g"),.ref p4]) = G5 at sp5 kp5 ⊢
   walk_at "stp"
   refine ⟨ln (by show 1<=100000; decide),fun p6 hp6=>?_⟩
   have sp6:=a0f hp6 (.tup [.ref p5])
   have kp6:(upd G5 p6 (.tup [.ref p5])) p6 = some (.tup [.ref p5]):=a0b
   generalize upd G5 p6 (.tup [.ref p5]) = G6 at sp6 kp6 ⊢
   walk_at "stp"
   refine ⟨ln (by show 3<=100000; decide),fun p7 hp7=>?_⟩
   have sp7:=a0f hp7 (.lst [.ref p2,.ref p3,.ref p6])
   have kp7:(upd G6 p7 (.lst [.ref p2,.ref p3,.ref p6])) p7 = some (.lst [.ref p2,.ref p3,.ref p6]):=a0b
   generalize upd G6 p7 (.lst [.ref p2,.ref p3,.ref p6]) = G7 at sp7 kp7 ⊢
   walk_at "stp"
   have t6:=sp6.trans sp7
   have t5:=sp5.trans t6
   have t4:=sp4.trans t5
   have t3:=sp3.trans t4
   have t2':=sp2.trans t3
   have t1:=sp1.trans t2'
   have da:Den K G7 (.ref a1) (Trm.any x1).data:=hd1.mono t1
   obtain ⟨pk,us,ks,e1,e2,e3,e4,e5,e6,e7⟩:=b1m c da (SqT.of (t2' _ _ kp1)) (SqT.of (t3 _ _ kp2)) (SqT.of (t4 _ _ kp3)) (SqT.of (t5 _ _ kp4)) (SqT.of (t6 _ _ kp5)) (SqT.of (sp7 _ _ kp6))
   refine a1b (SqL.of kp7) e1 ?_
   walk_at "stp"
   refine ⟨ln (by show 3<=100000; decide),fun r hr'=>?_⟩
   have s8:=a0f hr' (.tup [.str appS,.str (Str.ofString "f"),.ref pk])
   have z2:=(Trm.num n2).size_pos
   exact (q _ (t1.trans s8)).2 r (.app (Str.ofString "f") ks) (a1v (SqT.of a0b) (s8.tup e2) (e3.mono s8)) (NoU.ring e4) (by simp only [Trm.size] at z2 ⊢; omega) e6 (fun y hy=>.inl (by rw [Occ] at hy; simp only [Occ]; exact (e7 y hy).symm))
  | app s2 ls=>
   obtain ⟨a2',c2,us2',e,hs2,hb2,hk2⟩:=a2g hd2
   cases e
   refine a0l hs2 (v:=.str appS) rfl ?_
   walk_at "stp"
   refine iteB (fun e=>absurd e (by decide +kernel)) (fun e=>?_)
   refine iteF ?_
   walk_at "stp"
   refine a0l hs1 (v:=.str anyS) rfl ?_
   walk_at "stp"
   refine iteB (fun e=>?_) (fun e=>absurd e (by decide +kernel))
   walk_at "stp"
   refine ⟨ln (by show 2<=100000; decide),fun p1 hp1=>?_⟩
   have sp1:=a0f hp1 (.tup [.str numS,.int 0])
   have kp1:(upd H p1 (.tup [.str numS,.int 0])) p1 = some (.tup [.str numS,.int 0]):=a0b
   generalize upd H p1 (.tup [.str numS,.int 0]) = G1 at sp1 kp1 ⊢
   walk_at "stp"
   refine ⟨ln (by show 2<=100000; decide),fun p2 hp2=>?_⟩
   have sp2:=a0f hp2 (.tup [.ref p1,.ref a1])
   have kp2:(upd G1 p2 (.tup [.ref p1,.ref a1])) p2 = some (.tup [.ref p1,.ref a1]):=a0b
   generalize upd G1 p2 (.tup [.ref p1,.ref a1]) = G2 at sp2 kp2 ⊢
   walk_at "stp"
   refine ⟨ln (by show 1<=100000; decide),fun p3 hp3=>?_⟩
   have sp3:=a0f hp3 (.tup [.ref a1])
   have kp3:(upd G2 p3 (.tup [.ref a1])) p3 = some (.tup [.ref a1]):=a0b
   generalize upd G2 p3 (.tup [.ref a1]) = G3 at sp3 kp3 ⊢
   walk_at "stp"
   refine ⟨ln (by show 2<=100000; decide),fun p4 hp4=>?_⟩
   have sp4:=a0f hp4 (.tup [.ref a1,.ref a1])
   have kp4:(upd G3 p4 (.tup [.ref a1,.ref a1])) p4 = some (.tup [.ref a1,.ref a1]):=a0b
   generalize upd G3 p4 (.tup [.ref a1,.ref a1]) = G4 at sp4 kp4 ⊢
   walk_at "stp"
   refine ⟨ln (by show 3<=100000; decide),fun p5 hp5=>?_⟩
   have sp5:=a0f hp5 (.tup [.str appS,.str (Str.ofString "g"),.ref p4])
   have kp5:(upd G4 p5 (.tup [.str appS,.str (Str.ofString "g"),.ref p4])) p5 = some (.tup [.str appS,.str (Str.ofString "g"),.ref p4]):=a0b
   generalize upd G4 p5 (.tup [.str appS,.str (Str.ofString "g"),.ref p4]) = G5 at sp5 kp5 ⊢
   walk_at "stp"
   refine ⟨ln (by show 1<=100000; decide),fun p6 hp6=>?_⟩
   have sp6:=a0f hp6 (.tup [.ref p5])
   have kp6:(upd G5 p6 (.tup [.ref p5])) p6 = some (.tup [.ref p5]):=a0b
   generalize upd G5 p6 (.tup [.ref p5]) = G6 at sp6 kp6 ⊢
   walk_at "stp"
   refine ⟨ln (by show 3<=100000; decide),fun p7 hp7=>?_⟩
   have sp7:=a0f hp7 (.lst [.ref p2,.ref p3,.ref p6])
   have kp7:(upd G6 p7 (.lst [.ref p2,.ref p3,.ref p6])) p7 = some (.lst [.ref p2,.ref p3,.ref p6]):=a0b
   generalize upd G6 p7 (.lst [.ref p2,.ref p3,.ref p6]) = G7 at sp7 kp7 ⊢
   walk_at "stp"
   have t6:=sp6.trans sp7
   have t5:=sp5.trans t6
   have t4:=sp4.trans t5
   have t3:=sp3.trans t4
   have t2':=sp2.trans t3
   have t1:=sp1.trans t2'
   have da:Den K G7 (.ref a1) (Trm.any x1).data:=hd1.mono t1
   obtain ⟨pk,us,ks,e1,e2,e3,e4,e5,e6,e7⟩:=b1m c da (SqT.of (t2' _ _ kp1)) (SqT.of (t3 _ _ kp2)) (SqT.of (t4 _ _ kp3)) (SqT.of (t5 _ _ kp4)) (SqT.of (t6 _ _ kp5)) (SqT.of (sp7 _ _ kp6))
   refine a1b (SqL.of kp7) e1 ?_
   walk_at "stp"
   refine ⟨ln (by show 3<=100000; decide),fun r hr'=>?_⟩
   have s8:=a0f hr' (.tup [.str appS,.str (Str.ofString "f"),.ref pk])
   have z2:=(Trm.app s2 ls).size_pos
   exact (q _ (t1.trans s8)).2 r (.app (Str.ofString "f") ks) (a1v (SqT.of a0b) (s8.tup e2) (e3.mono s8)) (NoU.ring e4) (by simp only [Trm.size] at z2 ⊢; omega) e6 (fun y hy=>.inl (by rw [Occ] at hy; simp only [Occ]; exact (e7 y hy).symm))
 | num n1=>
  obtain ⟨a1,rfl,hs1⟩:=a1u hd1
  walk_at "stp"
  cases t2 with
  | any x2=>
   obtain ⟨a2',e,hs2⟩:=a1x hd2
   cases e
   refine a0l hs2 (v:=.str anyS) rfl ?_
   walk_at "stp"
   refine iteB (fun e=>?_) (fun e=>absurd e (by decide +kernel))
   walk_at "stp"
   refine a0l hs1 (v:=.str numS) rfl ?_
   walk_at "stp"
   refine iteB (fun e=>?_) (fun e=>absurd e (by decide +kernel))
   walk_at "stp"
   exact nonQ _ (Same.refl _)
  | app s2 ls=>exact absurd (hcom.key rfl rfl).symm b1l
  | num n2=>
   obtain ⟨a2',e,hs2⟩:=a1u hd2
   cases e
   refine a0l hs2 (v:=.str numS) rfl ?_
   walk_at "stp"
   refine iteB (fun e=>absurd e (by decide +kernel)) (fun e=>?_)
   refine iteF ?_
   walk_at "stp"
   refine a0l hs1 (v:=.str numS) rfl ?_
   walk_at "stp"
   refine iteB (fun e=>absurd e (by decide +kernel)) (fun e=>?_)
   walk_at "stp"
   refine a0l hs1 (v:=.str numS) rfl ?_
   walk_at "stp"
   refine iteB (fun e=>?_) (fun e=>absurd e (by decide +kernel))
   walk_at "stp"
   exact nonQ _ (Same.refl _)
 | app s1 ks=>
  obtain ⟨a1,c1,us1,rfl,hs1,hb1,hk1⟩:=a2g hd1
  have hkl1:=hk1.length
  rw [Trm.dataL_map,List.length_map] at hkl1
  walk_at "stp"
  cases t2 with
  | any x2=>
   obtain ⟨a2',e,hs2⟩:=a1x hd2
   cases e
   refine a0l hs2 (v:=.str anyS) rfl ?_
   walk_at "stp"
   refine iteB (fun e=>?_) (fun e=>absurd e (by decide +kernel))
   walk_at "stp"
   refine a0l hs1 (v:=.str appS) rfl ?_
   walk_at "stp"
   refine iteB (fun e=>?_) (fun e=>absurd e (by decide +kernel))
   walk_at "stp"
   exact nonQ _ (Same.refl _)
  | num n2=>exact absurd (hcom.key rfl rfl) b1l
  | app s2 ls=>
   obtain ⟨es,el,ec⟩:=hcom.app
   obtain ⟨a2',c2,us2',e,hs2,hb2,hk2⟩:=a2g hd2
   cases e
   have hkl2:=hk2.length
   rw [Trm.dataL_map,List.length_map] at hkl2
   have zl:=Trm.len_le ks
   simp only [Trm.size] at hz1
   refine a0l hs2 (v:=.str appS) rfl ?_
   walk_at "stp"
   refine iteB (fun e=>absurd e (by decide +kernel)) (fun e=>?_)
   refine iteF ?_
   walk_at "stp"
   refine a0l hs1 (v:=.str appS) rfl ?_
   walk_at "stp"
   refine iteB (fun e=>absurd e (by decide +kernel)) (fun e=>?_)
   walk_at "stp"
   refine a0l hs1 (v:=.str appS) rfl ?_
   walk_at "stp"
   refine iteB (fun e=>absurd e (by decide +kernel)) (fun e=>?_)
   walk_at "stp"
   refine a0l hs1 (v:=.ref c1) rfl ?_
   walk_at "stp"
   refine a9n hb1 ?_
   walk_at "stp"
   refine ⟨_,rfl,by omega,by omega,?_⟩
   refine a3f (a4g 0 _) (fun i σ' J=>∃ (o4 o5 o6:Option V),σ' = [some (.ref a1),some (.ref a2),some (.int c),some (.int (us1.length:Int)),o4,o5,o6]/\Same H J) ⟨_,_,_,rfl,Same.refl _⟩ (fun _ _ _ _=>trivial) (fun i σ' J hi hP=>?_) (fun σ' J hP=>?_)
   rotate_left
   ·obtain ⟨o4,o5,o6,rfl,sj⟩:=hP
    walk_at "stp"
    exact nonQ _ sj
   obtain ⟨o4,o5,o6,rfl,sj⟩:=hP
   rw [Int.toNat_natCast] at hi
   walk_at "stp"
   refine m2_i (show (0:Int) < _ by omega) ?_
   have m1:=Int.emod_nonneg (c + (0 + (i:Int))) (show ((us1.length:Nat):Int) ≠ 0 by omega)
   have m2:=Int.emod_lt_of_pos (c + (0 + (i:Int))) (show (0:Int) < ((us1.length:Nat):Int) by omega)
   generalize (c + (0 + (i:Int))) % ((us1.length:Nat):Int) = at0 at m1 m2 ⊢
   obtain ⟨k,rfl⟩:=Int.eq_ofNat_of_zero_le m1
   have hk1':k < ks.length:=by omega
   have hk2':k < ls.length:=by omega
   obtain ⟨w1,x1,y1⟩:=b2d hk1 hk1'
   obtain ⟨w2,x2,y2⟩:=b2d hk2 hk2'
   have zk:=a4p (List.getElem?_eq_getElem hk1')
   have zk2:=a4p (List.getElem?_eq_getElem hk2')
   have hz2':=hz2
   rw [Trm.size] at hz2'
   have har':=har
   rw [ar4] at har'
   walk_at "stp"
   refine a0l (sj.tup hs1) (v:=.ref c1) rfl ?_
   walk_at "stp"
   refine a0l (sj.tup hb1) x1 ?_
   walk_at "stp"
   refine a0l (sj.tup hs2) (v:=.ref c2) rfl ?_
   walk_at "stp"
   refine a0l (sj.tup hb2) x2 ?_
   walk_at "stp"
   refine ⟨ks[k],ls[k],y1.mono sj,y2.mono sj,ec k _ _ (List.getElem?_eq_getElem hk1') (List.getElem?_eq_getElem hk2'),by omega,by omega,a1w.mp har'.2 _ (List.getElem_mem hk2'),by omega,fun J2 s2'=>⟨?_,fun r u du nu su au ou=>?_⟩⟩
   ·walk_at "stp"
    refine iteF ?_
    walk_at "stp"
    exact ⟨_,_,_,rfl,sj.trans s2'⟩
   have sJ:=sj.trans s2'
   walk_at "stp"
   refine iteT ?_
   walk_at "stp"
   refine a0l (sJ.tup hs2) (v:=.str s2) rfl ?_
   walk_at "stp"
   refine a0l (sJ.tup hs2) (v:=.ref c2) rfl ?_
   walk_at "stp"
   refine b4a (sJ.tup hb2) (fun p3 J3 s3 k3=>?_)
   rw [b8o] at k3
   walk_at "stp"
   refine ⟨ln (by show 1<=100000; decide),fun p4 hp4=>?_⟩
   have s4:=a0f hp4 (.tup [.ref r])
   have k4:(upd J3 p4 (.tup [.ref r])) p4 = some (.tup [.ref r]):=a0b
   generalize upd J3 p4 (.tup [.ref r]) = J4 at s4 k4 ⊢
   walk_at "stp"
   refine a9y (s4.tup k3) (SqT.of k4) (ln (by rw [List.length_take,List.length_singleton]; omega)) (fun p5 J5 s5 k5=>?_)
   walk_at "stp"
   have s35:=s3.trans (s4.trans s5)
   refine a0l (s35.tup (sJ.tup hs2)) (v:=.ref c2) rfl ?_
   walk_at "stp"
   refine b4a (s35.tup (sJ.tup hb2)) (fun p6 J6 s6 k6=>?_)
   rw [show ((k:Int) + 1) = ((k + 1:Nat):Int) by omega,b8p] at k6
   walk_at "stp"
   refine a9y (s6.tup k5) k6 (ln (by rw [List.length_append,List.length_take,List.length_singleton,List.length_drop]; omega)) (fun p7 J7 s7 k7=>?_)
   walk_at "stp"
   refine ⟨ln (by show 3<=100000; decide),fun p8 hp8=>?_⟩
   have s8:=a0f hp8 (.tup [.str appS,.str s2,.ref p7])
   have ss:=s35.trans (s6.trans (s7.trans s8))
   have zs:=b8q (u:=u) hk2'
   refine (q _ (sJ.trans ss)).2 p8 (.app s2 (swp ls k u)) (a1v (SqT.of a0b) (s8.tup k7) (c0s (hk2.mono (sJ.trans ss)) (du.mono ss))) (NoU.app (List.getElem?_eq_getElem hk1') (c5g hk2') nu) (by simp only [Trm.size]; omega) (c5h hk2' har au) (fun x hx=>?_)
   rcases c0r hx with z | z
   ·rcases ou x z with y | y
    ·exact .inl (by rw [Occ]; exact a1s.mpr ⟨_,List.getElem_mem hk1',y⟩)
    ·exact .inr (by rw [Occ]; exact a1s.mpr ⟨_,List.getElem_mem hk2',y⟩)
   ·exact .inr z
theorem b9o (T:Txt K mg t)  (n:Nat):FnOk P w K mg base CX0 (n + 2) t.a_l_ringed t.d_l_ringed ["_law_one","_law_other_here","_law_cell"] (a3d K n):=by
 induction n with
 | zero=>
  have no:∀ vs H Q E,(a3d K 0) vs H Q E->False:=fun vs H Q E h=>by
   unfold a3d at h
   split at h
   ·exact b9k h
   ·exact h
  exact ⟨fun vs H Q E h=>(no vs H Q E h).elim,fun A outer s H args us vs Q E _ _ _ _ h=>(no vs H Q E h).elim⟩
 | succ n ih=>
  have e:n + 1 + 2 = n + 2 + 1:=by omega
  rw [e]
  exact b9n T  n ih
end
section
variable {P:Program} {w:World} {K:W.Frag} {mg:Str->Option Value} {base:Heap} {t:Ad}
theorem a7i (kn:Kn):(encP kn).length = kn.length:=by rw [encP,List.length_map]
theorem P3.own {pb pt d D:Addr} {H J:Hp} {o:HO} (f:P3 pb pt d H J) (h:H D = none):P3 pb pt d H (upd J D o):=fun b u h1 h2 h3 e=>by
 rw [a0j (fun z=>by rw [z,h] at e; cases e)]; exact f b u h1 h2 h3 e
theorem HS.dk {K:W.Frag} {C:Addr} {H H':Hp} {x pb pt a:Addr} {bs:Bs} {tr:List Nat} {kv:List (Key × V)} (w:HS K C H x pb pt bs tr) (f:HFr pb pt H H') (h:H a = some (.dK kv)):H' a = some (.dK kv):=by
 obtain ⟨us,h2,_⟩:=w.bx
 exact f _ _ (fun z=>by rw [z,h2] at h; cases h) (fun z=>by rw [z,w.trl] at h; cases h) h
theorem b3b {ts:List Trm} {i:Nat} (h:i < ts.length):ts.take (i + 1) = ts.take i ++ [ts[i]]:=by rw [List.take_add_one,List.getElem?_eq_getElem h]; rfl
theorem nmL_app {kn:Kn} (c:Kn) {ts:List Trm} (h:∀ t ∈ ts,vin kn t):ts.map (nm (kn ++ c)) = ts.map (nm kn):=List.map_congr_left fun t ht=>c5c c (h t ht)
theorem c7g (T:Txt K mg t) (G_Heap_app:FnOk P w K mg base CX0 2 t.a_Heap_app t.d_Heap_app ["self","sign","kids"] (a5t K t.k_Heap)) (G_Heap_number:FnOk P w K mg base CX0 2 t.a_Heap_number t.d_Heap_number ["self","n"] (a4d K t.k_Heap)) (G_Heap_free:FnOk P w K mg base CX0 2 t.a_Heap_free t.d_Heap_free ["self"] (a5j K t.k_Heap)) (n:Nat) (G_l_put:FnOk P w K mg base CX0 (n + 3) t.a_l_put t.d_l_put ["_law_heap","_law_term_here","_law_known"] (a5n K t.k_Heap n)):FnOk P w K mg base CX0 (n + 3 + 1) t.a_l_put t.d_l_put ["_law_heap","_law_term_here","_law_known"] (a5n K t.k_Heap (n + 1)):=by
 refine T.F_l_put.ok (k:=n + 3) b7w (fun vs H Q E h=>?_) (fun cdv A outer s H vs Q E hr h=>?_)
 ·unfold a5n at h
  split at h
  ·rfl
  ·exact h.elim
 unfold a5n at h
 split at h
 rotate_left
 ·exact h.elim
 refine ⟨_,(a0d (a0y (a0q a1e (a0k (a0i K rfl) (mv 1) a0c (fun _ _=>rfl)) a0o (a0p _)) (a0d (a0y (a0q (b4h (a3z hr)) (a0k (a0i K rfl) (mv 1) a0c (fun _ _=>rfl)) (mv 2) (by with_unfolding_all rfl)) (a0g (a9l (a3z hr) (mv 2) (a0k (a0i K rfl) (mv 1) a0c (fun _ _=>rfl)) (b6j (mv 0) T.cl_Heap T.me_Heap_free G_Heap_free (hr.mono (by first | decide | omega)) T.b_Heap_free .nil a0v) rfl)) a0s) (a0g (a0n (a9k (a3z hr) (mv 2) (a0k (a0i K rfl) (mv 1) a0c (fun _ _=>rfl)) (fun _ _=>rfl))))) a0s) (a0d (a0y (a0q a1e (a0k (a0i K rfl) (mv 1) a0c (fun _ _=>rfl)) a0o (a0p _)) (a0g (a0n (a1j (mv 0) T.cl_Heap T.me_Heap_number G_Heap_number (hr.mono (by first | decide | omega)) T.b_Heap_number .nil a0v (a0a (a0k (a0i K rfl) (mv 1) a0c (fun _ _=>rfl)) a0e)))) a0s) (a0d (b9x (i:=3) b7w.nd rfl (by walk_at "or1") rfl (a8g K rfl (a0k (a0i K rfl) (mv 1) a0c (fun _ _=>rfl))) (a6j (a0h a6n) ["_law_heap","_law_term_here","_law_known","_law_kids"] ["_law_heap","_law_term_here","_law_known","_law_kids"] rfl rfl (by decide +kernel)) (fun _ _ _ _ _=>a6i) (fun _ _ _ _ _=>(a0z G_l_put (hr.mono (by first | decide | omega)) rfl T.m_l_put T.F_l_put.kp T.b_l_put .nil a0v (a0a (mv 1) (a0a (mv 0) (a0a (mv 3) a0e)))))) (a0g (a0n (a1j (mv 0) T.cl_Heap T.me_Heap_app G_Heap_app (hr.mono (by first | decide | omega)) T.b_Heap_app .nil a0v (a0a (a0k (a0i K rfl) (mv 1) a0c (fun _ _=>rfl)) (a0a (mv 3) a0e)))))))),?_⟩
 rename_i x v d
 obtain ⟨pb,pt,bs,tr,t0,kn,w,ps,hd,hz,hn,ha,hk,hb1,hk1,q⟩:=h
 have tp:=t0.size_pos
 obtain ⟨dx,ho⟩:=w.ob
 obtain ⟨us,hb,_⟩:=w.bx
 have npd:d ≠ pb:=fun z=>by rw [z,hb] at hk; cases hk
 have ntd:d ≠ pt:=fun z=>by rw [z,w.trl] at hk; cases hk
 walk_at "stp"
 cases t0 with
 | num m=>
  obtain ⟨a,rfl,hs⟩:=a1u hd
  refine a0l hs (v:=.str numS) rfl ?_
  walk_at "stp"
  refine iteB (fun e=>absurd e (by decide +kernel)) (fun e=>?_)
  walk_at "stp"
  refine a0l hs (v:=.str numS) rfl ?_
  walk_at "stp"
  refine iteB (fun e=>?_) (fun e=>absurd e (by decide +kernel))
  walk_at "stp"
  refine ⟨x,dx,_,rfl,ho,a1n,?_⟩
  walk_at "stp"
  refine a0l hs (v:=.int m) rfl ?_
  walk_at "stp"
  refine ⟨pb,pt,bs,tr,w,by omega,fun H' f' w'=>?_⟩
  refine q bs.length [.num m] [] H' (P3.hfr f') w' (by rw [List.append_nil]; exact w.dk f' hk) (by rw [List.append_nil]; exact ps.box rfl rfl (fun k hk=>by cases hk) (by show 0<=4; decide)) ?_ (fun x hx=>by rw [Occ] at hx; exact hx.elim) (by simp [Trm.size]) (by simp)
  rw [nm,sb,Rep]
  exact ⟨bs.length,.here (x:=.num m) (by simp) (fun _ z=>by cases z),by simp⟩
 | any y=>
  obtain ⟨a,rfl,hs⟩:=a1x hd
  refine a0l hs (v:=.str anyS) rfl ?_
  walk_at "stp"
  refine iteB (fun e=>?_) (fun e=>absurd e (by decide +kernel))
  walk_at "stp"
  have dg:DGet H d (.str y) (valV (encP kn) (Sum.inr y)):=DGet.k (k:=Sum.inr y) hk
  rw [a7g] at dg
  refine a0l hs (v:=.str y) rfl ?_
  walk_at "stp"
  refine ⟨d,_,rfl,dg,?_⟩
  walk_at "stp"
  cases hl:lkP kn y with
  | some i0=>
   rw [hl] at dg
   refine iteB (fun e=>absurd e (by simp)) (fun e=>?_)
   walk_at "stp"
   refine a0l hs (v:=.str y) rfl ?_
   walk_at "stp"
   refine ⟨d,_,rfl,dg,?_⟩
   walk_at "stp"
   refine q i0 [] [] H (fun _ _ _ _ _ e=>e) (by rw [List.append_nil]; exact w) (by rw [List.append_nil]; exact hk) (by rw [List.append_nil,List.append_nil]; exact ps) ?_ (fun x hx=>by rw [Occ] at hx; rw [List.append_nil,<- hx]; exact ⟨_,hl⟩) (by simp) (by simp)
   rw [List.append_nil,List.append_nil,nm,sb,Rep,hl]
   exact ⟨i0,.here (ps.ok _ _ hl) (fun _ z=>by cases z),ps.ok _ _ hl,rfl⟩
  | none=>
   refine iteB (fun e=>?_) (fun e=>absurd e (by simp))
   walk_at "stp"
   refine ⟨x,dx,_,rfl,ho,a1n,?_⟩
   walk_at "stp"
   refine ⟨pb,pt,bs,tr,w,by omega,fun H1 f1 w1=>?_⟩
   walk_at "stp"
   have hs1:=w.tup f1 _ _ hs
   have hk1':=w.dk f1 hk
   refine a0l hs1 (v:=.str y) rfl ?_
   walk_at "stp"
   refine ⟨d,_,rfl,DPut.k (k:=Sum.inr y) hk1' (by rw [a7i,sizeLine_eq]; omega),?_⟩
   rw [put_new hl]
   have f2:P3 pb pt d H1 (upd H1 d (.dK (encP (kn ++ [(y,bs.length)])))):=fun b o _ _ hb2 e=>by rw [a0j hb2]; exact e
   have k2:(upd H1 d (.dK (encP (kn ++ [(y,bs.length)])))) d = some (.dK (encP (kn ++ [(y,bs.length)]))):=a0b
   have w2:HS K t.k_Heap (upd H1 d (.dK (encP (kn ++ [(y,bs.length)])))) x pb pt (bs ++ [.free]) tr:=w1.upO _ hk1' (fun _ z=>by cases z) (fun _ _ z=>by cases z) (fun _ _ _ z=>by cases z) npd ntd
   have hs2:=f2.tup w1 hk1' _ _ hs1
   generalize upd H1 d (.dK (encP (kn ++ [(y,bs.length)]))) = H2 at f2 k2 w2 hs2 ⊢
   have hl2:lkP (kn ++ [(y,bs.length)]) y = some bs.length:=by rw [b3y hl,if_pos rfl]
   have dg2:DGet H2 d (.str y) (valV (encP (kn ++ [(y,bs.length)])) (Sum.inr y)):=DGet.k (k:=Sum.inr y) k2
   rw [a7g,hl2] at dg2
   walk_at "stp"
   refine a0l hs2 (v:=.str y) rfl ?_
   walk_at "stp"
   refine ⟨d,_,rfl,dg2,?_⟩
   walk_at "stp"
   refine q bs.length [.free] [(y,bs.length)] H2 ((P3.hfr f1).trans f2) w2 k2 (ps.name hl) ?_ (fun x hx=>by rw [Occ] at hx; rw [<- hx]; exact ⟨_,hl2⟩) (by simp [Trm.size]) (by simp [Trm.size])
   rw [nm,sb,Rep,hl2]
   exact ⟨bs.length,.here (x:=.free) (by simp) (fun _ z=>by cases z),by simp,rfl⟩
 | app s0 ts=>
  obtain ⟨a,b,vs,rfl,hs,hb2,hk2⟩:=a2g hd
  rw [ar4] at ha
  rw [Trm.size] at hz hb1 hk1 q
  have l2:=hk2.length
  rw [Trm.dataL_map,List.length_map] at l2
  refine a0l hs (v:=.str appS) rfl ?_
  walk_at "stp"
  refine iteB (fun e=>absurd e (by decide +kernel)) (fun e=>?_)
  walk_at "stp"
  refine a0l hs (v:=.str appS) rfl ?_
  walk_at "stp"
  refine iteB (fun e=>absurd e (by decide +kernel)) (fun e=>?_)
  walk_at "stp"
  refine a0l hs (v:=.ref b) rfl ?_
  refine ⟨b,rfl,⟨_,hb2⟩,fun D hD=>?_⟩
  have nDp:D ≠ pb:=fun z=>by rw [z,hb] at hD; cases hD
  have nDt:D ≠ pt:=fun z=>by rw [z,w.trl] at hD; cases hD
  have nDd:D ≠ d:=fun z=>by rw [z,hk] at hD; cases hD
  refine a5c (a8e (xs:=vs)) (fun i ys J=>∃ (ks:List Nat) (bs':Bs) (kn':Kn),ys = nsV ks/\J D = some (.lst ys)/\P3 pb pt d H J/\HS K t.k_Heap J x pb pt (bs ++ bs') tr/\J d = some (.dK (encP (kn ++ kn')))/\PSt (bs ++ bs') (kn ++ kn')/\bs'.length<=Trm.sizeL (ts.take i)/\kn'.length<=Trm.sizeL (ts.take i)/\(∀ t ∈ ts.take i,vin (kn ++ kn') t)/\RepL (bs ++ bs') ks ((ts.take i).map (nm (kn ++ kn')))) (ln (by omega)) ⟨[],[],[],rfl,a0b,P3.own (fun _ _ _ _ _ e=>e) hD,by rw [List.append_nil]; exact w.same (a0f hD _),by rw [List.append_nil,a0j (Ne.symm nDd)]; exact hk,by rw [List.append_nil,List.append_nil]; exact ps,by simp,by simp,fun t ht=>by simp at ht,by rw [List.take_zero,List.map_nil,RepL]⟩ (fun i ys J hP=>by obtain ⟨_,_,_,_,_,f,_⟩:=hP; exact f.tup w hk _ _ hb2) (fun i ys J Q' hi' hl' hP k=>?_) (fun ys J hl' hP=>?_)
  ·obtain ⟨ks,bs',kn',rfl,g1,g2,g3,g4,g5,g6,g7,g8,g9⟩:=hP
   have hti:i < ts.length:=by omega
   have hx:vs[i]? = some vs[i]:=List.getElem?_eq_getElem hi'
   have hg:vs.getD i .non = vs[i]:=by rw [List.getD_eq_getElem?_getD,hx]; rfl
   obtain ⟨dd,e1,e2⟩:=hk2.get hx
   rw [Trm.dataL_map,List.getElem?_map,List.getElem?_eq_getElem hti] at e1
   have e1:ts[i].data = dd:=Option.some.inj e1
   subst e1
   have lz:=a4p (List.getElem?_eq_getElem hti)
   have tz:=Trm.sizeL_app (ts.take i) [ts[i]]
   rw [<- b3b hti] at tz
   have tz1:Trm.sizeL [ts[i]] = ts[i].size:=by simp [Trm.sizeL]
   have tl:=b3z ts (i + 1)
   walk_at "stp"
   rw [hg]
   refine ⟨pb,pt,bs ++ bs',tr,ts[i],kn ++ kn',g3,g5,e2.monoT (g2.tup w hk),by omega,by omega,a1w.mp ha.2 _ (List.getElem_mem hti),g4,by rw [List.length_append]; omega,by rw [List.length_append]; omega,fun a2 bs2 kn2 J2 f2 w2 k2 ko2 r2 v2 b2 n2=>?_⟩
   rw [List.append_assoc] at w2
   rw [List.append_assoc] at k2
   rw [List.append_assoc,List.append_assoc] at ko2
   rw [List.append_assoc] at v2
   rw [List.append_assoc,List.append_assoc] at r2
   have hD2:=f2 _ _ nDp nDt nDd g1
   refine k _ _ hD2 ⟨ks ++ [a2],bs' ++ bs2,kn' ++ kn2,by rw [nsV,nsV,List.map_append]; rfl,a0b,P3.own (g2.trans f2) hD,w2.upO _ hD2 (fun _ z=>by cases z) (fun _ _ z=>by cases z) (fun _ _ _ z=>by cases z) nDp nDt,by rw [a0j (Ne.symm nDd)]; exact k2,ko2,by rw [List.length_append]; omega,by rw [List.length_append]; omega,?_,?_⟩
   ·rw [b3b hti]
    intro t ht
    rcases List.mem_append.mp ht with z | z
    ·rw [<- List.append_assoc]; exact c0p kn2 (g8 t z)
    ·rw [List.mem_singleton.mp z]; exact v2
   ·rw [b3b hti,List.map_append]
    refine RepL.app (RepL.one r2) ?_
    rw [<- List.append_assoc,<- List.append_assoc,nmL_app kn2 g8]
    exact g9.more bs2
  obtain ⟨ks,bs',kn',rfl,g1,g2,g3,g4,g5,g6,g7,g8,g9⟩:=hP
  rw [l2,List.take_length] at g6 g7 g8 g9
  have lk:=g9.len
  rw [List.length_map] at lk
  have lt:∀ k ∈ ks,k < (bs ++ bs').length:=fun k hk=>by
   obtain ⟨i,hi⟩:=List.mem_iff_getElem?.mp hk
   have hi2:=(List.getElem?_eq_some_iff.mp hi).1
   obtain ⟨k',e1,e2⟩:=g9.get (List.getElem?_eq_getElem (show i < (ts.map (nm (kn ++ kn'))).length by rw [List.length_map]; omega))
   rw [hi] at e1
   cases e1
   exact e2.lt
  obtain ⟨dx3,ho3⟩:=g3.ob
  have hs3:=g2.tup w hk _ _ hs
  have lbs:(bs ++ bs').length<=900:=by rw [List.length_append]; omega
  walk_at "stp"
  refine ⟨x,dx3,_,rfl,ho3,a1n,?_⟩
  walk_at "stp"
  refine a0l hs3 (v:=.str s0) rfl ?_
  walk_at "stp"
  refine ⟨pb,pt,bs ++ bs',tr,ks,g3,lbs,by omega,SqL.of g1,fun J5 f5 w5=>?_⟩
  refine q (bs ++ bs').length (bs' ++ [.app s0 ks]) kn' J5 (g2.trans (P3.hfr f5)) (by rw [<- List.append_assoc]; exact w5) (g3.dk f5 g4) (by rw [<- List.append_assoc]; exact g5.box rfl rfl lt (by show ks.length<=4; omega)) ?_ (fun x hx=>?_) (by rw [List.length_append,List.length_singleton]; omega) (by omega)
  ·rw [nm,sb,Rep,<- List.append_assoc,a3l]
   exact ⟨(bs ++ bs').length,ks,.here (x:=.app s0 ks) (by simp) (fun _ z=>by cases z),by simp,by omega,g9.more _⟩
  ·rw [Occ] at hx
   obtain ⟨t,h1,h2⟩:=a1s.mp hx
   exact g8 t h1 x h2
theorem c7h (T:Txt K mg t) (G_Heap_app:FnOk P w K mg base CX0 2 t.a_Heap_app t.d_Heap_app ["self","sign","kids"] (a5t K t.k_Heap)) (G_Heap_number:FnOk P w K mg base CX0 2 t.a_Heap_number t.d_Heap_number ["self","n"] (a4d K t.k_Heap)) (G_Heap_free:FnOk P w K mg base CX0 2 t.a_Heap_free t.d_Heap_free ["self"] (a5j K t.k_Heap)) (n:Nat):FnOk P w K mg base CX0 (n + 3) t.a_l_put t.d_l_put ["_law_heap","_law_term_here","_law_known"] (a5n K t.k_Heap n):=by
 induction n with
 | zero=>
  have no:∀ vs H Q E,(a5n K t.k_Heap 0) vs H Q E->False:=fun vs H Q E h=>by
   unfold a5n at h
   split at h
   ·exact c7b h
   ·exact h
  exact ⟨fun vs H Q E h=>(no vs H Q E h).elim,fun A outer s H args us vs Q E _ _ _ _ h=>(no vs H Q E h).elim⟩
 | succ n ih=>
  have e:n + 1 + 3 = n + 3 + 1:=by omega
  rw [e]
  exact c7g T G_Heap_app G_Heap_number G_Heap_free n ih
end
theorem b5m {kn:Kn} (nod:(kn.map (·.1)).Nodup) (inj:∀ x y a,lkP kn x = some a->lkP kn y = some a->x = y) {i:Nat} {r:Str × Nat} (hi:kn[i]? = some r):lkN (nwOf (kn.take i)) (bnm r.2) = none:=by
 cases e:lkN (nwOf (kn.take i)) (bnm r.2) with
 | none=>rfl
 | some y=>
  exfalso
  have mem:∀ l:Kn,lkN (nwOf l) (bnm r.2) = some y->∃ q ∈ l,q.2 = r.2:=by
   intro l
   induction l with
   | nil=>intro z; cases z
   | cons q l ih=>
    intro z
    rw [nwOf,List.map_cons,lkN] at z
    by_cases g:bnm q.2 = bnm r.2
    ·exact ⟨q,List.mem_cons_self ..,b4t g⟩
    ·rw [if_neg g] at z
     obtain ⟨p,h1,h2⟩:=ih z
     exact ⟨p,List.mem_cons_of_mem _ h1,h2⟩
  obtain ⟨q,hq,h2⟩:=mem _ e
  obtain ⟨j,hj⟩:=List.mem_iff_getElem?.mp hq
  rw [List.getElem?_take] at hj
  by_cases g:j < i
  ·rw [if_pos g] at hj
   have k1:=b0a nod hj
   have k2:=b0a nod hi
   rw [h2] at k1
   have k3:=inj _ _ _ k1 k2
   have hp:=List.pairwise_iff_getElem.mp nod
   have j1:=List.getElem?_eq_some_iff.mp hj
   have i1:=List.getElem?_eq_some_iff.mp hi
   obtain ⟨j1,j2⟩:=j1
   obtain ⟨i1,i2⟩:=i1
   refine hp j i (by rw [List.length_map]; exact j1) (by rw [List.length_map]; exact i1) g ?_
   rw [List.getElem_map,List.getElem_map,j2,i2]; exact k3
  ·rw [if_neg g] at hj; cases hj
theorem b8t (nw:Nw):(encN nw).length = nw.length:=by rw [encN,List.length_map]
theorem b8u {nw:Nw} {x y:Str} (h:lkN nw x = none):putK (encN nw) (Sum.inr x) (.str y) = encN (nw ++ [(x,y)]):=by
 rw [a7a _ (by rw [valN,h]; rfl),encN,encN,List.map_append]; rfl
theorem c5i (a:Nat):Str.ofString "B" ++ (⟨(a2s a).toArray⟩:Str) = bnm a:=by
 unfold bnm
 rw [<- a7e]
structure KnI (kn:Kn):Prop where
 nod:(kn.map (·.1)).Nodup
 inj:∀ x y a,lkP kn x = some a->lkP kn y = some a->x = y
theorem PSt.kni {bs:Bs} {kn:Kn} (p:PSt bs kn):KnI kn:=⟨p.nod,p.inj⟩
noncomputable def ArOk (K:W.Frag) (H:Hp) (bs:Bs) (kn:Kn) (us ps:List V) (i:Nat):Option Trm->Prop
 | none=>us[i]? = some .non
 | some t=>∃ (r:Addr) (a:Nat),us[i]? = some (.ref r)/\Den K H (.ref r) t.data/\ps[i]? = some (.int (a:Int))/\Rep bs a (nm kn t)/\vin kn t/\t.size<=40
theorem ArOk.mono {K:W.Frag} {H H':Hp} {bs:Bs} {kn:Kn} {us ps:List V} {i:Nat} (ht:∀ a xs,SqT K H a xs->SqT K H' a xs):∀ {o:Option Trm},ArOk K H bs kn us ps i o->ArOk K H' bs kn us ps i o
 | none,h=>h
 | some t,⟨r,a,h1,h2,h3⟩=>⟨r,a,h1,h2.monoT ht,h3⟩
noncomputable abbrev a5v (K:W.Frag) (C:Addr):Sp:=fun vs H Q _=>match vs with | [.ref x,.ref pp,.ref pts,.ref d]=>∃ (pb pt:Addr) (bs:Bs) (tr:List Nat) (kn:Kn) (ps us:List V) (os:List (Option Trm)),HS K C H x pb pt bs tr/\Wf bs/\KnI kn/\H d = some (.dK (encP kn))/\H pp = some (.lst ps)/\H pts = some (.lst us)/\us.length = os.length/\os.length<=10/\(∀ (i:Nat) o,os[i]? = some o->ArOk K H bs kn us ps i o)/\bs.length<=128/\kn.length<=128/\(∀ y a,lkP kn y = some a->a < bs.length)/\∀ H',Same H H'->Q (.bl true) H' | _=>False
structure OrOk (bs:Bs) (kn:Kn) (rs:Vw) (M:Nat->Trm) (i j:Nat):Prop where
 wf:Wf bs
 bl:bs.length<=128
 kl:kn.length<=128
 ki:KnI kn
 hi:i < bs.length
 hj:j < bs.length
 sol:Sol M bs
 same:∀ N,Sol N bs->N i = N j
 sz:(M i).size<=40
 val:∀ y a,lkP kn y = some a->a < bs.length/\M a = vf rs y/\(M a).size<=40
 free:∀ e,bs[e]? = some .free->∃ y,lkP kn y = some e
noncomputable abbrev a5a (K:W.Frag) (C:Addr):Sp:=fun vs H Q _=>match vs with | [.ref x,.ref pp,.ref d,.ref dv]=>∃ (pb pt:Addr) (bs:Bs) (tr:List Nat) (kn:Kn) (ps:List V) (kvs:List (Key × V)) (rs:Vw) (M:Nat->Trm) (i j:Nat),HS K C H x pb pt bs tr/\H d = some (.dK (encP kn))/\H dv = some (.dK kvs)/\d ≠ dv/\VR K H kvs rs/\H pp = some (.lst ps)/\ps[0]? = some (.int (i:Int))/\ps[1]? = some (.int (j:Int))/\OrOk bs kn rs M i j/\∀ H',Same H H'->Q (.bl true) H' | _=>False
noncomputable abbrev a9c (K:W.Frag) (C:Addr):Sp:=fun vs H Q _=>match vs with | [.ref x,.ref pp,.int w,.bl b]=>∃ (pb pt:Addr) (bs:Bs) (tr:List Nat) (ps:List V) (m i j:Nat),HS K C H x pb pt bs tr/\Wf bs/\bs.length<=128/\tr.length<=6000/\H pp = some (.lst ps)/\ps[0]? = some (.int (i:Int))/\w = (m:Int)/\ps[m]? = some (.int (j:Int))/\i < bs.length/\j < bs.length/\∀ (k:Nat) (bs':Bs) (r:Bool) (tr':List Nat) (H':Hp),HFr pb pt H H'->HS K C H' x pb pt bs' tr'->Up bs tr bs' tr'->(Run k bs [(i,j)] bs' r\/Run k bs [(j,i)] bs' r)->Q (.bl r) H' | _=>False
noncomputable abbrev b0c (K:W.Frag):Sp:=fun vs H Q _=>match vs with | [.ref a]=>∃ ns:List Int,SqL K H a (ns.map V.int)/\ns.length<=63/\∀ H',Q (.bl true) H' | _=>False
theorem atI_nat' {α:Type} {xs:List α} {i:Nat} {v:α} (h:xs[i]? = some v):atI xs (i:Int) = some v:=by
 have hi:=(List.getElem?_eq_some_iff.mp h).1
 obtain ⟨w,e1,e2⟩:=a5r (xs:=xs) (i:=(i:Int)) (by omega) (by omega)
 rw [Int.toNat_natCast,h] at e2
 cases e2
 exact e1
section
variable {P:Program} {w:World} {K:W.Frag} {mg:Str->Option Value} {base:Heap} {t:Ad}
theorem c5j (T:Txt K mg t) (G_Heap_one:FnOk P w K mg base CX0 5 t.a_Heap_one t.d_Heap_one ["self","at","other"] (a7l K t.k_Heap)):FnOk P w K mg base CX0 6 t.a_l_turn t.d_l_turn ["_law_heap","_law_places","_law_other_here","_law_turned"] (a9c K t.k_Heap):=by
 refine T.F_l_turn.ok c4l (fun vs H Q E h=>?_) (fun cdv A outer s H vs Q E hr h=>?_)
 ·unfold a9c at h
  split at h
  ·rfl
  ·exact h.elim
 unfold a9c at h
 split at h
 rotate_left
 ·exact h.elim
 refine ⟨_,(a0d (a0y (a6p K rfl (mv 3)) (a0g (a0n (a1j (mv 0) T.cl_Heap T.me_Heap_one G_Heap_one (hr.mono (by first | decide | omega)) T.b_Heap_one .nil a0v (a0a (a0k (a0i K rfl) (mv 1) (mv 2) (fun _ _=>rfl)) (a0a (a0k (a0i K rfl) (mv 1) a0c (fun _ _=>rfl)) a0e))))) a0s) (a0g (a0n (a1j (mv 0) T.cl_Heap T.me_Heap_one G_Heap_one (hr.mono (by first | decide | omega)) T.b_Heap_one .nil a0v (a0a (a0k (a0i K rfl) (mv 1) a0c (fun _ _=>rfl)) (a0a (a0k (a0i K rfl) (mv 1) (mv 2) (fun _ _=>rfl)) a0e)))))),?_⟩
 rename_i x pp w0 b0
 obtain ⟨pb,pt,bs,tr,ps,m,i,j,w,wf,hl,ht,hp,h0,rfl,hm,hi,hj,q⟩:=h
 obtain ⟨dx,ho⟩:=w.ob
 walk_at "stp"
 cases b0 with
 | true=>
  refine iteT ?_
  obtain ⟨k0,bs',r,run⟩:=b7p _ bs (Nat.lt_succ_self _) wf [(j,i)] (fun p hp=>by rw [List.mem_singleton.mp hp]; exact ⟨hj,hi⟩)
  walk_at "stp"
  refine ⟨x,dx,_,rfl,ho,a1n,?_⟩
  walk_at "stp"
  refine a1b (SqL.of hp) (atI_nat' hm) ?_
  walk_at "stp"
  refine a1b (SqL.of hp) (atI_nat' (i:=0) h0) ?_
  walk_at "stp"
  refine ⟨pb,pt,bs,tr,j,i,k0,bs',r,w,rfl,rfl,Lim.one hl wf hj hi,ht,run,fun tr' J f1 w1 up _=>?_⟩
  exact q k0 bs' r tr' J f1 w1 up (.inr run)
 | false=>
  refine iteF ?_
  obtain ⟨k0,bs',r,run⟩:=b7p _ bs (Nat.lt_succ_self _) wf [(i,j)] (fun p hp=>by rw [List.mem_singleton.mp hp]; exact ⟨hi,hj⟩)
  walk_at "stp"
  refine ⟨x,dx,_,rfl,ho,a1n,?_⟩
  walk_at "stp"
  refine a1b (SqL.of hp) (atI_nat' (i:=0) h0) ?_
  walk_at "stp"
  refine a1b (SqL.of hp) (atI_nat' hm) ?_
  walk_at "stp"
  refine ⟨pb,pt,bs,tr,i,j,k0,bs',r,w,rfl,rfl,Lim.one hl wf hi hj,ht,run,fun tr' J f1 w1 up _=>?_⟩
  exact q k0 bs' r tr' J f1 w1 up (.inl run)
theorem b5s (T:Txt K mg t) (G_l_named:FnOk P w K mg base CX0 43 t.a_l_named t.d_l_named ["_law_term_here","_law_names"] (a3a K 41)) (G_Heap_term:FnOk P w K mg base CX0 46 t.a_Heap_term t.d_Heap_term ["self","at"] (a5k K t.k_Heap)):FnOk P w K mg base CX0 47 t.a_l_all_read t.d_l_all_read ["_law_heap","_law_places","_law_terms","_law_known"] (a5v K t.k_Heap):=by
 refine T.F_l_all_read.ok a5u (fun vs H Q E h=>?_) (fun cdv A outer s H vs Q E hr h=>?_)
 ·unfold a5v at h
  split at h
  ·rfl
  ·exact h.elim
 unfold a5v at h
 split at h
 rotate_left
 ·exact h.elim
 refine ⟨_,(a0d (a0r (i:=4) a5u.nd rfl (by walk_at "or1") a8l) (a0d (b0i (a4a PassesOwn.never rfl (b1x (mv 3)) (a3e (i:=5) a5u.nd rfl (by walk_at "or1")) (a0g (a9l (a3z hr) (mv 4) (a0m (a1g K rfl) a0o (a2h b6s rfl T.n_str boot_str (a0a (a9k (a3z hr) (mv 3) (mv 5) (fun _ _=>rfl)) a0e))) (mv 5) rfl)))) (a0d (a4a PassesOwn.never rfl (a4f rfl T.n_range (a0a (a1i (a2i K rfl) rfl T.n_len PySem.boot_len (a0a (mv 2) a0e)) a0e)) (a3e (i:=6) a5u.nd rfl (by walk_at "or1")) (a0g (a0y (PW.pt (a5b (a0q b1t (a0k (a0i K rfl) (mv 2) (mv 6) (fun _ _=>rfl)) a3m (a0p _)) (a4u (a0q (b7b K rfl (a5o hr)) (a0z G_l_named (hr.mono (by first | decide | omega)) rfl T.m_l_named T.F_l_named.kp T.b_l_named .nil a0v (a0a (a1j (mv 0) T.cl_Heap T.me_Heap_term G_Heap_term (hr.mono (by first | decide | omega)) T.b_Heap_term .nil a0v (a0a (a0k (a0i K rfl) (mv 1) (mv 6) (fun _ _=>rfl)) a0e)) (a0a (mv 4) a0e))) (a0k (a0i K rfl) (mv 2) (mv 6) (fun _ _=>rfl)) (a0p _))))) (a0g (a0n a3y)) a0s))) (a0g (a0n a3y))))),?_⟩
 rename_i x pp pts d
 obtain ⟨pb,pt,bs,tr,kn,ps,us,os,w,wf,ki,hdk,hpp,hpt,hul,hol,har,hbl,hkl,hlt,q⟩:=h
 walk_at "stp"
 intro pn hpn
 have sn:=a0f hpn (.dK [])
 have kN:(upd H pn (.dK [])) pn = some (.dK []):=a0b
 generalize upd H pn (.dK []) = H1 at sn kN ⊢
 have npd:pn ≠ d:=fun z=>by rw [z,hdk] at hpn; cases hpn
 walk_at "stm"
 (with_reducible refine a2k (fun σ' J=>∃ (oN:Option V),σ' = [some (.ref x),some (.ref pp),some (.ref pts),some (.ref d),some (.ref pn),oN,none]/\Same H J/\J pn = some (.dK (encN (nwOf kn)))) (fun σ' J hP=>?_) (fun kk=>?_))
 rotate_left
 ·(with_reducible refine b0j ?_)
  walk_at "stm"
  (with_reducible refine b1y ?_)
  walk_at "stm"
  refine ⟨d,encP kn,rfl,sn _ _ hdk,fun ob nf=>?_⟩
  have kf:(upd H1 d (.frz ob (.dK (encP kn)))) d = some (.frz ob (.dK (encP kn))):=a0b
  have bf:But d H1 (upd H1 d (.frz ob (.dK (encP kn)))):=a6l _
  generalize upd H1 d (.frz ob (.dK (encP kn))) = F at kf bf ⊢
  refine a3f b0h (fun i σ' J=>∃ (oN:Option V),σ' = [some (.ref x),some (.ref pp),some (.ref pts),some (.ref d),some (.ref pn),oN,none]/\J pn = some (.dK (encN (nwOf (kn.take i))))/\But pn F J) ⟨_,rfl,bf _ _ npd kN,But.refl _ _⟩ (fun i σ' J hP=>by obtain ⟨_,_,_,h⟩:=hP; exact h _ _ (Ne.symm npd) kf) (fun i σ' J hi hP=>?_) (fun σ' J hP=>?_)
  ·obtain ⟨oN,rfl,g1,g2⟩:=hP
   rw [a7i] at hi
   obtain ⟨r,hr0⟩:∃ r,kn[i]? = some r:=⟨_,List.getElem?_eq_getElem hi⟩
   have hg:(((encP kn)[i]?).map fun p=>kV p.1).getD V.non = .str r.1:=by rw [encP,List.getElem?_map,hr0]; rfl
   rw [hg]
   have hlk:=b0a ki.nod hr0
   have hra:=hlt _ _ hlk
   have hnew:=b5m ki.nod ki.inj hr0
   walk_at "stp"
   refine ⟨d,.int (r.2:Int),rfl,.inl ⟨encP kn,Sum.inr r.1,.inr ⟨ob,g2 _ _ (Ne.symm npd) kf⟩,rfl,by rw [a7g,hlk]; rfl⟩,?_⟩
   walk_at "stp"
   refine b6t (by omega) (Int.lt_trans (show (r.2:Int) < 1000 by omega) (by decide)) ?_
   rw [Int.toNat_natCast]
   have hfl:(⟨(a2s r.2).toArray⟩:Str).length<=1000:=by
    have:=(b1g (i:=(r.2:Int)) (by omega) (by omega)).2
    rw [<- a7e]; exact this
   refine a8o (ln (by show 1 + _<=100000; omega)) ?_
   rw [c5i]
   walk_at "stp"
   refine ⟨pn,_,rfl,DPut.k (k:=Sum.inr (bnm r.2)) g1 (by rw [b8t,nwOf,List.length_map,List.length_take,sizeLine_eq]; omega),?_⟩
   rw [b8u hnew]
   refine ⟨_,rfl,?_,g2.trans (a6l _)⟩
   rw [a0b,nwOf,nwOf,List.take_add_one,hr0,List.map_append]; rfl
  ·obtain ⟨oN,rfl,g1,g2⟩:=hP
   rw [a7i,List.take_length] at g1
   refine ⟨d,ob,encP kn,nf,g2 _ _ (Ne.symm npd) kf,?_⟩
   refine kk _ _ ⟨_,rfl,fun b o e=>?_,by rw [a0j npd]; exact g1⟩
   by_cases z:b = d
   ·subst z; rw [a0b,<- e,hdk]
   ·rw [a0j z]
    exact g2 _ _ (fun z2=>by rw [z2,hpn] at e; cases e) (bf _ _ z (sn _ _ e))
 obtain ⟨oN,rfl,sJ,kN2⟩:=hP
 clear kN sn
 generalize J = J at sJ kN2 ⊢
 walk_at "stp"
 have hptJ:=sJ _ _ hpt
 have hppJ:=sJ _ _ hpp
 refine a4q (SqL.of hptJ) ?_
 walk_at "stp"
 refine ⟨_,rfl,by omega,by omega,?_⟩
 refine a3f (a4g 0 _) (fun i σ' J2=>∃ (oN o6:Option V),σ' = [some (.ref x),some (.ref pp),some (.ref pts),some (.ref d),some (.ref pn),oN,o6]/\Same J J2) ⟨_,_,rfl,Same.refl _⟩ (fun _ _ _ _=>trivial) (fun i σ' J2 hi hP=>?_) (fun σ' J2 hP=>?_)
 rotate_left
 ·obtain ⟨oN,o6,rfl,s2⟩:=hP
  walk_at "stp"
  exact q _ (sJ.trans s2)
 obtain ⟨oN,o6,rfl,s2⟩:=hP
 rw [Int.toNat_natCast] at hi
 have sJ2:=sJ.trans s2
 obtain ⟨oo,ho⟩:∃ oo,os[i]? = some oo:=⟨_,List.getElem?_eq_getElem (by omega)⟩
 have hi1:=har i oo ho
 walk_at "stp"
 rw [Int.zero_add]
 cases oo with
 | none=>
  refine a1b (SqL.of (s2 _ _ hptJ)) (atI_nat' hi1) ?_
  walk_at "stp"
  refine iteF ?_
  refine iteF ?_
  walk_at "stp"
  exact ⟨_,_,rfl,s2⟩
 | some t0=>
  obtain ⟨r,a,e1,e2,e3,e4,e5,e6⟩:=hi1
  refine a1b (SqL.of (s2 _ _ hptJ)) (atI_nat' e1) ?_
  walk_at "stp"
  refine iteT ?_
  walk_at "stp"
  have w2:=w.same sJ2
  obtain ⟨dx,ho2⟩:=w2.ob
  refine ⟨x,dx,_,rfl,ho2,a1n,?_⟩
  walk_at "stp"
  refine a1b (SqL.of (s2 _ _ hppJ)) (atI_nat' e3) ?_
  walk_at "stp"
  have z0:(nm kn t0).size<=40:=by
   have:=b2b (f:=nf_ (nwOf kn)) (nm kn t0)
   rw [b0s ki.nod ki.inj e5] at this
   omega
  refine ⟨pb,pt,bs,tr,a,nm kn t0,w2,wf,rfl,e4,by omega,z0,fun v J3 s3 d3=>?_⟩
  walk_at "stp"
  refine ⟨nm kn t0,nwOf kn,d3,s3 _ _ (s2 _ _ kN2),by omega,by decide,fun v4 J4 s4 d4=>?_⟩
  rw [b0s ki.nod ki.inj e5] at d4
  have s24:=s2.trans (s3.trans s4)
  walk_at "stp"
  refine a1b (SqL.of (s24 _ _ hptJ)) (atI_nat' e1) ?_
  walk_at "stp"
  refine a9v d4 (e2.mono (sJ.trans s24)) (by omega) ?_
  rw [a8t]
  walk_at "stp"
  refine iteB (fun e=>absurd e (by simp)) (fun e=>?_)
  walk_at "stp"
  exact ⟨_,_,rfl,s24⟩
theorem b4b (T:Txt K mg t) (G_Heap_term:FnOk P w K mg base CX0 46 t.a_Heap_term t.d_Heap_term ["self","at"] (a5k K t.k_Heap)) (G_l_named:FnOk P w K mg base CX0 43 t.a_l_named t.d_l_named ["_law_term_here","_law_names"] (a3a K 41)) (G_Heap_parts:FnOk P w K mg base CX0 3 t.a_Heap_parts t.d_Heap_parts ["self","at","most"] (a4t K t.k_Heap)) (G_l_put_in:FnOk P w K mg base CX0 43 t.a_l_put_in t.d_l_put_in ["_law_term_here","_law_values"] (a3c K 41)) (G_l_parts:FnOk P w K mg base CX0 42 t.a_l_parts t.d_l_parts ["_law_term_here"] (a2p K 41)):FnOk P w K mg base CX0 47 t.a_l_open_right t.d_l_open_right ["_law_heap","_law_places","_law_known","_law_values"] (a5a K t.k_Heap):=by
 refine T.F_l_open_right.ok a2e (fun vs H Q E h=>?_) (fun cdv A outer s H vs Q E hr h=>?_)
 ·unfold a5a at h
  split at h
  ·rfl
  ·exact h.elim
 unfold a5a at h
 split at h
 rotate_left
 ·exact h.elim
 refine ⟨_,(a0d (a0r (i:=4) a2e.nd rfl (by walk_at "or1") a8l) (a0d (b0i (a4a PassesOwn.never rfl (b1x (mv 2)) (a3e (i:=5) a2e.nd rfl (by walk_at "or1")) (a0g (a9l (a3z hr) (mv 4) (a0m (a1g K rfl) a0o (a2h b6s rfl T.n_str boot_str (a0a (a9k (a3z hr) (mv 2) (mv 5) (fun _ _=>rfl)) a0e))) (mv 5) rfl)))) (a0d (a0r (i:=6) (hs:=a1h) a2e.nd rfl (by walk_at "or1") (a1j (mv 0) T.cl_Heap T.me_Heap_term G_Heap_term (hr.mono (by first | decide | omega)) T.b_Heap_term .nil a0v (a0a (a0k (a0i K rfl) (mv 1) a0c (fun _ _=>rfl)) a0e))) (a0d (a0y (a0q (b7b K rfl (a5o hr)) (mv 6) (a1j (mv 0) T.cl_Heap T.me_Heap_term G_Heap_term (hr.mono (by first | decide | omega)) T.b_Heap_term .nil a0v (a0a (a0k (a0i K rfl) (mv 1) a0c (fun _ _=>rfl)) a0e)) (a0p _)) (a0g (a0n a3y)) a0s) (a0d (a4a PassesOwn.never rfl (b2r K rfl (a2b (a0a a0c (a0a a0c a0e)))) (a3e (i:=7) a2e.nd rfl (by walk_at "or1")) (a0g (a0y (a0q b3k (a1j (mv 0) T.cl_Heap T.me_Heap_parts G_Heap_parts (hr.mono (by first | decide | omega)) T.b_Heap_parts .nil a0v (a0a (a0k (a0i K rfl) (mv 1) a0c (fun _ _=>rfl)) (a0a (mv 7) a0e))) (a1i (c3k rfl) rfl T.n_min boot_min (a0a (a0z G_l_parts (hr.mono (by first | decide | omega)) rfl T.m_l_parts T.F_l_parts.kp T.b_l_parts .nil a0v (a0a (mv 6) a0e)) (a0a (a0m (a1g K rfl) (mv 7) a0c) a0e))) (a0p _)) (a0g (a0n a3y)) a0s))) (a0d (b0i (a4a PassesOwn.never rfl (b1x (mv 2)) (a3e (i:=5) a2e.nd rfl (by walk_at "or1")) (a0d (a0r (i:=8) (hs:=a1h) a2e.nd rfl (by walk_at "or1") (a0z G_l_named (hr.mono (by first | decide | omega)) rfl T.m_l_named T.F_l_named.kp T.b_l_named .nil a0v (a0a (a1j (mv 0) T.cl_Heap T.me_Heap_term G_Heap_term (hr.mono (by first | decide | omega)) T.b_Heap_term .nil a0v (a0a (a9k (a3z hr) (mv 2) (mv 5) (fun _ _=>rfl)) a0e)) (a0a (mv 4) a0e)))) (a0g (a0y (a0q (b7b K rfl (a5o hr)) (a0z G_l_put_in (hr.mono (by first | decide | omega)) rfl T.m_l_put_in T.F_l_put_in.kp T.b_l_put_in .nil a0v (a0a (mv 8) (a0a (mv 3) a0e))) (b2m (a3z hr) (mv 3) (mv 5) (a1c (a0a a0o (a0a (mv 5) a0e))) ⟨rfl,rfl,rfl,rfl⟩) (a0p _)) (a0g (a0n a3y)) a0s))))) (a0g (a0n a3y)))))))),?_⟩
 rename_i x pp d dv
 obtain ⟨pb,pt,bs,tr,kn,ps,kvs,rs,M,i,j,w,hdk,hdv,ndv,hV,hpp,h0,h1,ok,q⟩:=h
 have ki:=ok.ki
 have hkl:=ok.kl
 have hlt:∀ y a,lkP kn y = some a->a < bs.length:=fun y a e=>(ok.val y a e).1
 have hbl:=ok.bl
 obtain ⟨N,hN,hR⟩:=ok.wf.sol
 have Ri:=hR i ok.hi
 have Rj:=hR j ok.hj
 have eij:=ok.same N hN
 have zi:(N i).size<=40:=Nat.le_trans (Ri.size_le ok.sol) ok.sz
 have zj:(N j).size<=40:=by rw [<- eij]; exact zi
 walk_at "stp"
 intro pn hpn
 have sn:=a0f hpn (.dK [])
 have kN:(upd H pn (.dK [])) pn = some (.dK []):=a0b
 generalize upd H pn (.dK []) = H1 at sn kN ⊢
 have npd:pn ≠ d:=fun z=>by rw [z,hdk] at hpn; cases hpn
 walk_at "stm"
 (with_reducible refine a2k (fun σ' J=>∃ (oN:Option V),σ' = [some (.ref x),some (.ref pp),some (.ref d),some (.ref dv),some (.ref pn),oN,none,none,none]/\Same H J/\J pn = some (.dK (encN (nwOf kn)))) (fun σ' J hP=>?_) (fun kk=>?_))
 rotate_left
 ·(with_reducible refine b0j ?_)
  walk_at "stm"
  (with_reducible refine b1y ?_)
  walk_at "stm"
  refine ⟨d,encP kn,rfl,sn _ _ hdk,fun ob nf=>?_⟩
  have kf:(upd H1 d (.frz ob (.dK (encP kn)))) d = some (.frz ob (.dK (encP kn))):=a0b
  have bf:But d H1 (upd H1 d (.frz ob (.dK (encP kn)))):=a6l _
  generalize upd H1 d (.frz ob (.dK (encP kn))) = F at kf bf ⊢
  refine a3f b0h (fun i σ' J=>∃ (oN:Option V),σ' = [some (.ref x),some (.ref pp),some (.ref d),some (.ref dv),some (.ref pn),oN,none,none,none]/\J pn = some (.dK (encN (nwOf (kn.take i))))/\But pn F J) ⟨_,rfl,bf _ _ npd kN,But.refl _ _⟩ (fun i σ' J hP=>by obtain ⟨_,_,_,h⟩:=hP; exact h _ _ (Ne.symm npd) kf) (fun i σ' J hi hP=>?_) (fun σ' J hP=>?_)
  ·obtain ⟨oN,rfl,g1,g2⟩:=hP
   rw [a7i] at hi
   obtain ⟨r,hr0⟩:∃ r,kn[i]? = some r:=⟨_,List.getElem?_eq_getElem hi⟩
   have hg:(((encP kn)[i]?).map fun p=>kV p.1).getD V.non = .str r.1:=by rw [encP,List.getElem?_map,hr0]; rfl
   rw [hg]
   have hlk:=b0a ki.nod hr0
   have hra:=hlt _ _ hlk
   have hnew:=b5m ki.nod ki.inj hr0
   walk_at "stp"
   refine ⟨d,.int (r.2:Int),rfl,.inl ⟨encP kn,Sum.inr r.1,.inr ⟨ob,g2 _ _ (Ne.symm npd) kf⟩,rfl,by rw [a7g,hlk]; rfl⟩,?_⟩
   walk_at "stp"
   refine b6t (by omega) (Int.lt_trans (show (r.2:Int) < 1000 by omega) (by decide)) ?_
   rw [Int.toNat_natCast]
   have hfl:(⟨(a2s r.2).toArray⟩:Str).length<=1000:=by
    have:=(b1g (i:=(r.2:Int)) (by omega) (by omega)).2
    rw [<- a7e]; exact this
   refine a8o (ln (by show 1 + _<=100000; omega)) ?_
   rw [c5i]
   walk_at "stp"
   refine ⟨pn,_,rfl,DPut.k (k:=Sum.inr (bnm r.2)) g1 (by rw [b8t,nwOf,List.length_map,List.length_take,sizeLine_eq]; omega),?_⟩
   rw [b8u hnew]
   refine ⟨_,rfl,?_,g2.trans (a6l _)⟩
   rw [a0b,nwOf,nwOf,List.take_add_one,hr0,List.map_append]; rfl
  ·obtain ⟨oN,rfl,g1,g2⟩:=hP
   rw [a7i,List.take_length] at g1
   refine ⟨d,ob,encP kn,nf,g2 _ _ (Ne.symm npd) kf,?_⟩
   refine kk _ _ ⟨_,rfl,fun b o e=>?_,by rw [a0j npd]; exact g1⟩
   by_cases z:b = d
   ·subst z; rw [a0b,<- e,hdk]
   ·rw [a0j z]
    exact g2 _ _ (fun z2=>by rw [z2,hpn] at e; cases e) (bf _ _ z (sn _ _ e))
 obtain ⟨oN,rfl,sJ,kN2⟩:=hP
 clear kN sn
 generalize J = J at sJ kN2 ⊢
 walk_at "stp"
 have w2:=w.same sJ
 obtain ⟨dx,ho⟩:=w2.ob
 refine ⟨x,dx,_,rfl,ho,a1n,?_⟩
 walk_at "stp"
 refine a1b (SqL.of (sJ _ _ hpp)) (atI_nat' (i:=0) h0) ?_
 walk_at "stp"
 refine ⟨pb,pt,bs,tr,i,N i,w2,ok.wf,rfl,Ri,by omega,zi,fun v1 J1 s1 d1=>?_⟩
 have sJ1:=sJ.trans s1
 have w3:=w.same sJ1
 obtain ⟨dx1,ho1⟩:=w3.ob
 walk_at "stp"
 refine ⟨x,dx1,_,rfl,ho1,a1n,?_⟩
 walk_at "stp"
 refine a1b (SqL.of (sJ1 _ _ hpp)) (atI_nat' (i:=1) h1) ?_
 walk_at "stp"
 refine ⟨pb,pt,bs,tr,j,N j,w3,ok.wf,rfl,Rj,by omega,zj,fun v2 J2 s2 d2=>?_⟩
 rw [<- eij] at d2
 walk_at "stp"
 refine a9v (d1.mono s2) d2 (by omega) ?_
 rw [a8t]
 walk_at "stp"
 refine iteB (fun e=>absurd e (by simp)) (fun e=>?_)
 walk_at "stp"
 refine ⟨ln (by show 2<=100000; decide),fun pz hpz=>?_⟩
 have s3:=a0f hpz (.lst [.int 40,.int 3])
 have k3:(upd J2 pz (.lst [.int 40,.int 3])) pz = some (.lst [.int 40,.int 3]):=a0b
 generalize upd J2 pz (.lst [.int 40,.int 3]) = J3 at s3 k3 ⊢
 have sH3:Same H J3:=sJ1.trans (s2.trans s3)
 have dv1:=d1.mono (s2.trans s3)
 have kN3:=(s1.trans (s2.trans s3)) _ _ kN2
 clear s1 s2 s3 d1 d2 ho ho1 w2 w3 sJ sJ1 kN2
 refine ⟨pz,rfl,⟨_,SqL.of k3⟩,?_⟩
 refine a3f (b2q (xs:=[.int 40,.int 3])) (fun i2 σ' J=>∃ (o7:Option V),σ' = [some (.ref x),some (.ref pp),some (.ref d),some (.ref dv),some (.ref pn),oN,some v1,o7,none]/\Same J3 J) ⟨_,rfl,Same.refl _⟩ (fun i2 σ' J hP=>by obtain ⟨_,_,h⟩:=hP; exact h.seq (SqL.of k3)) (fun i2 σ' J hi2 hP=>?_) (fun σ' J hP=>?_)
 ·obtain ⟨o7,rfl,s4⟩:=hP
  obtain ⟨m,hm,hm4⟩:∃ m:Nat,([V.int 40,V.int 3]).getD i2 .non = .int (m:Int)/\m<=40:=by
   have hi2:i2 < 2:=hi2
   rcases (by omega:i2 = 0\/i2 = 1) with rfl | rfl
   ·exact ⟨40,rfl,by decide⟩
   ·exact ⟨3,rfl,by decide⟩
  rw [hm]
  have w4:=w.same (sH3.trans s4)
  obtain ⟨dx4,ho4⟩:=w4.ob
  walk_at "stp"
  refine ⟨x,dx4,_,rfl,ho4,a1n,?_⟩
  walk_at "stp"
  refine a1b (SqL.of ((sH3.trans s4) _ _ hpp)) (atI_nat' (i:=0) h0) ?_
  walk_at "stp"
  refine ⟨pb,pt,bs,tr,i,m,N i,w4,ok.wf,rfl,rfl,by omega,Ri,fun J5 s5=>?_⟩
  walk_at "stp"
  refine ⟨N i,dv1.mono (s4.trans s5),by omega,by decide,fun J6 s6=>?_⟩
  walk_at "stp"
  refine iteB (fun e=>?_) (fun e=>?_)
  ·exfalso
   rw [Bool.true_xor] at e
   have e:=of_decide_eq_false (by simpa using e)
   apply e
   split <;> omega
  walk_at "stp"
  exact ⟨_,rfl,s4.trans (s5.trans s6)⟩
 obtain ⟨o7,rfl,s4⟩:=hP
 have sH4:=sH3.trans s4
 have kN4:=s4 _ _ kN3
 clear s4 dv1 k3 kN3 sH3
 have hdk4:=sH4 _ _ hdk
 have w4:=w.same sH4
 obtain ⟨ub,hub,_⟩:=w4.bx
 have npb:d ≠ pb:=fun z=>by rw [z,hub] at hdk4; cases hdk4
 have npt:d ≠ pt:=fun z=>by rw [z,w4.trl] at hdk4; cases hdk4
 (with_reducible refine b0z ?_)
 (with_reducible refine b0j ?_)
 walk_at "stm"
 (with_reducible refine b1y ?_)
 walk_at "stm"
 refine ⟨d,encP kn,rfl,hdk4,fun ob nf=>?_⟩
 have kf:(upd J d (.frz ob (.dK (encP kn)))) d = some (.frz ob (.dK (encP kn))):=a0b
 have bf:But d J (upd J d (.frz ob (.dK (encP kn)))):=a6l _
 have tf:=b4v (K:=K) hdk4 (.frz ob (.dK (encP kn)))
 have wF:HS K t.k_Heap (upd J d (.frz ob (.dK (encP kn)))) x pb pt bs tr:=w4.upO _ hdk4 (fun _ z=>by cases z) (fun _ _ z=>by cases z) (fun _ _ _ z=>by cases z) npb npt
 have vF:=(hV.monoT (fun a zs q=>sH4.tup q)).monoT tf
 generalize upd J d (.frz ob (.dK (encP kn))) = F at kf bf wF vF ⊢
 have hdvF:=bf _ _ (Ne.symm ndv) (sH4 _ _ hdv)
 have kNF:=bf _ _ npd kN4
 refine a3f b0h (fun i2 σ' J5=>∃ (o5 o8:Option V),σ' = [some (.ref x),some (.ref pp),some (.ref d),some (.ref dv),some (.ref pn),o5,some v1,o7,o8]/\Same F J5) ⟨_,_,rfl,Same.refl _⟩ (fun i2 σ' J5 hP=>by obtain ⟨_,_,_,h⟩:=hP; exact h _ _ kf) (fun i2 σ' J5 hi2 hP=>?_) (fun σ' J5 hP=>?_)
 ·obtain ⟨o5,o8,rfl,s5⟩:=hP
  rw [a7i] at hi2
  obtain ⟨r,hr0⟩:∃ r,kn[i2]? = some r:=⟨_,List.getElem?_eq_getElem hi2⟩
  have hg:(((encP kn)[i2]?).map fun p=>kV p.1).getD V.non = .str r.1:=by rw [encP,List.getElem?_map,hr0]; rfl
  rw [hg]
  have hlk:=b0a ki.nod hr0
  obtain ⟨hra,hMa,hMz⟩:=ok.val _ _ hlk
  have Ra:=hR r.2 hra
  have za:(N r.2).size<=40:=Nat.le_trans (Ra.size_le ok.sol) hMz
  have eM:sb (vf rs) (sb (nf_ (nwOf kn)) (N r.2)) = vf rs r.1:=by
   rw [b2a,<- hMa]
   refine Ra.sb ok.sol (fun e he=>?_)
   obtain ⟨y,hy⟩:=ok.free e he
   rw [nf_,b8l ki.nod ki.inj hy,Option.getD_some,sb,(ok.val _ _ hy).2.1]
  have zb:(sb (nf_ (nwOf kn)) (N r.2)).size<=40:=by
   have:=b2b (f:=vf rs) (sb (nf_ (nwOf kn)) (N r.2))
   rw [eM,<- hMa] at this
   omega
  have w5:=wF.same s5
  obtain ⟨dx5,ho5⟩:=w5.ob
  walk_at "stp"
  refine ⟨x,dx5,_,rfl,ho5,a1n,?_⟩
  walk_at "stp"
  refine ⟨d,.int (r.2:Int),rfl,.inl ⟨encP kn,Sum.inr r.1,.inr ⟨ob,s5 _ _ kf⟩,rfl,by rw [a7g,hlk]; rfl⟩,?_⟩
  walk_at "stp"
  refine ⟨pb,pt,bs,tr,r.2,N r.2,w5,ok.wf,rfl,Ra,by omega,za,fun v6 J6 s6 d6=>?_⟩
  walk_at "stp"
  refine ⟨N r.2,nwOf kn,d6,s6 _ _ (s5 _ _ kNF),by omega,by decide,fun v7 J7 s7 d7=>?_⟩
  have s57:=s5.trans (s6.trans s7)
  walk_at "stp"
  refine ⟨_,kvs,rs,d7,s57 _ _ hdvF,vF.monoT (fun a zs q=>s57.tup q),by omega,by decide,fun v8 J8 s8 d8=>?_⟩
  rw [eM] at d8
  have s58:=s57.trans s8
  have hv8:=s58 _ _ hdvF
  walk_at "stp"
  refine ⟨dv,rfl,.inl ⟨kvs,.inl hv8⟩,?_⟩
  walk_at "stp"
  refine ⟨ln (by show 2<=100000; decide),fun p9 hp9=>?_⟩
  have s9:=a0f hp9 (.tup [.str anyS,.str r.1])
  have k9:(upd J8 p9 (.tup [.str anyS,.str r.1])) p9 = some (.tup [.str anyS,.str r.1]):=a0b
  generalize upd J8 p9 (.tup [.str anyS,.str r.1]) = J9 at s9 k9 ⊢
  refine ⟨_,DGet.k (k:=Sum.inr r.1) (s9 _ _ hv8),?_⟩
  have d9:Den K J9 ((valV kvs (Sum.inr r.1)).getD (.ref p9)) (vf rs r.1).data:=by
   unfold vf
   rcases (vF.monoT (fun a zs q=>(s58.trans s9).tup q)).val r.1 with ⟨z1,z2⟩ | ⟨w',tw,z1,z2,z3⟩
   ·rw [z1,z2]; exact a8i (SqT.of k9)
   ·rw [z1,z2]; exact z3
  walk_at "stp"
  refine a9v (d8.mono s9) d9 (by rw [<- hMa]; omega) ?_
  rw [a8t]
  walk_at "stp"
  refine iteB (fun e=>absurd e (by simp)) (fun e=>?_)
  walk_at "stp"
  exact ⟨_,_,rfl,s58.trans s9⟩
 ·obtain ⟨o5,o8,rfl,s5⟩:=hP
  refine ⟨d,ob,encP kn,nf,s5 _ _ kf,?_⟩
  walk_at "stp"
  refine q _ (fun b o e=>?_)
  by_cases z:b = d
  ·subst z; rw [a0b,<- e,hdk]
  ·rw [a0j z]
   exact s5 _ _ (bf _ _ z (sH4 _ _ e))
end
theorem c7i {bs bs1:Bs} {a b:Nat} {l:List (Nat × Nat)} (h:stp bs a b = some (bs1,l)) {e:Nat} (he:bs1[e]? = some .free):bs[e]? = some .free:=by
 have set:∀ {c d:Nat},bs[c]? = some .free->(bs.set c (.to d))[e]? = some .free->bs[e]? = some .free:=fun {c d} hc he=>by
  rw [a2l _ (List.getElem?_eq_some_iff.mp hc).1] at he
  by_cases z:e = c
  ·rw [if_pos z] at he; cases he
  ·rw [if_neg z] at he; exact he
 unfold stp at h
 split at h
 ·rename_i ha
  split at h
  ·cases h; exact he
  ·split at h
   ·cases h
   ·cases h; exact set ha he
 ·rename_i u _ ha hb
  split at h
  ·cases h
  ·cases h; exact set hb he
 ·split at h
  ·cases h; exact he
  ·cases h
 ·split at h
  ·cases h; exact he
  ·cases h
 ·cases h
theorem b8v {n:Nat} {bs bs':Bs} {st:List (Nat × Nat)} {r:Bool} (h:Run n bs st bs' r) {e:Nat} (he:bs'[e]? = some .free):bs[e]? = some .free:=by
 induction h with
 | nil=>exact he
 | stop _ _ _=>exact he
 | go _ _ hs _ ih=>exact c7i hs (ih he)
theorem Sol.sb {M:Nat->Trm} {bs:Bs} (s:Sol M bs) (f:Str->Trm):Sol (fun a=>sb f (M a)) bs:=fun a b e=>by
 have h:=s a b e
 cases b with
 | free=>trivial
 | num n=>show My.sb f (M a) = _; rw [show M a = _ from h,My.sb]
 | to c=>show My.sb f (M a) = My.sb f (M c); rw [show M a = M c from h]
 | app g ks=>
  show My.sb f (M a) = .app g (ks.map fun a=>My.sb f (M a))
  rw [show M a = _ from h,My.sb,a3l,List.map_map]; rfl
structure Lw (rs:Vw) (T one:Trm) (os:List (Option Trm)):Prop where
 len:os.length = 4
 o0:os[0]? = some (some one)
 o1:∃ u,os[1]? = some (some u)/\Dug rs T u
 d0:Dug rs T one
 no:∀ (i:Nat) u,2<=i->os[i]? = some (some u)->NoU one u
 sz:T.size<=24
 vok:VOk rs
 s:∀ (i:Nat) u,os[i]? = some (some u)->u.size<=27/\ar4 u
noncomputable def PlOk (bs:Bs) (kn:Kn) (ps:List V) (i:Nat):Option Trm->Prop
 | none=>True
 | some t=>∃ a:Nat,ps[i]? = some (.int (a:Int))/\Rep bs a (nm kn t)/\vin kn t
structure Pl (bs:Bs) (kn:Kn) (ps:List V) (os:List (Option Trm)):Prop where
 pst:PSt bs kn
 bl:bs.length<=27 * ps.length
 kl:kn.length<=27 * ps.length
 row:∀ (i:Nat) o,i < ps.length->os[i]? = some o->PlOk bs kn ps i o
theorem PlOk.app {bs:Bs} {kn:Kn} {ps:List V} {i:Nat} (v:V) (bs':Bs) (kn':Kn):∀ {o:Option Trm},PlOk bs kn ps i o->PlOk (bs ++ bs') (kn ++ kn') (ps ++ [v]) i o
 | none,_=>trivial
 | some t,⟨a,h1,h2,h3⟩=>⟨a,by rw [List.getElem?_append_left (List.getElem?_eq_some_iff.mp h1).1]; exact h1,by rw [c5c kn' h3]; exact h2.more bs',c0p kn' h3⟩
theorem Pl.addN {bs:Bs} {kn:Kn} {ps:List V} {os:List (Option Trm)} (p:Pl bs kn ps os) (v:V) (h:os[ps.length]? = some none):Pl bs kn (ps ++ [v]) os:=by
 refine ⟨p.pst,by rw [List.length_append,List.length_singleton]; have:=p.bl; omega,by rw [List.length_append,List.length_singleton]; have:=p.kl; omega,fun i o hi ho=>?_⟩
 rw [List.length_append,List.length_singleton] at hi
 by_cases z:i < ps.length
 ·have:=(p.row i o z ho).app v [] []
  rwa [List.append_nil,List.append_nil] at this
 ·have zi:i = ps.length:=by omega
  rw [zi,h] at ho
  cases ho
  trivial
theorem Pl.addS {bs:Bs} {kn:Kn} {ps:List V} {os:List (Option Trm)} (p:Pl bs kn ps os) {t:Trm} {a:Nat} {bs':Bs} {kn':Kn} (h:os[ps.length]? = some (some t)) (h1:PSt (bs ++ bs') (kn ++ kn')) (h2:Rep (bs ++ bs') a (nm (kn ++ kn') t)) (h3:vin (kn ++ kn') t) (z:t.size<=27) (l1:bs'.length<=t.size) (l2:kn'.length<=t.size):Pl (bs ++ bs') (kn ++ kn') (ps ++ [.int (a:Int)]) os:=by
 refine ⟨h1,by rw [List.length_append,List.length_append,List.length_singleton]; have:=p.bl; omega,by rw [List.length_append,List.length_append,List.length_singleton]; have:=p.kl; omega,fun i o hi ho=>?_⟩
 rw [List.length_append,List.length_singleton] at hi
 by_cases y:i < ps.length
 ·exact (p.row i o y ho).app _ bs' kn'
 ·have zi:i = ps.length:=by omega
  rw [zi,h] at ho
  cases ho
  exact ⟨a,by rw [zi]; simp,h2,h3⟩
noncomputable def OD (K:W.Frag) (J:Hp) (one:Trm) (v:V):Option Trm->Prop
 | none=>v = .non
 | some u=>∃ r,v = .ref r/\Den K J (.ref r) u.data/\NoU one u/\u.size<=27/\ar4 u
theorem OD.monoT {K:W.Frag} {J J':Hp} {one:Trm} {v:V} (ht:∀ a xs,SqT K J a xs->SqT K J' a xs):∀ {o:Option Trm},OD K J one v o->OD K J' one v o
 | none,h=>h
 | some u,⟨r,h1,h2,h3⟩=>⟨r,h1,h2.monoT ht,h3⟩
noncomputable def UOk (K:W.Frag) (J:Hp) (us:List V) (i:Nat):Option Trm->Prop
 | none=>us[i]? = some .non
 | some t=>∃ r,us[i]? = some (.ref r)/\Den K J (.ref r) t.data
theorem UOk.monoT {K:W.Frag} {J J':Hp} {us:List V} {i:Nat} (ht:∀ a xs,SqT K J a xs->SqT K J' a xs):∀ {o:Option Trm},UOk K J us i o->UOk K J' us i o
 | none,h=>h
 | some t,⟨r,h1,h2⟩=>⟨r,h1,h2.monoT ht⟩
theorem c0t {K:W.Frag} {H:Hp} {v:V} {t:Trm} (h:Den K H v t.data):∃ r,v = .ref r:=by
 cases t with
 | num n=>obtain ⟨a,rfl,_⟩:=a1u h; exact ⟨a,rfl⟩
 | any x=>obtain ⟨a,rfl,_⟩:=a1x h; exact ⟨a,rfl⟩
 | app s ks=>obtain ⟨a,_,_,rfl,_⟩:=a2g h; exact ⟨a,rfl⟩
theorem uok_of {K:W.Frag} {J:Hp} {one oth:Trm} {r1 r2:Addr} {v3 v4:V} {o3 o4:Option Trm} (d1:Den K J (.ref r1) one.data) (d2:Den K J (.ref r2) oth.data) (e3:OD K J one v3 o3) (e4:OD K J one v4 o4):∀ (i:Nat) o,[some one,some oth,o3,o4][i]? = some o->UOk K J [.ref r1,.ref r2,v3,v4] i o
 | 0,o,h=>by cases h; exact ⟨r1,rfl,d1⟩
 | 1,o,h=>by cases h; exact ⟨r2,rfl,d2⟩
 | 2,o,h=>by
  cases h
  cases o3 with
  | none=>show some v3 = some .non; rw [show v3 = .non from e3]
  | some u=>obtain ⟨r,rfl,h2,_⟩:=e3; exact ⟨r,rfl,h2⟩
 | 3,o,h=>by
  cases h
  cases o4 with
  | none=>show some v4 = some .non; rw [show v4 = .non from e4]
  | some u=>obtain ⟨r,rfl,h2,_⟩:=e4; exact ⟨r,rfl,h2⟩
 | n + 4,o,h=>by cases h
theorem lw_of {K:W.Frag} {J:Hp} {rs:Vw} {T one oth:Trm} {v3 v4:V} {o3 o4:Option Trm} (g1:Dug rs T one) (g2:Dug rs T oth) (z1:one.size<=24) (z2:oth.size<=24) (a1:ar4 one) (a2:ar4 oth) (zT:T.size<=24) (O:VOk rs) (e3:OD K J one v3 o3) (e4:OD K J one v4 o4):Lw rs T one [some one,some oth,o3,o4]:=by
 refine ⟨rfl,rfl,⟨oth,rfl,g2⟩,g1,fun i u hi h=>?_,zT,O,fun i u h=>?_⟩
 ·match i,hi,h with
  | 2,_,h=>simp at h; subst h; obtain ⟨_,_,_,h3,_⟩:=e3; exact h3
  | 3,_,h=>simp at h; subst h; obtain ⟨_,_,_,h3,_⟩:=e4; exact h3
  | n + 4,_,h=>cases h
 ·match i,h with
  | 0,h=>cases h; exact ⟨by omega,a1⟩
  | 1,h=>cases h; exact ⟨by omega,a2⟩
  | 2,h=>simp at h; subst h; obtain ⟨_,_,_,_,h4⟩:=e3; exact h4
  | 3,h=>simp at h; subst h; obtain ⟨_,_,_,_,h4⟩:=e4; exact h4
  | n + 4,h=>cases h
section
variable {rs:Vw} {T one:Trm} {os:List (Option Trm)} {bs:Bs} {kn:Kn} {ps:List V}
theorem Pl.sol (w:Lw rs T one os) (p:Pl bs kn ps os):∃ M,Sol M bs/\(∀ y a,lkP kn y = some a->M a = vf rs y)/\∀ (i a:Nat) u,Rep bs a (nm kn u)->vin kn u->M a = sb (vf rs) u:=by
 obtain ⟨N,hN,hR⟩:=p.pst.wf.sol
 refine ⟨_,hN.sb (fun z=>sb (vf rs) (nf_ (nwOf kn) z)),fun y a e=>?_,fun _ a u hr hv=>?_⟩
 ·have hf:=p.pst.ok y a e
  have ha:=(List.getElem?_eq_some_iff.mp hf).1
  have:N a = .any (bnm a):=(hR a ha).uniq (by rw [Rep]; exact ⟨a,.here hf (fun _ z=>by cases z),hf,rfl⟩)
  show sb _ (N a) = _
  rw [this,sb,nf_,b8l p.pst.nod p.pst.inj e,Option.getD_some,sb]
 ·have:N a = nm kn u:=(hR a hr.lt).uniq hr
  show sb _ (N a) = _
  rw [this,<- b2a,b0s p.pst.nod p.pst.inj hv]
theorem Pl.one_ (w:Lw rs T one os) (p:Pl bs kn ps os) (hl:ps.length = 4) {n i j:Nat} {bs':Bs} {r:Bool} (h0:ps[0]? = some (.int (i:Int))) (h1:ps[1]? = some (.int (j:Int))) (run:Run n bs [(i,j)] bs' r\/Run n bs [(j,i)] bs' r):r = true/\∃ M,OrOk bs' kn rs M i j:=by
 obtain ⟨M,hM,hv,hu⟩:=p.sol w
 obtain ⟨u,e1,d1⟩:=w.o1
 obtain ⟨a0,f0,r0,v0⟩:=p.row 0 _ (by omega) w.o0
 obtain ⟨a1,f1,r1,v1⟩:=p.row 1 _ (by omega) e1
 rw [h0] at f0
 rw [h1] at f1
 have f0:i = a0:=by have:=Option.some.inj f0; injection this; omega
 have f1:j = a1:=by have:=Option.some.inj f1; injection this; omega
 subst f0 f1
 have m0:=hu 0 i one r0 v0
 have m1:=hu 0 j u r1 v1
 rw [w.d0.eq] at m0
 rw [d1.eq] at m1
 have bl:=p.bl
 have kl:=p.kl
 have li:=r0.lt
 have lj:=r1.lt
 have key:r = true/\Sol M bs'/\(Wf bs'/\bs'.length = bs.length)/\(∀ e:Nat,bs'[e]? = some .free->bs[e]? = some .free)/\(r = true->∀ N,Sol N bs'->N i = N j):=by
  rcases run with run | run
  ·obtain ⟨h,s⟩:=c4r run hM (fun p hp=>by rw [List.mem_singleton.mp hp,m0,m1])
   exact ⟨h,s,b3w run p.pst.wf (fun p hp=>by rw [List.mem_singleton.mp hp]; exact ⟨li,lj⟩),fun e he=>b8v run he,fun hr N sN=>(b0q run hr sN).2 _ (List.mem_singleton.mpr rfl)⟩
  ·obtain ⟨h,s⟩:=c4r run hM (fun p hp=>by rw [List.mem_singleton.mp hp,m0,m1])
   exact ⟨h,s,b3w run p.pst.wf (fun p hp=>by rw [List.mem_singleton.mp hp]; exact ⟨lj,li⟩),fun e he=>b8v run he,fun hr N sN=>((b0q run hr sN).2 _ (List.mem_singleton.mpr rfl)).symm⟩
 obtain ⟨hr,s',⟨wf',le⟩,fr,sm⟩:=key
 refine ⟨hr,M,wf',by omega,by omega,p.pst.kni,by omega,by omega,s',sm hr,by rw [m0]; have:=w.sz; omega,fun y a e=>⟨?_,hv y a e,?_⟩,fun e he=>p.pst.all e (fr e he)⟩
 ·rw [le]; exact (List.getElem?_eq_some_iff.mp (p.pst.ok y a e)).1
 ·rw [hv y a e]
  unfold vf
  cases hk:lkV rs y with
  | none=>show (Trm.any y).size<=40; rw [Trm.size]; decide
  | some t=>exact w.vok.ok y t hk
theorem Pl.cant (w:Lw rs T one os) (p:Pl bs kn ps os) (hl:ps.length = 4) {n i j m:Nat} {bs':Bs} {r:Bool} {u:Trm} (hm:2<=m) (hm4:m < 4) (hu:os[m]? = some (some u)) (h0:ps[0]? = some (.int (i:Int))) (h1:ps[m]? = some (.int (j:Int))) (run:Run n bs [(i,j)] bs' r\/Run n bs [(j,i)] bs' r):r = false:=by
 cases r with
 | false=>rfl
 | true=>
  exfalso
  obtain ⟨a0,f0,r0,v0⟩:=p.row 0 _ (by omega) w.o0
  obtain ⟨a1,f1,r1,v1⟩:=p.row m _ (by omega) hu
  rw [h0] at f0
  rw [h1] at f1
  have f0:i = a0:=by have:=Option.some.inj f0; injection this; omega
  have f1:j = a1:=by have:=Option.some.inj f1; injection this; omega
  subst f0 f1
  have li:=r0.lt
  have lj:=r1.lt
  have key:∃ N,Sol N bs/\N i = N j:=by
   rcases run with run | run
   ·obtain ⟨wf',_⟩:=b3w run p.pst.wf (fun p hp=>by rw [List.mem_singleton.mp hp]; exact ⟨li,lj⟩)
    obtain ⟨N,hN,_⟩:=wf'.sol
    obtain ⟨s,e⟩:=b0q run rfl hN
    exact ⟨N,s,e _ (List.mem_singleton.mpr rfl)⟩
   ·obtain ⟨wf',_⟩:=b3w run p.pst.wf (fun p hp=>by rw [List.mem_singleton.mp hp]; exact ⟨lj,li⟩)
    obtain ⟨N,hN,_⟩:=wf'.sol
    obtain ⟨s,e⟩:=b0q run rfl hN
    exact ⟨N,s,(e _ (List.mem_singleton.mpr rfl)).symm⟩
  obtain ⟨N,s,e⟩:=key
  obtain ⟨f,hf⟩:=c4s N
  rw [<- r0.sb s (f:=f) (fun e _=>hf e),<- r1.sb s (f:=f) (fun e _=>hf e),nm,nm,b2a,b2a] at e
  exact w.no m u hm hu _ e
end
section
variable {P:Program} {w:World} {K:W.Frag} {mg:Str->Option Value} {base:Heap} {t:Ad}
theorem ok_law (T:Txt K mg t) (G_l_cells:FnOk P w K mg base CX0 1 t.a_l_cells t.d_l_cells ["_law_script","_law_many"] (a6q K)) (G_l_words:FnOk P w K mg base CX0 2 t.a_l_words t.d_l_words ["_law_cell","_law_at"] (a8a)) (G_l_term:FnOk P w K mg base CX0 67 t.a_l_term t.d_l_term ["_law_left","_law_room","_law_words_here"] (a4k K 25)) (G_l_dug:FnOk P w K mg base CX0 27 t.a_l_dug t.d_l_dug ["_law_term_here","_law_left","_law_values"] (a5l K 25)) (G_l_spoiled:FnOk P w K mg base CX0 27 t.a_l_spoiled t.d_l_spoiled ["_law_one","_law_other_here","_law_left","_law_words_here"] (a2u K 25)) (G_Heap_init:FnOk P w K mg base CX0 1 t.a_Heap_init t.d_Heap_init ["self"] (a6u K t.k_Heap)) (G_Heap_mark:FnOk P w K mg base CX0 1 t.a_Heap_mark t.d_Heap_mark ["self"] (a6w K t.k_Heap)) (G_l_ringed:FnOk P w K mg base CX0 27 t.a_l_ringed t.d_l_ringed ["_law_one","_law_other_here","_law_cell"] (a3d K 25)) (G_l_turn:FnOk P w K mg base CX0 6 t.a_l_turn t.d_l_turn ["_law_heap","_law_places","_law_other_here","_law_turned"] (a9c K t.k_Heap)) (G_Heap_back_to:FnOk P w K mg base CX0 1 t.a_Heap_back_to t.d_Heap_back_to ["self","mark"] (a4z K t.k_Heap)) (G_l_all_read:FnOk P w K mg base CX0 47 t.a_l_all_read t.d_l_all_read ["_law_heap","_law_places","_law_terms","_law_known"] (a5v K t.k_Heap)) (G_l_put:FnOk P w K mg base CX0 44 t.a_l_put t.d_l_put ["_law_heap","_law_term_here","_law_known"] (a5n K t.k_Heap 41)) (G_l_open_right:FnOk P w K mg base CX0 47 t.a_l_open_right t.d_l_open_right ["_law_heap","_law_places","_law_known","_law_values"] (a5a K t.k_Heap)):FnOk P w K mg base CX0 90 t.a_law t.d_law ["_law_script"] (b0c K):=by
 refine T.F_law.ok a2j (fun vs H Q E h=>?_) (fun cdv A outer s H vs Q E hr h=>?_)
 ·unfold b0c at h
  split at h
  ·rfl
  ·exact h.elim
 unfold b0c at h
 split at h
 rotate_left
 ·exact h.elim
 refine ⟨_,(a0d (a0r (i:=1) (hs:=a1h) a2j.nd rfl (by walk_at "or1") (a0z G_l_cells (hr.mono (by first | decide | omega)) rfl T.m_l_cells T.F_l_cells.kp T.b_l_cells .nil a0v (a0a (mv 0) (a0a a0c a0e)))) (a0d (a0r (i:=2) (hs:=a1h) a2j.nd rfl (by walk_at "or1") (a0z G_l_words (hr.mono (by first | decide | omega)) rfl T.m_l_words T.F_l_words.kp T.b_l_words .nil a0v (a0a (a0k (a0i K rfl) (mv 1) a0c (fun _ _=>rfl)) (a0a (a0k (a0i K rfl) (mv 1) a0c (fun _ _=>rfl)) a0e)))) (a0d (b9x (i:=3) a2j.nd rfl (by walk_at "or1") rfl (a4f rfl T.n_range (a0a a0c a0e)) (a6j (a0h a8z) ["_law_script","_law_cells_here","_law_words_here","_law_left","_law_term_here","_law_values","_law_one","_law_other_here","_law_spoiled_here","_law_terms","_law_heap","_law_known","_law_places","_law_some","_law_note","_law_k","_law_way","_law_could"] ["_law_script","_law_cells_here","_law_words_here","_law_left","_law_term_here","_law_values","_law_one","_law_other_here","_law_spoiled_here","_law_terms","_law_heap","_law_known","_law_places","_law_some","_law_note","%_law_k","_law_way","_law_could"] rfl rfl (by decide +kernel)) (fun _ _ _ _ _=>a6i) (fun _ _ _ _ _=>(a0k (a0i K rfl) (mv 2) (a0m a2r a0c (mv 0)) (fun _ _=>rfl)))) (a0d (a0r (i:=4) (hs:=a1h) a2j.nd rfl (by walk_at "or1") (a0z G_l_term (hr.mono (by first | decide | omega)) rfl T.m_l_term T.F_l_term.kp T.b_l_term .nil a0v (a0a (mv 3) (a0a (a0m (a1g K rfl) a0c (a0m a1d (a0k (a0i K rfl) (mv 1) a0c (fun _ _=>rfl)) a0c)) (a0a (mv 2) a0e))))) (a0d (a0r (i:=5) a2j.nd rfl (by walk_at "or1") a8l) (a0d (a0r (i:=6) (hs:=a1h) a2j.nd rfl (by walk_at "or1") (a0z G_l_dug (hr.mono (by first | decide | omega)) rfl T.m_l_dug T.F_l_dug.kp T.b_l_dug .nil a0v (a0a (mv 4) (a0a (mv 3) (a0a (mv 5) a0e))))) (a0d (a0r (i:=7) (hs:=a1h) a2j.nd rfl (by walk_at "or1") (a0z G_l_dug (hr.mono (by first | decide | omega)) rfl T.m_l_dug T.F_l_dug.kp T.b_l_dug .nil a0v (a0a (mv 4) (a0a (mv 3) (a0a (mv 5) a0e))))) (a0d (a0r (i:=8) (hs:=a1h) a2j.nd rfl (by walk_at "or1") (a0z G_l_spoiled (hr.mono (by first | decide | omega)) rfl T.m_l_spoiled T.F_l_spoiled.kp T.b_l_spoiled .nil a0v (a0a (mv 6) (a0a (mv 7) (a0a (mv 3) (a0a (mv 2) a0e)))))) (a0d (a0r (i:=9) (hs:=a9u) a2j.nd rfl (by walk_at "or1") (a2b (a0a (mv 6) (a0a (mv 7) (a0a (mv 8) (a0a (a0z G_l_ringed (hr.mono (by first | decide | omega)) rfl T.m_l_ringed T.F_l_ringed.kp T.b_l_ringed .nil a0v (a0a (mv 6) (a0a (mv 7) (a0a (a0k (a0i K rfl) (mv 1) a0c (fun _ _=>rfl)) a0e)))) a0e)))))) (a0d (a0r (i:=10) (hs:=a1h) a2j.nd rfl (by walk_at "or1") (c5r T.mk_Heap G_Heap_init (hr.mono (by first | decide | omega)) rfl T.m_Heap T.b_Heap_init .nil a0v )) (a0d (a0r (i:=11) a2j.nd rfl (by walk_at "or1") a8l) (a0d (a0r (i:=12) (hs:=a9u) a2j.nd rfl (by walk_at "or1") (a2b a0e)) (a0d (a4a PassesOwn.never rfl (b2r K rfl (mv 9)) (a3e (i:=13) a2j.nd rfl (by walk_at "or1")) (a0g (a4v (a7k K rfl F.plainAttrs_list F.slot_list_append F.type_list_append a7o (mv 12) (a0a (b2k (a0q c3s (mv 13) a3m (a0p _)) a3m (a0z G_l_put (hr.mono (by first | decide | omega)) rfl T.m_l_put T.F_l_put.kp T.b_l_put .nil a0v (a0a (mv 10) (a0a (mv 13) (a0a (mv 11) a0e))))) a0e))))) (a0d (a0r (i:=14) (hs:=a1h) a2j.nd rfl (by walk_at "or1") (b6j (mv 10) T.cl_Heap T.me_Heap_mark G_Heap_mark (hr.mono (by first | decide | omega)) T.b_Heap_mark .nil a0v)) (a0d (a4a PassesOwn.never rfl (b2r K rfl (a2b (a0a a0c (a0a a0c (a0a a0c (a0a a0c a0e)))))) (a3e (i:=15) a2j.nd rfl (by walk_at "or1")) (a0d (a0r (i:=16) (hs:=a3h) a2j.nd rfl (by walk_at "or1") (a0m (a1g K rfl) a0c (a0m a1d (a0m (a1g K rfl) (a0k (a0i K rfl) (mv 1) a0c (fun _ _=>rfl)) (a0m a8m (mv 15) (a0m (a1g K rfl) a0c (a0m a1d (a0m a2f (a0k (a0i K rfl) (mv 1) a0c (fun _ _=>rfl)) a0c) a0c)))) a0c))) (a0d (a0y (a0q b1t (a0k (a0i K rfl) (mv 9) (mv 16) (fun _ _=>rfl)) a3m (a0p _)) (a0d (a0r (i:=17) (hs:=a1h) a2j.nd rfl (by walk_at "or1") (a0z G_l_turn (hr.mono (by first | decide | omega)) rfl T.m_l_turn T.F_l_turn.kp T.b_l_turn .nil a0v (a0a (mv 10) (a0a (mv 12) (a0a (mv 16) (a0a (b1o a1e (a0m a1d (a0m a2f (a0k (a0i K rfl) (mv 1) a0c (fun _ _=>rfl)) (a0m (a1g K rfl) (mv 15) a0c)) a0c) a0c (a0p _)) a0e)))))) (a0d (a0y (PW.pt (pw_or (b6f (a6p K rfl (a1i (kc_is K rfl) rfl T.n_isinstance boot_isinstance (a0a (mv 17) (a0a (pe_bty rfl T.n_bool boot_bool) a0e))))) (b6e (a0q b3k (mv 17) (b1o a1e (mv 16) a0c (a0p _)) (a0p _))))) (a0g (a0n a3y)) a0s) (a0d (a0y (PW.pt (a5b (a6p K rfl (mv 17)) (a4u (b6f (a6p K rfl (a0z G_l_open_right (hr.mono (by first | decide | omega)) rfl T.m_l_open_right T.F_l_open_right.kp T.b_l_open_right .nil a0v (a0a (mv 10) (a0a (mv 12) (a0a (mv 11) (a0a (mv 5) a0e)))))))))) (a0g (a0n a3y)) a0s) (a0g (a4v (a1j (mv 10) T.cl_Heap T.me_Heap_back_to G_Heap_back_to (hr.mono (by first | decide | omega)) T.b_Heap_back_to .nil a0v (a0a (mv 14) a0e))))))) a0s) (a0g (a0y (b6f (a6p K rfl (a0z G_l_all_read (hr.mono (by first | decide | omega)) rfl T.m_l_all_read T.F_l_all_read.kp T.b_l_all_read .nil a0v (a0a (mv 10) (a0a (mv 12) (a0a (mv 9) (a0a (mv 11) a0e))))))) (a0g (a0n a3y)) a0s))))) (a0g (a0n a3y))))))))))))))))),?_⟩
 rename_i a
 obtain ⟨ns,hS,hn,q⟩:=h
 walk_at "stp"
 refine ⟨ns,hS,hn,by decide,by decide,fun pc cs H1 hl s1 hc=>?_⟩
 have hcl:cs.length = 110:=hl
 have cx:∀ j:Int,0<=j->j < 110->∃ x:Int,atI (cs.map V.int) j = some (.int x):=fun j h0 h1=>b8i h0 (by rw [hcl]; exact h1)
 obtain ⟨c0,hc0⟩:=cx 0 (by decide) (by decide)
 obtain ⟨c1,hc1⟩:=cx 1 (by decide) (by decide)
 obtain ⟨c2,hc2⟩:=cx 2 (by decide) (by decide)
 obtain ⟨c3,hc3⟩:=cx 3 (by decide) (by decide)
 obtain ⟨c4,hc4⟩:=cx 4 (by decide) (by decide)
 obtain ⟨c5,hc5⟩:=cx 5 (by decide) (by decide)
 clear hS s1
 walk_at "stp"
 refine a1b (SqL.of hc) hc4 ?_
 walk_at "stp"
 refine a1b (SqL.of hc) hc5 ?_
 walk_at "stp"
 refine fun pw ws H2 hwl hwn s2 hw=>?_
 have hc':=s2 _ _ hc
 clear hc s2 hc4 hc5
 walk_at "stp"
 refine ⟨104,rfl,by decide,by decide,fun pl hpl=>?_⟩
 refine a5c (a4g 0 (104:Int).toNat) (fun i ys H'=>Same H2 H'/\(∃ zs:List Int,ys = zs.map V.int)/\H' pl = some (.lst ys)) (ln (by decide)) ⟨a0f hpl _,⟨[],rfl⟩,a0b⟩ (fun _ _ _ _=>trivial) (fun i ys H' Q' hi' hl' hP k=>?_) (fun ys H3 hl' hP=>?_)
 ·obtain ⟨g1,⟨zs,g2⟩,g3⟩:=hP
  have hi':i < 104:=hi'
  walk_at "stp"
  obtain ⟨x,hx⟩:=cx (109 - (0 + (i:Int))) (by omega) (by omega)
  refine a1b (SqL.of (g1 _ _ hc')) hx ?_
  exact k _ _ g3 ⟨a2x g1 hpl,⟨zs ++ [x],by rw [g2,List.map_append]; rfl⟩,a0b⟩
 obtain ⟨g1,⟨zs,rfl⟩,g3⟩:=hP
 have hcL:=g1 _ _ hc'
 have hwL:=g1 _ _ hw
 have ncl:pc ≠ pl:=a0t hc' hpl
 have nwl:pw ≠ pl:=a0t hw hpl
 clear hc' hw g1 hpl hl' hl
 walk_at "stp"
 refine a1b (SqL.of hcL) hc0 ?_
 walk_at "stp"
 have b5:=Int.emod_nonneg c0 (show (24:Int) ≠ 0 by decide)
 have b6:=Int.emod_lt_of_pos c0 (show (0:Int) < 24 by decide)
 refine ⟨zs,ws,Ne.symm nwl,g3,hwL,hwl,by omega,by omega,by decide,fun rT H4 T zs2 b4 f4 hp4 dT zT aT yT=>?_⟩
 have zT:T.size<=24:=by omega
 have hc4:=b4 _ _ ncl hcL
 have hw4:=b4 _ _ nwl hwL
 clear b4 f4 g3 hcL hwL
 walk_at "stp"
 intro dv hdv
 have s5:=a0f hdv (.dK [])
 have k5:(upd H4 dv (.dK [])) dv = some (.dK []):=a0b
 generalize upd H4 dv (.dK []) = H5 at s5 k5 ⊢
 have ncd:pc ≠ dv:=a0t hc4 hdv
 have nwd:pw ≠ dv:=a0t hw4 hdv
 have nld:pl ≠ dv:=a0t hp4 hdv
 have hc5:=s5 _ _ hc4
 have hw5:=s5 _ _ hw4
 have hp5:=s5 _ _ hp4
 have dT5:=dT.mono s5
 clear hc4 hw4 hp4 dT s5 hdv
 walk_at "stp"
 refine ⟨T,zs2,[],[],0,dT5,hp5,k5,.nil,⟨fun x hx=>(by cases hx),fun x u hx=>(by cases hx)⟩,Nat.le_refl _,by omega,by omega,by decide,aT,yT,fun v1 one zs3 kvs3 rs3 H6 F6 hp6 hd6 V6 O6 _ m6 d1 z1 a1 g1=>?_⟩
 have t6:=F6.tup (K:=K) hp5 k5
 have dT6:=dT5.monoT t6
 have hc6:=F6 _ _ ncl ncd hc5
 have hw6:=F6 _ _ nwl nwd hw5
 clear hc5 hw5 hp5 dT5 k5 F6 t6
 walk_at "stp"
 refine ⟨T,zs3,kvs3,rs3,24,dT6,hp6,hd6,V6,O6,by omega,by omega,by omega,by decide,aT,yT,fun v2 oth zs4 kvs4 rs4 H7 F7 hp7 hd7 V7 O7 X7 m7 d2 z2 a2 g2=>?_⟩
 have t7:=F7.tup (K:=K) hp6 hd6
 have d17:=d1.monoT t7
 have g17:=g1.more X7 O6 O7
 have hc7:=F7 _ _ ncl ncd hc6
 have hw7:=F7 _ _ nwl nwd hw6
 have com:Com one oth:=⟨vf rs4,by rw [g17.eq,g2.eq]⟩
 clear hc6 hw6 hp6 hd6 V6 O6 F7 t7 d1 g1 dT6 X7 m6 m7
 obtain ⟨r1,rfl⟩:=c0t d17
 obtain ⟨r2,rfl⟩:=c0t d2
 walk_at "stm"
 (with_reducible refine a2k (fun σ' J=>∃ (v3:V) (o3:Option Trm),σ' = [some (.ref a),some (.ref pc),some (.ref pw),some (.ref pl),some (.ref rT),some (.ref dv),some (.ref r1),some (.ref r2),some v3,none,none,none,none,none,none,none,none,none]/\J dv = some (.dK kvs4)/\VR K J kvs4 rs4/\J pc = some (.lst (cs.map V.int))/\Den K J (.ref r1) one.data/\Den K J (.ref r2) oth.data/\OD K J one v3 o3) (fun σ' J hP=>?_) (fun kk=>?_))
 rotate_left
 ·walk_at "stm"
  refine ⟨one,oth,zs4,ws,d17,d2,com,hp7,⟨hw7,hwl,hwn⟩,Ne.symm nwl,by omega,by decide,a2,by omega,fun ns' J bj fj pj=>⟨?_,fun r u du nu su au ou=>?_⟩⟩
  ·walk_at "stm"
   exact kk _ _ ⟨.non,none,rfl,bj _ _ (Ne.symm nld) hd7,V7.monoT (fun a zs q=>bj.tup hp7 q),bj _ _ ncl hc7,bj.den hp7 d17,bj.den hp7 d2,rfl⟩
  ·walk_at "stm"
   exact kk _ _ ⟨.ref r,some u,rfl,bj _ _ (Ne.symm nld) hd7,V7.monoT (fun a zs q=>bj.tup hp7 q),bj _ _ ncl hc7,bj.den hp7 d17,bj.den hp7 d2,r,rfl,du,nu,by omega,au⟩
 clear d17 d2 V7 hd7 hp7 hw7 hc7
 obtain ⟨v3,o3,rfl,hd8,V8,hc8,d1,d2,e3⟩:=hP
 (with_reducible refine a2k (fun σ' J2=>∃ (v4:V) (o4:Option Trm) (pts:Addr),σ' = [some (.ref a),some (.ref pc),some (.ref pw),some (.ref pl),some (.ref rT),some (.ref dv),some (.ref r1),some (.ref r2),some v3,some (.ref pts),none,none,none,none,none,none,none,none]/\J2 pts = some (.lst [.ref r1,.ref r2,v3,v4])/\J2 dv = some (.dK kvs4)/\VR K J2 kvs4 rs4/\J2 pc = some (.lst (cs.map V.int))/\Den K J2 (.ref r1) one.data/\Den K J2 (.ref r2) oth.data/\OD K J2 one v3 o3/\OD K J2 one v4 o4) (fun σ' J2 hP=>?_) (fun kk=>?_))
 rotate_left
 ·walk_at "stm"
  refine a1b (SqL.of hc8) hc1 ?_
  walk_at "stm"
  refine ⟨one,oth,d1,d2,com,by omega,by decide,a2,by omega,fun J2 s2=>⟨?_,fun r u du nu su au ou=>?_⟩⟩
  ·walk_at "stm"
   refine ⟨ln (by show 4<=100000; decide),fun pts hpts=>?_⟩
   have s3:=a0f hpts (.lst [.ref r1,.ref r2,v3,.non])
   have ss:=s2.trans s3
   walk_at "stm"
   exact kk _ _ ⟨.non,none,pts,rfl,a0b,ss _ _ hd8,V8.monoT (fun a zs q=>ss.tup q),ss _ _ hc8,d1.mono ss,d2.mono ss,e3.monoT (fun a zs q=>ss.tup q),rfl⟩
  ·walk_at "stm"
   refine ⟨ln (by show 4<=100000; decide),fun pts hpts=>?_⟩
   have s3:=a0f hpts (.lst [.ref r1,.ref r2,v3,.ref r])
   have ss:=s2.trans s3
   walk_at "stm"
   exact kk _ _ ⟨.ref r,some u,pts,rfl,a0b,ss _ _ hd8,V8.monoT (fun a zs q=>ss.tup q),ss _ _ hc8,d1.mono ss,d2.mono ss,e3.monoT (fun a zs q=>ss.tup q),r,rfl,du.mono s3,nu,by omega,au⟩
 clear hd8 V8 hc8 d1 d2 e3
 obtain ⟨v4,o4,pts,rfl,hts,hd9,V9,hc9,d1,d2,e3,e4⟩:=hP
 have uok:=uok_of d1 d2 e3 e4
 have lw:=lw_of g17 g2 (by omega) (by omega) a1 a2 zT O7 e3 e4
 clear d1 d2 e3 e4 com g17 g2 z1 z2 a1 a2 aT yT hc1 hc0
 generalize hus:[V.ref r1,V.ref r2,v3,v4] = us at hts uok
 generalize hos:[some one,some oth,o3,o4] = os at uok lw
 have hul:us.length = 4:=by rw [<- hus]; rfl
 have hol:os.length = 4:=lw.len
 clear hus hos
 walk_at "stp"
 intro x dx hx hdx hne
 refine ⟨dx,a0b,fun pb pt G1 w f hpb hpt=>⟨rfl,?_⟩⟩
 have fr:∀ b o',J2 b = some o'->G1 b = some o'/\b ≠ pb/\b ≠ pt:=fun b o' e=>by
  have e0:∀ o1 o2,(upd (upd J2 dx o1) x o2) b = some o':=fun _ _=>by rw [a0j (a0t e hx),a0j (a0t e hdx)]; exact e
  exact ⟨f _ _ (a0t e hx) (e0 _ _),a0t (e0 _ _) hpb,a0t (e0 _ _) hpt⟩
 have sG1:Same J2 G1:=fun b o' e=>(fr b o' e).1
 have nts:=(fr _ _ hts).2
 have ndv:=(fr _ _ hd9).2
 have npc:=(fr _ _ hc9).2
 clear f hpb hpt hx hdx hne fr
 walk_at "stp"
 intro d hd0
 have s2:=a0f hd0 (.dK [])
 have k2:(upd G1 d (.dK [])) d = some (.dK []):=a0b
 generalize upd G1 d (.dK []) = G2 at s2 k2 ⊢
 walk_at "stp"
 refine ⟨ln (by show 0<=100000; decide),fun pp hpp=>?_⟩
 have s3:=a0f hpp (.lst [])
 have k3:(upd G2 pp (.lst [])) pp = some (.lst []):=a0b
 generalize upd G2 pp (.lst []) = G3 at s3 k3 ⊢
 have s13:=s2.trans s3
 have s03:=sG1.trans s13
 have w3:=w.same s13
 obtain ⟨ub,hub,_⟩:=w.bx
 have n1:pp ≠ pb:=Ne.symm (a0t (s2 _ _ hub) hpp)
 have n2:pp ≠ pt:=Ne.symm (a0t (s2 _ _ w.trl) hpp)
 have n3:pp ≠ d:=Ne.symm (a0t k2 hpp)
 have n4:d ≠ pb:=Ne.symm (a0t hub hd0)
 have n5:d ≠ pt:=Ne.symm (a0t w.trl hd0)
 have tsd:pts ≠ d/\pts ≠ pp:=⟨a0t (sG1 _ _ hts) hd0,a0t ((sG1.trans s2) _ _ hts) hpp⟩
 have dvd:dv ≠ d/\dv ≠ pp:=⟨a0t (sG1 _ _ hd9) hd0,a0t ((sG1.trans s2) _ _ hd9) hpp⟩
 have pcd:pc ≠ d/\pc ≠ pp:=⟨a0t (sG1 _ _ hc9) hd0,a0t ((sG1.trans s2) _ _ hc9) hpp⟩
 have hts3:=s03 _ _ hts
 have hdv3:=s03 _ _ hd9
 have hpc3:=s03 _ _ hc9
 have V3:=V9.monoT (fun a zs q=>s03.tup q)
 have hd3:=s3 _ _ k2
 have uok3:∀ (i:Nat) o,os[i]? = some o->UOk K G3 us i o:=fun i o h=>(uok i o h).monoT (fun a zs q=>s03.tup q)
 clear w hub hd0 hpp s2 s3 s13 s03 sG1 k2 hts hd9 hc9 V9 uok
 walk_at "stm"
 (with_reducible refine a2k (fun σ' J=>∃ (bs:Bs) (kn:Kn) (ps:List V) (o13:Option V),σ' = [some (.ref a),some (.ref pc),some (.ref pw),some (.ref pl),some (.ref rT),some (.ref dv),some (.ref r1),some (.ref r2),some v3,some (.ref pts),some (.ref x),some (.ref d),some (.ref pp),o13,none,none,none,none]/\HS K t.k_Heap J x pb pt bs []/\J d = some (.dK (encP kn))/\J pp = some (.lst ps)/\ps.length = 4/\Pl bs kn ps os/\J pts = some (.lst us)/\J dv = some (.dK kvs4)/\VR K J kvs4 rs4/\J pc = some (.lst (cs.map V.int))/\(∀ (i:Nat) o,os[i]? = some o->UOk K J us i o)) (fun σ' J hP=>?_) (fun kk=>?_))
 rotate_left
 ·walk_at "stm"
  refine ⟨pts,rfl,⟨_,SqL.of hts3⟩,?_⟩
  refine a3f (b2q (xs:=us)) (fun i σ' J=>∃ (bs:Bs) (kn:Kn) (ps:List V) (o13:Option V),σ' = [some (.ref a),some (.ref pc),some (.ref pw),some (.ref pl),some (.ref rT),some (.ref dv),some (.ref r1),some (.ref r2),some v3,some (.ref pts),some (.ref x),some (.ref d),some (.ref pp),o13,none,none,none,none]/\HS K t.k_Heap J x pb pt bs []/\J d = some (.dK (encP kn))/\J pp = some (.lst ps)/\ps.length = i/\Pl bs kn ps os/\(∀ b o,b ≠ pb->b ≠ pt->b ≠ d->b ≠ pp->G3 b = some o->J b = some o)/\(∀ b zs,SqT K G3 b zs->SqT K J b zs)) ⟨[],[],[],_,rfl,w3,hd3,k3,rfl,⟨.nil,Nat.le_refl _,Nat.le_refl _,fun i o hi=>by simp at hi⟩,fun _ _ _ _ _ _ e=>e,fun _ _ q=>q⟩ (fun i σ' J hP=>by obtain ⟨_,_,_,_,_,_,_,_,_,_,f,_⟩:=hP; exact SqL.of (f _ _ nts.1 nts.2 tsd.1 tsd.2 hts3)) (fun i σ' J hi hP=>?_) (fun σ' J hP=>?_)
  rotate_left
  ·obtain ⟨bs,kn,ps,o13,rfl,w,kd,kp,lp,pl',f,tt⟩:=hP
   exact kk _ _ ⟨bs,kn,ps,_,rfl,w,kd,kp,by omega,pl',f _ _ nts.1 nts.2 tsd.1 tsd.2 hts3,f _ _ ndv.1 ndv.2 dvd.1 dvd.2 hdv3,V3.monoT tt,f _ _ npc.1 npc.2 pcd.1 pcd.2 hpc3,fun i o h=>(uok3 i o h).monoT tt⟩
  obtain ⟨bs,kn,ps,o13,rfl,w,kd,kp,lp,pl',f,tt⟩:=hP
  subst lp
  obtain ⟨oo,ho⟩:∃ oo,os[ps.length]? = some oo:=⟨_,List.getElem?_eq_getElem (by omega)⟩
  have hu:=uok3 _ _ ho
  have bl:=pl'.bl
  have kl:=pl'.kl
  cases oo with
  | none=>
   have hg:us.getD ps.length .non = .non:=by rw [List.getD_eq_getElem?_getD,show us[ps.length]? = some .non from hu]; rfl
   rw [hg]
   walk_at "stp"
   refine ⟨.inl ⟨rfl,_,SqL.of kp⟩,?_⟩
   walk_at "stp"
   refine iteT ?_
   walk_at "stp"
   refine a6k kp (ln1 (by omega)) ?_
   walk_at "stp"
   exact ⟨bs,kn,ps ++ [.non],_,rfl,w.upO _ kp (fun _ z=>by cases z) (fun _ _ z=>by cases z) (fun _ _ _ z=>by cases z) n1 n2,by rw [a0j (Ne.symm n3)]; exact kd,a0b,by rw [List.length_append]; rfl,pl'.addN _ ho,fun b o h1 h2 h3 h4 e=>by rw [a0j h4]; exact f b o h1 h2 h3 h4 e,fun b zs q=>a6o kp (fun _ z=>by cases z) (fun _ _ z=>by cases z) _ _ (tt b zs q)⟩
  | some t0=>
   obtain ⟨r,hu1,hu2⟩:=hu
   obtain ⟨zt,at0⟩:=lw.s _ _ ho
   have hg:us.getD ps.length .non = .ref r:=by rw [List.getD_eq_getElem?_getD,hu1]; rfl
   rw [hg]
   walk_at "stp"
   refine ⟨.inl ⟨rfl,_,SqL.of kp⟩,?_⟩
   walk_at "stp"
   refine iteF ?_
   walk_at "stp"
   refine ⟨pb,pt,bs,[],t0,kn,w,pl'.pst,hu2.monoT tt,by omega,by decide,at0,kd,by omega,by omega,fun a2 bs2 kn2 J2 f2 w2 k2 ps2 rp2 v2 l1 l2=>?_⟩
   walk_at "stp"
   have kp2:=f2 _ _ n1 n2 n3 kp
   refine a6k kp2 (ln1 (by omega)) ?_
   walk_at "stp"
   have t2:=f2.tup (K:=K) w kd
   exact ⟨bs ++ bs2,kn ++ kn2,ps ++ [.int (a2:Int)],_,rfl,w2.upO _ kp2 (fun _ z=>by cases z) (fun _ _ z=>by cases z) (fun _ _ _ z=>by cases z) n1 n2,by rw [a0j (Ne.symm n3)]; exact k2,a0b,by rw [List.length_append]; rfl,pl'.addS ho ps2 rp2 v2 zt l1 l2,fun b o h1 h2 h3 h4 e=>by rw [a0j h4]; exact f2 _ _ h1 h2 h3 (f b o h1 h2 h3 h4 e),fun b zs q=>a6o kp2 (fun _ z=>by cases z) (fun _ _ z=>by cases z) _ _ (t2 _ _ (tt b zs q))⟩
 clear w3 hd3 k3 hts3 hdv3 V3 hpc3 uok3
 obtain ⟨bs,kn,ps,o13,rfl,w,kd,kp,lp,pl',hts,hdv,hV,hpc,uok⟩:=hP
 obtain ⟨dx2,ho2⟩:=w.ob
 have bl:=pl'.bl
 have kl:=pl'.kl
 obtain ⟨i0,q0,r0,v0⟩:=pl'.row 0 _ (by omega) lw.o0
 walk_at "stp"
 refine ⟨x,dx2,_,rfl,ho2,a1n,?_⟩
 walk_at "stp"
 refine ⟨pb,pt,bs,[],w,fun pm G4 s4 hm=>?_⟩
 walk_at "stp"
 refine ⟨ln (by show 4<=100000; decide),fun pz hpz=>?_⟩
 have s5:=a0f hpz (.lst [.int 0,.int 1,.int 2,.int 0])
 have k5:(upd G4 pz (.lst [.int 0,.int 1,.int 2,.int 0])) pz = some (.lst [.int 0,.int 1,.int 2,.int 0]):=a0b
 generalize upd G4 pz (.lst [.int 0,.int 1,.int 2,.int 0]) = G5 at s5 k5 ⊢
 have s45:=s4.trans s5
 have hm5:=s5.tup hm
 have w5:=w.same s45
 have kd5:=s45 _ _ kd
 have kp5:=s45 _ _ kp
 have hts5:=s45 _ _ hts
 have hdv5:=s45 _ _ hdv
 have hpc5:=s45 _ _ hpc
 have hV5:=hV.monoT (fun a zs q=>s45.tup q)
 have uok5:∀ (i:Nat) o,os[i]? = some o->UOk K G5 us i o:=fun i o h=>(uok i o h).monoT (fun a zs q=>s45.tup q)
 obtain ⟨ub5,hub5,_⟩:=w5.bx
 have nz1:pz ≠ pb:=fun z=>by obtain ⟨u4,h4,_⟩:=(w.same s4).bx; rw [z,h4] at hpz; cases hpz
 have nz2:pz ≠ pt:=fun z=>by rw [z,(w.same s4).trl] at hpz; cases hpz
 clear w kd kp hts hdv hV hpc uok s4 s5 s45 hm hpz ho2 hub5
 refine ⟨pz,rfl,⟨_,SqL.of k5⟩,?_⟩
 refine a3f (b2q (xs:=[.int 0,.int 1,.int 2,.int 0])) (fun i σ' J=>∃ (o15 o16 o17:Option V),σ' = [some (.ref a),some (.ref pc),some (.ref pw),some (.ref pl),some (.ref rT),some (.ref dv),some (.ref r1),some (.ref r2),some v3,some (.ref pts),some (.ref x),some (.ref d),some (.ref pp),o13,some (.ref pm),o15,o16,o17]/\HS K t.k_Heap J x pb pt bs []/\HFr pb pt G5 J) ⟨_,_,_,rfl,w5,HFr.refl _ _ _⟩ (fun i σ' J hP=>by obtain ⟨_,_,_,_,_,f⟩:=hP; exact SqL.of (f _ _ nz1 nz2 k5)) (fun i σ' J hi hP=>?_) (fun σ' J hP=>?_)
 rotate_left
 ·obtain ⟨o15,o16,o17,rfl,w6,f6⟩:=hP
  walk_at "stp"
  exact q _
 obtain ⟨o15,o16,o17,rfl,w6,f6⟩:=hP
 obtain ⟨kk0,hk0,hk2⟩:∃ m:Nat,([V.int 0,V.int 1,V.int 2,V.int 0]).getD i .non = .int (m:Int)/\m<=2:=by
  have hi:i < 4:=hi
  rcases (by omega:i = 0\/i = 1\/i = 2\/i = 3) with rfl | rfl | rfl | rfl
  ·exact ⟨0,rfl,by decide⟩
  ·exact ⟨1,rfl,by decide⟩
  ·exact ⟨2,rfl,by decide⟩
  ·exact ⟨0,rfl,by decide⟩
 rw [hk0]
 have hpc6:=f6 _ _ npc.1 npc.2 hpc5
 walk_at "stp"
 refine a1b (SqL.of hpc6) hc2 ?_
 walk_at "stp"
 refine a1b (SqL.of hpc6) hc2 ?_
 walk_at "stp"
 refine a8p (a7w (by omega)) ?_
 walk_at "stm"
 have y1:=Int.emod_nonneg (c2 + (kk0:Int) * (1 + c2 / 3 % 2)) (show (3:Int) ≠ 0 by decide)
 have y2:=Int.emod_lt_of_pos (c2 + (kk0:Int) * (1 + c2 / 3 % 2)) (show (0:Int) < 3 by decide)
 obtain ⟨m,hm,hm1,hm3⟩:∃ m:Nat,1 + (c2 + (kk0:Int) * (1 + c2 / 3 % 2)) % 3 = (m:Int)/\1<=m/\m<=3:=⟨(1 + (c2 + (kk0:Int) * (1 + c2 / 3 % 2)) % 3).toNat,by omega,by omega,by omega⟩
 rw [hm]
 clear y1 y2 hm
 obtain ⟨oo,ho⟩:∃ oo,os[m]? = some oo:=⟨_,List.getElem?_eq_getElem (by omega)⟩
 have t6:=w5.tup f6
 have hu:=(uok5 m oo ho).monoT t6
 have hts6:=f6 _ _ nts.1 nts.2 hts5
 have hdv6:=f6 _ _ ndv.1 ndv.2 hdv5
 have kd6:=f6 _ _ n4 n5 kd5
 have kp6:=f6 _ _ n1 n2 kp5
 walk_at "stm"
 (with_reducible refine a2k (fun σ' J2=>∃ (o15 o16 o17:Option V),σ' = [some (.ref a),some (.ref pc),some (.ref pw),some (.ref pl),some (.ref rT),some (.ref dv),some (.ref r1),some (.ref r2),some v3,some (.ref pts),some (.ref x),some (.ref d),some (.ref pp),o13,some (.ref pm),o15,o16,o17]/\HS K t.k_Heap J2 x pb pt bs []/\HFr pb pt G5 J2) (fun σ' J2 hP=>?_) (fun kk=>?_))
 ·obtain ⟨o15,o16,o17,rfl,w7,f7⟩:=hP
  have t7:=w5.tup f7
  walk_at "stp"
  refine ⟨pb,pt,bs,[],kn,ps,us,os,w7,pl'.pst.wf,pl'.pst.kni,f7 _ _ n4 n5 kd5,f7 _ _ n1 n2 kp5,f7 _ _ nts.1 nts.2 hts5,by omega,by omega,fun i2 o2 h2=>?_,by omega,by omega,fun y a e=>(List.getElem?_eq_some_iff.mp (pl'.pst.ok y a e)).1,fun J3 s3=>?_⟩
  ·have hi4:=(List.getElem?_eq_some_iff.mp h2).1
   have hr:=pl'.row i2 o2 (by omega) h2
   have hu2:=(uok5 i2 o2 h2).monoT t7
   cases o2 with
   | none=>exact hu2
   | some t2=>
    obtain ⟨a2,e1,e2,e3⟩:=hr
    obtain ⟨r,e4,e5⟩:=hu2
    have:=(lw.s _ _ h2).1
    exact ⟨r,a2,e4,e5,e1,e2,e3,by omega⟩
  walk_at "stp"
  refine iteF ?_
  walk_at "stp"
  exact ⟨_,_,_,rfl,w7.same s3,f7.trans (HFr.of s3)⟩
 walk_at "stm"
 cases oo with
 | none=>
  refine a1b (SqL.of hts6) (atI_nat' hu) ?_
  walk_at "stm"
  refine iteF ?_
  walk_at "stm"
  exact kk _ _ ⟨_,_,_,rfl,w6,f6⟩
 | some u=>
  obtain ⟨r,hu1,hu2⟩:=hu
  obtain ⟨jm,qm,rm,vm⟩:=pl'.row m _ (by omega) ho
  refine a1b (SqL.of hts6) (atI_nat' hu1) ?_
  walk_at "stm"
  refine iteT ?_
  (with_reducible refine b0z ?_)
  walk_at "stm"
  refine a1b (SqL.of hpc6) hc3 ?_
  walk_at "stm"
  refine m2_i (b3l (by omega) (by omega)) ?_
  walk_at "stm"
  refine ⟨pb,pt,bs,[],ps,m,i0,jm,w6,pl'.pst.wf,by omega,by simp,kp6,q0,rfl,qm,r0.lt,rm.lt,fun k0 bs' rr tr' J2 f2 w2 up run=>?_⟩
  have f62:=f6.trans f2
  have hd62:=w6.dk f2 hdv6
  have kd62:=w6.dk f2 kd6
  have kp62:=f2 _ _ n1 n2 kp6
  have t2:=w6.tup f2
  have hdue:rr = decide (m = 1)/\(m = 1->∃ M,OrOk bs' kn rs4 M i0 jm):=by
   by_cases z:m = 1
   ·subst z
    obtain ⟨h1,h2⟩:=pl'.one_ lw lp q0 qm run
    exact ⟨by rw [h1]; rfl,fun _=>h2⟩
   ·exact ⟨by rw [decide_eq_false z]; exact pl'.cant lw lp (by omega) (by omega) ho q0 qm run,fun h=>absurd h z⟩
  obtain ⟨hrr,hor⟩:=hdue
  by_cases z:m = 1
  ·rw [decide_eq_true z] at hrr
   subst hrr
   obtain ⟨M,hM⟩:=hor z
   subst z
   walk_at "stp"
   refine iteF ?_
   walk_at "stp"
   refine iteB (fun e=>absurd e (by decide)) (fun e=>?_)
   walk_at "stp"
   refine iteT ?_
   walk_at "stp"
   refine ⟨pb,pt,bs',tr',kn,ps,kvs4,rs4,M,i0,jm,w2,kd62,hd62,Ne.symm dvd.1,(hV5.monoT t6).monoT t2,kp62,q0,qm,hM,fun J3 s3=>?_⟩
   walk_at "stp"
   refine iteF ?_
   walk_at "stp"
   obtain ⟨dx3,ho3⟩:=(w2.same s3).ob
   refine ⟨x,dx3,_,rfl,ho3,a1n,?_⟩
   walk_at "stp"
   refine ⟨pb,pt,bs',tr',bs.length,([]:List Nat).length,bs,(w2.same s3),(fun b zs q=>s3.tup (t2 b zs (t6 b zs q))) _ _ hm5,(Mrk.now (fun a ha=>by cases ha)).up up,fun J4 f4 w4=>?_⟩
   exact kk _ _ ⟨_,_,_,rfl,w4,(f62.trans (HFr.of s3)).trans f4⟩
  ·rw [decide_eq_false z] at hrr
   subst hrr
   walk_at "stp"
   refine iteF ?_
   walk_at "stp"
   rw [show decide ((m:Int) = 1) = false from decide_eq_false (by omega)]
   refine iteB (fun e=>absurd e (by decide)) (fun e=>?_)
   walk_at "stp"
   refine iteF ?_
   refine iteF ?_
   walk_at "stp"
   obtain ⟨dx3,ho3⟩:=w2.ob
   refine ⟨x,dx3,_,rfl,ho3,a1n,?_⟩
   walk_at "stp"
   refine ⟨pb,pt,bs',tr',bs.length,([]:List Nat).length,bs,w2,(fun b zs q=>t2 b zs (t6 b zs q)) _ _ hm5,(Mrk.now (fun a ha=>by cases ha)).up up,fun J4 f4 w4=>?_⟩
   exact kk _ _ ⟨_,_,_,rfl,w4,f62.trans f4⟩
end
section
variable {P:Program} {w:World} {K:W.Frag} {mg:Str->Option Value} {base:Heap} {t:Ad}
theorem ok_all (T:Txt K mg t):FnOk P w K mg base CX0 90 t.a_law t.d_law ["_law_script"] (b0c K):=by
 have h_Heap_init:=b7y (P:=P) (w:=w) (base:=base) T
 have h_Heap_made:=b7z (P:=P) (w:=w) (base:=base) T
 have h_Heap_end_of:=b4p (P:=P) (w:=w) (base:=base) T
 have h_Heap_mark:=b8c (P:=P) (w:=w) (base:=base) T
 have h_Heap_back_to:=b3u (P:=P) (w:=w) (base:=base) T
 have h_key_of:=c4n (P:=P) (w:=w) (base:=base) T
 have h_num:=ok_num (P:=P) (w:=w) (base:=base) T
 have h_unknown:=c1u (P:=P) (w:=w) (base:=base) T
 have h_app:=ok_app (P:=P) (w:=w) (base:=base) T
 have h_l_cells:=c1x (P:=P) (w:=w) (base:=base) T
 have h_l_next:=c4w (P:=P) (w:=w) (base:=base) T
 have h_l_number:=b9i (P:=P) (w:=w) (base:=base) T
 have h_l_word:=c4x (P:=P) (w:=w) (base:=base) T
 have h_l_mark:=c4y (P:=P) (w:=w) (base:=base) T
 have h_l_other:=c2e (P:=P) (w:=w) (base:=base) T
 have h_Heap_free:=b8a T h_Heap_made
 have h_Heap_number:=b4o T h_Heap_made
 have h_Heap_app:=b9e T h_Heap_made
 have h_Heap_look:=b8b T h_Heap_end_of
 have h_Heap_stands_within:=a9z T h_Heap_end_of
 have h_l_words:=c2a T h_l_word
 have h_l_sign:=c4z T h_l_mark
 have h_Heap_bind:=b8d T h_Heap_stands_within
 have h_Heap_parts:=b5r T h_Heap_look
 have h_Heap_kids_of_one:=b0v T h_Heap_bind h_key_of
 have h_Heap_one:=b9g T h_Heap_end_of h_Heap_kids_of_one
 have h_l_turn:=c5j T h_Heap_one
 have h_l_dug:=c7e T h_l_next 25
 have h_l_spoiled:=b8s T h_l_next h_l_other 25
 have h_l_ringed:=b9o (P:=P) (w:=w) (base:=base) T  25
 have h_l_parts:=c1z (P:=P) (w:=w) (base:=base) T  41
 have h_Heap_read_out:=b2z T h_Heap_look h_unknown h_num h_app 41
 have h_l_put_in:=b9m (P:=P) (w:=w) (base:=base) T  41
 have h_l_named:=c2d (P:=P) (w:=w) (base:=base) T  41
 have h_l_put:=c7h T h_Heap_app h_Heap_number h_Heap_free 41
 have h_Heap_term:=b8f T h_Heap_read_out h_Heap_parts
 have h_l_all_read:=b5s T h_l_named h_Heap_term
 have h_l_open_right:=b4b T h_Heap_term h_l_named h_Heap_parts h_l_put_in h_l_parts
 have h_l_term:=c5b T h_l_next h_l_sign h_l_number h_l_parts 25
 exact ok_law T h_l_cells h_l_words h_l_term h_l_dug h_l_spoiled h_Heap_init h_Heap_mark h_l_ringed h_l_turn h_Heap_back_to h_l_all_read h_l_put h_l_open_right
end
theorem txt_mk {K:W.Frag} {h:Heap} {mg:Str->Option Value} (X:K.In h) (G:h.Ns mainGlobals mg)
  {k_TrailError:Addr}
  {k_Big:Addr}
  {k_Heap:Addr}
  {c_FREE:Addr} {od_FREE:Option Addr} {n_FREE:Nat} {sl_FREE:Array (Option Value)} {t_FREE_0:Tok}
  {t_MOST_PARTS:Tok}
  (ac_TrailError:W.nsIn K mainGlobals "TrailError" = some (some (.ref k_TrailError)))
  (ac_Big:W.nsIn K mainGlobals "Big" = some (some (.ref k_Big)))
  (ac_Heap:W.nsIn K mainGlobals "Heap" = some (some (.ref k_Heap)))
  (pg_Heap:W.plainGet K k_Heap Str.empty = true)
  (hd_Heap:W.hasDictIn K k_Heap = true)
  (po_Heap:W.plainOver K k_Heap = true)
  (sa_Heap:W.findIn K (.ref k_Heap) "__setattr__" = some (some (.builtin "object.__setattr__")))
  (na_Heap_boxes:W.findIn K (.ref k_Heap) "boxes" = some none)
  (na_Heap_trail:W.findIn K (.ref k_Heap) "trail" = some none)
  (mk_Heap:W.makesIn K k_Heap = true)
  (in_Heap:W.findIn K (.ref k_Heap) "__init__" = some (some (.ref f0)))
  (kc_Heap:W.keepIn K (.ref k_Heap) = true)
  (am_Heap_made:W.findIn K (.ref k_Heap) "made" = some (some (.ref f1)))
  (am_Heap_free:W.findIn K (.ref k_Heap) "free" = some (some (.ref f2)))
  (am_Heap_number:W.findIn K (.ref k_Heap) "number" = some (some (.ref f3)))
  (am_Heap_app:W.findIn K (.ref k_Heap) "app" = some (some (.ref f4)))
  (am_Heap_end_of:W.findIn K (.ref k_Heap) "end_of" = some (some (.ref f5)))
  (am_Heap_look:W.findIn K (.ref k_Heap) "look" = some (some (.ref f6)))
  (am_Heap_one:W.findIn K (.ref k_Heap) "one" = some (some (.ref f7)))
  (am_Heap_kids_of_one:W.findIn K (.ref k_Heap) "kids_of_one" = some (some (.ref f8)))
  (am_Heap_bind:W.findIn K (.ref k_Heap) "bind" = some (some (.ref f9)))
  (am_Heap_stands_within:W.findIn K (.ref k_Heap) "stands_within" = some (some (.ref f10)))
  (am_Heap_mark:W.findIn K (.ref k_Heap) "mark" = some (some (.ref f11)))
  (am_Heap_back_to:W.findIn K (.ref k_Heap) "back_to" = some (some (.ref f12)))
  (am_Heap_parts:W.findIn K (.ref k_Heap) "parts" = some (some (.ref f13)))
  (am_Heap_term:W.findIn K (.ref k_Heap) "term" = some (some (.ref f14)))
  (am_Heap_read_out:W.findIn K (.ref k_Heap) "read_out" = some (some (.ref f15)))
  (l0:K.lookup f0 = some ⟨oc0,od0,.func (W.fnOf "__init__" "Heap.__init__" (a0w a3q) (a0u a3q) (a0h a3q) .none kV0 dc0 pm0 an0 cd0 ct0),sl0⟩)
  (c0:W.codeIn K cd0 "Heap.__init__" = true)
  (k0:W.keepIn K (.ref f0) = true)
  (fn0:W.typeIn K (.ref f0) = some (.type "function"))
  (l1:K.lookup f1 = some ⟨oc1,od1,.func (W.fnOf "made" "Heap.made" (a0w a3r) (a0u a3r) (a0h a3r) .none kV1 dc1 pm1 an1 cd1 ct1),sl1⟩)
  (c1:W.codeIn K cd1 "Heap.made" = true)
  (k1:W.keepIn K (.ref f1) = true)
  (fn1:W.typeIn K (.ref f1) = some (.type "function"))
  (l2:K.lookup f2 = some ⟨oc2,od2,.func (W.fnOf "free" "Heap.free" (a0w a3s) (a0u a3s) (a0h a3s) .none kV2 dc2 pm2 an2 cd2 ct2),sl2⟩)
  (c2:W.codeIn K cd2 "Heap.free" = true)
  (k2:W.keepIn K (.ref f2) = true)
  (fn2:W.typeIn K (.ref f2) = some (.type "function"))
  (l3:K.lookup f3 = some ⟨oc3,od3,.func (W.fnOf "number" "Heap.number" (a0w a2y) (a0u a2y) (a0h a2y) .none kV3 dc3 pm3 an3 cd3 ct3),sl3⟩)
  (c3:W.codeIn K cd3 "Heap.number" = true)
  (k3:W.keepIn K (.ref f3) = true)
  (fn3:W.typeIn K (.ref f3) = some (.type "function"))
  (l4:K.lookup f4 = some ⟨oc4,od4,.func (W.fnOf "app" "Heap.app" (a0w a4l) (a0u a4l) (a0h a4l) .none kV4 dc4 pm4 an4 cd4 ct4),sl4⟩)
  (c4:W.codeIn K cd4 "Heap.app" = true)
  (k4:W.keepIn K (.ref f4) = true)
  (fn4:W.typeIn K (.ref f4) = some (.type "function"))
  (l5:K.lookup f5 = some ⟨oc5,od5,.func (W.fnOf "end_of" "Heap.end_of" (a0w a2z) (a0u a2z) (a0h a2z) .none kV5 dc5 pm5 an5 cd5 ct5),sl5⟩)
  (c5:W.codeIn K cd5 "Heap.end_of" = true)
  (k5:W.keepIn K (.ref f5) = true)
  (fn5:W.typeIn K (.ref f5) = some (.type "function"))
  (l6:K.lookup f6 = some ⟨oc6,od6,.func (W.fnOf "look" "Heap.look" (a0w a3t) (a0u a3t) (a0h a3t) .none kV6 dc6 pm6 an6 cd6 ct6),sl6⟩)
  (c6:W.codeIn K cd6 "Heap.look" = true)
  (k6:W.keepIn K (.ref f6) = true)
  (fn6:W.typeIn K (.ref f6) = some (.type "function"))
  (l7:K.lookup f7 = some ⟨oc7,od7,.func (W.fnOf "one" "Heap.one" (a0w a4m) (a0u a4m) (a0h a4m) .none kV7 dc7 pm7 an7 cd7 ct7),sl7⟩)
  (c7:W.codeIn K cd7 "Heap.one" = true)
  (k7:W.keepIn K (.ref f7) = true)
  (fn7:W.typeIn K (.ref f7) = some (.type "function"))
  (l8:K.lookup f8 = some ⟨oc8,od8,.func (W.fnOf "kids_of_one" "Heap.kids_of_one" (a0w a1p) (a0u a1p) (a0h a1p) .none kV8 dc8 pm8 an8 cd8 ct8),sl8⟩)
  (c8:W.codeIn K cd8 "Heap.kids_of_one" = true)
  (k8:W.keepIn K (.ref f8) = true)
  (fn8:W.typeIn K (.ref f8) = some (.type "function"))
  (l9:K.lookup f9 = some ⟨oc9,od9,.func (W.fnOf "bind" "Heap.bind" (a0w a3u) (a0u a3u) (a0h a3u) .none kV9 dc9 pm9 an9 cd9 ct9),sl9⟩)
  (c9:W.codeIn K cd9 "Heap.bind" = true)
  (k9:W.keepIn K (.ref f9) = true)
  (fn9:W.typeIn K (.ref f9) = some (.type "function"))
  (l10:K.lookup f10 = some ⟨oc10,od10,.func (W.fnOf "stands_within" "Heap.stands_within" (a0w a1l) (a0u a1l) (a0h a1l) .none kV10 dc10 pm10 an10 cd10 ct10),sl10⟩)
  (c10:W.codeIn K cd10 "Heap.stands_within" = true)
  (k10:W.keepIn K (.ref f10) = true)
  (fn10:W.typeIn K (.ref f10) = some (.type "function"))
  (l11:K.lookup f11 = some ⟨oc11,od11,.func (W.fnOf "mark" "Heap.mark" (a0w a3v) (a0u a3v) (a0h a3v) .none kV11 dc11 pm11 an11 cd11 ct11),sl11⟩)
  (c11:W.codeIn K cd11 "Heap.mark" = true)
  (k11:W.keepIn K (.ref f11) = true)
  (fn11:W.typeIn K (.ref f11) = some (.type "function"))
  (l12:K.lookup f12 = some ⟨oc12,od12,.func (W.fnOf "back_to" "Heap.back_to" (a0w a2m) (a0u a2m) (a0h a2m) .none kV12 dc12 pm12 an12 cd12 ct12),sl12⟩)
  (c12:W.codeIn K cd12 "Heap.back_to" = true)
  (k12:W.keepIn K (.ref f12) = true)
  (fn12:W.typeIn K (.ref f12) = some (.type "function"))
  (l13:K.lookup f13 = some ⟨oc13,od13,.func (W.fnOf "parts" "Heap.parts" (a0w a3i) (a0u a3i) (a0h a3i) .none kV13 dc13 pm13 an13 cd13 ct13),sl13⟩)
  (c13:W.codeIn K cd13 "Heap.parts" = true)
  (k13:W.keepIn K (.ref f13) = true)
  (fn13:W.typeIn K (.ref f13) = some (.type "function"))
  (l14:K.lookup f14 = some ⟨oc14,od14,.func (W.fnOf "term" "Heap.term" (a0w a3w) (a0u a3w) (a0h a3w) .none kV14 dc14 pm14 an14 cd14 ct14),sl14⟩)
  (c14:W.codeIn K cd14 "Heap.term" = true)
  (k14:W.keepIn K (.ref f14) = true)
  (fn14:W.typeIn K (.ref f14) = some (.type "function"))
  (l15:K.lookup f15 = some ⟨oc15,od15,.func (W.fnOf "read_out" "Heap.read_out" (a0w a1t) (a0u a1t) (a0h a1t) .none kV15 dc15 pm15 an15 cd15 ct15),sl15⟩)
  (c15:W.codeIn K cd15 "Heap.read_out" = true)
  (k15:W.keepIn K (.ref f15) = true)
  (fn15:W.typeIn K (.ref f15) = some (.type "function"))
  (a16:W.nsIn K mainGlobals "key_of" = some (some (.ref f16)))
  (l16:K.lookup f16 = some ⟨oc16,od16,.func (W.fnOf "key_of" "key_of" (a0w a5y) (a0u a5y) (a0h a5y) .none kV16 dc16 pm16 an16 cd16 ct16),sl16⟩)
  (c16:W.codeIn K cd16 "key_of" = true)
  (k16:W.keepIn K (.ref f16) = true)
  (a17:W.nsIn K mainGlobals "num" = some (some (.ref f17)))
  (l17:K.lookup f17 = some ⟨oc17,od17,.func (W.fnOf "num" "num" (a0w b0l) (a0u b0l) (a0h b0l) .none kV17 dc17 pm17 an17 cd17 ct17),sl17⟩)
  (c17:W.codeIn K cd17 "num" = true)
  (k17:W.keepIn K (.ref f17) = true)
  (a18:W.nsIn K mainGlobals "unknown" = some (some (.ref f18)))
  (l18:K.lookup f18 = some ⟨oc18,od18,.func (W.fnOf "unknown" "unknown" (a0w a5f) (a0u a5f) (a0h a5f) .none kV18 dc18 pm18 an18 cd18 ct18),sl18⟩)
  (c18:W.codeIn K cd18 "unknown" = true)
  (k18:W.keepIn K (.ref f18) = true)
  (a19:W.nsIn K mainGlobals "app" = some (some (.ref f19)))
  (l19:K.lookup f19 = some ⟨oc19,od19,.func (W.fnOf "app" "app" (a0w b0m) (a0u b0m) (a0h b0m) .none kV19 dc19 pm19 an19 cd19 ct19),sl19⟩)
  (c19:W.codeIn K cd19 "app" = true)
  (k19:W.keepIn K (.ref f19) = true)
  (a20:W.nsIn K mainGlobals "_law_cells" = some (some (.ref f20)))
  (l20:K.lookup f20 = some ⟨oc20,od20,.func (W.fnOf "_law_cells" "_law_cells" (a0w a5g) (a0u a5g) (a0h a5g) .none kV20 dc20 pm20 an20 cd20 ct20),sl20⟩)
  (c20:W.codeIn K cd20 "_law_cells" = true)
  (k20:W.keepIn K (.ref f20) = true)
  (a21:W.nsIn K mainGlobals "_law_next" = some (some (.ref f21)))
  (l21:K.lookup f21 = some ⟨oc21,od21,.func (W.fnOf "_law_next" "_law_next" (a0w a5z) (a0u a5z) (a0h a5z) .none kV21 dc21 pm21 an21 cd21 ct21),sl21⟩)
  (c21:W.codeIn K cd21 "_law_next" = true)
  (k21:W.keepIn K (.ref f21) = true)
  (a22:W.nsIn K mainGlobals "_law_parts" = some (some (.ref f22)))
  (l22:K.lookup f22 = some ⟨oc22,od22,.func (W.fnOf "_law_parts" "_law_parts" (a0w a4h) (a0u a4h) (a0h a4h) .none kV22 dc22 pm22 an22 cd22 ct22),sl22⟩)
  (c22:W.codeIn K cd22 "_law_parts" = true)
  (k22:W.keepIn K (.ref f22) = true)
  (a23:W.nsIn K mainGlobals "_law_number" = some (some (.ref f23)))
  (l23:K.lookup f23 = some ⟨oc23,od23,.func (W.fnOf "_law_number" "_law_number" (a0w a4n) (a0u a4n) (a0h a4n) .none kV23 dc23 pm23 an23 cd23 ct23),sl23⟩)
  (c23:W.codeIn K cd23 "_law_number" = true)
  (k23:W.keepIn K (.ref f23) = true)
  (a24:W.nsIn K mainGlobals "_law_word" = some (some (.ref f24)))
  (l24:K.lookup f24 = some ⟨oc24,od24,.func (W.fnOf "_law_word" "_law_word" (a0w a6a) (a0u a6a) (a0h a6a) .none kV24 dc24 pm24 an24 cd24 ct24),sl24⟩)
  (c24:W.codeIn K cd24 "_law_word" = true)
  (k24:W.keepIn K (.ref f24) = true)
  (a25:W.nsIn K mainGlobals "_law_words" = some (some (.ref f25)))
  (l25:K.lookup f25 = some ⟨oc25,od25,.func (W.fnOf "_law_words" "_law_words" (a0w a4i) (a0u a4i) (a0h a4i) .none kV25 dc25 pm25 an25 cd25 ct25),sl25⟩)
  (c25:W.codeIn K cd25 "_law_words" = true)
  (k25:W.keepIn K (.ref f25) = true)
  (a26:W.nsIn K mainGlobals "_law_mark" = some (some (.ref f26)))
  (l26:K.lookup f26 = some ⟨oc26,od26,.func (W.fnOf "_law_mark" "_law_mark" (a0w a6b) (a0u a6b) (a0h a6b) .none kV26 dc26 pm26 an26 cd26 ct26),sl26⟩)
  (c26:W.codeIn K cd26 "_law_mark" = true)
  (k26:W.keepIn K (.ref f26) = true)
  (a27:W.nsIn K mainGlobals "_law_sign" = some (some (.ref f27)))
  (l27:K.lookup f27 = some ⟨oc27,od27,.func (W.fnOf "_law_sign" "_law_sign" (a0w a6c) (a0u a6c) (a0h a6c) .none kV27 dc27 pm27 an27 cd27 ct27),sl27⟩)
  (c27:W.codeIn K cd27 "_law_sign" = true)
  (k27:W.keepIn K (.ref f27) = true)
  (a28:W.nsIn K mainGlobals "_law_term" = some (some (.ref f28)))
  (l28:K.lookup f28 = some ⟨oc28,od28,.func (W.fnOf "_law_term" "_law_term" (a0w a6d) (a0u a6d) (a0h a6d) .none kV28 dc28 pm28 an28 cd28 ct28),sl28⟩)
  (c28:W.codeIn K cd28 "_law_term" = true)
  (k28:W.keepIn K (.ref f28) = true)
  (a29:W.nsIn K mainGlobals "_law_dug" = some (some (.ref f29)))
  (l29:K.lookup f29 = some ⟨oc29,od29,.func (W.fnOf "_law_dug" "_law_dug" (a0w a6m) (a0u a6m) (a0h a6m) .none kV29 dc29 pm29 an29 cd29 ct29),sl29⟩)
  (c29:W.codeIn K cd29 "_law_dug" = true)
  (k29:W.keepIn K (.ref f29) = true)
  (a30:W.nsIn K mainGlobals "_law_put_in" = some (some (.ref f30)))
  (l30:K.lookup f30 = some ⟨oc30,od30,.func (W.fnOf "_law_put_in" "_law_put_in" (a0w a3n) (a0u a3n) (a0h a3n) .none kV30 dc30 pm30 an30 cd30 ct30),sl30⟩)
  (c30:W.codeIn K cd30 "_law_put_in" = true)
  (k30:W.keepIn K (.ref f30) = true)
  (a31:W.nsIn K mainGlobals "_law_other" = some (some (.ref f31)))
  (l31:K.lookup f31 = some ⟨oc31,od31,.func (W.fnOf "_law_other" "_law_other" (a0w a5h) (a0u a5h) (a0h a5h) .none kV31 dc31 pm31 an31 cd31 ct31),sl31⟩)
  (c31:W.codeIn K cd31 "_law_other" = true)
  (k31:W.keepIn K (.ref f31) = true)
  (a32:W.nsIn K mainGlobals "_law_spoiled" = some (some (.ref f32)))
  (l32:K.lookup f32 = some ⟨oc32,od32,.func (W.fnOf "_law_spoiled" "_law_spoiled" (a0w a3x) (a0u a3x) (a0h a3x) .none kV32 dc32 pm32 an32 cd32 ct32),sl32⟩)
  (c32:W.codeIn K cd32 "_law_spoiled" = true)
  (k32:W.keepIn K (.ref f32) = true)
  (a33:W.nsIn K mainGlobals "_law_ringed" = some (some (.ref f33)))
  (l33:K.lookup f33 = some ⟨oc33,od33,.func (W.fnOf "_law_ringed" "_law_ringed" (a0w a4o) (a0u a4o) (a0h a4o) .none kV33 dc33 pm33 an33 cd33 ct33),sl33⟩)
  (c33:W.codeIn K cd33 "_law_ringed" = true)
  (k33:W.keepIn K (.ref f33) = true)
  (a34:W.nsIn K mainGlobals "_law_put" = some (some (.ref f34)))
  (l34:K.lookup f34 = some ⟨oc34,od34,.func (W.fnOf "_law_put" "_law_put" (a0w a6n) (a0u a6n) (a0h a6n) .none kV34 dc34 pm34 an34 cd34 ct34),sl34⟩)
  (c34:W.codeIn K cd34 "_law_put" = true)
  (k34:W.keepIn K (.ref f34) = true)
  (a35:W.nsIn K mainGlobals "_law_named" = some (some (.ref f35)))
  (l35:K.lookup f35 = some ⟨oc35,od35,.func (W.fnOf "_law_named" "_law_named" (a0w a4j) (a0u a4j) (a0h a4j) .none kV35 dc35 pm35 an35 cd35 ct35),sl35⟩)
  (c35:W.codeIn K cd35 "_law_named" = true)
  (k35:W.keepIn K (.ref f35) = true)
  (a36:W.nsIn K mainGlobals "_law_all_read" = some (some (.ref f36)))
  (l36:K.lookup f36 = some ⟨oc36,od36,.func (W.fnOf "_law_all_read" "_law_all_read" (a0w a3j) (a0u a3j) (a0h a3j) .none kV36 dc36 pm36 an36 cd36 ct36),sl36⟩)
  (c36:W.codeIn K cd36 "_law_all_read" = true)
  (k36:W.keepIn K (.ref f36) = true)
  (a37:W.nsIn K mainGlobals "_law_open_right" = some (some (.ref f37)))
  (l37:K.lookup f37 = some ⟨oc37,od37,.func (W.fnOf "_law_open_right" "_law_open_right" (a0w a2n) (a0u a2n) (a0h a2n) .none kV37 dc37 pm37 an37 cd37 ct37),sl37⟩)
  (c37:W.codeIn K cd37 "_law_open_right" = true)
  (k37:W.keepIn K (.ref f37) = true)
  (a38:W.nsIn K mainGlobals "_law_turn" = some (some (.ref f38)))
  (l38:K.lookup f38 = some ⟨oc38,od38,.func (W.fnOf "_law_turn" "_law_turn" (a0w a6e) (a0u a6e) (a0h a6e) .none kV38 dc38 pm38 an38 cd38 ct38),sl38⟩)
  (c38:W.codeIn K cd38 "_law_turn" = true)
  (k38:W.keepIn K (.ref f38) = true)
  (a39:W.nsIn K mainGlobals "law" = some (some (.ref f39)))
  (l39:K.lookup f39 = some ⟨oc39,od39,.func (W.fnOf "law" "law" (a0w a8z) (a0u a8z) (a0h a8z) .none kV39 dc39 pm39 an39 cd39 ct39),sl39⟩)
  (c39:W.codeIn K cd39 "law" = true)
  (k39:W.keepIn K (.ref f39) = true)
  (al_app_terms:W.nsIn K mainGlobals "app_terms" = some (some (.ref f19)))
  (z0:W.nsIn K mainGlobals "bool" = some none)
  (z1:W.nsIn K mainGlobals "int" = some none)
  (z2:W.nsIn K mainGlobals "isinstance" = some none)
  (z3:W.nsIn K mainGlobals "len" = some none)
  (z4:W.nsIn K mainGlobals "list" = some none)
  (z5:W.nsIn K mainGlobals "max" = some none)
  (z6:W.nsIn K mainGlobals "min" = some none)
  (z7:W.nsIn K mainGlobals "range" = some none)
  (z8:W.nsIn K mainGlobals "reversed" = some none)
  (z9:W.nsIn K mainGlobals "str" = some none)
  (z10:W.nsIn K mainGlobals "sum" = some none)
  (z11:W.nsIn K mainGlobals "tuple" = some none)
  (z12:W.nsIn K mainGlobals "zip" = some none)
  (y0:W.nsIn K mainGlobals "FREE" = some (some (.ref c_FREE)))
  (y0_0:K.lookup c_FREE = some ⟨.type "tuple",od_FREE,.seq #[.str (PySem.Str.ofString "free") t_FREE_0] n_FREE,sl_FREE⟩)
  (y1:W.nsIn K mainGlobals "MOST_PARTS" = some (some (.int 40 t_MOST_PARTS)))
  : ∃ t:Ad,Txt K mg t/\∀ (s:Shared) (u:Value),BindsTo s t.d_law ⟨[u],[]⟩ [("_law_script",u)]:=by
 have F0:=a1a (st:=a3q) l0 c0 k0
 have F1:=a1a (st:=a3r) l1 c1 k1
 have F2:=a1a (st:=a3s) l2 c2 k2
 have F3:=a1a (st:=a2y) l3 c3 k3
 have F4:=a1a (st:=a4l) l4 c4 k4
 have F5:=a1a (st:=a2z) l5 c5 k5
 have F6:=a1a (st:=a3t) l6 c6 k6
 have F7:=a1a (st:=a4m) l7 c7 k7
 have F8:=a1a (st:=a1p) l8 c8 k8
 have F9:=a1a (st:=a3u) l9 c9 k9
 have F10:=a1a (st:=a1l) l10 c10 k10
 have F11:=a1a (st:=a3v) l11 c11 k11
 have F12:=a1a (st:=a2m) l12 c12 k12
 have F13:=a1a (st:=a3i) l13 c13 k13
 have F14:=a1a (st:=a3w) l14 c14 k14
 have F15:=a1a (st:=a1t) l15 c15 k15
 have F16:=a1a (st:=a5y) l16 c16 k16
 have F17:=a1a (st:=b0l) l17 c17 k17
 have F18:=a1a (st:=a5f) l18 c18 k18
 have F19:=a1a (st:=b0m) l19 c19 k19
 have F20:=a1a (st:=a5g) l20 c20 k20
 have F21:=a1a (st:=a5z) l21 c21 k21
 have F22:=a1a (st:=a4h) l22 c22 k22
 have F23:=a1a (st:=a4n) l23 c23 k23
 have F24:=a1a (st:=a6a) l24 c24 k24
 have F25:=a1a (st:=a4i) l25 c25 k25
 have F26:=a1a (st:=a6b) l26 c26 k26
 have F27:=a1a (st:=a6c) l27 c27 k27
 have F28:=a1a (st:=a6d) l28 c28 k28
 have F29:=a1a (st:=a6m) l29 c29 k29
 have F30:=a1a (st:=a3n) l30 c30 k30
 have F31:=a1a (st:=a5h) l31 c31 k31
 have F32:=a1a (st:=a3x) l32 c32 k32
 have F33:=a1a (st:=a4o) l33 c33 k33
 have F34:=a1a (st:=a6n) l34 c34 k34
 have F35:=a1a (st:=a4j) l35 c35 k35
 have F36:=a1a (st:=a3j) l36 c36 k36
 have F37:=a1a (st:=a2n) l37 c37 k37
 have F38:=a1a (st:=a6e) l38 c38 k38
 have F39:=a1a (st:=a8z) l39 c39 k39
 exact ⟨⟨k_TrailError,k_Big,k_Heap,f0,_,f1,_,f2,_,f3,_,f4,_,f5,_,f6,_,f7,_,f8,_,f9,_,f10,_,f11,_,f12,_,f13,_,f14,_,f15,_,f16,_,f17,_,f18,_,f19,_,f20,_,f21,_,f22,_,f23,_,f24,_,f25,_,f26,_,f27,_,f28,_,f29,_,f30,_,f31,_,f32,_,f33,_,f34,_,f35,_,f36,_,f37,_,f38,_,f39,_,c_FREE,t_MOST_PARTS⟩,⟨W.mg_of X G ac_TrailError,
  W.mg_of X G ac_Big,
  W.mg_of X G ac_Heap,
  ⟨pg_Heap,hd_Heap,po_Heap,sa_Heap⟩,
  na_Heap_boxes,
  na_Heap_trail,
  ⟨mk_Heap,in_Heap,beq_iff_eq.mpr fn0,kc_Heap⟩,
  ⟨am_Heap_made,beq_iff_eq.mpr fn1,k1⟩,
  ⟨am_Heap_free,beq_iff_eq.mpr fn2,k2⟩,
  ⟨am_Heap_number,beq_iff_eq.mpr fn3,k3⟩,
  ⟨am_Heap_app,beq_iff_eq.mpr fn4,k4⟩,
  ⟨am_Heap_end_of,beq_iff_eq.mpr fn5,k5⟩,
  ⟨am_Heap_look,beq_iff_eq.mpr fn6,k6⟩,
  ⟨am_Heap_one,beq_iff_eq.mpr fn7,k7⟩,
  ⟨am_Heap_kids_of_one,beq_iff_eq.mpr fn8,k8⟩,
  ⟨am_Heap_bind,beq_iff_eq.mpr fn9,k9⟩,
  ⟨am_Heap_stands_within,beq_iff_eq.mpr fn10,k10⟩,
  ⟨am_Heap_mark,beq_iff_eq.mpr fn11,k11⟩,
  ⟨am_Heap_back_to,beq_iff_eq.mpr fn12,k12⟩,
  ⟨am_Heap_parts,beq_iff_eq.mpr fn13,k13⟩,
  ⟨am_Heap_term,beq_iff_eq.mpr fn14,k14⟩,
  ⟨am_Heap_read_out,beq_iff_eq.mpr fn15,k15⟩,
  F0,
  F0.binds (ps:=["self"]) (fun _ _ _ _ _ _ us hl=>L2.us1 (P:=fun us=>bindArgs _ ⟨us,[]⟩ = pure ((["self"]:List Str).zip us)) hl fun _=>rfl),
  F1,
  F1.binds (ps:=["self","box"]) (fun _ _ _ _ _ _ us hl=>L2.us2 (P:=fun us=>bindArgs _ ⟨us,[]⟩ = pure ((["self","box"]:List Str).zip us)) hl fun _ _=>rfl),
  F2,
  F2.binds (ps:=["self"]) (fun _ _ _ _ _ _ us hl=>L2.us1 (P:=fun us=>bindArgs _ ⟨us,[]⟩ = pure ((["self"]:List Str).zip us)) hl fun _=>rfl),
  F3,
  F3.binds (ps:=["self","n"]) (fun _ _ _ _ _ _ us hl=>L2.us2 (P:=fun us=>bindArgs _ ⟨us,[]⟩ = pure ((["self","n"]:List Str).zip us)) hl fun _ _=>rfl),
  F4,
  F4.binds (ps:=["self","sign","kids"]) (fun _ _ _ _ _ _ us hl=>L2.us3 (P:=fun us=>bindArgs _ ⟨us,[]⟩ = pure ((["self","sign","kids"]:List Str).zip us)) hl fun _ _ _=>rfl),
  F5,
  F5.binds (ps:=["self","at"]) (fun _ _ _ _ _ _ us hl=>L2.us2 (P:=fun us=>bindArgs _ ⟨us,[]⟩ = pure ((["self","at"]:List Str).zip us)) hl fun _ _=>rfl),
  F6,
  F6.binds (ps:=["self","at"]) (fun _ _ _ _ _ _ us hl=>L2.us2 (P:=fun us=>bindArgs _ ⟨us,[]⟩ = pure ((["self","at"]:List Str).zip us)) hl fun _ _=>rfl),
  F7,
  F7.binds (ps:=["self","at","other"]) (fun _ _ _ _ _ _ us hl=>L2.us3 (P:=fun us=>bindArgs _ ⟨us,[]⟩ = pure ((["self","at","other"]:List Str).zip us)) hl fun _ _ _=>rfl),
  F8,
  F8.binds (ps:=["self","left","right"]) (fun _ _ _ _ _ _ us hl=>L2.us3 (P:=fun us=>bindArgs _ ⟨us,[]⟩ = pure ((["self","left","right"]:List Str).zip us)) hl fun _ _ _=>rfl),
  F9,
  F9.binds (ps:=["self","at","other"]) (fun _ _ _ _ _ _ us hl=>L2.us3 (P:=fun us=>bindArgs _ ⟨us,[]⟩ = pure ((["self","at","other"]:List Str).zip us)) hl fun _ _ _=>rfl),
  F10,
  F10.binds (ps:=["self","at","other"]) (fun _ _ _ _ _ _ us hl=>L2.us3 (P:=fun us=>bindArgs _ ⟨us,[]⟩ = pure ((["self","at","other"]:List Str).zip us)) hl fun _ _ _=>rfl),
  F11,
  F11.binds (ps:=["self"]) (fun _ _ _ _ _ _ us hl=>L2.us1 (P:=fun us=>bindArgs _ ⟨us,[]⟩ = pure ((["self"]:List Str).zip us)) hl fun _=>rfl),
  F12,
  F12.binds (ps:=["self","mark"]) (fun _ _ _ _ _ _ us hl=>L2.us2 (P:=fun us=>bindArgs _ ⟨us,[]⟩ = pure ((["self","mark"]:List Str).zip us)) hl fun _ _=>rfl),
  F13,
  F13.binds (ps:=["self","at","most"]) (fun _ _ _ _ _ _ us hl=>L2.us3 (P:=fun us=>bindArgs _ ⟨us,[]⟩ = pure ((["self","at","most"]:List Str).zip us)) hl fun _ _ _=>rfl),
  F14,
  F14.binds (ps:=["self","at"]) (fun _ _ _ _ _ _ us hl=>L2.us2 (P:=fun us=>bindArgs _ ⟨us,[]⟩ = pure ((["self","at"]:List Str).zip us)) hl fun _ _=>rfl),
  F15,
  F15.binds (ps:=["self","at"]) (fun _ _ _ _ _ _ us hl=>L2.us2 (P:=fun us=>bindArgs _ ⟨us,[]⟩ = pure ((["self","at"]:List Str).zip us)) hl fun _ _=>rfl),
  F16,
  F16.binds (ps:=["term"]) (fun _ _ _ _ _ _ us hl=>L2.us1 (P:=fun us=>bindArgs _ ⟨us,[]⟩ = pure ((["term"]:List Str).zip us)) hl fun _=>rfl),
  W.mg_of X G a16,
  F17,
  F17.binds (ps:=["n"]) (fun _ _ _ _ _ _ us hl=>L2.us1 (P:=fun us=>bindArgs _ ⟨us,[]⟩ = pure ((["n"]:List Str).zip us)) hl fun _=>rfl),
  W.mg_of X G a17,
  F18,
  F18.binds (ps:=["name"]) (fun _ _ _ _ _ _ us hl=>L2.us1 (P:=fun us=>bindArgs _ ⟨us,[]⟩ = pure ((["name"]:List Str).zip us)) hl fun _=>rfl),
  W.mg_of X G a18,
  F19,
  F19.binds (ps:=["sign","kids"]) (fun _ _ _ _ _ _ us hl=>L2.us2 (P:=fun us=>bindArgs _ ⟨us,[]⟩ = pure ((["sign","kids"]:List Str).zip us)) hl fun _ _=>rfl),
  W.mg_of X G a19,
  F20,
  F20.binds (ps:=["_law_script","_law_many"]) (fun _ _ _ _ _ _ us hl=>L2.us2 (P:=fun us=>bindArgs _ ⟨us,[]⟩ = pure ((["_law_script","_law_many"]:List Str).zip us)) hl fun _ _=>rfl),
  W.mg_of X G a20,
  F21,
  F21.binds (ps:=["_law_left"]) (fun _ _ _ _ _ _ us hl=>L2.us1 (P:=fun us=>bindArgs _ ⟨us,[]⟩ = pure ((["_law_left"]:List Str).zip us)) hl fun _=>rfl),
  W.mg_of X G a21,
  F22,
  F22.binds (ps:=["_law_term_here"]) (fun _ _ _ _ _ _ us hl=>L2.us1 (P:=fun us=>bindArgs _ ⟨us,[]⟩ = pure ((["_law_term_here"]:List Str).zip us)) hl fun _=>rfl),
  W.mg_of X G a22,
  F23,
  F23.binds (ps:=["_law_cell"]) (fun _ _ _ _ _ _ us hl=>L2.us1 (P:=fun us=>bindArgs _ ⟨us,[]⟩ = pure ((["_law_cell"]:List Str).zip us)) hl fun _=>rfl),
  W.mg_of X G a23,
  F24,
  F24.binds (ps:=["_law_cell","_law_at","_law_k"]) (fun _ _ _ _ _ _ us hl=>L2.us3 (P:=fun us=>bindArgs _ ⟨us,[]⟩ = pure ((["_law_cell","_law_at","_law_k"]:List Str).zip us)) hl fun _ _ _=>rfl),
  W.mg_of X G a24,
  F25,
  F25.binds (ps:=["_law_cell","_law_at"]) (fun _ _ _ _ _ _ us hl=>L2.us2 (P:=fun us=>bindArgs _ ⟨us,[]⟩ = pure ((["_law_cell","_law_at"]:List Str).zip us)) hl fun _ _=>rfl),
  W.mg_of X G a25,
  F26,
  F26.binds (ps:=["_law_cell"]) (fun _ _ _ _ _ _ us hl=>L2.us1 (P:=fun us=>bindArgs _ ⟨us,[]⟩ = pure ((["_law_cell"]:List Str).zip us)) hl fun _=>rfl),
  W.mg_of X G a26,
  F27,
  F27.binds (ps:=["_law_cell","_law_many","_law_words_here"]) (fun _ _ _ _ _ _ us hl=>L2.us3 (P:=fun us=>bindArgs _ ⟨us,[]⟩ = pure ((["_law_cell","_law_many","_law_words_here"]:List Str).zip us)) hl fun _ _ _=>rfl),
  W.mg_of X G a27,
  F28,
  F28.binds (ps:=["_law_left","_law_room","_law_words_here"]) (fun _ _ _ _ _ _ us hl=>L2.us3 (P:=fun us=>bindArgs _ ⟨us,[]⟩ = pure ((["_law_left","_law_room","_law_words_here"]:List Str).zip us)) hl fun _ _ _=>rfl),
  W.mg_of X G a28,
  F29,
  F29.binds (ps:=["_law_term_here","_law_left","_law_values"]) (fun _ _ _ _ _ _ us hl=>L2.us3 (P:=fun us=>bindArgs _ ⟨us,[]⟩ = pure ((["_law_term_here","_law_left","_law_values"]:List Str).zip us)) hl fun _ _ _=>rfl),
  W.mg_of X G a29,
  F30,
  F30.binds (ps:=["_law_term_here","_law_values"]) (fun _ _ _ _ _ _ us hl=>L2.us2 (P:=fun us=>bindArgs _ ⟨us,[]⟩ = pure ((["_law_term_here","_law_values"]:List Str).zip us)) hl fun _ _=>rfl),
  W.mg_of X G a30,
  F31,
  F31.binds (ps:=["_law_term_here","_law_cell","_law_words_here"]) (fun _ _ _ _ _ _ us hl=>L2.us3 (P:=fun us=>bindArgs _ ⟨us,[]⟩ = pure ((["_law_term_here","_law_cell","_law_words_here"]:List Str).zip us)) hl fun _ _ _=>rfl),
  W.mg_of X G a31,
  F32,
  F32.binds (ps:=["_law_one","_law_other_here","_law_left","_law_words_here"]) (fun _ _ _ _ _ _ us hl=>L2.us4 (P:=fun us=>bindArgs _ ⟨us,[]⟩ = pure ((["_law_one","_law_other_here","_law_left","_law_words_here"]:List Str).zip us)) hl fun _ _ _ _=>rfl),
  W.mg_of X G a32,
  F33,
  F33.binds (ps:=["_law_one","_law_other_here","_law_cell"]) (fun _ _ _ _ _ _ us hl=>L2.us3 (P:=fun us=>bindArgs _ ⟨us,[]⟩ = pure ((["_law_one","_law_other_here","_law_cell"]:List Str).zip us)) hl fun _ _ _=>rfl),
  W.mg_of X G a33,
  F34,
  F34.binds (ps:=["_law_heap","_law_term_here","_law_known"]) (fun _ _ _ _ _ _ us hl=>L2.us3 (P:=fun us=>bindArgs _ ⟨us,[]⟩ = pure ((["_law_heap","_law_term_here","_law_known"]:List Str).zip us)) hl fun _ _ _=>rfl),
  W.mg_of X G a34,
  F35,
  F35.binds (ps:=["_law_term_here","_law_names"]) (fun _ _ _ _ _ _ us hl=>L2.us2 (P:=fun us=>bindArgs _ ⟨us,[]⟩ = pure ((["_law_term_here","_law_names"]:List Str).zip us)) hl fun _ _=>rfl),
  W.mg_of X G a35,
  F36,
  F36.binds (ps:=["_law_heap","_law_places","_law_terms","_law_known"]) (fun _ _ _ _ _ _ us hl=>L2.us4 (P:=fun us=>bindArgs _ ⟨us,[]⟩ = pure ((["_law_heap","_law_places","_law_terms","_law_known"]:List Str).zip us)) hl fun _ _ _ _=>rfl),
  W.mg_of X G a36,
  F37,
  F37.binds (ps:=["_law_heap","_law_places","_law_known","_law_values"]) (fun _ _ _ _ _ _ us hl=>L2.us4 (P:=fun us=>bindArgs _ ⟨us,[]⟩ = pure ((["_law_heap","_law_places","_law_known","_law_values"]:List Str).zip us)) hl fun _ _ _ _=>rfl),
  W.mg_of X G a37,
  F38,
  F38.binds (ps:=["_law_heap","_law_places","_law_other_here","_law_turned"]) (fun _ _ _ _ _ _ us hl=>L2.us4 (P:=fun us=>bindArgs _ ⟨us,[]⟩ = pure ((["_law_heap","_law_places","_law_other_here","_law_turned"]:List Str).zip us)) hl fun _ _ _ _=>rfl),
  W.mg_of X G a38,
  F39,
  F39.binds (ps:=["_law_script"]) (fun _ _ _ _ _ _ us hl=>L2.us1 (P:=fun us=>bindArgs _ ⟨us,[]⟩ = pure ((["_law_script"]:List Str).zip us)) hl fun _=>rfl),
  W.mg_of X G a39,
  W.mg_of X G al_app_terms,
  W.mg_none_of X G z0,
  W.mg_none_of X G z1,
  W.mg_none_of X G z2,
  W.mg_none_of X G z3,
  W.mg_none_of X G z4,
  W.mg_none_of X G z5,
  W.mg_none_of X G z6,
  W.mg_none_of X G z7,
  W.mg_none_of X G z8,
  W.mg_none_of X G z9,
  W.mg_none_of X G z10,
  W.mg_none_of X G z11,
  W.mg_none_of X G z12,
  W.mg_of X G y0,
  fun _=>.inr ⟨_,_,_,y0_0,rfl,rfl,ln (by simp),(.cons ⟨_,rfl⟩ .nil)⟩,
  W.mg_of X G y1⟩,fun s u=>.of_eq rfl⟩
noncomputable def cO (n q:Str) (a b c:Tok) (l m f:Int) (r:Addr) (x:Int) (s:Addr) (v w:Value) (u:Addr) (y:Int) (d:Tok):Obj:=.mk (.type "code") none (.fields (List.toArray ((.str n a) :: (.str q b) :: (.str "/claim/cut.py" c) :: (.int l 0) :: (.int m 0) :: (.int 0 0) :: (.int 0 0) :: (.int f 0) :: (.ref r) :: (.bool true) :: (.int x 0) :: (.ref s) :: .none :: v :: w :: (.ref u) :: (.int y 0) :: (.int l 0) :: (.str "/claim/cut.py" d) :: []))) #[]
noncomputable def fO (n q:Str) (s:Stmt) (m:Value) (c:Addr):Obj:=.mk (.type "function") none (.func (W.fnOf n q (a0w s) (a0u s) (a0h s) .none .none .none m none (.ref c) .none)) #[]
noncomputable def k2 (P:Params):Obj:=.mk .none none (.dict #[] 0) #[]
noncomputable def k3 (P:Params):Obj:=.mk (.type "dict") none (.dict (List.toArray ((.mk (PyData.keyHash P "__name__") (.str "__name__" 165) (.str "law_goaltrail_k51_boxes_made_one" 440)) :: (.mk (PyData.keyHash P "__doc__") (.str "__doc__" 166) .none) :: (.mk (PyData.keyHash P "__package__") (.str "__package__" 167) .none) :: (.mk (PyData.keyHash P "__loader__") (.str "__loader__" 168) (.builtin "__main__.__loader__#opaque")) :: (.mk (PyData.keyHash P "__spec__") (.str "__spec__" 169) .none) :: (.mk (PyData.keyHash P "__annotations__") (.str "__annotations__" 170) (.ref 6)) :: (.mk (PyData.keyHash P "__builtins__") (.str "__builtins__" 171) (.ref 4)) :: (.mk (PyData.keyHash P "__file__") (.str "__file__" 173) (.str "/claim/cut.py" 172)) :: (.mk (PyData.keyHash P "__cached__") (.str "__cached__" 174) .none) :: (.mk (PyData.keyHash P "TrailError") (.str "TrailError" 217) (.ref 32)) :: (.mk (PyData.keyHash P "Big") (.str "Big" 233) (.ref 45)) :: (.mk (PyData.keyHash P "key_of") (.str "key_of" 242) (.ref 54)) :: (.mk (PyData.keyHash P "MOST_PARTS") (.str "MOST_PARTS" 246) (.int 40 245)) :: (.mk (PyData.keyHash P "num") (.str "num" 253) (.ref 61)) :: (.mk (PyData.keyHash P "unknown") (.str "unknown" 260) (.ref 68)) :: (.mk (PyData.keyHash P "app") (.str "app" 268) (.ref 75)) :: (.mk (PyData.keyHash P "app_terms") (.str "app_terms" 269) (.ref 75)) :: (.mk (PyData.keyHash P "FREE") (.str "FREE" 273) (.ref 76)) :: (.mk (PyData.keyHash P "Heap") (.str "Heap" 439) (.ref 196)) :: (.mk (PyData.keyHash P "_law_cells") (.str "_law_cells" 451) (.ref 207)) :: (.mk (PyData.keyHash P "_law_next") (.str "_law_next" 458) (.ref 214)) :: (.mk (PyData.keyHash P "_law_parts") (.str "_law_parts" 464) (.ref 219)) :: (.mk (PyData.keyHash P "_law_number") (.str "_law_number" 471) (.ref 226)) :: (.mk (PyData.keyHash P "_law_word") (.str "_law_word" 485) (.ref 233)) :: (.mk (PyData.keyHash P "_law_words") (.str "_law_words" 491) (.ref 238)) :: (.mk (PyData.keyHash P "_law_mark") (.str "_law_mark" 501) (.ref 245)) :: (.mk (PyData.keyHash P "_law_sign") (.str "_law_sign" 510) (.ref 252)) :: (.mk (PyData.keyHash P "_law_term") (.str "_law_term" 525) (.ref 259)) :: (.mk (PyData.keyHash P "_law_dug") (.str "_law_dug" 531) (.ref 264)) :: (.mk (PyData.keyHash P "_law_put_in") (.str "_law_put_in" 537) (.ref 269)) :: (.mk (PyData.keyHash P "_law_other") (.str "_law_other" 549) (.ref 276)) :: (.mk (PyData.keyHash P "_law_spoiled") (.str "_law_spoiled" 564) (.ref 283)) :: (.mk (PyData.keyHash P "_law_ringed") (.str "_law_ringed" 577) (.ref 290)) :: (.mk (PyData.keyHash P "_law_put") (.str "_law_put" 583) (.ref 295)) :: (.mk (PyData.keyHash P "_law_named") (.str "_law_named" 589) (.ref 300)) :: (.mk (PyData.keyHash P "_law_all_read") (.str "_law_all_read" 602) (.ref 307)) :: (.mk (PyData.keyHash P "_law_open_right") (.str "_law_open_right" 617) (.ref 314)) :: (.mk (PyData.keyHash P "_law_turn") (.str "_law_turn" 627) (.ref 321)) :: (.mk (PyData.keyHash P "law") (.str "law" 633) (.ref 326)) :: [])) 39) #[]
noncomputable def k31 (P:Params):Obj:=.mk (.type "dict") none (.dict (List.toArray ((.mk (PyData.keyHash P "__module__") (.str "__module__" 196) (.str "goaltrail.errors" 187)) :: (.mk (PyData.keyHash P "__firstlineno__") (.str "__firstlineno__" 200) (.int 2 199)) :: (.mk (PyData.keyHash P "__init__") (.str "__init__" 210) (.ref 29)) :: (.mk (PyData.keyHash P "__static_attributes__") (.str "__static_attributes__" 212) (.ref 30)) :: (.mk (PyData.keyHash P "__weakref__") (.str "__weakref__" 214) (.ref 33)) :: (.mk (PyData.keyHash P "__doc__") (.str "__doc__" 215) .none) :: [])) 3) #[]
noncomputable def k32 (P:Params):Obj:=.mk (.type "type") none (.cls (.mk "TrailError" [(.type "ValueError")] [(.ref 32),(.type "ValueError"),(.type "Exception"),(.type "BaseException"),(.type "object")] 31 "TrailError" Bool.true [] [(.ref 45)] Bool.false none Bool.false)) (List.toArray ((some (.ref 15)) :: none :: (some (.str "TrailError" 189)) :: (some (.str "TrailError" 197)) :: (some (.builtin "ValueError.__new__")) :: (some (.bool true)) :: []))
noncomputable def k44 (P:Params):Obj:=.mk (.type "dict") none (.dict #[(.mk (PyData.keyHash P "__module__") (.str "__module__" 225) (.str "goaltrail.errors" 187)),(.mk (PyData.keyHash P "__firstlineno__") (.str "__firstlineno__" 229) (.int 7 228)),(.mk (PyData.keyHash P "__static_attributes__") (.str "__static_attributes__" 230) (.ref 43)),(.mk (PyData.keyHash P "__doc__") (.str "__doc__" 231) .none)] 2) #[]
noncomputable def k45 (P:Params):Obj:=.mk (.type "type") none (.cls (.mk "Big" [(.ref 32)] [(.ref 45),(.ref 32),(.type "ValueError"),(.type "Exception"),(.type "BaseException"),(.type "object")] 44 "Big" Bool.true [] [] Bool.false none Bool.false)) (List.toArray ((some (.ref 36)) :: none :: (some (.str "Big" 218)) :: (some (.str "Big" 226)) :: (some (.builtin "ValueError.__new__")) :: (some (.bool true)) :: []))
noncomputable def k53 (P:Params):Obj:=cO "key_of" "key_of" 236 237 238 10 1 3 48 181 49 (.ref 50) (.ref 51) 52 240 241
noncomputable def k54 (P:Params):Obj:=fO "key_of" "key_of" a5y (.str "goaltrail.switches" 234) 53
noncomputable def k60 (P:Params):Obj:=cO "num" "num" 247 248 249 18 1 3 55 181 56 (.ref 57) (.ref 58) 59 251 252
noncomputable def k61 (P:Params):Obj:=fO "num" "num" b0l (.str "goaltrail.terms" 243) 60
noncomputable def k67 (P:Params):Obj:=cO "unknown" "unknown" 254 255 256 20 1 3 62 181 63 (.ref 64) (.ref 65) 66 258 259
noncomputable def k68 (P:Params):Obj:=fO "unknown" "unknown" a5f (.str "goaltrail.terms" 243) 67
noncomputable def k74 (P:Params):Obj:=cO "app" "app" 261 262 263 22 2 3 69 181 70 (.ref 71) (.ref 72) 73 266 267
noncomputable def k75 (P:Params):Obj:=fO "app" "app" b0m (.str "goaltrail.terms" 243) 74
noncomputable def k76 (P:Params):Obj:=.mk (.type "tuple") none (.seq #[(.str "free" 272)] 0) #[]
noncomputable def k89 (P:Params):Obj:=cO "__init__" "Heap.__init__" 286 287 288 29 1 3 84 181 85 (.ref 86) (.ref 87) 88 290 291
noncomputable def k90 (P:Params):Obj:=fO "__init__" "Heap.__init__" a3q (.str "goaltrail.heap" 270) 89
noncomputable def k96 (P:Params):Obj:=cO "made" "Heap.made" 293 294 295 33 2 3 91 181 92 (.ref 93) (.ref 94) 95 298 299
noncomputable def k97 (P:Params):Obj:=fO "made" "Heap.made" a3r (.str "goaltrail.heap" 270) 96
noncomputable def k103 (P:Params):Obj:=cO "free" "Heap.free" 301 302 303 37 1 3 98 181 99 (.ref 100) (.ref 101) 102 305 306
noncomputable def k104 (P:Params):Obj:=fO "free" "Heap.free" a3s (.str "goaltrail.heap" 270) 103
noncomputable def k110 (P:Params):Obj:=cO "number" "Heap.number" 308 309 310 40 2 3 105 181 106 (.ref 107) (.ref 108) 109 313 314
noncomputable def k111 (P:Params):Obj:=fO "number" "Heap.number" a2y (.str "goaltrail.heap" 270) 110
noncomputable def k117 (P:Params):Obj:=cO "app" "Heap.app" 316 317 318 43 3 3 112 181 113 (.ref 114) (.ref 115) 116 322 323
noncomputable def k118 (P:Params):Obj:=fO "app" "Heap.app" a4l (.str "goaltrail.heap" 270) 117
noncomputable def k124 (P:Params):Obj:=cO "end_of" "Heap.end_of" 325 326 327 46 2 3 119 181 120 (.ref 121) (.ref 122) 123 331 332
noncomputable def k125 (P:Params):Obj:=fO "end_of" "Heap.end_of" a2z (.str "goaltrail.heap" 270) 124
noncomputable def k131 (P:Params):Obj:=cO "look" "Heap.look" 334 335 336 52 2 3 126 181 127 (.ref 128) (.ref 129) 130 340 341
noncomputable def k132 (P:Params):Obj:=fO "look" "Heap.look" a3t (.str "goaltrail.heap" 270) 131
noncomputable def k138 (P:Params):Obj:=cO "one" "Heap.one" 343 344 345 56 3 3 133 181 134 (.ref 135) (.ref 136) 137 354 355
noncomputable def k139 (P:Params):Obj:=fO "one" "Heap.one" a4m (.str "goaltrail.heap" 270) 138
noncomputable def k145 (P:Params):Obj:=cO "kids_of_one" "Heap.kids_of_one" 357 358 359 70 3 3 140 181 141 (.ref 142) (.ref 143) 144 365 366
noncomputable def k146 (P:Params):Obj:=fO "kids_of_one" "Heap.kids_of_one" a1p (.str "goaltrail.heap" 270) 145
noncomputable def k152 (P:Params):Obj:=cO "bind" "Heap.bind" 368 369 370 81 3 3 147 181 148 (.ref 149) (.ref 150) 151 374 375
noncomputable def k153 (P:Params):Obj:=fO "bind" "Heap.bind" a3u (.str "goaltrail.heap" 270) 152
noncomputable def k159 (P:Params):Obj:=cO "stands_within" "Heap.stands_within" 377 378 379 88 3 3 154 181 155 (.ref 156) (.ref 157) 158 386 387
noncomputable def k160 (P:Params):Obj:=fO "stands_within" "Heap.stands_within" a1l (.str "goaltrail.heap" 270) 159
noncomputable def k166 (P:Params):Obj:=cO "mark" "Heap.mark" 389 390 391 100 1 3 161 181 162 (.ref 163) (.ref 164) 165 393 394
noncomputable def k167 (P:Params):Obj:=fO "mark" "Heap.mark" a3v (.str "goaltrail.heap" 270) 166
noncomputable def k173 (P:Params):Obj:=cO "back_to" "Heap.back_to" 396 397 398 103 2 3 168 181 169 (.ref 170) (.ref 171) 172 401 402
noncomputable def k174 (P:Params):Obj:=fO "back_to" "Heap.back_to" a2m (.str "goaltrail.heap" 270) 173
noncomputable def k180 (P:Params):Obj:=cO "parts" "Heap.parts" 404 405 406 109 3 3 175 181 176 (.ref 177) (.ref 178) 179 413 414
noncomputable def k181 (P:Params):Obj:=fO "parts" "Heap.parts" a3i (.str "goaltrail.heap" 270) 180
noncomputable def k187 (P:Params):Obj:=cO "term" "Heap.term" 416 417 418 121 2 3 182 181 183 (.ref 184) (.ref 185) 186 421 422
noncomputable def k188 (P:Params):Obj:=fO "term" "Heap.term" a3w (.str "goaltrail.heap" 270) 187
noncomputable def k192 (P:Params):Obj:=cO "read_out" "Heap.read_out" 424 425 426 126 2 3 189 181 190 .none .none 191 427 428
noncomputable def k193 (P:Params):Obj:=fO "read_out" "Heap.read_out" a1t (.str "goaltrail.heap" 270) 192
noncomputable def k195 (P:Params):Obj:=.mk (.type "dict") none (.dict (List.toArray ((.mk (PyData.keyHash P "__module__") (.str "__module__" 281) (.str "goaltrail.heap" 270)) :: (.mk (PyData.keyHash P "__firstlineno__") (.str "__firstlineno__" 285) (.int 27 284)) :: (.mk (PyData.keyHash P "__init__") (.str "__init__" 292) (.ref 90)) :: (.mk (PyData.keyHash P "made") (.str "made" 300) (.ref 97)) :: (.mk (PyData.keyHash P "free") (.str "free" 307) (.ref 104)) :: (.mk (PyData.keyHash P "number") (.str "number" 315) (.ref 111)) :: (.mk (PyData.keyHash P "app") (.str "app" 324) (.ref 118)) :: (.mk (PyData.keyHash P "end_of") (.str "end_of" 333) (.ref 125)) :: (.mk (PyData.keyHash P "look") (.str "look" 342) (.ref 132)) :: (.mk (PyData.keyHash P "one") (.str "one" 356) (.ref 139)) :: (.mk (PyData.keyHash P "kids_of_one") (.str "kids_of_one" 367) (.ref 146)) :: (.mk (PyData.keyHash P "bind") (.str "bind" 376) (.ref 153)) :: (.mk (PyData.keyHash P "stands_within") (.str "stands_within" 388) (.ref 160)) :: (.mk (PyData.keyHash P "mark") (.str "mark" 395) (.ref 167)) :: (.mk (PyData.keyHash P "back_to") (.str "back_to" 403) (.ref 174)) :: (.mk (PyData.keyHash P "parts") (.str "parts" 415) (.ref 181)) :: (.mk (PyData.keyHash P "term") (.str "term" 423) (.ref 188)) :: (.mk (PyData.keyHash P "read_out") (.str "read_out" 429) (.ref 193)) :: (.mk (PyData.keyHash P "__static_attributes__") (.str "__static_attributes__" 432) (.ref 194)) :: (.mk (PyData.keyHash P "__dict__") (.str "__dict__" 434) (.ref 197)) :: (.mk (PyData.keyHash P "__weakref__") (.str "__weakref__" 436) (.ref 198)) :: (.mk (PyData.keyHash P "__doc__") (.str "__doc__" 437) .none) :: [])) 4) #[]
noncomputable def k196 (P:Params):Obj:=.mk (.type "type") none (.cls (.mk "Heap" [(.type "object")] [(.ref 196),(.type "object")] 195 "Heap" Bool.true [] [] Bool.false none Bool.false)) (List.toArray (none :: none :: (some (.str "Heap" 274)) :: (some (.str "Heap" 282)) :: (some (.builtin "object.__new__")) :: (some (.bool true)) :: []))
noncomputable def k206 (P:Params):Obj:=cO "_law_cells" "_law_cells" 442 443 444 135 2 3 201 181 202 (.ref 203) (.ref 204) 205 449 450
noncomputable def k207 (P:Params):Obj:=fO "_law_cells" "_law_cells" a5g (.str "law_goaltrail_k51_boxes_made_one" 440) 206
noncomputable def k213 (P:Params):Obj:=cO "_law_next" "_law_next" 452 453 454 144 1 3 208 181 209 (.ref 210) (.ref 211) 212 456 457
noncomputable def k214 (P:Params):Obj:=fO "_law_next" "_law_next" a5z (.str "law_goaltrail_k51_boxes_made_one" 440) 213
noncomputable def k218 (P:Params):Obj:=cO "_law_parts" "_law_parts" 459 460 461 148 1 3 215 181 216 .none .none 217 462 463
noncomputable def k219 (P:Params):Obj:=fO "_law_parts" "_law_parts" a4h (.str "law_goaltrail_k51_boxes_made_one" 440) 218
noncomputable def k225 (P:Params):Obj:=cO "_law_number" "_law_number" 465 466 467 152 1 3 220 181 221 (.ref 222) (.ref 223) 224 469 470
noncomputable def k226 (P:Params):Obj:=fO "_law_number" "_law_number" a4n (.str "law_goaltrail_k51_boxes_made_one" 440) 225
noncomputable def k232 (P:Params):Obj:=cO "_law_word" "_law_word" 472 473 474 156 3 3 227 181 228 (.ref 229) (.ref 230) 231 483 484
noncomputable def k233 (P:Params):Obj:=fO "_law_word" "_law_word" a6a (.str "law_goaltrail_k51_boxes_made_one" 440) 232
noncomputable def k237 (P:Params):Obj:=cO "_law_words" "_law_words" 486 487 488 164 2 3 234 181 235 .none .none 236 489 490
noncomputable def k238 (P:Params):Obj:=fO "_law_words" "_law_words" a4i (.str "law_goaltrail_k51_boxes_made_one" 440) 237
noncomputable def k244 (P:Params):Obj:=cO "_law_mark" "_law_mark" 492 493 494 166 1 3 239 181 240 (.ref 241) (.ref 242) 243 499 500
noncomputable def k245 (P:Params):Obj:=fO "_law_mark" "_law_mark" a6b (.str "law_goaltrail_k51_boxes_made_one" 440) 244
noncomputable def k251 (P:Params):Obj:=cO "_law_sign" "_law_sign" 502 503 504 174 3 3 246 181 247 (.ref 248) (.ref 249) 250 508 509
noncomputable def k252 (P:Params):Obj:=fO "_law_sign" "_law_sign" a6c (.str "law_goaltrail_k51_boxes_made_one" 440) 251
noncomputable def k258 (P:Params):Obj:=cO "_law_term" "_law_term" 511 512 513 180 3 3 253 181 254 (.ref 255) (.ref 256) 257 523 524
noncomputable def k259 (P:Params):Obj:=fO "_law_term" "_law_term" a6d (.str "law_goaltrail_k51_boxes_made_one" 440) 258
noncomputable def k263 (P:Params):Obj:=cO "_law_dug" "_law_dug" 526 527 528 198 3 3 260 181 261 .none .none 262 529 530
noncomputable def k264 (P:Params):Obj:=fO "_law_dug" "_law_dug" a6m (.str "law_goaltrail_k51_boxes_made_one" 440) 263
noncomputable def k268 (P:Params):Obj:=cO "_law_put_in" "_law_put_in" 532 533 534 211 2 3 265 181 266 .none .none 267 535 536
noncomputable def k269 (P:Params):Obj:=fO "_law_put_in" "_law_put_in" a3n (.str "law_goaltrail_k51_boxes_made_one" 440) 268
noncomputable def k275 (P:Params):Obj:=cO "_law_other" "_law_other" 538 539 540 217 3 3 270 181 271 (.ref 272) (.ref 273) 274 547 548
noncomputable def k276 (P:Params):Obj:=fO "_law_other" "_law_other" a5h (.str "law_goaltrail_k51_boxes_made_one" 440) 275
noncomputable def k282 (P:Params):Obj:=cO "_law_spoiled" "_law_spoiled" 550 551 552 234 4 3 277 181 278 (.ref 279) (.ref 280) 281 562 563
noncomputable def k283 (P:Params):Obj:=fO "_law_spoiled" "_law_spoiled" a3x (.str "law_goaltrail_k51_boxes_made_one" 440) 282
noncomputable def k289 (P:Params):Obj:=cO "_law_ringed" "_law_ringed" 565 566 567 246 3 3 284 181 285 (.ref 286) (.ref 287) 288 575 576
noncomputable def k290 (P:Params):Obj:=fO "_law_ringed" "_law_ringed" a4o (.str "law_goaltrail_k51_boxes_made_one" 440) 289
noncomputable def k294 (P:Params):Obj:=cO "_law_put" "_law_put" 578 579 580 260 3 3 291 181 292 .none .none 293 581 582
noncomputable def k295 (P:Params):Obj:=fO "_law_put" "_law_put" a6n (.str "law_goaltrail_k51_boxes_made_one" 440) 294
noncomputable def k299 (P:Params):Obj:=cO "_law_named" "_law_named" 584 585 586 269 2 3 296 181 297 .none .none 298 587 588
noncomputable def k300 (P:Params):Obj:=fO "_law_named" "_law_named" a4j (.str "law_goaltrail_k51_boxes_made_one" 440) 299
noncomputable def k306 (P:Params):Obj:=cO "_law_all_read" "_law_all_read" 590 591 592 275 4 3 301 181 302 (.ref 303) (.ref 304) 305 600 601
noncomputable def k307 (P:Params):Obj:=fO "_law_all_read" "_law_all_read" a3j (.str "law_goaltrail_k51_boxes_made_one" 440) 306
noncomputable def k313 (P:Params):Obj:=cO "_law_open_right" "_law_open_right" 603 604 605 283 4 3 308 181 309 (.ref 310) (.ref 311) 312 615 616
noncomputable def k314 (P:Params):Obj:=fO "_law_open_right" "_law_open_right" a2n (.str "law_goaltrail_k51_boxes_made_one" 440) 313
noncomputable def k320 (P:Params):Obj:=cO "_law_turn" "_law_turn" 618 619 620 298 4 3 315 181 316 (.ref 317) (.ref 318) 319 625 626
noncomputable def k321 (P:Params):Obj:=fO "_law_turn" "_law_turn" a6e (.str "law_goaltrail_k51_boxes_made_one" 440) 320
noncomputable def k325 (P:Params):Obj:=cO "law" "law" 628 629 630 302 1 3 322 181 323 .none .none 324 631 632
noncomputable def k326 (P:Params):Obj:=fO "law" "law" a8z (.str "law_goaltrail_k51_boxes_made_one" 440) 325
noncomputable def KK:Params->W.Frag:=fun P=>(nat_lit 2,k2 P) :: (nat_lit 3,k3 P) :: (nat_lit 31,k31 P) :: (nat_lit 32,k32 P) :: (nat_lit 44,k44 P) :: (nat_lit 45,k45 P) :: (nat_lit 53,k53 P) :: (nat_lit 54,k54 P) :: (nat_lit 60,k60 P) :: (nat_lit 61,k61 P) :: (nat_lit 67,k67 P) :: (nat_lit 68,k68 P) :: (nat_lit 74,k74 P) :: (nat_lit 75,k75 P) :: (nat_lit 76,k76 P) :: (nat_lit 89,k89 P) :: (nat_lit 90,k90 P) :: (nat_lit 96,k96 P) :: (nat_lit 97,k97 P) :: (nat_lit 103,k103 P) :: (nat_lit 104,k104 P) :: (nat_lit 110,k110 P) :: (nat_lit 111,k111 P) :: (nat_lit 117,k117 P) :: (nat_lit 118,k118 P) :: (nat_lit 124,k124 P) :: (nat_lit 125,k125 P) :: (nat_lit 131,k131 P) :: (nat_lit 132,k132 P) :: (nat_lit 138,k138 P) :: (nat_lit 139,k139 P) :: (nat_lit 145,k145 P) :: (nat_lit 146,k146 P) :: (nat_lit 152,k152 P) :: (nat_lit 153,k153 P) :: (nat_lit 159,k159 P) :: (nat_lit 160,k160 P) :: (nat_lit 166,k166 P) :: (nat_lit 167,k167 P) :: (nat_lit 173,k173 P) :: (nat_lit 174,k174 P) :: (nat_lit 180,k180 P) :: (nat_lit 181,k181 P) :: (nat_lit 187,k187 P) :: (nat_lit 188,k188 P) :: (nat_lit 192,k192 P) :: (nat_lit 193,k193 P) :: (nat_lit 195,k195 P) :: (nat_lit 196,k196 P) :: (nat_lit 206,k206 P) :: (nat_lit 207,k207 P) :: (nat_lit 213,k213 P) :: (nat_lit 214,k214 P) :: (nat_lit 218,k218 P) :: (nat_lit 219,k219 P) :: (nat_lit 225,k225 P) :: (nat_lit 226,k226 P) :: (nat_lit 232,k232 P) :: (nat_lit 233,k233 P) :: (nat_lit 237,k237 P) :: (nat_lit 238,k238 P) :: (nat_lit 244,k244 P) :: (nat_lit 245,k245 P) :: (nat_lit 251,k251 P) :: (nat_lit 252,k252 P) :: (nat_lit 258,k258 P) :: (nat_lit 259,k259 P) :: (nat_lit 263,k263 P) :: (nat_lit 264,k264 P) :: (nat_lit 268,k268 P) :: (nat_lit 269,k269 P) :: (nat_lit 275,k275 P) :: (nat_lit 276,k276 P) :: (nat_lit 282,k282 P) :: (nat_lit 283,k283 P) :: (nat_lit 289,k289 P) :: (nat_lit 290,k290 P) :: (nat_lit 294,k294 P) :: (nat_lit 295,k295 P) :: (nat_lit 299,k299 P) :: (nat_lit 300,k300 P) :: (nat_lit 306,k306 P) :: (nat_lit 307,k307 P) :: (nat_lit 313,k313 P) :: (nat_lit 314,k314 P) :: (nat_lit 320,k320 P) :: (nat_lit 321,k321 P) :: (nat_lit 325,k325 P) :: (nat_lit 326,k326 P) :: []
noncomputable def prog:Program:=PySem.Challenge.pw_goaltrail_k51_boxes_made_one
noncomputable def Q:Program:=W.view prog [1,2,4,6,7,8,9,10,12,13,15,16,17,18,19,20,21,22,23,24,25,26,27,28,29,30,31,32,33,34]
noncomputable def loose:List Str:=["TrailError","app_terms"]
noncomputable def Xt (s:Shared):Bool:=W.xlAt Q [] s && W.recOk [] s
lay_quick prog Q loose Xt KK
noncomputable def ads:List Addr:=[2,3,31,32,44,45,53,54,60,61,67,68,74,75,76,89,90,96,97,103,104,110,111,117,118,124,125,131,132,138,139,145,146,152,153,159,160,166,167,173,174,180,181,187,188,192,193,195,196,206,207,213,214,218,219,225,226,232,233,237,238,244,245,251,252,258,259,263,264,268,269,275,276,282,283,289,290,294,295,299,300,306,307,313,314,320,321,325,326]
theorem run1:∀ w:World,(fun os=>(W.segRunT treeTable prog w 11 (some (.ref 6)) 0 1994 (bootS w os) (W.topStub prog)).map fun r=>looks prog Q loose Xt (fun s=>ads.map s.heap.get?) true (W.boot_heap w.params) r.2.1.abs) = fun _=>some (true,W.openGood Q loose,(KK w.params).map fun p=>some p.2):=by
 intro w
 rw [W.Fast.te10110043849684766642,W.Fast.te14364793385576792824,W.Fast.te2530740449226627131,W.Fast.te3486900944545009338,W.Fast.te10845986317416049621,W.Fast.te5655336392911312201,W.Fast.te2269092192922489660,W.Fast.te11443658404787768991,W.Fast.te8497152684455178732,W.Fast.te18048671565189718596,W.Fast.te6894247980046229166]
 kernel_rfl
theorem left1:W.LeftO prog Q loose Xt (fun s=>ads.map s.heap.get?) (fun w=>(KK w.params).map fun p=>some p.2) 1994:=left_of (by kernel_rfl) (by decide) (fun _=>by kernel_rfl) c3f (by decide) run1
theorem walk {l:W.OpenLaw} {q:Program} {loose:List Str} {XP:(Str->Option Value)->Heap->Prop} {YP:World->Heap->Prop} {d:DefRec} {K:Params->W.Frag} (hn:l.most = some 63) (hdf:d.params.defaults = [])
  (hY:∀ (w:World) (h:Heap),YP w h->(K w.params).In h)
  (F:∀ (w:World) (mg:Str->Option Value) (fa:Addr) (h:Heap),(K w.params).In h->h.Ns mainGlobals mg->mg d.name = some (.ref fa) ->
   ∃ fd:FuncData,(∀ (s:Shared) (u:Value),BindsTo s fd ⟨[u],[]⟩ [("_law_script",u)])/\∀ base:Heap,(K w.params).In base->base.Ns mainGlobals mg->FnOk l.prog w (K w.params) mg base CX0 90 fa fd ["_law_script"] (b0c (K w.params))) :
  W.WalkO q loose XP YP l.row.toRowW d [] (fun f vs=>PySem.call f vs):=
 L2.walk_of (n:=63) (k:=90) (x:="_law_script") (CX:=fun _=>CX0) (sp:=fun w=>b0c (K w.params)) hn (by decide) hdf ⟨rfl,by decide,by decide⟩ hY F (fun _ _ a ns hl hO hS=>⟨ns,hS,hl,fun _=>rfl⟩) fun _ _ _ _ _ z=>z
end My
open PySem PySem.W PyProof.Rows
set_option maxRecDepth 100000 in
set_option maxHeartbeats 0 in
theorem PySem.Challenge.cw_goaltrail_k51_boxes_made_one_holds : PySem.Challenge.rw_goaltrail_k51_boxes_made_one.Holds := by
 w_on; o_law
 refine W.holds_open (q:=My.Q) (loose:=My.loose) (Xt:=My.Xt) (XP:=W.XL My.Q []) (Yf:=fun s=>My.ads.map s.heap.get?) (Ya:=fun w=>(My.KK w.params).map fun (p:Addr × Obj)=>some p.2) (YP:=W.InK My.KK) (N:=1994) My.left1 (W.InK.of (fun _=>by kernel_rfl)) W.InK.keeps (fun s e=>W.xl_of s (Bool.and_eq_true_iff.mp e).1) W.XL.keeps (by rfl) (by rfl) (by rfl) (fun s e=>W.recFacts_of (Bool.and_eq_true_iff.mp e).2) (by rfl) (by assumption) (by decide +kernel) ⟨rfl,rfl,rfl,rfl,rfl,by decide +kernel⟩ ?hw ?hc
 (case hw=>w_witness2)
 k_fill
 refine My.walk (l:=PySem.Challenge.rw_goaltrail_k51_boxes_made_one) rfl rfl (fun w h Y=>Y) ?F
 case F=>
  intro w mg fa h KX G hmg
  have TT:∃ t:My.Ad,My.Txt (L2.KOf KX) mg t/\∀ (s:Shared) (u:Value),BindsTo s t.d_law ⟨[u],[]⟩ [("_law_script",u)]:=by
   dsimp only [L2.KOf]
   refine' My.txt_mk KX G ?ac_TrailError ?ac_Big ?ac_Heap ?pg_Heap ?hd_Heap ?po_Heap ?sa_Heap ?na_Heap_boxes ?na_Heap_trail ?mk_Heap ?in_Heap ?kc_Heap ?am_Heap_made ?am_Heap_free ?am_Heap_number ?am_Heap_app ?am_Heap_end_of ?am_Heap_look ?am_Heap_one ?am_Heap_kids_of_one ?am_Heap_bind ?am_Heap_stands_within ?am_Heap_mark ?am_Heap_back_to ?am_Heap_parts ?am_Heap_term ?am_Heap_read_out ?l0 ?c0 ?k0 ?fn0 ?l1 ?c1 ?k1 ?fn1 ?l2 ?c2 ?k2 ?fn2 ?l3 ?c3 ?k3 ?fn3 ?l4 ?c4 ?k4 ?fn4 ?l5 ?c5 ?k5 ?fn5 ?l6 ?c6 ?k6 ?fn6 ?l7 ?c7 ?k7 ?fn7 ?l8 ?c8 ?k8 ?fn8 ?l9 ?c9 ?k9 ?fn9 ?l10 ?c10 ?k10 ?fn10 ?l11 ?c11 ?k11 ?fn11 ?l12 ?c12 ?k12 ?fn12 ?l13 ?c13 ?k13 ?fn13 ?l14 ?c14 ?k14 ?fn14 ?l15 ?c15 ?k15 ?fn15 ?a16 ?l16 ?c16 ?k16 ?a17 ?l17 ?c17 ?k17 ?a18 ?l18 ?c18 ?k18 ?a19 ?l19 ?c19 ?k19 ?a20 ?l20 ?c20 ?k20 ?a21 ?l21 ?c21 ?k21 ?a22 ?l22 ?c22 ?k22 ?a23 ?l23 ?c23 ?k23 ?a24 ?l24 ?c24 ?k24 ?a25 ?l25 ?c25 ?k25 ?a26 ?l26 ?c26 ?k26 ?a27 ?l27 ?c27 ?k27 ?a28 ?l28 ?c28 ?k28 ?a29 ?l29 ?c29 ?k29 ?a30 ?l30 ?c30 ?k30 ?a31 ?l31 ?c31 ?k31 ?a32 ?l32 ?c32 ?k32 ?a33 ?l33 ?c33 ?k33 ?a34 ?l34 ?c34 ?k34 ?a35 ?l35 ?c35 ?k35 ?a36 ?l36 ?c36 ?k36 ?a37 ?l37 ?c37 ?k37 ?a38 ?l38 ?c38 ?k38 ?a39 ?l39 ?c39 ?k39 ?al_app_terms ?z0 ?z1 ?z2 ?z3 ?z4 ?z5 ?z6 ?z7 ?z8 ?z9 ?z10 ?z11 ?z12 ?y0 ?y0_0 ?y1
   all_goals try (first | k_is)
  obtain ⟨t,T,e1⟩:=TT
  have e0:=hmg.symm.trans T.m_law
  cases e0
  exact ⟨t.d_law,e1,fun base kb nb=>My.ok_all T⟩
