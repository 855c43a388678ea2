import PyProof.Rows.All
import PyProof.StrBlock2
import PyProof.Rows.StrIntSpec
import KE.KItemsList
import KE.KDictLaws
import PyProof.SumWalkG
import KE.KRevIter
import PyProof.ListRange
import PyProof.Rows.SortWalk
import KE.KSortedM
import PyProof.Rows.SortStr
import Wide.All
import OpenK.AllK
import Wide.FinOn
import Lean
import PyProof.EqAt
import PyProof.EqKinds
import PyProof.TupleCall
import PyProof.NeKinds
import PyProof.DictUpdate
import KE.KDictList
import KE.KEqDict
import PyProof.Draws
import PyProof.Rows.EnumRows
import PyProof.StationsW
import PyProof.ExcClass3
import PyProof.RulesAs
import PyProof.ExcBaseAll.ValueError
import PyProof.InstStoreFacts
import PyProof.ExcArgsOwn
import PyProof.NsDelKeeps
import KE.RegKIsAll
import PyProof.Rows.LoopZipPat
import PyProof.StrLawsRepr
import KE.KDictOf
import PyProof.WalksS
import PyProof.AttrMissHeap
import PySem.Challenge.RW_goaltrail_k44_goals_read_back
set_option Elab.async false
set_option linter.all false
set_option maxRecDepth 100000
set_option genSizeOf false
set_option bootstrap.genMatcherCode false
set_option compiler.extract_closed false
namespace L2
open PySem PySem.Spec PyProof.Rows
theorem us0 {us:List Value} {P:List Value->Prop} (hl:us.length = 0) (h:P []):P us:=by cases us with | nil=>exact h | cons a r=>cases hl
theorem us1 {us:List Value} {P:List Value->Prop} (hl:us.length = 1) (h:∀ a,P [a]):P us:=by cases us with | nil=>cases hl | cons a r=>exact us0 (P:=fun r=>P (a :: r)) (Nat.succ.inj hl) (h a)
theorem us2 {us:List Value} {P:List Value->Prop} (hl:us.length = 2) (h:∀ a b,P [a,b]):P us:=by cases us with | nil=>cases hl | cons a r=>exact us1 (P:=fun r=>P (a :: r)) (Nat.succ.inj hl) (h a)
theorem us3 {us:List Value} {P:List Value->Prop} (hl:us.length = 3) (h:∀ a b c,P [a,b,c]):P us:=by cases us with | nil=>cases hl | cons a r=>exact us2 (P:=fun r=>P (a :: r)) (Nat.succ.inj hl) (h a)
theorem us4 {us:List Value} {P:List Value->Prop} (hl:us.length = 4) (h:∀ a b c d,P [a,b,c,d]):P us:=by cases us with | nil=>cases hl | cons a r=>exact us3 (P:=fun r=>P (a :: r)) (Nat.succ.inj hl) (h a)
theorem us5 {us:List Value} {P:List Value->Prop} (hl:us.length = 5) (h:∀ a b c d e,P [a,b,c,d,e]):P us:=by cases us with | nil=>cases hl | cons a r=>exact us4 (P:=fun r=>P (a :: r)) (Nat.succ.inj hl) (h a)
theorem us6 {us:List Value} {P:List Value->Prop} (hl:us.length = 6) (h:∀ a b c d e f,P [a,b,c,d,e,f]):P us:=by cases us with | nil=>cases hl | cons a r=>exact us5 (P:=fun r=>P (a :: r)) (Nat.succ.inj hl) (h a)
noncomputable abbrev Key:=Sum Int Str
noncomputable def b3p:Key->Value->Bool
 | .inl k,v=>Value.isInt k v
 | .inr x,v=>Value.isStrOf x v
noncomputable def keyH (w:World):Key->Int
 | .inl k=>hashInt k
 | .inr x=>hashStr w x
theorem a3m:∀ {k:Key} {v:Value},b3p k v = true->(∃ i t,k = Sum.inl i/\v = Value.int i t)\/(∃ x t,k = Sum.inr x/\v = Value.str x t)
 | .inl i,v,h=>by
  obtain ⟨t,e⟩:=Value.isInt_shape (k:=i) (v:=v) h
  exact .inl ⟨i,t,rfl,e⟩
 | .inr x,v,h=>by
  obtain ⟨t,e⟩:=Value.isStrOf_shape (x:=x) (v:=v) h
  exact .inr ⟨x,t,rfl,e⟩
theorem c4g (i:Int) (t:Tok):b3p (.inl i) (.int i t) = true:=by simp [b3p,Value.isInt]
theorem b2v (x:Str) (t:Tok):b3p (.inr x) (.str x t) = true:=by simp [b3p,Value.isStrOf]
theorem key_ll (a b:Int):decide ((Sum.inl a:Key) = Sum.inl b) = (a == b):=by
 by_cases e:a = b
 ·subst e; simp
 ·have h:¬ (Sum.inl a:Key) = Sum.inl b:=fun q=>e (Sum.inl.inj q)
  rw [decide_eq_false h]
  exact (beq_eq_false_iff_ne.mpr e).symm
theorem key_rr (a b:Str):decide ((Sum.inr a:Key) = Sum.inr b) = decide (a = b):=by
 by_cases e:a = b
 ·subst e; simp
 ·have h:¬ (Sum.inr a:Key) = Sum.inr b:=fun q=>e (Sum.inr.inj q)
  rw [decide_eq_false h,decide_eq_false e]
theorem key_lr (a:Int) (b:Str):decide ((Sum.inl a:Key) = Sum.inr b) = false:=decide_eq_false (fun q=>nomatch q)
theorem key_rl (a:Str) (b:Int):decide ((Sum.inr a:Key) = Sum.inl b) = false:=decide_eq_false (fun q=>nomatch q)
noncomputable def a1i (prog:Program) (w:World):PySem.KeyKind prog w Key where
 is:=b3p
 hash:=keyH w
 inj:=fun v a b ha hb=>by
  rcases a3m ha with ⟨i,t,rfl,rfl⟩ | ⟨x,t,rfl,rfl⟩
  ·rcases a3m hb with ⟨j,u,rfl,e⟩ | ⟨y,u,rfl,e⟩
   ·injection e with e1 _; rw [e1]
   ·exact nomatch e
  ·rcases a3m hb with ⟨j,u,rfl,e⟩ | ⟨y,u,rfl,e⟩
   ·exact nomatch e
   ·injection e with e1 _; rw [e1]
 byValue:=fun k v h=>by
  rcases a3m h with ⟨i,t,rfl,rfl⟩ | ⟨x,t,rfl,rfl⟩ <;> rfl
 pyHash:=fun hv h=>by
  rcases a3m hv with ⟨i,t,rfl,rfl⟩ | ⟨x,t,rfl,rfl⟩
  ·exact wpAny_pyHash_int h
  ·exact wpAny_pyHash_str h
 eqBool:=fun hu hv h=>by
  rcases a3m hu with ⟨i,t,rfl,rfl⟩ | ⟨x,t,rfl,rfl⟩
  ·rcases a3m hv with ⟨j,u,rfl,rfl⟩ | ⟨y,u,rfl,rfl⟩
   ·rw [key_ll] at h; exact wpAny_eqBool_int h
   ·rw [key_lr] at h; exact SeqAt.EqAt.int_str i t y u _ _ _ _ h
  ·rcases a3m hv with ⟨j,u,rfl,rfl⟩ | ⟨y,u,rfl,rfl⟩
   ·rw [key_rl] at h; exact SeqAt.EqAt.str_int x t j u _ _ _ _ h
   ·rw [key_rr] at h; exact wpAny_eqBool_str h
 «strs»:=fun k x t v h=>by
  rcases a3m h with ⟨i,u,rfl,e⟩ | ⟨y,u,rfl,e⟩
  ·exact nomatch e
  ·injection e with e1 _
   subst e1
   cases v <;> rfl
theorem b1e (prog:Program) (w:World) (i:Int) (t:Tok):(a1i prog w).is (.inl i) (.int i t) = true:=c4g i t
theorem b1f (prog:Program) (w:World) (x:Str) (t:Tok):(a1i prog w).is (.inr x) (.str x t) = true:=b2v x t
inductive V where
 | non | bl (b:Bool) | int (i:Int) | str (x:Str) | byt (b:Array UInt8) | flt (b:UInt64) | ref (a:Addr) | ty (n:String)
 deriving DecidableEq
noncomputable def RelV:V->Value->Prop
 | .non,u=>u = Value.none
 | .bl b,u=>u = Value.bool b
 | .int i,u=>∃ t,u = Value.int i t
 | .str x,u=>∃ t,u = Value.str x t
 | .byt b,u=>∃ t,u = Value.bytes b t
 | .flt b,u=>∃ t,u = Value.float b t
 | .ref a,u=>u = Value.ref a
 | .ty n,u=>u = Value.type n
noncomputable abbrev Vals:List V->List Value->Prop:=Paired RelV
theorem Vals.length {xs:List V} {us:List Value} (r:Vals xs us):xs.length = us.length:=Paired.length r
theorem Vals.get:∀ {xs:List V} {us:List Value} {i:Nat} {x:V},Vals xs us->xs[i]? = some x->∃ u,us[i]? = some u/\RelV x u
 | _,_,_,_,.nil,e=>by simp at e
 | _,_,0,_,.cons r _,e=>by simp at e; subst e; exact ⟨_,rfl,r⟩
 | _,_,i + 1,x,.cons _ t,e=>by
  obtain ⟨u,h1,h2⟩:=Vals.get (i:=i) (x:=x) t (by simpa using e)
  exact ⟨u,by simpa using h1,h2⟩
theorem Vals.append:∀ {xs ys:List V} {us ws:List Value},Vals xs us->Vals ys ws->Vals (xs ++ ys) (us ++ ws)
 | _,_,_,_,.nil,s=>s
 | _,_,_,_,.cons r t,s=>.cons r (Vals.append t s)
theorem Vals.take:∀ {xs:List V} {us:List Value} (n:Nat),Vals xs us->Vals (xs.take n) (us.take n)
 | _,_,0,_=>.nil
 | _,_,_ + 1,.nil=>.nil
 | _,_,n + 1,.cons r t=>.cons r (Vals.take n t)
theorem Vals.drop:∀ {xs:List V} {us:List Value} (n:Nat),Vals xs us->Vals (xs.drop n) (us.drop n)
 | _,_,0,r=>r
 | _,_,_ + 1,.nil=>.nil
 | _,_,n + 1,.cons _ t=>Vals.drop n t
noncomputable def RelO:Option V->Option Value->Prop
 | some v,some u=>RelV v u
 | none,none=>True
 | _,_=>False
noncomputable def KV {κ:Type}:List (κ × V)->List (κ × Value)->Prop:=Paired fun (p:κ × V) (q:κ × Value)=>p.1 = q.1/\RelV p.2 q.2
noncomputable def kV:Key->V
 | .inl i=>.int i
 | .inr x=>.str x
inductive HO where
 | lst (xs:List V)
 | tup (xs:List V)
 | dK (kvs:List (Key × V)) | dT (kvs:List (List Key × V))
 | set (S:Int->Bool) (n:Nat)
 | ins (C dx:Addr) (fs:List (Str × V))
 | own (x:Addr)
 | xd (fs:List (Str × V))
 | met (f x:Addr)
 | rng (lo hi:Int)
 | frz (o:Obj) (u:HO)
 | tbl (ps:Array Value)
 | ext (φ:Heap->Prop)
noncomputable abbrev Hp:=Addr->Option HO
noncomputable def upd (H:Hp) (a:Addr) (o:HO):Hp:=fun b=>if b = a then some o else H b
theorem a0d {H:Hp} {a:Addr} {o:HO}:upd H a o a = some o:=by unfold upd; rw [if_pos rfl]
theorem a0n {H:Hp} {a b:Addr} {o:HO} (h:b ≠ a):upd H a o b = H b:=by unfold upd; rw [if_neg h]
theorem ne_of {H:Hp} {a b:Addr} {o u:HO} (h:H a = some o) (h':H b = some u) (d:o ≠ u):a ≠ b:=by
 intro e; subst e; rw [h] at h'; exact d (Option.some.inj h')
theorem a2n {H:Hp} {a b:Addr} {o:HO} (h:H a = some o) (h':H b = none):a ≠ b:=by
 intro e; subst e; rw [h] at h'; cases h'
section
variable (P:Program) (w:World)
noncomputable def a2e (H:Hp) (h:Heap) (a:Addr):HO->Prop
 | .lst xs=>xs.length<=sizeLine/\∃ (its:List Value) (n:Nat),Vals xs its/\h.get? a = some { cls:=.type "list",data:=.seq its.toArray n }
 | .tup xs=>xs.length<=sizeLine/\∃ its:List Value,Vals xs its/\IsTup h a its.toArray
 | .dK kvs=>kvs.length<=sizeLine/\(a == sysModules) = false/\∃ vs,KV kvs vs/\h.DictOf (a1i P w) a vs
 | .dT kvs=>kvs.length<=sizeLine/\(a == sysModules) = false/\∃ xs:List (List Key × Addr × Value),
   Paired (fun (p:List Key × V) (q:List Key × Addr × Value)=>p.1 = q.1/\H q.2.1 = some (.tup (p.1.map kV))/\RelV p.2 q.2.2) kvs xs /\
   ∃ o es ep,h.get? a = some o/\o.ExactDict/\o.data = .dict es ep/\es.toList = xs.map (entryOfKey (tupleKind (a1i P w)))/\(xs.map (·.1)).Nodup
 | .set S n=>h.SetOf (intKind P w) a S n
 | .ins C dx fs=>H dx = some (.own a)/\fs.length<=1000/\dx ≠ a/\h.get? a = some (W.instObj C dx) /\
   ∃ mA,h.Ns1 dx mA/\(∀ f,RelO (fs.lookup f) (mA f))/\PySem.Within mA (fs.map (·.1))
 | .own _=>∃ o,h.get? a = some o
 | .xd fs=>∃ mA,h.Ns1 a mA/\∀ f,RelO (fs.lookup f) (mA f)
 | .rng lo hi=>∃ t u v,h.get? a = some { cls:=.type "range",data:=.fields #[.int lo t,.int hi u,.int 1 v] }
 | .frz o u=>h.get? a = some o/\a2e H h a u
 | .tbl ps=>h.get? a = some { cls:=.none,data:=.fields ps }
 | .met f x=>h.get? a = some (W.methodObj (.ref f) (.ref x))
 | .ext φ=>φ h/\(∃ o,h.get? a = some o)/\∀ h1 h2:Heap,φ h1->(∀ o,h1.get? a = some o->h2.get? a = some o)->φ h2
noncomputable def HOk (H:Hp) (h:Heap):Prop:=∀ a o,H a = some o->a2e P w H h a o
end
section
variable {P:Program} {w:World} {H H':Hp} {h h':Heap} {a:Addr} {o:HO}
theorem a2e.lt (x:a2e P w H h a o):a < h.objs.size:=by
 cases o with
 | lst xs=>obtain ⟨_,_,_,_,e⟩:=x; exact Heap.lt_size e
 | tup xs=>obtain ⟨_,_,_,p⟩:=x; exact p.lt
 | dK kvs=>obtain ⟨_,_,_,_,o,_,_,e,_⟩:=x; exact Heap.lt_size e
 | dT kvs=>obtain ⟨_,_,_,_,o,_,_,e,_⟩:=x; exact Heap.lt_size e
 | set S n=>obtain ⟨o,_,_,_,e,_⟩:=x; exact Heap.lt_size e
 | ins C dx fs=>obtain ⟨_,_,_,e,_⟩:=x; exact Heap.lt_size e
 | own y=>obtain ⟨_,e⟩:=x; exact Heap.lt_size e
 | xd fs=>obtain ⟨_,⟨_,_,_,e,_⟩,_⟩:=x; exact Heap.lt_size e
 | rng lo hi=>obtain ⟨_,_,_,e⟩:=x; exact Heap.lt_size e
 | frz ob u=>obtain ⟨e,_⟩:=x; exact Heap.lt_size e
 | tbl ps=>exact Heap.lt_size (show h.get? a = some _ from x)
 | met f y=>exact Heap.lt_size (show h.get? a = some _ from x)
 | ext φ=>obtain ⟨_,⟨_,e⟩,_⟩:=x; exact Heap.lt_size e
theorem Paired.mapP {α β:Type} {F G:α->β->Prop}:∀ {l₁:List α} {l₂:List β},Paired F l₁ l₂->(∀ a b,F a b->G a b)->Paired G l₁ l₂
 | _,_,.nil,_=>.nil
 | _,_,.cons r t,f=>.cons (f _ _ r) (Paired.mapP t f)
theorem a2e.stay (x:a2e P w H h a o) (k:∀ b u,(b = a\/H b = some (.own a))->h.get? b = some u->h'.get? b = some u)
  (ho:∀ b,H b = some (.own a)->H' b = some (.own a)) (ht:∀ b xs,H b = some (.tup xs)->H' b = some (.tup xs)):a2e P w H' h' a o:=by
 induction o with
 | lst xs=>obtain ⟨z,its,n,r,e⟩:=x; exact ⟨z,its,n,r,k _ _ (.inl rfl) e⟩
 | tup xs=>obtain ⟨z,its,r,ob,e,c⟩:=x; exact ⟨z,its,r,ob,k _ _ (.inl rfl) e,c⟩
 | dK kvs=>obtain ⟨z,y,vs,r,ob,es,ep,e,c⟩:=x; exact ⟨z,y,vs,r,ob,es,ep,k _ _ (.inl rfl) e,c⟩
 | dT kvs=>
  obtain ⟨z,y,xs,r,ob,es,ep,e,c⟩:=x
  exact ⟨z,y,xs,Paired.mapP r fun p q z=>⟨z.1,ht _ _ z.2.1,z.2.2⟩,ob,es,ep,k _ _ (.inl rfl) e,c⟩
 | set S n=>obtain ⟨ob,es,ep,t,e,c⟩:=x; exact ⟨ob,es,ep,t,k _ _ (.inl rfl) e,c⟩
 | ins C dx fs=>
  obtain ⟨d,z,ne,e,mA,⟨od,es,ep,e2,c⟩,r⟩:=x
  exact ⟨ho _ d,z,ne,k _ _ (.inl rfl) e,mA,⟨od,es,ep,k _ _ (.inr d) e2,c⟩,r⟩
 | own y=>obtain ⟨ob,e⟩:=x; exact ⟨ob,k _ _ (.inl rfl) e⟩
 | xd fs=>obtain ⟨mA,⟨od,es,ep,e,c⟩,r⟩:=x; exact ⟨mA,⟨od,es,ep,k _ _ (.inl rfl) e,c⟩,r⟩
 | rng lo hi=>obtain ⟨t,u,v,e⟩:=x; exact ⟨t,u,v,k _ _ (.inl rfl) e⟩
 | frz ob u ih=>obtain ⟨e,q⟩:=x; exact ⟨k _ _ (.inl rfl) e,ih q⟩
 | tbl ps=>
  have e:h.get? a = some { cls:=.none,data:=.fields ps }:=x
  show h'.get? a = some { cls:=.none,data:=.fields ps }
  exact k a _ (.inl rfl) e
 | met f y=>
  have e:h.get? a = some (W.methodObj (.ref f) (.ref y)):=x
  show h'.get? a = some (W.methodObj (.ref f) (.ref y))
  exact k a _ (.inl rfl) e
 | ext φ=>obtain ⟨p,⟨o,e⟩,st⟩:=x; exact ⟨st _ _ p fun o q=>k _ _ (.inl rfl) q,⟨o,k _ _ (.inl rfl) e⟩,st⟩
theorem HOk.lt (x:HOk P w H h) (e:H a = some o):a < h.objs.size:=(x a o e).lt
theorem HOk.fresh (x:HOk P w H h) (e:h.objs.size<=a):H a = none:=by
 cases q:H a with
 | none=>rfl
 | some u=>exact absurd (Nat.lt_of_lt_of_le (x.lt q) e) (Nat.lt_irrefl _)
theorem HOk.kept (x:HOk P w H h) (k:∀ b u,h.get? b = some u->h'.get? b = some u):HOk P w H h':=fun a o e=>
 (x a o e).stay (fun b u _ q=>k b u q) (fun _ q=>q) fun _ _ q=>q
theorem HOk.laid (x:HOk P w H h) (k:∀ b u,h.get? b = some u->h'.get? b = some u) (hp:h.objs.size<=a) (new:a2e P w (upd H a o) h' a o):HOk P w (upd H a o) h':=fun b u e=>by
 have hn:=x.fresh hp
 by_cases hb:b = a
 ·subst hb; rw [a0d] at e; cases e; exact new
 ·rw [a0n hb] at e
  exact (x b u e).stay (fun c v _ q=>k c v q) (fun c q=>by rw [a0n (a2n q hn)]; exact q) fun c xs q=>by rw [a0n (a2n q hn)]; exact q
end
noncomputable def Rd (H:Hp) (a:Addr) (u:HO):Prop:=H a = some u\/∃ o,H a = some (.frz o u)
theorem Rd.ok {P:Program} {w:World} {H:Hp} {h:Heap} {a:Addr} {u:HO} (r:Rd H a u) (x:HOk P w H h):a2e P w H h a u:=by
 rcases r with r | ⟨o,r⟩
 ·exact x a u r
 ·obtain ⟨_,q⟩:=x a _ r
  exact q
noncomputable def Mut:Option HO->Prop
 | some (.lst _)=>True
 | some (.dK _)=>True
 | some (.dT _)=>True
 | some (.set _ _)=>True
 | some (.ins _ _ _)=>True
 | some (.ext _)=>True
 | _=>False
section
variable {P:Program} {w:World} {H:Hp} {h h':Heap} {x e:Addr} {o':HO}
theorem HOk.write (ok:HOk P w H h) (mu:Mut (H x)) (he:e = x\/H e = some (.own x)) (k:∀ b u,b ≠ e->h.get? b = some u->h'.get? b = some u) (heo:∃ u,h'.get? e = some u)
  (new:a2e P w (upd H x o') h' x o'):HOk P w (upd H x o') h':=fun b u q=>by
 have nown:∀ c y,H c = some (.own y)->c ≠ x:=fun c y r z=>by subst z; rw [r] at mu; exact mu
 have ntup:∀ c xs,H c = some (.tup xs)->c ≠ x:=fun c xs r z=>by subst z; rw [r] at mu; exact mu
 by_cases hb:b = x
 ·subst hb; rw [a0d] at q; cases q; exact new
 ·rw [a0n hb] at q
  by_cases hbe:b = e
  ·have q':H b = some (.own x):=by
    rcases he with z | z
    ·exact absurd (hbe.trans z) hb
    ·rw [hbe]; exact z
   rw [q] at q'; cases q'
   obtain ⟨v,hv⟩:=heo
   exact ⟨v,by rw [hbe]; exact hv⟩
  ·refine (ok b u q).stay (fun c v hc r=>k c v ?_ r) (fun c r=>by rw [a0n (nown c b r)]; exact r) fun c xs r=>by rw [a0n (ntup c xs r)]; exact r
   rcases hc with rfl | hc
   ·exact hbe
   ·rintro rfl
    rcases he with z | z
    ·exact nown c b hc z
    ·rw [hc] at z; cases z; exact hb rfl
end
structure Un (fs ex:List Addr) (H H':Hp) (h h':Heap):Prop where
 keep:∀ b o,h.get? b = some o->H b = none->b ∉ fs->b ∉ ex->h'.get? b = some o
 slot:∀ b o,h.get? b = some o->H b = none->b ∈ fs->b ∉ ex->∃ sl,h'.get? b = some { o with slots:=sl }
 free:∀ b o,h.get? b = some o->H b = none->b ∉ ex->H' b = none
 there:∀ b o,h.get? b = some o->b ∉ ex->∃ o',h'.get? b = some o'
 tups:∀ b xs,H b = some (.tup xs)->H' b = some (.tup xs)
 frzs:∀ b o u,H b = some (.frz o u)->H' b = some (.frz o u)
 tbls:∀ b ps,H b = some (.tbl ps)->∃ more,H' b = some (.tbl (ps ++ more))
section
variable {fs fs' ex ex':List Addr} {H H1 H2:Hp} {h h1 h2 h':Heap} {a x e:Addr} {o:HO}
theorem Un.any (u:Un fs ex H H1 h h1) {b:Addr} {ob:Obj} (q:h.get? b = some ob) (n:H b = none) (hx:b ∉ ex):∃ sl,h1.get? b = some { ob with slots:=sl }:=by
 by_cases hb:b ∈ fs
 ·exact u.slot b ob q n hb hx
 ·exact ⟨ob.slots,u.keep b ob q n hb hx⟩
theorem Un.kept (k:∀ b u,h.get? b = some u->h'.get? b = some u):Un fs ex H H h h':=
 ⟨fun b ob q _ _ _=>k b ob q,fun b ob q _ _ _=>⟨ob.slots,k b ob q⟩,fun _ _ _ n _=>n,fun b ob q _=>⟨ob,k b ob q⟩,fun _ _ q=>q,fun _ _ _ q=>q,fun _ ps q=>⟨#[],by rw [q]; simp⟩⟩
theorem Un.refl:Un fs ex H H h h:=Un.kept fun _ _ q=>q
theorem Un.laid (k:∀ b u,h.get? b = some u->h'.get? b = some u) (hp:h.objs.size<=a) (hn:H a = none):Un fs ex H (upd H a o) h h' where
 keep:=fun b u q _ _ _=>k b u q
 slot:=fun b u q _ _ _=>⟨u.slots,k b u q⟩
 free:=fun b u q n _=>by rw [a0n (Nat.ne_of_lt (Nat.lt_of_lt_of_le (Heap.lt_size q) hp))]; exact n
 there:=fun b u q _=>⟨u,k b u q⟩
 tups:=fun b xs q=>by rw [a0n (a2n q hn)]; exact q
 frzs:=fun b u xs q=>by rw [a0n (a2n q hn)]; exact q
 tbls:=fun b ps q=>⟨#[],by rw [a0n (a2n q hn),q]; simp⟩
theorem Un.write (mu:Mut (H x)) (he:e = x\/H e = some (.own x)) (k:∀ b u,b ≠ e->h.get? b = some u->h'.get? b = some u) (heo:∃ u,h'.get? e = some u):Un fs ex H (upd H x o) h h':=by
 have hx:∀ b,H b = none->b ≠ x:=fun b n z=>by subst z; rw [n] at mu; exact mu
 have hb:∀ b,H b = none->b ≠ e:=fun b n z=>by
  subst z
  rcases he with r | r
  ·exact hx b n r
  ·rw [n] at r; cases r
 have hm:∀ b u,H b = some u->¬ Mut (some u)->b ≠ x:=fun b u q nm z=>by subst z; rw [q] at mu; exact nm mu
 refine ⟨fun b u q n _ _=>k b u (hb b n) q,fun b u q n _ _=>⟨u.slots,k b u (hb b n) q⟩,fun b u q n _=>by rw [a0n (hx b n)]; exact n,fun b u q _=>?_,
  fun b xs q=>by rw [a0n (hm b _ q fun z=>z)]; exact q,fun b u xs q=>by rw [a0n (hm b _ q fun z=>z)]; exact q,fun b ps q=>⟨#[],by rw [a0n (hm b _ q fun z=>z),q]; simp⟩⟩
 by_cases hbe:b = e
 ·subst hbe; exact heo
 ·exact ⟨u,k b u hbe q⟩
end
noncomputable def trk (h:Heap) (H:Hp):List Addr:=(List.range h.objs.size).filter fun a=>(H a).isSome
noncomputable def hidT (h:Heap) (H:Hp):Heap:=W.hideAll h (trk h H)
theorem c4h (h:Heap) (H:Hp):(hidT h H).objs.size = h.objs.size:=W.hideAll_size _ _
theorem c7q {h:Heap} {H:Hp} {b:Addr} {o:Obj} (e:h.get? b = some o) (n:H b = none):(hidT h H).get? b = some o:=
 W.hideAll_get _ e fun hm=>by
  have q:(H b).isSome = true:=(List.mem_filter.mp hm).2
  rw [n] at q; simp at q
theorem of_hidT {h:Heap} {H:Hp} {b:Addr} {o:Obj} (e:(hidT h H).get? b = some o):h.get? b = some o/\H b = none:=by
 have e':h.get? b = some o:=W.of_hideAll (trk h H) e
 refine ⟨e',?_⟩
 cases q:H b with
 | none=>rfl
 | some x=>
  have hm:b ∈ trk h H:=List.mem_filter.mpr ⟨List.mem_range.mpr (Heap.lt_size e'),by simp [q]⟩
  have z:(hidT h H).get? b = none:=W.hideAll_none (trk h H) hm
  rw [z] at e; cases e
noncomputable def allNews (g h:Heap) (L:Addr):List (Addr × Obj):=(List.range h.objs.size).filterMap fun a=>if a = L\/(g.get? a).isSome = true then none else (h.get? a).map fun o=>(a,o)
noncomputable def rest (g h:Heap) (L d:Addr):List (Addr × Obj):=(allNews g h L).filter fun p=>decide (p.1 ≠ d)
structure Mod (K:W.Frag) (mg:Str->Option Value) (base:Heap):Prop where
 kin:K.In base
 glob:base.Ns mainGlobals mg
 blt:∃ mb,base.Ns builtinsNs mb/\∀ x:Str,x ≠ "__name__"->mb x = bootBuiltins x
 nolimit:base.NoLimit
structure Cx where
 prog:Program
 w:World
 K:W.Frag
 mg:Str->Option Value
 base:Heap
 A:Around
 N:List Str
 s₀:Shared
 H₀:Hp
 env:Env
 outer:List Env
 stack:List Env
 ex:List Addr
 fn:Str->Bool
 calm:Bool
 pn:List (Addr × Obj)
 xe:Value->Shared->Prop
noncomputable def frs (l:List Env):List Addr:=l.filterMap (·.frame)
noncomputable abbrev Cx.fs (X:Cx):List Addr:=frs X.outer
noncomputable def Vis (sc:Scope) (x:Str):Prop:=sc.names.lookup x = some .local\/sc.names.lookup x = some .cell\/sc.names.lookup x = some .free
noncomputable def Loc (sc:Scope) (x:Str):Prop:=sc.names.lookup x = some .local\/sc.names.lookup x = some .cell
noncomputable def Look (env:Env) (h:Heap) (m:Str->Option Value) (x:Str) (u:Value):Prop:=
 (env.kindOf x = some .local/\m x = some u)\/((env.kindOf x = some .cell\/env.kindOf x = some .free)/\∃ c,env.cells.lookup x = some c/\h.IsCell c (some u))
structure Cx.Ok (X:Cx):Prop where
 mod:Mod X.K X.mg X.base
 kind:X.env.scope.kind = .function
 glob:X.env.globals = mainGlobals
 blt:X.env.builtins = builtinsNs
 above:X.s₀.heap.objs.size<=X.env.locals
 inj:∀ x y c,X.env.cells.lookup x = some c->X.env.cells.lookup y = some c->x = y
 has:∀ x,(X.env.kindOf x = some .cell\/X.env.kindOf x = some .free)->∃ c,X.env.cells.lookup x = some c
 cab:∀ x c,X.fn x = true->X.env.cells.lookup x = some c->X.s₀.heap.objs.size<=c
 hd:X.calm = true->X.A.handled = none
 frames:X.A.frames = some X.stack
 stk:X.stack = X.outer\/(X.stack = X.env :: X.outer/\X.env.frame = some X.env.locals)
 exf:∀ b ∈ X.ex,b ≠ X.env.locals/\∀ x c,X.env.cells.lookup x = some c->c ≠ b
 bs:∀ b o,X.base.get? b = some o->X.s₀.heap.get? b = some o/\X.H₀ b = none
 bsz:X.base.objs.size<=X.s₀.heap.objs.size
 noex:∀ b o,X.base.get? b = some o->b ∉ X.ex
 exfs:∀ b ∈ X.ex,b ∉ X.fs
 funs:X.s₀.heap.FunFrames X.base X.outer
 frf:∀ b ∈ X.fs,X.H₀ b = none
structure Inv (X:Cx) (pins:List (Addr × Obj)) (σ:List (Option V)) (H:Hp) (s:Shared):Prop where
 ok:X.Ok
 os:s.os = X.s₀.os
 bare:AllBare s.gens
 base:Un X.fs X.ex X.H₀ H X.s₀.heap s.heap
 loc:∃ m,s.heap.Ns X.env.locals m/\∀ (i:Nat) (x:Str) (v:V),X.N[i]? = some x->σ[i]? = some (some v)->Vis X.env.scope x->∃ u,RelV v u/\Look X.env s.heap m x u
 cell:∀ x c,X.env.cells.lookup x = some c->∃ v,s.heap.IsCell c v
 free:H X.env.locals = none
 freeC:∀ x c,X.env.cells.lookup x = some c->H c = none
 pin:∀ p ∈ X.pn ++ pins,s.heap.get? p.1 = some p.2/\H p.1 = none/\p.1 ≠ X.env.locals/\p.1 ∉ X.fs/\∀ v,p.2.data ≠ .cell v
 hok:HOk X.prog X.w H s.heap
 len:σ.length = X.N.length
section
variable {X:Cx} {pins:List (Addr × Obj)} {σ:List (Option V)} {H H':Hp} {s:Shared} {h':Heap}
theorem Cx.Ok.nofr (ok:X.Ok) {b:Addr} {o:Obj} (e:X.base.get? b = some o):b ∉ X.fs:=fun hb=>by
 have:=(ok.funs.mem hb).1
 rw [e] at this; cases this
theorem Inv.bs (I:Inv X pins σ H s):∀ b o,X.base.get? b = some o->s.heap.get? b = some o/\H b = none:=fun b o e=>
 ⟨I.base.keep b o (I.ok.bs b o e).1 (I.ok.bs b o e).2 (I.ok.nofr e) (I.ok.noex b o e),I.base.free b o (I.ok.bs b o e).1 (I.ok.bs b o e).2 (I.ok.noex b o e)⟩
theorem Inv.bk (I:Inv X pins σ H s):∀ b o,X.base.get? b = some o->s.heap.get? b = some o:=fun b o e=>(I.bs b o e).1
theorem Inv.mod (I:Inv X pins σ H s):Mod X.K X.mg X.base:=I.ok.mod
theorem Inv.kIn (I:Inv X pins σ H s):X.K.In s.heap:=I.ok.mod.kin.keeps I.bk
theorem Inv.lt (I:Inv X pins σ H s):X.env.locals < s.heap.objs.size:=let ⟨_,hn,_⟩:=I.loc; hn.lt
theorem Inv.sz (I:Inv X pins σ H s):X.s₀.heap.objs.size<=s.heap.objs.size:=Nat.le_trans I.ok.above (Nat.le_of_lt I.lt)
theorem Inv.nofs (I:Inv X pins σ H s) {a:Addr} (h:s.heap.objs.size<=a):a ∉ X.fs:=fun hb=>by
 obtain ⟨_,o,ho,_⟩:=I.ok.funs.mem hb
 exact absurd (Nat.lt_of_lt_of_le (Heap.lt_size ho) (Nat.le_trans I.sz h)) (Nat.lt_irrefl _)
theorem Inv.cne (I:Inv X pins σ H s):∀ x c,X.env.cells.lookup x = some c->c ≠ X.env.locals:=fun x c e z=>by
 obtain ⟨v,o,ho,hd⟩:=I.cell x c e
 obtain ⟨m,⟨o',es,ep,ho',hd',_⟩,_⟩:=I.loc
 rw [z,ho'] at ho; cases ho; rw [hd'] at hd; cases hd
theorem Inv.funs (I:Inv X pins σ H s):s.heap.FunFrames X.base X.outer:=by
 have all:∀ (l:List Env),(∀ b ∈ frs l,b ∈ X.fs)->X.s₀.heap.FunFrames X.base l->s.heap.FunFrames X.base l:=by
  intro l
  induction l with
  | nil=>intro _ _; trivial
  | cons env r ih=>
   intro hs hl
   obtain ⟨hk,⟨L,o,hf,hn,ho,hd⟩,hr⟩:=hl
   have hL:L ∈ X.fs:=hs L (by unfold frs; rw [List.filterMap_cons,hf]; exact List.mem_cons_self)
   obtain ⟨sl,e⟩:=I.base.slot L o ho (I.ok.frf L hL) hL fun z=>I.ok.exfs L z hL
   exact ⟨hk,⟨L,_,hf,hn,e,hd⟩,ih (fun b hb=>hs b (by unfold frs; rw [List.filterMap_cons,hf]; exact List.mem_cons_of_mem _ hb)) hr⟩
 exact all X.outer (fun _ hb=>hb) I.ok.funs
theorem Inv.stack (I:Inv X pins σ H s):s.heap.FunFrames X.base X.stack:=by
 rcases I.ok.stk with e | ⟨e,hf⟩
 ·rw [e]; exact I.funs
 ·rw [e]
  obtain ⟨m,hn,_⟩:=I.loc
  refine .cons (by rw [I.ok.kind]; decide) hf hn ?_ I.funs
  exact Heap.get?_none_of_le (Nat.le_trans I.ok.bsz I.ok.above)
theorem Inv.stkSub (I:Inv X pins σ H s):∀ b ∈ frs X.stack,b ∈ X.env.locals :: X.fs:=fun b hb=>by
 rcases I.ok.stk with e | ⟨e,hf⟩
 ·rw [e] at hb; exact List.mem_cons_of_mem _ hb
 ·rw [e] at hb
  unfold frs at hb
  rw [List.filterMap_cons,hf] at hb
  exact hb
theorem Inv.stkFree (I:Inv X pins σ H s):∀ b ∈ frs X.stack,H b = none:=fun b hb=>by
 rcases List.mem_cons.mp (I.stkSub b hb) with e | hb
 ·rw [e]; exact I.free
 ·obtain ⟨_,o,ho,_⟩:=I.ok.funs.mem hb
  exact I.base.free b o ho (I.ok.frf b hb) fun z=>I.ok.exfs b z hb
theorem Inv.step {g':Array GenState} {t':Nat} {d':Drawn} {ch:List Addr} (I:Inv X pins σ H s)
  (hch:∀ b ∈ ch,(b ∈ X.ex\/X.s₀.heap.objs.size<=b)/\b ≠ X.env.locals/\(∀ x c,X.env.cells.lookup x = some c->c ≠ b)/\∀ p ∈ X.pn ++ pins,p.1 ≠ b)
  (keep:∀ b o,b ≠ X.env.locals->b ∉ X.fs->b ∉ ch->s.heap.get? b = some o->H b = none->h'.get? b = some o)
  (slot:∀ b o,b ≠ X.env.locals->b ∈ X.fs->b ∉ ch->s.heap.get? b = some o->H b = none->∃ sl,h'.get? b = some { o with slots:=sl }) (free:∀ b o,b ∉ ch->s.heap.get? b = some o->H b = none->H' b = none)
  (there:∀ b o,b ∉ ch->s.heap.get? b = some o->∃ o',h'.get? b = some o')
  (tups:∀ b xs,H b = some (.tup xs)->H' b = some (.tup xs)) (frzs:∀ b o u,H b = some (.frz o u)->H' b = some (.frz o u)) (tbls:∀ b ps,H b = some (.tbl ps)->∃ more,H' b = some (.tbl (ps ++ more)))
  (ns:∀ m,s.heap.Ns X.env.locals m->h'.Ns X.env.locals m) (hok:HOk X.prog X.w H' h') (hg:AllBare g') :
  Inv X pins σ H' { s with heap:=h',gens:=g',drawn:=d',toks:=t' }:=by
 have neL:∀ b o,X.s₀.heap.get? b = some o->b ≠ X.env.locals:=fun b o e=>Nat.ne_of_lt (Nat.lt_of_lt_of_le (Heap.lt_size e) I.ok.above)
 have neC:∀ b o,X.s₀.heap.get? b = some o->b ∉ X.ex->b ∉ ch:=fun b o e hx hb=>by
  rcases (hch b hb).1 with z | z
  ·exact hx z
  ·exact absurd (Nat.lt_of_lt_of_le (Heap.lt_size e) z) (Nat.lt_irrefl _)
 have cellK:∀ x c,X.env.cells.lookup x = some c->∀ v,s.heap.IsCell c v->h'.IsCell c v:=fun x c e v ⟨o,ho,hd⟩=>by
  have nch:c ∉ ch:=fun z=>(hch c z).2.2.1 x c e rfl
  by_cases hc:c ∈ X.fs
  ·obtain ⟨sl,q⟩:=slot c o (I.cne x c e) hc nch ho (I.freeC x c e)
   exact ⟨_,q,hd⟩
  ·exact ⟨o,keep c o (I.cne x c e) hc nch ho (I.freeC x c e),hd⟩
 refine ⟨I.ok,I.os,hg,⟨fun b o e n hb hx=>?_,fun b o e n hb hx=>?_,fun b o e n hx=>?_,fun b o e hx=>?_,fun b xs e=>tups b xs (I.base.tups b xs e),fun b o xs e=>frzs b o xs (I.base.frzs b o xs e),fun b ps e=>?_⟩,?_,fun x c e=>?_,?_,fun x c e=>?_,fun p hp=>?_,hok,I.len⟩
 ·exact keep b o (neL b o e) hb (neC b o e hx) (I.base.keep b o e n hb hx) (I.base.free b o e n hx)
 ·obtain ⟨sl,e1⟩:=I.base.slot b o e n hb hx
  obtain ⟨sl',e2⟩:=slot b _ (neL b o e) hb (neC b o e hx) e1 (I.base.free b o e n hx)
  exact ⟨sl',e2⟩
 ·obtain ⟨o',e1⟩:=I.base.there b o e hx
  exact free b o' (neC b o e hx) e1 (I.base.free b o e n hx)
 ·obtain ⟨o',e1⟩:=I.base.there b o e hx
  exact there b o' (neC b o e hx) e1
 ·obtain ⟨m1,e1⟩:=I.base.tbls b ps e
  obtain ⟨m2,e2⟩:=tbls b _ e1
  exact ⟨m1 ++ m2,by rw [e2,Array.append_assoc]⟩
 ·obtain ⟨m,hn,hl⟩:=I.loc
  refine ⟨m,ns m hn,fun i x v e1 e2 e3=>?_⟩
  obtain ⟨u,r,l⟩:=hl i x v e1 e2 e3
  refine ⟨u,r,?_⟩
  rcases l with l | ⟨k,c,e,z⟩
  ·exact .inl l
  ·exact .inr ⟨k,c,e,cellK x c e _ z⟩
 ·obtain ⟨v,z⟩:=I.cell x c e
  exact ⟨v,cellK x c e v z⟩
 ·obtain ⟨m,⟨o,_,_,ho,_⟩,_⟩:=I.loc
  exact free _ o (fun z=>(hch _ z).2.1 rfl) ho I.free
 ·obtain ⟨v,o,ho,hd⟩:=I.cell x c e
  exact free c o (fun z=>(hch c z).2.2.1 x c e rfl) ho (I.freeC x c e)
 ·obtain ⟨e,n,ne,nf,d⟩:=I.pin p hp
  have nch:p.1 ∉ ch:=fun z=>(hch p.1 z).2.2.2 p hp rfl
  exact ⟨keep p.1 p.2 ne nf nch e n,free p.1 p.2 nch e n,ne,nf,d⟩
theorem Inv.un {t':Nat} (I:Inv X pins σ H s) (u:Un X.fs [] H H' s.heap h') (hok:HOk X.prog X.w H' h'):Inv X pins σ H' { s with heap:=h',toks:=t' }:=by
 obtain ⟨m,⟨o,es,ep,ho,r⟩,_⟩:=id I.loc
 obtain ⟨sl,hL⟩:=u.any ho I.free (by simp)
 exact I.step (g':=s.gens) (d':=s.drawn) (ch:=[]) (fun _ z=>nomatch z) (fun b o _ hb _ e n=>u.keep b o e n hb (by simp)) (fun b o _ hb _ e n=>u.slot b o e n hb (by simp)) (fun b o _ e n=>u.free b o e n (by simp)) (fun b o _ e=>u.there b o e (by simp)) u.tups u.frzs u.tbls (fun m' hm=>by
  obtain ⟨o',es',ep',ho',r'⟩:=hm
  rw [ho] at ho'; cases ho'
  exact ⟨_,es',ep',hL,r'⟩) hok I.bare
theorem Inv.call {g':Array GenState} {t':Nat} {d':Drawn} {ch:List Addr} (I:Inv X pins σ H s) (u:Un (frs X.stack) ch H H' s.heap h') (hok:HOk X.prog X.w H' h') (hg:AllBare g')
  (hch:∀ b ∈ ch,(b ∈ X.ex\/X.s₀.heap.objs.size<=b)/\b ≠ X.env.locals/\(∀ x c,X.env.cells.lookup x = some c->c ≠ b)/\∀ p ∈ X.pn ++ pins,p.1 ≠ b) :
  Inv X pins σ H' { s with heap:=h',gens:=g',drawn:=d',toks:=t' }:=by
 obtain ⟨m,⟨o,es,ep,ho,r⟩,_⟩:=id I.loc
 obtain ⟨sl,hL⟩:=u.any ho I.free fun z=>(hch _ z).2.1 rfl
 exact I.step (ch:=ch) hch (fun b o hL hb hc e n=>u.keep b o e n (fun z=>(List.mem_cons.mp (I.stkSub b z)).elim hL hb) hc) (fun b o _ _ hc e n=>u.any e n hc) (fun b o hc e n=>u.free b o e n hc) (fun b o hc e=>u.there b o e hc) u.tups u.frzs u.tbls (fun m' hm=>by
  obtain ⟨o',es',ep',ho',r'⟩:=hm
  rw [ho] at ho'; cases ho'
  exact ⟨_,es',ep',hL,r'⟩) hok hg
theorem Inv.turned {t':Nat} {it:Addr} (I:Inv X pins σ H s) (k:∀ b o,b ≠ it->s.heap.get? b = some o->h'.get? b = some o) (hn:H it = none) (hL:it ≠ X.env.locals)
  (h1:it ∈ X.ex\/X.s₀.heap.objs.size<=it) (h2:∀ x c,X.env.cells.lookup x = some c->c ≠ it) (h3:∀ p ∈ X.pn ++ pins,p.1 ≠ it):Inv X pins σ H { s with heap:=h',toks:=t' }:=by
 have nit:∀ b u,H b = some u->b ≠ it:=fun b u e z=>by rw [z,hn] at e; cases e
 refine I.step (g':=s.gens) (d':=s.drawn) (ch:=[it]) (fun b hb=>?_) (fun b o _ _ hc e _=>k b o (fun z=>hc (by simp [z])) e) (fun b o _ _ hc e _=>⟨o.slots,k b o (fun z=>hc (by simp [z])) e⟩) (fun _ _ _ _ n=>n)
  (fun b o hc e=>⟨o,k b o (fun z=>hc (by simp [z])) e⟩) (fun _ _ e=>e) (fun _ _ _ e=>e) (fun b ps e=>⟨#[],by rw [e]; simp⟩) (fun m hm=>?_) (fun b u e=>?_) I.bare
 ·have e:b = it:=by simpa using hb
  subst e
  exact ⟨h1,hL,h2,h3⟩
 ·obtain ⟨o,es,ep,ho,r⟩:=hm
  exact ⟨o,es,ep,k _ o (Ne.symm hL) ho,r⟩
 ·refine (I.hok b u e).stay (fun c v hc q=>k c v ?_ q) (fun _ q=>q) fun _ _ q=>q
  rcases hc with z | z
  ·rw [z]; exact nit b u e
  ·exact nit c _ z
theorem Inv.tok (I:Inv X pins σ H s) (t:Nat):Inv X pins σ H { s with toks:=t }:=I.un (h':=s.heap) (t':=t) Un.refl I.hok
theorem Inv.kept {t':Nat} (I:Inv X pins σ H s) (k:∀ b u,s.heap.get? b = some u->h'.get? b = some u):Inv X pins σ H { s with heap:=h',toks:=t' }:=I.un (Un.kept k) (I.hok.kept k)
theorem Inv.laid {a:Addr} {o:HO} {t':Nat} (I:Inv X pins σ H s) (k:∀ b u,s.heap.get? b = some u->h'.get? b = some u) (hp:s.heap.objs.size<=a) (new:a2e X.prog X.w (upd H a o) h' a o) :
  Inv X pins σ (upd H a o) { s with heap:=h',toks:=t' }:=I.un (Un.laid k hp (I.hok.fresh hp)) (I.hok.laid k hp new)
theorem Inv.write {x e:Addr} {o:HO} {t':Nat} (I:Inv X pins σ H s) (mu:Mut (H x)) (he:e = x\/H e = some (.own x)) (k:∀ b u,b ≠ e->s.heap.get? b = some u->h'.get? b = some u) (heo:∃ u,h'.get? e = some u)
  (new:a2e X.prog X.w (upd H x o) h' x o):Inv X pins σ (upd H x o) { s with heap:=h',toks:=t' }:=I.un (Un.write mu he k heo) (I.hok.write mu he k heo new)
theorem Inv.pins_of {pins':List (Addr × Obj)} (I:Inv X pins σ H s) (h:∀ p ∈ pins',s.heap.get? p.1 = some p.2/\H p.1 = none/\p.1 ≠ X.env.locals/\p.1 ∉ X.fs/\∀ v,p.2.data ≠ .cell v):Inv X pins' σ H s:=
 ⟨I.ok,I.os,I.bare,I.base,I.loc,I.cell,I.free,I.freeC,fun p hp=>(List.mem_append.mp hp).elim (fun z=>I.pin p (List.mem_append_left _ z)) (h p),I.hok,I.len⟩
theorem b9d {N:List Str} (hN:N.Nodup) {i j:Nat} {x:Str} (a:N[i]? = some x) (b:N[j]? = some x):i = j:=by
 obtain ⟨h1,e1⟩:=List.getElem?_eq_some_iff.mp a
 obtain ⟨h2,e2⟩:=List.getElem?_eq_some_iff.mp b
 exact (List.getElem_inj hN).mp (e1.trans e2.symm)
theorem b7g {M:Model} {A:Around} {E:Value->Shared->Prop} {i:Nat} {x:Str} {v:V} {u:Value} {Q:Unit->Shared->Prop} (I:Inv X pins σ H s) (hN:X.N.Nodup) (hi:X.N[i]? = some x) (hx:Loc X.env.scope x) (r:RelV v u)
  (h:∀ s',Inv X pins (σ.set i (some v)) H s'->(∃ a,Heap.SameBut a s.heap s'.heap/\(a = X.env.locals\/X.env.cells.lookup x = some a))->Q () s') (hf:X.fn x = true\/X.env.scope.names.lookup x = some .local:=by first | exact .inl rfl | exact .inr rfl | assumption):wpAny M A (storeName X.env x u) Q E s:=by
 obtain ⟨m,hn,hl⟩:=id I.loc
 have hcls:(X.env.scope.kind == .class || (X.env.scope.kind == .module && X.env.locals != X.env.globals)) = false:=by rw [I.ok.kind]; rfl
 have hiσ:i < σ.length:=by rw [I.len]; exact (List.getElem?_eq_some_iff.mp hi).1
 have cne:=I.cne
 have tracked:∀ {a:Addr} {h':Heap},(∃ o,s.heap.get? a = some o/\H a = none)->Heap.SameBut a s.heap h'->HOk X.prog X.w H h':=fun {a h'} ha hs b ob e=>by
  obtain ⟨_,_,hfree⟩:=ha
  refine (I.hok b ob e).stay (fun c w' hc q=>(hs.2 c ?_).trans q) (fun _ q=>q) fun _ _ q=>q
  rintro rfl
  rcases hc with rfl | hc
  ·rw [hfree] at e; cases e
  ·rw [hfree] at hc; cases hc
 rcases hx with hk | hk
 ·refine wpAny_storeName_local hk hn (fun h' hn' hs=>?_) hcls
  obtain ⟨oL,_,_,hoL,_⟩:=id hn
  refine h _ ⟨I.ok,I.os,I.bare,⟨fun b o e n hb hx=>?_,fun b o e n hb hx=>?_,I.base.free,fun b o e hx=>?_,I.base.tups,I.base.frzs,I.base.tbls⟩,⟨_,hn',fun j y v' e1 e2 e3=>?_⟩,fun y c e=>?_,I.free,I.freeC,fun p hp=>?_,tracked ⟨oL,hoL,I.free⟩ hs,by simpa using I.len⟩ ⟨_,hs,.inl rfl⟩
  ·exact (hs.2 b (Nat.ne_of_lt (Nat.lt_of_lt_of_le (Heap.lt_size e) I.ok.above))).trans (I.base.keep b o e n hb hx)
  ·obtain ⟨sl,e1⟩:=I.base.slot b o e n hb hx
   exact ⟨sl,(hs.2 b (Nat.ne_of_lt (Nat.lt_of_lt_of_le (Heap.lt_size e) I.ok.above))).trans e1⟩
  ·obtain ⟨o',e1⟩:=I.base.there b o e hx
   exact ⟨o',(hs.2 b (Nat.ne_of_lt (Nat.lt_of_lt_of_le (Heap.lt_size e) I.ok.above))).trans e1⟩
  ·by_cases hj:j = i
   ·subst hj
    rw [hi] at e1; cases e1
    rw [List.getElem?_set_self hiσ] at e2
    cases e2
    exact ⟨u,r,.inl ⟨hk,by simp⟩⟩
   ·rw [List.getElem?_set_ne (Ne.symm hj)] at e2
    obtain ⟨u',r',q⟩:=hl j y v' e1 e2 e3
    refine ⟨u',r',?_⟩
    rcases q with ⟨k,e⟩ | ⟨k,c,e,z⟩
    ·refine .inl ⟨k,?_⟩
     have:y ≠ x:=fun e=>hj (b9d hN e1 (e ▸ hi))
     simp [this,e]
    ·exact .inr ⟨k,c,e,z.sameBut hs (cne y c e)⟩
  ·obtain ⟨w',z⟩:=I.cell y c e
   exact ⟨w',z.sameBut hs (cne y c e)⟩
  ·obtain ⟨e,n,ne,nf,d⟩:=I.pin p hp
   exact ⟨(hs.2 p.1 ne).trans e,n,ne,nf,d⟩
 ·have hfn:X.fn x = true:=by
   rcases hf with z | z
   ·exact z
   ·rw [z] at hk; cases hk
  obtain ⟨c,hc⟩:=I.ok.has x (.inl hk)
  obtain ⟨w',z⟩:=I.cell x c hc
  refine wpAny_storeName_cell I.ok.kind hk hc z (fun h' hc' hs=>?_)
  obtain ⟨oc,hoc,hocd⟩:=id z
  refine h { s with heap:=h' } ⟨I.ok,I.os,I.bare,⟨fun b o e n hb hx=>?_,fun b o e n hb hx=>?_,I.base.free,fun b o e hx=>?_,I.base.tups,I.base.frzs,I.base.tbls⟩,⟨m,hn.sameBut hs (Ne.symm (cne x c hc)),fun j y v' e1 e2 e3=>?_⟩,fun y c' e=>?_,I.free,I.freeC,fun p hp=>?_,tracked ⟨oc,hoc,I.freeC x c hc⟩ hs,by simpa using I.len⟩ ⟨c,hs,.inr hc⟩
  ·exact (hs.2 b (Nat.ne_of_lt (Nat.lt_of_lt_of_le (Heap.lt_size e) (I.ok.cab x c hfn hc)))).trans (I.base.keep b o e n hb hx)
  ·obtain ⟨sl,e1⟩:=I.base.slot b o e n hb hx
   exact ⟨sl,(hs.2 b (Nat.ne_of_lt (Nat.lt_of_lt_of_le (Heap.lt_size e) (I.ok.cab x c hfn hc)))).trans e1⟩
  ·obtain ⟨o',e1⟩:=I.base.there b o e hx
   exact ⟨o',(hs.2 b (Nat.ne_of_lt (Nat.lt_of_lt_of_le (Heap.lt_size e) (I.ok.cab x c hfn hc)))).trans e1⟩
  ·by_cases hj:j = i
   ·subst hj
    rw [hi] at e1; cases e1
    rw [List.getElem?_set_self hiσ] at e2
    cases e2
    exact ⟨u,r,.inr ⟨.inl hk,c,hc,hc'⟩⟩
   ·rw [List.getElem?_set_ne (Ne.symm hj)] at e2
    obtain ⟨u',r',q⟩:=hl j y v' e1 e2 e3
    refine ⟨u',r',?_⟩
    rcases q with q | ⟨k,c',e,z'⟩
    ·exact .inl q
    ·refine .inr ⟨k,c',e,z'.sameBut hs ?_⟩
     rintro rfl
     exact hj (b9d hN e1 (I.ok.inj _ _ _ e hc ▸ hi))
  ·by_cases hcc:c' = c
   ·subst hcc; exact ⟨_,hc'⟩
   ·obtain ⟨w2,z2⟩:=I.cell y c' e
    exact ⟨w2,z2.sameBut hs hcc⟩
  ·obtain ⟨e,n,ne,nf,d⟩:=I.pin p hp
   refine ⟨(hs.2 p.1 ?_).trans e,n,ne,nf,d⟩
   intro q
   rw [q,hoc] at e
   have q':oc = p.2:=Option.some.inj e
   exact d w' (by rw [<- q']; exact hocd)
theorem b4l {M:Model} {A:Around} {E:Value->Shared->Prop} {i:Nat} {x:Str} {v:V} {u:Value} {Q:Unit->Shared->Prop} (I:Inv X pins σ H s) (hN:X.N.Nodup) (hi:X.N[i]? = some x) (hx:Loc X.env.scope x) (r:RelV v u)
  (h:∀ s',Inv X pins (σ.set i (some v)) H s'->Q () s') (hf:X.fn x = true\/X.env.scope.names.lookup x = some .local:=by first | exact .inl rfl | exact .inr rfl | assumption):wpAny M A (storeName X.env x u) Q E s:=
 b7g I hN hi hx r (fun s' I' _=>h s' I') hf
theorem Inv.call' {s':Shared} {ch:List Addr} (I:Inv X pins σ H s) (ho:s'.os = s.os) (u:Un (frs X.stack) ch H H' s.heap s'.heap) (hok:HOk X.prog X.w H' s'.heap) (hg:AllBare s'.gens)
  (hch:∀ b ∈ ch,(b ∈ X.ex\/X.s₀.heap.objs.size<=b)/\b ≠ X.env.locals/\(∀ x c,X.env.cells.lookup x = some c->c ≠ b)/\∀ p ∈ X.pn ++ pins,p.1 ≠ b):Inv X pins σ H' s':=by
 obtain ⟨h',g',d',t',o'⟩:=s'
 have e:o' = s.os:=ho
 subst e
 exact I.call (g':=g') (t':=t') (d':=d') u hok hg hch
end
noncomputable abbrev XK:=Value->Option Addr->Hp->Prop
noncomputable abbrev St:=List (Option V)
noncomputable abbrev VK:=V->Hp->Prop
noncomputable abbrev TE:=St->Hp->VK->Prop
noncomputable abbrev TT:=St->Hp->(Bool->Hp->Prop)->Prop
noncomputable abbrev TA:=St->Hp->(List V->Hp->Prop)->Prop
structure Ends where
 nx:St->Hp->Prop
 rt:VK
 bk:St->Hp->Prop:=fun _ _=>False
 ct:St->Hp->Prop:=fun _ _=>False
noncomputable abbrev TS:=Ends->St->Hp->Prop
noncomputable def EP (X:Cx) (pins:List (Addr × Obj)) (σ:St) (Q:VK) (u:Value) (s':Shared):Prop:=∃ v H',Inv X pins σ H' s'/\RelV v u/\Q v H'
noncomputable def TP (X:Cx) (pins:List (Addr × Obj)) (σ:St) (Q:Bool->Hp->Prop) (b:Bool) (s':Shared):Prop:=∃ H',Inv X pins σ H' s'/\Q b H'
noncomputable def AP (X:Cx) (pins:List (Addr × Obj)) (σ:St) (Q:List V->Hp->Prop) (us:List Value) (s':Shared):Prop:=∃ vs H',Inv X pins σ H' s'/\Vals vs us/\Q vs H'
noncomputable def SP (X:Cx) (pins:List (Addr × Obj)) (D:Ends) (f:Flow) (s':Shared):Prop:=
 match f with
 | .next=>∃ σ' H',Inv X pins σ' H' s'/\D.nx σ' H'
 | .brk=>∃ σ' H',Inv X pins σ' H' s'/\D.bk σ' H'
 | .cont=>∃ σ' H',Inv X pins σ' H' s'/\D.ct σ' H'
 | .ret u=>∃ v σ' H',Inv X pins σ' H' s'/\RelV v u/\D.rt v H'
noncomputable def PE (X:Cx) (e:Expr) (t:TE):Prop:=
 ∀ (pins:List (Addr × Obj)) (s:Shared) (σ:St) (H:Hp) (Q:VK),Inv X pins σ H s->t σ H Q->wpAny (model X.prog X.w) X.A (eval e X.env) (EP X pins σ Q) X.xe s
noncomputable def PT (X:Cx) (e:Expr) (t:TT):Prop:=
 ∀ (pins:List (Addr × Obj)) (s:Shared) (σ:St) (H:Hp) (Q:Bool->Hp->Prop),Inv X pins σ H s->t σ H Q->wpAny (model X.prog X.w) X.A (isTrue e X.env (eval e X.env)) (TP X pins σ Q) X.xe s
noncomputable def PW (X:Cx) (e:Expr) (t:TT):Prop:=
 ∀ (whole:Sem Value) (pins:List (Addr × Obj)) (s:Shared) (σ:St) (H:Hp) (Q:Bool->Hp->Prop),Inv X pins σ H s->t σ H Q->wpAny (model X.prog X.w) X.A (isTrue e X.env whole) (TP X pins σ Q) X.xe s
theorem PW.pt {X:Cx} {e:Expr} {t:TT} (h:PW X e t):PT X e t:=h _
noncomputable def PA (X:Cx) (es:List Expr) (t:TA):Prop:=
 ∀ (pos:Pos) (pins:List (Addr × Obj)) (s:Shared) (σ:St) (H:Hp) (Q:List V->Hp->Prop),Inv X pins σ H s->t σ H Q->wpAny (model X.prog X.w) X.A (spliced (backTo pos (starEach es X.env))) (AP X pins σ Q) X.xe s
noncomputable def PS (X:Cx) (st:Stmt) (t:TS):Prop:=
 ∀ (pins:List (Addr × Obj)) (s:Shared) (σ:St) (H:Hp) (D:Ends),Inv X pins σ H s->t D σ H->wpAny (model X.prog X.w) X.A (exec st X.env) (SP X pins D) X.xe s
noncomputable def PSs (X:Cx) (st:List Stmt) (t:TS):Prop:=
 ∀ (pins:List (Addr × Obj)) (s:Shared) (σ:St) (H:Hp) (D:Ends),Inv X pins σ H s->t D σ H->wpAny (model X.prog X.w) X.A (execs st X.env) (SP X pins D) X.xe s
theorem thn {α:Type} {t:Sem α} {Q Q':α->Shared->Prop} {M:Model} {A:Around} {E:Value->Shared->Prop} {s:Shared} (h:wpAny M A t Q E s) (hQ:∀ a s,Q a s->Q' a s):wpAny M A t Q' E s:=wpAny_mono h hQ fun _ _ x=>x
section
variable {X:Cx}
noncomputable def tVar (i:Nat):TE:=fun σ H Q=>∃ v,σ[i]? = some (some v)/\Q v H
noncomputable def tC (v:V):TE:=fun _ H Q=>Q v H
theorem pe_var {i:Nat} {x:Str} {pos:Pos} (hN:X.N[i]? = some x) (hv:Vis X.env.scope x) (hd:(x == ("__debug__" : Str)) = false:=by decide) (hcd:(x == ("__classdict__" : Str)) = false:=by decide):PE X (.Name x pos) (tVar i):=by
 intro pins s σ H Q I h
 obtain ⟨v,e,h⟩:=h
 obtain ⟨m,hn,hl⟩:=I.loc
 obtain ⟨u,r,l⟩:=hl i x v hN e hv
 have fin:EP X pins σ Q u s:=⟨v,H,I,r,h⟩
 rcases l with ⟨hk,hm⟩ | ⟨hk,c,hc,hcell⟩
 ·exact wpAny_Name (wpAny_loadName_local I.ok.kind hk hn hm fin) hd
 ·rcases hk with hk | hk
  ·exact wpAny_Name (wpAny_loadName_cell I.ok.kind hk hc hcell fin) hd
  ·exact wpAny_Name (wpAny_loadName_free I.ok.kind hk hc hcell fin hcd) hd
theorem a0b {i j pos}:PE X (.Constant (.int i) j pos) (tC (.int i)):=fun _ _ _ H _ I h=>wpAny_Constant_int ⟨.int i,H,I.tok _,⟨_,rfl⟩,h⟩
theorem a3r {b j pos}:PE X (.Constant (.bool b) j pos) (tC (.bl b)):=fun _ _ _ H _ I h=>Constant_bool ⟨.bl b,H,I,rfl,h⟩
theorem a5x {j pos}:PE X (.Constant .none j pos) (tC .non):=fun _ _ _ H _ I h=>Constant_none ⟨.non,H,I,rfl,h⟩
theorem a0i {x j pos}:PE X (.Constant (.str x) j pos) (tC (.str x)):=fun _ _ _ H _ I h=>Calls.Constant_str ⟨.str x,H,I.tok _,⟨_,rfl⟩,h⟩
noncomputable def Gl (X:Cx) (x:Str):Prop:=X.env.kindOf x = some .globalImplicit
theorem b6r {E:Value->Shared->Prop} {pins:List (Addr × Obj)} {s:Shared} {σ:St} {H:Hp} {x:Str} {u:Value} {pos:Pos} {Q:Value->Shared->Prop} (I:Inv X pins σ H s) (hg:Gl X x) (hm:X.mg x = some u) (h:Q u s)
  (hd:(x == ("__debug__" : Str)) = false:=by decide):wpAny (model X.prog X.w) X.A (eval (.Name x pos) X.env) Q E s:=
 Calls.Name_function_global I.ok.kind hg (Calls.loadGlobal_global (by rw [I.ok.glob]; exact I.mod.glob.keeps I.bk) hm h) hd
theorem a5y {E:Value->Shared->Prop} {pins:List (Addr × Obj)} {s:Shared} {σ:St} {H:Hp} {x:Str} {u:Value} {pos:Pos} {Q:Value->Shared->Prop} (I:Inv X pins σ H s) (hg:Gl X x) (hm:X.mg x = none) (hv:bootBuiltins x = some u) (h:Q u s)
  (hn:x ≠ "__name__":=by decide) (hd:(x == ("__debug__" : Str)) = false:=by decide):wpAny (model X.prog X.w) X.A (eval (.Name x pos) X.env) Q E s:=by
 obtain ⟨mb,h1,h2⟩:=I.mod.blt
 exact Calls.Name_function_global I.ok.kind hg (Calls.loadGlobal_builtin (by rw [I.ok.glob]; exact I.mod.glob.keeps I.bk) hm (by rw [I.ok.blt]; exact h1.keeps I.bk) ((h2 x hn).trans hv) h) hd
theorem b6s {x:Str} {v:V} {u:Value} {pos:Pos} (hg:Gl X x) (hm:X.mg x = some u) (r:RelV v u) (hd:(x == ("__debug__" : Str)) = false:=by decide):PE X (.Name x pos) (tC v):=
 fun _ _ _ H _ I h=>b6r I hg hm ⟨v,H,I,r,h⟩ hd
theorem pe_bltn {x:Str} {v:V} {u:Value} {pos:Pos} (hg:Gl X x) (hm:X.mg x = none) (hv:bootBuiltins x = some u) (r:RelV v u) (hn:x ≠ "__name__":=by decide) (hd:(x == ("__debug__" : Str)) = false:=by decide):PE X (.Name x pos) (tC v):=
 fun _ _ _ H _ I h=>a5y I hg hm hv ⟨v,H,I,r,h⟩ hn hd
variable {a b:Expr} {ta tb:TE} {pos:Pos}
variable {tA tB':TT} {rest:List Expr}
noncomputable def tAnd (t u:TT):TT:=fun σ H Q=>t σ H fun c H1=>if c = true then u σ H1 Q else Q false H1
noncomputable def tOr (t u:TT):TT:=fun σ H Q=>t σ H fun c H1=>if c = true then Q true H1 else u σ H1 Q
noncomputable def tNot (t:TT):TT:=fun σ H Q=>t σ H fun c H1=>Q (!c) H1
theorem a8n (ha:PT X a tA):PW X (.BoolOp .And [a] pos) tA:=by
 intro wh pins s σ H Q I h
 refine isTrue_and (thn (ha pins s σ H Q I h) fun c s1 e=>?_)
 cases c with
 | true=>exact isTrue_and_nil e
 | false=>exact e
theorem a4m (ha:PT X a tA):PW X (.BoolOp .Or [a] pos) tA:=by
 intro wh pins s σ H Q I h
 refine isTrue_or (thn (ha pins s σ H Q I h) fun c s1 e=>?_)
 cases c with
 | false=>exact isTrue_or_nil e
 | true=>exact e
theorem b0c (ha:PT X a tA) (hb:PW X (.BoolOp .And (b :: rest) pos) tB'):PW X (.BoolOp .And (a :: b :: rest) pos) (tAnd tA tB'):=by
 intro wh pins s σ H Q I h
 refine isTrue_and (thn (ha pins s σ H _ I h) fun c s1 ⟨H1,I1,q1⟩=>?_)
 cases c with
 | true=>exact hb wh pins s1 σ H1 Q I1 q1
 | false=>exact ⟨H1,I1,q1⟩
theorem a2v (ha:PT X a tA) (hb:PW X (.BoolOp .Or (b :: rest) pos) tB'):PW X (.BoolOp .Or (a :: b :: rest) pos) (tOr tA tB'):=by
 intro wh pins s σ H Q I h
 refine isTrue_or (thn (ha pins s σ H _ I h) fun c s1 ⟨H1,I1,q1⟩=>?_)
 cases c with
 | true=>exact ⟨H1,I1,q1⟩
 | false=>exact hb wh pins s1 σ H1 Q I1 q1
theorem a2w (ha:PT X a tA):PT X (.UnaryOp .Not a pos) (tNot tA):=by
 intro pins s σ H Q I h
 exact isTrue_not (ha pins s σ H (fun c H1=>Q (!c) H1) I h)
noncomputable def tAndV (ta tb:TE):TE:=fun σ H Q=>ta σ H fun x H1=>∃ c,x = .bl c/\if c = true then tb σ H1 Q else Q (.bl false) H1
noncomputable def tOrV (ta tb:TE):TE:=fun σ H Q=>ta σ H fun x H1=>∃ c,x = .bl c/\if c = true then Q (.bl true) H1 else tb σ H1 Q
theorem a5z {op} {t:TE} (h:PE X a t):PE X (.BoolOp op [a] pos) t:=fun pins s σ H Q I hw=>BoolOp_one (h pins s σ H Q I hw)
theorem pe_and (ha:PE X a ta) (hb:PE X (.BoolOp .And (b :: rest) pos) tb):PE X (.BoolOp .And (a :: b :: rest) pos) (tAndV ta tb):=by
 intro pins s σ H Q I h
 refine BoolOp_and (thn (ha pins s σ H _ I h) fun v s1 ⟨x,H1,I1,r1,q1⟩=>?_)
 obtain ⟨c,rfl,q1⟩:=q1
 cases r1
 refine wpAny_truthy_bool ?_
 cases c with
 | true=>exact hb pins s1 σ H1 Q I1 q1
 | false=>exact ⟨.bl false,H1,I1,rfl,q1⟩
theorem pe_or (ha:PE X a ta) (hb:PE X (.BoolOp .Or (b :: rest) pos) tb):PE X (.BoolOp .Or (a :: b :: rest) pos) (tOrV ta tb):=by
 intro pins s σ H Q I h
 refine BoolOp_or (thn (ha pins s σ H _ I h) fun v s1 ⟨x,H1,I1,r1,q1⟩=>?_)
 obtain ⟨c,rfl,q1⟩:=q1
 cases r1
 refine wpAny_truthy_bool ?_
 cases c with
 | false=>exact hb pins s1 σ H1 Q I1 q1
 | true=>exact ⟨.bl true,H1,I1,rfl,q1⟩
noncomputable def tIf (t:TT) (ta tb:TE):TE:=fun σ H Q=>t σ H fun c H1=>if c = true then ta σ H1 Q else tb σ H1 Q
theorem b9e {c:Expr} (hc:PT X c tA) (ha:PE X a ta) (hb:PE X b tb):PE X (.IfExp c a b pos) (tIf tA ta tb):=by
 intro pins s σ H Q I h
 refine wpAny_IfExp (thn (hc pins s σ H _ I h) fun d s1 ⟨H1,I1,q1⟩=>?_)
 cases d with
 | true=>exact ha pins s1 σ H1 Q I1 q1
 | false=>exact hb pins s1 σ H1 Q I1 q1
end
noncomputable def SqL (K:W.Frag) (H:Hp) (a:Addr) (xs:List V):Prop:=
 Rd H a (.lst xs) \/
  ∃ (o:Obj) (its:Array Value) (n:Nat),K.lookup a = some o/\o.cls = .type "list"/\o.dict = none/\o.data = .seq its n/\its.size<=sizeLine/\Vals xs its.toList
noncomputable def SqT (K:W.Frag) (H:Hp) (a:Addr) (xs:List V):Prop:=
 Rd H a (.tup xs) \/
  ∃ (o:Obj) (its:Array Value) (n:Nat),K.lookup a = some o/\o.cls = .type "tuple"/\o.data = .seq its n/\its.size<=sizeLine/\Vals xs its.toList
noncomputable def absV:Value->Option V
 | .none=>some .non
 | .bool b=>some (.bl b)
 | .int i _=>some (.int i)
 | .str x _=>some (.str x)
 | .bytes b _=>some (.byt b)
 | .float b _=>some (.flt b)
 | .ref a=>some (.ref a)
 | .type n=>some (.ty n)
 | _=>none
theorem RelV.abs {x:V} {u:Value} (r:RelV x u):absV u = some x:=by
 cases x with
 | non=>cases r; rfl
 | bl _=>cases r; rfl
 | int _=>obtain ⟨t,rfl⟩:=r; rfl
 | str _=>obtain ⟨t,rfl⟩:=r; rfl
 | byt _=>obtain ⟨t,rfl⟩:=r; rfl
 | flt _=>obtain ⟨t,rfl⟩:=r; rfl
 | ref _=>cases r; rfl
 | ty _=>cases r; rfl
theorem RelV.inj {x y:V} {u:Value} (r:RelV x u) (q:RelV y u):x = y:=Option.some.inj (r.abs.symm.trans q.abs)
theorem Vals.inj:∀ {xs ys:List V} {us:List Value},Vals xs us->Vals ys us->xs = ys
 | _,_,_,.nil,.nil=>rfl
 | _,_,_,.cons r t,.cons r' t'=>by rw [r.inj r',Vals.inj t t']
section
variable {X:Cx} {pins:List (Addr × Obj)} {σ:St} {H:Hp} {s:Shared} {a:Addr} {xs ys:List V}
theorem SqL.of {K:W.Frag} (h:H a = some (.lst xs)):SqL K H a xs:=.inl (.inl h)
theorem SqT.of {K:W.Frag} (h:H a = some (.tup xs)):SqT K H a xs:=.inl (.inl h)
theorem Inv.list (I:Inv X pins σ H s) (h:SqL X.K H a xs):∃ its:List Value,Vals xs its/\PlainL s.heap a its.toArray/\xs.length<=sizeLine:=by
 rcases h with h | ⟨o,its,n,hk,hc,hd,hs,hz,r⟩
 ·obtain ⟨z,its,n,r,e⟩:=h.ok I.hok
  exact ⟨its,r,⟨_,n,e,rfl,rfl,rfl⟩,z⟩
 ·refine ⟨its.toList,r,⟨o,n,I.kIn a o hk,hc,hd,by simpa using hs⟩,?_⟩
  have e:=r.length
  simp only [Array.length_toList] at e
  omega
theorem Inv.tuple (I:Inv X pins σ H s) (h:SqT X.K H a xs):∃ its:List Value,Vals xs its/\IsTup s.heap a its.toArray/\xs.length<=sizeLine:=by
 rcases h with h | ⟨o,its,n,hk,hc,hs,hz,r⟩
 ·obtain ⟨z,its,r,p⟩:=h.ok I.hok
  exact ⟨its,r,p,z⟩
 ·refine ⟨its.toList,r,⟨o,I.kIn a o hk,hc,n,by simpa using hs⟩,?_⟩
  have e:=r.length
  simp only [Array.length_toList] at e
  omega
theorem Inv.list_inj (I:Inv X pins σ H s) (h:SqL X.K H a xs) (h':SqL X.K H a ys):xs = ys:=by
 obtain ⟨its,r,⟨o,n,e,_,_,d⟩,_⟩:=I.list h
 obtain ⟨its',r',⟨o',n',e',_,_,d'⟩,_⟩:=I.list h'
 rw [e] at e'; cases e'
 rw [d] at d'
 injection d' with d1 _
 have:its = its':=by simpa using congrArg Array.toList d1
 subst this
 exact r.inj r'
theorem Inv.tuple_inj (I:Inv X pins σ H s) (h:SqT X.K H a xs) (h':SqT X.K H a ys):xs = ys:=by
 obtain ⟨its,r,⟨o,e,_,n,d⟩,_⟩:=I.tuple h
 obtain ⟨its',r',⟨o',e',_,n',d'⟩,_⟩:=I.tuple h'
 rw [e] at e'; cases e'
 rw [d] at d'
 injection d' with d1 _
 have:its = its':=by simpa using congrArg Array.toList d1
 subst this
 exact r.inj r'
end
noncomputable abbrev Cx.wish (X:Cx) (E:Value->Shared->Prop):Cx:={ X with xe:=E }
noncomputable abbrev Cx.nox (X:Cx):Cx:=X.wish fun _ _=>False
theorem Cx.Ok.wish {X:Cx} (ok:X.Ok) (E:Value->Shared->Prop):(X.wish E).Ok:=
 ⟨ok.mod,ok.kind,ok.glob,ok.blt,ok.above,ok.inj,ok.has,ok.cab,ok.hd,ok.frames,ok.stk,ok.exf,ok.bs,ok.bsz,ok.noex,ok.exfs,ok.funs,ok.frf⟩
theorem Cx.Ok.unwish {X:Cx} {E:Value->Shared->Prop} (ok:(X.wish E).Ok):X.Ok:=
 ⟨ok.mod,ok.kind,ok.glob,ok.blt,ok.above,ok.inj,ok.has,ok.cab,ok.hd,ok.frames,ok.stk,ok.exf,ok.bs,ok.bsz,ok.noex,ok.exfs,ok.funs,ok.frf⟩
section
variable {X:Cx} {pins:List (Addr × Obj)} {σ:St} {H:Hp} {s:Shared} {E:Value->Shared->Prop}
theorem Inv.wish (I:Inv X pins σ H s) (E:Value->Shared->Prop):Inv (X.wish E) pins σ H s:=⟨I.ok.wish E,I.os,I.bare,I.base,I.loc,I.cell,I.free,I.freeC,I.pin,I.hok,I.len⟩
theorem Inv.unwish (I:Inv (X.wish E) pins σ H s):Inv X pins σ H s:=⟨I.ok.unwish,I.os,I.bare,I.base,I.loc,I.cell,I.free,I.freeC,I.pin,I.hok,I.len⟩
theorem SP.unwish {D:Ends} {f:Flow} {s':Shared} (h:SP (X.wish E) pins D f s'):SP X pins D f s':=by
 cases f with
 | next=>obtain ⟨σ',H',I,q⟩:=h; exact ⟨σ',H',I.unwish,q⟩
 | brk=>obtain ⟨σ',H',I,q⟩:=h; exact ⟨σ',H',I.unwish,q⟩
 | cont=>obtain ⟨σ',H',I,q⟩:=h; exact ⟨σ',H',I.unwish,q⟩
 | ret u=>obtain ⟨v,σ',H',I,r,q⟩:=h; exact ⟨v,σ',H',I.unwish,r,q⟩
theorem PSs.nox {st:List Stmt} {t:TS} (h:PSs X.nox st t):PSs X st t:=fun pins s σ H D I hw=>
 wpAny_mono (h pins s σ H D (I.wish _) hw) (fun _ _ q=>q.unwish) fun _ _ z=>False.elim z
end
section
variable {X:Cx} {st:Stmt} {rest:List Stmt} {t u:TS} {e:Expr} {te:TE} {pos:Pos}
noncomputable def tNext:TS:=fun D σ H=>D.nx σ H
noncomputable def tSeq (t u:TS):TS:=fun D σ H=>t { D with nx:=u D } σ H
theorem a0x:PSs X [] tNext:=fun _ _ σ H _ I h=>wpAny_execs_nil ⟨σ,H,I,h⟩
theorem a0e (h1:PS X st t) (h2:PSs X rest u):PSs X (st :: rest) (tSeq t u):=by
 intro pins s σ H D I h
 refine wpAny_execs_cons (thn (h1 pins s σ H { D with nx:=u D } I h) fun f s1 q=>?_)
 cases f with
 | next=>
  obtain ⟨σ',H',I',q⟩:=q
  exact h2 pins s1 σ' H' D I' q
 | ret v=>exact q
 | brk=>exact q
 | cont=>exact q
theorem a0g (h1:PS X st t):PSs X [st] t:=by
 intro pins s σ H D I h
 refine wpAny_execs_cons (thn (h1 pins s σ H D I h) fun f s1 q=>?_)
 cases f with
 | next=>exact wpAny_execs_nil q
 | ret v=>exact q
 | brk=>exact q
 | cont=>exact q
theorem Inv.quiet {pins:List (Addr × Obj)} {σ:St} {H:Hp} {s:Shared} (I:Inv X pins σ H s):interactive X.env = false:=by simp [interactive,I.ok.kind]
noncomputable def tDrop (te:TE):TS:=fun D σ H=>te σ H fun _ H1=>D.nx σ H1
theorem a1e (he:PE X e te) (hs:swapsWith e none pos.line X.env = pure false:=by rfl):PS X (.Expr e pos) (tDrop te):=by
 intro pins s σ H D I h
 exact wpAny_Expr_any (thn (he pins s σ H _ I h) fun v s1 ⟨x,H1,I1,r1,q1⟩=>⟨σ,H1,I1,q1⟩) I.quiet hs
noncomputable def tRet (te:TE):TS:=fun D σ H=>te σ H D.rt
theorem a0p (he:PE X e te):PS X (.Return (some e) pos) (tRet te):=by
 intro pins s σ H D I h
 exact wpAny_Return_some (thn (he pins s σ H _ I h) fun v s1 ⟨x,H1,I1,r1,q1⟩=>⟨x,σ,H1,I1,r1,q1⟩)
noncomputable def tIfS (c:TT) (t u:TS):TS:=fun D σ H=>c σ H fun b H1=>if b = true then t D σ H1 else u D σ H1
theorem a1b {c:Expr} {a b:List Stmt} {tc:TT} (hc:PT X c tc) (ha:PSs X a t) (hb:PSs X b u):PS X (.If c a b pos) (tIfS tc t u):=by
 intro pins s σ H D I h
 refine wpAny_If (thn (hc pins s σ H _ I h) fun d s1 ⟨H1,I1,q1⟩=>?_)
 cases d with
 | true=>exact ha pins s1 σ H1 D I1 q1
 | false=>exact hb pins s1 σ H1 D I1 q1
end
noncomputable abbrev TG:=V->St->Hp->(St->Hp->Prop)->Prop
noncomputable abbrev TGs:=List V->St->Hp->(St->Hp->Prop)->Prop
noncomputable def PG (X:Cx) (target:Expr) (t:TG):Prop:=
 ∀ (pins:List (Addr × Obj)) (s:Shared) (σ:St) (H:Hp) (v:V) (u:Value) (Q:St->Hp->Prop),Inv X pins σ H s->RelV v u->t v σ H Q ->
  wpAny (model X.prog X.w) X.A (assign target X.env u) (fun _ s'=>∃ σ' H',Inv X pins σ' H' s'/\Q σ' H') X.xe s
noncomputable def PGs (X:Cx) (ts:List Expr) (t:TGs):Prop:=
 ∀ (pins:List (Addr × Obj)) (s:Shared) (σ:St) (H:Hp) (vs:List V) (us:List Value) (Q:St->Hp->Prop),Inv X pins σ H s->Vals vs us->t vs σ H Q ->
  wpAny (model X.prog X.w) X.A (assignInOrder ((assignEach ts X.env).map (·.2)) us) (fun _ s'=>∃ σ' H',Inv X pins σ' H' s'/\Q σ' H') X.xe s
noncomputable abbrev TIp:=V->V->Hp->VK->Prop
noncomputable def PIp (X:Cx) (op:Operator) (t:TIp):Prop:=
 ∀ (pins:List (Addr × Obj)) (s:Shared) (σ:St) (H:Hp) (x y:V) (v u:Value) (Q:VK),Inv X pins σ H s->RelV x v->RelV y u->t x y H Q ->
  wpAny (model X.prog X.w) X.A (inplaceOp op v u) (EP X pins σ Q) X.xe s
section
variable {X:Cx} {pos:Pos}
noncomputable def b5i (i:Nat):TG:=fun v σ H Q=>Q (σ.set i (some v)) H
theorem a2d {i:Nat} {x:Str} (hN:X.N.Nodup) (hi:X.N[i]? = some x) (hx:Loc X.env.scope x) (hf:X.fn x = true\/X.env.scope.names.lookup x = some .local:=by first | exact .inl rfl | exact .inr rfl | assumption):PG X (.Name x pos) (b5i i):=by
 intro pins s σ H v u Q I r h
 exact wpAny_assign_Name (b4l I hN hi hx r (fun s' I'=>⟨_,H,I',h⟩) hf)
noncomputable def gNil:TGs:=fun vs σ H Q=>vs = []/\Q σ H
noncomputable def gCons (t:TG) (u:TGs):TGs:=fun vs σ H Q=>∃ v r,vs = v :: r/\t v σ H fun σ' H'=>u r σ' H' Q
theorem b3q:PGs X [] gNil:=by
 intro pins s σ H vs us Q I r h
 obtain ⟨e,h⟩:=h
 subst e
 cases r
 exact assignInOrder_nil ⟨σ,H,I,h⟩
theorem a6a {e:Expr} {es:List Expr} {t:TG} {u:TGs} (h1:PG X e t) (h2:PGs X es u)
  (hs:(assignEach (e :: es) X.env).map (·.2) = assign e X.env :: (assignEach es X.env).map (·.2):=by rfl):PGs X (e :: es) (gCons t u):=by
 intro pins s σ H vs us Q I r h
 obtain ⟨v,vr,e1,h⟩:=h
 subst e1
 cases r with
 | cons r rr=>
  rw [hs]
  refine assignInOrder_cons (thn (h1 pins s σ H _ _ _ I r h) fun _ s1 ⟨σ1,H1,I1,q1⟩=>?_)
  exact h2 pins s1 σ1 H1 _ _ Q I1 rr q1
noncomputable def gTup (K:W.Frag) (n:Nat) (t:TGs):TG:=fun v σ H Q=>∃ a xs,v = .ref a/\SqT K H a xs/\xs.length = n/\t xs σ H Q
theorem pg_tup {es:List Expr} {k:Nat} {t:TGs} {n:Nat} (hc:X.calm = true) (h:PGs X es t)
  (hn:(assignEach es X.env).length = n:=by rfl) (hst:(assignEach es X.env).findIdx? (·.1) = none:=by rfl):PG X (.Tuple es k pos) (gTup X.K n t):=by
 intro pins s σ H v u Q I r hw
 obtain ⟨a,xs,e1,hq,hl,hw⟩:=hw
 subst e1
 cases r
 obtain ⟨its,rv,ht,hz⟩:=I.tuple hq
 refine assign_Tuple_tuple (I.ok.hd hc) ht (by simp [hn,<- hl,rv.length]) hst fun h' hx=>?_
 have I1:Inv X pins σ H { s with heap:=h' }:=I.kept (t':=s.toks) fun b o e=>hx b o (Nat.ne_of_lt (Heap.lt_size e)) e
 exact h pins _ σ H xs _ Q I1 (by simpa using rv) hw
noncomputable def tAsg (te:TE) (g:TG):TS:=fun D σ H=>te σ H fun x H1=>g x σ H1 D.nx
theorem a0r {i:Nat} {x:Str} {e:Expr} {te:TE} {pos':Pos} (hN:X.N.Nodup) (hi:X.N[i]? = some x) (hx:Loc X.env.scope x) (he:PE X e te) (hs:swapsWith e (some (.Name x pos')) pos.line X.env = pure false:=by rfl) (hf:X.fn x = true\/X.env.scope.names.lookup x = some .local:=by first | exact .inl rfl | exact .inr rfl | assumption) :
  PS X (.Assign [.Name x pos'] e pos) (tAsg te (b5i i)):=by
 intro pins s σ H D I h
 refine wpAny_Assign_Name (thn (he pins s σ H _ I h) fun v s1 ⟨y,H1,I1,r1,q1⟩=>?_) hs
 exact b4l I1 hN hi hx r1 (fun s2 I2=>⟨_,H1,I2,q1⟩) hf
noncomputable def tPar (i j:Nat) (ta:TA):TS:=fun D σ H=>ta σ H fun vs H1=>∃ v w,vs = [v,w]/\D.nx ((σ.set i (some v)).set j (some w)) H1
end
section
variable {X:Cx} {pos:Pos}
noncomputable def b9f (c:TT) (tb:TS):TS:=fun D σ H=>∃ W:Nat->St->Hp->Prop,(∃ m,W m σ H)/\∀ m σ H,W m σ H ->
 c σ H fun b H1=>if b = true then ∃ N:St->Hp->Prop,(∀ σ' H',N σ' H'->∃ m',m' < m/\W m' σ' H')/\tb { D with nx:=N,ct:=N,bk:=D.nx } σ H1 else D.nx σ H1
theorem a8o {c:Expr} {body:List Stmt} {tc:TT} {tb:TS} (hp:PassesOwn (model X.prog X.w) X.A X.env X.xe) (hc:PT X c tc) (hb:PSs X body tb):PS X (.While c body [] pos) (b9f tc tb):=by
 intro pins s σ H D I h
 obtain ⟨W,⟨m0,w0⟩,turn⟩:=h
 refine wpAny_While (codeAny_whileLoop (fun n s'=>∃ σ' H',Inv X pins σ' H' s'/\W n σ' H') ?_ m0 ⟨σ,H,I,w0⟩)
 rintro n s1 ⟨σ1,H1,I1,w1⟩
 refine wpAny_passesOwn hp (thn (hc pins s1 σ1 H1 _ I1 (turn n σ1 H1 w1)) fun b s2 ⟨H2,I2,q2⟩=>?_)
 cases b with
 | true=>
  obtain ⟨N,hN,q2⟩:=q2
  rw [if_pos rfl]
  refine wpAny_passesOwn hp (thn (hb pins s2 σ1 H2 _ I2 q2) fun f s3 q3=>?_)
  cases f with
  | next=>
   obtain ⟨σ3,H3,I3,n3⟩:=q3
   obtain ⟨m',hm,w3⟩:=hN σ3 H3 n3
   exact ⟨m',hm,σ3,H3,I3,w3⟩
  | cont=>
   obtain ⟨σ3,H3,I3,n3⟩:=q3
   obtain ⟨m',hm,w3⟩:=hN σ3 H3 n3
   exact ⟨m',hm,σ3,H3,I3,w3⟩
  | brk=>exact q3
  | ret v=>exact q3
 | false=>
  rw [if_neg Bool.false_ne_true]
  exact wpAny_execs_nil ⟨σ1,H2,I2,q2⟩
end
structure It where
 go:Nat->Hp->Prop
 yld:Nat->Hp->V->Hp->Prop
 stop:Nat->Hp->Prop
noncomputable def FpOk (X:Cx) (pins:List (Addr × Obj)) (H:Hp) (b:Addr):Prop:=
 H b = none/\b ≠ X.env.locals/\b ∉ X.fs/\(b ∈ X.ex\/X.s₀.heap.objs.size<=b)/\(∀ x c,X.env.cells.lookup x = some c->c ≠ b)/\∀ p ∈ X.pn ++ pins,p.1 ≠ b
theorem Inv.fpOk {X:Cx} {pins:List (Addr × Obj)} {σ:St} {H H':Hp} {s:Shared} {b:Addr} (I:Inv X pins σ H s) (hb:s.heap.objs.size<=b) (hn:H' b = none):FpOk X pins H' b:=by
 refine ⟨hn,Nat.ne_of_gt (Nat.lt_of_lt_of_le I.lt hb),I.nofs hb,.inr (Nat.le_trans I.sz hb),fun x c e z=>?_,fun p hp z=>?_⟩
 ·obtain ⟨v,q⟩:=I.cell x c e
  exact absurd (Nat.lt_of_lt_of_le q.lt (by rw [z]; exact hb)) (Nat.lt_irrefl _)
 ·exact absurd (Nat.lt_of_lt_of_le (Heap.lt_size (I.pin p hp).1) (by rw [z]; exact hb)) (Nat.lt_irrefl _)
structure Turn (P:Program) (w:World) (K:W.Frag) (tg:Expr) (J:It) (fp:List Addr) (it:Addr) (tn:Nat->Heap->Prop):Prop where
 mem:it ∈ fp
 obj:∀ i h,tn i h->∀ b ∈ fp,∃ o,h.get? b = some o/\∀ v,o.data ≠ .cell v
 keep:∀ i h h',tn i h->(∀ b ∈ fp,∀ o,h.get? b = some o->h'.get? b = some o)->tn i h'
 item:∀ (X:Cx),X.prog = P->X.w = w->X.K = K->X.calm = true->∀ (i:Nat) (pins:List (Addr × Obj)) (s:Shared) (σ:St) (H:Hp) (E:Value->Shared->Prop),Inv X pins σ H s->(∀ b ∈ fp,FpOk X pins H b)->tn i s.heap->J.go i H ->
  wpAny (model P w) X.A (pyNext (.ref it)) (fun r s1=>∃ u,r = some u /\
   wpAny (model P w) X.A (letOwnedTupleGo tg (.ref it) u) (fun _ s2=>∃ x H',Inv X pins σ H' s2/\RelV x u/\J.yld i H x H'/\tn (i + 1) s2.heap/\∀ b ∈ fp,H' b = none) E s1) E s
 done:∀ (X:Cx),X.prog = P->X.w = w->X.K = K->X.calm = true->∀ (i:Nat) (pins:List (Addr × Obj)) (s:Shared) (σ:St) (H:Hp) (E:Value->Shared->Prop),Inv X pins σ H s->(∀ b ∈ fp,FpOk X pins H b)->tn i s.heap->J.stop i H ->
  wpAny (model P w) X.A (pyNext (.ref it)) (fun r s1=>r = none/\Inv X pins σ H s1) E s
 self:∀ (A:Around) (i:Nat) (s:Shared) (Q:Value->Shared->Prop) (E:Value->Shared->Prop),tn i s.heap->Q (.ref it) s->wpAny (model P w) A (pyIter (.ref it)) Q E s
noncomputable abbrev TI:=St->Hp->(It->Hp->Prop)->Prop
noncomputable def PIE (X:Cx) (pins:List (Addr × Obj)) (σ:St) (tg:Expr) (R:It->Hp->Prop) (itv:Value) (s2:Shared):Prop:=
 ∃ (it:Addr) (fp:List Addr) (tn:Nat->Heap->Prop) (J:It) (H':Hp),itv = .ref it/\Inv X pins σ H' s2/\Turn X.prog X.w X.K tg J fp it tn/\tn 0 s2.heap/\(∀ b ∈ fp,FpOk X pins H' b)/\R J H'
noncomputable def PI (X:Cx) (tg iter:Expr) (wi:TI):Prop:=
 ∀ (pins:List (Addr × Obj)) (s:Shared) (σ:St) (H:Hp) (R:It->Hp->Prop),Inv X pins σ H s->wi σ H R ->
  wpAny (model X.prog X.w) X.A (eval iter X.env) (fun v s1=>wpAny (model X.prog X.w) X.A (pyIter v) (PIE X pins σ tg R) X.xe s1) X.xe s
theorem b3r {M:Model} {A:Around} {E:Value->Shared->Prop} {s:Shared} {tg:Expr} {it:Addr} {u:Value} {o:Obj} {n:String} {vs:Array Value} {Q:Unit->Shared->Prop} (ho:s.heap.get? it = some o) (hc:o.cls = .type n) (hd:o.data = .fields vs)
  (hn:["enumerate","zip","dict_itemiterator","dict_reverseitemiterator","odict_iterator","itertools.zip_longest","itertools.pairwise"].contains n = false) (hQ:Q () s):wpAny M A (letOwnedTupleGo tg (.ref it) u) Q E s:=by
 unfold letOwnedTupleGo
 cases tg <;> first
  | exact wpAny_pure hQ
  | (cases u <;> first
    | exact wpAny_pure hQ
    | (refine wpAny_bind (wpAny_load ho ?_)
       rw [hc,hd]
       show wpAny M A (if (["enumerate","zip","dict_itemiterator","dict_reverseitemiterator","odict_iterator","itertools.zip_longest","itertools.pairwise"].contains n && vs[0]? == some (rawInt _)) = true then _ else _) Q E s
       rw [if_neg (by intro h; rw [hn,Bool.false_and] at h; cases h)]
       exact wpAny_pure hQ))
noncomputable def Itl (K:W.Frag) (a:Addr):It:=
 ⟨fun i H=>∃ xs x,SqL K H a xs/\xs[i]? = some x,fun i H x H'=>H' = H/\∀ xs,SqL K H a xs->xs[i]? = some x,fun i H=>∃ xs,SqL K H a xs/\xs.length<=i⟩
noncomputable def Itt (K:W.Frag) (a:Addr):It:=
 ⟨fun i H=>∃ xs x,SqT K H a xs/\xs[i]? = some x,fun i H x H'=>H' = H/\∀ xs,SqT K H a xs->xs[i]? = some x,fun i H=>∃ xs,SqT K H a xs/\xs.length<=i⟩
noncomputable def Itr (lo:Int) (n:Nat):It:=⟨fun i _=>i < n,fun i H x H'=>H' = H/\x = .int (lo + i),fun i _=>n<=i⟩
theorem b7h {P:Program} {w:World} {K:W.Frag} {tg:Expr} (a it:Addr):Turn P w K tg (Itl K a) [it] it (fun i h=>h.IsListIter it a i) where
 mem:=by simp
 obj:=fun i h st b hb=>by
  have e:b = it:=by simpa using hb
  subst e
  obtain ⟨o,e,c,d⟩:=st
  exact ⟨o,e,fun v z=>by rw [d] at z; cases z⟩
 keep:=fun i h h' st k=>st.at fun o e=>k it (by simp) o e
 item:=by
  intro X hP hw hK hc i pins s σ H E I hf st hg
  subst hP hw hK
  obtain ⟨xs,x,hq,hx⟩:=hg
  obtain ⟨its,rv,p,hz⟩:=I.list hq
  obtain ⟨u,hu,ru⟩:=rv.get hx
  obtain ⟨f0,f1,f2,f3,f4,f5⟩:=hf it (by simp)
  refine wpAny_pyNext_list_item st p.isList (x:=u) (by simpa using hu) fun h' st' sb=>?_
  have I1:Inv X pins σ H { s with heap:=h' }:=I.turned (t':=s.toks) (fun b o hb e=>(sb.2 b hb).trans e) f0 f1 f3 f4 f5
  obtain ⟨o,e,c,d⟩:=id st'
  exact ⟨u,rfl,b3r (s:={ s with heap:=h' }) e c d (by decide) ⟨x,H,I1,ru,⟨rfl,fun ys hy=>by rw [I.list_inj hy hq]; exact hx⟩,st',fun b hb=>(hf b hb).1⟩⟩
 done:=by
  intro X hP hw hK hc i pins s σ H E I hf st hg
  subst hP hw hK
  obtain ⟨xs,hq,hx⟩:=hg
  obtain ⟨its,rv,p,hz⟩:=I.list hq
  obtain ⟨f0,f1,f2,f3,f4,f5⟩:=hf it (by simp)
  have hl:=rv.length
  exact wpAny_pyNext_list_end (I.ok.hd hc) st p.isList (by simp; omega) fun h' eb=>⟨rfl,I.turned (t':=s.toks) (fun b o hb e=>eb b o hb e) f0 f1 f3 f4 f5⟩
 self:=fun _ _ _ _ _ st h=>wpAny_pyIter_listiter st h
theorem b5j {P:Program} {w:World} {K:W.Frag} {tg:Expr} (a it:Addr):Turn P w K tg (Itt K a) [it] it (fun i h=>h.IsTupleIter it a i) where
 mem:=by simp
 obj:=fun i h st b hb=>by
  have e:b = it:=by simpa using hb
  subst e
  obtain ⟨o,e,c,d⟩:=st
  exact ⟨o,e,fun v z=>by rw [d] at z; cases z⟩
 keep:=fun i h h' st k=>st.at fun o e=>k it (by simp) o e
 item:=by
  intro X hP hw hK hc i pins s σ H E I hf st hg
  subst hP hw hK
  obtain ⟨xs,x,hq,hx⟩:=hg
  obtain ⟨its,rv,p,hz⟩:=I.tuple hq
  obtain ⟨u,hu,ru⟩:=rv.get hx
  obtain ⟨f0,f1,f2,f3,f4,f5⟩:=hf it (by simp)
  refine wpAny_pyNext_tuple_item st (show s.heap.IsTuple a its.toArray from p) (x:=u) (by simpa using hu) fun h' st' sb=>?_
  have I1:Inv X pins σ H { s with heap:=h' }:=I.turned (t':=s.toks) (fun b o hb e=>(sb.2 b hb).trans e) f0 f1 f3 f4 f5
  obtain ⟨o,e,c,d⟩:=id st'
  exact ⟨u,rfl,b3r (s:={ s with heap:=h' }) e c d (by decide) ⟨x,H,I1,ru,⟨rfl,fun ys hy=>by rw [I.tuple_inj hy hq]; exact hx⟩,st',fun b hb=>(hf b hb).1⟩⟩
 done:=by
  intro X hP hw hK hc i pins s σ H E I hf st hg
  subst hP hw hK
  obtain ⟨xs,hq,hx⟩:=hg
  obtain ⟨its,rv,p,hz⟩:=I.tuple hq
  obtain ⟨f0,f1,f2,f3,f4,f5⟩:=hf it (by simp)
  have hl:=rv.length
  exact wpAny_pyNext_tuple_end (I.ok.hd hc) st (show s.heap.IsTuple a its.toArray from p) (by simp; omega) fun h' eb=>⟨rfl,I.turned (t':=s.toks) (fun b o hb e=>eb b o hb e) f0 f1 f3 f4 f5⟩
 self:=fun _ _ _ _ _ st h=>wpAny_pyIter_tupleiter st h
theorem c2w {P:Program} {w:World} {K:W.Frag} {tg:Expr} (it:Addr) (lo:Int) (n:Nat):Turn P w K tg (Itr lo n) [it] it (fun i h=>IsRangeIter h it (lo + (i:Nat) * 1) ((n:Int) - (i:Nat)) 1) where
 mem:=by simp
 obj:=fun i h st b hb=>by
  have e:b = it:=by simpa using hb
  subst e
  exact ⟨_,st,fun v z=>by
   have z':Data.fields _ = Data.cell v:=z
   cases z'⟩
 keep:=fun i h h' st k=>k it (by simp) _ st
 item:=by
  intro X hP hw hK hc i pins s σ H E I hf st hg
  subst hP hw hK
  obtain ⟨f0,f1,f2,f3,f4,f5⟩:=hf it (by simp)
  have W:=Walks.range (prog:=X.prog) (w:=X.w) (I.ok.hd hc) it lo 1 n
  refine W.item i s _ _ hg st fun v h' tk hv st' kk=>?_
  obtain ⟨t,rfl⟩:=hv
  have I1:Inv X pins σ H { s with heap:=h',toks:=tk }:=I.turned (fun b o hb e=>kk b o (by simpa using hb) e) f0 f1 f3 f4 f5
  refine ⟨_,rfl,b3r (s:={ s with heap:=h',toks:=tk }) (n:="range_iterator") st' rfl rfl (by decide) ⟨.int (lo + i),H,I1,⟨t,?_⟩,⟨rfl,rfl⟩,st',fun b hb=>(hf b hb).1⟩⟩
  rw [Int.mul_one]
 done:=by
  intro X hP hw hK hc i pins s σ H E I hf st hg
  subst hP hw hK
  obtain ⟨f0,f1,f2,f3,f4,f5⟩:=hf it (by simp)
  exact wpAny_pyNext_range_end (I.ok.hd hc) st (by have:n<=i:=hg; omega) fun h' eb=>⟨rfl,I.turned (t':=s.toks) (fun b o hb e=>eb b o hb e) f0 f1 f3 f4 f5⟩
 self:=fun _ _ _ _ _ st h=>wpAny_pyIter_rangeiter st h
section
variable {X:Cx} {tg:Expr}
noncomputable def iList (K:W.Frag) (tl:TE):TI:=fun σ H R=>tl σ H fun x H1=>∃ a,x = .ref a/\(∃ xs,SqL K H1 a xs)/\R (Itl K a) H1
noncomputable def iTup (K:W.Frag) (tl:TE):TI:=fun σ H R=>tl σ H fun x H1=>∃ a,x = .ref a/\(∃ xs,SqT K H1 a xs)/\R (Itt K a) H1
theorem pi_list {l:Expr} {tl:TE} (hl:PE X l tl):PI X tg l (iList X.K tl):=by
 intro pins s σ H R I h
 refine thn (hl pins s σ H _ I h) fun v s1 ⟨x,H1,I1,r1,q1⟩=>?_
 obtain ⟨a,e,⟨xs,hq⟩,q⟩:=q1
 subst e
 cases r1
 obtain ⟨its,rv,p,hz⟩:=I1.list hq
 refine wpAny_pyIter_list p.isList ?_
 refine ⟨s1.heap.objs.size,[s1.heap.objs.size],_,_,H1,rfl,I1.kept (t':=s1.toks) fun b o e=>Heap.get?_push_of_some _ e,b7h a _,⟨_,Heap.get?_push_size _ rfl,rfl,rfl⟩,fun b hb=>?_,q⟩
 have e:b = s1.heap.objs.size:=by simpa using hb
 subst e
 exact I1.fpOk (Nat.le_refl _) (I1.hok.fresh (Nat.le_refl _))
theorem pi_tup {l:Expr} {tl:TE} (hl:PE X l tl):PI X tg l (iTup X.K tl):=by
 intro pins s σ H R I h
 refine thn (hl pins s σ H _ I h) fun v s1 ⟨x,H1,I1,r1,q1⟩=>?_
 obtain ⟨a,e,⟨xs,hq⟩,q⟩:=q1
 subst e
 cases r1
 obtain ⟨its,rv,p,hz⟩:=I1.tuple hq
 refine wpAny_pyIter_tuple (show s1.heap.IsTuple a its.toArray from p) ?_
 refine ⟨s1.heap.objs.size,[s1.heap.objs.size],_,_,H1,rfl,I1.kept (t':=s1.toks) fun b o e=>Heap.get?_push_of_some _ e,b5j a _,⟨_,Heap.get?_push_size _ rfl,rfl,rfl⟩,fun b hb=>?_,q⟩
 have e:b = s1.heap.objs.size:=by simpa using hb
 subst e
 exact I1.fpOk (Nat.le_refl _) (I1.hok.fresh (Nat.le_refl _))
theorem b9g {pins:List (Addr × Obj)} {σ:St} {H:Hp} {s:Shared} {R:It->Hp->Prop} {E:Value->Shared->Prop} {lo hi:Int} {t u v:Tok} {tk:Nat} (I:Inv X pins σ H s) (h1:-(2 ^ 62)<=lo) (h2:lo < 2 ^ 62) (h3:-(2 ^ 62)<=hi) (h4:hi < 2 ^ 62)
  (q:R (Itr lo (hi - lo).toNat) H):wpAny (model X.prog X.w) X.A (pyIter (.ref s.heap.objs.size)) (PIE X pins σ tg R) E { s with heap:=s.heap.push { cls:=.type "range",data:=.fields #[.int lo t,.int hi u,.int 1 v] },toks:=tk }:=by
 refine wpAny_pyIter_range (IsRange.new ..) (small_one h1 h2 h3 h4) ?_
 have I1:Inv X pins σ H { s with heap:=s.heap.push { cls:=.type "range",data:=.fields #[.int lo t,.int hi u,.int 1 v] },toks:=tk }:=I.kept fun b o e=>Heap.get?_push_of_some _ e
 refine ⟨(s.heap.push { cls:=.type "range",data:=.fields #[.int lo t,.int hi u,.int 1 v] }).objs.size,[(s.heap.push { cls:=.type "range",data:=.fields #[.int lo t,.int hi u,.int 1 v] }).objs.size],_,_,H,rfl,
  I1.kept (t':=tk) fun b o e=>Heap.get?_push_of_some _ e,c2w _ lo (hi - lo).toNat,?_,fun b hb=>?_,q⟩
 ·have e1:lo + ((0:Nat):Int) * 1 = lo:=by simp
  have e2:(((hi - lo).toNat:Nat):Int) - ((0:Nat):Int) = Builtin.Range.rangeSize lo hi 1:=by rw [rangeSize_one]; split <;> omega
  show IsRangeIter _ _ (lo + ((0:Nat):Int) * 1) ((((hi - lo).toNat:Nat):Int) - ((0:Nat):Int)) 1
  rw [e1,e2]
  exact Heap.get?_push_size _ rfl
 ·have e:b = (s.heap.push { cls:=.type "range",data:=.fields #[.int lo t,.int hi u,.int 1 v] }).objs.size:=by simpa using hb
  subst e
  exact I1.fpOk (Nat.le_refl _) (I1.hok.fresh (Nat.le_refl _))
noncomputable def iRng1 (ta:TA):TI:=fun σ H R=>ta σ H fun vs H1=>∃ j:Int,vs = [.int j]/\-(2 ^ 62)<=j/\j < 2 ^ 62/\R (Itr 0 j.toNat) H1
noncomputable def iRng2 (ta:TA):TI:=fun σ H R=>ta σ H fun vs H1=>∃ i j:Int,vs = [.int i,.int j]/\(-(2 ^ 62)<=i/\i < 2 ^ 62/\-(2 ^ 62)<=j/\j < 2 ^ 62)/\R (Itr i (j - i).toNat) H1
theorem a4n {a:Expr} {ta:TA} {p pos:Pos} (hg:Gl X "range") (hm:X.mg "range" = none) (ha:PA X [a] ta) (hs:starEach [a] X.env = [(false,eval a X.env)]:=by rfl):PI X tg (.Call (.Name "range" p) [a] [] pos) (iRng1 ta):=by
 intro pins s σ H R I h
 refine Call_ (a5y I hg hm boot_range (PyProof.Rows.callWith_type1 (thn (ha pos pins s σ H _ I h) fun us s1 ⟨vs,H1,I1,r1,q1⟩=>?_) hs rfl))
 obtain ⟨j,e,q1,q2,q⟩:=q1
 subst e
 cases r1 with
 | cons r rr=>
  cases rr
  obtain ⟨t,rfl⟩:=r
  exact call_range_1 (b9g I1 (by omega) (by omega) q1 q2 (by simpa using q))
theorem b7i {a b:Expr} {ta:TA} {p pos:Pos} (hg:Gl X "range") (hm:X.mg "range" = none) (ha:PA X [a,b] ta) (hs:starEach [a,b] X.env = [(false,eval a X.env),(false,eval b X.env)]:=by rfl) (hs2:starEach [b] X.env = [(false,eval b X.env)]:=by rfl) :
  PI X tg (.Call (.Name "range" p) [a,b] [] pos) (iRng2 ta):=by
 intro pins s σ H R I h
 refine Call_ (a5y I hg hm boot_range (PyProof.Rows.callWith_type1 (thn (ha pos pins s σ H _ I h) fun us s1 ⟨vs,H1,I1,r1,q1⟩=>?_) (by rw [hs,hs2]) (by rw [hs2]; rfl)))
 obtain ⟨i,j,e,⟨q1,q2,q3,q4⟩,q⟩:=q1
 subst e
 cases r1 with
 | cons r rr=>
  cases rr with
  | cons r' rr=>
   cases rr
   obtain ⟨t,rfl⟩:=r
   obtain ⟨t',rfl⟩:=r'
   exact call_range_2 (b9g I1 q1 q2 q3 q4 q)
noncomputable def tFor (wi:TI) (g:TG) (tb:TS):TS:=fun D σ H=>wi σ H fun J H1=>∃ W:Nat->Nat->St->Hp->Prop,(∃ m,W 0 m σ H1)/\∀ i m σ H,W i m σ H ->
 (J.stop i H/\D.nx σ H)\/(J.go i H/\∃ N:St->Hp->Prop,(∀ σ' H',N σ' H'->∃ m',m' < m/\W (i + 1) m' σ' H')/\∀ x H',J.yld i H x H'->g x σ H' fun σ2 H2=>tb { D with nx:=N,ct:=N,bk:=D.nx } σ2 H2)
noncomputable def b1i (fp:List Addr) (h:Heap):List (Addr × Obj):=fp.filterMap fun b=>(h.get? b).map fun o=>(b,o)
theorem a9o {fp:List Addr} {h:Heap} {b:Addr} {o:Obj} (hb:b ∈ fp) (e:h.get? b = some o):(b,o) ∈ b1i fp h:=List.mem_filterMap.mpr ⟨b,hb,by rw [e]; rfl⟩
theorem c4i {fp:List Addr} {h:Heap} {p:Addr × Obj} (hp:p ∈ b1i fp h):p.1 ∈ fp/\h.get? p.1 = some p.2:=by
 obtain ⟨b,hb,e⟩:=List.mem_filterMap.mp hp
 cases q:h.get? b with
 | none=>rw [q] at e; cases e
 | some o=>
  rw [q] at e
  have e':(b,o) = p:=Option.some.inj e
  subst e'
  exact ⟨hb,q⟩
theorem Inv.pinned {pins:List (Addr × Obj)} {σ:St} {H:Hp} {s:Shared} {fp:List Addr} (I:Inv X pins σ H s) (hf:∀ b ∈ fp,FpOk X pins H b) (ho:∀ b ∈ fp,∃ o,s.heap.get? b = some o/\∀ v,o.data ≠ .cell v):Inv X (pins ++ b1i fp s.heap) σ H s:=
 I.pins_of fun p hp=>(List.mem_append.mp hp).elim (fun z=>I.pin p (List.mem_append_right _ z)) fun z=>by
  obtain ⟨hb,e⟩:=c4i z
  obtain ⟨f0,f1,f2,_⟩:=hf p.1 hb
  obtain ⟨o,e',d⟩:=ho p.1 hb
  rw [e] at e'; cases e'
  exact ⟨e,f0,f1,f2,d⟩
theorem Inv.unpinned {pins pl:List (Addr × Obj)} {σ:St} {H:Hp} {s:Shared} (I:Inv X (pins ++ pl) σ H s):Inv X pins σ H s:=I.pins_of fun p hp=>I.pin p (List.mem_append_right _ (List.mem_append_left _ hp))
theorem a3n {iter:Expr} {body:List Stmt} {wi:TI} {g:TG} {tb:TS} {pos:Pos} (hp:PassesOwn (model X.prog X.w) X.A X.env X.xe) (hc:X.calm = true) (hi:PI X tg iter wi) (hg:PG X tg g) (hb:PSs X body tb)
  (hs:∀ x,foldedSetIterable iter X.env x = pure x:=by intro _; rfl):PS X (.For tg iter body [] pos) (tFor wi g tb):=by
 intro pins s σ H D I h
 refine wpAny_For (thn (hi pins s σ H _ I h) fun v s1 h1=>thn h1 fun itv s2 h2=>?_) hs
 obtain ⟨it,fp,tn,J,H2,e,I2,T,st2,f2,W,⟨m0,w0⟩,turn⟩:=h2
 subst e
 have stat:∀ {H':Hp},(∀ b ∈ fp,H' b = none)->∀ b ∈ fp,FpOk X pins H' b:=fun hn b hb=>⟨hn b hb,(f2 b hb).2⟩
 refine codeAny_forLoop_any (fun n s'=>∃ i σ' H',Inv X pins σ' H' s'/\tn i s'.heap/\(∀ b ∈ fp,H' b = none)/\W i n σ' H') ?_ m0 ⟨0,σ,H2,I2,st2,fun b hb=>(f2 b hb).1,w0⟩
 rintro n s3 ⟨i,σ3,H3,I3,st3,fr3,w3⟩
 rcases turn i n σ3 H3 w3 with ⟨stop,qn⟩ | ⟨go,N,hN,step⟩
 ·refine wpAny_passesOwn hp (thn (T.done X rfl rfl rfl hc i pins s3 σ3 H3 X.xe I3 (stat fr3) st3 stop) fun r s4 ⟨hr,I4⟩=>?_)
  subst hr
  exact wpAny_execs_nil ⟨σ3,H3,I4,qn⟩
 ·refine wpAny_passesOwn hp (thn (T.item X rfl rfl rfl hc i pins s3 σ3 H3 X.xe I3 (stat fr3) st3 go) fun r s4 ⟨u,hr,h4⟩=>?_)
  subst hr
  refine wpAny_passesOwn hp (thn h4 fun _ s5 ⟨x,H5,I5,r5,y5,st5,fr5⟩=>?_)
  have I5':=I5.pinned (stat fr5) (T.obj _ _ st5)
  refine wpAny_passesOwn hp (thn (hg _ s5 σ3 H5 x u _ I5' r5 (step x H5 y5)) fun _ s6 ⟨σ6,H6,I6,q6⟩=>?_)
  refine wpAny_passesOwn hp (thn (hb _ s6 σ6 H6 _ I6 q6) fun f s7 q7=>?_)
  have again:∀ {σ7:St} {H7:Hp},Inv X (pins ++ b1i fp s5.heap) σ7 H7 s7->N σ7 H7->∃ m,m < n/\∃ i σ' H',Inv X pins σ' H' s7/\tn i s7.heap/\(∀ b ∈ fp,H' b = none)/\W i m σ' H':=fun {σ7 H7} I7 n7=>by
   obtain ⟨m',hm,w7⟩:=hN σ7 H7 n7
   refine ⟨m',hm,i + 1,σ7,H7,I7.unpinned,T.keep _ _ _ st5 fun b hb o e=>(I7.pin (b,o) (List.mem_append_right _ (List.mem_append_right _ (a9o hb e)))).1,fun b hb=>?_,w7⟩
   obtain ⟨o,e,d⟩:=T.obj _ _ st5 b hb
   exact (I7.pin (b,o) (List.mem_append_right _ (List.mem_append_right _ (a9o hb e)))).2.1
  cases f with
  | next=>obtain ⟨σ7,H7,I7,n7⟩:=q7; exact again I7 n7
  | cont=>obtain ⟨σ7,H7,I7,n7⟩:=q7; exact again I7 n7
  | brk=>obtain ⟨σ7,H7,I7,q7⟩:=q7; exact ⟨σ7,H7,I7.unpinned,q7⟩
  | ret v=>obtain ⟨x7,σ7,H7,I7,r7,q7⟩:=q7; exact ⟨x7,σ7,H7,I7.unpinned,r7,q7⟩
end
noncomputable abbrev R2:=V->V->Hp->VK->Prop
noncomputable def OpR (X:Cx) (f:Value->Value->Sem Value) (r:R2):Prop:=
 ∀ (pins:List (Addr × Obj)) (s:Shared) (σ:St) (H:Hp) (x y:V) (v u:Value) (Q:VK),Inv X pins σ H s->RelV x v->RelV y u->r x y H Q ->
  wpAny (model X.prog X.w) X.A (f v u) (EP X pins σ Q) X.xe s
noncomputable def UnR (X:Cx) (f:Value->Sem Value) (r:V->Hp->VK->Prop):Prop:=
 ∀ (pins:List (Addr × Obj)) (s:Shared) (σ:St) (H:Hp) (x:V) (v:Value) (Q:VK),Inv X pins σ H s->RelV x v->r x H Q ->
  wpAny (model X.prog X.w) X.A (f v) (EP X pins σ Q) X.xe s
noncomputable def a3s (X:Cx) (f:Value) (r:List V->Hp->VK->Prop):Prop:=
 ∀ (pins:List (Addr × Obj)) (s:Shared) (σ:St) (H:Hp) (xs:List V) (us:List Value) (Q:VK),Inv X pins σ H s->Vals xs us->r xs H Q ->
  wpAny (model X.prog X.w) X.A (call f us) (EP X pins σ Q) X.xe s
noncomputable def TruR (X:Cx) (r:V->Hp->(Bool->Hp->Prop)->Prop):Prop:=
 ∀ (pins:List (Addr × Obj)) (s:Shared) (σ:St) (H:Hp) (x:V) (v:Value) (Q:Bool->Hp->Prop),Inv X pins σ H s->RelV x v->r x H Q ->
  wpAny (model X.prog X.w) X.A (truthy v) (TP X pins σ Q) X.xe s
noncomputable def tOp (r:R2) (ta tb:TE):TE:=fun σ H Q=>ta σ H fun x H1=>tb σ H1 fun y H2=>r x y H2 Q
noncomputable def tUn (r:V->Hp->VK->Prop) (ta:TE):TE:=fun σ H Q=>ta σ H fun x H1=>r x H1 Q
noncomputable def rI (C:Int->Int->Prop) (g:Int->Int->V):R2:=fun x y H Q=>∃ i j,x = .int i/\y = .int j/\C i j/\Q (g i j) H
noncomputable def rI0 (g:Int->Int->V):R2:=fun x y H Q=>∃ i j,x = .int i/\y = .int j/\Q (g i j) H
noncomputable def rU (g:Int->V):V->Hp->VK->Prop:=fun x H Q=>∃ i,x = .int i/\Q (g i) H
section
variable {X:Cx} {a b c:Expr} {ta tb tc:TE} {pos:Pos}
theorem binT (ha:PE X a ta) (hb:PE X b tb) {pins:List (Addr × Obj)} {s:Shared} {σ:St} {H:Hp} {R:V->V->Hp->Prop} (I:Inv X pins σ H s)
  (h:ta σ H fun x H1=>tb σ H1 fun y H2=>R x y H2) {Q:Value->Shared->Prop} {f:Value->Value->Sem Value}
  (hf:∀ v u s2 x y H2,Inv X pins σ H2 s2->RelV x v->RelV y u->R x y H2->wpAny (model X.prog X.w) X.A (f v u) Q X.xe s2) :
  wpAny (model X.prog X.w) X.A (eval a X.env) (fun v s₁=>wpAny (model X.prog X.w) X.A (eval b X.env) (fun u s₂=>wpAny (model X.prog X.w) X.A (f v u) Q X.xe s₂) X.xe s₁) X.xe s:=by
 refine thn (ha pins s σ H _ I h) fun v s1 ⟨x,H1,I1,r1,q1⟩=>?_
 refine thn (hb pins s1 σ H1 _ I1 q1) fun u s2 ⟨y,H2,I2,r2,q2⟩=>?_
 exact hf v u s2 x y H2 I2 r1 r2 q2
theorem a0m {op:Operator} {r:R2} (ho:OpR X (binaryOp op) r) (ha:PE X a ta) (hb:PE X b tb):PE X (.BinOp a op b pos) (tOp r ta tb):=by
 intro pins s σ H Q I h
 exact wpAny_BinOp (binT ha hb I h fun v u s2 x y H2 I2 rx ry q=>ho pins s2 σ H2 x y v u Q I2 rx ry q)
theorem b8n {op:UnaryOp} {r:V->Hp->VK->Prop} (ho:UnR X (unaryOp op) r) (ha:PE X a ta):PE X (.UnaryOp op a pos) (tUn r ta):=by
 intro pins s σ H Q I h
 exact UnaryOp_ (thn (ha pins s σ H _ I h) fun v s1 ⟨x,H1,I1,r1,q1⟩=>ho pins s1 σ H1 x v Q I1 r1 q1)
theorem opI {f:Value->Value->Sem Value} {C:Int->Int->Prop} {g:Int->Int->Int}
  (rule:∀ (i j:Int) (t u:Tok) (s:Shared) (Q:Value->Shared->Prop) (E:Value->Shared->Prop),C i j->Q (.int (g i j) s.toks) { s with toks:=s.toks + 1 }->wpAny (model X.prog X.w) X.A (f (.int i t) (.int j u)) Q E s) :
  OpR X f (rI C fun i j=>.int (g i j)):=by
 intro pins s σ H x y v u Q I rx ry h
 obtain ⟨i,j,rfl,rfl,hc,q⟩:=h
 obtain ⟨t,rfl⟩:=rx
 obtain ⟨t',rfl⟩:=ry
 exact rule i j t t' s _ _ hc ⟨.int (g i j),H,I.tok _,⟨_,rfl⟩,q⟩
theorem opI0 {f:Value->Value->Sem Value} {g:Int->Int->Int}
  (rule:∀ (i j:Int) (t u:Tok) (s:Shared) (Q:Value->Shared->Prop) (E:Value->Shared->Prop),Q (.int (g i j) s.toks) { s with toks:=s.toks + 1 }->wpAny (model X.prog X.w) X.A (f (.int i t) (.int j u)) Q E s) :
  OpR X f (rI0 fun i j=>.int (g i j)):=by
 intro pins s σ H x y v u Q I rx ry h
 obtain ⟨i,j,rfl,rfl,q⟩:=h
 obtain ⟨t,rfl⟩:=rx
 obtain ⟨t',rfl⟩:=ry
 exact rule i j t t' s _ _ ⟨.int (g i j),H,I.tok _,⟨_,rfl⟩,q⟩
theorem opB0 {f:Value->Value->Sem Value} {g:Int->Int->Bool}
  (rule:∀ (i j:Int) (t u:Tok) (s:Shared) (Q:Value->Shared->Prop) (E:Value->Shared->Prop),Q (.bool (g i j)) s->wpAny (model X.prog X.w) X.A (f (.int i t) (.int j u)) Q E s) :
  OpR X f (rI0 fun i j=>.bl (g i j)):=by
 intro pins s σ H x y v u Q I rx ry h
 obtain ⟨i,j,rfl,rfl,q⟩:=h
 obtain ⟨t,rfl⟩:=rx
 obtain ⟨t',rfl⟩:=ry
 exact rule i j t t' s _ _ ⟨.bl (g i j),H,I,rfl,q⟩
noncomputable def CDiv (i j:Int):Prop:=0 < j/\j < 1073741824
noncomputable def CPow (i j:Int):Prop:=0<=j/\j<=1000000/\i.natAbs < 2 ^ 64
noncomputable def CMul (i j:Int):Prop:=(-(2 ^ 64) < i/\i < 2 ^ 64)\/(-(2 ^ 64) < j/\j < 2 ^ 64)
theorem CMul.ok {i j:Int} (h:CMul i j):IntMulOk i j:=by
 rcases h with ⟨h1,h2⟩ | ⟨h1,h2⟩
 ·exact .of_left (intBits_le_64 h1 h2)
 ·exact .of_right (intBits_le_64 h1 h2)
theorem op_add:OpR X (binaryOp .Add) (rI0 fun i j=>.int (i + j)):=opI0 fun _ _ _ _ _ _ _ q=>add_int q
theorem op_sub:OpR X (binaryOp .Sub) (rI0 fun i j=>.int (i - j)):=opI0 fun _ _ _ _ _ _ _ q=>sub_int q
theorem op_fdiv:OpR X (binaryOp .FloorDiv) (rI CDiv fun i j=>.int (i / j)):=opI fun i j _ _ _ _ _ hc q=>by
 have h1:(0:Int) < j:=hc.1
 have h2:j < 1073741824:=hc.2
 exact floordiv_int (by omega) (by rw [Int.fdiv_eq_ediv_of_nonneg i (by omega)]; exact q) (.inl (PyProof.noPylong_small (by omega)))
theorem op_mod:OpR X (binaryOp .Mod) (rI (fun _ j=>0 < j) fun i j=>.int (i % j)):=opI fun i j _ _ _ _ _ hc q=>by
 have h1:(0:Int) < j:=hc
 exact mod_int' (by omega) (by rw [Int.fmod_eq_emod_of_nonneg i (by omega)]; exact q)
theorem op_pow:OpR X (binaryOp .Pow) (rI CPow fun i j=>.int (i ^ j.toNat)):=opI fun _ _ _ _ _ _ _ hc q=>pow_int_small hc.1 hc.2.1 hc.2.2 q
theorem op_shl:OpR X (binaryOp .LShift) (rI CPow fun i j=>.int (i * 2 ^ j.toNat)):=opI fun _ _ _ _ _ _ _ hc q=>lshift_int_small hc.1 hc.2.1 hc.2.2 q
theorem iop_add:OpR X (inplaceOp .Add) (rI0 fun i j=>.int (i + j)):=opI0 fun _ _ _ _ _ _ _ q=>iadd_int q
theorem unI {f:Value->Sem Value} {g:Int->Int}
  (rule:∀ (i:Int) (t:Tok) (s:Shared) (Q:Value->Shared->Prop) (E:Value->Shared->Prop),Q (.int (g i) s.toks) { s with toks:=s.toks + 1 }->wpAny (model X.prog X.w) X.A (f (.int i t)) Q E s) :
  UnR X f (rU fun i=>.int (g i)):=by
 intro pins s σ H x v Q I rx h
 obtain ⟨i,rfl,q⟩:=h
 obtain ⟨t,rfl⟩:=rx
 exact rule i t s _ _ ⟨.int (g i),H,I.tok _,⟨_,rfl⟩,q⟩
theorem un_neg:UnR X (unaryOp .USub) (rU fun i=>.int (-i)):=unI fun _ _ _ _ _ q=>neg_int q
end
noncomputable def scal:V->V->Bool
 | .non,.non=>true | .non,.int _=>true | .int _,.non=>true | .non,.bl _=>true | .bl _,.non=>true | .non,.str _=>true | .str _,.non=>true
 | .int _,.int _=>true | .bl _,.bl _=>true | .str _,.str _=>true | .byt _,.byt _=>true
 | .int _,.str _=>true | .str _,.int _=>true | .bl _,.str _=>true | .str _,.bl _=>true
 | _,_=>false
noncomputable def rEq:R2:=fun x y H Q=>scal x y = true/\Q (.bl (decide (x = y))) H
noncomputable def rNe:R2:=fun x y H Q=>scal x y = true/\Q (.bl (!decide (x = y))) H
theorem c1w {i j:Int}:decide (V.int i = V.int j) = (i == j):=by
 rw [Bool.eq_iff_iff]
 simp
theorem c4j {i j:Bool}:decide (V.bl i = V.bl j) = (i == j):=by
 rw [Bool.eq_iff_iff]
 simp
theorem c1x {i j:Str}:decide (V.str i = V.str j) = (i == j):=by
 rw [Bool.eq_iff_iff]
 simp
theorem c1y {i j:Array UInt8}:decide (V.byt i = V.byt j) = (i.toList == j.toList):=by
 rw [Bool.eq_iff_iff]
 cases i
 cases j
 simp
section
variable {X:Cx} {a b c:Expr} {ta tb tc:TE} {pos:Pos}
theorem a1k {pins:List (Addr × Obj)} {σ:St} {H:Hp} {s:Shared} {Q:VK} {k k':Bool} (I:Inv X pins σ H s) (q:Q (.bl k) H) (e:k = k'):EP X pins σ Q (.bool k') s:=by
 subst e
 exact ⟨.bl k,H,I,rfl,q⟩
theorem op_eq:OpR X (compareOp .Eq) rEq:=by
 intro pins s σ H x y v u Q I rx ry h
 obtain ⟨hs,q⟩:=h
 cases x with
 | non=>
  cases rx
  cases y with
  | non=>cases ry; exact PySem.EqNone.eq_none_none (a1k I q (by simp))
  | bl j=>cases ry; exact PySem.EqNone.eq_none_bool (a1k I q (by simp))
  | int j=>obtain ⟨t',rfl⟩:=ry; exact PySem.EqNone.eq_none_int (a1k I q (by simp))
  | str j=>obtain ⟨t',rfl⟩:=ry; exact PySem.EqNone.eq_none_str (a1k I q (by simp))
  | _=>exact absurd (show false = true from hs) Bool.false_ne_true
 | bl i=>
  cases rx
  cases y with
  | non=>cases ry; exact PySem.EqNone.eq_bool_none (a1k I q (by simp))
  | bl j=>cases ry; exact eq_bool (a1k I q c4j)
  | str j=>obtain ⟨t',rfl⟩:=ry; exact PySem.EqMixed.eq_bool_str (a1k I q (by simp))
  | _=>exact absurd (show false = true from hs) Bool.false_ne_true
 | int i=>
  obtain ⟨t,rfl⟩:=rx
  cases y with
  | non=>cases ry; exact PySem.EqNone.eq_int_none (a1k I q (by simp))
  | int j=>obtain ⟨t',rfl⟩:=ry; exact eq_int (a1k I q c1w)
  | str j=>obtain ⟨t',rfl⟩:=ry; exact PySem.EqMixed.eq_int_str (a1k I q (by simp))
  | _=>exact absurd (show false = true from hs) Bool.false_ne_true
 | str i=>
  obtain ⟨t,rfl⟩:=rx
  cases y with
  | non=>cases ry; exact PySem.EqNone.eq_str_none (a1k I q (by simp))
  | bl j=>cases ry; exact PySem.EqMixed.eq_str_bool (a1k I q (by simp))
  | int j=>obtain ⟨t',rfl⟩:=ry; exact PySem.EqMixed.eq_str_int (a1k I q (by simp))
  | str j=>obtain ⟨t',rfl⟩:=ry; exact eq_str (a1k I q c1x)
  | _=>exact absurd (show false = true from hs) Bool.false_ne_true
 | byt i=>
  obtain ⟨t,rfl⟩:=rx
  cases y with
  | byt j=>obtain ⟨t',rfl⟩:=ry; exact W.eq_bytes (a1k I q c1y)
  | _=>exact absurd (show false = true from hs) Bool.false_ne_true
 | _=>cases y <;> exact absurd (show false = true from hs) Bool.false_ne_true
theorem op_ne:OpR X (compareOp .NotEq) rNe:=by
 intro pins s σ H x y v u Q I rx ry h
 obtain ⟨hs,q⟩:=h
 cases x with
 | non=>
  cases rx
  cases y with
  | non=>cases ry; exact PySem.EqNone.ne_none_none (a1k I q (by simp))
  | bl j=>cases ry; exact PySem.EqNone.ne_none_bool (a1k I q (by simp))
  | int j=>obtain ⟨t',rfl⟩:=ry; exact PySem.EqNone.ne_none_int (a1k I q (by simp))
  | str j=>obtain ⟨t',rfl⟩:=ry; exact PySem.EqNone.ne_none_str (a1k I q (by simp))
  | _=>exact absurd (show false = true from hs) Bool.false_ne_true
 | bl i=>
  cases rx
  cases y with
  | non=>cases ry; exact PySem.EqNone.ne_bool_none (a1k I q (by simp))
  | bl j=>cases ry; exact ne_bool (a1k I q (congrArg not c4j))
  | str j=>obtain ⟨t',rfl⟩:=ry; exact PySem.EqMixed.ne_bool_str (a1k I q (by simp))
  | _=>exact absurd (show false = true from hs) Bool.false_ne_true
 | int i=>
  obtain ⟨t,rfl⟩:=rx
  cases y with
  | non=>cases ry; exact PySem.EqNone.ne_int_none (a1k I q (by simp))
  | int j=>obtain ⟨t',rfl⟩:=ry; exact ne_int (a1k I q (congrArg not c1w))
  | str j=>obtain ⟨t',rfl⟩:=ry; exact PySem.EqMixed.ne_int_str (a1k I q (by simp))
  | _=>exact absurd (show false = true from hs) Bool.false_ne_true
 | str i=>
  obtain ⟨t,rfl⟩:=rx
  cases y with
  | non=>cases ry; exact PySem.EqNone.ne_str_none (a1k I q (by simp))
  | bl j=>cases ry; exact PySem.EqMixed.ne_str_bool (a1k I q (by simp))
  | int j=>obtain ⟨t',rfl⟩:=ry; exact PySem.EqMixed.ne_str_int (a1k I q (by simp))
  | str j=>obtain ⟨t',rfl⟩:=ry; exact ne_str (a1k I q (congrArg not c1x))
  | _=>exact absurd (show false = true from hs) Bool.false_ne_true
 | byt i=>
  obtain ⟨t,rfl⟩:=rx
  cases y with
  | byt j=>obtain ⟨t',rfl⟩:=ry; exact W.ne_bytes (a1k I q (congrArg not c1y))
  | _=>exact absurd (show false = true from hs) Bool.false_ne_true
 | _=>cases y <;> exact absurd (show false = true from hs) Bool.false_ne_true
theorem op_lt:OpR X (compareOp .Lt) (rI0 fun i j=>.bl (decide (i < j))):=opB0 fun _ _ _ _ _ _ _ q=>lt_int q
theorem op_le:OpR X (compareOp .LtE) (rI0 fun i j=>.bl (decide (i<=j))):=opB0 fun _ _ _ _ _ _ _ q=>le_int q
theorem op_gt:OpR X (compareOp .Gt) (rI0 fun i j=>.bl (decide (j < i))):=opB0 fun _ _ _ _ _ _ _ q=>gt_int q
theorem op_ge:OpR X (compareOp .GtE) (rI0 fun i j=>.bl (decide (j<=i))):=opB0 fun _ _ _ _ _ _ _ q=>ge_int q
theorem c4k:OpR X (compareOp .In) (fun x y H Q=>∃ i j,x = .str i/\y = .str j/\Q (.bl (!(Builtin.Str.occurrences j i 0 j.length 1).isEmpty)) H):=by
 intro pins s σ H x y v u Q I rx ry h
 obtain ⟨i,j,rfl,rfl,q⟩:=h
 obtain ⟨t,rfl⟩:=rx
 obtain ⟨t',rfl⟩:=ry
 exact in_str (a1k I q rfl)
theorem op_isN:OpR X (compareOp .Is) (fun x y H Q=>y = .non/\Q (.bl (decide (x = .non))) H):=by
 intro pins s σ H x y v u Q I rx ry h
 obtain ⟨rfl,q⟩:=h
 cases ry
 refine is_none_gen (a1k I q ?_)
 cases x <;> first
  | (cases rx; rfl)
  | (obtain ⟨t,rfl⟩:=rx; rfl)
theorem OpR.or {f:Value->Value->Sem Value} {r r':R2} (h:OpR X f r) (h':OpR X f r'):OpR X f (fun x y H Q=>r x y H Q\/r' x y H Q):=by
 intro pins s σ H x y v u Q I rx ry q
 rcases q with q | q
 ·exact h pins s σ H x y v u Q I rx ry q
 ·exact h' pins s σ H x y v u Q I rx ry q
theorem a0o (b:Expr) {op:CmpOp} (h:op ≠ .In:=by decide) (h2:op ≠ .NotIn:=by decide):behindInMarks op b = false:=by
 have e1:(op == CmpOp.In) = false:=by cases op <;> first | rfl | exact absurd rfl h
 have e2:(op == CmpOp.NotIn) = false:=by cases op <;> first | rfl | exact absurd rfl h2
 cases b <;> simp [behindInMarks,e1,e2]
theorem a1w {op:CmpOp} {r:R2} (ho:OpR X (compareOp op) r) (ha:PE X a ta) (hb:PE X b tb) (hm:behindInMarks op b = false):PE X (.Compare a [op] [b] pos) (tOp r ta tb):=by
 intro pins s σ H Q I h
 exact wpAny_Compare1 (binT ha hb I h fun v u s2 x y H2 I2 rx ry q=>ho pins s2 σ H2 x y v u Q I2 rx ry q) hm
noncomputable def tTest (t:TE):TT:=fun σ H Q=>t σ H fun x H'=>∃ k,x = .bl k/\Q k H'
theorem pt_cmpR {op:CmpOp} {r:R2} (ho:OpR X (compareOp op) r) (ha:PE X a ta) (hb:PE X b tb) (hm:behindInMarks op b = false):PT X (.Compare a [op] [b] pos) (tTest (tOp r ta tb)):=by
 intro pins s σ H Q I h
 refine wpAny_isTrue_Compare1 (thn (ha pins s σ H _ I h) fun v s1 ⟨x,H1,I1,r1,q1⟩=>thn (hb pins s1 σ H1 _ I1 q1) fun u s2 ⟨y,H2,I2,r2,q2⟩=>
  thn (ho pins s2 σ H2 x y v u _ I2 r1 r2 q2) fun c s3 ⟨z,H3,I3,r3,k,e,q3⟩=>?_) hm
 subst e
 cases r3
 exact wpAny_truthy_bool ⟨H3,I3,q3⟩
noncomputable def b9h (r r':R2) (ta tb tc:TE):TE:=fun σ H Q=>ta σ H fun x H1=>tb σ H1 fun y H2=>r x y H2 fun z H3=>∃ k,z = .bl k /\
 (if k = true then tc σ H3 fun w' H4=>r' y w' H4 Q else Q (.bl false) H3)
theorem c7r {op op':CmpOp} {r r':R2} (ho:OpR X (compareOp op) r) (ho':OpR X (compareOp op') r') (ha:PE X a ta) (hb:PE X b tb) (hc:PE X c tc)
  (hm:lastMarks [op,op'] [b,c] = false:=by with_unfolding_all rfl):PT X (.Compare a [op,op'] [b,c] pos) (tTest (b9h r r' ta tb tc)):=by
 intro pins s σ H Q I h
 refine isTrue_chain (thn (ha pins s σ H _ I h) fun v s1 ⟨x,H1,I1,r1,q1⟩=>test_link (thn (hb pins s1 σ H1 _ I1 q1) fun u s2 ⟨y,H2,I2,r2,q2⟩=>
  thn (ho pins s2 σ H2 x y v u _ I2 r1 r2 q2) fun d s3 ⟨z,H3,I3,r3,k,e,q3⟩=>?_)) hm
 subst e
 cases r3
 refine wpAny_truthy_bool ?_
 cases k with
 | false=>
  obtain ⟨k',e',q'⟩:=q3
  cases e'
  exact ite_ff ⟨H3,I3,q'⟩
 | true=>
  refine ite_tt (test_last (thn (hc pins s3 σ H3 _ I3 q3) fun w' s4 ⟨z',H4,I4,r4,q4⟩=>thn (ho' pins s4 σ H4 y z' u w' _ I4 r2 r4 q4) fun d' s5 ⟨z2,H5,I5,r5,k2,e2,q5⟩=>?_))
  subst e2
  cases r5
  exact wpAny_truthy_bool ⟨H5,I5,q5⟩
noncomputable def TruV (K:W.Frag) (x:V) (H:Hp) (k:Bool):Prop:=
 match x with
 | .non=>k = false
 | .bl b=>k = b
 | .int i=>k = (i != 0)
 | .str y=>y.length<=sizeLine/\k = ((y.length:Int) != 0)
 | .byt y=>y.size<=sizeLine/\k = ((y.size:Int) != 0)
 | .ref p=>(∃ xs,SqL K H p xs/\k = !xs.isEmpty)\/(∃ xs,SqT K H p xs/\k = !xs.isEmpty)\/∃ kvs,H p = some (.dK kvs)/\k = !kvs.isEmpty
 | _=>False
theorem c2x {κ:Type} {kvs:List (κ × V)} {vs:List (κ × Value)} (r:KV kvs vs):(!vs.isEmpty) = !kvs.isEmpty:=by
 cases r <;> rfl
theorem b5k {xs:List V} {its:List Value} (r:Vals xs its):(!its.toArray.isEmpty) = !xs.isEmpty:=by
 cases r <;> simp
theorem b2w:(sizeLine:Nat) < 2 ^ 63:=by rw [sizeLine_eq]; decide
theorem c4l:TruR X (fun x H Q=>∃ k,TruV X.K x H k/\Q k H):=by
 intro pins s σ H x v Q I rx h
 obtain ⟨k,e,q⟩:=h
 have hl:=b2w
 have hs:sizeLine = 16777216:=sizeLine_eq
 cases x with
 | non=>
  cases rx
  have e':k = false:=e
  subst e'
  exact truthy_none ⟨H,I,q⟩
 | bl b=>
  cases rx
  have e':k = b:=e
  subst e'
  exact wpAny_truthy_bool ⟨H,I,q⟩
 | int i=>
  obtain ⟨t,rfl⟩:=rx
  have e':k = (i != 0):=e
  subst e'
  exact PySem.P.truthy_int ⟨H,I,q⟩
 | str y=>
  obtain ⟨t,rfl⟩:=rx
  obtain ⟨hy,e'⟩:y.length<=sizeLine/\k = ((y.length:Int) != 0):=e
  subst e'
  exact PySem.P.truthy_str (by omega) ⟨H,I.tok _,q⟩
 | byt y=>
  obtain ⟨t,rfl⟩:=rx
  obtain ⟨hy,e'⟩:y.size<=sizeLine/\k = ((y.size:Int) != 0):=e
  subst e'
  exact W.truthy_bytes (by omega) ⟨H,I.tok _,q⟩
 | ref p=>
  cases rx
  have e':(∃ xs,SqL X.K H p xs/\k = !xs.isEmpty)\/(∃ xs,SqT X.K H p xs/\k = !xs.isEmpty)\/∃ kvs,H p = some (.dK kvs)/\k = !kvs.isEmpty:=e
  rcases e' with ⟨xs,hx,e'⟩ | ⟨xs,hx,e'⟩ | ⟨kvs,hx,e'⟩
  ·subst e'
   obtain ⟨its,r,pl,hz⟩:=I.list hx
   have hlen:=r.length
   exact wpAny_truthy_list pl.isList (by simp only [List.size_toArray]; omega) ⟨H,I.tok _,by rw [b5k r]; exact q⟩
  ·subst e'
   obtain ⟨its,r,pl,hz⟩:=I.tuple hx
   have hlen:=r.length
   exact truthy_tuple pl (by simp only [List.size_toArray]; omega) ⟨H,I.tok _,by rw [b5k r]; exact q⟩
  ·subst e'
   obtain ⟨hz,hS,vs,r,m⟩:kvs.length<=sizeLine/\(p == sysModules) = false/\∃ vs,KV kvs vs/\s.heap.DictOf (a1i X.prog X.w) p vs:=I.hok p _ hx
   have hlen:kvs.length = vs.length:=Paired.length r
   exact wpAny_truthy_dict hS m (by omega) ⟨H,I.tok _,by rw [c2x r]; exact q⟩
 | _=>exact (show False from e).elim
theorem c2y:OpR X (binaryOp .Add) (fun x y H Q=>∃ i j,x = .str i/\y = .str j/\i.length + j.length<=sizeLine/\Q (.str (i ++ j)) H):=by
 intro pins s σ H x y v u Q I rx ry h
 obtain ⟨i,j,rfl,rfl,hz,q⟩:=h
 obtain ⟨t,rfl⟩:=rx
 obtain ⟨t',rfl⟩:=ry
 exact add_str (fun t' tk=>⟨.str (i ++ j),H,I.tok _,⟨_,rfl⟩,q⟩) hz
theorem c1i:OpR X (inplaceOp .Add) (fun x y H Q=>∃ i j,x = .str i/\y = .str j/\i.length + j.length<=sizeLine/\Q (.str (i ++ j)) H):=by
 intro pins s σ H x y v u Q I rx ry h
 obtain ⟨i,j,rfl,rfl,hz,q⟩:=h
 obtain ⟨t,rfl⟩:=rx
 obtain ⟨t',rfl⟩:=ry
 exact iadd_str (fun t' tk=>⟨.str (i ++ j),H,I.tok _,⟨_,rfl⟩,q⟩) hz
theorem vals1 {x:V} {us:List Value} (r:Vals [x] us):∃ u,us = [u]/\RelV x u:=by
 cases r with
 | cons r1 r2=>cases r2; exact ⟨_,rfl,r1⟩
theorem vals2 {x y:V} {us:List Value} (r:Vals [x,y] us):∃ u w',us = [u,w']/\RelV x u/\RelV y w':=by
 cases r with
 | cons r1 r2=>
  cases r2 with
  | cons r3 r4=>cases r4; exact ⟨_,_,rfl,r1,r3⟩
theorem c4m (hc:X.calm = true):a3s X (.builtin "min") (fun xs H Q=>∃ i j,xs = [.int i,.int j]/\Q (.int (if j < i then j else i)) H):=by
 intro pins s σ H xs us Q I r h
 obtain ⟨i,j,rfl,q⟩:=h
 obtain ⟨u,w',rfl,⟨t,rfl⟩,⟨t',rfl⟩⟩:=vals2 r
 refine min_two_ints (I.ok.hd hc) fun h' tk k=>⟨_,H,I.kept k,?_,q⟩
 by_cases hj:j < i
 ·rw [if_pos hj,if_pos hj]; exact ⟨_,rfl⟩
 ·rw [if_neg hj,if_neg hj]; exact ⟨_,rfl⟩
theorem c4n:a3s X (.type "int") (fun xs H Q=>(∃ i,xs = [.int i]/\Q (.int i) H)\/∃ k,xs = [.bl k]/\Q (.int (if k then 1 else 0)) H):=by
 intro pins s σ H xs us Q I r h
 rcases h with ⟨i,rfl,q⟩ | ⟨k,rfl,q⟩
 ·obtain ⟨u,rfl,t,rfl⟩:=vals1 r
  exact call_int_int ⟨.int i,H,I,⟨_,rfl⟩,q⟩
 ·obtain ⟨u,rfl,r1⟩:=vals1 r
  cases r1
  exact call_int_bool ⟨.int (if k then 1 else 0),H,I.tok _,⟨_,rfl⟩,q⟩
noncomputable def LenV (K:W.Frag) (x:V) (H:Hp) (n:Nat):Prop:=
 match x with
 | .str y=>y.length<=sizeLine/\n = y.length
 | .byt y=>y.size<=sizeLine/\n = y.size
 | .ref p=>(∃ xs,SqL K H p xs/\n = xs.length)\/∃ xs,SqT K H p xs/\n = xs.length
 | _=>False
theorem c7s:a3s X (.builtin "len") (fun xs H Q=>∃ x n,xs = [x]/\LenV X.K x H n/\Q (.int n) H):=by
 intro pins s σ H xs us Q I r h
 obtain ⟨x,n,rfl,e,q⟩:=h
 obtain ⟨u,rfl,rx⟩:=vals1 r
 have hl:=b2w
 have hs:sizeLine = 16777216:=sizeLine_eq
 cases x with
 | str y=>
  obtain ⟨t,rfl⟩:=rx
  obtain ⟨hy,e'⟩:y.length<=sizeLine/\n = y.length:=e
  subst e'
  exact len_str (by omega) ⟨.int _,H,I.tok _,⟨_,rfl⟩,q⟩
 | byt y=>
  obtain ⟨t,rfl⟩:=rx
  obtain ⟨hy,e'⟩:y.size<=sizeLine/\n = y.size:=e
  subst e'
  exact W.len_bytes (by omega) ⟨.int _,H,I.tok _,⟨_,rfl⟩,q⟩
 | ref p=>
  cases rx
  have e':(∃ xs,SqL X.K H p xs/\n = xs.length)\/∃ xs,SqT X.K H p xs/\n = xs.length:=e
  rcases e' with ⟨xs,hx,e'⟩ | ⟨xs,hx,e'⟩
  ·subst e'
   obtain ⟨its,r',pl,hz⟩:=I.list hx
   have hlen:=r'.length
   exact Calls.call_len_list pl.isList (by simp only [List.size_toArray]; omega) ⟨.int xs.length,H,I.tok _,⟨_,by simp only [List.size_toArray]; rw [hlen]⟩,q⟩
  ·subst e'
   obtain ⟨its,r',pl,hz⟩:=I.tuple hx
   have hlen:=r'.length
   exact len_tuple pl (by simp only [List.size_toArray]; omega) ⟨.int xs.length,H,I.tok _,⟨_,by simp only [List.size_toArray]; rw [hlen]⟩,q⟩
 | _=>exact (show False from e).elim
end
structure ObjM (h:Heap) (x dx C:Addr) (mA:Str->Option Value):Prop where
 obj:h.get? x = some (W.instObj C dx)
 ns:h.Ns1 dx mA
 ne:dx ≠ x
theorem c4o {h:Heap} {dx:Addr} {mA:Str->Option Value} (n:h.Ns1 dx mA):∃ od,h.get? dx = some od/\∀ name,W.lookIn name od = some (mA name):=by
 obtain ⟨o,es,ep,ho,hd,hk,_,hm⟩:=n
 refine ⟨o,ho,fun name=>?_⟩
 have e:=hm name
 unfold nsFind findBy at e
 rw [<- Array.find?_toList] at e
 unfold W.lookIn
 rw [hd]
 dsimp only
 split
 ·rename_i y q
  rw [q] at e
  exact congrArg some e
 ·rename_i q
  rw [q] at e
  have a:es.toList.any (·.refKey) = false:=by
   rw [List.any_eq_false]
   intro y hy
   obtain ⟨z,t,hkey⟩:=hk y (Array.mem_toList_iff.mp hy)
   simp [DictEntry.refKey,hkey]
  have a':¬ es.toList.any (·.refKey) = true:=by rw [a]; exact Bool.false_ne_true
  rw [if_neg a']
  exact congrArg some e
theorem ObjM.look {h:Heap} {x dx C:Addr} {mA:Str->Option Value} (I:ObjM h x dx C mA):∃ od,W.InstAt h x (W.instObj C dx) C (some od)/\∀ name,W.lookIn name od = some (mA name):=
 let ⟨od,ho,hl⟩:=c4o I.ns
 ⟨od,⟨I.obj,rfl,rfl,ho⟩,hl⟩
section
variable {prog:Program} {w:World} {A:Around} {E:Value->Shared->Prop} {s:Shared} {K:W.Frag} {x dx C f:Addr} {mA:Str->Option Value} {name:Str} {v:Value}
theorem get_map {expr:Bool} {Q:Value->Shared->Prop} (X:K.In s.heap) (I:ObjM s.heap x dx C mA) (hg:W.plainGet K C name = true) (hh:W.hasDictIn K C = true)
  (ha:W.findIn K (.ref C) name = some none) (hv:mA name = some v) (hv':W.handedIn v = true) (h:Q v { s with toks:=s.toks + 1 }) :
  wpAny (model prog w) A (getAttr (.ref x) name expr) Q E s:=by
 obtain ⟨od,J,hl⟩:=I.look
 exact W.get_value X J (W.plainGet_of hg).1 (W.findObj_own hh ha rfl (by rw [hl,hv])) hv' h
theorem c7t {pl:Sem Bool} {Q:Value × List Value->Shared->Prop} (X:K.In s.heap) (I:ObjM s.heap x dx C mA) (hg:W.plainGet K C name = true)
  (hf:W.findIn K (.ref C) name = some (some (.ref f))) (ht:W.isFn K (.ref f) = true) (hv:mA name = none) (h:Q (.ref f,[.ref x]) s) :
  wpAny (model prog w) A (getMethod (.ref x) name pl) Q E s:=by
 obtain ⟨od,J,hl⟩:=I.look
 exact W.method_fn X J (W.plainGet_of hg).1 (W.plainGet_of hg).2 hf (beq_iff_eq.mp ht) (by show (W.lookIn name od).map (·.isSome) = some false; rw [hl,hv]; rfl) h
theorem set_map {ns:List Str} {Q:Unit->Shared->Prop} (X:K.In s.heap) (I:ObjM s.heap x dx C mA)
  (hs:W.findIn K (.ref C) "__setattr__" = some (some (.builtin "object.__setattr__"))) (hp:W.plainOver K C = true) (ht:W.takerIn K C name = some none) (hh:W.hasDictIn K C = true)
  (hw:PySem.Within mA ns) (hsz:ns.length<=sizeLine)
  (h:∀ h',ObjM h' x dx C (fun y=>if y = name then some v else mA y)->Heap.SameBut dx s.heap h'->Q () { s with heap:=h',toks:=s.toks + 2 }) :
  wpAny (model prog w) A (setAttr (.ref x) name v) Q E s:=by
 obtain ⟨od,J,hl⟩:=I.look
 refine W.set_plain X J hs (W.osa_open (s:={ s with toks:=s.toks + 1 }) (r:=none) X J hp ht fun b=>?_)
 obtain ⟨cd,hc,hd'⟩:=W.any_some hh
 have hx:s.heap.get? x = some ⟨.ref C,some dx,.plain,#[]⟩:=I.obj
 refine wpAny_bind (wpAny_pure (wpAny_bind (wpAny_bind (wpAny_loadPart hx (wpAny_bind (W.Looks.here (s:={ s with toks:=s.toks + 1 }) (W.looks_clsIn X hc) ?_))))))
 rw [hd']
 refine wpAny_pure (a:=some dx) (wpAny_bind (wpAny_pure (wpAny_bind ?_)))
 refine wpAny_nsSet1 (s:={ s with toks:=s.toks + 1 }) I.ns fun h' hn2 hs2=>?_
 obtain ⟨oD,esD,epD,hoD,hdD,hcD⟩:=hn2.count (PySem.Within.cons name v hw)
 refine wpAny_bind (wpAny_lookBehind hoD (by rw [hdD]; exact pastItsLine_dict (Nat.le_trans hcD (by rw [List.length_cons]; omega))) ?_)
 exact wpAny_pure (h _ ⟨(hs2.2 _ (Ne.symm I.ne)).trans I.obj,hn2,I.ne⟩ hs2)
theorem c7u {R:Result->Shared->Prop} {vs:List Value} {kw:List (Str × Value)} (X:K.In s.heap) (hm:W.makesIn K C = true)
  (hi:W.findIn K (.ref C) "__init__" = some (some (.ref f))) (hf:W.typeIn K (.ref f) = some (.type "function"))
  (h:codeAny (model prog w) (A.under (.builtin "type.__call__" ⟨.ref C :: vs,kw⟩)) (.call (.ref f) ⟨.ref (s.heap.objs.size + 1) :: vs,kw⟩) (W.InitBack (s.heap.objs.size + 1) R)
   { s with heap:=(s.heap.push W.emptyDict).push (W.instObj C s.heap.objs.size) }) :
  codeAny (model prog w) A (.call (.ref C) ⟨vs,kw⟩) R s:=by
 obtain ⟨hh,g,d,t,os⟩:=s
 exact W.make_core (W.makes_of X hm) (W.looks_findIn X hi) (fun self=>W.bind_fn X self hf) (.inl rfl) h
end
noncomputable def putF (f:Str) (v:V):List (Str × V)->List (Str × V)
 | []=>[(f,v)]
 | (g,x) :: r=>if g = f then (g,v) :: r else (g,x) :: putF f v r
theorem b4h (f g:Str) (v:V):∀ fs:List (Str × V),(putF f v fs).lookup g = if g = f then some v else fs.lookup g
 | []=>by
  show List.lookup g [(f,v)] = _
  by_cases h:g = f
  ·have hb:(g == f) = true:=beq_iff_eq.mpr h
   simp only [List.lookup,hb,if_pos h]
  ·have hb:(g == f) = false:=beq_eq_false_iff_ne.mpr h
   simp only [List.lookup,hb,if_neg h]
 | (k,x) :: r=>by
  have ih:=b4h f g v r
  rw [show putF f v ((k,x) :: r) = (if k = f then (k,v) :: r else (k,x) :: putF f v r) from rfl]
  by_cases hk:k = f
  ·rw [if_pos hk]
   by_cases h:g = k
   ·have hb:(g == k) = true:=beq_iff_eq.mpr h
    simp only [List.lookup,hb,if_pos (h.trans hk)]
   ·have hb:(g == k) = false:=beq_eq_false_iff_ne.mpr h
    simp only [List.lookup,hb,if_neg (fun e:g = f=>h (e.trans hk.symm))]
  ·rw [if_neg hk]
   by_cases h:g = k
   ·have hb:(g == k) = true:=beq_iff_eq.mpr h
    simp only [List.lookup,hb,if_neg (fun e:g = f=>hk (h.symm.trans e))]
   ·have hb:(g == k) = false:=beq_eq_false_iff_ne.mpr h
    simp only [List.lookup,hb]
    exact ih
theorem b2x (f:Str) (v:V):∀ fs:List (Str × V),f ∈ (putF f v fs).map (·.1)/\∀ g,g ∈ fs.map (·.1)->g ∈ (putF f v fs).map (·.1)
 | []=>⟨by simp [putF],fun g h=>by simp at h⟩
 | (k,x) :: r=>by
  obtain ⟨i1,i2⟩:=b2x f v r
  rw [show putF f v ((k,x) :: r) = (if k = f then (k,v) :: r else (k,x) :: putF f v r) from rfl]
  by_cases hk:k = f
  ·rw [if_pos hk]
   subst hk
   exact ⟨by simp,fun g h=>by simpa using h⟩
  ·rw [if_neg hk]
   refine ⟨?_,fun g h=>?_⟩
   ·rw [List.map_cons]
    exact List.mem_cons_of_mem _ i1
   ·rw [List.map_cons] at h ⊢
    rcases List.mem_cons.mp h with e | e
    ·exact List.mem_cons.mpr (.inl e)
    ·exact List.mem_cons_of_mem _ (i2 g e)
theorem b4i (f:Str) (v:V):∀ fs:List (Str × V),(putF f v fs).length<=fs.length + 1
 | []=>by simp [putF]
 | (k,x) :: r=>by
  have ih:=b4i f v r
  rw [show putF f v ((k,x) :: r) = (if k = f then (k,v) :: r else (k,x) :: putF f v r) from rfl]
  by_cases hk:k = f
  ·rw [if_pos hk,List.length_cons,List.length_cons]; omega
  ·rw [if_neg hk,List.length_cons,List.length_cons]; omega
theorem RelO.some_of {v:V} {o:Option Value} (r:RelO (some v) o):∃ u,o = some u/\RelV v u:=by
 cases o with
 | none=>exact (show False from r).elim
 | some u=>exact ⟨u,rfl,r⟩
theorem RelO.none_of {o:Option Value} (r:RelO none o):o = none:=by
 cases o with
 | none=>rfl
 | some u=>exact (show False from r).elim
theorem c4p {v:V} {u:Value} (r:RelV v u):W.handedIn u = true:=by
 cases v with
 | non=>cases (show u = Value.none from r); rfl
 | bl b=>cases (show u = Value.bool b from r); rfl
 | int i=>obtain ⟨t,e⟩:=(show ∃ t,u = Value.int i t from r); cases e; rfl
 | str x=>obtain ⟨t,e⟩:=(show ∃ t,u = Value.str x t from r); cases e; rfl
 | byt b=>obtain ⟨t,e⟩:=(show ∃ t,u = Value.bytes b t from r); cases e; rfl
 | flt b=>obtain ⟨t,e⟩:=(show ∃ t,u = Value.float b t from r); cases e; rfl
 | ref a=>cases (show u = Value.ref a from r); rfl
 | ty n=>cases (show u = Value.type n from r); rfl
section
variable {P:Program} {w:World} {H H':Hp} {h h':Heap} {a C dx:Addr} {fs fs':List (Str × V)}
theorem b3s (hok:HOk P w H h) (e:H a = some (.ins C dx fs)):∃ mA,ObjM h a dx C mA/\(∀ f,RelO (fs.lookup f) (mA f))/\PySem.Within mA (fs.map (·.1))/\fs.length<=1000/\H dx = some (.own a):=by
 obtain ⟨d,z,ne,ob,mA,n,r,q⟩:=(show a2e P w H h a (.ins C dx fs) from hok a _ e)
 exact ⟨mA,⟨ob,n,ne⟩,r,q,z,d⟩
end
structure Cls (K:W.Frag) (C:Addr):Prop where
 pg:W.plainGet K C Str.empty = true
 hd:W.hasDictIn K C = true
 po:W.plainOver K C = true
 sa:W.findIn K (.ref C) "__setattr__" = some (some (.builtin "object.__setattr__"))
theorem Cls.get {K:W.Frag} {C:Addr} (c:Cls K C) (f:Str):W.plainGet K C f = true:=c.pg
noncomputable def a3h (K:W.Frag) (C:Addr) (f:Str):Prop:=W.findIn K (.ref C) f = some none
theorem a3h.taker {K:W.Frag} {C:Addr} {f:Str} (n:a3h K C f):W.takerIn K C f = some none:=by
 unfold W.takerIn
 rw [show W.findIn K (.ref C) f = some none from n]
 rfl
structure Meth (K:W.Frag) (C:Addr) (m:Str) (f:Addr):Prop where
 at_:W.findIn K (.ref C) m = some (some (.ref f))
 fn:W.isFn K (.ref f) = true
 kp:W.keepIn K (.ref f) = true
section
variable {X:Cx} {pins:List (Addr × Obj)} {σ:St} {H:Hp} {s:Shared} {a C dx:Addr} {fs:List (Str × V)} {f:Str} {v:V} {A:Around} {E:Value->Shared->Prop}
theorem b5l {b:Bool} {Q:Value->Shared->Prop} (I:Inv X pins σ H s) (e:H a = some (.ins C dx fs)) (c:Cls X.K C) (n:a3h X.K C f) (l:fs.lookup f = some v)
  (h:∀ u s',Inv X pins σ H s'->RelV v u->Q u s'):wpAny (model X.prog X.w) A (getAttr (.ref a) f b) Q E s:=by
 obtain ⟨mA,O,r,_,_,_⟩:=b3s I.hok e
 obtain ⟨u,hu,ru⟩:=RelO.some_of (v:=v) (o:=mA f) (by rw [<- l]; exact r f)
 exact get_map I.kIn O (c.get f) c.hd n hu (c4p ru) (h u _ (I.tok _) ru)
theorem b5m {m:Str} {g:Addr} {pl:Sem Bool} {Q:Value × List Value->Shared->Prop} (I:Inv X pins σ H s) (e:H a = some (.ins C dx fs)) (c:Cls X.K C) (k:Meth X.K C m g) (l:fs.lookup m = none)
  (h:Q (.ref g,[.ref a]) s):wpAny (model X.prog X.w) A (getMethod (.ref a) m pl) Q E s:=by
 obtain ⟨mA,O,r,_,_,_⟩:=b3s I.hok e
 have hn:mA m = none:=RelO.none_of (by rw [<- l]; exact r m)
 exact c7t I.kIn O (c.get m) k.at_ k.fn hn h
theorem b5n {y:V} {u:Value} {Q:Unit->Shared->Prop} (I:Inv X pins σ H s) (e:H a = some (.ins C dx fs)) (c:Cls X.K C) (n:a3h X.K C f) (hl:fs.length < 1000) (ry:RelV y u)
  (h:∀ s',Inv X pins σ (upd H a (.ins C dx (putF f y fs))) s'->Q () s'):wpAny (model X.prog X.w) A (setAttr (.ref a) f u) Q E s:=by
 obtain ⟨mA,O,r,wi,_,ho⟩:=b3s I.hok e
 have hz:(fs.map (·.1)).length<=sizeLine:=by rw [List.length_map,sizeLine_eq]; omega
 refine set_map I.kIn O c.sa c.po n.taker c.hd wi hz fun h' O' sb=>h _ ?_
 have hd:∃ o,h'.get? dx = some o:=let ⟨o,_,_,e',_⟩:=O'.ns; ⟨o,e'⟩
 refine I.write (x:=a) (e:=dx) (by rw [e]; exact True.intro) (.inr ho) (fun b q hb z=>(sb.2 b hb).trans z) hd ?_
 refine ⟨by rw [a0n O.ne]; exact ho,?_,O.ne,O'.obj,_,O'.ns,fun g=>?_,fun g hg=>?_⟩
 ·have:=b4i f y fs; omega
 ·show RelO ((putF f y fs).lookup g) (if g = f then some u else mA g)
  rw [b4h]
  by_cases q:g = f
  ·rw [if_pos q,if_pos q]; exact ry
  ·rw [if_neg q,if_neg q]; exact r g
 ·by_cases q:g = f
  ·rw [q]; exact (b2x f y fs).1
  ·refine (b2x f y fs).2 g (wi g fun z=>hg ?_)
   show (if g = f then some u else mA g) = none
   rw [if_neg q]; exact z
theorem Inv.made (I:Inv X pins σ H s):Inv X pins σ (upd (upd H s.heap.objs.size (.own (s.heap.objs.size + 1))) (s.heap.objs.size + 1) (.ins C s.heap.objs.size []))
  { s with heap:=(s.heap.push W.emptyDict).push (W.instObj C s.heap.objs.size) }:=by
 have e1:(s.heap.push W.emptyDict).get? s.heap.objs.size = some W.emptyDict:=Heap.get?_push_size s.heap rfl
 have e2:((s.heap.push W.emptyDict).push (W.instObj C s.heap.objs.size)).get? (s.heap.objs.size + 1) = some (W.instObj C s.heap.objs.size):=by
  have:=Heap.get?_push_size (s.heap.push W.emptyDict) (o:=W.instObj C s.heap.objs.size) rfl
  rwa [Heap.size_push] at this
 have e3:(s.heap.push W.emptyDict).Ns s.heap.objs.size (fun _=>none):=⟨W.emptyDict,#[],_,e1,rfl,(fun e he=>absurd he (by simp)),fun _=>rfl⟩
 have I1:=I.laid (a:=s.heap.objs.size) (o:=.own (s.heap.objs.size + 1)) (h':=s.heap.push W.emptyDict) (t':=s.toks) (fun b u q=>Heap.get?_push_of_some _ q) (Nat.le_refl _) ⟨_,e1⟩
 refine I1.laid (a:=s.heap.objs.size + 1) (o:=.ins C s.heap.objs.size []) (t':=s.toks) (fun b u q=>Heap.get?_push_of_some _ q) (Nat.le_of_eq (Heap.size_push _ _)) ?_
 have ne:s.heap.objs.size ≠ s.heap.objs.size + 1:=Nat.ne_of_lt (Nat.lt_succ_self _)
 refine ⟨by rw [a0n ne,a0d],Nat.zero_le _,ne,e2,fun _=>none,(Heap.Ns1.of_empty e3).at fun o q=>Heap.get?_push_of_some _ q,fun _=>True.intro,fun y hy=>absurd rfl hy⟩
theorem attr_of {prog:Program} {w:World} {env:Env} {e:Expr} {f:Str} {pos:Pos} {s:Shared} {Q:Value->Shared->Prop} (hb:attributeBase e f env (eval e env) = eval e env)
  (h:wpAny (model prog w) A (eval e env) (fun o s₁=>wpAny (model prog w) A (getAttr o f true) Q E s₁) E s):wpAny (model prog w) A (eval (.Attribute e f pos) env) Q E s:=
 Attribute_any_ h (by rw [arm_eval_Attribute,hb])
end
noncomputable def tFld (K:W.Frag) (ta:TE) (f:Str):TE:=fun σ H Q=>ta σ H fun x H1=>∃ a C dx fs v,x = .ref a/\H1 a = some (.ins C dx fs)/\Cls K C/\a3h K C f/\fs.lookup f = some v/\Q v H1
noncomputable def sFld (K:W.Frag) (ta tv:TE) (f:Str):TS:=fun D σ H=>tv σ H fun y H1=>ta σ H1 fun x H2=>∃ a C dx fs,x = .ref a/\H2 a = some (.ins C dx fs)/\Cls K C/\a3h K C f/\fs.length < 1000 /\
 D.nx σ (upd H2 a (.ins C dx (putF f y fs)))
noncomputable def InOp (X:Cx) (op:Operator) (rd:V->V->Hp->VK->Prop):Prop:=
 ∀ (pins:List (Addr × Obj)) (s:Shared) (σ:St) (H:Hp) (x y:V) (u v:Value) (Q:VK),Inv X pins σ H s->RelV x u->RelV y v->rd x y H Q->wpAny (model X.prog X.w) X.A (inplaceOp op u v) (EP X pins σ Q) X.xe s
noncomputable def c1z (K:W.Frag) (ta tv:TE) (rd:V->V->Hp->VK->Prop) (f:Str):TS:=fun D σ H=>ta σ H fun x H1=>∃ a C dx fs v,x = .ref a/\H1 a = some (.ins C dx fs)/\Cls K C/\a3h K C f/\fs.lookup f = some v /\
 tv σ H1 fun y H2=>rd v y H2 fun z H3=>∃ dx' fs',H3 a = some (.ins C dx' fs')/\fs'.length < 1000/\D.nx σ (upd H3 a (.ins C dx' (putF f z fs')))
section
variable {X:Cx} {o e value:Expr} {f:Str} {pos pos' tpos:Pos} {ta tv:TE}
theorem a4g (he:PE X e ta) (hb:attributeBase e f X.env (eval e X.env) = eval e X.env):PE X (.Attribute e f pos) (tFld X.K ta f):=by
 intro pins s σ H Q I h
 refine attr_of hb (thn (he pins s σ H _ I h) fun u s1 ⟨x,H1,I1,rx,a,C,dx,fs,v,ex,ea,c,n,l,q⟩=>?_)
 subst ex
 obtain rfl:u = Value.ref a:=rx
 exact b5l I1 ea c n l fun u' s2 I2 ru=>⟨v,H1,I2,ru,q⟩
theorem b2y (ha:PE X o ta) (hv:PE X value tv) (hs:swapsWith value (some (.Attribute o f pos')) pos.line X.env = pure false):PS X (.Assign [.Attribute o f pos'] value pos) (sFld X.K ta tv f):=by
 intro pins s σ H D I h
 refine plainObj_wpAny_Assign_Attribute (thn (hv pins s σ H _ I h) fun u s1 ⟨y,H1,I1,ry,q⟩=>thn (ha pins s1 σ H1 _ I1 q) fun ov s2 ⟨x,H2,I2,rx,a,C,dx,fs,ex,ea,c,n,l,q2⟩=>?_) hs
 subst ex
 obtain rfl:ov = Value.ref a:=rx
 exact b5n I2 ea c n l ry fun s3 I3=>⟨σ,_,I3,q2⟩
theorem c4q {op:Operator} {rd:V->V->Hp->VK->Prop} (ha:PE X o ta) (hv:PE X value tv) (hop:InOp X op rd):PS X (.AugAssign (.Attribute o f tpos) op value pos) (c1z X.K ta tv rd f):=by
 intro pins s σ H D I h
 refine wpAny_AugAssign_AttributeAny (thn (ha pins s σ H _ I h) fun ov s1 ⟨x,H1,I1,rx,a,C,dx,fs,v,ex,ea,c,n,l,q⟩=>?_)
 subst ex
 obtain rfl:ov = Value.ref a:=rx
 refine b5l I1 ea c n l fun u s2 I2 ru=>thn (hv pins s2 σ H1 _ I2 q) fun w3 s3 ⟨y,H2,I3,ry,q3⟩=>thn (hop pins s3 σ H2 v y u w3 _ I3 ru ry q3) fun w4 s4 ⟨z,H3,I4,rz,dx',fs',ea',l',q4⟩=>?_
 exact b5n I4 ea' c n l' rz fun s5 I5=>⟨σ,_,I5,q4⟩
end
section
variable {X:Cx} {pins:List (Addr × Obj)} {σ:St} {H:Hp} {s:Shared} {A:Around} {E:Value->Shared->Prop} {Q:Value->Shared->Prop} {c:Value} {b:Bool}
inductive TyOf (K:W.Frag) (H:Hp):V->Value->Prop where
 | non:TyOf K H .non (.type "NoneType")
 | bl (x:Bool):TyOf K H (.bl x) (.type "bool")
 | int (i:Int):TyOf K H (.int i) (.type "int")
 | str (x:Str):TyOf K H (.str x) (.type "str")
 | flt (x:UInt64):TyOf K H (.flt x) (.type "float")
 | lst {a:Addr} {xs:List V} (e:H a = some (.lst xs)):TyOf K H (.ref a) (.type "list")
 | frz {a:Addr} {o:Obj} {xs:List V} (e:H a = some (.frz o (.lst xs))):TyOf K H (.ref a) (.type "list")
 | tup {a:Addr} {xs:List V} (e:H a = some (.tup xs)):TyOf K H (.ref a) (.type "tuple")
 | dK {a:Addr} {kvs:List (Key × V)} (e:H a = some (.dK kvs)):TyOf K H (.ref a) (.type "dict")
 | dT {a:Addr} {kvs:List (List Key × V)} (e:H a = some (.dT kvs)):TyOf K H (.ref a) (.type "dict")
 | ins {a C dx:Addr} {fs:List (Str × V)} (e:H a = some (.ins C dx fs)) (cl:Cls K C) (ha:W.findIn K (.ref C) "__class__" = some (some (.builtin "object.__class__")))
   (hn:W.specialIn K (.builtin "object.__class__") "__get__" = some (some (.builtin "getset_descriptor.__get__"))) (htk:W.takesIn K (.builtin "object.__class__") = some true)
   (hm:W.mroIn K C (.type "object") = some true):TyOf K H (.ref a) (.ref C)
theorem a9d {x:V} {u t:Value} (I:Inv X pins σ H s) (rx:RelV x u) (ty:TyOf X.K H x t) (e:W.kitOne X.K t c = some b) (h:∀ tk,Q (.bool b) { s with toks:=tk }) :
  wpAny (model X.prog X.w) A (call (.builtin "isinstance") [u,c]) Q E s:=by
 cases ty with
 | non=>cases (show u = Value.none from rx); exact W.kia_one W.kitx_none I.kIn True.intro e (fun z=>nomatch z) h
 | bl y=>cases (show u = Value.bool y from rx); exact W.kia_one W.kitx_bool I.kIn True.intro e (fun z=>nomatch z) h
 | int i=>obtain ⟨t,q⟩:=(show ∃ t,u = Value.int i t from rx); cases q; exact W.kia_one W.kitx_int I.kIn True.intro e (fun z=>nomatch z) h
 | str y=>obtain ⟨t,q⟩:=(show ∃ t,u = Value.str y t from rx); cases q; exact W.kia_one W.kitx_str I.kIn True.intro e (fun z=>nomatch z) h
 | flt y=>obtain ⟨t,q⟩:=(show ∃ t,u = Value.float y t from rx); cases q; exact W.kia_one W.kitx_float I.kIn True.intro e (fun z=>nomatch z) h
 | @lst a xs ea=>
  cases (show u = Value.ref a from rx)
  obtain ⟨_,_,n,_,h1⟩:=(show a2e X.prog X.w H s.heap a (.lst xs) from I.hok a _ ea)
  exact W.kia_one W.kitx_list I.kIn ⟨_,h1,rfl⟩ e (fun z=>nomatch z) h
 | @frz a ob xs ea=>
  cases (show u = Value.ref a from rx)
  obtain ⟨_,_,_,n,_,h1⟩:=(show a2e X.prog X.w H s.heap a (.frz ob (.lst xs)) from I.hok a _ ea)
  exact W.kia_one W.kitx_list I.kIn ⟨_,h1,rfl⟩ e (fun z=>nomatch z) h
 | @tup a xs ea=>
  cases (show u = Value.ref a from rx)
  obtain ⟨_,_,_,p⟩:=(show a2e X.prog X.w H s.heap a (.tup xs) from I.hok a _ ea)
  obtain ⟨o,h1,h2,_⟩:=p
  exact W.kia_one W.kitx_tuple I.kIn ⟨o,h1,h2⟩ e (fun z=>nomatch z) h
 | @dK a kvs ea=>
  cases (show u = Value.ref a from rx)
  obtain ⟨_,_,vs,_,p⟩:=(show a2e X.prog X.w H s.heap a (.dK kvs) from I.hok a _ ea)
  obtain ⟨o,es,ep,h1,h2,_⟩:=p
  exact W.kia_one W.kitx_dict I.kIn ⟨o,h1,h2.1⟩ e (fun z=>nomatch z) h
 | @dT a kvs ea=>
  cases (show u = Value.ref a from rx)
  obtain ⟨_,_,xs,_,o,es,ep,h1,h2,_⟩:=(show a2e X.prog X.w H s.heap a (.dT kvs) from I.hok a _ ea)
  exact W.kia_one W.kitx_dict I.kIn ⟨o,h1,h2.1⟩ e (fun z=>nomatch z) h
 | @ins a C dx fs ea cl ha hn htk hm=>
  cases (show u = Value.ref a from rx)
  obtain ⟨mA,O,_⟩:=b3s I.hok ea
  obtain ⟨od,J,_⟩:=O.look
  exact W.kia_one (W.kitx_own (cl.get _) cl.hd ha hn htk hm) I.kIn J e (fun z=>nomatch z) h
end
structure Room (k:Nat) (A:Around):Prop where
 hd:A.handled = none
 dp:A.depth + 3 * k + 5 < recursionLimit
 un:A.units + 16 * k + 200 < cLine
theorem Room.mono {j k:Nat} {A:Around} (r:Room k A) (h:j<=k):Room j A:=⟨r.hd,by have:=r.dp; omega,by have:=r.un; omega⟩
theorem Room.deeper {k:Nat} {A:Around} (r:Room (k + 1) A) (env:Env):Room k (A.deeper env):=
 ⟨r.hd,by have:=r.dp; show A.depth + 1 + 3 * k + 5 < _; omega,by have:=r.un; show A.units + 3 + 16 * k + 200 < _; omega⟩
theorem c2z {A:Around} {C:Addr} {us:List Value} {kw:List (Str × Value)}:(A.under (.builtin "type.__call__" ⟨.ref C :: us,kw⟩)).depth = A.depth + 1:=by
 first | rfl | simp [Around.under,Code.weight,Code.isCreation,Code.isGuard,Code.isCaller,Code.frames,Code.isFrame,guardIds]
theorem c3a {A:Around} {C:Addr} {us:List Value} {kw:List (Str × Value)}:(A.under (.builtin "type.__call__" ⟨.ref C :: us,kw⟩)).units = A.units + 1:=by
 first | rfl | simp [Around.under,Code.cUnits,Code.frames,Code.isFrame]
theorem Room.make {k:Nat} {A:Around} (r:Room (k + 1) A) (C:Addr) (us:List Value) (kw:List (Str × Value)):Room k (A.under (.builtin "type.__call__" ⟨.ref C :: us,kw⟩)):=
 ⟨r.hd,by have:=r.dp; rw [c2z]; omega,by have:=r.un; rw [c3a]; omega⟩
theorem Room.depth {k:Nat} {A:Around} (r:Room k A):A.depth < recursionLimit:=by have:=r.dp; omega
theorem Room.units {k:Nat} {A:Around} (r:Room k A):A.units + 64 < cLine:=by have:=r.un; omega
noncomputable def tNil:TA:=fun _ H Q=>Q [] H
noncomputable def b5o (ta:TE) (tr:TA):TA:=fun σ H Q=>ta σ H fun x H1=>tr σ H1 fun xs H2=>Q (x :: xs) H2
section
variable {X:Cx} {e:Expr} {es:List Expr} {te:TE} {t:TA} {pos:Pos}
theorem a0c:PA X [] tNil:=fun _ _ _ _ H Q I h=>Calls.spliced_nil ⟨[],H,I,.nil,h⟩
theorem b6t (ha:PE X e te) (hr:PA X es t) (hs:starEach (e :: es) X.env = (false,eval e X.env) :: starEach es X.env:=by rfl):PA X (e :: es) (b5o te t):=by
 intro pos pins s σ H Q I h
 rw [hs]
 show wpAny _ _ (spliced ((false,eval e X.env) :: backTo pos (starEach es X.env))) _ _ s
 refine Calls.spliced_cons (thn (ha pins s σ H _ I h) fun u s1 ⟨x,H1,I1,r1,q1⟩=>?_)
 exact thn (hr pos pins s1 σ H1 _ I1 q1) fun us s2 ⟨xs,H2,I2,r2,q2⟩=>⟨x :: xs,H2,I2,.cons r1 r2,q2⟩
noncomputable def tTup (t:TA):TE:=fun σ H Q=>t σ H fun xs H1=>xs.length<=sizeLine/\∀ p,H1 p = none->Q (.ref p) (upd H1 p (.tup xs))
noncomputable def tLst (t:TA):TE:=fun σ H Q=>t σ H fun xs H1=>xs.length<=sizeLine/\∀ p,H1 p = none->Q (.ref p) (upd H1 p (.lst xs))
theorem a0z {x1} (h:PA X es t):PE X (.Tuple es x1 pos) (tTup t):=by
 intro pins s σ H Q I hq
 refine wpAny_Tuple_spliced (thn (h pos pins s σ H _ I hq) fun us s1 ⟨xs,H1,I1,r,z,q⟩=>⟨by rw [<- r.length]; exact z,?_⟩)
 have hf:H1 s1.heap.objs.size = none:=I1.hok.fresh (Nat.le_refl _)
 refine ⟨.ref s1.heap.objs.size,upd H1 s1.heap.objs.size (.tup xs),I1.laid (t':=s1.toks) (fun b u e=>Heap.get?_push_of_some _ e) (Nat.le_refl _) ?_,rfl,q _ hf⟩
 exact ⟨z,us,r,⟨_,Heap.get?_push_size _ rfl,rfl,_,rfl⟩⟩
theorem a2x (h:PA X es t):PE X (.List es pos) (tLst t):=by
 intro pins s σ H Q I hq
 refine wpAny_List_spliced (thn (h pos pins s σ H _ I hq) fun us s1 ⟨xs,H1,I1,r,z,q⟩=>⟨by rw [<- r.length]; exact z,?_⟩)
 have hf:H1 s1.heap.objs.size = none:=I1.hok.fresh (Nat.le_refl _)
 refine ⟨.ref s1.heap.objs.size,upd H1 s1.heap.objs.size (.lst xs),I1.laid (t':=s1.toks) (fun b u e=>Heap.get?_push_of_some _ e) (Nat.le_refl _) ?_,rfl,q _ hf⟩
 exact ⟨z,us,0,r,Heap.get?_push_size _ rfl⟩
end
noncomputable abbrev Sp:=List V->Hp->VK->XK->Prop
noncomputable abbrev CXT:=List Env->Hp->Shared->XK->Value->Shared->Prop
structure Env0 (P:Program) (w:World) (K:W.Frag) (mg:Str->Option Value) (base:Heap) (A:Around) (outer:List Env) (s:Shared) (H:Hp):Prop where
 frames:A.frames = some outer
 mod:Mod K mg base
 bs:∀ b o,base.get? b = some o->s.heap.get? b = some o/\H b = none
 bsz:base.objs.size<=s.heap.objs.size
 funs:s.heap.FunFrames base outer
 frf:∀ b ∈ frs outer,H b = none
 hok:HOk P w H s.heap
 bare:AllBare s.gens
noncomputable def CE (outer:List Env) (P:Program) (w:World) (H:Hp) (s:Shared) (Q:VK) (u:Value) (s':Shared):Prop:=
 ∃ v H',s'.os = s.os/\AllBare s'.gens/\Un (frs outer) [] H H' s.heap s'.heap/\HOk P w H' s'.heap/\RelV v u/\Q v H'
noncomputable def CR (CX:CXT) (outer:List Env) (P:Program) (w:World) (H:Hp) (s:Shared) (Q:VK) (E:XK) (r:Result) (s':Shared):Prop:=
 match r with
 | .ok (.ret u)=>CE outer P w H s Q u s'
 | .ok _=>False
 | .error e=>CX outer H s E e s'
structure FnOk (P:Program) (w:World) (K:W.Frag) (mg:Str->Option Value) (base:Heap) (CX:CXT) (k:Nat) (f:Addr) (fd:FuncData) (ps:List Str) (sp:Sp):Prop where
 len:∀ vs H Q E,sp vs H Q E->vs.length = ps.length
 run:∀ (A:Around) (outer:List Env) (s:Shared) (H:Hp) (args:Args) (us:List Value) (vs:List V) (Q:VK) (E:XK),Room k A->Env0 P w K mg base A outer s H->BindsTo s fd args (ps.zip us)->Vals vs us->sp vs H Q E ->
  codeAny (model P w) A (.call (.ref f) args) (CR CX outer P w H s Q E) s
theorem Env0.make {P:Program} {w:World} {K:W.Frag} {mg:Str->Option Value} {base:Heap} {A:Around} {outer:List Env} {s:Shared} {H:Hp} (e:Env0 P w K mg base A outer s H) (C:Addr) (us:List Value) (kw:List (Str × Value)) :
  Env0 P w K mg base (A.under (.builtin "type.__call__" ⟨.ref C :: us,kw⟩)) outer s H:=⟨by first | exact e.frames | (simpa [Around.under,Code.envs,Code.isFrame,pushEnvs] using e.frames),e.mod,e.bs,e.bsz,e.funs,e.frf,e.hok,e.bare⟩
section
variable {X:Cx} {pins:List (Addr × Obj)} {σ:St} {H:Hp} {s s':Shared}
theorem Inv.env0 (I:Inv X pins σ H s):Env0 X.prog X.w X.K X.mg X.base X.A X.stack s H:=
 ⟨I.ok.frames,I.ok.mod,I.bs,Nat.le_trans I.ok.bsz I.sz,I.stack,I.stkFree,I.hok,I.bare⟩
theorem Inv.after {Q:VK} {u:Value} (I:Inv X pins σ H s) (h:CE X.stack X.prog X.w H s Q u s'):EP X pins σ Q u s':=by
 obtain ⟨v,H',os,bare,un,hok,r,q⟩:=h
 obtain ⟨hh,g,d,t,os'⟩:=s'
 obtain rfl:os' = s.os:=os
 exact ⟨v,H',I.call (h':=hh) (g':=g) (d':=d) (t':=t) (ch:=[]) un hok bare (fun b z=>absurd z (by simp)),r,q⟩
end
noncomputable def tCall (sp:Sp) (dvs:List V) (E:XK) (t:TA):TE:=fun σ H Q=>t σ H fun vs H1=>sp (vs ++ dvs) H1 Q E
noncomputable def tMeth (C:Addr) (m:Str) (sp:Sp) (dvs:List V) (E:XK) (ta:TE) (t:TA):TE:=fun σ H Q=>ta σ H fun x H1=>∃ a dx fs,x = .ref a/\H1 a = some (.ins C dx fs)/\fs.lookup m = none /\
 t σ H1 fun vs H2=>sp (x :: (vs ++ dvs)) H2 Q E
noncomputable def tMake (C:Addr) (sp:Sp) (dvs:List V) (E:XK) (t:TA):TE:=fun σ H Q=>t σ H fun vs H1=>∀ x dx,H1 x = none->H1 dx = none->dx ≠ x ->
 sp (.ref x :: (vs ++ dvs)) (upd (upd H1 dx (.own x)) x (.ins C dx [])) (fun v H2=>v = .non/\Q (.ref x) H2) E
noncomputable def Binds (K:W.Frag) (fd:FuncData) (ps:List Str) (ds:List Value):Prop:=
 ∀ (s:Shared) (us:List Value),K.In s.heap->(us ++ ds).length = ps.length->BindsTo s fd ⟨us,[]⟩ (ps.zip (us ++ ds))
theorem Binds.all {K:W.Frag} {fd:FuncData} {ps:List Str} (h:∀ us:List Value,us.length = ps.length->bindArgs fd ⟨us,[]⟩ = pure (ps.zip us)):Binds K fd ps []:=fun s us _ hl=>by
 rw [List.append_nil] at hl ⊢
 exact .of_eq (h us hl)
noncomputable def b0d (CX:CXT) (X:Cx) (E:XK):Prop:=∀ (pins:List (Addr × Obj)) (σ:St) (H:Hp) (s:Shared) (e:Value) (s':Shared),Inv X pins σ H s->CX X.stack H s E e s'->X.xe e s'
section
variable {X:Cx} {CX:CXT} {k:Nat} {f C:Addr} {fd:FuncData} {ps:List Str} {sp:Sp} {dvs:List V} {ds:List Value} {E:XK} {x m:Str} {p pos apos:Pos} {e o:Expr} {es:List Expr} {ta:TE} {t:TA}
theorem b9i {pins:List (Addr × Obj)} {σ:St} {H:Hp} {s:Shared} {Q:VK} {us:List Value} {vs:List V} (F:FnOk X.prog X.w X.K X.mg X.base CX k f fd ps sp) (hr:Room k X.A) (hb:Binds X.K fd ps ds) (hd:Vals dvs ds) (hx:b0d CX X E)
  (I:Inv X pins σ H s) (r:Vals vs us) (h:sp (vs ++ dvs) H Q E):wpAny (model X.prog X.w) X.A (call (.ref f) us) (EP X pins σ Q) X.xe s:=by
 have r2:Vals (vs ++ dvs) (us ++ ds):=r.append hd
 have hl:(us ++ ds).length = ps.length:=by rw [<- r2.length]; exact F.len _ _ _ _ h
 refine wpAny_call (codeAny_mono (F.run X.A X.stack s H ⟨us,[]⟩ (us ++ ds) (vs ++ dvs) Q E hr I.env0 (hb s us I.kIn hl) r2 h) fun r s' hq=>?_)
 cases r with
 | error e=>exact hx pins σ H s e s' I hq
 | ok fl=>
  cases fl with
  | ret u=>exact I.after hq
  | next=>exact False.elim hq
  | brk=>exact False.elim hq
  | cont=>exact False.elim hq
theorem a0u (F:FnOk X.prog X.w X.K X.mg X.base CX k f fd ps sp) (hr:Room k X.A) (hg:Gl X x) (hm:X.mg x = some (.ref f)) (hk:W.keepIn X.K (.ref f) = true) (hb:Binds X.K fd ps ds) (hd:Vals dvs ds) (hx:b0d CX X E)
  (ha:PA X (e :: es) t) (hdb:(x == ("__debug__" : Str)) = false:=by decide) (he:starEach (e :: es) X.env = (false,eval e X.env) :: starEach es X.env:=by rfl) (hpl:(backTo pos (starEach es X.env)).any (·.1) = false:=by rfl) :
  PE X (.Call (.Name x p) (e :: es) [] pos) (tCall sp dvs E t):=by
 intro pins s σ H Q I h
 refine wpAny_Call_Name_kw (b6r I hg hm ?_ hdb)
 refine W.callWith_K (h₀:=X.base) I.ok.mod.kin hk (thn (ha pos pins s σ H _ I h) fun us s1 ⟨vs,H1,I1,r,q⟩=>⟨I1.kIn,?_⟩) he hpl
 exact b9i F hr hb hd hx I1 r q
theorem a1q {pl:Sem Bool} (he:PE X o ta) (c:Cls X.K C) (hm:Meth X.K C m f) (F:FnOk X.prog X.w X.K X.mg X.base CX k f fd ps sp) (hr:Room k X.A) (hb:Binds X.K fd ps ds) (hd:Vals dvs ds) (hx:b0d CX X E) (ha:PA X (e :: es) t)
  (hst:starEach (e :: es) X.env = (false,eval e X.env) :: starEach es X.env:=by rfl) (hpl:(backTo pos (starEach es X.env)).any (·.1) = false:=by rfl)
  (ht:eval (.Call (.Attribute o m apos) (e :: es) [] pos) X.env = (do
   let ov <- eval o X.env
   standAt apos.atName
   let (f,first) <- holding [ov] (getMethod ov m pl)
   callWith pos f first (backTo pos (starEach (e :: es) X.env)) (backToKw pos (keywordEach [] X.env))):=by rfl) :
  PE X (.Call (.Attribute o m apos) (e :: es) [] pos) (tMeth C m sp dvs E ta t):=by
 intro pins s σ H Q I h
 refine W.methodCall_KW (pl:=pl) (thn (he pins s σ H _ I h) fun u s1 ⟨x,H1,I1,rx,a,dx,fs,ex,ea,l,q⟩=>?_) ht
 subst ex
 obtain rfl:u = Value.ref a:=rx
 refine b5m I1 ea c hm l ?_
 refine W.callWith_K (first:=[.ref a]) (h₀:=X.base) I.ok.mod.kin hm.kp (thn (ha pos pins s1 σ H1 _ I1 q) fun us s2 ⟨vs,H2,I2,r,q2⟩=>⟨I2.kIn,?_⟩) hst hpl
 exact b9i (us:=.ref a :: us) (vs:=.ref a :: vs) F hr hb hd hx I2 (.cons rfl r) q2
theorem b9j {pl:Sem Bool} (he:PE X o ta) (c:Cls X.K C) (hm:Meth X.K C m f) (F:FnOk X.prog X.w X.K X.mg X.base CX k f fd ps sp) (hr:Room k X.A) (hb:Binds X.K fd ps ds) (hd:Vals dvs ds) (hx:b0d CX X E)
  (ht:eval (.Call (.Attribute o m apos) [] [] pos) X.env = (do
   let ov <- eval o X.env
   standAt apos.atName
   let (f,first) <- holding [ov] (getMethod ov m pl)
   callWith pos f first (backTo pos (starEach [] X.env)) (backToKw pos (keywordEach [] X.env))):=by rfl) :
  PE X (.Call (.Attribute o m apos) [] [] pos) (tMeth C m sp dvs E ta tNil):=by
 intro pins s σ H Q I h
 refine W.methodCall_KW (pl:=pl) (thn (he pins s σ H _ I h) fun u s1 ⟨x,H1,I1,rx,a,dx,fs,ex,ea,l,q⟩=>?_) ht
 subst ex
 obtain rfl:u = Value.ref a:=rx
 refine b5m I1 ea c hm l ?_
 exact W.callWith_K0 (first:=[.ref a]) I1.kIn hm.kp (b9i (us:=[.ref a]) (vs:=[.ref a]) F hr hb hd hx I1 (.cons rfl .nil) q)
structure Mk (K:W.Frag) (C f:Addr):Prop where
 makes:W.makesIn K C = true
 init:W.findIn K (.ref C) "__init__" = some (some (.ref f))
 fn:W.isFn K (.ref f) = true
 kp:W.keepIn K (.ref C) = true
theorem c7v {pins:List (Addr × Obj)} {σ:St} {H:Hp} {s:Shared} {Q:VK} {us:List Value} {vs:List V} (M:Mk X.K C f) (F:FnOk X.prog X.w X.K X.mg X.base CX k f fd ps sp) (hr:Room (k + 1) X.A) (hb:Binds X.K fd ps ds) (hd:Vals dvs ds)
  (hx:b0d CX X E) (I:Inv X pins σ H s) (r:Vals vs us)
  (h:∀ x dx,H x = none->H dx = none->dx ≠ x->sp (.ref x :: (vs ++ dvs)) (upd (upd H dx (.own x)) x (.ins C dx [])) (fun v H2=>v = .non/\Q (.ref x) H2) E) :
  wpAny (model X.prog X.w) X.A (call (.ref C) us) (EP X pins σ Q) X.xe s:=by
 have hq:=h (s.heap.objs.size + 1) s.heap.objs.size (I.hok.fresh (Nat.le_succ _)) (I.hok.fresh (Nat.le_refl _)) (Nat.ne_of_lt (Nat.lt_succ_self _))
 have I2:=Inv.made (C:=C) I
 have r2:Vals (V.ref (s.heap.objs.size + 1) :: (vs ++ dvs)) (Value.ref (s.heap.objs.size + 1) :: (us ++ ds)):=.cons rfl (r.append hd)
 have hl:(Value.ref (s.heap.objs.size + 1) :: us ++ ds).length = ps.length:=by
  have e:=r2.length
  rw [F.len _ _ _ _ hq] at e
  exact e.symm
 refine wpAny_call (c7u (f:=f) I.kIn M.makes M.init (beq_iff_eq.mp M.fn) (codeAny_mono (F.run _ X.stack _ _ ⟨Value.ref (s.heap.objs.size + 1) :: us,[]⟩ (Value.ref (s.heap.objs.size + 1) :: (us ++ ds)) _ _ E (hr.make C us [])
  (I2.env0.make C us []) (hb _ (Value.ref (s.heap.objs.size + 1) :: us) I2.kIn hl) r2 hq) fun r s' hq'=>?_))
 cases r with
 | error e=>exact hx pins σ _ _ e s' I2 hq'
 | ok fl=>
  cases fl with
  | ret u=>
   obtain ⟨v,H',I3,rv,ev,q3⟩:=I2.after hq'
   subst ev
   exact ⟨rv,⟨V.ref (s.heap.objs.size + 1),H',I3,rfl,q3⟩⟩
  | next=>exact False.elim hq'
  | brk=>exact False.elim hq'
  | cont=>exact False.elim hq'
theorem c2a (M:Mk X.K C f) (F:FnOk X.prog X.w X.K X.mg X.base CX k f fd ps sp) (hr:Room (k + 1) X.A) (hg:Gl X x) (hm:X.mg x = some (.ref C)) (hb:Binds X.K fd ps ds) (hd:Vals dvs ds) (hx:b0d CX X E)
  (ha:PA X (e :: es) t) (hdb:(x == ("__debug__" : Str)) = false:=by decide) (he:starEach (e :: es) X.env = (false,eval e X.env) :: starEach es X.env:=by rfl) (hpl:(backTo pos (starEach es X.env)).any (·.1) = false:=by rfl) :
  PE X (.Call (.Name x p) (e :: es) [] pos) (tMake C sp dvs E t):=by
 intro pins s σ H Q I h
 refine wpAny_Call_Name_kw (b6r I hg hm ?_ hdb)
 refine W.callWith_K (h₀:=X.base) I.ok.mod.kin M.kp (thn (ha pos pins s σ H _ I h) fun us s1 ⟨vs,H1,I1,r,q⟩=>⟨I1.kIn,?_⟩) he hpl
 exact c7v M F hr hb hd hx I1 r q
end
section
variable {X:Cx} {CX:CXT} {k:Nat} {f C:Addr} {fd:FuncData} {ps ks:List Str} {sp:Sp} {E:XK} {x m:Str} {p pos apos kpos:Pos} {e o:Expr} {es:List Expr} {kws:List Keyword} {te ta:TE} {t tk:TA} {nm:Option Str}
variable {g:List Value->List Value->List Value} {gV:List V->List V->List V}
end
structure a0y (N P:List Str) (sc:Scope):Prop where
 kind:sc.kind = .function
 co:sc.isCoroutine = false
 gen:sc.isGenerator = false
 nd:N.Nodup
 pre:N.take P.length = P
 par:∀ x ∈ P,sc.names.lookup x = some .local\/sc.names.lookup x = some .cell
 nofree:∀ y ∈ sc.names,y.2 ≠ .free
theorem b7j {kindOf:Str->Option NameKind} {x:Str}:∀ {binds:List (Str × Value)} {m:Str->Option Value},(∀ v,(x,v) ∉ binds)->bindL kindOf binds m x = m x
 | [],_,_=>rfl
 | (n,v) :: r,m,h=>by
  unfold bindL
  rw [b7j fun w hw=>h w (List.mem_cons_of_mem _ hw)]
  split
  ·have:x ≠ n:=by rintro rfl; exact h v List.mem_cons_self
   simp [this]
  ·rfl
theorem b7k {kindOf:Str->Option NameKind} {x:Str}:∀ {binds:List (Str × Value)} {m:Str->Option Value},(∀ v,(x,v) ∉ binds)->bindC kindOf binds m x = m x
 | [],_,_=>rfl
 | (n,v) :: r,m,h=>by
  unfold bindC
  rw [b7k fun w hw=>h w (List.mem_cons_of_mem _ hw)]
  split
  ·rfl
  ·have:x ≠ n:=by rintro rfl; exact h v List.mem_cons_self
   simp [this]
theorem b7l {kindOf:Str->Option NameKind} {x:Str} {v:Value}:∀ {P:List Str} {vs:List Value} {i:Nat} {m:Str->Option Value},P.Nodup->P[i]? = some x->vs[i]? = some v->kindOf x = some .local ->
  bindL kindOf (P.zip vs) m x = some v
 | [],_,_,_,_,h,_,_=>by simp at h
 | _ :: _,[],_,_,_,_,h,_=>by simp at h
 | p :: P,w :: vs,0,m,nd,h1,h2,hk=>by
  simp at h1 h2; subst h1; subst h2
  show bindL kindOf ((p,w) :: P.zip vs) m p = _
  unfold bindL
  rw [b7j fun v hv=>(List.nodup_cons.mp nd).1 (List.of_mem_zip hv).1,if_pos hk]
  simp
 | p :: P,w :: vs,i + 1,m,nd,h1,h2,hk=>by
  show bindL kindOf ((p,w) :: P.zip vs) m x = _
  unfold bindL
  exact b7l (i:=i) (List.nodup_cons.mp nd).2 (by simpa using h1) (by simpa using h2) hk
theorem b7m {kindOf:Str->Option NameKind} {x:Str} {v:Value}:∀ {P:List Str} {vs:List Value} {i:Nat} {m:Str->Option Value},P.Nodup->P[i]? = some x->vs[i]? = some v->kindOf x ≠ some .local ->
  bindC kindOf (P.zip vs) m x = some v
 | [],_,_,_,_,h,_,_=>by simp at h
 | _ :: _,[],_,_,_,_,h,_=>by simp at h
 | p :: P,w :: vs,0,m,nd,h1,h2,hk=>by
  simp at h1 h2; subst h1; subst h2
  show bindC kindOf ((p,w) :: P.zip vs) m p = _
  unfold bindC
  rw [b7k fun v hv=>(List.nodup_cons.mp nd).1 (List.of_mem_zip hv).1,if_neg hk]
  simp
 | p :: P,w :: vs,i + 1,m,nd,h1,h2,hk=>by
  show bindC kindOf ((p,w) :: P.zip vs) m x = _
  unfold bindC
  exact b7m (i:=i) (List.nodup_cons.mp nd).2 (by simpa using h1) (by simpa using h2) hk
noncomputable def start (N:List Str) (vs:List V):St:=vs.map some ++ List.replicate (N.length - vs.length) none
noncomputable def cxOf (CX:CXT) (P:Program) (w:World) (K:W.Frag) (mg:Str->Option Value) (base:Heap) (N:List Str) (qual:Str) (scope:Scope) (f:Addr) (cd:Value) (A:Around) (outer:List Env) (s:Shared) (H:Hp) (E:XK):Cx where
 prog:=P
 w:=w
 K:=K
 mg:=mg
 base:=base
 A:=A.deeper (envOfC qual scope s.heap.objs.size f cd)
 N:=N
 s₀:=s
 H₀:=H
 env:=envOfC qual scope s.heap.objs.size f cd
 outer:=outer
 stack:=envOfC qual scope s.heap.objs.size f cd :: outer
 ex:=[]
 calm:=true
 fn:=fun _=>true
 pn:=[]
 xe:=fun e s'=>wpAny (model P w) (A.deeper (envOfC qual scope s.heap.objs.size f cd)) (leaving (envOfC qual scope s.heap.objs.size f cd) e) (fun _ s''=>CX outer H s E e s'') (fun e' s''=>CX outer H s E e' s'') s'
theorem b9k {sc:Scope} {n:Nat} {x:Str} (h:sc.names.lookup x = some .cell):∃ c,(cellsFrom n sc.names []).lookup x = some c:=by
 have q:=W.cellsFrom_some sc.names n [] (.inl h)
 exact Option.isSome_iff_exists.mp q
theorem c4r {CX:CXT} {P:Program} {w:World} {K:W.Frag} {mg:Str->Option Value} {base:Heap} {N ps:List Str} {qual:Str} {scope:Scope} {f:Addr} {cd:Value} {A:Around} {outer:List Env} {s s1:Shared} {H:Hp} {E:XK} {us:List Value} {vs:List V}
  (S:a0y N ps scope) (hd:A.handled = none) (e0:Env0 P w K mg base A outer s H) (hl:vs.length = ps.length) (r:Vals vs us)
  (x:InCallC s s.heap.objs.size (bindL (envOfC qual scope s.heap.objs.size f cd).kindOf (ps.zip us) fun _=>none) (cellsFrom (s.heap.objs.size + 1) scope.names []) (bindC (envOfC qual scope s.heap.objs.size f cd).kindOf (ps.zip us) fun _=>none) s1) :
  Inv (cxOf CX P w K mg base N qual scope f cd A outer s H E) [] (start N vs) H s1:=by
 have hpl:ps.length<=N.length:=by have:=congrArg List.length S.pre; rw [List.length_take] at this; omega
 obtain ⟨h1,tk,rfl,hk⟩:=x.done
 have noA:∀ b:Addr,b ∉ (cxOf CX P w K mg base N qual scope f cd A outer s H E).ex:=fun b z=>absurd (show b ∈ ([]:List Addr) from z) (by simp)
 refine ⟨⟨e0.mod,S.kind,rfl,rfl,Nat.le_refl _,fun y z c h1 h2=>?_,fun y hy=>?_,fun y c _ h=>?_,fun _=>hd,Around.frames_deeper e0.frames,.inr ⟨rfl,rfl⟩,fun b z=>absurd z (noA b),e0.bs,e0.bsz,fun b _ _=>noA b,fun b z=>absurd z (noA b),e0.funs,e0.frf⟩,
  rfl,e0.bare,Un.kept hk,⟨_,x.toInCall.ns,fun i y v h1 h2 h3=>?_⟩,fun y c h=>⟨_,x.cell y c h⟩,e0.hok.fresh (Nat.le_refl _),fun y c h=>?_,fun p hp=>absurd (show p ∈ ([]:List (Addr × Obj)) from hp) (by simp),e0.hok.kept hk,?_⟩
 ·exact name_of_addr x.apart (PySem.mem_of_lookup h1) (PySem.mem_of_lookup h2)
 ·have hy:scope.names.lookup y = some .cell\/scope.names.lookup y = some .free:=hy
  rcases hy with hy | hy
  ·exact b9k hy
  ·exact absurd rfl (S.nofree _ (PySem.mem_of_lookup hy))
 ·exact Nat.le_of_lt (x.above y c (PySem.mem_of_lookup h))
 ·have hi:i < vs.length:=by
   unfold start at h2
   by_cases hi:i < vs.length
   ·exact hi
   ·rw [List.getElem?_append_right (by simpa using hi)] at h2
    rw [List.getElem?_replicate] at h2
    split at h2 <;> cases h2
  have ha:vs[i]? = some v:=by
   unfold start at h2
   rw [List.getElem?_append_left (by simpa using hi),List.getElem?_map] at h2
   cases e:vs[i]? with
   | none=>rw [e] at h2; cases h2
   | some a=>rw [e] at h2; cases h2; rfl
  obtain ⟨u,hu,rv⟩:=r.get ha
  have hp:ps[i]? = some y:=by
   rw [<- S.pre,List.getElem?_take_of_lt (by omega)]; exact h1
  have ndP:ps.Nodup:=by rw [<- S.pre]; exact S.nd.sublist (List.take_sublist _ _)
  refine ⟨u,rv,?_⟩
  rcases S.par y (List.mem_of_getElem? hp) with k | k
  ·exact .inl ⟨k,b7l ndP hp hu k⟩
  ·obtain ⟨c,e⟩:=b9k (n:=s.heap.objs.size + 1) k
   refine .inr ⟨.inl k,c,e,?_⟩
   have q:=x.cell y c e
   rw [b7m ndP hp hu (by show scope.names.lookup y ≠ _; rw [k]; decide)] at q
   exact q
 ·exact e0.hok.fresh (Nat.le_of_lt (x.above y c (PySem.mem_of_lookup h)))
 ·unfold start
  show _ = N.length
  rw [List.length_append,List.length_map,List.length_replicate]
  omega
theorem fn_of {CX:CXT} {P:Program} {w:World} {K:W.Frag} {mg:Str->Option Value} {base:Heap} {k:Nat} {f:Addr} {name qual:Str} {params:Arguments} {body:List Stmt} {scope:Scope} {dV kV doc pm cdv ct oc:Value} {an od:Option Addr}
  {osl:Array (Option Value)} {N ps:List Str} {sp:Sp} (lk:K.lookup f = some ⟨oc,od,.func (W.fnOf name qual params body scope dV kV doc pm an cdv ct),osl⟩) (hcd:W.codeIn K cdv qual = true) (S:a0y N ps scope)
  (len:∀ vs H Q E,sp vs H Q E->vs.length = ps.length)
  (hbody:∀ (A:Around) (outer:List Env) (s:Shared) (H:Hp) (vs:List V) (Q:VK) (E:XK),Room k (A.deeper (envOfC qual scope s.heap.objs.size f cdv))->sp vs H Q E ->
   ∃ t,PSs (cxOf CX P w K mg base N qual scope f cdv A outer s H E) body t/\t { nx:=fun _ H'=>Q .non H',rt:=Q } (start N vs) H) :
  FnOk P w K mg base CX (k + 1) f (W.fnOf name qual params body scope dV kV doc pm an cdv ct) ps sp:=by
 refine ⟨len,fun A outer s H args us vs Q E hr e0 hb r hsp=>?_⟩
 have hl:=len _ _ _ _ hsp
 have KX:K.In s.heap:=e0.mod.kin.keeps fun b o e=>(e0.bs b o e).1
 have lim:s.heap.NoLimit:=e0.mod.nolimit.keeps fun b o e=>(e0.bs b o e).1
 have hkind:∀ y ∈ ps.zip us,scope.names.lookup y.1 = some .local\/(scope.names.lookup y.1 = some .cell/\((cellsFrom (s.heap.objs.size + 1) scope.names []).lookup y.1).isSome = true):=fun ⟨n,v⟩ hy=>by
  rcases S.par n (List.of_mem_zip hy).1 with q | q
  ·exact .inl q
  ·exact .inr ⟨q,W.cellsFrom_some _ _ _ (.inl q)⟩
 refine codeAny_call_function hr.depth (KX _ _ lk) rfl S.co S.gen rfl (W.codeRec_of KX hcd) (hb _ _ _ _ ?_)
 refine wpAny_newFunctionEnv_cells S.kind hkind fun env he s1 x=>?_
 subst he
 refine ⟨lim.keeps x.toInCall.keep,codeAny_func ?_⟩
 obtain ⟨t,ht,hq⟩:=hbody A outer s H vs Q E (hr.deeper _) hsp
 have I:Inv (cxOf CX P w K mg base N qual scope f cdv A outer s H E) [] (start N vs) H s1:=c4r S hr.hd e0 hl r x
 refine wpAny_mono (ht [] s1 (start N vs) H _ I hq) (fun fl s' hs=>?_) fun e s' hs=>hs
 have fin:∀ {σ':St} {H':Hp} {v:V} {u:Value},Inv (cxOf CX P w K mg base N qual scope f cdv A outer s H E) [] σ' H' s'->RelV v u->Q v H'->CE outer P w H s Q u s':=
  fun {σ' H' v u} J rv q=>⟨v,H',J.os,J.bare,J.base,J.hok,rv,q⟩
 cases fl with
 | ret u=>
  obtain ⟨v,σ',H',J,rv,q⟩:=hs
  exact fin J rv q
 | next=>
  obtain ⟨σ',H',J,q⟩:=hs
  exact fin (v:=V.non) (u:=Value.none) J rfl q
 | brk=>
  obtain ⟨_,_,_,q⟩:=hs
  exact False.elim q
 | cont=>
  obtain ⟨_,_,_,q⟩:=hs
  exact False.elim q
section
variable {X:Cx} {x:Str} {p pos:Pos} {e:Expr} {es:List Expr} {t:TA} {id T:String} {r:List V->Hp->VK->Prop}
noncomputable def tCB (r:List V->Hp->VK->Prop) (t:TA):TE:=fun σ H Q=>t σ H fun vs H1=>r vs H1 Q
theorem a0t (hc:a3s X (.builtin id) r) (hg:Gl X x) (hm:X.mg x = none) (hv:bootBuiltins x = some (.builtin id)) (ha:PA X (e :: es) t) (hn:x ≠ "__name__":=by decide) (hdb:(x == ("__debug__" : Str)) = false:=by decide)
  (he:starEach (e :: es) X.env = (false,eval e X.env) :: starEach es X.env:=by rfl) (hpl:(backTo pos (starEach es X.env)).any (·.1) = false:=by rfl):PE X (.Call (.Name x p) (e :: es) [] pos) (tCB r t):=by
 intro pins s σ H Q I h
 refine wpAny_Call_Name_kw (a5y I hg hm hv ?_ hn hdb)
 exact PyProof.Rows.callWith_builtin1 (thn (ha pos pins s σ H _ I h) fun us s1 ⟨vs,H1,I1,r1,q1⟩=>hc pins s1 σ H1 vs us Q I1 r1 q1) he hpl
theorem a3e (hc:a3s X (.type T) r) (hg:Gl X x) (hm:X.mg x = none) (hv:bootBuiltins x = some (.type T)) (ha:PA X (e :: es) t) (hn:x ≠ "__name__":=by decide) (hdb:(x == ("__debug__" : Str)) = false:=by decide)
  (he:starEach (e :: es) X.env = (false,eval e X.env) :: starEach es X.env:=by rfl) (hpl:(backTo pos (starEach es X.env)).any (·.1) = false:=by rfl):PE X (.Call (.Name x p) (e :: es) [] pos) (tCB r t):=by
 intro pins s σ H Q I h
 refine wpAny_Call_Name_kw (a5y I hg hm hv ?_ hn hdb)
 exact PyProof.Rows.callWith_type1 (thn (ha pos pins s σ H _ I h) fun us s1 ⟨vs,H1,I1,r1,q1⟩=>hc pins s1 σ H1 vs us Q I1 r1 q1) he hpl
end
end L2
namespace HT
open PySem PyProof.Rows
section
open PySem.SeqAt
open PySem.AutoSeq1 (wpAny_loadPart')
open PySem.MeetsSeq PySem.MeetsSeq2 PySem.MeetsSeq3
end
section
variable {prog:Program} {w:World} {A:Around} {E:Value->Shared->Prop} {s:Shared}
theorem cat_tup {t b:Addr} {vs ws:List Value} {Q:Value->Shared->Prop} (ht:IsTup s.heap t vs.toArray) (hb:IsTup s.heap b ws.toArray) (hv:vs ≠ [])
  (h1:ws = []->Q (.ref t) s) (h2:ws ≠ []->Q (.ref s.heap.objs.size) { s with heap:=s.heap.push { cls:=.type "tuple",data:=.seq (vs ++ ws).toArray } })
  (hsz:vs.length + ws.length<=sizeLine):wpAny (model prog w) A (binaryOp .Add (.ref t) (.ref b)) Q E s:=by
 obtain ⟨⟨cls,dd,data,sl⟩,ho,hc,n,hd⟩:=id ht
 obtain ⟨⟨cls2,dd2,data2,sl2⟩,ho2,hc2,n2,hd2⟩:=id hb
 simp only at hc hd hc2 hd2
 subst hc hd hc2 hd2
 have e:vs.toArray ++ ws.toArray = (vs ++ ws).toArray:=by simp
 by_cases hw:ws = []
 ·exact concat_meets ⟨_,ho,rfl⟩ ⟨_,ho2,rfl⟩ noFill_tuple_add seq_tuple_add F.slot_tuple_add F.entry_tuple_add (F.args_tuple_add_2 _ _)
   (tuple_addW1 t b vs.toArray ws.toArray n n2 dd dd2 sl sl2 (by simpa using hv) (by simp [hw])) ⟨ho,ho2,h1 hw⟩
 ·refine concat_meets ⟨_,ho,rfl⟩ ⟨_,ho2,rfl⟩ noFill_tuple_add seq_tuple_add F.slot_tuple_add F.entry_tuple_add (F.args_tuple_add_2 _ _)
   (tuple_addW2 t b vs.toArray ws.toArray n n2 dd dd2 sl sl2 (by simpa using hv) (by simpa using hw) (by rw [List.size_toArray,List.size_toArray]; exact hsz)) ⟨ho,ho2,?_⟩
  rw [e]
  exact h2 hw
noncomputable def sIx (n d:Nat):Option Int->Nat
 | none=>d
 | some v=>if v < 0 then (v + (n:Int)).toNat else min v.toNat n
theorem sIx_le (n d:Nat) (hd:d<=n) (o:Option Int):sIx n d o<=n:=by
 cases o with
 | none=>exact hd
 | some v=>
  show (if v < 0 then (v + (n:Int)).toNat else min v.toNat n)<=n
  by_cases hv:v < 0
  ·rw [if_pos hv]; omega
  ·rw [if_neg hv]; exact Nat.min_le_right _ _
theorem c2b (v:Int) (n d:Nat):(if v < 0 then max (v + (n:Int)) 0 else min v (n:Int)) = ((sIx n d (some v):Nat):Int):=by
 show (if v < 0 then max (v + (n:Int)) 0 else min v (n:Int)) = (((if v < 0 then (v + (n:Int)).toNat else min v.toNat n):Nat):Int)
 by_cases hv:v < 0
 ·simp only [if_pos hv]; omega
 ·simp only [if_neg hv]; omega
theorem c3b (lo hi:Option Int) (n:Nat):Builtin.Slice.sliceAdjust lo hi 1 (n:Int) = (((sIx n 0 lo:Nat):Int),((sIx n n hi:Nat):Int)):=by
 have h1:¬ ((1:Int) < 0):=by omega
 unfold Builtin.Slice.sliceAdjust
 simp only [h1,if_false]
 refine Prod.ext ?_ ?_
 ·cases lo with
  | none=>rfl
  | some v=>exact c2b v n 0
 ·cases hi with
  | none=>rfl
  | some v=>exact c2b v n n
theorem c3c (i j:Nat):Builtin.Slice.slicePlaces (i:Int) (j:Int) 1 = j - i:=by
 unfold Builtin.Slice.slicePlaces
 have h1:(1:Int) > 0:=by omega
 simp only [h1,if_true,Int.ediv_one]
 split <;> omega
theorem b5p {v:Value} {o:Option Int} {Q:Option Int->Shared->Prop} (p:IsPart v o) (h:Q o s):wpAny (model prog w) A (Builtin.Slice.slicePartIndex v) Q E s:=by
 cases p with
 | none=>exact slicePart_none h
 | int i t=>exact slicePart_int h
theorem sliceApplied_gen {sl:Addr} {vl vu:Value} {lo hi:Option Int} {n:Nat} {Q:Int × Int × Nat->Shared->Prop} (hs:s.heap.IsSliceOf sl vl vu .none) (pl:IsPart vl lo) (pu:IsPart vu hi)
  (h:Q (((sIx n 0 lo:Nat):Int),1,sIx n n hi - sIx n 0 lo) s):wpAny (model prog w) A (Builtin.Slice.sliceApplied (.ref sl) (pure (n:Int))) Q E s:=by
 obtain ⟨os,hos,hcs,hds⟩:=id hs
 unfold Builtin.Slice.sliceApplied Builtin.Slice.sliceFields
 refine wpAny_bind (wpAny_bind (wpAny_field hos hds (x:=vl) rfl (wpAny_bind (wpAny_field hos hds (x:=vu) rfl (wpAny_bind (wpAny_field hos hds (x:=.none) rfl (wpAny_pure ?_)))))))
 refine wpAny_bind (slicePart_none ?_)
 show wpAny _ _ (if ((1:Int) == 0) = true then _ else _) _ _ s
 rw [if_neg (by decide)]
 refine wpAny_bind (b5p pl (wpAny_bind (b5p pu (wpAny_bind (wpAny_pure ?_)))))
 show wpAny _ _ (match Builtin.Slice.sliceAdjust lo hi 1 (n:Int) with | (lo,hi)=>pure (lo,(1:Int),Builtin.Slice.slicePlaces lo hi 1)) _ _ s
 rw [c3b lo hi n]
 show wpAny _ _ (pure (((sIx n 0 lo:Nat):Int),(1:Int),Builtin.Slice.slicePlaces ((sIx n 0 lo:Nat):Int) ((sIx n n hi:Nat):Int) 1)) _ _ s
 rw [c3c]
 exact wpAny_pure h
theorem c7w (xs:Array Value) (i k:Nat):((List.range k).filterMap fun (m:Nat)=>xs[((i:Int) + (m:Int) * 1).toNat]?).toArray = ((xs.toList.drop i).take k).toArray:=by
 have e:(fun (m:Nat)=>xs[((i:Int) + (m:Int) * 1).toNat]?) = fun m=>xs[i + m]?:=by
  funext m
  have:((i:Int) + (m:Int) * 1).toNat = i + m:=by omega
  rw [this]
 rw [e]
 have:=pick_run xs i k
 rw [List.filterMap_map] at this
 have e2:((fun x=>xs[x]?) ∘ fun x=>i + x) = fun m=>xs[i + m]?:=rfl
 rw [e2] at this
 rw [this]
theorem getItem_tuple_cut {t sl:Addr} {items:Array Value} {vl vu:Value} {lo hi:Option Int} {Q:Value->Shared->Prop} (ht:IsTup s.heap t items) (hs:s.heap.IsSliceOf sl vl vu .none) (pl:IsPart vl lo) (pu:IsPart vu hi)
  (hw:¬ (sIx items.size 0 lo = 0/\sIx items.size items.size hi = items.size))
  (h:Q (.ref s.heap.objs.size) { s with heap:=s.heap.push { cls:=.type "tuple",data:=.seq ((items.toList.drop (sIx items.size 0 lo)).take (sIx items.size items.size hi - sIx items.size 0 lo)).toArray } })
  (hsz:items.size<=sizeLine):wpAny (model prog w) A (getItem (.ref t) (.ref sl)) Q E s:=by
 have htake:sizeOk (.seq ((items.toList.drop (sIx items.size 0 lo)).take (sIx items.size items.size hi - sIx items.size 0 lo)).toArray):=by
  show ((items.toList.drop (sIx items.size 0 lo)).take (sIx items.size items.size hi - sIx items.size 0 lo)).toArray.size<=sizeLine
  rw [List.size_toArray,List.length_take,List.length_drop,Array.length_toList]
  omega
 have hj:sIx items.size items.size hi<=items.size:=sIx_le _ _ (Nat.le_refl _) hi
 obtain ⟨os,hos,hcs,hds⟩:=id hs
 have hTs:s.TypeIs (.ref sl) "slice":=⟨os,hos,hcs⟩
 unfold getItem
 try with_reducible refine wpAny_holding ?_
 first | refine wpAny_bind (wpAny_pure ?_) | skip
 refine wpAny_bind (wpAny_sequenceKey ht.typeIs (by decide) ?_)
 refine wpAny_bind (wpAny_callSpecial?_slot (name:=Str.ofString "__getitem__") ht.typeIs PyProof.Rows.slot_tuple_getitem
  (wpAny_call_entry PyProof.Rows.slot_tuple_getitem ht.typeIs entry_tuple_getitem ?_ (args_tuple_getitem _ _)))
 show wpAny _ _ (Builtin.Tuple.tupleItemsOf (.ref t) >>= _) _ _ s
 refine wpAny_bind (tupleItemsOf_ ht ?_)
 refine wpAny_bind (wpAny_typeOf hTs ?_)
 rw [if_pos (by decide)]
 refine wpAny_bind (sliceApplied_gen hs pl pu ?_)
 have hno:¬ ((((sIx items.size 0 lo:Nat):Int) == 0 && (1:Int) == 1 && (sIx items.size items.size hi - sIx items.size 0 lo) == items.size) = true):=by
  intro q
  rw [Bool.and_eq_true,Bool.and_eq_true] at q
  have q1:((sIx items.size 0 lo:Nat):Int) = 0:=eq_of_beq q.1.1
  have q2:sIx items.size items.size hi - sIx items.size 0 lo = items.size:=eq_of_beq q.2
  exact hw ⟨by omega,by omega⟩
 show wpAny _ _ (if (((sIx items.size 0 lo:Nat):Int) == 0 && (1:Int) == 1 && (sIx items.size items.size hi - sIx items.size 0 lo) == items.size) = true then _ else _) _ _ s
 rw [if_neg hno,c7w]
 first
  | exact wpAny_bind (m:=Builtin.Tuple.tupleExact _) (wpAny_newObj_type (wpAny_pure ⟨_,rfl,wpAny_pure h⟩) htake)
  | exact wpAny_bind (m:=Builtin.Tuple.tupleExact _) (wpAny_newObj_type (wpAny_bind (wpAny_pure (wpAny_pure ⟨_,rfl,wpAny_pure h⟩))) htake)
  | exact wpAny_bind (wpAny_bind (m:=Builtin.Tuple.tupleExact _) (wpAny_newObj_type (wpAny_pure (wpAny_pure ⟨_,rfl,wpAny_pure h⟩)) htake))
  | exact wpAny_bind (wpAny_bind (m:=Builtin.Tuple.tupleExact _) (wpAny_newObj_type (wpAny_pure ⟨_,rfl,wpAny_pure h⟩) htake))
end
end HT
namespace L2
open PySem PySem.Spec PyProof.Rows
noncomputable abbrev TO:=St->Hp->(Option Int->Hp->Prop)->Prop
noncomputable def PO (X:Cx) (e:Option Expr) (t:TO):Prop:=
 ∀ (pins:List (Addr × Obj)) (s:Shared) (σ:St) (H:Hp) (Q:Option Int->Hp->Prop),Inv X pins σ H s->t σ H Q ->
  wpAny (model X.prog X.w) X.A (evalPart e X.env) (fun u s'=>∃ o H',Inv X pins σ H' s'/\IsPart u o/\Q o H') X.xe s
noncomputable def c2c:TO:=fun _ H Q=>Q none H
noncomputable def tPart (t:TE):TO:=fun σ H Q=>t σ H fun x H1=>∃ i,x = .int i/\Q (some i) H1
theorem intsAre_of {ns:List Int}:∀ {us:List Value},Vals (ns.map V.int) us->IntsAre us ns:=by
 induction ns with
 | nil=>intro us r; rw [List.map_nil] at r; cases r; exact .nil
 | cons n ns ih=>
  intro us r
  rw [List.map_cons] at r
  cases r with
  | cons r1 r2=>
   obtain ⟨t,e⟩:=r1
   subst e
   exact .cons n t (ih r2)
section
variable {X:Cx} {e:Expr} {te:TE} {lo hi:Option Expr} {tl th:TO} {pos p2:Pos}
theorem a7v:PO X none c2c:=by
 intro pins s σ H Q I h
 rw [evalPart_none]
 exact wpAny_pure ⟨none,H,I,.none,h⟩
theorem po_some (h:PE X e te):PO X (some e) (tPart te):=by
 intro pins s σ H Q I hw
 rw [evalPart_some]
 refine thn (h pins s σ H _ I hw) fun u s1 ⟨x,H1,I1,r1,q1⟩=>?_
 obtain ⟨i,rfl,q⟩:=q1
 obtain ⟨t,rfl⟩:=r1
 exact ⟨some i,H1,I1,.int i t,q⟩
noncomputable def SlR (X:Cx) (r:V->Option Int->Option Int->Hp->VK->Prop):Prop:=
 ∀ (pins:List (Addr × Obj)) (s:Shared) (σ:St) (H:Hp) (x:V) (v vl vu:Value) (lo hi:Option Int) (sl:Addr) (Q:VK),Inv X pins σ H s->RelV x v->s.heap.IsSliceOf sl vl vu .none->IsPart vl lo->IsPart vu hi->r x lo hi H Q ->
  ∃ T id,typeLookup (.type T) "__getitem__" = pure (some (.builtin id))/\s.TypeIs v T/\wpAny (model X.prog X.w) X.A (getItem v (.ref sl)) (EP X pins σ Q) X.xe s
noncomputable def tSl (r:V->Option Int->Option Int->Hp->VK->Prop) (te:TE) (tl th:TO):TE:=fun σ H Q=>te σ H fun x H1=>tl σ H1 fun l H2=>th σ H2 fun u H3=>r x l u H3 Q
theorem a6b {r:V->Option Int->Option Int->Hp->VK->Prop} (hr:SlR X r) (he:PE X e te) (hl:PO X lo tl) (hu:PO X hi th):PE X (.Subscript e (.Slice lo hi none p2) pos) (tSl r te tl th):=by
 intro pins s σ H Q I h
 refine Subscript_ (thn (he pins s σ H _ I h) fun v s1 ⟨x,H1,I1,r1,q1⟩=>?_)
 refine wpAny_Slice (thn (hl pins s1 σ H1 _ I1 q1) fun vl s2 ⟨l,H2,I2,pl,q2⟩=>thn (hu pins s2 σ H2 _ I2 q2) fun vu s3 ⟨u,H3,I3,pu,q3⟩=>?_)
 rw [evalPart_none]
 refine wpAny_pure ?_
 have I4:Inv X pins σ H3 { s3 with heap:=s3.heap.push { cls:=.type "slice",data:=.fields #[vl,vu,.none] } }:=I3.kept (t':=s3.toks) fun b ob q=>Heap.get?_push_of_some _ q
 obtain ⟨T,id,hT,ht,hg⟩:=hr pins { s3 with heap:=s3.heap.push { cls:=.type "slice",data:=.fields #[vl,vu,.none] } } σ H3 x v vl vu l u s3.heap.objs.size Q I4 r1 (Heap.IsSliceOf.new ..) pl pu q3
 show wpAny (model X.prog X.w) X.A (subscriptTail e (.Slice lo hi none p2) v (.ref s3.heap.objs.size)) (EP X pins σ Q) X.xe { s3 with heap:=s3.heap.push { cls:=.type "slice",data:=.fields #[vl,vu,.none] } }
 exact tail_any (ops:=[.ref s3.heap.objs.size,v]) ht hT hg (by with_unfolding_all rfl)
noncomputable def cutV (xs:List V) (lo hi:Option Int):List V:=(xs.drop (HT.sIx xs.length 0 lo)).take (HT.sIx xs.length xs.length hi - HT.sIx xs.length 0 lo)
theorem b4j (xs:List V) (lo hi:Option Int):(cutV xs lo hi).length<=xs.length:=by
 unfold cutV
 rw [List.length_take,List.length_drop]
 omega
noncomputable def rSlT (K:W.Frag):V->Option Int->Option Int->Hp->VK->Prop:=fun x lo hi H Q=>∃ a xs,x = .ref a/\SqT K H a xs /\
 ¬ (HT.sIx xs.length 0 lo = 0/\HT.sIx xs.length xs.length hi = xs.length)/\∀ p,H p = none->Q (.ref p) (upd H p (.tup (cutV xs lo hi)))
theorem sl_tup:SlR X (rSlT X.K):=by
 intro pins s σ H x v vl vu lo hi sl Q I rx hs pl pu h
 obtain ⟨a,xs,rfl,hx,hw,q⟩:=h
 cases rx
 obtain ⟨its,r,ht,hz⟩:=I.tuple hx
 have hlen:its.toArray.size = xs.length:=by rw [List.size_toArray]; exact r.length.symm
 refine ⟨"tuple",_,PyProof.Rows.slot_tuple_getitem.lookup,ht.typeIs,?_⟩
 refine HT.getItem_tuple_cut ht hs pl pu (by rw [hlen]; exact hw) ?_ (by rw [hlen]; exact hz)
 rw [hlen]
 refine ⟨.ref s.heap.objs.size,_,I.laid (t':=s.toks) (o:=.tup (cutV xs lo hi)) (fun b ob q=>Heap.get?_push_of_some _ q) (Nat.le_refl _) ?_,rfl,q _ (I.hok.fresh (Nat.le_refl _))⟩
 exact ⟨Nat.le_trans (b4j xs lo hi) hz,_,(r.drop (HT.sIx xs.length 0 lo)).take (HT.sIx xs.length xs.length hi - HT.sIx xs.length 0 lo),IsTup.new _ _⟩
noncomputable def rCatT (K:W.Frag):R2:=fun x y H Q=>∃ a b xs ys,x = .ref a/\y = .ref b/\SqT K H a xs/\SqT K H b ys/\xs ≠ []/\xs.length + ys.length<=sizeLine /\
 (ys = []->Q (.ref a) H)/\(ys ≠ []->∀ p,H p = none->Q (.ref p) (upd H p (.tup (xs ++ ys))))
theorem Vals.nil_iff {xs:List V} {us:List Value} (r:Vals xs us):us = [] ↔ xs = []:=by
 cases r with
 | nil=>simp
 | cons _ _=>simp
theorem op_catT:OpR X (binaryOp .Add) (rCatT X.K):=by
 intro pins s σ H x y v u Q I rx ry h
 obtain ⟨a,b,xs,ys,rfl,rfl,ha,hb,hx,hz,q1,q2⟩:=h
 cases rx
 cases ry
 obtain ⟨its,r1,p1,_⟩:=I.tuple ha
 obtain ⟨its2,r2,p2,_⟩:=I.tuple hb
 refine HT.cat_tup p1 p2 (fun z=>hx (r1.nil_iff.mp z)) (fun z=>⟨.ref a,H,I,rfl,q1 (r2.nil_iff.mp z)⟩) (fun z=>?_) (by rw [<- r1.length,<- r2.length]; exact hz)
 refine ⟨.ref s.heap.objs.size,_,I.laid (t':=s.toks) (o:=.tup (xs ++ ys)) (fun b ob q=>Heap.get?_push_of_some _ q) (Nat.le_refl _) ?_,rfl,q2 (fun w=>z (r2.nil_iff.mpr w)) _ (I.hok.fresh (Nat.le_refl _))⟩
 exact ⟨by rw [List.length_append]; exact hz,_,r1.append r2,IsTup.new _ _⟩
end
noncomputable def ixN (n:Nat) (i:Int):Option Nat:=if 0<=i then (if i < n then some i.toNat else none) else if -(n:Int)<=i then some (i + n).toNat else none
noncomputable def atI {α:Type} (xs:List α) (i:Int):Option α:=(ixN xs.length i).bind fun j=>xs[j]?
theorem ixN_seq {n:Nat} {i:Int} {j:Nat} (h:ixN n i = some j):seqIndex? i n = some j/\j < n/\-(n:Int)<=i/\i < n:=by
 unfold ixN at h
 by_cases h0:0<=i
 ·rw [if_pos h0] at h
  by_cases h1:i < n
  ·rw [if_pos h1] at h
   have e:i.toNat = j:=Option.some.inj h
   exact ⟨by rw [seqIndex_of h0 h1,e],by omega,by omega,h1⟩
  ·rw [if_neg h1] at h; cases h
 ·rw [if_neg h0] at h
  by_cases h1:-(n:Int)<=i
  ·rw [if_pos h1] at h
   have e:(i + n).toNat = j:=Option.some.inj h
   exact ⟨by rw [seqIndex_neg (by omega) h1,e],by omega,h1,by omega⟩
  ·rw [if_neg h1] at h; cases h
theorem b3t {α:Type} {xs:List α} {i:Int} {v:α} (h:atI xs i = some v):∃ j,seqIndex? i xs.length = some j/\xs[j]? = some v/\j < xs.length/\-(xs.length:Int)<=i/\i < xs.length:=by
 unfold atI at h
 cases e:ixN xs.length i with
 | none=>rw [e] at h; cases h
 | some j=>
  rw [e] at h
  obtain ⟨h1,h2,h3,h4⟩:=ixN_seq e
  exact ⟨j,h1,h,h2,h3,h4⟩
theorem b1j {α:Type} {xs:List α} {j:Nat} {v:α} (h:xs[j]? = some v):atI xs (j:Int) = some v:=by
 have hj:j < xs.length:=(List.getElem?_eq_some_iff.mp h).1
 have e:ixN xs.length (j:Int) = some j:=by
  unfold ixN
  rw [if_pos (by omega),if_pos (by omega)]; simp
 unfold atI; rw [e]; exact h
noncomputable def PlainIx (b:Expr):Prop:=∀ o i,subscripted b false o i = operate [o,i] (getItem o i)
noncomputable def IxR (X:Cx) (r:R2):Prop:=
 ∀ (value slice:Expr) (pins:List (Addr × Obj)) (s:Shared) (σ:St) (H:Hp) (x y:V) (v u:Value) (Q:VK),Inv X pins σ H s->RelV x v->RelV y u->r x y H Q ->
  subscripted slice false v u = operate [v,u] (getItem v u)->wpAny (model X.prog X.w) X.A (subscriptTail value slice v u) (EP X pins σ Q) X.xe s
noncomputable def MtR (X:Cx) (id:String) (r:V->List V->Hp->VK->Prop):Prop:=
 ∀ (pins:List (Addr × Obj)) (s:Shared) (σ:St) (H:Hp) (x:V) (xs:List V) (v:Value) (us:List Value) (Q:VK),Inv X pins σ H s->RelV x v->Vals xs us->r x xs H Q ->
  wpAny (model X.prog X.w) X.A (call (.builtin id) (v :: us)) (EP X pins σ Q) X.xe s
section
variable {X:Cx} {a b:Expr} {ta tb:TE} {pos:Pos}
theorem IxR.or {r r':R2} (h:IxR X r) (h':IxR X r'):IxR X (fun x y H Q=>r x y H Q\/r' x y H Q):=by
 intro value slice pins s σ H x y v u Q I rx ry q hs
 rcases q with q | q
 ·exact h value slice pins s σ H x y v u Q I rx ry q hs
 ·exact h' value slice pins s σ H x y v u Q I rx ry q hs
theorem a0l {r:R2} (hr:IxR X r) (ha:PE X a ta) (hb:PE X b tb) (hs:PlainIx b):PE X (.Subscript a b pos) (tOp r ta tb):=by
 intro pins s σ H Q I h
 exact Subscript_ (binT ha hb I h fun v u s2 x y H2 I2 rx ry q=>hr a b pins s2 σ H2 x y v u Q I2 rx ry q (hs _ _))
noncomputable def rIxL (K:W.Frag):R2:=fun x y H Q=>∃ p xs i v,x = .ref p/\y = .int i/\SqL K H p xs/\atI xs i = some v/\Q v H
noncomputable def rIxT (K:W.Frag):R2:=fun x y H Q=>∃ p xs i v,x = .ref p/\y = .int i/\SqT K H p xs/\atI xs i = some v/\Q v H
noncomputable def rIxS:R2:=fun x y H Q=>∃ z i c,x = .str z/\y = .int i/\z.length<=sizeLine/\atI z.cps.toList i = some c/\Q (.str ⟨#[c]⟩) H
theorem ix_list:IxR X (rIxL X.K):=by
 intro value slice pins s σ H x y v u Q I rx ry h hs
 obtain ⟨p,xs,i,z,rfl,rfl,hq,he,q⟩:=h
 cases rx
 obtain ⟨t,rfl⟩:=ry
 obtain ⟨its,r,pl,hz⟩:=I.list hq
 obtain ⟨j,h1,h2,h3,h4,h5⟩:=b3t he
 obtain ⟨w,ew,rw'⟩:=r.get h2
 have hl:=r.length
 have hn:=b2w
 have fin:EP X pins σ Q w s:=⟨z,H,I,rw',q⟩
 by_cases h0:0<=i
 ·have hj:i.toNat = j:=by
   rw [seqIndex_of h0 h5] at h1
   exact Option.some.inj h1
  exact item_listR pl.isList h0 (by omega) (by rw [hj]; simpa using ew) fin hs
 ·have hj:(i + (its.toArray.size:Int)).toNat = j:=by
   rw [seqIndex_neg (by omega) h4] at h1
   rw [List.size_toArray,<- hl]
   exact Option.some.inj h1
  exact subscriptTail_builtinR (x:=w) pl.isList.typeIs slot_list_getitem.lookup
   (wpAny_getItem_list_neg (Q:=fun r s'=>r = w/\EP X pins σ Q r s') pl.isList (by omega) (by rw [List.size_toArray] <;> omega) (by omega) (by rw [hj]; simpa using ew) ⟨rfl,fin⟩) hs
theorem ix_tup:IxR X (rIxT X.K):=by
 intro value slice pins s σ H x y v u Q I rx ry h hs
 obtain ⟨p,xs,i,z,rfl,rfl,hq,he,q⟩:=h
 cases rx
 obtain ⟨t,rfl⟩:=ry
 obtain ⟨its,r,pl,hz⟩:=I.tuple hq
 obtain ⟨j,h1,h2,h3,h4,h5⟩:=b3t he
 obtain ⟨w,ew,rw'⟩:=r.get h2
 have hl:=r.length
 have hn:=b2w
 have fin:EP X pins σ Q w s:=⟨z,H,I,rw',q⟩
 exact subscriptTail_builtinR (x:=w) pl.typeIs slot_tuple_getitem.lookup
  (getItem_tuple (j:=j) (Q:=fun r s'=>r = w/\EP X pins σ Q r s') pl (by omega) (by omega) (by rw [List.size_toArray,<- hl]; exact h1) (by simpa using ew) ⟨rfl,fin⟩) hs
theorem ix_str:IxR X rIxS:=by
 intro value slice pins s σ H x y v u Q I rx ry h hs
 obtain ⟨z,i,c,rfl,rfl,hz,he,q⟩:=h
 obtain ⟨t,rfl⟩:=rx
 obtain ⟨t',rfl⟩:=ry
 obtain ⟨j,h1,h2,h3,h4,h5⟩:=b3t he
 have hl:z.cps.toList.length = z.length:=by simp [Str.length]
 rw [hl] at h1 h4 h5
 have hn:=b2w
 exact tail_any (typeIs_str s z t) slot_str_getitem.lookup (getItem_str (c:=c) (by
  have e1:decide (i < -(2 ^ 63:Int)) = false:=decide_eq_false (by omega)
  have e2:decide (i >= 2 ^ 63) = false:=decide_eq_false (by omega)
  rw [e1,e2,Bool.or_false]) (by rw [h1]; simpa using h2) ⟨.str ⟨#[c]⟩,H,I.tok _,⟨_,rfl⟩,q⟩) hs
noncomputable def rIx (K:W.Frag):R2:=fun x y H Q=>rIxL K x y H Q\/rIxT K x y H Q\/rIxS x y H Q
theorem ix_seq:IxR X (rIx X.K):=ix_list.or (ix_tup.or ix_str)
theorem b9l (lo hi:Option Int) (n:Nat):(sliceBounds lo hi none n).1 = ((HT.sIx n 0 lo:Nat):Int)/\(sliceBounds lo hi none n).2.1 = ((HT.sIx n n hi:Nat):Int)/\(sliceBounds lo hi none n).2.2 = 1:=by
 refine ⟨?_,?_,rfl⟩
 ·cases lo with
  | none=>simp [sliceBounds,HT.sIx]
  | some i=>
   simp only [sliceBounds,HT.sIx,Option.getD_none,show (1:Int) > 0 by decide,if_true]
   by_cases h:i < 0
   ·simp only [h,if_true] <;> omega
   ·simp only [h,if_false] <;> omega
 ·cases hi with
  | none=>simp [sliceBounds,HT.sIx]
  | some i=>
   simp only [sliceBounds,HT.sIx,Option.getD_none,show (1:Int) > 0 by decide,if_true]
   by_cases h:i < 0
   ·simp only [h,if_true] <;> omega
   ·simp only [h,if_false] <;> omega
theorem b8b (its:List Value) (lo hi:Option Int):slicePick its.toArray lo hi none = ((its.drop (HT.sIx its.length 0 lo)).take (HT.sIx its.length its.length hi - HT.sIx its.length 0 lo)).toArray:=by
 obtain ⟨h1,h2,h3⟩:=b9l lo hi its.toArray.size
 unfold slicePick
 rw [h1,h2,h3]
 simp only [sliceRange_one,pick_run,List.size_toArray] <;> rfl
noncomputable def rSlL (K:W.Frag):V->Option Int->Option Int->Hp->VK->Prop:=fun x lo hi H Q=>∃ a xs,x = .ref a/\SqL K H a xs/\∀ p,H p = none->Q (.ref p) (upd H p (.lst (cutV xs lo hi)))
theorem sl_list:SlR X (rSlL X.K):=by
 intro pins s σ H x v vl vu lo hi sl Q I rx hs pl pu h
 obtain ⟨a,xs,rfl,hx,q⟩:=h
 cases rx
 obtain ⟨its,r,ht,hz⟩:=I.list hx
 have hlen:=r.length
 refine ⟨"list",_,slot_list_getitem.lookup,ht.isList.typeIs,?_⟩
 refine wpAny_getItem_list_slice ht.isList hs pl pu .none (by simp) ?_ (by rw [List.size_toArray] <;> omega)
 rw [b8b,<- hlen]
 refine ⟨.ref s.heap.objs.size,_,I.laid (t':=s.toks) (o:=.lst (cutV xs lo hi)) (fun b ob q=>Heap.get?_push_of_some _ q) (Nat.le_refl _) ?_,rfl,q _ (I.hok.fresh (Nat.le_refl _))⟩
 exact ⟨Nat.le_trans (b4j xs lo hi) hz,_,0,(r.drop (HT.sIx xs.length 0 lo)).take (HT.sIx xs.length xs.length hi - HT.sIx xs.length 0 lo),Heap.get?_push_size _ rfl⟩
noncomputable def a9p:V->Bool
 | .non=>true
 | .bl _=>true
 | .int _=>true
 | .str _=>true
 | _=>false
noncomputable def eqV:V->V->Bool
 | .non,.non=>true
 | .bl a,.bl b=>a == b
 | .bl a,.int b=>(if a then 1 else 0) == b
 | .int a,.bl b=>a == (if b then 1 else 0)
 | .int a,.int b=>a == b
 | .str a,.str b=>a == b
 | _,_=>false
theorem eqAt_V {A:Around} {s:Shared} {y x:V} {u v:Value} (ry:RelV y u) (rx:RelV x v) (fy:a9p y = true) (fx:a9p x = true):SeqAt.EqAt A s u v (eqV y x):=by
 cases y with
 | non=>
  cases ry
  cases x with
  | non=>cases rx; exact SeqAt.EqAt.same _
  | bl b=>cases rx; exact SeqAt.EqAt.none_bool b
  | int b=>obtain ⟨t,rfl⟩:=rx; exact SeqAt.EqAt.none_int b t
  | str b=>obtain ⟨t,rfl⟩:=rx; exact SeqAt.EqAt.none_str b t
  | _=>exact absurd (show false = true from fx) Bool.false_ne_true
 | bl a=>
  cases ry
  cases x with
  | non=>cases rx; exact SeqAt.EqAt.bool_none a
  | bl b=>cases rx; exact SeqAt.EqAt.bool_bool a b
  | int b=>obtain ⟨t,rfl⟩:=rx; exact SeqAt.EqAt.bool_int a b t
  | str b=>obtain ⟨t,rfl⟩:=rx; exact SeqAt.EqAt.bool_str a b t
  | _=>exact absurd (show false = true from fx) Bool.false_ne_true
 | int a=>
  obtain ⟨t',rfl⟩:=ry
  cases x with
  | non=>cases rx; exact SeqAt.EqAt.int_none a t'
  | bl b=>cases rx; exact SeqAt.EqAt.int_bool a t' b
  | int b=>obtain ⟨t,rfl⟩:=rx; exact SeqAt.EqAt.int_int a t' b t
  | str b=>obtain ⟨t,rfl⟩:=rx; exact SeqAt.EqAt.int_str a t' b t
  | _=>exact absurd (show false = true from fx) Bool.false_ne_true
 | str a=>
  obtain ⟨t',rfl⟩:=ry
  cases x with
  | non=>cases rx; exact SeqAt.EqAt.str_none a t'
  | bl b=>cases rx; exact SeqAt.EqAt.str_bool a t' b
  | int b=>obtain ⟨t,rfl⟩:=rx; exact SeqAt.EqAt.str_int a t' b t
  | str b=>obtain ⟨t,rfl⟩:=rx; exact SeqAt.EqAt.str_str a t' b t
  | _=>exact absurd (show false = true from fx) Bool.false_ne_true
 | _=>exact absurd (show false = true from fy) Bool.false_ne_true
noncomputable def eqU (x:V) (u:Value):Bool:=match u with
 | .none=>eqV .non x
 | .bool b=>eqV (.bl b) x
 | .int i _=>eqV (.int i) x
 | .str z _=>eqV (.str z) x
 | _=>false
theorem c4s {x y:V} {u:Value} (r:RelV y u) (f:a9p y = true):eqU x u = eqV y x:=by
 cases y with
 | non=>cases r; rfl
 | bl b=>cases r; rfl
 | int i=>obtain ⟨t,rfl⟩:=r; rfl
 | str z=>obtain ⟨t,rfl⟩:=r; rfl
 | _=>exact absurd (show false = true from f) Bool.false_ne_true
theorem b1k {x:V}:∀ {xs:List V} {us:List Value},Vals xs us->xs.all a9p = true->us.any (eqU x) = xs.any fun y=>eqV y x
 | _,_,.nil,_=>rfl
 | y :: xs,u :: us,.cons r t,f=>by
  rw [List.all_cons,Bool.and_eq_true] at f
  rw [List.any_cons,List.any_cons,c4s r f.1,b1k t f.2]
theorem b0e {A:Around} {s:Shared} {x:V} {v:Value} (rx:RelV x v) (fx:a9p x = true):∀ {xs:List V} {us:List Value},Vals xs us->xs.all a9p = true->∀ u ∈ us,SeqAt.EqAt A s u v (eqU x u)
 | _,_,.nil,_=>fun u hu=>by cases hu
 | y :: xs,u :: us,.cons r t,f=>fun u' hu=>by
  rw [List.all_cons,Bool.and_eq_true] at f
  rcases List.mem_cons.mp hu with rfl | hu
  ·rw [c4s r f.1]; exact eqAt_V r rx f.1 fx
  ·exact b0e rx fx t f.2 u' hu
noncomputable def inV (x:V) (xs:List V):Bool:=xs.any fun y=>eqV y x
noncomputable def rIn (K:W.Frag) (neg:Bool):R2:=fun x y H Q=>∃ p xs,y = .ref p/\(SqL K H p xs\/SqT K H p xs)/\a9p x = true/\xs.all a9p = true/\Q (.bl (if neg then !inV x xs else inV x xs)) H
theorem c4t:OpR X (compareOp .In) (rIn X.K false):=by
 intro pins s σ H x y v u Q I rx ry h
 obtain ⟨p,xs,rfl,hq,fx,fs,q⟩:=h
 cases ry
 rcases hq with hq | hq
 ·obtain ⟨its,r,pl,hz⟩:=I.list hq
  refine SeqAt.in_listAt (eqU x) pl.isList (fun w hw=>b0e rx fx r fs w (by simpa using hw)) ⟨.bl _,H,I,rfl,?_⟩
  rw [show its.toArray.any (eqU x) = its.any (eqU x) by simp,b1k r fs]
  exact q
 ·obtain ⟨its,r,pl,hz⟩:=I.tuple hq
  refine SeqAt.in_tupleAt (eqU x) pl (fun w hw=>b0e rx fx r fs w (by simpa using hw)) ⟨.bl _,H,I,rfl,?_⟩
  rw [show its.toArray.any (eqU x) = its.any (eqU x) by simp,b1k r fs]
  exact q
theorem b9m:OpR X (compareOp .NotIn) (rIn X.K true):=by
 intro pins s σ H x y v u Q I rx ry h
 obtain ⟨p,xs,rfl,hq,fx,fs,q⟩:=h
 cases ry
 rcases hq with hq | hq
 ·obtain ⟨its,r,pl,hz⟩:=I.list hq
  refine SeqAt.notIn_listAt (eqU x) pl.isList (fun w hw=>b0e rx fx r fs w (by simpa using hw)) ⟨.bl _,H,I,rfl,?_⟩
  rw [show its.toArray.any (eqU x) = its.any (eqU x) by simp,b1k r fs]
  exact q
 ·obtain ⟨its,r,pl,hz⟩:=I.tuple hq
  refine SeqAt.notIn_tupleAt (eqU x) pl (fun w hw=>b0e rx fx r fs w (by simpa using hw)) ⟨.bl _,H,I,rfl,?_⟩
  rw [show its.toArray.any (eqU x) = its.any (eqU x) by simp,b1k r fs]
  exact q
theorem b9n:a3s X (.type "list") (fun xs H Q=>∃ p ys,xs = [.ref p]/\(SqL X.K H p ys\/SqT X.K H p ys)/\∀ l,H l = none->Q (.ref l) (upd H l (.lst ys))):=by
 intro pins s σ H xs us Q I r h
 obtain ⟨p,ys,rfl,hq,q⟩:=h
 obtain ⟨u,rfl,rx⟩:=vals1 r
 cases rx
 have fin:∀ (its:List Value),Vals ys its->ys.length<=sizeLine->∀ (h':Heap) (c':Nat),(∀ b o',s.heap.get? b = some o'->h'.get? b = some o') ->
   h'.get? s.heap.objs.size = some { cls:=.type "list",dict:=none,data:=.seq its.toArray c',slots:=#[] }->EP X pins σ Q (.ref s.heap.objs.size) { s with heap:=h' }:=fun its r' hz h' c' kp e=>
  ⟨.ref s.heap.objs.size,_,I.laid (t':=s.toks) kp (Nat.le_refl _) (show a2e X.prog X.w _ h' _ (.lst ys) from ⟨hz,its,c',r',e⟩),rfl,q _ (I.hok.fresh (Nat.le_refl _))⟩
 rcases hq with hq | hq
 ·obtain ⟨its,r',pl,hz⟩:=I.list hq
  have hlen:=r'.length
  obtain ⟨o,ho,hc,n,hd⟩:=pl.isList
  exact call_list_seq p (.inl rfl) ho hc hd (fun h' c' kp e=>fin its r' hz h' c' kp e) (by simp only [List.size_toArray] <;> omega)
 ·obtain ⟨its,r',pl,hz⟩:=I.tuple hq
  have hlen:=r'.length
  obtain ⟨o,ho,hc,n,hd⟩:=pl
  exact call_list_seq p (.inr rfl) ho hc hd (fun h' c' kp e=>fin its r' hz h' c' kp e) (by simp only [List.size_toArray] <;> omega)
theorem b8c:a3s X (.type "tuple") (fun xs H Q=>∃ p ys,xs = [.ref p]/\((SqL X.K H p ys/\∀ l,H l = none->Q (.ref l) (upd H l (.tup ys)))\/(SqT X.K H p ys/\Q (.ref p) H))):=by
 intro pins s σ H xs us Q I r h
 obtain ⟨p,ys,rfl,h⟩:=h
 obtain ⟨u,rfl,rx⟩:=vals1 r
 cases rx
 rcases h with ⟨hq,q⟩ | ⟨hq,q⟩
 ·obtain ⟨its,r',pl,hz⟩:=I.list hq
  have hlen:=r'.length
  refine call_tuple_list pl.isList (fun h' kp=>?_) (by simp only [List.size_toArray] <;> omega)
  have I1:Inv X pins σ H { s with heap:=h' }:=I.kept (t':=s.toks) kp
  have I2:Inv X pins σ (upd H h'.objs.size (.tup ys)) { s with heap:=h'.push { cls:=.type "tuple",data:=.seq its.toArray } }:=
   I1.laid (t':=s.toks) (fun b o e=>Heap.get?_push_of_some _ e) (Nat.le_refl _) (show a2e X.prog X.w _ _ _ (.tup ys) from ⟨hz,its,r',IsTup.new _ _⟩)
  exact ⟨.ref h'.objs.size,_,I2,rfl,q _ (I1.hok.fresh (Nat.le_refl _))⟩
 ·obtain ⟨its,r',pl,hz⟩:=I.tuple hq
  exact call_tuple_same pl ⟨.ref p,H,I,rfl,q⟩
noncomputable def tyV (K:W.Frag) (T:String) (x:V) (H:Hp):Prop:=match x with
 | .str _=>T = "str"
 | .int _=>T = "int"
 | .ref p=>(T = "list"/\∃ xs,SqL K H p xs)\/(T = "tuple"/\∃ o,K.lookup p = some o/\o.cls = .type "tuple"/\o.dict = none) \/
   (T = "dict"/\((∃ kvs,H p = some (.dK kvs))\/∃ kvs,H p = some (.dT kvs)))\/(T = "set"/\∃ S n,H p = some (.set S n))
 | _=>False
theorem c4u {pins:List (Addr × Obj)} {σ:St} {H:Hp} {s:Shared} {T:String} {x:V} {v:Value} (I:Inv X pins σ H s) (r:RelV x v) (ty:tyV X.K T x H) :
  s.TypeIs v T/\∀ a,v = .ref a->∃ ob,s.heap.get? a = some ob/\ob.dict = none:=by
 cases x with
 | str z=>
  obtain ⟨t,rfl⟩:=r
  cases (show T = "str" from ty)
  exact ⟨typeIs_str s z t,fun _ e=>nomatch e⟩
 | int i=>
  obtain ⟨t,rfl⟩:=r
  cases (show T = "int" from ty)
  exact ⟨typeIs_int s i t,fun _ e=>nomatch e⟩
 | ref p=>
  cases r
  rcases ty with ⟨rfl,xs,hq⟩ | ⟨rfl,o,hk,hc,hd⟩ | ⟨rfl,hk⟩ | ⟨rfl,S,n,hk⟩
  ·obtain ⟨its,_,pl,_⟩:=I.list hq
   refine ⟨pl.isList.typeIs,fun a e=>?_⟩
   cases e
   obtain ⟨o,n,e,c,hd,_⟩:=pl
   exact ⟨o,e,hd⟩
  ·refine ⟨⟨o,I.kIn p o hk,hc⟩,fun a e=>?_⟩
   cases e
   exact ⟨o,I.kIn _ o hk,hd⟩
  ·have z:∃ o,s.heap.get? p = some o/\o.ExactDict:=by
    rcases hk with ⟨kvs,hk⟩ | ⟨kvs,hk⟩
    ·obtain ⟨_,_,_,_,o,_,_,e,ex,_⟩:=I.hok p _ hk
     exact ⟨o,e,ex⟩
    ·obtain ⟨_,_,_,_,o,_,_,e,ex,_⟩:=I.hok p _ hk
     exact ⟨o,e,ex⟩
   obtain ⟨o,e,ex⟩:=z
   refine ⟨⟨o,e,ex.1⟩,fun a e2=>?_⟩
   cases e2
   exact ⟨o,e,ex.2.1⟩
  ·obtain ⟨o,_,_,_,e,ex,_⟩:=I.hok p _ hk
   refine ⟨⟨o,e,ex.1⟩,fun a e2=>?_⟩
   cases e2
   exact ⟨o,e,ex.2.1⟩
 | _=>exact False.elim ty
noncomputable def tBM0 (K:W.Frag) (T:String) (r:V->List V->Hp->VK->Prop) (to:TE):TE:=fun σ H Q=>to σ H fun x H1=>tyV K T x H1/\r x [] H1 Q
noncomputable def tBM (K:W.Frag) (T:String) (r:V->List V->Hp->VK->Prop) (to:TE) (t:TA):TE:=fun σ H Q=>to σ H fun x H1=>tyV K T x H1/\t σ H1 fun xs H2=>r x xs H2 Q
variable {o e:Expr} {es:List Expr} {to:TE} {t:TA} {name:Str} {apos cpos:Pos} {T id:String} {r:V->List V->Hp->VK->Prop}
theorem pe_bm0 (pa:PlainAttrs T) (slot:Slot T name id) (hty:typeOf (.builtin id) = pure (.type "method_descriptor")) (hm:MtR X id r) (ho:PE X o to)
  (hbase:attributeBase o name X.env (eval o X.env) = eval o X.env:=by rfl) (hline:(apos.endLine == cpos.line) = true:=by rfl):PE X (.Call (.Attribute o name apos) [] [] cpos) (tBM0 X.K T r to):=by
 intro pins s σ H Q I h
 refine wpAny_Call_method0_late hbase hline (thn (ho pins s σ H _ I h) fun v s1 ⟨x,H1,I1,r1,ty,q1⟩=>?_)
 obtain ⟨h1,h2⟩:=c4u I1 r1 ty
 exact ⟨T,id,pa,slot,hty,h1,h2,Calls.callWith_builtin rfl (PySem.evalArgs_none (hm pins s1 σ H1 x [] v [] Q I1 r1 .nil q1))⟩
theorem pe_bm (pa:PlainAttrs T) (slot:Slot T name id) (hty:typeOf (.builtin id) = pure (.type "method_descriptor")) (hm:MtR X id r) (ho:PE X o to) (ha:PA X (e :: es) t)
  (hbase:attributeBase o name X.env (eval o X.env) = eval o X.env:=by rfl)
  (hfew:((backTo cpos (starEach (e :: es) X.env)).all (fun x=>!x.1) && (backToKw cpos (keywordEach [] X.env)).all (fun x=>x.1.isSome)
   && decide ((e :: es).length + ([]:List Keyword).length + (if ([]:List Keyword).isEmpty then 0 else 1) < 30)) = true:=by rfl)
  (hline:(apos.endLine == cpos.line) = true:=by rfl) (hs:starEach (e :: es) X.env = (false,eval e X.env) :: starEach es X.env:=by rfl) (hplain:(backTo cpos (starEach es X.env)).any (·.1) = false:=by rfl) :
  PE X (.Call (.Attribute o name apos) (e :: es) [] cpos) (tBM X.K T r to t):=by
 intro pins s σ H Q I h
 refine wpAny_Call_method_late hbase hfew hline rfl (thn (ho pins s σ H _ I h) fun v s1 ⟨x,H1,I1,r1,ty,q1⟩=>?_)
 obtain ⟨h1,h2⟩:=c4u I1 r1 ty
 refine ⟨T,id,pa,slot,hty,h1,h2,?_⟩
 have hA:=ha cpos pins s1 σ H1 _ I1 q1
 rw [hs] at hA ⊢
 refine Calls.callWith_builtin (by show (false || (backTo cpos (starEach es X.env)).any (·.1)) = false; rw [hplain] <;> rfl) (Calls.evalArgs_plain ?_)
 exact thn hA fun us s2 ⟨vs,H2,I2,r2,q2⟩=>hm pins s2 σ H2 x vs v us Q I2 r1 r2 q2
end
noncomputable def MtM (X:Cx) (id:String) (r:V->List V->Hp->VK->Prop):Prop:=
 ∀ (pins:List (Addr × Obj)) (s:Shared) (σ:St) (H:Hp) (x:V) (xs:List V) (v:Value) (us:List Value) (Q:VK),Inv X pins σ H s->RelV x v->Vals xs us->r x xs H Q ->
  wpAny (model X.prog X.w) X.A (call (.builtin id) (v :: us)) (EP X pins σ Q) X.xe s
theorem Vals.one:∀ {x:V} {us:List Value},Vals [x] us->∃ u,us = [u]/\RelV x u
 | _,_,.cons r .nil=>⟨_,rfl,r⟩
theorem Vals.zero:∀ {us:List Value},Vals [] us->us = []
 | _,.nil=>rfl
theorem Vals.dropLast {xs:List V} {us:List Value} (h:Vals xs us):Vals xs.dropLast us.dropLast:=by
 induction h with
 | nil=>exact .nil
 | cons r t ih=>
  cases t with
  | nil=>exact .nil
  | cons q t'=>exact .cons r ih
theorem Vals.reverse {xs:List V} {us:List Value} (h:Vals xs us):Vals xs.reverse us.reverse:=by
 induction h with
 | nil=>exact .nil
 | cons r t ih=>rw [List.reverse_cons,List.reverse_cons]; exact Vals.append ih (.cons r .nil)
theorem Vals.rep {xs:List V} {us:List Value} (h:Vals xs us):∀ k:Nat,Vals (List.replicate k xs).flatten (List.replicate k us).flatten
 | 0=>.nil
 | k + 1=>by
  rw [List.replicate_succ,List.replicate_succ,List.flatten_cons,List.flatten_cons]
  exact Vals.append h (Vals.rep h k)
theorem c3d {α:Type} (l:List α):l.eraseIdx (l.length - 1) = l.dropLast:=by
 induction l with
 | nil=>rfl
 | cons a r ih=>
  cases r with
  | nil=>rfl
  | cons b r=>
   have e:(a :: b :: r).length - 1 = ((b :: r).length - 1) + 1:=by
    have h1:(a :: b :: r).length = r.length + 2:=rfl
    have h2:(b :: r).length = r.length + 1:=rfl
    omega
   rw [e,List.eraseIdx_cons_succ,ih]
   all_goals rfl
theorem foldl_rep (its:List Value):∀ (k:Nat) (acc:List Value),
  List.foldl (fun x1 x2=>x1 ++ x2) acc.toArray (List.replicate k its.toArray) = (acc ++ (List.replicate k its).flatten).toArray
 | 0,acc=>by simp
 | k + 1,acc=>by
  have e:acc.toArray ++ its.toArray = (acc ++ its).toArray:=by simp
  have e2:(acc ++ its) ++ (List.replicate k its).flatten = acc ++ (List.replicate (k + 1) its).flatten:=by
   rw [List.replicate_succ,List.flatten_cons,List.append_assoc]
  rw [<- e2,<- foldl_rep its k (acc ++ its),<- e,List.replicate_succ,List.foldl_cons]
section
variable {X:Cx} {pins:List (Addr × Obj)} {σ:St} {H:Hp} {s:Shared} {l b:Addr} {xs ys zs:List V}
theorem Inv.lset {its its':List Value} {n:Nat} {f:Array Value->Array Value} {t':Nat} (I:Inv X pins σ H s) (hH:H l = some (.lst xs))
  (e:s.heap.get? l = some { cls:=.type "list",data:=.seq its.toArray n }) (hf:f its.toArray = its'.toArray) (hv:Vals ys its') (hz:ys.length<=sizeLine) :
  Inv X pins σ (upd H l (.lst ys)) { s with heap:=s.heap.update l (Obj.mapSeq f),toks:=t' }:=by
 have q:=PySem.IsL.update e f
 rw [hf] at q
 refine I.write (x:=l) (e:=l) (by rw [hH]; exact trivial) (.inl rfl) (fun b' u hb hu=>(Heap.get?_update_other s.heap (Obj.mapSeq f) (Ne.symm hb)).trans hu) ⟨_,q⟩ ?_
 exact ⟨hz,its',_,hv,q⟩
theorem Inv.lnew {its:List Value} {t':Nat} (I:Inv X pins σ H s) (hv:Vals ys its) (hz:ys.length<=sizeLine) :
  Inv X pins σ (upd H s.heap.objs.size (.lst ys)) { s with heap:=s.heap.push { cls:=.type "list",data:=.seq its.toArray },toks:=t' }:=
 I.laid (fun _ _ q=>Heap.get?_push_of_some _ q) (Nat.le_refl _) ⟨hz,its,0,hv,Heap.get?_push_size _ rfl⟩
theorem Inv.fresh (I:Inv X pins σ H s):H s.heap.objs.size = none:=I.hok.fresh (Nat.le_refl _)
theorem Inv.lstM (I:Inv X pins σ H s) (hH:H l = some (.lst xs)):xs.length<=sizeLine/\∃ (its:List Value) (n:Nat),Vals xs its/\xs.length = its.length/\s.heap.get? l = some { cls:=.type "list",data:=.seq its.toArray n }:=by
 obtain ⟨z,its,n,r,e⟩:=I.hok l _ hH
 exact ⟨z,its,n,r,r.length,e⟩
theorem b4m {n:Nat} (h:n<=sizeLine):Builtin.List.listTooLong n = false:=by
 unfold Builtin.List.listTooLong
 exact decide_eq_false (by omega)
end
section
variable {X:Cx}
noncomputable def rAppend:V->List V->Hp->VK->Prop:=fun x vs H Q=>∃ l xs y,x = .ref l/\vs = [y]/\H l = some (.lst xs)/\xs.length < sizeLine/\Q .non (upd H l (.lst (xs ++ [y])))
theorem b7n:MtM X "list.append" rAppend:=by
 intro pins s σ H x vs v us Q I rx rv h
 obtain ⟨l,xs,y,rfl,rfl,hH,hz,q⟩:=h
 cases rx
 obtain ⟨u,rfl,ru⟩:=rv.one
 obtain ⟨z,its,n,r,hl,e⟩:=I.lstM hH
 refine call_meets F.slot_list_append ⟨_,e,rfl⟩ F.entry_list_append (F.args_list_append_2 _ _) (PySem.list_append l its.toArray n u (by rw [List.size_toArray]; omega)) ⟨e,?_⟩
 refine ⟨.non,_,I.lset (its':=its ++ [u]) hH e (by simp) (r.append (.cons ru .nil)) ?_,rfl,q⟩
 rw [List.length_append,List.length_singleton]
 omega
noncomputable def rExtend:V->List V->Hp->VK->Prop:=fun x vs H Q=>∃ l b xs zs,x = .ref l/\vs = [.ref b]/\H l = some (.lst xs)/\H b = some (.lst zs)/\xs.length + zs.length<=sizeLine/\Q .non (upd H l (.lst (xs ++ zs)))
theorem c4v:MtM X "list.extend" rExtend:=by
 intro pins s σ H x vs v us Q I rx rv h
 obtain ⟨l,b,xs,zs,rfl,rfl,hH,hB,hz,q⟩:=h
 cases rx
 obtain ⟨u,rfl,ru⟩:=rv.one
 cases ru
 obtain ⟨z,its,n,r,hl,e⟩:=I.lstM hH
 obtain ⟨z2,its2,n2,r2,hl2,e2⟩:=I.lstM hB
 have hsz:its.toArray.size + its2.toArray.size<=sizeLine:=by rw [List.size_toArray,List.size_toArray]; omega
 have hlong:¬ (!its.toArray.isEmpty && Builtin.List.listTooLong (its.toArray.size + its2.toArray.size)) = true:=by
  rw [b4m hsz,Bool.and_false]
  exact Bool.false_ne_true
 refine call_meets F.slot_list_extend ⟨_,e,rfl⟩ F.entry_list_extend (F.args_list_extend_2 _ _)
  (AutoSeq1.list_extend_list_list_0 l its.toArray n b its2.toArray n2 hlong (by rw [List.size_toArray]; omega) (by omega)) ⟨e,e2,?_⟩
 refine ⟨.non,_,I.lset (its':=its ++ its2) hH e (by simp) (r.append r2) ?_,rfl,q⟩
 rw [List.length_append]
 omega
noncomputable def rPop:V->List V->Hp->VK->Prop:=fun x vs H Q=>∃ l xs y,x = .ref l/\vs = []/\H l = some (.lst xs)/\xs[xs.length - 1]? = some y/\Q y (upd H l (.lst xs.dropLast))
theorem mt_pop:MtM X "list.pop" rPop:=by
 intro pins s σ H x vs v us Q I rx rv h
 obtain ⟨l,xs,y,rfl,rfl,hH,hy,q⟩:=h
 cases rx
 have hus:=rv.zero
 subst hus
 obtain ⟨z,its,n,r,hl,e⟩:=I.lstM hH
 obtain ⟨u,hu,ru⟩:=r.get hy
 have hy':its.toArray[its.toArray.size - 1]? = some u:=by
  show its.toArray[its.length - 1]? = some u
  rw [<- Array.getElem?_toList,<- hl]
  exact hu
 refine call_meets F.slot_list_pop ⟨_,e,rfl⟩ F.entry_list_pop (F.args_list_pop_1 _) (MeetsSeq.list_pop_last l its.toArray n u hy' (by rw [List.size_toArray]; omega)) ⟨e,?_⟩
 refine ⟨y,_,I.lset (its':=its.dropLast) hH e ?_ r.dropLast ?_,ru,q⟩
 ·show its.toArray.eraseIdxIfInBounds (its.toArray.size - 1) = its.dropLast.toArray
  rw [List.size_toArray,List.eraseIdxIfInBounds_toArray,c3d]
 ·rw [List.length_dropLast]
  omega
noncomputable def rCat:R2:=fun x y H Q=>∃ l b xs zs,x = .ref l/\y = .ref b/\H l = some (.lst xs)/\H b = some (.lst zs)/\xs.length + zs.length<=sizeLine/\∀ p,H p = none->Q (.ref p) (upd H p (.lst (xs ++ zs)))
theorem op_cat:OpR X (binaryOp .Add) rCat:=by
 intro pins s σ H x y v u Q I rx ry h
 obtain ⟨l,b,xs,zs,rfl,rfl,hH,hB,hz,q⟩:=h
 cases rx
 cases ry
 obtain ⟨z,its,n,r,hl,e⟩:=I.lstM hH
 obtain ⟨z2,its2,n2,r2,hl2,e2⟩:=I.lstM hB
 refine PySem.P.add_list e e2 ?_ (by rw [List.size_toArray,List.size_toArray]; omega)
 have ea:its.toArray ++ its2.toArray = (its ++ its2).toArray:=by simp
 rw [ea]
 exact ⟨.ref _,_,I.lnew (t':=s.toks) (r.append r2) (by rw [List.length_append]; omega),rfl,q _ I.fresh⟩
noncomputable def rRep:R2:=fun x y H Q=>∃ l k xs,x = .ref l/\y = .int k/\H l = some (.lst xs)/\-(2 ^ 63)<=k/\k < 2 ^ 63/\xs.length * k.toNat<=sizeLine /\
 ∀ p,H p = none->Q (.ref p) (upd H p (.lst (List.replicate k.toNat xs).flatten))
theorem len_rep {α:Type} (xs:List α) (k:Nat):(List.replicate k xs).flatten.length = k * xs.length:=by
 induction k with
 | zero=>simp
 | succ k ih=>rw [List.replicate_succ,List.flatten_cons,List.length_append,ih,Nat.succ_mul,Nat.add_comm]
theorem op_rep:OpR X (binaryOp .Mult) rRep:=by
 intro pins s σ H x y v u Q I rx ry h
 obtain ⟨l,k,xs,rfl,rfl,hH,h1,h2,hz,q⟩:=h
 cases rx
 obtain ⟨t,rfl⟩:=ry
 obtain ⟨z,its,n,r,hl,e⟩:=I.lstM hH
 have hlen:its.toArray.size * k.toNat<=sizeLine:=by rw [List.size_toArray,<- hl]; exact hz
 have hcap:¬ its.toArray.size * k.toNat > (2 ^ 63 - 1) / 8:=by
  have:(sizeLine:Nat)<=(2 ^ 63 - 1) / 8:=by decide
  omega
 have hfit:¬ (!Builtin.List.listFitsIndex k) = true:=by
  rw [fitsIndex_both h1 h2]
  exact Bool.false_ne_true
 have hlong:¬ Builtin.List.listTooLong (its.toArray.size * k.toNat) = true:=by
  rw [b4m hlen]
  exact Bool.false_ne_true
 have hnew:List.foldl (fun x1 x2=>x1 ++ x2) #[] (List.replicate (if its.toArray.isEmpty = true then 0 else k.toNat) its.toArray) = (List.replicate k.toNat its).flatten.toArray:=by
  have f0:∀ m:Nat,List.foldl (fun x1 x2=>x1 ++ x2) #[] (List.replicate m its.toArray) = (List.replicate m its).flatten.toArray:=fun m=>by
   have:=foldl_rep its m []
   rw [List.nil_append] at this
   exact this
  rw [f0]
  cases its with
  | nil=>simp
  | cons a r'=>rw [if_neg (by simp)]
 refine wpAny_binaryOp_repeat_ref (T:="list") (U:="int") (by decide) ⟨_,e,rfl⟩ (fun s'=>typeIs_int s' k t) noFill_list_mul F.fills_int_mul F.slot_int_rmul repeat_list F.slot_int_index.lookup
  (call_meets F.slot_int_rmul (typeIs_int s k t) F.entry_int_rmul (F.args_int_rmul_2 _ _) (int___rmul___int_list k t l its.toArray n)
   ⟨e,rfl,⟨_,e,rfl⟩,call_meets F.slot_list_mul ⟨_,e,rfl⟩ F.entry_list_mul (F.args_list_mul_2 _ _) (AutoListH.list___mul___list_int_3 l its.toArray n k t hfit hcap hlong) ⟨e,?_⟩⟩)
 rw [hnew]
 exact ⟨.ref _,_,I.lnew (t':=s.toks) (r.rep k.toNat) (by rw [len_rep,Nat.mul_comm]; exact hz),rfl,q _ I.fresh⟩
end
section
variable {prog:Program} {w:World} {A:Around} {E:Value->Shared->Prop} {s:Shared}
end
section
variable {X:Cx}
end
section
variable {κ:Type} [DecidableEq κ]
noncomputable def valV (kvs:List (κ × V)) (k:κ):Option V:=(kvs.find? fun kv=>decide (kv.1 = k)).map (·.2)
noncomputable def putK (kvs:List (κ × V)) (k:κ) (v:V):List (κ × V):=
 if (kvs.any fun kv=>decide (kv.1 = k)) = true then kvs.map (fun kv=>if kv.1 = k then (kv.1,v) else kv) else kvs ++ [(k,v)]
noncomputable def dropK (kvs:List (κ × V)) (k:κ):List (κ × V):=kvs.filter fun kv=>decide (kv.1 ≠ k)
theorem a2i {p:κ × V} {r:List (κ × V)} {k:κ} (e:p.1 = k):valV (p :: r) k = some p.2:=by simp [valV,List.find?_cons,e]
theorem a1t {p:κ × V} {r:List (κ × V)} {k:κ} (e:¬ p.1 = k):valV (p :: r) k = valV r k:=by simp [valV,List.find?_cons,e]
theorem a7g (k:κ):∀ kvs:List (κ × V),(kvs.any fun kv=>decide (kv.1 = k)) = (valV kvs k).isSome
 | []=>rfl
 | p :: r=>by
  rw [List.any_cons]
  by_cases e:p.1 = k
  ·simp only [a2i e,decide_eq_true e,Bool.true_or,Option.isSome_some]
  ·rw [a1t e,decide_eq_false e,Bool.false_or]; exact a7g k r
theorem b9o (k j:κ) (y:V):∀ kvs:List (κ × V),valV (kvs.map fun kv=>if kv.1 = k then (kv.1,y) else kv) j = (valV kvs j).map fun x=>if j = k then y else x
 | []=>rfl
 | p :: r=>by
  have ih:=b9o k j y r
  rw [List.map_cons]
  by_cases h:p.1 = k
  ·rw [if_pos h]
   by_cases e:p.1 = j
   ·rw [a2i (p:=(p.1,y)) e,a2i e,Option.map_some,if_pos (e.symm.trans h)]
   ·rw [a1t (p:=(p.1,y)) e,a1t e,ih]
  ·rw [if_neg h]
   by_cases e:p.1 = j
   ·rw [a2i (p:=p) e,a2i e,Option.map_some,if_neg (fun z=>h (e.trans z))]
   ·rw [a1t (p:=p) e,a1t e,ih]
theorem b2z (k j:κ) (y:V):∀ kvs:List (κ × V),valV kvs k = none->valV (kvs ++ [(k,y)]) j = if j = k then some y else valV kvs j
 | [],_=>by
  by_cases e:k = j
  ·rw [if_pos e.symm]; exact a2i (p:=(k,y)) e
  ·rw [if_neg (fun z=>e z.symm)]; exact a1t (p:=(k,y)) e
 | p :: r,hn=>by
  rw [List.cons_append]
  have hk:¬ p.1 = k:=fun z=>by rw [a2i z] at hn; cases hn
  rw [a1t hk] at hn
  have ih:=b2z k j y r hn
  by_cases e:p.1 = j
  ·rw [a2i e,a2i e,if_neg (fun z=>hk (e.trans z))]
  ·rw [a1t e,a1t e,ih]
theorem c7x (kvs:List (κ × V)) (k j:κ) (y:V):valV (putK kvs k y) j = if j = k then some y else valV kvs j:=by
 unfold putK
 by_cases a:(kvs.any fun kv=>decide (kv.1 = k)) = true
 ·rw [if_pos a,b9o]
  rw [a7g] at a
  by_cases e:j = k
  ·obtain ⟨x,hx⟩:=Option.isSome_iff_exists.mp a
   rw [if_pos e,e,hx,Option.map_some,if_pos rfl]
  ·rw [if_neg e]
   cases valV kvs j with
   | none=>rfl
   | some x=>rw [Option.map_some,if_neg e]
 ·rw [if_neg a]
  refine b2z k j y kvs ?_
  rw [a7g] at a
  cases q:valV kvs k with
  | none=>rfl
  | some x=>rw [q] at a; exact (a rfl).elim
theorem a5t (kvs:List (κ × V)) (k:κ) (v:V):(putK kvs k v).length<=kvs.length + 1:=by
 unfold putK
 split
 ·rw [List.length_map]; omega
 ·rw [List.length_append,List.length_cons,List.length_nil]; omega
theorem b9p {kvs:List (κ × V)} {k:κ} (v:V) (h:valV kvs k = none):putK kvs k v = kvs ++ [(k,v)]:=by
 unfold putK
 rw [a7g,h]
 exact if_neg (by decide)
theorem RelO.isSome_eq {o:Option V} {u:Option Value} (r:RelO o u):o.isSome = u.isSome:=by
 cases o with
 | none=>cases u with
  | none=>rfl
  | some _=>exact (show False from r).elim
 | some _=>cases u with
  | none=>exact (show False from r).elim
  | some _=>rfl
theorem RelO.getD {o:Option V} {u:Option Value} {d:V} {d':Value} (r:RelO o u) (rd:RelV d d'):RelV (o.getD d) (u.getD d'):=by
 cases o with
 | none=>cases u with
  | none=>exact rd
  | some _=>exact (show False from r).elim
 | some _=>cases u with
  | none=>exact (show False from r).elim
  | some _=>exact r
theorem KV.val {kvs:List (κ × V)} {vs:List (κ × Value)} (r:KV kvs vs) (k:κ):RelO (valV kvs k) (valueAt vs k):=by
 unfold KV at r
 induction r with
 | nil=>exact True.intro
 | @cons p q ps qs h t ih=>
  obtain ⟨h1,h2⟩:=h
  by_cases e:p.1 = k
  ·have e':q.1 = k:=h1.symm.trans e
   have b:valueAt (q :: qs) k = some q.2:=by simp [valueAt,List.find?_cons,e']
   rw [a2i e,b]; exact h2
  ·have e':¬ q.1 = k:=fun z=>e (h1.trans z)
   have b:valueAt (q :: qs) k = valueAt qs k:=by simp [valueAt,List.find?_cons,e']
   rw [a1t e,b]; exact ih
theorem KV.any {kvs:List (κ × V)} {vs:List (κ × Value)} (r:KV kvs vs) (k:κ):(kvs.any fun kv=>decide (kv.1 = k)) = vs.any fun kv=>decide (kv.1 = k):=by
 unfold KV at r
 induction r with
 | nil=>rfl
 | cons h t ih=>rw [List.any_cons,List.any_cons,ih,h.1]
theorem KV.repl {kvs:List (κ × V)} {vs:List (κ × Value)} (r:KV kvs vs) (k:κ) {y:V} {u:Value} (ry:RelV y u) :
  KV (kvs.map fun kv=>if kv.1 = k then (kv.1,y) else kv) (vs.map fun kv=>if kv.1 = k then (kv.1,u) else kv):=by
 unfold KV at r ⊢
 induction r with
 | nil=>exact .nil
 | @cons p q ps qs h t ih=>
  rw [List.map_cons,List.map_cons]
  refine .cons ?_ ih
  obtain ⟨h1,h2⟩:=h
  by_cases e:p.1 = k
  ·rw [if_pos e,if_pos (h1.symm.trans e)]; exact ⟨h1,ry⟩
  ·rw [if_neg e,if_neg (fun z=>e (h1.trans z))]; exact ⟨h1,h2⟩
theorem KV.put {kvs:List (κ × V)} {vs:List (κ × Value)} (r:KV kvs vs) (k:κ) {y:V} {u:Value} (ry:RelV y u):KV (putK kvs k y) (stored vs k u):=by
 unfold putK stored
 rw [r.any k]
 by_cases e:(vs.any fun kv=>decide (kv.1 = k)) = true
 ·rw [if_pos e,if_pos e]; exact r.repl k ry
 ·rw [if_neg e,if_neg e]; exact Paired.snoc r ⟨rfl,ry⟩
theorem KV.length {kvs:List (κ × V)} {vs:List (κ × Value)} (r:KV kvs vs):kvs.length = vs.length:=Paired.length r
end
theorem b0q {P:Program} {w:World} {k:Key} {u:Value} (r:RelV (kV k) u):(a1i P w).is k u = true:=by
 cases k with
 | inl i=>obtain ⟨t,e⟩:=(show ∃ t,u = Value.int i t from r); subst e; exact b1e P w i t
 | inr x=>obtain ⟨t,e⟩:=(show ∃ t,u = Value.str x t from r); subst e; exact b1f P w x t
theorem b7o {P:Program} {w:World}:∀ {ks:List Key} {us:List Value},Vals (ks.map kV) us->ItemsAre (a1i P w) ks us
 | [],_,r=>by rw [List.map_nil] at r; cases r; exact .nil
 | k :: ks,_,r=>by
  rw [List.map_cons] at r
  cases r with
  | cons h t=>exact .cons (b0q h) (b7o t)
noncomputable abbrev KT (H:Hp):List (List Key × V)->List (List Key × Addr × Value)->Prop:=Paired fun p q=>p.1 = q.1/\H q.2.1 = some (.tup (p.1.map kV))/\RelV p.2 q.2.2
theorem KT.val {H:Hp} {kvs:List (List Key × V)} {xs:List (List Key × Addr × Value)} (r:KT H kvs xs) (k:List Key):RelO (valV kvs k) ((atKey xs k).map (·.2)):=by
 induction r with
 | nil=>exact True.intro
 | @cons p q ps qs h t ih=>
  obtain ⟨h1,_,h2⟩:=h
  by_cases e:p.1 = k
  ·have e':q.1 = k:=h1.symm.trans e
   have b:atKey (q :: qs) k = some q.2:=by simp [atKey,List.find?_cons,e']
   rw [a2i e,b]; exact h2
  ·have e':¬ q.1 = k:=fun z=>e (h1.trans z)
   have b:atKey (q :: qs) k = atKey qs k:=by simp [atKey,List.find?_cons,e']
   rw [a1t e,b]; exact ih
theorem KT.repl {H:Hp} {kvs:List (List Key × V)} {xs:List (List Key × Addr × Value)} (r:KT H kvs xs) (k:List Key) {y:V} {u:Value} (ry:RelV y u) :
  KT H (kvs.map fun kv=>if kv.1 = k then (kv.1,y) else kv) (xs.map (putAt k u)):=by
 induction r with
 | nil=>exact .nil
 | @cons p q ps qs h t ih=>
  rw [List.map_cons,List.map_cons]
  refine .cons ?_ ih
  obtain ⟨h1,h2,h3⟩:=h
  unfold putAt
  by_cases e:p.1 = k
  ·rw [if_pos e,if_pos (h1.symm.trans e)]; exact ⟨h1,h2,ry⟩
  ·rw [if_neg e,if_neg (fun z=>e (h1.trans z))]; exact ⟨h1,h2,h3⟩
theorem KT.put {H:Hp} {kvs:List (List Key × V)} {xs:List (List Key × Addr × Value)} (r:KT H kvs xs) (k:List Key) {b:Addr} {y:V} {u:Value} (hb:H b = some (.tup (k.map kV))) (ry:RelV y u) :
  KT H (putK kvs k y) (storedH xs k b u):=by
 have e:(kvs.any fun kv=>decide (kv.1 = k)) = (atKey xs k).isSome:=by
  rw [a7g,(r.val k).isSome_eq,Option.isSome_map]
 unfold putK storedH
 rw [e]
 by_cases q:(atKey xs k).isSome = true
 ·rw [if_pos q,if_pos q]; exact r.repl k ry
 ·rw [if_neg q,if_neg q]; exact Paired.snoc r ⟨rfl,hb,ry⟩
theorem KT.keeps {H H':Hp} {kvs:List (List Key × V)} {xs:List (List Key × Addr × Value)} (r:KT H kvs xs) (ht:∀ b ys,H b = some (.tup ys)->H' b = some (.tup ys)):KT H' kvs xs:=
 Paired.mapP r fun _ _ z=>⟨z.1,ht _ _ z.2.1,z.2.2⟩
section
variable {P:Program} {w:World} {H:Hp} {h:Heap} {a:Addr}
theorem rd_of {u:HO} (ok:HOk P w H h) (e:Rd H a u):a2e P w H h a u:=e.ok ok
theorem a9q {kvs:List (Key × V)} (ok:HOk P w H h) (e:Rd H a (.dK kvs)):kvs.length<=sizeLine/\(a == sysModules) = false/\∃ vs,KV kvs vs/\h.DictOf (a1i P w) a vs:=
 show a2e P w H h a (.dK kvs) from rd_of ok e
theorem b5q {kvs:List (Key × V)} (ok:HOk P w H h) (e:H a = some (.dK kvs)):kvs.length<=sizeLine/\(a == sysModules) = false/\∃ vs,KV kvs vs/\h.DictOf (a1i P w) a vs:=a9q ok (.inl e)
theorem b1l {ks:List Key} (ok:HOk P w H h) (e:H a = some (.tup (ks.map kV))):(tupleKind (a1i P w)).is h ks a:=by
 obtain ⟨_,its,r,o,h1,h2,n,h3⟩:=(show a2e P w H h a (.tup (ks.map kV)) from ok a _ e)
 exact ⟨o,its.toArray,n,h1,h2,h3,by simpa using b7o r⟩
theorem b2d {kvs:List (List Key × V)} (ok:HOk P w H h) (e:Rd H a (.dT kvs)):kvs.length<=sizeLine/\(a == sysModules) = false /\
  ∃ xs,KT H kvs xs/\h.DictOfH (tupleKind (a1i P w)) a xs:=by
 obtain ⟨z,y,xs,r,o,es,ep,h1,h2,h3,h4,h5⟩:=(show a2e P w H h a (.dT kvs) from rd_of ok e)
 refine ⟨z,y,xs,r,o,es,ep,h1,h2,h3,h4,fun x hx=>?_,h5⟩
 have all:∀ {l:List (List Key × V)} {m:List (List Key × Addr × Value)},KT H l m->∀ x ∈ m,(tupleKind (a1i P w)).is h x.1 x.2.1:=by
  intro l m q
  induction q with
  | nil=>intro x hx; exact nomatch hx
  | @cons p q ps qs hq t ih=>
   intro x hx
   rcases List.mem_cons.mp hx with e | hx
   ·subst e
    exact b1l ok (by rw [<- hq.1]; exact hq.2.1)
   ·exact ih x hx
 exact all r x hx
theorem dt_of {kvs:List (List Key × V)} (ok:HOk P w H h) (e:H a = some (.dT kvs)):kvs.length<=sizeLine/\(a == sysModules) = false /\
  ∃ xs,KT H kvs xs/\h.DictOfH (tupleKind (a1i P w)) a xs:=b2d ok (.inl e)
end
noncomputable def DGet (H:Hp) (a:Addr) (y:V) (r:Option V):Prop:=
 (∃ kvs k,Rd H a (.dK kvs)/\y = kV k/\r = valV kvs k)\/∃ kvs k b,Rd H a (.dT kvs)/\y = .ref b/\H b = some (.tup (k.map kV))/\r = valV kvs k
noncomputable def DPut (H:Hp) (a:Addr) (y v:V) (H':Hp):Prop:=
 (∃ kvs k,H a = some (.dK kvs)/\y = kV k/\kvs.length < sizeLine/\H' = upd H a (.dK (putK kvs k v))) \/
 ∃ kvs k b,H a = some (.dT kvs)/\y = .ref b/\H b = some (.tup (k.map kV))/\kvs.length < sizeLine/\H' = upd H a (.dT (putK kvs k v))
theorem DGet.k {H:Hp} {a:Addr} {kvs:List (Key × V)} {k:Key} (e:H a = some (.dK kvs)):DGet H a (kV k) (valV kvs k):=.inl ⟨kvs,k,.inl e,rfl,rfl⟩
theorem DPut.k {H:Hp} {a:Addr} {kvs:List (Key × V)} {k:Key} {v:V} (e:H a = some (.dK kvs)) (hl:kvs.length < sizeLine):DPut H a (kV k) v (upd H a (.dK (putK kvs k v))):=.inl ⟨kvs,k,e,rfl,hl,rfl⟩
section
variable {X:Cx} {pins:List (Addr × Obj)} {σ:St} {H:Hp} {s:Shared} {a:Addr} {y v:V} {u r:Value} {o:Option V} {A:Around} {E:Value->Shared->Prop}
theorem Inv.big (I:Inv X pins σ H s):sysModules < s.heap.objs.size:=by
 have h:mainGlobals < s.heap.objs.size:=(I.mod.glob.keeps I.bk).lt
 exact Nat.lt_trans (by decide) h
theorem c4w {Q:Value->Shared->Prop} (hu:A.units + 1 < cLine) (I:Inv X pins σ H s) (g:DGet H a y (some v)) (ry:RelV y u) (h:∀ w' s',Inv X pins σ H s'->RelV v w'->Q w' s') :
  wpAny (model X.prog X.w) A (getItem (.ref a) u) Q E s:=by
 rcases g with ⟨kvs,k,e,ey,l⟩ | ⟨kvs,k,b,e,ey,eb,l⟩
 ·subst ey
  obtain ⟨z,hd,vs,rel,dd⟩:=a9q I.hok e
  obtain ⟨w',hw,rw'⟩:=RelO.some_of (v:=v) (o:=valueAt vs k) (by rw [l]; exact rel.val k)
  exact wpAny_getItem_of (b0q ry) dd.mapOf hw (h w' _ (I.tok _) rw')
 ·subst ey
  cases (show u = Value.ref b from ry)
  obtain ⟨z,hd,xs,rel,dd⟩:=b2d I.hok e
  obtain ⟨w',hw,rw'⟩:=RelO.some_of (v:=v) (o:=(atKey xs k).map (·.2)) (by rw [l]; exact rel.val k)
  obtain ⟨p,hp,hp2⟩:=Option.map_eq_some_iff.mp hw
  refine wpAny_getItem_heap (tupleKind_room_in1 hu) (b1l I.hok eb) dd hp ?_
  rw [hp2]
  exact h w' _ (I.tok _) rw'
theorem d_in {Q:Value->Shared->Prop} (hu:A.units + 1 < cLine) (I:Inv X pins σ H s) (g:DGet H a y o) (ry:RelV y u) (h:∀ s',Inv X pins σ H s'->Q (.bool o.isSome) s') :
  wpAny (model X.prog X.w) A (compareOp .In u (.ref a)) Q E s:=by
 rcases g with ⟨kvs,k,e,ey,l⟩ | ⟨kvs,k,b,e,ey,eb,l⟩
 ·subst ey
  obtain ⟨z,hd,vs,rel,dd⟩:=a9q I.hok e
  refine wpAny_in_of (b0q ry) hd dd.mapOf ?_
  rw [<- (rel.val k).isSome_eq,<- l]
  exact h _ (I.tok _)
 ·subst ey
  cases (show u = Value.ref b from ry)
  obtain ⟨z,hd,xs,rel,dd⟩:=b2d I.hok e
  refine wpAny_in_heap (tupleKind_room_in1 hu) (b1l I.hok eb) hd dd ?_
  have q:=(rel.val k).isSome_eq
  rw [Option.isSome_map] at q
  rw [<- q,<- l]
  exact h _ (I.tok _)
theorem d_notIn {Q:Value->Shared->Prop} (hu:A.units + 1 < cLine) (I:Inv X pins σ H s) (g:DGet H a y o) (ry:RelV y u) (h:∀ s',Inv X pins σ H s'->Q (.bool (!o.isSome)) s') :
  wpAny (model X.prog X.w) A (compareOp .NotIn u (.ref a)) Q E s:=by
 rcases g with ⟨kvs,k,e,ey,l⟩ | ⟨kvs,k,b,e,ey,eb,l⟩
 ·subst ey
  obtain ⟨z,hd,vs,rel,dd⟩:=a9q I.hok e
  refine wpAny_notIn_of (b0q ry) hd dd.mapOf ?_
  rw [<- (rel.val k).isSome_eq,<- l]
  exact h _ (I.tok _)
 ·subst ey
  cases (show u = Value.ref b from ry)
  obtain ⟨z,hd,xs,rel,dd⟩:=b2d I.hok e
  refine wpAny_notIn_heap (tupleKind_room_in1 hu) (b1l I.hok eb) hd dd ?_
  have q:=(rel.val k).isSome_eq
  rw [Option.isSome_map] at q
  rw [<- q,<- l]
  exact h _ (I.tok _)
theorem b3u {h':Heap} {t':Nat} {ob:HO} (I:Inv X pins σ H s) (mu:Mut (H a)) (hs:Heap.SameBut a s.heap h') (he:∃ q,h'.get? a = some q) (new:a2e X.prog X.w (upd H a ob) h' a ob) :
  Inv X pins σ (upd H a ob) { s with heap:=h',toks:=t' }:=
 I.write (x:=a) (e:=a) mu (.inl rfl) (fun b q hb z=>(hs.2 b hb).trans z) he new
theorem b9q {P:Program} {w:World} {H':Hp} {h':Heap} {kvs:List (Key × V)} {vs:List (Key × Value)} (z:kvs.length<=sizeLine) (hd:(a == sysModules) = false) (rel:KV kvs vs) (dd:h'.DictOf (a1i P w) a vs) :
  a2e P w H' h' a (.dK kvs):=⟨z,hd,vs,rel,dd⟩
theorem c4x {H':Hp} {Q:Unit->Shared->Prop} (hu:A.units + 1 < cLine) (I:Inv X pins σ H s) (g:DPut H a y v H') (ry:RelV y u) (rv:RelV v r) (h:∀ s',Inv X pins σ H' s'->Q () s') :
  wpAny (model X.prog X.w) A (setItem (.ref a) u r) Q E s:=by
 rcases g with ⟨kvs,k,e,ey,l,eH⟩ | ⟨kvs,k,b,e,ey,eb,l,eH⟩
 ·subst ey eH
  obtain ⟨z,hd,vs,rel,dd⟩:=b5q I.hok e
  have hz:vs.length<=sizeLine:=by rw [<- rel.length]; exact z
  have hl:(putK kvs k v).length<=sizeLine:=by have:=a5t kvs k v; omega
  refine wpAny_setItem_pairs (hsz:=hz) (b0q ry) dd fun h' dd' hs=>h _ ?_
  have he:∃ q,h'.get? a = some q:=let ⟨q,_,_,hq,_⟩:=dd'; ⟨q,hq⟩
  exact b3u I (by rw [e]; exact True.intro) hs he (b9q hl hd (rel.put k rv) dd')
 ·subst ey eH
  cases (show u = Value.ref b from ry)
  obtain ⟨z,hd,xs,rel,dd⟩:=dt_of I.hok e
  have hz:xs.length<=sizeLine:=by rw [<- Paired.length rel]; exact z
  have hl:(putK kvs k v).length<=sizeLine:=by have:=a5t kvs k v; omega
  refine wpAny_setItem_heap (hsz:=hz) (tupleKind_room_in1 hu) (b1l I.hok eb) dd fun h' dd' hs=>h _ ?_
  obtain ⟨q,es,ep,hq,h2,h3,h4,_,h5⟩:=dd'
  refine b3u I (by rw [e]; exact True.intro) hs ⟨q,hq⟩ ⟨hl,hd,_,(rel.put k eb rv).keeps fun c ys ec=>?_,q,es,ep,hq,h2,h3,h4,h5⟩
  rw [a0n (ne_of ec e (fun z=>nomatch z))]
  exact ec
end
section
variable {X:Cx} {pins:List (Addr × Obj)} {σ:St} {H:Hp} {s:Shared} {a:Addr} {kvs:List (Key × V)} {k:Key} {u:Value} {A:Around} {E:Value->Shared->Prop}
theorem d_len {Q:Value->Shared->Prop} (I:Inv X pins σ H s) (e:Rd H a (.dK kvs)) (h:∀ t s',Inv X pins σ H s'->Q (.int kvs.length t) s'):wpAny (model X.prog X.w) A (call (.builtin "len") [.ref a]) Q E s:=by
 obtain ⟨z,hd,vs,rel,dd⟩:=a9q I.hok e
 refine call_len_dict hd dd (by rw [<- rel.length]; rw [sizeLine_eq] at z; omega) ?_
 rw [<- rel.length]
 exact h _ _ (I.tok _)
end
noncomputable def NoSl (i:Expr):Prop:=∀ ov iv,subscripted i false ov iv = operate [ov,iv] (getItem ov iv)
theorem c2d {prog:Program} {w:World} {A:Around} {E:Value->Shared->Prop} {s:Shared} {env:Env} {value slice:Expr} {pos:Pos} {T id:String} {Q:Value->Shared->Prop}
  (hl:typeLookup (.type T) "__getitem__" = pure (some (.builtin id))) (hs:NoSl slice)
  (h:wpAny (model prog w) A (eval value env) (fun o s₁=>wpAny (model prog w) A (eval slice env) (fun i s₂=>s₂.TypeIs o T/\wpAny (model prog w) A (getItem o i) Q E s₂) E s₁) E s) :
  wpAny (model prog w) A (eval (.Subscript value slice pos) env) Q E s:=by
 refine Subscript_ (wpAny_mono h (fun o s₁ h₁=>wpAny_mono h₁ (fun i s₂ h₂=>?_) fun _ _ x=>x) fun _ _ x=>x)
 obtain ⟨hT,h₂⟩:=h₂
 unfold subscriptTail
 refine wpAny_bind ?_
 rw [getitemInPython_of_ne hT.not_modules]
 refine wpAny_bind (wpAny_specialOf hT hl ?_)
 have fin:wpAny (model prog w) A (subscripted slice false o i) (fun r s₃=>wpAny (model prog w) A (letTemporaryGo value o r >>= fun _=>pure r) Q E s₃) E s₂:=by
  rw [hs o i]
  exact wpAny_operating (wpAny_mono h₂ (fun r s₃ h₃=>wpAny_bind (wpAny_letTemporaryGo (wpAny_pure h₃))) fun _ _ x=>x)
 first
  | exact wpAny_pure (wpAny_bind fin)
  | exact wpAny_bind (wpAny_pure (wpAny_bind fin))
  | exact wpAny_bind fin
theorem c1j {X:Cx} {pins:List (Addr × Obj)} {σ:St} {H:Hp} {s:Shared} {a:Addr} {y:V} {o:Option V} (I:Inv X pins σ H s) (g:DGet H a y o):s.TypeIs (.ref a) "dict":=by
 rcases g with ⟨kvs,k,e,_,_⟩ | ⟨kvs,k,b,e,_,_,_⟩
 ·obtain ⟨_,_,vs,_,dd⟩:=a9q I.hok e
  exact dd.typeIs
 ·obtain ⟨_,_,xs,_,dd⟩:=b2d I.hok e
  exact dd.typeIs
noncomputable def tDGet (td ty:TE):TE:=fun σ H Q=>td σ H fun x H1=>ty σ H1 fun y H2=>∃ a v,x = .ref a/\DGet H2 a y (some v)/\Q v H2
noncomputable def sDPut (td ty tv:TE):TS:=fun D σ H=>tv σ H fun v H1=>td σ H1 fun x H2=>ty σ H2 fun y H3=>∃ a H4,x = .ref a/\DPut H3 a y v H4/\D.nx σ H4
section
variable {X:Cx} {o i e value:Expr} {pos pos' tpos:Pos} {td ty tv:TE}
theorem a8p (hu:X.A.units + 1 < cLine) (ho:PE X o td) (hi:PE X i ty) (hs:NoSl i):PE X (.Subscript o i pos) (tDGet td ty):=by
 intro pins s σ H Q I h
 refine c2d F.slot_dict_getitem.lookup hs (thn (ho pins s σ H _ I h) fun u s1 ⟨x,H1,I1,rx,q1⟩=>thn (hi pins s1 σ H1 _ I1 q1) fun iv s2 ⟨y,H2,I2,ry,a,v,ex,g,q2⟩=>?_)
 subst ex
 obtain rfl:u = Value.ref a:=rx
 exact ⟨c1j I2 g,c4w hu I2 g ry fun w' s3 I3 rw'=>⟨v,H2,I3,rw',q2⟩⟩
theorem a8q (hu:X.A.units + 1 < cLine) (ho:PE X o td) (hi:PE X i ty) (hv:PE X value tv) (hs:swapsWith value (some (.Subscript o i pos')) pos.line X.env = pure false) :
  PS X (.Assign [.Subscript o i pos'] value pos) (sDPut td ty tv):=by
 intro pins s σ H D I h
 refine wpAny_Assign_Subscript (thn (hv pins s σ H _ I h) fun r s1 ⟨v,H1,I1,rv,q1⟩=>thn (ho pins s1 σ H1 _ I1 q1) fun u s2 ⟨x,H2,I2,rx,q2⟩=>thn (hi pins s2 σ H2 _ I2 q2) fun iv s3 ⟨y,H3,I3,ry,a,H4,ex,g,q3⟩=>?_) hs
 subst ex
 obtain rfl:u = Value.ref a:=rx
 exact c4x hu I3 g ry rv fun s4 I4=>⟨σ,H4,I4,q3⟩
end
theorem b9r {P:Program} {w:World} {H:Hp} (h:Heap) (hb:sysModules < h.objs.size):a2e P w H (h.push { cls:=.type "dict",data:=.dict #[] }) h.objs.size (.dK []):=
 ⟨Nat.zero_le _,beq_eq_false_iff_ne.mpr (Ne.symm (Nat.ne_of_lt hb)),[],.nil,Heap.DictOf.new h⟩
noncomputable def tDNewK:TE:=fun _ H Q=>∀ p,H p = none->Q (.ref p) (upd H p (.dK []))
section
variable {X:Cx} {pos:Pos}
theorem b0f:PE X (.Dict [] [] pos) tDNewK:=fun pins s σ H Q I h=>
 wpAny_Dict_empty ⟨.ref s.heap.objs.size,_,I.laid (a:=s.heap.objs.size) (o:=.dK []) (t':=s.toks) (fun _ _ q=>Heap.get?_push_of_some _ q) (Nat.le_refl _) (b9r s.heap I.big),rfl,h _ (I.hok.fresh (Nat.le_refl _))⟩
end
noncomputable def b0g:List (TE × TE)->St->Hp->(List (V × V)->Hp->Prop)->Prop
 | [],_,H,Q=>Q [] H
 | (tk,tv) :: r,σ,H,Q=>tk σ H fun x H1=>tv σ H1 fun y H2=>b0g r σ H2 fun ps H3=>Q ((x,y) :: ps) H3
noncomputable abbrev VV:List (V × V)->List (Value × Value)->Prop:=Paired fun p q=>RelV p.1 q.1/\RelV p.2 q.2
noncomputable def PPs (X:Cx) (pos:Pos) (keys:List (Option Expr)) (values:List Expr) (trs:List (TE × TE)):Prop:=
 ∀ (pins:List (Addr × Obj)) (s:Shared) (σ:St) (H:Hp) (Q:List (V × V)->Hp->Prop),Inv X pins σ H s->b0g trs σ H Q ->
  wpAny (model X.prog X.w) X.A (evalPairs (pairTrees keys values X.env pos)) (fun vs s'=>∃ ps H',Inv X pins σ H' s'/\VV ps vs/\Q ps H') X.xe s
theorem pps_nil {X:Cx} {pos:Pos}:PPs X pos [] [] []:=fun pins s σ H Q I h=>pairTrees_nil_walk ⟨[],H,I,.nil,h⟩
theorem c7y {X:Cx} {pos:Pos} {k v:Expr} {ks:List (Option Expr)} {vs:List Expr} {tk tv:TE} {trs:List (TE × TE)} (hk:PE X k tk) (hv:PE X v tv) (hr:PPs X pos ks vs trs) :
  PPs X pos (some k :: ks) (v :: vs) ((tk,tv) :: trs):=fun pins s σ H Q I h=>
 pairTrees_cons_walk (thn (hk pins s σ H _ I h) fun u s1 ⟨x,H1,I1,rx,q1⟩=>thn (hv pins s1 σ H1 _ I1 q1) fun w2 s2 ⟨y,H2,I2,ry,q2⟩=>
  thn (hr pins s2 σ H2 _ I2 q2) fun ws s3 ⟨ps,H3,I3,rel,q3⟩=>⟨(x,y) :: ps,H3,I3,.cons ⟨rx,ry⟩ rel,q3⟩)
noncomputable def a1a (kvs more:List (Key × V)):List (Key × V):=more.foldl (fun acc kv=>putK acc kv.1 kv.2) kvs
theorem KV.merge:∀ {more:List (Key × V)} {rs:List (Key × Value)} {kvs:List (Key × V)} {vs:List (Key × Value)},KV more rs->KV kvs vs->KV (a1a kvs more) (merged vs rs):=by
 intro more rs kvs vs r
 unfold KV at r
 induction r generalizing kvs vs with
 | nil=>intro q; exact q
 | @cons p q ps qs h t ih=>
  intro r0
  have e:KV (putK kvs p.1 p.2) (stored vs q.1 q.2):=by
   have:=r0.put p.1 h.2
   rw [<- h.1]; exact this
  exact ih e
theorem a9n:∀ (more kvs:List (Key × V)),(a1a kvs more).length<=kvs.length + more.length
 | [],kvs=>by show kvs.length<=kvs.length + 0; omega
 | p :: r,kvs=>by
  have h1:=a9n r (putK kvs p.1 p.2)
  have h2:=a5t kvs p.1 p.2
  show (a1a (putK kvs p.1 p.2) r).length<=_
  rw [List.length_cons]; omega
theorem b5r {P:Program} {w:World}:∀ {kvs:List (Key × V)} {ws:List (Value × Value)},VV (kvs.map fun kv=>(kV kv.1,kv.2)) ws->∃ rs,Carries (a1i P w) ws rs/\KV kvs rs
 | [],_,r=>by rw [List.map_nil] at r; cases r; exact ⟨[],True.intro,.nil⟩
 | p :: kvs,_,r=>by
  rw [List.map_cons] at r
  cases r with
  | @cons a b as bs h t=>
   obtain ⟨rs,c,q⟩:=b5r (P:=P) (w:=w) t
   obtain ⟨b1,b2⟩:=b
   exact ⟨(p.1,b2) :: rs,⟨b0q h.1,rfl,c⟩,.cons ⟨rfl,h.2⟩ q⟩
noncomputable def tDisp (trs:List (TE × TE)):TE:=fun σ H Q=>∀ p,H p = none->b0g trs σ (upd H p (.dK [])) fun ps H2=>H2 p = some (.dK [])/\∃ kvs:List (Key × V),ps = kvs.map (fun kv=>(kV kv.1,kv.2))/\kvs.length<=15/\Q (.ref p) (upd H2 p (.dK (a1a [] kvs)))
theorem pe_disp {X:Cx} {pos:Pos} {keys:List (Option Expr)} {values:List Expr} {trs:List (TE × TE)} (h:PPs X pos keys values trs) (hall:keys.all (·.isSome) = true) (hl:keys.length = values.length) (h0:keys ≠ [])
  (h15:keys.length<=15):PE X (.Dict keys values pos) (tDisp trs):=by
 intro pins s σ H Q I q
 have hn:=I.hok.fresh (Nat.le_refl s.heap.objs.size)
 have I1:=I.laid (a:=s.heap.objs.size) (o:=.dK []) (h':=s.heap.push { cls:=.type "dict",data:=.dict #[] }) (t':=s.toks) (fun _ _ q=>Heap.get?_push_of_some _ q) (Nat.le_refl _) (b9r s.heap I.big)
 refine wpAny_Dict_walk (knd:=a1i X.prog X.w) hall hl h0 h15 (thn (h pins _ σ _ _ I1 (q _ hn)) fun ws s2 ⟨ps,H2,I2,rel,e,kvs,ep,lk,q2⟩=>?_)
 subst ep
 obtain ⟨rs,c,rk⟩:=b5r (P:=X.prog) (w:=X.w) rel
 obtain ⟨z,hd,vs0,r0,dd⟩:=b5q I2.hok e
 cases r0
 refine ⟨rs,c,dd,fun h' dd' hs=>⟨.ref s.heap.objs.size,_,?_,rfl,q2⟩⟩
 have hz:(a1a [] kvs).length<=sizeLine:=by
  have h1:=a9n kvs []
  rw [List.length_nil] at h1
  rw [sizeLine_eq]; omega
 have he:∃ q,h'.get? s.heap.objs.size = some q:=let ⟨q,_,_,hq,_⟩:=dd'; ⟨q,hq⟩
 exact b3u I2 (by rw [e]; exact True.intro) hs he (b9q hz hd (rk.merge .nil) dd')
structure M2 (X:Cx) (o:Expr) (m:Str) (apos:Pos) (e f:Expr) (cpos:Pos):Prop where
 base:attributeBase o m X.env (eval o X.env) = eval o X.env
 few:((backTo cpos (starEach [e,f] X.env)).all (fun x=>!x.1) && (backToKw cpos (keywordEach [] X.env)).all (fun x=>x.1.isSome)
  && decide (([e,f]:List Expr).length + ([]:List Keyword).length + (if ([]:List Keyword).isEmpty then 0 else 1) < 30)) = true
 line:(apos.endLine == cpos.line) = true
 trees:backTo cpos (starEach [e,f] X.env) = [(false,eval e X.env),(false,eval f X.env)]
noncomputable def IsD (H:Hp) (a:Addr):Prop:=(∃ kvs,Rd H a (.dK kvs))\/∃ kvs,Rd H a (.dT kvs)
theorem isD_at {X:Cx} {pins:List (Addr × Obj)} {σ:St} {H:Hp} {s:Shared} {a:Addr} (I:Inv X pins σ H s) (d:IsD H a) :
  s.TypeIs (.ref a) "dict"/\(∀ b,Value.ref a = .ref b->∃ ob,s.heap.get? b = some ob/\ob.dict = none)/\(a == sysModules) = false:=by
 rcases d with ⟨kvs,e⟩ | ⟨kvs,e⟩
 ·obtain ⟨_,hd,vs,_,dd⟩:=a9q I.hok e
  refine ⟨dd.typeIs,fun b q=>?_,hd⟩
  cases q
  obtain ⟨ob,_,_,h1,h2,_⟩:=dd
  exact ⟨ob,h1,h2.2.1⟩
 ·obtain ⟨_,hd,xs,_,dd⟩:=b2d I.hok e
  refine ⟨dd.typeIs,fun b q=>?_,hd⟩
  cases q
  obtain ⟨ob,_,_,h1,h2,_⟩:=dd
  exact ⟨ob,h1,h2.2.1⟩
section
variable {X:Cx} {pins:List (Addr × Obj)} {σ:St} {H:Hp} {s:Shared} {a:Addr} {y d:V} {u r:Value} {o:Option V} {A:Around} {E:Value->Shared->Prop}
theorem d_get2 {Q:Value->Shared->Prop} (hu:A.units + 1 < cLine) (I:Inv X pins σ H s) (g:DGet H a y o) (ry:RelV y u) (rd:RelV d r) (h:∀ w' s',Inv X pins σ H s'->RelV (o.getD d) w'->Q w' s') :
  wpAny (model X.prog X.w) A (call (.builtin "dict.get") [.ref a,u,r]) Q E s:=by
 rcases g with ⟨kvs,k,e,ey,l⟩ | ⟨kvs,k,b,e,ey,eb,l⟩
 ·subst ey
  obtain ⟨z,hd,vs,rel,dd⟩:=a9q I.hok e
  refine call_meetsIn F.slot_dict_get dd.typeIs F.entry_dict_get (F.args_dict_get_3 _ _ _) (meets_dict_get_default (a1i X.prog X.w) a (b0q ry) hd r) ⟨_,dd.mapOf,h _ _ (I.tok _) ?_⟩
  rw [l]
  exact (rel.val k).getD rd
 ·subst ey
  cases (show u = Value.ref b from ry)
  obtain ⟨z,hd,xs,rel,dd⟩:=b2d I.hok e
  refine call_meetsIn F.slot_dict_get dd.typeIs F.entry_dict_get (F.args_dict_get_3 _ _ _) (meetsH_dict_get_default (tupleKind (a1i X.prog X.w)) a b hd r) ⟨tupleKind_room_in1 hu,k,xs,b1l I.hok eb,dd,h _ _ (I.tok _) ?_⟩
  rw [l]
  exact (rel.val k).getD rd
end
noncomputable def c4y (td ty tx:TE):TE:=fun σ H Q=>td σ H fun x H1=>∃ a,x = .ref a/\IsD H1 a/\ty σ H1 fun y H2=>tx σ H2 fun z H3=>∃ o,DGet H3 a y o/\Q (o.getD z) H3
section
variable {X:Cx} {o e f:Expr} {apos cpos:Pos} {td ty tx:TE}
theorem c7z (hu:X.A.units + 1 < cLine) (ho:PE X o td) (he:PE X e ty) (hf:PE X f tx) (m:M2 X o "get" apos e f cpos):PE X (.Call (.Attribute o "get" apos) [e,f] [] cpos) (c4y td ty tx):=by
 intro pins s σ H Q I h
 refine wpAny_Call_method m.base m.few m.line F.plainAttrs_dict F.slot_dict_get F.type_dict_get (thn (ho pins s σ H _ I h) fun u s1 ⟨x,H1,I1,rx,a,ex,d,q1⟩=>?_)
 subst ex
 obtain rfl:u = Value.ref a:=rx
 obtain ⟨t1,t2,_⟩:=isD_at I1 d
 refine ⟨t1,t2,?_⟩
 rw [m.trees]
 refine Calls.callWith_builtin rfl (Calls.evalArgs_plain (Calls.spliced_cons (thn (he pins s1 σ H1 _ I1 q1) fun iv s2 ⟨y,H2,I2,ry,q2⟩=>
  Calls.spliced_cons (thn (hf pins s2 σ H2 _ I2 q2) fun fv s3 ⟨z,H3,I3,rz,ov,g,q3⟩=>Calls.spliced_nil ?_))))
 exact d_get2 hu I3 g ry rz fun w' s4 I4 rw'=>⟨_,H3,I4,rw',q3⟩
end
section
variable {X:Cx} {pins:List (Addr × Obj)} {σ:St} {H:Hp} {s:Shared} {a:Addr} {kvs:List (Key × V)} {A:Around} {E:Value->Shared->Prop}
end
section
variable {X:Cx} {pins:List (Addr × Obj)} {σ:St} {H:Hp} {s:Shared} {a:Addr} {y:V} {u:Value} {A:Around} {E:Value->Shared->Prop}
end
end L2
namespace Att
open PySem PySem.W PySem.Calls PyProof.Rows
theorem b5s {P:Params} {h:Heap}:∀ (ns:List Int) (vs:List Value),WellAll P h vs (ns.map WData.int)->IntsAre vs ns:=by
 intro ns
 induction ns with
 | nil=>
  intro vs w
  rw [List.map_nil] at w
  cases w
  exact .nil
 | cons n ns ih=>
  intro vs w
  rw [List.map_cons] at w
  cases w with
  | cons a b=>
   cases a
   exact .cons _ _ (ih _ b)
theorem c4z {l:OpenLaw} {n:Nat} (hn:l.most = some n) {P:Params} {h:Heap} {args:List WData} {vals:List Value}
  (hpre:l.row.toRowW.claim.pre args = true) (hwl:WellAll P h vals args) :
  ∃ a vs ns,vals = [Value.ref a]/\args = [WData.list (ns.map WData.int)]/\h.get? a = some { cls:=.type "list",data:=.seq vs.toArray }/\IntsAre vs ns/\ns.length<=n:=by
 have hsh:WShape.hasAll [] args [.list .int] = true:=(pre_splitW hpre).1
 have hc:l.pre.holds [] { args:=args } = true:=(pre_splitW hpre).2
 obtain ⟨d,r,rfl,h1,h2⟩:=hasAllW_cons hsh
 obtain rfl:=hasAllW_nil h2
 obtain ⟨xs,rfl,h3⟩:=hasW_list h1
 obtain ⟨ns,rfl⟩:=items_int h3
 have hlen:ns.length<=n:=by
  unfold OpenLaw.pre at hc
  have h4:(WTm.not (.lt (.lit (.int (n:Int))) (.len (.arg 0)))).holds [] { args:=[.list (ns.map .int)] } = true:=by
   have h4:=(holds_andW hc).1
   rw [hn] at h4
   exact h4
  have h5:=condW_of h4 (w_not (w_lt w_lit (w_len_list (w_arg rfl))))
  rw [List.length_map] at h5
  refine Nat.le_of_not_lt fun q=>?_
  have q':(n:Int) < ((ns.length:Nat):Int):=by omega
  first
   | (rw [decide_eq_true q'] at h5; exact absurd h5 (by decide))
   | (simp at h5; omega)
 cases hwl with
 | cons w1 w2=>
  cases w2
  cases w1 with
  | list ho hall=>exact ⟨_,_,ns,rfl,rfl,ho,b5s ns _ hall,hlen⟩
theorem c5a (l:OpenLaw) (args:List WData):l.row.toRowW.claim.post args (.bool true) args = true:=
 postW_of (r:=l.row.toRowW) (X:=(true == true))
  (show WShape.has [] (.bool true) .bool = true by first | rfl | decide | simp [WShape.has,WShape.arms,WShape.armsAll])
  (show (WTm.eq .res (.lit (.bool true))).value [] { args:=args,res:=some (.bool true),after:=args } = some (.bool (true == true)) from w_eq_bool (w_res rfl) w_lit) rfl
theorem attach_call {l:OpenLaw} {n:Nat} {q:Program} {loose:List Str} {XP:(Str->Option Value)->Heap->Prop} {YP:World->Heap->Prop} {d:DefRec}
  (hn:l.most = some n) (hdf:d.params.defaults = [])
  (call:∀ (w:World) (s₀ s₁:Shared) (mg mb:Str->Option Value) (fa:Addr) (o:Obj) (pm cd doc:Value) (a:Addr) (vs:List Value) (ns:List Int),
   Ground q loose [] XP w s₀ mg mb s₁.heap->YP w s₁.heap ->
   s₁.heap.get? fa = some o->o.data = .func (docDef d.name d.params d.body d.scope pm cd doc)->s₁.heap.CodeRec cd d.name->mg d.name = some (.ref fa) ->
   s₁.heap.get? a = some { cls:=.type "list",data:=.seq vs.toArray }->IntsAre vs ns->ns.length<=n->s₁.gens = #[] ->
   codeAny (model l.prog w) callerA (.call (.ref fa) ⟨[.ref a],[]⟩) (fun r s'=>r = .ok (.ret (.bool true))/\OldK s₁.heap s'.heap/\s'.os = s₁.os/\AllBare s'.gens) s₁) :
  WalkO q loose XP YP l.row.toRowW d [] (fun f vs=>PySem.call f vs):=by
 intro w s₀ s₁ mg mb G Y fa o pm cd doc dV kV ho hd hcd hD hmg hg args vals as hpre hlay hrd hwl hlo
 obtain rfl:dV = .none:=Dflts.none hD hdf
 obtain rfl:kV = .none:=Dflts.noKw hD
 obtain ⟨a,vs,ns,rfl,rfl,hobj,hints,hlen⟩:=c4z hn hpre hwl
 refine enter_call (codeAny_mono (call w s₀ s₁ mg mb fa o pm cd doc a vs ns G Y ho (fd_plain hd) hcd hmg hobj hints hlen hg) fun r s' hq=>?_)
 obtain ⟨rfl,h2,h3,h4⟩:=hq
 exact ⟨.inl ⟨.bool true,.bool true,[],rfl,fun _=>rfl,.bool true,c5a l _,fun _=>⟨List.Pairwise.nil,fun _ hm=>(nomatch hm)⟩⟩,h2,h3,h4⟩
section
variable {prog:Program} {w:World} {A:Around} {E:Value->Shared->Prop} {s:Shared} {K:Frag}
end
end Att
namespace L2
open PySem PySem.Spec PyProof.Rows
theorem b3a:∀ {vs:List Value} {ns:List Int},IntsAre vs ns->Vals (ns.map V.int) vs
 | _,_,.nil=>.nil
 | _,_,.cons n t h=>.cons ⟨t,rfl⟩ (b3a h)
noncomputable def Only (H:Hp):Prop:=∀ b,H b = none\/∃ o xs,H b = some (.frz o (.lst xs))
theorem c8a {P:Program} {w:World} {K:W.Frag} {mg mb:Str->Option Value} {CX:CXT} {k:Nat} {fa a:Addr} {fd:FuncData} {x:Str} {sp:Sp} {s₁:Shared} {vs:List Value} {ns:List Int}
  (KX:K.In s₁.heap) (hns:s₁.heap.Ns mainGlobals mg) (hb:s₁.heap.Ns builtinsNs mb) (hbb:∀ x:Str,x ≠ "__name__"->mb x = bootBuiltins x) (hlim:s₁.heap.NoLimit) (hg:s₁.gens = #[])
  (ha:s₁.heap.get? a = some { cls:=.type "list",data:=.seq vs.toArray }) (hi:IntsAre vs ns) (hl:ns.length<=sizeLine) (hr:Room k callerA)
  (F:∀ base:Heap,K.In base->base.Ns mainGlobals mg->FnOk P w K mg base CX k fa fd [x] sp) (hbind:∀ (s:Shared) (u:Value),BindsTo s fd ⟨[u],[]⟩ [(x,u)])
  (hsp:∀ H:Hp,Only H->SqL K H a (ns.map V.int)->sp [.ref a] H (fun v _=>v = .bl true) fun _ _ _=>False)
  (hCX:∀ H e s',CX [] H s₁ (fun _ _ _=>False) e s'->False) :
  codeAny (model P w) callerA (.call (.ref fa) ⟨[.ref a],[]⟩) (fun r s'=>r = .ok (.ret (.bool true))/\OldK s₁.heap s'.heap/\s'.os = s₁.os/\AllBare s'.gens) s₁:=by
 have rv:=b3a hi
 have lenV:=hi.length
 have core:∀ H:Hp,Only H->SqL K H a (ns.map V.int)->HOk P w H s₁.heap->(∀ b,H b ≠ none->b = a)->(H a ≠ none->K.lookup a = none) ->
   codeAny (model P w) callerA (.call (.ref fa) ⟨[.ref a],[]⟩) (fun r s'=>r = .ok (.ret (.bool true))/\OldK s₁.heap s'.heap/\s'.os = s₁.os/\AllBare s'.gens) s₁:=by
  intro H hO hS hok hA hK
  have base_of:∀ {b:Addr} {o:Obj},s₁.heap.get? b = some o->H b = none->(hidT s₁.heap H).get? b = some o:=fun e n=>c7q e n
  have noA:∀ {b:Addr} {o:Obj} {es:Array DictEntry} {ep:Nat},s₁.heap.get? b = some o->o.data = .dict es ep->H b = none:=fun {b o es ep} e d=>by
   cases q:H b with
   | none=>rfl
   | some u=>
    have e':b = a:=hA b (by rw [q]; simp)
    subst e'
    rw [ha] at e; cases e
    have d':Data.seq vs.toArray _ = Data.dict es ep:=d
    cases d'
  have nsK:∀ {b:Addr} {m:Str->Option Value},s₁.heap.Ns b m->(hidT s₁.heap H).Ns b m:=fun {b m} ⟨o,es,ep,e,d,r⟩=>⟨o,es,ep,base_of e (noA e d),d,r⟩
  have hKb:K.In (hidT s₁.heap H):=fun b o e=>base_of (KX b o e) (by
   cases q:H b with
   | none=>rfl
   | some u=>
    have e':b = a:=hA b (by rw [q]; simp)
    subst e'
    rw [hK (by rw [q]; simp)] at e; cases e)
  have hM:Mod K mg (hidT s₁.heap H):=⟨hKb,nsK hns,⟨mb,nsK hb,hbb⟩,let ⟨mc,h1,h2⟩:=hlim; ⟨mc,nsK h1,h2⟩⟩
  have e0:Env0 P w K mg (hidT s₁.heap H) callerA [] s₁ H:=⟨rfl,hM,fun b o e=>of_hidT e,Nat.le_of_eq (c4h _ _),trivial,fun b hb=>absurd (show b ∈ ([]:List Addr) from hb) (by simp),hok,.of_eq hg⟩
  refine codeAny_mono ((F _ hKb (nsK hns)).run callerA [] s₁ H ⟨[.ref a],[]⟩ [.ref a] [.ref a] _ _ hr e0 (hbind s₁ (.ref a)) (.cons rfl .nil) (hsp H hO hS)) fun r s' h=>?_
  cases r with
  | error e=>exact (hCX H e s' h).elim
  | ok fl=>
   cases fl with
   | next=>exact False.elim h
   | brk=>exact False.elim h
   | cont=>exact False.elim h
   | ret u=>
    obtain ⟨v,H',os,bare,un,hok',r',q⟩:=h
    have q':v = .bl true:=q
    subst q'
    obtain rfl:u = Value.bool true:=r'
    refine ⟨rfl,OldK.of_keep fun b o e=>?_,os,bare⟩
    cases q:H b with
    | none=>exact un.keep b o e q (by intro z; exact absurd (show b ∈ ([]:List Addr) from z) (by simp)) (by simp)
    | some u=>
     rcases hO b with z | ⟨ob,xs,z⟩
     ·rw [q] at z; cases z
     ·have z2:=un.frzs b ob _ z
      obtain ⟨e1,_⟩:=hok b _ z
      obtain ⟨e2,_⟩:=hok' b _ z2
      rw [e] at e1; cases e1
      exact e2
 cases hk:K.lookup a with
 | some o=>
  have e:=KX a o hk
  rw [ha] at e
  cases e
  refine core (fun _=>none) (fun _=>.inl rfl) (.inr ⟨_,vs.toArray,_,hk,rfl,rfl,rfl,by rw [List.size_toArray,lenV]; exact hl,by simpa using rv⟩) (fun b u z=>by have z':(none:Option HO) = some u:=z; cases z') (fun b z=>absurd rfl z) fun z=>absurd rfl z
 | none=>
  refine core (fun b=>if b = a then some (.frz { cls:=.type "list",data:=.seq vs.toArray } (.lst (ns.map V.int))) else none) (fun b=>?_) (.inl (.inr ⟨{ cls:=.type "list",data:=.seq vs.toArray },if_pos rfl⟩)) (fun b u z=>?_) (fun b z=>?_) fun _=>hk
  ·by_cases hb:b = a
   ·exact .inr ⟨_,_,if_pos hb⟩
   ·exact .inl (if_neg hb)
  ·by_cases hb:b = a
   ·have z':=(if_pos hb).symm.trans z
    cases z'
    subst hb
    exact ⟨ha,by rw [List.length_map]; exact hl,vs,_,rv,ha⟩
   ·have z':=(if_neg hb).symm.trans z
    cases z'
  ·by_cases hb:b = a
   ·exact hb
   ·exact absurd (if_neg hb) z
noncomputable abbrev KOf {K:W.Frag} {h:Heap} (_:K.In h):W.Frag:=K
theorem walk_of {l:W.OpenLaw} {n k:Nat} {q:Program} {loose:List Str} {XP:(Str->Option Value)->Heap->Prop} {YP:World->Heap->Prop} {d:DefRec} {K:Params->W.Frag} {CX:World->CXT} {sp:World->Sp} {x:Str}
  (hn:l.most = some n) (hn2:n<=sizeLine) (hdf:d.params.defaults = []) (hr:Room k callerA)
  (hY:∀ (w:World) (h:Heap),YP w h->(K w.params).In h)
  (F:∀ (w:World) (mg:Str->Option Value) (fa:Addr) (h:Heap),(K w.params).In h->h.Ns mainGlobals mg->mg d.name = some (.ref fa) ->
   ∃ fd:FuncData,(∀ (s:Shared) (u:Value),BindsTo s fd ⟨[u],[]⟩ [(x,u)]) /\
    ∀ base:Heap,(K w.params).In base->base.Ns mainGlobals mg->FnOk l.prog w (K w.params) mg base (CX w) k fa fd [x] (sp w))
  (hsp:∀ (w:World) (H:Hp) (a:Addr) (ns:List Int),ns.length<=n->Only H->SqL (K w.params) H a (ns.map V.int)->sp w [.ref a] H (fun v _=>v = .bl true) fun _ _ _=>False)
  (hCX:∀ (w:World) (H:Hp) (s:Shared) (e:Value) (s':Shared),CX w [] H s (fun _ _ _=>False) e s'->False) :
  W.WalkO q loose XP YP l.row.toRowW d [] (fun f vs=>PySem.call f vs):=by
 refine Att.attach_call hn hdf fun w s₀ s₁ mg mb fa o pm cd doc a vs ns G Y ho hd hcd hmg hobj hints hlen hg=>?_
 have KX:=hY w _ Y
 obtain ⟨fd,hb,hF⟩:=F w mg fa _ KX G.T.g hmg
 exact c8a KX G.T.g G.T.b G.T.builtins G.T.nolimit hg hobj hints (Nat.le_trans hlen hn2) hr hF hb (fun H hO hS=>hsp w H a ns hlen hO hS) fun H e s'=>hCX w H s₁ e s'
noncomputable def inClass (s:Stmt) (j:Nat):Stmt:=match s with
 | .ClassDef _ _ _ body _ _ _ _ _ _ _=>body.getD j (.Pass ⟨0,0,0,0⟩)
 | _=>.Pass ⟨0,0,0,0⟩
noncomputable def a0w (s:Stmt):Arguments:=match s with
 | .FunctionDef _ a _ _ _ _ _ _ _ _=>a
 | _=>{ posonlyargs:=[],args:=[],vararg:=none,kwonlyargs:=[],kw_defaults:=[],kwarg:=none,defaults:=[] }
noncomputable def a0v (s:Stmt):List Stmt:=match s with
 | .FunctionDef _ _ b _ _ _ _ _ _ _=>b
 | _=>[]
noncomputable def a0j (s:Stmt):Scope:=match s with
 | .FunctionDef _ _ _ _ _ _ sc _ _ _=>sc
 | _=>{ kind:=.function,names:=[],isGenerator:=false,isCoroutine:=false }
noncomputable abbrev CX0:CXT:=fun _ _ _ _ _ _=>False
noncomputable abbrev E0:XK:=fun _ _ _=>False
theorem a0s {X:Cx}:b0d CX0 X E0:=fun _ _ _ _ _ _ _ h=>h.elim
structure Fun (K:W.Frag) (x qual:Str) (st:Stmt) (f:Addr) (fd:FuncData):Prop where
 ex:∃ (oc:Value) (od:Option Addr) (kV doc pm:Value) (an:Option Addr) (cdv ct:Value) (osl:Array (Option Value)),
  fd = W.fnOf x qual (a0w st) (a0v st) (a0j st) .none kV doc pm an cdv ct/\K.lookup f = some ⟨oc,od,.func fd,osl⟩/\W.codeIn K cdv qual = true
 kp:W.keepIn K (.ref f) = true
section
variable {P:Program} {w:World} {K:W.Frag} {mg:Str->Option Value} {base:Heap}
theorem Fun.ok {x qual:Str} {st:Stmt} {f:Addr} {fd:FuncData} {N ps:List Str} {k:Nat} {sp:Sp} (F:Fun K x qual st f fd) (S:a0y N ps (a0j st)) (len:∀ vs H Q E,sp vs H Q E->vs.length = ps.length)
  (hbody:∀ (cdv:Value) (A:Around) (outer:List Env) (s:Shared) (H:Hp) (vs:List V) (Q:VK) (E:XK),Room k (A.deeper (envOfC qual (a0j st) s.heap.objs.size f cdv))->sp vs H Q E ->
   ∃ t,PSs (cxOf CX0 P w K mg base N qual (a0j st) f cdv A outer s H E).nox (a0v st) t/\t { nx:=fun _ H'=>Q .non H',rt:=Q } (start N vs) H):FnOk P w K mg base CX0 (k + 1) f fd ps sp:=by
 obtain ⟨oc,od,kV,doc,pm,an,cdv,ct,osl,rfl,lk,hcd⟩:=F.ex
 refine fn_of lk hcd S len fun A outer s H vs Q E hr hsp=>?_
 obtain ⟨t,h,q⟩:=hbody cdv A outer s H vs Q E hr hsp
 exact ⟨t,h.nox,q⟩
theorem Fun.binds {x qual:Str} {st:Stmt} {f:Addr} {fd:FuncData} {ps:List Str} (F:Fun K x qual st f fd)
  (h:∀ (kV doc pm:Value) (an:Option Addr) (cdv ct:Value) (us:List Value),us.length = ps.length->bindArgs (W.fnOf x qual (a0w st) (a0v st) (a0j st) .none kV doc pm an cdv ct) ⟨us,[]⟩ = pure (ps.zip us)):Binds K fd ps []:=by
 obtain ⟨oc,od,kV,doc,pm,an,cdv,ct,osl,rfl,lk,hcd⟩:=F.ex
 exact .all (h kV doc pm an cdv ct)
theorem a1c {x qual:Str} {st:Stmt} {f:Addr} {oc:Value} {od an:Option Addr} {osl:Array (Option Value)} {kV doc pm cdv ct:Value} (l:K.lookup f = some ⟨oc,od,.func (W.fnOf x qual (a0w st) (a0v st) (a0j st) .none kV doc pm an cdv ct),osl⟩)
  (c:W.codeIn K cdv qual = true) (k:W.keepIn K (.ref f) = true):Fun K x qual st f (W.fnOf x qual (a0w st) (a0v st) (a0j st) .none kV doc pm an cdv ct):=⟨⟨oc,od,kV,doc,pm,an,cdv,ct,osl,rfl,l,c⟩,k⟩
end
theorem a3t {A:Around} {k:Nat} (hr:Room k A):A.units + 1 < cLine:=Nat.lt_of_le_of_lt (Nat.add_le_add_left (by decide:1<=64) _) hr.units
section
variable {X:Cx}
end
theorem iteF {A B:Prop} (h:B):if false = true then A else B:=by
 rw [if_neg Bool.false_ne_true]
 exact h
theorem iteT {A B:Prop} (h:A):if true = true then A else B:=by
 rw [if_pos rfl]
 exact h
noncomputable def Same (H H':Hp):Prop:=∀ b o,H b = some o->H' b = some o
theorem Same.refl (H:Hp):Same H H:=fun _ _ h=>h
theorem Same.trans {H H1 H2:Hp} (a:Same H H1) (b:Same H1 H2):Same H H2:=fun c o h=>b c o (a c o h)
theorem Same.free {H H':Hp} (e:Same H H') {l:Addr} (h:H' l = Option.none):H l = Option.none:=by
 cases q:H l with
 | none=>rfl
 | some o=>
  rw [e l o q] at h
  cases h
theorem Same.seq {K:W.Frag} {H H':Hp} {a:Addr} {xs:List V} (e:Same H H') (h:SqL K H a xs):SqL K H' a xs:=by
 rcases h with (h | ⟨o,h⟩) | h
 ·exact .inl (.inl (e _ _ h))
 ·exact .inl (.inr ⟨o,e _ _ h⟩)
 ·exact .inr h
section
variable {X:Cx}
theorem a5b:a3s X (.builtin "len") (fun xs H Q=>∃ a kvs,xs = [V.ref a]/\H a = some (.dK kvs)/\Q (.int kvs.length) H):=by
 intro pins s σ H xs us Q I r h
 obtain ⟨a,kvs,rfl,ha,q⟩:=h
 obtain ⟨u,rfl,ru⟩:=vals1 r
 cases ru
 exact d_len I (.inl ha) fun t s' I'=>⟨.int kvs.length,H,I',⟨t,rfl⟩,q⟩
end
section
variable {κ:Type} [DecidableEq κ]
theorem valV_in {kvs:List (κ × V)} {k:κ} {v:V} (h:valV kvs k = some v):k ∈ kvs.map (·.1):=by
 have q:(kvs.any fun kv=>decide (kv.1 = k)) = true:=by
  rw [a7g,h]
  all_goals rfl
 obtain ⟨p,hp,e⟩:=List.any_eq_true.mp q
 exact List.mem_map.mpr ⟨p,hp,of_decide_eq_true e⟩
end
end L2
set_option maxHeartbeats 4000000
namespace My
open PySem PySem.W PySem.Calls PyProof.Rows
theorem b5t {tb:String->Option Builtin} {p:Program} {w:World} {n₀:Nat} {ann:Option Value}:∀ {n:Nat} {s s':Shared} {t:Thread} {f:Flow} {c:Code} {q:Pos},segRun tb p w n₀ ann 0 n s t = some (f,s',c,q)->topRun tb p w n₀ ann n s t = some s'
 | 0,_,_,_,_,_,_,h=>by cases h
 | n + 1,s,s',t,f,c,q,h=>by
  unfold segRun at h
  unfold topRun
  cases he:endAt 0 t with
  | some x=>
   rw [he] at h
   cases h
   have:through t = true:=by
    unfold endAt at he
    unfold through
    obtain ⟨cur,code,pos,st⟩:=t
    cases st with
    | nil=>split at he <;> simp_all
    | cons a b=>simp at he
   rw [this]
  | none=>
   have:through t = false:=by
    unfold endAt at he
    unfold through
    obtain ⟨cur,code,pos,st⟩:=t
    cases st with
    | nil=>
     dsimp only at he ⊢
     split at he
     ·cases he
     ·rename_i h1
      simp only [List.isEmpty_nil,Bool.true_and]
      split
      ·exact (h1 _ rfl rfl).elim
      ·rfl
    | cons a b=>rfl
   rw [he] at h
   rw [this]
   cases hk:stepOk n₀ ann t with
   | false=>rw [hk] at h; cases h
   | true=>
    rw [hk] at h
    cases hs:step (denote tb) p w s t with
    | halt o x=>rw [hs] at h; cases h
    | go s₂ t₂=>rw [hs] at h; exact b5t h
noncomputable def bootT (P:Params):BT:=.node (boot_o_0 P) (.node (boot_o_1 P) (.node (boot_o_3 P) (.node (boot_o_7 P) .nil .nil) .nil) (.node (boot_o_5 P) (.node (boot_o_9 P) .nil .nil) .nil)) (.node (boot_o_2 P) (.node (boot_o_4 P) (.node (boot_o_8 P) .nil .nil) .nil) (.node (boot_o_6 P) (.node (boot_o_10 P) .nil .nil) .nil))
theorem boot_abs (P:Params):absHeap (bootT P) 11 {} = boot_heap P:=by kernel_rfl
noncomputable def bootS (w:World) (os:OsState):SharedT:=⟨bootT w.params,11,{},#[],boot_drawn,boot_toks,os⟩
noncomputable def looks {α:Type} (p q:Program) (loose:List Str) (Xt:Shared->Bool) (Yf:Shared->α) (g0:Bool) (h₀:Heap) (s:Shared):=
 ((staticsOk (importedModules p.main.body) h₀ s.heap && namesBound p s.heap && gensDone s && laidKept h₀ s.heap),openSeen q loose (importedModules p.main.body) Xt g0 s,Yf s)
theorem left_of {p q:Program} {loose:List Str} {Xt:Shared->Bool} {α:Type} {Yf:Shared->α} {Ya:World->α} {N M:Nat} {g0:Bool}
  (e:opening p = plainProg p.main.scope.names) (hN:Nat.ble 600 N = true) (f:∀ s,fenceModules? p s = some s)
  (size:∀ w:World,((boot_heap w.params).isNs mainGlobals,(boot_heap w.params).nsMap mainGlobals "__annotations__") = (true,some (.ref 6)))
  (le:Nat.ble M N = true)
  (run:∀ w:World,(fun os=>(segRunT treeTable p w 11 (some (.ref 6)) 0 M (bootS w os) (topStub p)).map fun r=>looks p q loose Xt Yf g0 (boot_heap w.params) r.2.1.abs) = fun _=>some (true,openGood q loose,Ya w)) :
  LeftO p q loose Xt Yf Ya N g0:=fun w=>by
 obtain ⟨⟨h,gs,d,k,os⟩,e1,e2⟩:=Option.map_eq_some_iff.mp (boot_open e hN f w)
 obtain ⟨rfl,rfl,rfl,rfl⟩:h = boot_heap w.params/\gs = #[]/\d = boot_drawn/\k = boot_toks:=by simpa using e2
 obtain ⟨z1,z3⟩:_/\_:=by simpa only [Prod.mk.injEq] using size w
 obtain ⟨⟨fl,s,c,ps⟩,r1,r2⟩:=Option.map_eq_some_iff.mp (congrFun (run w) os)
 obtain ⟨l1,l2,l3⟩:_/\_/\_:=by simpa only [looks,Prod.mk.injEq] using r2
 have r:=topRun_mono (N - M) _ _ _ _ (b5t (segRun_of r1))
 rw [show M + (N - M) = N by have:=Nat.le_of_ble_eq_true le; omega] at r
 have t:topFrom treeTable p w N ⟨boot_heap w.params,#[],boot_drawn,boot_toks,os⟩ = some s.abs:=by
  unfold topFrom
  dsimp only
  rw [z1]
  show (topRun treeTable p w 11 _ N ⟨boot_heap w.params,#[],boot_drawn,boot_toks,os⟩ (topStub p)).bind _ = _
  rw [z3]
  have r':topRun treeTable p w 11 (some (.ref 6)) N ⟨boot_heap w.params,#[],boot_drawn,boot_toks,os⟩ (topStub p) = some s.abs:=by
   rw [<- boot_abs]; exact r
  rw [r']
  show (match staticsOk (importedModules p.main.body) (boot_heap w.params) s.abs.heap && namesBound p s.abs.heap && gensDone s.abs && laidKept (boot_heap w.params) s.abs.heap with | true=>some s.abs | false=>none) = some s.abs
  rw [l1]
 unfold openEnds
 rw [e1]
 show ((topFrom treeTable p w N ⟨boot_heap w.params,#[],boot_drawn,boot_toks,os⟩).map _) = _
 rw [t]
 exact congrArg some (by dsimp only; rw [l2,l3])
theorem c5b (w:World):((boot_heap w.params).isNs mainGlobals,(boot_heap w.params).nsMap mainGlobals "__annotations__") = (true,some (.ref 6)):=by kernel_rfl
end My
lay_quick PySem.W.topStub PySem.W.openGood PySem.W.SharedT.abs PySem.W.xlAt PySem.W.recOk PySem.W.view My.looks
namespace L2
open PySem PySem.Spec PyProof.Rows
noncomputable def clOf (env:Env):List (Str × NameKind)->List (Str × Addr)->List (Str × Addr)
 | [],acc=>acc
 | (n,k) :: r,acc=>if k = .free then clOf env r ((n,(env.cells.lookup n).getD 0) :: acc) else clOf env r acc
theorem b4n {env:Env} (f:(Str × NameKind)->List (Str × Addr)->Sem (ForInStep (List (Str × Addr))))
  (h1:∀ n r c,env.cells.lookup n = some c->f (n,.free) r = pure (.yield ((n,c) :: r))) (h2:∀ n k r,k ≠ .free->f (n,k) r = pure (.yield r)) :
  ∀ (l:List (Str × NameKind)) (acc:List (Str × Addr)),(∀ y ∈ l,y.2 = .free->∃ c,env.cells.lookup y.1 = some c)->forIn l acc f = pure (clOf env l acc)
 | [],acc,_=>by rw [List.forIn_nil]; rfl
 | (n,k) :: r,acc,h=>by
  have hr:∀ y ∈ r,y.2 = .free->∃ c,env.cells.lookup y.1 = some c:=fun y hy=>h y (List.mem_cons_of_mem _ hy)
  rw [List.forIn_cons]
  by_cases hk:k = .free
  ·subst hk
   obtain ⟨c,hc⟩:=h _ List.mem_cons_self rfl
   have hc:env.cells.lookup n = some c:=hc
   rw [h1 n acc c hc]
   have ih:=b4n f h1 h2 r ((n,c) :: acc) hr
   show (forIn r ((n,c) :: acc) f) = _
   rw [ih]
   unfold clOf
   rw [if_pos rfl,hc]
   rw [<- clOf.eq_def]
   rfl
  ·rw [h2 n k acc hk]
   have ih:=b4n f h1 h2 r acc hr
   show (forIn r acc f) = _
   rw [ih]
   conv=>rhs; unfold clOf
   rw [if_neg hk]
theorem b5u {scope:Scope} {env:Env} (h:∀ y ∈ scope.names,y.2 = .free->∃ c,env.cells.lookup y.1 = some c):closureFor scope env = pure (clOf env scope.names []):=by
 unfold closureFor
 have e:=b4n (env:=env) (fun x r=>if x.2 == NameKind.free then do let c <- cellOf env x.1; pure (ForInStep.yield ((x.1,c) :: r)) else pure (ForInStep.yield r))
  (fun n r c hc=>by
   have e:cellOf env n = pure c:=by unfold cellOf; rw [hc]
   show (if (NameKind.free == NameKind.free) = true then _ else _) = _
   rw [if_pos (by decide),e]
   rfl)
  (fun n k r hk=>by
   show (if (k == NameKind.free) = true then _ else _) = _
   rw [if_neg (by intro z; exact hk (eq_of_beq z))]) scope.names [] h
 exact (congrArg (fun m=>m >>= fun cs=>(pure cs:Sem (List (Str × Addr)))) e)
theorem b4o {env:Env}:∀ (l:List (Str × NameKind)) (acc:List (Str × Addr)) (y:Str) (c:Addr),(∀ y ∈ l,y.2 = .free->∃ c,env.cells.lookup y.1 = some c)->(∀ y c,acc.lookup y = some c->env.cells.lookup y = some c) ->
  (clOf env l acc).lookup y = some c->env.cells.lookup y = some c
 | [],acc,y,c,_,ha,e=>ha y c e
 | (n,k) :: r,acc,y,c,h,ha,e=>by
  have hr:∀ y ∈ r,y.2 = .free->∃ c,env.cells.lookup y.1 = some c:=fun y hy=>h y (List.mem_cons_of_mem _ hy)
  unfold clOf at e
  by_cases hk:k = .free
  ·rw [if_pos hk] at e
   refine b4o r _ y c hr (fun z d q=>?_) e
   rw [List.lookup_cons] at q
   cases hz:z == n with
   | true=>
    rw [hz] at q
    have q':(env.cells.lookup n).getD 0 = d:=Option.some.inj q
    obtain ⟨c',hc'⟩:=h _ List.mem_cons_self hk
    have hc':env.cells.lookup n = some c':=hc'
    rw [hc'] at q'
    have q':c' = d:=q'
    rw [eq_of_beq hz,hc',q']
   | false=>
    rw [hz] at q
    exact ha z d q
  ·rw [if_neg hk] at e
   exact b4o r acc y c hr ha e
theorem b4p {env:Env}:∀ (l:List (Str × NameKind)) (acc:List (Str × Addr)) (y:Str),(∃ c,acc.lookup y = some c)->∃ c,(clOf env l acc).lookup y = some c
 | [],_,_,h=>h
 | (n,k) :: r,acc,y,h=>by
  unfold clOf
  by_cases hk:k = .free
  ·rw [if_pos hk]
   refine b4p r _ y ?_
   rw [List.lookup_cons]
   cases hz:y == n with
   | true=>exact ⟨_,rfl⟩
   | false=>exact h
  ·rw [if_neg hk]
   exact b4p r acc y h
theorem b2e {env:Env}:∀ (l:List (Str × NameKind)) (acc:List (Str × Addr)) (y:Str),(y,NameKind.free) ∈ l->∃ c,(clOf env l acc).lookup y = some c
 | [],_,_,h=>by simp at h
 | (n,k) :: r,acc,y,h=>by
  unfold clOf
  by_cases hk:k = .free
  ·rw [if_pos hk]
   rcases List.mem_cons.mp h with e | e
   ·refine b4p r _ y ?_
    have e1:y = n:=congrArg Prod.fst e
    rw [List.lookup_cons,e1]
    simp
   ·exact b2e r _ y e
  ·rw [if_neg hk]
   rcases List.mem_cons.mp h with e | e
   ·exact absurd (congrArg Prod.snd e).symm hk
   ·exact b2e r acc y e
theorem a8r (scope:Scope) (env:Env) (y:Str):(relabel scope env).names.lookup y = (scope.names.lookup y).map fun k=>if (k == NameKind.free && env.scope.kind == .function && env.kindOf y == some .cell) = true then .cell else k:=by
 show (scope.names.map _).lookup y = _
 induction scope.names with
 | nil=>rfl
 | cons p r ih=>
  obtain ⟨n,k⟩:=p
  rw [List.map_cons,List.lookup_cons (a:=y) (k:=n) (b:=k)]
  cases hz:y == n with
  | true=>
   have e:y = n:=eq_of_beq hz
   subst e
   show List.lookup y ((if (k == NameKind.free && env.scope.kind == .function && env.kindOf y == some .cell) = true then (y,NameKind.cell) else (y,k)) :: _) = some (if _ then _ else _)
   by_cases hc:(k == NameKind.free && env.scope.kind == .function && env.kindOf y == some .cell) = true
   ·rw [if_pos hc,if_pos hc]; simp
   ·rw [if_neg hc,if_neg hc]; simp
  | false=>
   show List.lookup y ((if (k == NameKind.free && env.scope.kind == .function && env.kindOf n == some .cell) = true then (n,NameKind.cell) else (n,k)) :: _) = _
   by_cases hc:(k == NameKind.free && env.scope.kind == .function && env.kindOf n == some .cell) = true
   ·rw [if_pos hc,List.lookup_cons,hz]; exact ih
   ·rw [if_neg hc,List.lookup_cons,hz]; exact ih
noncomputable def a3o (X:Cx) (scope:Scope) (x:Str) (N':List Str) (C:Addr) (s:Shared) (H:Hp) (fp:List Addr) (pn:List (Addr × Obj)):Cx where
 prog:=X.prog
 w:=X.w
 K:=X.K
 mg:=X.mg
 base:=X.base
 A:=X.A
 N:=x :: N'
 s₀:=s
 H₀:=H
 env:=compEnvC scope (clOf X.env scope.names []) C X.env
 outer:=X.stack
 stack:=X.stack
 ex:=fp
 fn:=fun _=>false
 calm:=X.calm
 pn:=pn
 xe:=fun _ _=>False
section
variable {X:Cx} {pins:List (Addr × Obj)} {σ:St} {H:Hp} {s:Shared}
structure b3b (X:Cx) (scope:Scope) (x:Str) (N':List Str):Prop where
 loc:scope.names.lookup x = some .local
 nocell:∀ y ∈ scope.names,y.2 ≠ .cell
 kind:scope.kind = .function
 names:∀ y ∈ scope.names,y.2 = .local->scope.names.lookup y.1 = some .local
 free:∀ y ∈ scope.names,y.2 = .free->X.env.kindOf y.1 = some .cell\/X.env.kindOf y.1 = some .free
 nin:x ∉ N'
 nd:N'.Nodup
 len:N'.length = X.N.length
 sub:∀ (i:Nat) (y:Str),N'[i]? = some y->X.N[i]? = some y\/scope.names.lookup y = none
 only:∀ y ∈ scope.names,y.2 = .local->y.1 = x\/y.1 ∉ N'
theorem Inv.compIn {scope:Scope} {x:Str} {N':List Str} {fp:List Addr} {h1:Heap} {tk:Nat} {m:Str->Option Value} (S:b3b X scope x N') (I:Inv X pins σ H s) (hf:∀ b ∈ fp,FpOk X pins H b) (hfl:∀ b ∈ fp,b < s.heap.objs.size)
  (hn:h1.Ns s.heap.objs.size m) (hsb:∀ b o,s.heap.get? b = some o->h1.get? b = some o) :
  Inv (a3o X scope x N' s.heap.objs.size s H fp (X.pn ++ pins)) [] (none :: σ) H { s with heap:=h1,toks:=tk }:=by
 have hcells:∀ y ∈ scope.names,y.2 = .free->∃ c,X.env.cells.lookup y.1 = some c:=fun y hy hk=>I.ok.has y.1 (S.free y hy hk)
 have sub:∀ y c,(clOf X.env scope.names []).lookup y = some c->X.env.cells.lookup y = some c:=fun y c e=>b4o _ _ y c hcells (fun z d q=>by simp at q) e
 have lk:∀ (y:Str) (k:NameKind),(relabel scope X.env).names.lookup y = some k->k = .cell\/k = .free->scope.names.lookup y = some .free:=fun y k e hk=>by
  rw [a8r] at e
  cases q:scope.names.lookup y with
  | none=>rw [q] at e; cases e
  | some k0=>
   rw [q] at e
   have e':(if (k0 == NameKind.free && X.env.scope.kind == .function && X.env.kindOf y == some .cell) = true then NameKind.cell else k0) = k:=Option.some.inj e
   by_cases hc:(k0 == NameKind.free && X.env.scope.kind == .function && X.env.kindOf y == some .cell) = true
   ·simp only [Bool.and_eq_true] at hc
    rw [eq_of_beq hc.1.1]
   ·rw [if_neg hc] at e'
    subst e'
    rcases hk with hk | hk
    ·exact absurd hk (S.nocell _ (PySem.mem_of_lookup q))
    ·rw [hk]
 have lt:∀ {b:Addr} {o:Obj},s.heap.get? b = some o->b ≠ s.heap.objs.size:=fun e=>Nat.ne_of_lt (Heap.lt_size e)
 refine ⟨⟨I.ok.mod,by show (relabel scope X.env).kind = _; exact S.kind,I.ok.glob,I.ok.blt,Nat.le_refl _,fun y z c e1 e2=>I.ok.inj y z c (sub y c e1) (sub z c e2),fun y hy=>?_,fun y c hz=>(by cases hz),I.ok.hd,I.ok.frames,.inl rfl,
  fun b hb=>⟨Nat.ne_of_lt (hfl b hb),fun y c e=>(hf b hb).2.2.2.2.1 y c (sub y c e)⟩,I.bs,Nat.le_trans I.ok.bsz I.sz,fun b o e hb=>?_,fun b hb hz=>?_,I.stack,I.stkFree⟩,
  rfl,I.bare,Un.kept hsb,⟨m,hn,fun i y v h1 h2 h3=>?_⟩,fun y c e=>?_,I.hok.fresh (Nat.le_refl _),fun y c e=>I.freeC y c (sub y c e),fun p hp=>?_,I.hok.kept hsb,?_⟩
 ·have hy:(relabel scope X.env).names.lookup y = some .cell\/(relabel scope X.env).names.lookup y = some .free:=hy
  have q:scope.names.lookup y = some .free:=hy.elim (fun z=>lk y _ z (.inl rfl)) fun z=>lk y _ z (.inr rfl)
  exact b2e _ _ y (PySem.mem_of_lookup q)
 ·obtain ⟨_,_,_,f3,_,_⟩:=hf b hb
  rcases f3 with f3 | f3
  ·exact I.ok.noex b o e f3
  ·exact absurd (Nat.lt_of_lt_of_le (Heap.lt_size e) (Nat.le_trans I.ok.bsz f3)) (Nat.lt_irrefl _)
 ·have hz:b ∈ frs X.stack:=hz
  obtain ⟨_,f1,f2,_⟩:=hf b hb
  rcases List.mem_cons.mp (I.stkSub b hz) with z | z
  ·exact f1 z
  ·exact f2 z
 ·cases i with
  | zero=>simp at h2
  | succ i=>
   have h1:N'[i]? = some y:=by simpa [a3o] using h1
   have h2:σ[i]? = some (some v):=by simpa using h2
   have hne:N'[i]? ≠ some x:=fun z=>S.nin (List.mem_of_getElem? z)
   have h3:Vis (relabel scope X.env) y:=h3
   obtain ⟨m',hn',hl'⟩:=I.loc
   have q:scope.names.lookup y = some .free:=by
    rcases h3 with z | z | z
    ·exfalso
     rw [a8r] at z
     cases q:scope.names.lookup y with
     | none=>rw [q] at z; cases z
     | some k0=>
      rw [q] at z
      have e':(if (k0 == NameKind.free && X.env.scope.kind == .function && X.env.kindOf y == some .cell) = true then NameKind.cell else k0) = .local:=Option.some.inj z
      by_cases hc:(k0 == NameKind.free && X.env.scope.kind == .function && X.env.kindOf y == some .cell) = true
      ·rw [if_pos hc] at e'; cases e'
      ·rw [if_neg hc] at e'
       subst e'
       rcases S.only _ (PySem.mem_of_lookup q) rfl with w | w
       ·exact hne (by rw [h1]; exact congrArg some w)
       ·exact w (List.mem_of_getElem? h1)
    ·exact lk y _ z (.inl rfl)
    ·exact lk y _ z (.inr rfl)
   obtain ⟨c,hc⟩:=b2e (env:=X.env) scope.names [] y (PySem.mem_of_lookup q)
   have hk:X.env.kindOf y = some .cell\/X.env.kindOf y = some .free:=S.free _ (PySem.mem_of_lookup q) rfl
   have h1':X.N[i]? = some y:=(S.sub i y h1).resolve_right fun z=>by rw [q] at z; cases z
   obtain ⟨u,r,l⟩:=hl' i y v h1' h2 (.inr hk)
   refine ⟨u,r,?_⟩
   have kd:(compEnvC scope (clOf X.env scope.names []) s.heap.objs.size X.env).kindOf y = some .cell\/(compEnvC scope (clOf X.env scope.names []) s.heap.objs.size X.env).kindOf y = some .free:=by
    rcases h3 with z | z | z
    ·exfalso
     rw [a8r,q] at z
     have e':(if (NameKind.free == NameKind.free && X.env.scope.kind == .function && X.env.kindOf y == some .cell) = true then NameKind.cell else NameKind.free) = .local:=Option.some.inj z
     by_cases hc:(NameKind.free == NameKind.free && X.env.scope.kind == .function && X.env.kindOf y == some .cell) = true
     ·rw [if_pos hc] at e'; cases e'
     ·rw [if_neg hc] at e'; cases e'
    ·exact .inl z
    ·exact .inr z
   rcases l with ⟨a,_⟩ | ⟨_,c',hc',ic⟩
   ·rcases hk with k | k <;> (rw [k] at a; cases a)
   ·have e:X.env.cells.lookup y = some c:=sub y c hc
    rw [e] at hc'
    cases hc'
    obtain ⟨o,ho,hd⟩:=ic
    exact .inr ⟨kd,c,hc,⟨o,hsb _ _ ho,hd⟩⟩
 ·obtain ⟨v,o,ho,hd⟩:=I.cell y c (sub y c e)
  exact ⟨v,o,hsb _ _ ho,hd⟩
 ·have hp:p ∈ X.pn ++ pins:=by
   have hp:p ∈ (X.pn ++ pins) ++ []:=hp
   rwa [List.append_nil] at hp
  obtain ⟨e,n,ne,nf,d⟩:=I.pin p hp
  refine ⟨hsb _ _ e,n,lt e,fun hz=>?_,d⟩
  have hz:p.1 ∈ frs X.stack:=hz
  rcases List.mem_cons.mp (I.stkSub _ hz) with z | z
  ·exact ne z
  ·exact nf z
 ·show (none :: σ).length = (x :: N').length
  rw [List.length_cons,List.length_cons,I.len,S.len]
noncomputable def PTs (X:Cx) (ifs:List Expr) (t:TT):Prop:=
 ∀ (pins:List (Addr × Obj)) (s:Shared) (σ:St) (H:Hp) (Q:Bool->Hp->Prop) (E:Value->Shared->Prop),Inv X pins σ H s->t σ H Q ->
  wpAny (model X.prog X.w) X.A (forIn ifs true fun c r=>if r = true then do let ok <- isTrue c X.env (eval c X.env); pure (ForInStep.yield ok) else pure (ForInStep.yield r)) (TP X pins σ Q) E s
noncomputable def tYes:TT:=fun _ H Q=>Q true H
theorem a8s:PTs X [] tYes:=fun _ _ _ H _ _ I h=>wpAny_tests_nil ⟨H,I,h⟩
theorem c5c {prog:Program} {w:World} {A:Around} {R:Result->Shared->Prop} {s:Shared} {elt target iter:Expr} {ifs:List Expr} {scope:Scope} {pos:Pos} {it acc:Value} {env:Env} (J:Nat->Shared->Prop)
  (turn:∀ n s,J n s->wpAny (model prog w) A (pyNext it) (fun r s1=>match r with
   | none=>R (.ok .next) s1
   | some v=>wpAny (model prog w) A (letOwnedTupleGo target it v) (fun _ s2=>wpAny (model prog w) A (assign target env v) (fun _ s3=>
     wpAny (model prog w) A (forIn ifs true fun c r=>if r = true then do let ok <- isTrue c env (eval c env); pure (ForInStep.yield ok) else pure (ForInStep.yield r)) (fun ok s4=>
      if ok = true then wpAny (model prog w) A (eval elt env) (fun y s5=>wpAny (model prog w) A (call (.builtin "list.append") [acc,y]) (fun _ s6=>∃ m,m < n/\J m s6) (fun _ _=>False) s5) (fun _ _=>False) s4
      else ∃ m,m < n/\J m s4) (fun _ _=>False) s3) (fun _ _=>False) s2) (fun _ _=>False) s1) (fun _ _=>False) s)
  (n:Nat) (h:J n s):codeAny (model prog w) A (.compLoop (.ListComp elt [⟨target,iter,ifs,0⟩] scope pos) 0 it acc env) R s:=by
 have no:∀ {α:Type} {t:Sem α} {Q:α->Shared->Prop} {E:Value->Shared->Prop} {s:Shared},wpAny (model prog w) A t Q (fun _ _=>False) s->wpAny (model prog w) A t Q E s:=
  fun q=>wpAny_mono q (fun _ _ z=>z) fun _ _ z=>z.elim
 refine codeAny_loop rfl J (fun n s hJ=>?_) n h
 refine wpAny_noted (m:=compTurn (.ListComp elt [⟨target,iter,ifs,0⟩] scope pos) 0 it acc env) ?_
 rw [compTurn_list]
 refine wpAny_bind (wpAny_standAt (wpAny_bind (no (thn (turn n s hJ) fun r s1 q1=>?_))))
 cases r with
 | none=>exact wpAny_pure q1
 | some v=>
  refine no ?_
  refine wpAny_bind (thn q1 fun _ s2 q2=>wpAny_bind (thn q2 fun _ s3 q3=>wpAny_bind (thn q3 fun ok s4 q4=>?_)))
  cases ok with
  | false=>exact wpAny_pure ⟨rfl,q4⟩
  | true=>exact wpAny_bind (wpAny_bind (thn q4 fun y s5 q5=>wpAny_bind (thn q5 fun _ s6 q6=>wpAny_pure (wpAny_pure ⟨rfl,q6⟩))))
noncomputable def b8o (J:It) (tt:TT) (te:TE) (σ:St) (Q:VK) (D:Addr) (H1:Hp):Prop:=∃ W:Nat->Nat->List V->Hp->Prop,(∃ m,W 0 m [] (upd H1 D (.lst []))) /\
 ∀ i m ys H',W i m ys H'->(J.stop i H'/\Q (.ref D) H')\/(J.go i H'/\∀ v H2,J.yld i H' v H2->tt (some v :: σ) H2 fun b H3=>
  if b = true then te (some v :: σ) H3 fun y H4=>H4 D = some (.lst ys)/\ys.length < sizeLine/\∃ m',m' < m/\W (i + 1) m' (ys ++ [y]) (upd H4 D (.lst (ys ++ [y])))
  else ∃ m',m' < m/\W (i + 1) m' ys H3)
noncomputable def tComp (wi:TI) (tt:TT) (te:TE):TE:=fun σ H Q=>wi σ H fun J H1=>∀ D,H1 D = none->b8o J tt te σ Q D H1
theorem b7p {elt iter:Expr} {x:Str} {N':List Str} {px:Pos} {ifs:List Expr} {scope:Scope} {pos:Pos} {tt:TT} {te:TE} (hc:X.calm = true) (S:b3b X scope x N')
  (ht:∀ C s H fp pn,PTs (a3o X scope x N' C s H fp pn) ifs tt) (he:∀ C s H fp pn,PE (a3o X scope x N' C s H fp pn) elt te) {Q:VK} {itv:Value} {s2:Shared} {RR:Value->Addr->Result->Shared->Prop}
  (h2:PIE X pins σ (.Name x px) (fun J H1=>∀ D,H1 D = none->b8o J tt te σ Q D H1) itv s2)
  (hend:∀ (D C:Addr) (H6:Hp) (s7:Shared) (m7:Str->Option Value),Inv X pins σ H6 s7->s7.heap.Ns C m7->FpOk X pins H6 C->Q (.ref D) H6->RR (.ref D) C (.ok .next) s7) :
  wpAny (model X.prog X.w) X.A (newList []) (fun acc s3=>wpAny (model X.prog X.w) X.A (newFunctionEnv scope X.env.globals (clOf X.env scope.names []) [] X.env.qual none .none (some X.env)) (fun cenv s4=>
   codeAny (model X.prog X.w) X.A (.compStart (.ListComp elt [⟨.Name x px,iter,ifs,0⟩] scope pos) 0 itv acc { cenv with scope:=relabel scope X.env }) (RR acc cenv.locals) s4) X.xe s3) X.xe s2:=by
 obtain ⟨it,fp,tn,J,H2,e,I2,T,st2,f2,hW⟩:=h2
 subst e
 have hlt:∀ b ∈ fp,b < s2.heap.objs.size:=fun b hb=>by
  obtain ⟨o,ho,_⟩:=T.obj _ _ st2 b hb
  exact Heap.lt_size ho
 obtain ⟨W,⟨m0,w0⟩,hturn⟩:=hW s2.heap.objs.size (I2.hok.fresh (Nat.le_refl _))
 refine wpAny_newObj_type ?_ (by show 0<=sizeLine; exact Nat.zero_le _)
 have I3:Inv X pins σ (upd H2 s2.heap.objs.size (.lst [])) { s2 with heap:=s2.heap.push { cls:=.type "list",data:=.seq ([]:List Value).toArray } }:=I2.lnew (t':=s2.toks) .nil (Nat.zero_le _)
 have f3:∀ b ∈ fp,FpOk X pins (upd H2 s2.heap.objs.size (.lst [])) b:=fun b hb=>by
  obtain ⟨g0,g⟩:=f2 b hb
  exact ⟨by rw [a0n (Nat.ne_of_lt (hlt b hb))]; exact g0,g⟩
 have st3:tn 0 (s2.heap.push { cls:=.type "list",data:=.seq ([]:List Value).toArray }):=T.keep _ _ _ st2 fun b _ o e=>Heap.get?_push_of_some _ e
 have hlt3:∀ b ∈ fp,b < (s2.heap.push { cls:=.type "list",data:=.seq ([]:List Value).toArray }).objs.size:=fun b hb=>by rw [Heap.size_push]; exact Nat.lt_succ_of_lt (hlt b hb)
 generalize hs3:({ s2 with heap:=s2.heap.push { cls:=.type "list",data:=.seq ([]:List Value).toArray } }:Shared) = s3 at I3
 have eh:s3.heap = s2.heap.push { cls:=.type "list",data:=.seq ([]:List Value).toArray }:=by rw [<- hs3]
 rw [<- eh] at st3 hlt3
 show wpAny _ _ (newFunctionEnv scope X.env.globals (clOf X.env scope.names []) [] X.env.qual none .none (some X.env)) _ _ _
 refine wpAny_newFunctionEnv S.nocell (by intro y hy; simp at hy) (fun h4 hns4 hsb4=>?_) S.kind
 have hk4:∀ b o,s3.heap.get? b = some o->h4.get? b = some o:=fun b o e=>(hsb4.2 b (Nat.ne_of_lt (Heap.lt_size e))).trans (Heap.get?_push_of_some _ e)
 have I4:=Inv.compIn (tk:=s3.toks + ([]:List (Str × Value)).length) S I3 f3 hlt3 hns4 hk4
 have st4:tn 0 h4:=T.keep _ _ _ st3 fun b _ o e=>hk4 b o e
 have fx:∀ {H':Hp},(∀ b ∈ fp,H' b = none)->∀ b ∈ fp,FpOk (a3o X scope x N' s3.heap.objs.size s3 (upd H2 s2.heap.objs.size (.lst [])) fp (X.pn ++ pins)) [] H' b:=fun {H'} hn b hb=>by
  obtain ⟨_,g1,g2,g3,g4,g5⟩:=f3 b hb
  refine ⟨hn b hb,Nat.ne_of_lt (hlt3 b hb),I4.ok.exfs b hb,.inl hb,fun y c e=>(I4.ok.exf b hb).2 y c e,fun p hp=>g5 p ?_⟩
  have hp:p ∈ (X.pn ++ pins) ++ []:=hp
  rwa [List.append_nil] at hp
 have loop:∀ s5:Shared,(∃ (i n:Nat) (o:Option V) (ys:List V) (H5:Hp),Inv (a3o X scope x N' s3.heap.objs.size s3 (upd H2 s2.heap.objs.size (.lst [])) fp (X.pn ++ pins)) [] (o :: σ) H5 s5/\tn i s5.heap/\(∀ b ∈ fp,H5 b = none)/\W i n ys H5) ->
   codeAny (model X.prog X.w) X.A (.compLoop (.ListComp elt [⟨.Name x px,iter,ifs,0⟩] scope pos) 0 (.ref it) (.ref s2.heap.objs.size) (compEnvC scope (clOf X.env scope.names []) s3.heap.objs.size X.env))
    (RR (.ref s2.heap.objs.size) s3.heap.objs.size) s5:=by
  rintro s5 ⟨i5,n5,o5,ys5,H5,I5,st5,fr5,w5⟩
  refine c5c (fun n s'=>∃ (i:Nat) (o:Option V) (ys:List V) (H5:Hp),Inv (a3o X scope x N' s3.heap.objs.size s3 (upd H2 s2.heap.objs.size (.lst [])) fp (X.pn ++ pins)) [] (o :: σ) H5 s'/\tn i s'.heap/\(∀ b ∈ fp,H5 b = none)/\W i n ys H5) ?_ n5 ⟨i5,o5,ys5,H5,I5,st5,fr5,w5⟩
  rintro n s6 ⟨i,o,ys,H6,I6,st6,fr6,w6⟩
  rcases hturn i n ys H6 w6 with ⟨stop,qn⟩ | ⟨go,step⟩
  ·refine thn (T.done (a3o X scope x N' s3.heap.objs.size s3 (upd H2 s2.heap.objs.size (.lst [])) fp (X.pn ++ pins)) rfl rfl rfl hc i [] s6 _ H6 _ I6 (fx fr6) st6 stop) fun r s7 ⟨hr,I7⟩=>?_
   subst hr
   obtain ⟨m7,hn7,_⟩:=id I7.loc
   have I8:Inv X pins σ H6 s7:=I3.call' I7.os I7.base I7.hok I7.bare fun b hb=>by
    obtain ⟨_,g1,g2,g3,g4,g5⟩:=f3 b hb
    exact ⟨g3,g1,g4,g5⟩
   have f8:FpOk X pins H6 s3.heap.objs.size:=I3.fpOk (Nat.le_refl _) I7.free
   exact hend _ _ H6 s7 m7 I8 hn7 f8 qn
  ·refine thn (T.item (a3o X scope x N' s3.heap.objs.size s3 (upd H2 s2.heap.objs.size (.lst [])) fp (X.pn ++ pins)) rfl rfl rfl hc i [] s6 _ H6 _ I6 (fx fr6) st6 go) fun r s7 ⟨u,hr,h7⟩=>?_
   subst hr
   refine thn h7 fun _ s8 ⟨v,H8,I8,r8,y8,st8,fr8⟩=>?_
   have I8':=I8.pinned (fx fr8) (T.obj _ _ st8)
   refine wpAny_assign_Name (b4l I8' (i:=0) (List.nodup_cons.mpr ⟨S.nin,S.nd⟩) rfl (.inl (lookup_relabel_local S.loc)) r8 (fun s9 I9=>?_) (.inr (lookup_relabel_local S.loc)))
   have I9:Inv (a3o X scope x N' s3.heap.objs.size s3 (upd H2 s2.heap.objs.size (.lst [])) fp (X.pn ++ pins)) ([] ++ b1i fp s8.heap) (some v :: σ) H8 s9:=I9
   refine thn (ht _ _ _ _ _ _ s9 (some v :: σ) H8 _ _ I9 (step v H8 y8)) fun b s10 ⟨H10,I10,q10⟩=>?_
   have back:∀ {s':Shared} {H':Hp} {ys':List V} {m':Nat},Inv (a3o X scope x N' s3.heap.objs.size s3 (upd H2 s2.heap.objs.size (.lst [])) fp (X.pn ++ pins)) ([] ++ b1i fp s8.heap) (some v :: σ) H' s'->W (i + 1) m' ys' H' ->
     ∃ (i:Nat) (o:Option V) (ys:List V) (H5:Hp),Inv (a3o X scope x N' s3.heap.objs.size s3 (upd H2 s2.heap.objs.size (.lst [])) fp (X.pn ++ pins)) [] (o :: σ) H5 s'/\tn i s'.heap/\(∀ b ∈ fp,H5 b = none)/\W i m' ys H5:=fun {s' H' ys' m'} I' w'=>by
    refine ⟨i + 1,some v,ys',H',I'.unpinned,T.keep _ _ _ st8 fun b hb o e=>(I'.pin (b,o) (List.mem_append_right _ (List.mem_append_right _ (a9o hb e)))).1,fun b hb=>?_,w'⟩
    obtain ⟨o,e,d⟩:=T.obj _ _ st8 b hb
    exact (I'.pin (b,o) (List.mem_append_right _ (List.mem_append_right _ (a9o hb e)))).2.1
   cases b with
   | false=>
    rw [if_neg Bool.false_ne_true] at q10 ⊢
    obtain ⟨m',hm,w'⟩:=q10
    exact ⟨m',hm,back I10 w'⟩
   | true=>
    rw [if_pos rfl] at q10 ⊢
    refine thn (he _ _ _ _ _ _ s10 (some v :: σ) H10 _ I10 q10) fun y s11 ⟨yv,H11,I11,r11,hD,hz,m',hm,w'⟩=>?_
    have ap:=b7n (X:=a3o X scope x N' s3.heap.objs.size s3 (upd H2 s2.heap.objs.size (.lst [])) fp (X.pn ++ pins)) _ s11 (some v :: σ) H11 (.ref s2.heap.objs.size) [yv] (.ref s2.heap.objs.size) [y] (fun _ H'=>W (i + 1) m' (ys ++ [yv]) H') I11 rfl (.cons r11 .nil) ⟨_,ys,yv,rfl,rfl,hD,hz,w'⟩
    exact thn ap fun _ s12 ⟨_,H12,I12,_,w12⟩=>⟨m',hm,back I12 w12⟩
 have l4:=loop { s3 with heap:=h4,toks:=s3.toks + ([]:List (Str × Value)).length } ⟨0,m0,none,[],_,I4,st4,fun b hb=>(f3 b hb).1,w0⟩
 exact codeAny_compStart_list l4 (T.self _ _ _ _ _ st4 l4)
theorem b1m {elt iter:Expr} {x:Str} {N':List Str} {px:Pos} {ifs:List Expr} {scope:Scope} {pos:Pos} {wi:TI} {tt:TT} {te:TE} (hc:X.calm = true) (hi:PI X (.Name x px) iter wi) (S:b3b X scope x N')
  (ht:∀ C s H fp pn,PTs (a3o X scope x N' C s H fp pn) ifs tt) (he:∀ C s H fp pn,PE (a3o X scope x N' C s H fp pn) elt te) (hs:∀ x,foldedSetIterable iter X.env x = pure x:=by intro _; rfl) :
  PE X (.ListComp elt [⟨.Name x px,iter,ifs,0⟩] scope pos) (tComp wi tt te):=by
 intro pins s σ H Q I h
 have hcells:∀ y ∈ scope.names,y.2 = .free->∃ c,X.env.cells.lookup y.1 = some c:=fun y hy hk=>I.ok.has y.1 (S.free y hy hk)
 rw [eval_ListComp]
 refine wpAny_comprehension_free (use:=none) rfl hs (b5u hcells) S.kind S.names (thn (hi pins s σ H _ I h) fun xv s1 h1=>thn h1 fun itv s2 h2=>?_)
 refine b7p (RR:=fun acc C=>compPost (model X.prog X.w) X.A X.xe none (EP X pins σ Q) acc C) hc S ht he h2 fun D C H6 s7 m7 I8 hn7 f8 qn=>?_
 refine ⟨m7,hn7,fun h' hs'=>?_⟩
 obtain ⟨g0,g1,g2,g3,g4,g5⟩:=f8
 exact ⟨.ref D,H6,I8.turned (t':=s7.toks) (fun b o hb e=>(hs'.2 b hb).trans e) g0 g1 g3 g4 g5,rfl,qn⟩
theorem c2e {elt iter:Expr} {x y:Str} {N':List Str} {i:Nat} {px py:Pos} {ifs:List Expr} {scope:Scope} {pos spos:Pos} {wi:TI} {tt:TT} {te:TE} (hN:X.N.Nodup) (hiy:X.N[i]? = some y) (hy:Loc X.env.scope y) (hc:X.calm = true) (hi:PI X (.Name x px) iter wi) (S:b3b X scope x N')
  (ht:∀ C s H fp pn,PTs (a3o X scope x N' C s H fp pn) ifs tt) (he:∀ C s H fp pn,PE (a3o X scope x N' C s H fp pn) elt te)
  (hsw:swapsWith (.ListComp elt [⟨.Name x px,iter,ifs,0⟩] scope pos) (some (.Name y py)) spos.line X.env = pure true:=by rfl) (hs:∀ x,foldedSetIterable iter X.env x = pure x:=by intro _; rfl)
  (hf:X.fn y = true\/X.env.scope.names.lookup y = some .local:=by first | exact .inl rfl | exact .inr rfl | assumption) :
  PS X (.Assign [.Name y py] (.ListComp elt [⟨.Name x px,iter,ifs,0⟩] scope pos) spos) (tAsg (tComp wi tt te) (b5i i)):=by
 intro pins s σ H D I h
 have hcells:∀ y ∈ scope.names,y.2 = .free->∃ c,X.env.cells.lookup y.1 = some c:=fun y hy hk=>I.ok.has y.1 (S.free y hy hk)
 rw [exec_Assign_Name_used _ _ _ _ hsw]
 refine wpAny_bind (wpAny_standAt (wpAny_bind ?_))
 show wpAny _ X.A (do let _ <- comprehension (.ListComp elt [⟨.Name x px,iter,ifs,0⟩] scope pos) scope X.env _ (newList []) false (eval iter X.env) (some (assign (.Name y py) X.env))) _ _ s
 refine wpAny_bind (thn (wpAny_comprehension_free (use:=some (assign (.Name y py) X.env)) (Q:=fun _ s'=>SP X pins D .next s') rfl hs (b5u hcells) S.kind S.names
  (thn (hi pins s σ H _ I h) fun xv s1 h1=>thn h1 fun itv s2 h2=>?_)) fun _ s' hq=>wpAny_pure (wpAny_pure hq))
 refine b7p (RR:=fun acc C=>compPost (model X.prog X.w) X.A X.xe (some (assign (.Name y py) X.env)) (fun _ s'=>SP X pins D .next s') acc C) hc S ht he h2 fun L C H6 s7 m7 I8 hn7 f8 qn=>?_
 obtain ⟨g0,g1,g2,g3,g4,g5⟩:=f8
 show wpAny _ X.A (assign (.Name y py) X.env (.ref L)) _ _ _
 refine wpAny_assign_Name (b7g I8 hN hiy hy (v:=.ref L) (u:=.ref L) rfl (fun s8 I9 hch=>?_) hf)
 obtain ⟨a,hsb,ha⟩:=hch
 have hCa:C ≠ a:=by
  rcases ha with z | z
  ·rw [z]; exact g1
  ·exact fun w=>g4 _ _ z w.symm
 refine ⟨m7,hn7.sameBut hsb hCa,fun h' hs'=>?_⟩
 exact ⟨_,H6,I9.turned (t':=s8.toks) (fun b o hb e=>(hs'.2 b hb).trans e) g0 g1 g3 g4 g5,qn⟩
end
noncomputable def c5d (sc scope:Scope) (N N':List Str) (x:Str):Bool:=
 decide (scope.names.lookup x = some .local) && scope.names.all (fun y=>decide (y.2 ≠ .cell)) && decide (scope.kind = .function) && scope.names.all (fun y=>decide (y.2 = .local->scope.names.lookup y.1 = some .local)) &&
 scope.names.all (fun y=>decide (y.2 = .free->sc.names.lookup y.1 = some .cell\/sc.names.lookup y.1 = some .free)) && decide (x ∉ N') && decide N'.Nodup && decide (N'.length = N.length) &&
 (List.range N'.length).all (fun i=>match N'[i]? with | some y=>decide (N[i]? = some y\/scope.names.lookup y = none) | none=>true) && scope.names.all (fun y=>decide (y.2 = .local->y.1 = x\/y.1 ∉ N'))
theorem a8t {X:Cx} {scope:Scope} {x:Str} (sc:Scope) (N N':List Str) (hsc:X.env.scope = sc) (hN:X.N = N) (h:c5d sc scope N N' x = true):b3b X scope x N':=by
 subst hsc hN
 unfold c5d at h
 simp only [Bool.and_eq_true,List.all_eq_true,decide_eq_true_eq] at h
 obtain ⟨⟨⟨⟨⟨⟨⟨⟨⟨h1,h2⟩,h3⟩,h4⟩,h5⟩,h6⟩,h7⟩,h7'⟩,h8'⟩,h8⟩:=h
 refine ⟨h1,h2,h3,h4,h5,h6,h7,h7',fun i y e=>?_,h8⟩
 have hi:i < N'.length:=(List.getElem?_eq_some_iff.mp e).1
 have z:=h8' i (List.mem_range.mpr hi)
 rw [e] at z
 exact of_decide_eq_true z
noncomputable def Its (x:Str):It:=⟨fun i _=>i < x.cps.size,fun i H v H'=>H' = H/\∃ c,x.cps[i]? = some c/\v = .str ⟨#[c]⟩,fun i _=>x.cps.size = i⟩
theorem b9s {P:Program} {w:World} {K:W.Frag} {tg:Expr} {it:Addr} {x:Str} {t:Tok} {ty:String}
  (hty:["enumerate","zip","dict_itemiterator","dict_reverseitemiterator","odict_iterator","itertools.zip_longest","itertools.pairwise"].contains ty = false)
  (hW:∀ A':Around,A'.handled = none->Walks P w A' it [it] [it] x.cps.size (SignAt x) (fun i h=>h.IsStrIter it ty x t i))
  (hself:∀ (A:Around) (i:Nat) (s:Shared) (Q:Value->Shared->Prop) (E:Value->Shared->Prop),s.heap.IsStrIter it ty x t i->Q (.ref it) s->wpAny (model P w) A (pyIter (.ref it)) Q E s) :
  Turn P w K tg (Its x) [it] it (fun i h=>h.IsStrIter it ty x t i) where
 mem:=by simp
 obj:=fun i h st b hb=>by
  have e:b = it:=by simpa using hb
  subst e
  obtain ⟨o,e,c,d⟩:=st
  exact ⟨o,e,fun v z=>by rw [d] at z; cases z⟩
 keep:=fun i h h' st k=>by
  obtain ⟨o,e,r⟩:=st
  exact ⟨o,k it (by simp) o e,r⟩
 item:=by
  intro X hP hw hK hc i pins s σ H E I hf st hg
  subst hP hw hK
  obtain ⟨f0,f1,f2,f3,f4,f5⟩:=hf it (by simp)
  refine (hW X.A (I.ok.hd hc)).item i s _ _ hg st fun v h' tk hv st' kk=>?_
  obtain ⟨c,u,hx,rfl⟩:=hv
  have I1:Inv X pins σ H { s with heap:=h',toks:=tk }:=I.turned (fun b o hb e=>kk b o (by simpa using hb) e) f0 f1 f3 f4 f5
  obtain ⟨o,e,c',d⟩:=id st'
  exact ⟨_,rfl,b3r (s:={ s with heap:=h',toks:=tk }) e c' d hty ⟨.str ⟨#[c]⟩,H,I1,⟨u,rfl⟩,⟨rfl,c,hx,rfl⟩,st',fun b hb=>(hf b hb).1⟩⟩
 done:=by
  intro X hP hw hK hc i pins s σ H E I hf st hg
  subst hP hw hK
  obtain ⟨f0,f1,f2,f3,f4,f5⟩:=hf it (by simp)
  have hg:x.cps.size = i:=hg
  subst hg
  exact (hW X.A (I.ok.hd hc)).done s _ _ st fun h' tk kk=>⟨rfl,I.turned (fun b o hb e=>kk b o (by simpa using hb) e) f0 f1 f3 f4 f5⟩
 self:=hself
section
variable {X:Cx} {tg:Expr}
noncomputable def iStr (tl:TE):TI:=fun σ H R=>tl σ H fun v H1=>∃ x,v = .str x/\R (Its x) H1
theorem pi_str {l:Expr} {tl:TE} (hl:PE X l tl):PI X tg l (iStr tl):=by
 intro pins s σ H R I h
 refine thn (hl pins s σ H _ I h) fun v s1 ⟨z,H1,I1,r1,q1⟩=>?_
 obtain ⟨x,e,q⟩:=q1
 subst e
 obtain ⟨t,rfl⟩:=r1
 have fp:∀ b ∈ [s1.heap.objs.size],FpOk X pins H1 b:=fun b hb=>by
  have e:b = s1.heap.objs.size:=by simpa using hb
  subst e
  exact I1.fpOk (Nat.le_refl _) (I1.hok.fresh (Nat.le_refl _))
 cases ha:x.cps.all (· < 128)
 ·refine wpAny_pyIter_wide ha ?_
  exact ⟨s1.heap.objs.size,[s1.heap.objs.size],_,_,H1,rfl,I1.kept (t':=s1.toks) fun b o e=>Heap.get?_push_of_some _ e,b9s (ty:="str_iterator") (t:=t) (by decide) (fun A' hA=>Walks.strWide hA _ x t) (fun _ _ _ _ _ st hq=>wpAny_pyIter_striter_wide st hq),⟨_,Heap.get?_push_size _ rfl,rfl,rfl⟩,fp,q⟩
 ·refine wpAny_pyIter_ascii ha ?_
  exact ⟨s1.heap.objs.size,[s1.heap.objs.size],_,_,H1,rfl,I1.kept (t':=s1.toks) fun b o e=>Heap.get?_push_of_some _ e,b9s (ty:="str_ascii_iterator") (t:=t) (by decide) (fun A' hA=>Walks.strAscii hA _ x t) (fun _ _ _ _ _ st hq=>wpAny_pyIter_striter_ascii st hq),⟨_,Heap.get?_push_size _ rfl,rfl,rfl⟩,fp,q⟩
end
structure Row (J:It) (n:Nat) (vs:Nat->V) (Ok:Hp->Prop):Prop where
 go:∀ i H,i < n->Ok H->J.go i H
 yld:∀ i H v H',i < n->Ok H->J.yld i H v H'->H' = H/\v = vs i
 stop:∀ H,Ok H->J.stop n H
theorem a3p (lo:Int) (n:Nat):Row (Itr lo n) n (fun i=>.int (lo + i)) (fun _=>True):=⟨fun i H h _=>h,fun i H v H' _ _ h=>h,fun H _=>Nat.le_refl n⟩
theorem row_str (x:Str):Row (Its x) x.cps.size (fun i=>.str ⟨#[x.cps.getD i 0]⟩) (fun _=>True):=⟨fun i H h _=>h,fun i H v H' hi _ h=>by
 obtain ⟨e,c,hc,rfl⟩:=h
 refine ⟨e,?_⟩
 have:x.cps.getD i 0 = c:=by rw [Array.getD_eq_getD_getElem?,hc]; rfl
 rw [this],fun H _=>rfl⟩
theorem b4q {K:W.Frag} {a:Addr} {xs:List V}:Row (Itl K a) xs.length (fun i=>xs.getD i .non) (fun H=>SqL K H a xs):=⟨fun i H h q=>⟨xs,xs[i],q,by simp [h]⟩,fun i H v H' hi q h=>by
 obtain ⟨e,y⟩:=h
 refine ⟨e,?_⟩
 have:=y xs q
 rw [List.getD_eq_getElem?_getD,this]; rfl,fun H q=>⟨xs,q,Nat.le_refl _⟩⟩
theorem b6u {K:W.Frag} {a:Addr} {xs:List V}:Row (Itt K a) xs.length (fun i=>xs.getD i .non) (fun H=>SqT K H a xs):=⟨fun i H h q=>⟨xs,xs[i],q,by simp [h]⟩,fun i H v H' hi q h=>by
 obtain ⟨e,y⟩:=h
 refine ⟨e,?_⟩
 have:=y xs q
 rw [List.getD_eq_getElem?_getD,this]; rfl,fun H q=>⟨xs,q,Nat.le_refl _⟩⟩
noncomputable def ForW (J:It) (g:TG) (tb:TS) (D:Ends) (σ:St) (H:Hp):Prop:=∃ W:Nat->Nat->St->Hp->Prop,(∃ m,W 0 m σ H)/\∀ i m σ H,W i m σ H ->
   (J.stop i H/\D.nx σ H)\/(J.go i H/\∃ N:St->Hp->Prop,(∀ σ' H',N σ' H'->∃ m',m' < m/\W (i + 1) m' σ' H')/\∀ x H',J.yld i H x H'->g x σ H' fun σ2 H2=>tb { D with nx:=N,ct:=N,bk:=D.nx } σ2 H2)
theorem a4f {J:It} {n:Nat} {vs:Nat->V} {Ok:Hp->Prop} (R:Row J n vs Ok) {g:TG} {tb:TS} {D:Ends} {σ:St} {H:Hp} (Pv:Nat->St->Hp->Prop) (h0:Pv 0 σ H) (hok:∀ i σ H,Pv i σ H->Ok H)
  (hs:∀ i σ H,i < n->Pv i σ H->g (vs i) σ H fun σ2 H2=>tb { D with nx:=Pv (i + 1),ct:=Pv (i + 1),bk:=D.nx } σ2 H2) (hd:∀ σ H,Pv n σ H->D.nx σ H) :
  ForW J g tb D σ H:=by
 refine ⟨fun i m σ H=>m = n - i/\i<=n/\Pv i σ H,⟨n,by simp,Nat.zero_le _,h0⟩,?_⟩
 rintro i m σ H ⟨rfl,hi,p⟩
 by_cases hlt:i < n
 ·refine .inr ⟨R.go i H hlt (hok i σ H p),Pv (i + 1),fun σ' H' p'=>⟨n - (i + 1),by omega,rfl,hlt,p'⟩,fun x H' y=>?_⟩
  obtain ⟨e1,e2⟩:=R.yld i H x H' hlt (hok i σ H p) y
  subst e1 e2
  exact hs i σ _ hlt p
 ·have e:i = n:=by omega
  subst e
  exact .inl ⟨R.stop H (hok i σ H p),hd σ H p⟩
theorem a7h {J:It} {n:Nat} {vs:Nat->V} {Ok:Hp->Prop} (R:Row J n vs Ok) {te:TE} {Q:VK} {σ:St} {H1:Hp} {D:Addr} (Pv:Nat->List V->Hp->Prop) (hn:n<=sizeLine) (h0:Pv 0 [] (upd H1 D (.lst []))) (hok:∀ i ys H,Pv i ys H->Ok H)
  (hs:∀ i ys H (Q':VK),i < n->ys.length = i->Pv i ys H->(∀ y H4,H4 D = some (.lst ys)->Pv (i + 1) (ys ++ [y]) (upd H4 D (.lst (ys ++ [y])))->Q' y H4)->te (some (vs i) :: σ) H Q')
  (hd:∀ ys H,ys.length = n->Pv n ys H->Q (.ref D) H) :
  b8o J tYes te σ Q D H1:=by
 refine ⟨fun i m ys H=>m = n - i/\i<=n/\ys.length = i/\Pv i ys H,⟨n,by simp,Nat.zero_le _,rfl,h0⟩,?_⟩
 rintro i m ys H ⟨rfl,hi,hl,p⟩
 by_cases hlt:i < n
 ·refine .inr ⟨R.go i H hlt (hok i ys H p),fun v H2 y=>?_⟩
  obtain ⟨e1,e2⟩:=R.yld i H v H2 hlt (hok i ys H p) y
  subst e1 e2
  exact hs i ys _ _ hlt hl p fun v H4 q1 q2=>⟨q1,by omega,n - (i + 1),by omega,rfl,hlt,by simp [hl],q2⟩
 ·have e:i = n:=by omega
  subst e
  exact .inl ⟨R.stop H (hok _ ys H p),hd ys H hl p⟩
noncomputable def mVar (i:Nat):TE:=fun σ H Q=>match σ[i]? with | some (some v)=>Q v H | _=>False
noncomputable def mB (Q:Bool->Hp->Prop):VK:=fun z H'=>match z with | .bl k=>Q k H' | _=>False
theorem b8p (Q:Bool->Hp->Prop):mB Q = fun z H'=>∃ k,z = .bl k/\Q k H':=by
 funext z H'
 cases z <;> simp [mB]
section
variable {X:Cx} {a b c e:Expr} {ta tb tc te:TE} {pos:Pos}
theorem mv (i:Nat) {x:Str} {pos:Pos} (hN:X.N[i]? = some x:=by rfl) (hv:Vis X.env.scope x:=by first | exact Or.inl rfl | exact Or.inr (Or.inl rfl) | exact Or.inr (Or.inr rfl)) (hd:(x == ("__debug__" : Str)) = false:=by decide)
  (hcd:(x == ("__classdict__" : Str)) = false:=by decide):PE X (.Name x pos) (mVar i):=by
 intro pins s σ H Q I h
 refine pe_var hN hv hd hcd pins s σ H Q I ?_
 unfold mVar at h
 split at h
 ·rename_i v q; exact ⟨v,q,h⟩
 ·exact h.elim
noncomputable def m2 (C:Int->Int->Prop) (g:Int->Int->V):R2:=fun x y H Q=>match x,y with
 | .int i,.int j=>C i j/\Q (g i j) H
 | _,_=>False
noncomputable def m20 (g:Int->Int->V):R2:=fun x y H Q=>match x,y with
 | .int i,.int j=>Q (g i j) H
 | _,_=>False
theorem b8q {C:Int->Int->Prop} {g:Int->Int->V} {x y:V} {H:Hp} {Q:VK} (h:m2 C g x y H Q):rI C g x y H Q:=by
 cases x <;> cases y <;> first | exact (show False from h).elim | exact ⟨_,_,rfl,rfl,h⟩
theorem b3c {g:Int->Int->V} {x y:V} {H:Hp} {Q:VK} (h:m20 g x y H Q):rI0 g x y H Q:=by
 cases x <;> cases y <;> first | exact (show False from h).elim | exact ⟨_,_,rfl,rfl,h⟩
theorem OpR.imp {f:Value->Value->Sem Value} {r r':R2} (h:OpR X f r) (k:∀ x y H Q,r' x y H Q->r x y H Q):OpR X f r':=fun pins s σ H x y v u Q I rx ry q=>h pins s σ H x y v u Q I rx ry (k x y H Q q)
noncomputable def mAdd (K:W.Frag):R2:=fun x y H Q=>match x,y with
 | .int i,.int j=>Q (.int (i + j)) H
 | .str i,.str j=>i.length + j.length<=sizeLine/\Q (.str (i ++ j)) H
 | .ref p,.ref q=>(∃ xs ys,H p = some (.lst xs)/\H q = some (.lst ys)/\xs.length + ys.length<=sizeLine/\∀ d,H d = none->Q (.ref d) (upd H d (.lst (xs ++ ys)))) \/
   ∃ xs ys,SqT K H p xs/\SqT K H q ys/\xs ≠ []/\xs.length + ys.length<=sizeLine/\(ys = []->Q (.ref p) H)/\(ys ≠ []->∀ d,H d = none->Q (.ref d) (upd H d (.tup (xs ++ ys))))
 | _,_=>False
theorem mo_add:OpR X (binaryOp .Add) (mAdd X.K):=by
 refine (op_add.or (c2y.or (op_cat.or op_catT))).imp fun x y H Q h=>?_
 cases x <;> cases y <;> first
  | exact (show False from h).elim
  | exact .inl ⟨_,_,rfl,rfl,h⟩
  | exact .inr (.inl ⟨_,_,rfl,rfl,h⟩)
  | (rcases h with ⟨xs,ys,h1,h2,h3,h4⟩ | ⟨xs,ys,h1,h2,h3,h4,h5⟩
     ·exact .inr (.inr (.inl ⟨_,_,xs,ys,rfl,rfl,h1,h2,h3,h4⟩))
     ·exact .inr (.inr (.inr ⟨_,_,xs,ys,rfl,rfl,h1,h2,h3,h4,h5⟩)))
theorem a5p:OpR X (binaryOp .Sub) (m20 fun i j=>.int (i - j)):=op_sub.imp fun _ _ _ _ h=>b3c h
noncomputable def mMul:R2:=fun x y H Q=>match x,y with
 | .int i,.int j=>IntMulOk i j/\Q (.int (i * j)) H
 | .ref l,.int k=>∃ xs,H l = some (.lst xs)/\-(2 ^ 63)<=k/\k < 2 ^ 63/\xs.length * k.toNat<=sizeLine/\∀ p,H p = none->Q (.ref p) (upd H p (.lst (List.replicate k.toNat xs).flatten))
 | _,_=>False
theorem op_mulW:OpR X (binaryOp .Mult) (rI (fun i j=>IntMulOk i j) fun i j=>.int (i * j)):=opI fun _ _ _ _ _ _ _ hc q=>mul_int q hc
theorem a6y:OpR X (binaryOp .Mult) mMul:=by
 refine (op_mulW.or op_rep).imp fun x y H Q h=>?_
 cases x <;> cases y <;> first
  | exact (show False from h).elim
  | exact .inl ⟨_,_,rfl,rfl,h⟩
  | (obtain ⟨xs,h1,h2,h3,h4,h5⟩:=h; exact .inr ⟨_,_,xs,rfl,rfl,h1,h2,h3,h4,h5⟩)
theorem a2q:OpR X (binaryOp .FloorDiv) (m2 CDiv fun i j=>.int (i / j)):=op_fdiv.imp fun _ _ _ _ h=>b8q h
theorem a1l:OpR X (binaryOp .Mod) (m2 (fun _ j=>0 < j) fun i j=>.int (i % j)):=op_mod.imp fun _ _ _ _ h=>b8q h
theorem c5e:OpR X (binaryOp .Pow) (m2 CPow fun i j=>.int (i ^ j.toNat)):=op_pow.imp fun _ _ _ _ h=>b8q h
theorem a8z:OpR X (compareOp .Lt) (m20 fun i j=>.bl (decide (i < j))):=op_lt.imp fun _ _ _ _ h=>b3c h
theorem b8r:OpR X (compareOp .LtE) (m20 fun i j=>.bl (decide (i<=j))):=op_le.imp fun _ _ _ _ h=>b3c h
theorem b8s:OpR X (compareOp .Gt) (m20 fun i j=>.bl (decide (j < i))):=op_gt.imp fun _ _ _ _ h=>b3c h
theorem mo_ge:OpR X (compareOp .GtE) (m20 fun i j=>.bl (decide (j<=i))):=op_ge.imp fun _ _ _ _ h=>b3c h
noncomputable def mEq (n:Bool):R2:=fun x y H Q=>match x,y with
 | .int i,.int j=>Q (.bl (n ^^ decide (i = j))) H
 | .str i,.str j=>Q (.bl (n ^^ decide (i = j))) H
 | .bl i,.bl j=>Q (.bl (n ^^ decide (i = j))) H
 | .non,.non=>Q (.bl (n ^^ true)) H
 | .non,.int _=>Q (.bl n) H
 | .non,.str _=>Q (.bl n) H
 | .non,.bl _=>Q (.bl n) H
 | .int _,.non=>Q (.bl n) H
 | .str _,.non=>Q (.bl n) H
 | .bl _,.non=>Q (.bl n) H
 | .int _,.str _=>Q (.bl n) H
 | .str _,.int _=>Q (.bl n) H
 | .bl _,.str _=>Q (.bl n) H
 | .str _,.bl _=>Q (.bl n) H
 | _,_=>False
theorem a1h:OpR X (compareOp .Eq) (mEq false):=by
 refine op_eq.imp fun x y H Q h=>?_
 cases x <;> cases y <;> first
  | exact (show False from h).elim
  | exact ⟨rfl,by simpa [mEq] using h⟩
theorem a9r:OpR X (compareOp .NotEq) (mEq true):=by
 refine op_ne.imp fun x y H Q h=>?_
 cases x <;> cases y <;> first
  | exact (show False from h).elim
  | exact ⟨rfl,by simpa [mEq] using h⟩
noncomputable def b8t (t:TE):TT:=fun σ H Q=>t σ H (mB Q)
theorem b9t (t:TE):b8t t = tTest t:=by
 funext σ H Q
 show t σ H (mB Q) = t σ H _
 rw [b8p]
theorem a0q {op:CmpOp} {r:R2} (ho:OpR X (compareOp op) r) (ha:PE X a ta) (hb:PE X b tb) (hm:behindInMarks op b = false):PT X (.Compare a [op] [b] pos) (b8t (tOp r ta tb)):=by
 rw [b9t]; exact pt_cmpR ho ha hb hm
noncomputable def b5v (r r':R2) (ta tb tc:TE):TE:=fun σ H Q=>ta σ H fun x H1=>tb σ H1 fun y H2=>r x y H2 (mB fun k H3=>if k = true then tc σ H3 fun w' H4=>r' y w' H4 Q else Q (.bl false) H3)
theorem c5f (r r':R2) (ta tb tc:TE):b5v r r' ta tb tc = b9h r r' ta tb tc:=by
 funext σ H Q
 unfold b5v b9h
 simp only [b8p]
theorem b9u {op op':CmpOp} {r r':R2} (ho:OpR X (compareOp op) r) (ho':OpR X (compareOp op') r') (ha:PE X a ta) (hb:PE X b tb) (hc:PE X c tc)
  (hm:lastMarks [op,op'] [b,c] = false:=by with_unfolding_all rfl):PT X (.Compare a [op,op'] [b,c] pos) (b8t (b5v r r' ta tb tc)):=by
 rw [b9t,c5f]; exact c7r ho ho' ha hb hc hm
noncomputable def mTru (K:W.Frag) (Q:Bool->Hp->Prop):VK:=fun x H=>match x with
 | .non=>Q false H
 | .bl b=>Q b H
 | .int i=>Q (decide (i ≠ 0)) H
 | .str y=>y.length<=sizeLine/\Q (decide (y.length ≠ 0)) H
 | .ref p=>(∃ xs,SqL K H p xs/\Q (!xs.isEmpty) H)\/(∃ xs,SqT K H p xs/\Q (!xs.isEmpty) H)\/∃ kvs,H p = some (.dK kvs)/\Q (!kvs.isEmpty) H
 | _=>False
theorem c2f {K:W.Frag} {Q:Bool->Hp->Prop} {x:V} {H:Hp} (h:mTru K Q x H):∃ k,TruV K x H k/\Q k H:=by
 cases x with
 | non=>exact ⟨_,rfl,h⟩
 | bl b=>exact ⟨_,rfl,h⟩
 | int i=>
  have h:Q (decide (i ≠ 0)) H:=h
  refine ⟨i != 0,rfl,?_⟩
  have e:(i != 0) = decide (i ≠ 0):=by
   rw [Bool.eq_iff_iff]; simp
  rw [e]; exact h
 | str y=>
  obtain ⟨h1,h⟩:y.length<=sizeLine/\Q (decide (y.length ≠ 0)) H:=h
  refine ⟨((y.length:Int) != 0),⟨h1,rfl⟩,?_⟩
  have e:((y.length:Int) != 0) = decide (y.length ≠ 0):=by
   rw [Bool.eq_iff_iff]; simp
  rw [e]; exact h
 | ref p=>
  rcases h with ⟨xs,h1,h2⟩ | ⟨xs,h1,h2⟩ | ⟨xs,h1,h2⟩
  ·exact ⟨_,.inl ⟨xs,h1,rfl⟩,h2⟩
  ·exact ⟨_,.inr (.inl ⟨xs,h1,rfl⟩),h2⟩
  ·exact ⟨_,.inr (.inr ⟨xs,h1,rfl⟩),h2⟩
 | _=>exact (show False from h).elim
noncomputable def mTrue (K:W.Frag) (ta:TE):TT:=fun σ H Q=>ta σ H (mTru K Q)
theorem mt_tru (ha:PE X a ta) (he:∀ whole,isTrue a X.env whole = (do let v <- whole; standAt a.pos; holding [v] (truthy v)):=by intro _; rfl):PT X a (mTrue X.K ta):=by
 intro pins s σ H Q I h
 exact isTrue_plain (thn (ha pins s σ H _ I h) fun v s1 ⟨x,H1,I1,r1,q1⟩=>c4l pins s1 σ H1 x v Q I1 r1 (c2f q1)) (he _)
noncomputable def b8u (ta tb:TE):TE:=fun σ H Q=>ta σ H (mB fun c H1=>if c = true then tb σ H1 Q else Q (.bl false) H1)
noncomputable def mOrV (ta tb:TE):TE:=fun σ H Q=>ta σ H (mB fun c H1=>if c = true then Q (.bl true) H1 else tb σ H1 Q)
variable {rest:List Expr}
theorem a6c (ha:PE X a ta) (hb:PE X (.BoolOp .And (b :: rest) pos) tb):PE X (.BoolOp .And (a :: b :: rest) pos) (b8u ta tb):=by
 have e:b8u ta tb = tAndV ta tb:=by funext σ H Q; unfold b8u tAndV; rw [b8p]
 rw [e]; exact pe_and ha hb
theorem b8v (ha:PE X a ta) (hb:PE X (.BoolOp .Or (b :: rest) pos) tb):PE X (.BoolOp .Or (a :: b :: rest) pos) (mOrV ta tb):=by
 have e:mOrV ta tb = tOrV ta tb:=by funext σ H Q; unfold mOrV tOrV; rw [b8p]
 rw [e]; exact pe_or ha hb
noncomputable def mIx (K:W.Frag):R2:=fun x y H Q=>match x,y with
 | .ref p,.int i=>(∃ xs v,SqL K H p xs/\atI xs i = some v/\Q v H)\/∃ xs v,SqT K H p xs/\atI xs i = some v/\Q v H
 | .str z,.int i=>z.length<=sizeLine/\∃ c,atI z.cps.toList i = some c/\Q (.str ⟨#[c]⟩) H
 | _,_=>False
theorem mi_seq:IxR X (mIx X.K):=by
 intro value slice pins s σ H x y v u Q I rx ry h hs
 refine ix_seq value slice pins s σ H x y v u Q I rx ry ?_ hs
 cases x <;> cases y <;> first
  | exact (show False from h).elim
  | (rcases h with ⟨xs,v,h1,h2,h3⟩ | ⟨xs,v,h1,h2,h3⟩
     ·exact .inl ⟨_,xs,_,v,rfl,rfl,h1,h2,h3⟩
     ·exact .inr (.inl ⟨_,xs,_,v,rfl,rfl,h1,h2,h3⟩))
  | (obtain ⟨h1,c,h2,h3⟩:=h; exact .inr (.inr ⟨_,_,c,rfl,rfl,h1,h2,h3⟩))
noncomputable def inS (i j:Str):Bool:=!(Builtin.Str.occurrences j i 0 j.length 1).isEmpty
noncomputable def mInS (n:Bool):R2:=fun x y H Q=>match x,y with
 | .str i,.str j=>Q (.bl (n ^^ inS i j)) H
 | _,_=>False
theorem b5w:OpR X (compareOp .In) (mInS false):=c4k.imp fun x y H Q h=>by
 cases x <;> cases y <;> first | exact (show False from h).elim | exact ⟨_,_,rfl,rfl,by simpa [mInS,inS] using h⟩
noncomputable def mI (R:Option Int->Hp->Prop):VK:=fun x H1=>match x with | .int i=>R (some i) H1 | _=>False
noncomputable def b8w (t:TE):TO:=fun σ H Q=>t σ H (mI Q)
theorem a7w (h:PE X e te):PO X (some e) (b8w te):=by
 have q:b8w te = tPart te:=by
  funext σ H Q
  unfold b8w tPart
  congr 1
  funext x H1
  cases x <;> simp [mI]
 rw [q]; exact po_some h
noncomputable def mLen (K:W.Frag):List V->Hp->VK->Prop:=fun vs H Q=>match vs with
 | [.str y]=>y.length<=sizeLine/\Q (.int y.length) H
 | [.ref p]=>(∃ xs,SqL K H p xs/\Q (.int xs.length) H)\/∃ xs,SqT K H p xs/\Q (.int xs.length) H
 | _=>False
theorem mc_len:a3s X (.builtin "len") (mLen X.K):=by
 intro pins s σ H xs us Q I r h
 refine c7s pins s σ H xs us Q I r ?_
 unfold mLen at h
 split at h
 ·exact ⟨_,_,rfl,⟨h.1,rfl⟩,h.2⟩
 ·rcases h with ⟨ys,h1,h2⟩ | ⟨ys,h1,h2⟩
  ·exact ⟨_,_,rfl,.inl ⟨ys,h1,rfl⟩,h2⟩
  ·exact ⟨_,_,rfl,.inr ⟨ys,h1,rfl⟩,h2⟩
 ·exact h.elim
theorem b2f (K:W.Frag) (t:Value):W.kitOne K t t = some true:=by
 unfold W.kitOne
 rw [if_pos (by simp)]
theorem c2g:∀ {bs:List Bool} {us:List Value},Vals (bs.map V.bl) us->us = bs.map Value.bool
 | [],_,.nil=>rfl
 | b :: bs,_,.cons r t=>by
  have r:_ = Value.bool b:=r
  rw [List.map_cons,r,c2g t]
theorem all_range (bs:List Bool):((List.range bs.length).all fun i=>bs.getD i true) = bs.all id:=by
 rw [Bool.eq_iff_iff,List.all_eq_true,List.all_eq_true]
 constructor
 ·intro h x hx
  obtain ⟨i,hi,e⟩:=List.getElem_of_mem hx
  have:=h i (List.mem_range.mpr hi)
  rw [List.getD_eq_getElem?_getD,List.getElem?_eq_getElem hi] at this
  simpa [e] using this
 ·intro h i hi
  have hi:=List.mem_range.mp hi
  rw [List.getD_eq_getElem?_getD,List.getElem?_eq_getElem hi]
  exact h _ (List.getElem_mem hi)
noncomputable def mAll (K:W.Frag) (f:List Bool->Bool):List V->Hp->VK->Prop:=fun vs H Q=>match vs with
 | [.ref p]=>∃ bs:List Bool,SqL K H p (bs.map V.bl)/\Q (.bl (f bs)) H
 | _=>False
theorem c5g {pins:List (Addr × Obj)} {s:Shared} {σ:St} {H:Hp} {p:Addr} {bs:List Bool} {Q:VK} (hc:X.calm = true) (I:Inv X pins σ H s) (hs:SqL X.K H p (bs.map V.bl)) (f:(Nat->Bool)->Nat->Bool) (q:Q (.bl (f (fun i=>bs.getD i true) bs.length)) H) {E:Value->Shared->Prop} :
  wpAny (model X.prog X.w) X.A.in1 (pyIter (.ref p)) (fun it s2=>∃ J fp wr n P St tr,it = .ref J/\Walks X.prog X.w X.A.in1 J fp wr n P St/\St 0 s2.heap/\TruthOf X.prog X.w X.A.in1 P tr /\
   ∀ h' tk,(∀ b o,b ∉ wr->s2.heap.get? b = some o->h'.get? b = some o)->EP X pins σ Q (.bool (f tr n)) { s2 with heap:=h',toks:=tk }) E s:=by
 obtain ⟨its,r,pl,hz⟩:=I.list hs
 have e:=c2g r
 subst e
 have hl:p < s.heap.objs.size:=by
  obtain ⟨o,n,h1,_⟩:=pl
  exact Heap.lt_size h1
 refine wpAny_pyIter_list pl.isList ?_
 refine ⟨s.heap.objs.size,[s.heap.objs.size,p],[s.heap.objs.size],(bs.map Value.bool).toArray.size,_,_,fun i=>bs.getD i true,rfl,Walks.list (A:=X.A.in1) (show X.A.in1.handled = none from I.ok.hd hc) s.heap.objs.size p (Nat.ne_of_lt hl) (bs.map Value.bool).toArray,
  ⟨⟨_,Heap.get?_push_size _ rfl,rfl,rfl⟩,pl.isList.at fun o e=>Heap.get?_push_of_some _ e⟩,fun i v s' Q' E' hv hq=>?_,fun h' tk hk=>?_⟩
 ·have hv:(bs.map Value.bool).toArray[i]? = some v:=hv
  rw [List.getElem?_toArray,List.getElem?_map] at hv
  cases e:bs[i]? with
  | none=>rw [e] at hv; cases hv
  | some b=>
   rw [e] at hv
   have hv:Value.bool b = v:=Option.some.inj hv
   subst hv
   have hq:Q' (bs.getD i true) s':=hq
   rw [List.getD_eq_getElem?_getD,e] at hq
   exact wpAny_truthy_bool hq
 ·refine ⟨.bl _,H,I.kept (fun b o e=>hk b o ?_ (Heap.get?_push_of_some _ e)),rfl,by simpa using q⟩
  intro z
  have z:b = s.heap.objs.size:=by simpa using z
  exact absurd (Heap.lt_size e) (by rw [z]; exact Nat.lt_irrefl _)
theorem mc_all (hc:X.calm = true):a3s X (.builtin "all") (mAll X.K fun bs=>bs.all id):=by
 intro pins s σ H xs us Q I r h
 unfold mAll at h
 split at h
 ·obtain ⟨u,rfl,r1⟩:=vals1 r
  cases r1
  obtain ⟨bs,hs,q⟩:=h
  exact call_all_walk (c5g hc I hs (fun tr n=>(List.range n).all tr) (by rw [all_range]; exact q))
 ·exact h.elim
end
section
variable {X:Cx} {a b c e:Expr} {ta tb tc te:TE} {pos:Pos}
noncomputable def mNotV (K:W.Frag) (ta:TE):TE:=fun σ H Q=>ta σ H (mTru K fun b H'=>Q (.bl (!b)) H')
theorem me_not (ha:PE X a ta):PE X (.UnaryOp .Not a pos) (mNotV X.K ta):=by
 intro pins s σ H Q I h
 refine UnaryOp_ (thn (ha pins s σ H _ I h) fun v s1 ⟨x,H1,I1,r1,q1⟩=>?_)
 exact not_of (thn (c4l pins s1 σ H1 x v _ I1 r1 (c2f q1)) fun b s2 ⟨H2,I2,q2⟩=>⟨.bl (!b),H2,I2,rfl,q2⟩)
noncomputable def b6v:V->List V->Hp->VK->Prop:=fun x vs H Q=>match x,vs with
 | .ref l,[y]=>∃ xs,H l = some (.lst xs)/\xs.length < sizeLine/\Q .non (upd H l (.lst (xs ++ [y])))
 | _,_=>False
theorem a7x:MtR X "list.append" b6v:=by
 intro pins s σ H x xs v us Q I rx rs h
 refine b7n pins s σ H x xs v us Q I rx rs ?_
 unfold b6v at h
 split at h
 ·obtain ⟨ys,h1,h2,h3⟩:=h
  exact ⟨_,ys,_,rfl,rfl,h1,h2,h3⟩
 ·exact h.elim
noncomputable def mPop:V->List V->Hp->VK->Prop:=fun x vs H Q=>match x,vs with
 | .ref l,[]=>∃ xs y,H l = some (.lst (xs ++ [y]))/\Q y (upd H l (.lst xs))
 | _,_=>False
theorem b9v:MtR X "list.pop" mPop:=by
 intro pins s σ H x xs v us Q I rx rs h
 refine mt_pop pins s σ H x xs v us Q I rx rs ?_
 unfold mPop at h
 split at h
 ·obtain ⟨ys,y,h1,h2⟩:=h
  exact ⟨_,_,y,rfl,rfl,h1,by simp,by rw [List.dropLast_concat]; exact h2⟩
 ·exact h.elim
noncomputable def mUn (g:Int->Int):V->Hp->VK->Prop:=fun x H Q=>match x with | .int i=>Q (.int (g i)) H | _=>False
theorem b5x:UnR X (unaryOp .USub) (mUn fun i=>-i):=by
 intro pins s σ H x v Q I rx h
 refine un_neg pins s σ H x v Q I rx ?_
 cases x <;> first | exact (show False from h).elim | exact ⟨_,rfl,h⟩
end
section
variable {X:Cx}
theorem a6r {x:Str} {z:Str} {tk:Tok} {pos:Pos} (hg:Gl X x) (hm:X.mg x = some (.str z tk)) (hd:(x == ("__debug__" : Str)) = false:=by decide):PE X (.Name x pos) (tC (.str z)):=b6s hg hm ⟨tk,rfl⟩ hd
theorem pe_gint {x:Str} {z:Int} {tk:Tok} {pos:Pos} (hg:Gl X x) (hm:X.mg x = some (.int z tk)) (hd:(x == ("__debug__" : Str)) = false:=by decide):PE X (.Name x pos) (tC (.int z)):=b6s hg hm ⟨tk,rfl⟩ hd
end
section
variable {X:Cx} {a b c e o:Expr} {es:List Expr} {ta tb tc te to:TE} {t:TA} {pos:Pos} {tg l:Expr} {tl:TE}
theorem a9e {x:Str} {n:String} {pos:Pos} (hg:Gl X x) (hm:X.mg x = none) (hv:bootBuiltins x = some (.type n)) (hn:x ≠ "__name__":=by decide) (hd:(x == ("__debug__" : Str)) = false:=by decide):PE X (.Name x pos) (tC (.ty n)):=pe_bltn hg hm hv rfl hn hd
theorem a1d (K:W.Frag) (h:X.K = K):OpR X (binaryOp .Add) (mAdd K):=h ▸ mo_add
theorem a2j (K:W.Frag) (h:X.K = K) (ha:PE X a ta) (he:∀ whole,isTrue a X.env whole = (do let v <- whole; standAt a.pos; holding [v] (truthy v)):=by intro _; rfl):PT X a (mTrue K ta):=h ▸ mt_tru ha he
theorem c5h (K:W.Frag) (h:X.K = K) (ha:PE X a ta):PE X (.UnaryOp .Not a pos) (mNotV K ta):=h ▸ me_not ha
theorem a0h (K:W.Frag) (h:X.K = K):IxR X (mIx K):=h ▸ mi_seq
theorem a1r (K:W.Frag) (h:X.K = K):a3s X (.builtin "len") (mLen K):=h ▸ mc_len
theorem kc_all (K:W.Frag) (h:X.K = K) (hc:X.calm = true):a3s X (.builtin "all") (mAll K fun bs=>bs.all id):=h ▸ mc_all hc
theorem c8b (K:W.Frag) (h:X.K = K) (hl:PE X l tl):PI X tg l (iList K tl):=h ▸ pi_list hl
theorem c2h (K:W.Frag) (h:X.K = K) (hl:PE X l tl):PI X tg l (iTup K tl):=h ▸ pi_tup hl
theorem b3d (K:W.Frag) (h:X.K = K) {name:Str} {apos cpos:Pos} {T id:String} {r:V->List V->Hp->VK->Prop} (pa:PlainAttrs T) (slot:Slot T name id) (hty:typeOf (.builtin id) = pure (.type "method_descriptor")) (hm:MtR X id r) (ho:PE X o to)
  (hbase:attributeBase o name X.env (eval o X.env) = eval o X.env:=by rfl) (hline:(apos.endLine == cpos.line) = true:=by rfl):PE X (.Call (.Attribute o name apos) [] [] cpos) (tBM0 K T r to):=h ▸ pe_bm0 pa slot hty hm ho hbase hline
theorem a9s (K:W.Frag) (h:X.K = K) {name:Str} {apos cpos:Pos} {T id:String} {r:V->List V->Hp->VK->Prop} (pa:PlainAttrs T) (slot:Slot T name id) (hty:typeOf (.builtin id) = pure (.type "method_descriptor")) (hm:MtR X id r) (ho:PE X o to) (ha:PA X (e :: es) t)
  (hbase:attributeBase o name X.env (eval o X.env) = eval o X.env:=by rfl)
  (hfew:((backTo cpos (starEach (e :: es) X.env)).all (fun x=>!x.1) && (backToKw cpos (keywordEach [] X.env)).all (fun x=>x.1.isSome)
   && decide ((e :: es).length + ([]:List Keyword).length + (if ([]:List Keyword).isEmpty then 0 else 1) < 30)) = true:=by rfl)
  (hline:(apos.endLine == cpos.line) = true:=by rfl) (hs:starEach (e :: es) X.env = (false,eval e X.env) :: starEach es X.env:=by rfl) (hplain:(backTo cpos (starEach es X.env)).any (·.1) = false:=by rfl) :
  PE X (.Call (.Attribute o name apos) (e :: es) [] cpos) (tBM K T r to t):=h ▸ pe_bm pa slot hty hm ho ha hbase hfew hline hs hplain
end
theorem b6w (c:Nat) (j:Str):inS ⟨#[c]⟩ j = decide (c ∈ j.cps.toList):=PySem.StrLaws.found_one j c
theorem a6d {α:Type} {xs:List α} {i:Int} (h0:0<=i) (h1:i < (xs.length:Int)):∃ v,atI xs i = some v/\xs[i.toNat]? = some v:=by
 have hk:i.toNat < xs.length:=by omega
 have ek:i = ((i.toNat:Nat):Int):=by omega
 have q:xs[i.toNat]? = some xs[i.toNat]:=List.getElem?_eq_getElem hk
 refine ⟨xs[i.toNat],?_,q⟩
 have:=b1j q
 rw [<- ek] at this
 exact this
theorem a0f {H:Hp} {p:Addr} (h:H p = none) (o:HO):Same H (upd H p o):=fun b u q=>by rw [a0n (a2n q h)]; exact q
theorem a2k {H H':Hp} {p:Addr} {o:HO} (e:Same H H') (h:H p = none):Same H (upd H' p o):=fun b u q=>by rw [a0n (a2n q h)]; exact e b u q
theorem Same.tup {K:W.Frag} {H H':Hp} {a:Addr} {xs:List V} (e:Same H H') (h:SqT K H a xs):SqT K H' a xs:=by
 rcases h with (h | ⟨o,h⟩) | h
 ·exact .inl (.inl (e _ _ h))
 ·exact .inl (.inr ⟨o,e _ _ h⟩)
 ·exact .inr h
theorem b5y {i j:Int} (h1:0 < j) (h2:j < 1073741824):CDiv i j:=⟨h1,h2⟩
theorem a4d {i j:Int} (h:-(2 ^ 64) < j/\j < 2 ^ 64):IntMulOk i j:=CMul.ok (.inr h)
theorem b2g {i j:Int} (h:-(2 ^ 64) < i/\i < 2 ^ 64):IntMulOk i j:=CMul.ok (.inl h)
section
variable {K:W.Frag} {σ:St} {H:Hp} {Q:VK} {D:Ends} {ta tb tc te:TE} {t u:TS} {A B:TT} {P:Bool->Hp->Prop} {v x y:V} {i j:Int} {n:Nat} {b:Bool} {p q:Str}
theorem b9w (h:σ[n]? = some (some v)) (k:Q v H):mVar n σ H Q:=by unfold mVar; rw [h]; exact k
theorem tC_i (k:Q v H):tC v σ H Q:=k
theorem tOp_i {r:R2} (k:ta σ H fun x H1=>tb σ H1 fun y H2=>r x y H2 Q):tOp r ta tb σ H Q:=k
theorem tUn_i {r:V->Hp->VK->Prop} (k:ta σ H fun x H1=>r x H1 Q):tUn r ta σ H Q:=k
theorem mUn_i {g:Int->Int} (k:Q (.int (g i)) H):mUn g (.int i) H Q:=k
theorem m20_i {g:Int->Int->V} (k:Q (g i j) H):m20 g (.int i) (.int j) H Q:=k
theorem m2_i {C:Int->Int->Prop} {g:Int->Int->V} (c:C i j) (k:Q (g i j) H):m2 C g (.int i) (.int j) H Q:=⟨c,k⟩
theorem mAdd_i (k:Q (.int (i + j)) H):mAdd K (.int i) (.int j) H Q:=k
theorem a8e (c:p.length + q.length<=sizeLine) (k:Q (.str (p ++ q)) H):mAdd K (.str p) (.str q) H Q:=⟨c,k⟩
theorem a6e (c:IntMulOk i j) (k:Q (.int (i * j)) H):mMul (.int i) (.int j) H Q:=⟨c,k⟩
theorem mEq_i (k:Q (.bl (b ^^ decide (i = j))) H):mEq b (.int i) (.int j) H Q:=k
theorem mEq_s (k:Q (.bl (b ^^ decide (p = q))) H):mEq b (.str p) (.str q) H Q:=k
theorem mEq_b {c d:Bool} (k:Q (.bl (b ^^ decide (c = d))) H):mEq b (.bl c) (.bl d) H Q:=k
theorem mInS_i (k:Q (.bl (b ^^ inS p q)) H):mInS b (.str p) (.str q) H Q:=k
theorem mB_i (k:P b H):mB P (.bl b) H:=k
theorem mTest_i (k:ta σ H (mB P)):b8t ta σ H P:=k
theorem mTrue_i (k:ta σ H (mTru K P)):mTrue K ta σ H P:=k
theorem mTru_b (k:P b H):mTru K P (.bl b) H:=k
theorem c8c {r r':R2} (k:ta σ H fun x H1=>tb σ H1 fun y H2=>r x y H2 (mB fun k H3=>if k = true then tc σ H3 fun w' H4=>r' y w' H4 Q else Q (.bl false) H3)):b5v r r' ta tb tc σ H Q:=k
theorem mAndV_i (k:ta σ H (mB fun c H1=>if c = true then tb σ H1 Q else Q (.bl false) H1)):b8u ta tb σ H Q:=k
theorem mOrV_i (k:ta σ H (mB fun c H1=>if c = true then Q (.bl true) H1 else tb σ H1 Q)):mOrV ta tb σ H Q:=k
theorem mNotV_i (k:ta σ H (mTru K fun b H'=>Q (.bl (!b)) H')):mNotV K ta σ H Q:=k
theorem tIf_i (k:A σ H fun c H1=>if c = true then ta σ H1 Q else tb σ H1 Q):tIf A ta tb σ H Q:=k
theorem tAnd_i (k:A σ H fun c H1=>if c = true then B σ H1 P else P false H1):tAnd A B σ H P:=k
theorem tOr_i (k:A σ H fun c H1=>if c = true then P true H1 else B σ H1 P):tOr A B σ H P:=k
theorem tNot_i (k:A σ H fun c H1=>P (!c) H1):tNot A σ H P:=k
theorem c5i (k:t { D with nx:=u D } σ H):tSeq t u D σ H:=k
theorem b3v (k:D.nx σ H):tNext D σ H:=k
theorem tRet_i (k:te σ H D.rt):tRet te D σ H:=k
theorem tIfS_i (k:A σ H fun b H1=>if b = true then t D σ H1 else u D σ H1):tIfS A t u D σ H:=k
theorem tAsg_i {g:TG} (k:te σ H fun x H1=>g x σ H1 D.nx):tAsg te g D σ H:=k
theorem tDrop_i (k:te σ H fun _ H1=>D.nx σ H1):tDrop te D σ H:=k
theorem a6s {N:St->Hp->Prop} (k:N (σ.set n (some v)) H):b5i n v σ H N:=k
theorem tCB_i {r:List V->Hp->VK->Prop} {a:TA} (k:a σ H fun vs H1=>r vs H1 Q):tCB r a σ H Q:=k
theorem tCons_i {a:TA} {R:List V->Hp->Prop} (k:ta σ H fun x H1=>a σ H1 fun xs H2=>R (x :: xs) H2):b5o ta a σ H R:=k
theorem tNil_i {R:List V->Hp->Prop} (k:R [] H):tNil σ H R:=k
theorem tBM_i {T:String} {r:V->List V->Hp->VK->Prop} {a:TA} (k:ta σ H fun x H1=>tyV K T x H1/\a σ H1 fun xs H2=>r x xs H2 Q):tBM K T r ta a σ H Q:=k
theorem tBM0_i {T:String} {r:V->List V->Hp->VK->Prop} (k:ta σ H fun x H1=>tyV K T x H1/\r x [] H1 Q):tBM0 K T r ta σ H Q:=k
theorem tTup_i {a:TA} (k:a σ H fun xs H1=>xs.length<=sizeLine/\∀ p,H1 p = none->Q (.ref p) (upd H1 p (.tup xs))):tTup a σ H Q:=k
theorem tLst_i {a:TA} (k:a σ H fun xs H1=>xs.length<=sizeLine/\∀ p,H1 p = none->Q (.ref p) (upd H1 p (.lst xs))):tLst a σ H Q:=k
theorem tSl_i {r:V->Option Int->Option Int->Hp->VK->Prop} {tl th:TO} (k:te σ H fun x H1=>tl σ H1 fun l H2=>th σ H2 fun u H3=>r x l u H3 Q):tSl r te tl th σ H Q:=k
theorem c5j {R:Option Int->Hp->Prop} (k:R none H):c2c σ H R:=k
theorem mPart_i {R:Option Int->Hp->Prop} (k:te σ H (mI R)):b8w te σ H R:=k
theorem mI_i {R:Option Int->Hp->Prop} (k:R (some i) H):mI R (.int i) H:=k
theorem mLen_s (c:p.length<=sizeLine) (k:Q (.int p.length) H):mLen K [.str p] H Q:=⟨c,k⟩
theorem a4h {a:Addr} {xs:List V} (c:SqL K H a xs) (k:Q (.int xs.length) H):mLen K [.ref a] H Q:=.inl ⟨xs,c,k⟩
theorem a4y {a:Addr} {xs:List V} (c:SqT K H a xs) (k:Q (.int xs.length) H):mLen K [.ref a] H Q:=.inr ⟨xs,c,k⟩
theorem a1p {a:Addr} {xs:List V} (c:SqL K H a xs) (e:atI xs i = some v) (k:Q v H):mIx K (.ref a) (.int i) H Q:=.inl ⟨xs,v,c,e,k⟩
theorem a0k {a:Addr} {xs:List V} (c:SqT K H a xs) (e:atI xs i = some v) (k:Q v H):mIx K (.ref a) (.int i) H Q:=.inr ⟨xs,v,c,e,k⟩
theorem b3w {c:Nat} (z:p.length<=sizeLine) (e:atI p.cps.toList i = some c) (k:Q (.str ⟨#[c]⟩) H):mIx K (.str p) (.int i) H Q:=⟨z,c,e,k⟩
theorem a7y {a:Addr} {xs:List V} (e:H a = some (.lst xs)) (c:xs.length < sizeLine) (k:Q .non (upd H a (.lst (xs ++ [v])))):b6v (.ref a) [v] H Q:=⟨xs,e,c,k⟩
theorem iteB {c d:Prop} (h1:b = true->c) (h2:b = false->d):if b = true then c else d:=by
 cases b with
 | true=>exact h1 rfl
 | false=>exact h2 rfl
theorem c8d {sp:Sp} {E:XK} {a:TA} (k:a σ H fun vs H1=>sp vs H1 Q E):tCall sp [] E a σ H Q:=by
 unfold tCall
 have e:(fun (vs:List V) (H1:Hp)=>sp (vs ++ []) H1 Q E) = fun vs H1=>sp vs H1 Q E:=by funext vs H1; rw [List.append_nil]
 rw [e]; exact k
theorem tFor_i {wi:TI} {g:TG} (k:wi σ H fun J H1=>ForW J g t D σ H1):tFor wi g t D σ H:=k
theorem iStr_i {R:It->Hp->Prop} (k:ta σ H fun v H1=>∃ x,v = .str x/\R (Its x) H1):iStr ta σ H R:=k
theorem iList_i {R:It->Hp->Prop} (k:ta σ H fun x H1=>∃ a,x = .ref a/\(∃ xs,SqL K H1 a xs)/\R (Itl K a) H1):iList K ta σ H R:=k
theorem iTup_i {R:It->Hp->Prop} (k:ta σ H fun x H1=>∃ a,x = .ref a/\(∃ xs,SqT K H1 a xs)/\R (Itt K a) H1):iTup K ta σ H R:=k
theorem iRng1_i {a:TA} {R:It->Hp->Prop} (k:a σ H fun vs H1=>∃ j:Int,vs = [.int j]/\-(2 ^ 62)<=j/\j < 2 ^ 62/\R (Itr 0 j.toNat) H1):iRng1 a σ H R:=k
theorem tComp_i {wi:TI} {tt:TT} (k:wi σ H fun J H1=>∀ D,H1 D = none->b8o J tt te σ Q D H1):tComp wi tt te σ H Q:=k
theorem a7i (Post:St->Hp->Prop) (h1:∀ σ' H',Post σ' H'->u D σ' H') (h2:(∀ σ' H',Post σ' H'->u D σ' H')->t { D with nx:=u D } σ H):tSeq t u D σ H:=h2 h1
theorem b0r {z:Str} {i:Int} (h0:0<=i) (h1:i < (z.length:Int)):∃ c,atI z.cps.toList i = some c:=by
 obtain ⟨c,hc,_⟩:=a6d (xs:=z.cps.toList) h0 (by simp only [Array.length_toList]; exact h1)
 exact ⟨c,hc⟩
end
mutual
inductive Den (K:W.Frag) (H:Hp):V->PyData->Prop
 | non:Den K H .non .none
 | bl (b:Bool):Den K H (.bl b) (.bool b)
 | int (i:Int):Den K H (.int i) (.int i)
 | str (x:Str):Den K H (.str x) (.str x)
 | tup {a:Addr} {us:List V} {ds:List PyData}:SqT K H a us->DenL K H us ds->Den K H (.ref a) (.tuple ds)
inductive DenL (K:W.Frag) (H:Hp):List V->List PyData->Prop
 | nil:DenL K H [] []
 | cons {u:V} {us:List V} {d:PyData} {ds:List PyData}:Den K H u d->DenL K H us ds->DenL K H (u :: us) (d :: ds)
end
mutual
theorem Den.monoT {K:W.Frag} {H H':Hp} (e:∀ a xs,SqT K H a xs->SqT K H' a xs):∀ {v:V} {d:PyData},Den K H v d->Den K H' v d
 | _,_,.non=>.non
 | _,_,.bl b=>.bl b
 | _,_,.int i=>.int i
 | _,_,.str x=>.str x
 | _,_,.tup h l=>.tup (e _ _ h) (DenL.monoT e l)
theorem DenL.monoT {K:W.Frag} {H H':Hp} (e:∀ a xs,SqT K H a xs->SqT K H' a xs):∀ {v:List V} {d:List PyData},DenL K H v d->DenL K H' v d
 | _,_,.nil=>.nil
 | _,_,.cons h l=>.cons (Den.monoT e h) (DenL.monoT e l)
end
theorem Den.mono {K:W.Frag} {H H':Hp} (e:Same H H') {v:V} {d:PyData} (h:Den K H v d):Den K H' v d:=h.monoT fun _ _ q=>e.tup q
theorem DenL.mono {K:W.Frag} {H H':Hp} (e:Same H H') {v:List V} {d:List PyData} (h:DenL K H v d):DenL K H' v d:=h.monoT fun _ _ q=>e.tup q
theorem c2i {K:W.Frag} {H:Hp} {p:Addr} {ys:List V} {o:HO} (h:H p = some (.lst ys)):∀ a xs,SqT K H a xs->SqT K (upd H p o) a xs:=fun a xs q=>by
 rcases q with (q | ⟨o',q⟩) | q
 ·exact .inl (.inl (by rw [a0n (ne_of q h (fun z=>by cases z))]; exact q))
 ·exact .inl (.inr ⟨o',by rw [a0n (ne_of q h (fun z=>by cases z))]; exact q⟩)
 ·exact .inr q
theorem Den.lst {K:W.Frag} {H:Hp} {p:Addr} {ys:List V} {o:HO} (h:H p = some (.lst ys)) {v:V} {d:PyData} (q:Den K H v d):Den K (upd H p o) v d:=q.monoT (c2i h)
theorem DenL.lst {K:W.Frag} {H:Hp} {p:Addr} {ys:List V} {o:HO} (h:H p = some (.lst ys)) {v:List V} {d:List PyData} (q:DenL K H v d):DenL K (upd H p o) v d:=q.monoT (c2i h)
section
variable {K:W.Frag} {H:Hp}
theorem DenL.length:∀ {us:List V} {ds:List PyData},DenL K H us ds->us.length = ds.length
 | _,_,.nil=>rfl
 | _,_,.cons _ l=>by rw [List.length_cons,List.length_cons,DenL.length l]
theorem DenL.get:∀ {us:List V} {ds:List PyData} {i:Nat} {u:V},DenL K H us ds->us[i]? = some u->∃ d,ds[i]? = some d/\Den K H u d
 | _,_,_,_,.nil,e=>by simp at e
 | _,_,0,_,.cons h _,e=>by simp at e; subst e; exact ⟨_,rfl,h⟩
 | _,_,i + 1,u,.cons _ l,e=>by
  obtain ⟨d,h1,h2⟩:=DenL.get (i:=i) (u:=u) l (by simpa using e)
  exact ⟨d,by simpa using h1,h2⟩
theorem DenL.append:∀ {us vs:List V} {ds es:List PyData},DenL K H us ds->DenL K H vs es->DenL K H (us ++ vs) (ds ++ es)
 | _,_,_,_,.nil,l=>l
 | _,_,_,_,.cons h t,l=>.cons h (DenL.append t l)
theorem DenL.take:∀ {us:List V} {ds:List PyData} (n:Nat),DenL K H us ds->DenL K H (us.take n) (ds.take n)
 | _,_,0,_=>.nil
 | _,_,_ + 1,.nil=>.nil
 | _,_,n + 1,.cons h t=>.cons h (DenL.take n t)
theorem DenL.drop:∀ {us:List V} {ds:List PyData} (n:Nat),DenL K H us ds->DenL K H (us.drop n) (ds.drop n)
 | _,_,0,l=>l
 | _,_,_ + 1,.nil=>.nil
 | _,_,n + 1,.cons _ t=>DenL.drop n t
end
section
variable {X:Cx} {pins:List (Addr × Obj)} {σ:St} {H:Hp} {s:Shared}
theorem b0h:∀ {ds:List PyData} {i:Nat} {d:PyData},ds[i]? = some d->d.depth<=PyData.depthAll ds
 | [],_,_,e=>by simp at e
 | x :: r,0,d,e=>by simp at e; subst e; unfold PyData.depthAll; omega
 | x :: r,i + 1,d,e=>by
  have:=b0h (ds:=r) (i:=i) (d:=d) (by simpa using e)
  unfold PyData.depthAll; omega
theorem eq_same (I:Inv X pins σ H s):∀ (n:Nat) (A:Around) (d:PyData) (v v':V) (u u':Value),d.depth<=n->A.units + n < cLine->Den X.K H v d->Den X.K H v' d->RelV v u->RelV v' u'->SeqAt.EqAt A s u u' true:=by
 intro n
 induction n with
 | zero=>
  intro A d v v' u u' hd hu h h' r r'
  cases h with
  | non=>cases h'; cases r; cases r'; exact SeqAt.EqAt.same _
  | bl b=>cases h'; cases r; cases r'; exact SeqAt.EqAt.same _
  | int i=>
   cases h'
   obtain ⟨t,rfl⟩:=r
   obtain ⟨t',rfl⟩:=r'
   have:=SeqAt.EqAt.int_int (A:=A) (s:=s) i t i t'
   simpa using this
  | str x=>
   cases h'
   obtain ⟨t,rfl⟩:=r
   obtain ⟨t',rfl⟩:=r'
   have:=SeqAt.EqAt.str_str (A:=A) (s:=s) x t x t'
   simpa using this
  | tup _ _=>simp [PyData.depth] at hd
 | succ n ih=>
  intro A d v v' u u' hd hu h h' r r'
  cases h with
  | non=>cases h'; cases r; cases r'; exact SeqAt.EqAt.same _
  | bl b=>cases h'; cases r; cases r'; exact SeqAt.EqAt.same _
  | int i=>
   cases h'
   obtain ⟨t,rfl⟩:=r
   obtain ⟨t',rfl⟩:=r'
   have:=SeqAt.EqAt.int_int (A:=A) (s:=s) i t i t'
   simpa using this
  | str x=>
   cases h'
   obtain ⟨t,rfl⟩:=r
   obtain ⟨t',rfl⟩:=r'
   have:=SeqAt.EqAt.str_str (A:=A) (s:=s) x t x t'
   simpa using this
  | @tup a us ds hs hl=>
   cases h' with
   | @tup b us' _ hs' hl'=>
    cases r
    cases r'
    by_cases e:a = b
    ·subst e; exact SeqAt.EqAt.same _
    ·obtain ⟨its,rv,p,_⟩:=I.tuple hs
     obtain ⟨its',rv',p',_⟩:=I.tuple hs'
     have l1:=rv.length
     have l2:=rv'.length
     have l3:=hl.length
     have l4:=hl'.length
     have hd':PyData.depthAll ds<=n:=by simp only [PyData.depth] at hd; omega
     have key:=SeqAt.RcAt.tuples (A:=A) (e:=fun _=>true) (show s.heap.IsTuple a its.toArray from p) (show s.heap.IsTuple b its'.toArray from p') (by omega) (fun j h1 h2=>by
      have h1:j < its.length:=by simpa using h1
      have h2:j < its'.length:=by simpa using h2
      have x1:us[j]? = some us[j]:=List.getElem?_eq_getElem (by omega)
      have x2:us'[j]? = some us'[j]:=List.getElem?_eq_getElem (by omega)
      obtain ⟨d,e1,d1⟩:=hl.get x1
      obtain ⟨d',e2,d2⟩:=hl'.get x2
      rw [e1] at e2; cases e2
      obtain ⟨w1,y1,z1⟩:=rv.get x1
      obtain ⟨w2,y2,z2⟩:=rv'.get x2
      have q1:its.toArray[j] = w1:=by
       have:=List.getElem?_eq_getElem h1
       rw [y1] at this
       simpa using (Option.some.inj this).symm
      have q2:its'.toArray[j] = w2:=by
       have:=List.getElem?_eq_getElem h2
       rw [y2] at this
       simpa using (Option.some.inj this).symm
      rw [q1,q2]
      exact ih A.in1 d _ _ _ _ (Nat.le_trans (b0h e1) hd') (by show A.units + 1 + n < cLine; omega) d1 d2 z1 z2)
     have e3:its.toArray.size = its'.toArray.size:=by simp only [List.size_toArray]; omega
     rw [e3] at key
     have e4:((List.range (min its'.toArray.size its'.toArray.size)).all (fun _=>true) && its'.toArray.size == its'.toArray.size) = true:=by simp
     rw [e4] at key
     exact SeqAt.EqAt.of_refs e key
end
section
variable {X:Cx} {a b c e:Expr} {ta tb tc te:TE} {pos:Pos} {tg l:Expr} {tl:TE}
noncomputable def dEq (K:W.Frag) (n:Bool):R2:=fun x y H Q=>∃ (p q:Addr) (us us':List V) (ds:List PyData),x = .ref p/\y = .ref q/\((SqT K H p us/\SqT K H q us')\/(SqL K H p us/\SqL K H q us'))/\DenL K H us ds/\DenL K H us' ds/\PyData.depthAll ds<=149/\Q (.bl (!n)) H
theorem b2h {pins:List (Addr × Obj)} {σ:St} {H:Hp} {s:Shared} (I:Inv X pins σ H s) {A:Around} {us us':List V} {ds:List PyData} {its its':List Value} (hl:DenL X.K H us ds) (hl':DenL X.K H us' ds) (rv:Vals us its) (rv':Vals us' its') (hd:PyData.depthAll ds<=149) (hu:A.units + 150 < cLine) :
  ∀ j (h1:j < its.toArray.size) (h2:j < its'.toArray.size),SeqAt.EqAt A.in1 s its.toArray[j] its'.toArray[j] true:=fun j h1 h2=>by
 have l1:=rv.length
 have l2:=rv'.length
 have l3:=hl.length
 have l4:=hl'.length
 have h1:j < its.length:=by simpa using h1
 have h2:j < its'.length:=by simpa using h2
 have x1:us[j]? = some us[j]:=List.getElem?_eq_getElem (by omega)
 have x2:us'[j]? = some us'[j]:=List.getElem?_eq_getElem (by omega)
 obtain ⟨d,e1,d1⟩:=hl.get x1
 obtain ⟨d',e2,d2⟩:=hl'.get x2
 rw [e1] at e2; cases e2
 obtain ⟨w1,y1,z1⟩:=rv.get x1
 obtain ⟨w2,y2,z2⟩:=rv'.get x2
 have q1:its.toArray[j] = w1:=by
  have:=List.getElem?_eq_getElem h1
  rw [y1] at this
  simpa using (Option.some.inj this).symm
 have q2:its'.toArray[j] = w2:=by
  have:=List.getElem?_eq_getElem h2
  rw [y2] at this
  simpa using (Option.some.inj this).symm
 rw [q1,q2]
 exact eq_same I 149 A.in1 d _ _ _ _ (Nat.le_trans (b0h e1) hd) (by show A.units + 1 + 149 < cLine; omega) d1 d2 z1 z2
theorem b5z (K:W.Frag) (hK:X.K = K) (hu:X.A.units + 150 < cLine):OpR X (compareOp .Eq) (dEq K false):=by
 subst hK
 intro pins s σ H x y v u Q I rx ry h
 obtain ⟨p,q,us,us',ds,rfl,rfl,h,hl,hl',hd,k⟩:=h
 cases rx
 cases ry
 rcases h with ⟨hs,hs'⟩ | ⟨hs,hs'⟩
 ·obtain ⟨its,rv,p1,_⟩:=I.tuple hs
  obtain ⟨its',rv',p2,_⟩:=I.tuple hs'
  have e3:its.toArray.size = its'.toArray.size:=by simp only [List.size_toArray]; rw [<- rv.length,<- rv'.length,hl.length,hl'.length]
  refine SeqAt.eq_tupleAt (e:=fun _=>true) (show s.heap.IsTuple p its.toArray from p1) (show s.heap.IsTuple q its'.toArray from p2) (by omega) (b2h I hl hl' rv rv' hd hu) ?_
  rw [e3]
  exact ⟨.bl true,H,I,by simp [RelV],k⟩
 ·obtain ⟨its,rv,p1,_⟩:=I.list hs
  obtain ⟨its',rv',p2,_⟩:=I.list hs'
  have e3:its.toArray.size = its'.toArray.size:=by simp only [List.size_toArray]; rw [<- rv.length,<- rv'.length,hl.length,hl'.length]
  refine SeqAt.eq_listAt (e:=fun _=>true) p1.isList p2.isList e3 (by omega) (b2h I hl hl' rv rv' hd hu) ?_
  exact ⟨.bl true,H,I,by simp [RelV],k⟩
theorem b6a (K:W.Frag) (hK:X.K = K) (hu:X.A.units + 150 < cLine):OpR X (compareOp .NotEq) (dEq K true):=by
 subst hK
 intro pins s σ H x y v u Q I rx ry h
 obtain ⟨p,q,us,us',ds,rfl,rfl,h,hl,hl',hd,k⟩:=h
 cases rx
 cases ry
 rcases h with ⟨hs,hs'⟩ | ⟨hs,hs'⟩
 ·obtain ⟨its,rv,p1,_⟩:=I.tuple hs
  obtain ⟨its',rv',p2,_⟩:=I.tuple hs'
  have e3:its.toArray.size = its'.toArray.size:=by simp only [List.size_toArray]; rw [<- rv.length,<- rv'.length,hl.length,hl'.length]
  refine SeqAt.RcNeAt.tuples (e:=fun _=>true) (show s.heap.IsTuple p its.toArray from p1) (show s.heap.IsTuple q its'.toArray from p2) (by omega) (b2h I hl hl' rv rv' hd hu) X.prog X.w _ _ ?_
  rw [e3]
  exact ⟨.bl false,H,I,by simp [RelV],k⟩
 ·obtain ⟨its,rv,p1,_⟩:=I.list hs
  obtain ⟨its',rv',p2,_⟩:=I.list hs'
  have e3:its.toArray.size = its'.toArray.size:=by simp only [List.size_toArray]; rw [<- rv.length,<- rv'.length,hl.length,hl'.length]
  refine SeqAt.RcNeAt.lists (e:=fun _=>true) p1.isList p2.isList e3 (by omega) (b2h I hl hl' rv rv' hd hu) X.prog X.w _ _ ?_
  exact ⟨.bl false,H,I,by simp [RelV],k⟩
theorem a7z {k:Nat} {A:Around} (hr:Room k A):A.units + 150 < cLine:=by have:=hr.un; omega
noncomputable def mSlL (K:W.Frag):V->Option Int->Option Int->Hp->VK->Prop:=fun x lo hi H Q=>∃ a xs,x = .ref a/\SqL K H a xs/\∀ p,H p = none->Q (.ref p) (upd H p (.lst (cutV xs lo hi)))
theorem a8u (K:W.Frag) (h:X.K = K):SlR X (mSlL K):=h ▸ sl_list
noncomputable def mTup (K:W.Frag):List V->Hp->VK->Prop:=fun vs H Q=>∃ p ys,vs = [.ref p]/\((SqL K H p ys/\∀ l,H l = none->Q (.ref l) (upd H l (.tup ys)))\/(SqT K H p ys/\Q (.ref p) H))
theorem b2i (K:W.Frag) (h:X.K = K):a3s X (.type "tuple") (mTup K):=h ▸ b8c
noncomputable def mLst (K:W.Frag):List V->Hp->VK->Prop:=fun vs H Q=>∃ p ys,vs = [.ref p]/\(SqL K H p ys\/SqT K H p ys)/\∀ l,H l = none->Q (.ref l) (upd H l (.lst ys))
theorem b6x (K:W.Frag) (h:X.K = K):a3s X (.type "list") (mLst K):=h ▸ b9n
noncomputable def mMin:List V->Hp->VK->Prop:=fun vs H Q=>∃ i j,vs = [.int i,.int j]/\Q (.int (if j < i then j else i)) H
theorem mc_min (hc:X.calm = true):a3s X (.builtin "min") mMin:=c4m hc
noncomputable def mMax:List V->Hp->VK->Prop:=fun vs H Q=>∃ i j,vs = [.int i,.int j]/\Q (.int (if j > i then j else i)) H
end
open PySem.AutoSeq1 in
open PySem.MeetsSeq PySem.MeetsSeq2 PySem.MeetsSeq3 in
theorem c3e (l:Addr) (items:Array Value) (n:Nat) (b:Addr) (items2:Array Value) (n2:Nat) (dd:Option Addr) (sl:Array (Option Value)) (hs0:¬(!items.isEmpty && Builtin.List.listTooLong (items.size + items2.size)) = true) (hs1:items.size<=sizeLine) (hs2:items.size + items2.size<=sizeLine + 1) :
  Meets (Builtin.«list.extend» ⟨[.ref l,.ref b],[]⟩) (fun _ R s=>s.heap.get? l = some { cls:=.type "list",dict:=none,data:=.seq items n,slots:=#[] }/\s.heap.get? b = some { cls:=.type "tuple",dict:=dd,data:=.seq items2 n2,slots:=sl } /\
   R (.ok (.ret Value.none)) { s with heap:=s.heap.update l (Obj.mapSeq fun x=>x ++ items2),toks:=s.toks }):=
 .of_wp fun prog w A R s h=>by
  obtain ⟨hp,g,d,tk,os⟩:=s
  obtain ⟨hl,hb,h⟩:=h
  have f1:=idx_int
  have f2:=PySem.AutoSeq1.sub_tuple_tuple
  have f3:=PySem.AutoSeq1.sub_list_list
  have f4:=PySem.AutoSeq1.sub_tuple_list
  have f5:=PySem.AutoSeq1.sub_list_tuple
  have hz':(items ++ items2).size<=sizeLine + 1:=by rw [Array.size_append]; exact hs2
  wp_walk using (wpAny_updateSeq hl rfl (hz:=hs1) (_hz':=hz')),wpAny_loadPart' hl,wpAny_loadPart' hb
  exact ⟨_,rfl,h⟩
section
variable {X:Cx}
noncomputable def mExt (K:W.Frag):V->List V->Hp->VK->Prop:=fun x vs H Q=>∃ l b xs zs,x = .ref l/\vs = [.ref b]/\H l = some (.lst xs)/\(H b = some (.lst zs)\/SqT K H b zs)/\xs.length + zs.length<=sizeLine/\Q .non (upd H l (.lst (xs ++ zs)))
theorem b7q (K:W.Frag) (hK:X.K = K):MtR X "list.extend" (mExt K):=by
 subst hK
 intro pins s σ H x vs v us Q I rx rv h
 obtain ⟨l,b,xs,zs,e1,e2,hH,hB,hz,q⟩:=h
 rcases hB with hB | hB
 ·exact c4v pins s σ H x vs v us Q I rx rv ⟨l,b,xs,zs,e1,e2,hH,hB,hz,q⟩
 ·subst e1 e2
  cases rx
  obtain ⟨u,rfl,ru⟩:=rv.one
  cases ru
  obtain ⟨z,its,n,r,hl,e⟩:=I.lstM hH
  obtain ⟨its2,r2,pl,z2⟩:=I.tuple hB
  obtain ⟨⟨cls,dd,data,sl⟩,ho,hc,n2,hd⟩:=pl
  simp only at hc hd
  subst hc hd
  have hl2:=r2.length
  have hsz:its.toArray.size + its2.toArray.size<=sizeLine:=by rw [List.size_toArray,List.size_toArray]; omega
  have hlong:¬ (!its.toArray.isEmpty && Builtin.List.listTooLong (its.toArray.size + its2.toArray.size)) = true:=by
   rw [b4m hsz,Bool.and_false]
   exact Bool.false_ne_true
  refine call_meets F.slot_list_extend ⟨_,e,rfl⟩ F.entry_list_extend (F.args_list_extend_2 _ _) (c3e l its.toArray n b its2.toArray n2 dd sl hlong (by rw [List.size_toArray]; omega) (by omega)) ⟨e,ho,?_⟩
  refine ⟨.non,_,I.lset (its':=its ++ its2) hH e (by simp) (r.append r2) ?_,rfl,q⟩
  rw [List.length_append]
  omega
end
section
variable {prog:Program} {w:World} {A:Around} {E:Value->Shared->Prop} {s:Shared}
theorem b4f {t sl:Addr} {items:Array Value} {vl vu:Value} {lo hi:Option Int} {Q:Value->Shared->Prop} (ht:IsTup s.heap t items) (hs:s.heap.IsSliceOf sl vl vu .none) (pl:IsPart vl lo) (pu:IsPart vu hi)
  (hw:HT.sIx items.size 0 lo = 0/\HT.sIx items.size items.size hi = items.size) (h:Q (.ref t) s):wpAny (model prog w) A (getItem (.ref t) (.ref sl)) Q E s:=by
 obtain ⟨os,hos,hcs,hds⟩:=id hs
 have hTs:s.TypeIs (.ref sl) "slice":=⟨os,hos,hcs⟩
 unfold getItem
 try with_reducible refine wpAny_holding ?_
 first | refine wpAny_bind (wpAny_pure ?_) | skip
 refine wpAny_bind (wpAny_sequenceKey ht.typeIs (by decide) ?_)
 refine wpAny_bind (wpAny_callSpecial?_slot (name:=Str.ofString "__getitem__") ht.typeIs PyProof.Rows.slot_tuple_getitem
  (wpAny_call_entry PyProof.Rows.slot_tuple_getitem ht.typeIs entry_tuple_getitem ?_ (args_tuple_getitem _ _)))
 show wpAny _ _ (Builtin.Tuple.tupleItemsOf (.ref t) >>= _) _ _ s
 refine wpAny_bind (tupleItemsOf_ ht ?_)
 refine wpAny_bind (wpAny_typeOf hTs ?_)
 rw [if_pos (by decide)]
 refine wpAny_bind (HT.sliceApplied_gen hs pl pu ?_)
 show wpAny _ _ (if (((HT.sIx items.size 0 lo:Nat):Int) == 0 && (1:Int) == 1 && (HT.sIx items.size items.size hi - HT.sIx items.size 0 lo) == items.size) = true then _ else _) _ _ s
 rw [if_pos (by rw [hw.1,hw.2]; simp)]
 refine wpAny_bind ?_
 unfold Builtin.Tuple.tupleIsExact
 refine wpAny_bind (wpAny_typeOf ht.typeIs (wpAny_pure ?_))
 rw [if_pos (by decide)]
 exact wpAny_bind (wpAny_rule (wpAny_pure ⟨_,rfl,wpAny_pure h⟩))
end
section
variable {X:Cx}
noncomputable def b9x (xs:List V) (lo hi:Option Int):Prop:=HT.sIx xs.length 0 lo = 0/\HT.sIx xs.length xs.length hi = xs.length
noncomputable def mSlT (K:W.Frag):V->Option Int->Option Int->Hp->VK->Prop:=fun x lo hi H Q=>∃ a xs,x = .ref a/\SqT K H a xs/\(b9x xs lo hi->Q (.ref a) H)/\(¬ b9x xs lo hi->∀ p,H p = none->Q (.ref p) (upd H p (.tup (cutV xs lo hi))))
theorem ks_tup (K:W.Frag) (hK:X.K = K):SlR X (mSlT K):=by
 subst hK
 intro pins s σ H x v vl vu lo hi sl Q I rx hs pl pu h
 obtain ⟨a,xs,rfl,hx,h1,h2⟩:=h
 by_cases hw:b9x xs lo hi
 ·cases rx
  obtain ⟨its,r,ht,hz⟩:=I.tuple hx
  have hlen:its.toArray.size = xs.length:=by rw [List.size_toArray]; exact r.length.symm
  exact ⟨"tuple",_,PyProof.Rows.slot_tuple_getitem.lookup,ht.typeIs,b4f ht hs pl pu (by rw [hlen]; exact hw) ⟨.ref a,H,I,rfl,h1 hw⟩⟩
 ·exact sl_tup pins s σ H _ v vl vu lo hi sl Q I rx hs pl pu ⟨a,xs,rfl,hx,hw,h2 hw⟩
end
section
variable {σ:St} {H:Hp} {D:Ends} {t:TS} {c:TT}
noncomputable def c5k (c:TT) (t:TS) (D:Ends) (σ:St) (H:Hp):Prop:=b9f c t D σ H
theorem c8e (k:c5k c t D σ H):b9f c t D σ H:=k
theorem a8a (Pv:Nat->St->Hp->Prop) (n:Nat) (h0:Pv n σ H)
  (hs:∀ n σ H (R:Bool->Hp->Prop),Pv n σ H->(∀ H1,(∀ (D':Ends),D'.rt = D.rt->D'.bk = D.nx->(∀ σ' H' m,m < n->Pv m σ' H'->D'.nx σ' H')->(∀ σ' H' m,m < n->Pv m σ' H'->D'.ct σ' H')->t D' σ H1)->R true H1)->(∀ H1,D.nx σ H1->R false H1)->c σ H R):c5k c t D σ H:=by
 refine ⟨Pv,⟨n,h0⟩,fun m σ H p=>?_⟩
 refine hs m σ H _ p (fun H1 k=>?_) (fun H1 k=>k)
 exact ⟨fun σ' H'=>∃ m',m' < m/\Pv m' σ' H',fun _ _ h=>h,k _ rfl rfl (fun _ _ m' hm hp=>⟨m',hm,hp⟩) (fun _ _ m' hm hp=>⟨m',hm,hp⟩)⟩
end
theorem c5l {K:W.Frag} {T n:String} {b:Bool} (h:(if (Value.type T == Value.type n) = true then some true else if W.kitMeta n = true then (fastBuiltinMro T).map (·.contains (.type n)) else none) = some b):W.kitOne K (.type T) (.type n) = some b:=h
section
variable {X:Cx} {a:Expr} {ta:TE}
noncomputable def tyN (K:W.Frag) (H:Hp):V->String->Prop
 | .non,T=>T = "NoneType"
 | .bl _,T=>T = "bool"
 | .int _,T=>T = "int"
 | .str _,T=>T = "str"
 | .ref p,T=>(T = "list"/\∃ xs,SqL K H p xs)\/(T = "tuple"/\∃ xs,SqT K H p xs)\/(T = "dict"/\∃ kvs,H p = some (.dK kvs))
 | _,_=>False
noncomputable def mIs (K:W.Frag):List V->Hp->VK->Prop:=fun vs H Q=>∃ x n T b,vs = [x,.ty n]/\tyN K H x T/\(∀ K':W.Frag,W.kitOne K' (.type T) (.type n) = some b)/\Q (.bl b) H
theorem b0s (K:W.Frag) (hK:X.K = K):a3s X (.builtin "isinstance") (mIs K):=by
 subst hK
 intro pins s σ H xs us Q I r h
 obtain ⟨x,n,T,b,rfl,ht,hk,q⟩:=h
 obtain ⟨u,w',rfl,r1,r2⟩:=vals2 r
 cases r2
 have fin:∀ tk,EP X pins σ Q (.bool b) { s with toks:=tk }:=fun tk=>⟨.bl b,H,I.tok _,rfl,q⟩
 cases x with
 | non=>cases ht; exact a9d I r1 .non (hk _) fin
 | bl y=>cases ht; exact a9d I r1 (.bl y) (hk _) fin
 | int i=>cases ht; exact a9d I r1 (.int i) (hk _) fin
 | str z=>cases ht; exact a9d I r1 (.str z) (hk _) fin
 | ref p=>
  cases r1
  rcases ht with ⟨rfl,xs,hs⟩ | ⟨rfl,xs,hs⟩ | ⟨rfl,kvs,hs⟩
  ·obtain ⟨its,_,⟨o,n',h1,h2,_⟩,_⟩:=I.list hs
   exact W.kia_one W.kitx_list I.kIn ⟨o,h1,h2⟩ (hk _) (fun z=>nomatch z) fin
  ·obtain ⟨its,_,⟨o,h1,h2,_⟩,_⟩:=I.tuple hs
   exact W.kia_one W.kitx_tuple I.kIn ⟨o,h1,h2⟩ (hk _) (fun z=>nomatch z) fin
  ·exact a9d (x:=.ref p) I rfl (.dK hs) (hk _) fin
 | _=>exact (show False from ht).elim
end
section
variable {K:W.Frag} {H:Hp} {Q:VK} {i:Int} {p:Str} {b:Bool} {a:Addr} {xs:List V}
theorem is_str (k:Q (.bl true) H):mIs K [.str p,.ty "str"] H Q:=⟨_,_,_,true,rfl,rfl,fun _=>b2f _ _,k⟩
theorem is_int (k:Q (.bl true) H):mIs K [.int i,.ty "int"] H Q:=⟨_,_,_,true,rfl,rfl,fun _=>b2f _ _,k⟩
theorem c1k (k:Q (.bl false) H):mIs K [.int i,.ty "bool"] H Q:=⟨_,_,_,false,rfl,rfl,fun _=>c5l (by decide +kernel),k⟩
theorem b9y (c:SqT K H a xs) (k:Q (.bl true) H):mIs K [.ref a,.ty "tuple"] H Q:=⟨_,_,_,true,rfl,.inr (.inl ⟨rfl,xs,c⟩),fun _=>b2f _ _,k⟩
theorem is_lst (c:SqL K H a xs) (k:Q (.bl true) H):mIs K [.ref a,.ty "list"] H Q:=⟨_,_,_,true,rfl,.inl ⟨rfl,xs,c⟩,fun _=>b2f _ _,k⟩
theorem a9z {α:Type} {xs:List α} {i:Int} {v:α} (h:atI xs i = some v):v ∈ xs:=by
 obtain ⟨j,_,e,_⟩:=b3t h
 exact List.mem_of_getElem? e
theorem c2j (l m:List Nat):(⟨l.toArray⟩:Str) ++ ⟨m.toArray⟩ = ⟨(l ++ m).toArray⟩:=by
 apply Str.ext'
 show l.toArray ++ m.toArray = (l ++ m).toArray
 simp
theorem str_len (l:List Nat):(⟨l.toArray⟩:Str).length = l.length:=by simp [Str.length]
theorem ints_at {ns:List Int} {i:Int} {v:V} (h:atI (ns.map V.int) i = some v):∃ n,v = .int n:=by
 have:=a9z h
 obtain ⟨n,_,e⟩:=List.mem_map.mp this
 exact ⟨n,e.symm⟩
theorem mSlL_i {lo hi:Option Int} (c:SqL K H a xs) (k:∀ p,H p = none->Q (.ref p) (upd H p (.lst (cutV xs lo hi)))):mSlL K (.ref a) lo hi H Q:=⟨a,xs,rfl,c,k⟩
theorem b6b (c:SqL K H a xs) (k:∀ l,H l = none->Q (.ref l) (upd H l (.tup xs))):mTup K [.ref a] H Q:=⟨a,xs,rfl,.inl ⟨c,k⟩⟩
theorem mLst_l (c:SqL K H a xs) (k:∀ l,H l = none->Q (.ref l) (upd H l (.lst xs))):mLst K [.ref a] H Q:=⟨a,xs,rfl,.inl c,k⟩
theorem mMin_i {j:Int} (k:Q (.int (if j < i then j else i)) H):mMin [.int i,.int j] H Q:=⟨i,j,rfl,k⟩
theorem c5m {zs:List V} {l:Addr} (e:H l = some (.lst xs)) (c:H a = some (.lst zs)) (z:xs.length + zs.length<=sizeLine) (k:Q .non (upd H l (.lst (xs ++ zs)))):mExt K (.ref l) [.ref a] H Q:=⟨l,a,xs,zs,rfl,rfl,e,.inl c,z,k⟩
theorem b9z {l:Addr} {v:V} (e:H l = some (.lst (xs ++ [v]))) (k:Q v (upd H l (.lst xs))):mPop (.ref l) [] H Q:=⟨xs,v,e,k⟩
theorem b3e {q:Addr} {ys:List V} (e1:H a = some (.lst xs)) (e2:H q = some (.lst ys)) (z:xs.length + ys.length<=sizeLine) (k:∀ d,H d = none->Q (.ref d) (upd H d (.lst (xs ++ ys)))):mAdd K (.ref a) (.ref q) H Q:=.inl ⟨xs,ys,e1,e2,z,k⟩
theorem iRng2_i {σ:St} {ta:TA} {R:It->Hp->Prop} (k:ta σ H fun vs H1=>∃ i j:Int,vs = [.int i,.int j]/\(-(2 ^ 62)<=i/\i < 2 ^ 62/\-(2 ^ 62)<=j/\j < 2 ^ 62)/\R (Itr i (j - i).toNat) H1):iRng2 ta σ H R:=k
end
section
variable {X:Cx}
theorem preSum_eq (ns:List Int):∀ n,n<=ns.length->preSum (fun i=>ns.getD i 0) n = (ns.take n).sum
 | 0,_=>by simp [preSum]
 | n + 1,h=>by
  have hn:n < ns.length:=by omega
  rw [preSum,preSum_eq ns n (by omega),List.take_add_one,List.sum_append,List.getElem?_eq_getElem hn,List.getD_eq_getElem?_getD,List.getElem?_eq_getElem hn]
  simp
noncomputable def mSum (K:W.Frag):List V->Hp->VK->Prop:=fun vs H Q=>∃ (p:Addr) (ns:List Int),vs = [.ref p]/\SqL K H p (ns.map V.int)/\(∀ n ∈ ns,0<=n)/\ns.sum < 2 ^ 62/\Q (.int ns.sum) H
theorem c0a:∀ {ns:List Int},(∀ n ∈ ns,0<=n)->0<=ns.sum
 | [],_=>by simp
 | a :: r,h=>by
  have h1:=h a List.mem_cons_self
  have h2:=c0a (ns:=r) fun n hn=>h n (List.mem_cons_of_mem _ hn)
  rw [List.sum_cons]; omega
theorem kc_sum (K:W.Frag) (hK:X.K = K) (hc:X.calm = true):a3s X (.builtin "sum") (mSum K):=by
 subst hK
 intro pins s σ H xs us Q I r h
 obtain ⟨p,ns,rfl,hs,hn,hm,q⟩:=h
 obtain ⟨u,rfl,r1⟩:=vals1 r
 cases r1
 obtain ⟨its,rv,pl,hz⟩:=I.list hs
 have hi:IntsAre its ns:=intsAre_of rv
 have hlen:its.length = ns.length:=hi.length
 have hl:p < s.heap.objs.size:=by
  obtain ⟨o,n,h1,_⟩:=pl
  exact Heap.lt_size h1
 have part:∀ j,j<=ns.length->0<=(ns.take j).sum/\(ns.take j).sum<=ns.sum:=fun j hj=>by
  have e:=List.take_append_drop j ns
  have h1:=c0a (ns:=ns.take j) fun n hm=>hn n (List.mem_of_mem_take hm)
  have h2:=c0a (ns:=ns.drop j) fun n hm=>hn n (List.mem_of_mem_drop hm)
  have h3:(ns.take j ++ ns.drop j).sum = ns.sum:=by rw [e]
  rw [List.sum_append] at h3
  omega
 refine call_sum_walk (wpAny_pyIter_list pl.isList ?_)
 refine ⟨s.heap.objs.size,[s.heap.objs.size,p],[s.heap.objs.size],its.toArray.size,_,_,fun i=>ns.getD i 0,rfl,Walks.list (A:=X.A.in1) (show X.A.in1.handled = none from I.ok.hd hc) s.heap.objs.size p (Nat.ne_of_lt hl) its.toArray,
  ⟨⟨_,Heap.get?_push_size _ rfl,rfl,rfl⟩,pl.isList.at fun o e=>Heap.get?_push_of_some _ e⟩,fun b hb=>?_,fun i v hv=>?_,fun j hj=>?_,fun h' tk t' hk=>?_⟩
 ·rw [Heap.size_push]
  simp only [List.mem_cons,List.not_mem_nil,or_false] at hb
  rcases hb with rfl | rfl
  ·exact Nat.lt_succ_self _
  ·exact Nat.lt_succ_of_lt hl
 ·have hv:its.toArray[i]? = some v:=hv
  rw [List.getElem?_toArray] at hv
  have hil:i < ns.length:=by
   have:=(List.getElem?_eq_some_iff.mp hv).1
   omega
  have x1:(ns.map V.int)[i]? = some (.int ns[i]):=by rw [List.getElem?_map,List.getElem?_eq_getElem hil]; rfl
  obtain ⟨w,e1,e2⟩:=rv.get x1
  rw [e1] at hv
  cases hv
  obtain ⟨t,rfl⟩:=e2
  refine ⟨t,?_⟩
  show Value.int ns[i] t = Value.int (ns.getD i 0) t
  rw [List.getD_eq_getElem?_getD,List.getElem?_eq_getElem hil]
  rfl
 ·have hj:j < ns.length:=by simpa [hlen] using hj
  have h1:=part (j + 1) (by omega)
  have h3:0<=ns.getD j 0/\ns.getD j 0<=ns.sum:=by
   have e:(ns.take (j + 1)).sum = (ns.take j).sum + ns.getD j 0:=by
    rw [List.take_add_one,List.sum_append,List.getElem?_eq_getElem hj,List.getD_eq_getElem?_getD,List.getElem?_eq_getElem hj]
    simp
   have h0:=part j (by omega)
   have h4:0<=ns.getD j 0:=by
    rw [List.getD_eq_getElem?_getD,List.getElem?_eq_getElem hj]
    exact hn _ (List.getElem_mem hj)
   omega
  rw [preSum_eq ns (j + 1) (by omega)]
  show InLong (ns.getD j 0)/\_
  unfold InLong
  omega
 ·have e:preSum (fun i=>ns.getD i 0) its.toArray.size = ns.sum:=by
   rw [List.size_toArray,hlen,preSum_eq ns _ (Nat.le_refl _),List.take_length]
  rw [e]
  refine ⟨.int _,H,I.kept (fun b o e=>hk b o ?_ (Heap.get?_push_of_some _ e)),⟨_,rfl⟩,q⟩
  intro z
  have z:b = s.heap.objs.size:=by simpa using z
  exact absurd (Heap.lt_size e) (by rw [z]; exact Nat.lt_irrefl _)
end
noncomputable abbrev a2f:Str:=Str.ofString "abcdefghijklmnopqrstuvwxyz"
noncomputable abbrev a6f:Str:=Str.ofString "ABCDEFGHIJKLMNOPQRSTUVWXYZ"
noncomputable abbrev figS:Str:=Str.ofString "0123456789"
noncomputable abbrev b8x:Str:=Str.ofString "+-*/:<=>&^?@#!;$"
noncomputable abbrev a6t:Str:=Str.ofString "abcdefghijklmnopqrstuvwxyzABCDEFGHIJKLMNOPQRSTUVWXYZ0123456789"
noncomputable abbrev one (c:Nat):Str:=⟨#[c]⟩
noncomputable abbrev a8f (K:W.Frag):Sp:=fun vs H Q _=>match vs with
 | [.ref a,.int at_,.int m]=>∃ ns:List Int,SqL K H a (ns.map V.int)/\ns.length<=63/\0<=at_/\at_<=100/\0<=m/\m<=100/\∀ (p:Addr) (cs:List Int) (H':Hp),cs.length<=m.toNat->Same H H'->H' p = some (.lst (cs.map V.int))->Q (.ref p) H'
 | _=>False
noncomputable abbrev a5h:Sp:=fun vs H Q _=>match vs with | [.int n]=>Q (.bl true) H | _=>False
noncomputable abbrev a5u:Sp:=fun vs H Q _=>match vs with | [.int c]=>∀ (n:Int) (H':Hp),-(10 ^ 30) < n->n < 10 ^ 30->Same H H'->Q (.int n) H' | _=>False
noncomputable abbrev a9f:Sp:=fun vs H Q _=>match vs with | [.int c]=>∀ z:List Nat,1<=z.length->z.length<=3->(∀ y ∈ z,y ∈ b8x.cps.toList)->z ≠ [60,45]->Q (.str ⟨z.toArray⟩) H | _=>False
theorem ln {n:Nat} (h:n<=100000):n<=sizeLine:=by rw [sizeLine_eq]; omega
theorem ln1 {n:Nat} (h:n < 100000):n < sizeLine:=by rw [sizeLine_eq]; omega
theorem tl62:a6t.length = 62:=by decide +kernel
theorem mk16:b8x.length = 16:=by decide +kernel
section
variable {X:Cx} {e:Expr} {te:TE} {pos:Pos}
noncomputable def mAug (i:Nat) (te:TE) (ti:TIp):TS:=fun D σ H=>∃ x,σ[i]? = some (some x)/\te σ H fun y H1=>ti x y H1 fun z H2=>D.nx (σ.set i (some z)) H2
noncomputable def mIAdd:TIp:=fun x y H Q=>match x,y with
 | .int i,.int j=>Q (.int (i + j)) H
 | .str i,.str j=>i.length + j.length<=sizeLine/\Q (.str (i ++ j)) H
 | _,_=>False
theorem mi_add:PIp X .Add mIAdd:=by
 intro pins s σ H x y v u Q I rx ry h
 refine (OpR.or iop_add c1i) pins s σ H x y v u Q I rx ry ?_
 cases x <;> cases y <;> first
  | exact (show False from h).elim
  | exact .inl ⟨_,_,rfl,rfl,h⟩
  | exact .inr ⟨_,_,rfl,rfl,h.1,h.2⟩
end
section
variable {σ:St} {H:Hp} {Q:VK} {D:Ends} {te:TE} {n:Nat} {v:V} {i j:Int}
theorem mAug_i {ti:TIp} (h:σ[n]? = some (some v)) (k:te σ H fun y H1=>ti v y H1 fun z H2=>D.nx (σ.set n (some z)) H2):mAug n te ti D σ H:=⟨v,h,k⟩
theorem mIAdd_i (k:Q (.int (i + j)) H):mIAdd (.int i) (.int j) H Q:=k
end
inductive Trm where
 | num (n:Int)
 | any (x:Str)
 | app (sg:Str) (ks:List Trm)
noncomputable abbrev numS:Str:=Str.ofString "num"
noncomputable abbrev anyS:Str:=Str.ofString "any"
noncomputable abbrev appS:Str:=Str.ofString "app"
mutual
noncomputable def Trm.data:Trm->PyData
 | .num n=>.tuple [.str numS,.int n]
 | .any x=>.tuple [.str anyS,.str x]
 | .app sg ks=>.tuple [.str appS,.str sg,.tuple (Trm.dataL ks)]
noncomputable def Trm.dataL:List Trm->List PyData
 | []=>[]
 | t :: r=>t.data :: Trm.dataL r
end
mutual
noncomputable def Trm.size:Trm->Nat
 | .num _=>1
 | .any _=>1
 | .app _ ks=>1 + Trm.sizeL ks
noncomputable def Trm.sizeL:List Trm->Nat
 | []=>0
 | t :: r=>t.size + Trm.sizeL r
end
theorem Trm.size_pos:∀ t:Trm,1<=t.size
 | .num _=>Nat.le_refl 1
 | .any _=>Nat.le_refl 1
 | .app _ ks=>by unfold Trm.size; omega
mutual
theorem Trm.depth_le:∀ t:Trm,t.data.depth<=2 * t.size
 | .num _=>by simp [Trm.data,Trm.size,PyData.depth,PyData.depthAll]
 | .any _=>by simp [Trm.data,Trm.size,PyData.depth,PyData.depthAll]
 | .app _ ks=>by
  have:=Trm.depthL_le ks
  simp only [Trm.data,Trm.size,PyData.depth,PyData.depthAll]
  omega
theorem Trm.depthL_le:∀ ts:List Trm,PyData.depthAll (Trm.dataL ts)<=2 * Trm.sizeL ts
 | []=>by simp [Trm.dataL,Trm.sizeL,PyData.depthAll]
 | t :: r=>by
  have h1:=Trm.depth_le t
  have h2:=Trm.depthL_le r
  simp only [Trm.dataL,Trm.sizeL,PyData.depthAll]
  omega
end
theorem Trm.dataL_map:∀ ts:List Trm,Trm.dataL ts = ts.map Trm.data
 | []=>rfl
 | t :: r=>by rw [Trm.dataL,Trm.dataL_map r,List.map_cons]
theorem Trm.sizeL_map:∀ ts:List Trm,Trm.sizeL ts = (ts.map Trm.size).sum
 | []=>rfl
 | t :: r=>by rw [Trm.sizeL,Trm.sizeL_map r,List.map_cons,List.sum_cons]
theorem Trm.sizeL_app (a b:List Trm):Trm.sizeL (a ++ b) = Trm.sizeL a + Trm.sizeL b:=by
 rw [Trm.sizeL_map,Trm.sizeL_map,Trm.sizeL_map,List.map_append,List.sum_append]
theorem Trm.len_le (ts:List Trm):ts.length<=Trm.sizeL ts:=by
 induction ts with
 | nil=>simp
 | cons t r ih=>
  have:=t.size_pos
  rw [Trm.sizeL,List.length_cons]; omega
section
variable {K:W.Frag} {H:Hp} {v:V}
theorem a8v {n:Int} (h:Den K H v (Trm.num n).data):∃ a,v = .ref a/\SqT K H a [.str numS,.int n]:=by
 unfold Trm.data at h
 cases h with
 | tup hs hl=>
  cases hl with
  | cons h1 hl=>
   cases hl with
   | cons h2 hl=>
    cases hl
    cases h1
    cases h2
    exact ⟨_,rfl,hs⟩
theorem a8w {x:Str} (h:Den K H v (Trm.any x).data):∃ a,v = .ref a/\SqT K H a [.str anyS,.str x]:=by
 unfold Trm.data at h
 cases h with
 | tup hs hl=>
  cases hl with
  | cons h1 hl=>
   cases hl with
   | cons h2 hl=>
    cases hl
    cases h1
    cases h2
    exact ⟨_,rfl,hs⟩
theorem a4z {sg:Str} {ks:List Trm} (h:Den K H v (Trm.app sg ks).data):∃ a b us,v = .ref a/\SqT K H a [.str appS,.str sg,.ref b]/\SqT K H b us/\DenL K H us (Trm.dataL ks):=by
 unfold Trm.data at h
 cases h with
 | tup hs hl=>
  cases hl with
  | cons h1 hl=>
   cases hl with
   | cons h2 hl=>
    cases hl with
    | cons h3 hl=>
     cases hl
     cases h1
     cases h2
     cases h3 with
     | tup hb hk=>exact ⟨_,_,_,rfl,hs,hb,hk⟩
theorem num_den {a:Addr} {n:Int} (h:SqT K H a [.str numS,.int n]):Den K H (.ref a) (Trm.num n).data:=by
 unfold Trm.data
 exact .tup h (.cons (.str _) (.cons (.int _) .nil))
theorem any_den {a:Addr} {x:Str} (h:SqT K H a [.str anyS,.str x]):Den K H (.ref a) (Trm.any x).data:=by
 unfold Trm.data
 exact .tup h (.cons (.str _) (.cons (.str _) .nil))
theorem a8b {a b:Addr} {sg:Str} {ks:List Trm} {us:List V} (h:SqT K H a [.str appS,.str sg,.ref b]) (hb:SqT K H b us) (hk:DenL K H us (Trm.dataL ks)):Den K H (.ref a) (Trm.app sg ks).data:=by
 unfold Trm.data
 exact .tup h (.cons (.str _) (.cons (.str _) (.cons (.tup hb hk) .nil)))
theorem DenL.snoc {us:List V} {ds:List PyData} {d:PyData} (h:DenL K H us (ds ++ [d])):∃ us' u,us = us' ++ [u]/\DenL K H us' ds/\Den K H u d:=by
 induction ds generalizing us with
 | nil=>
  cases h with
  | cons h1 h2=>
   cases h2
   exact ⟨[],_,rfl,.nil,h1⟩
 | cons x r ih=>
  cases h with
  | cons h1 h2=>
   obtain ⟨us',u,rfl,a,b⟩:=ih h2
   exact ⟨_ :: us',u,rfl,.cons h1 a,b⟩
end
noncomputable def Itv (K:W.Frag) (a:Addr) (n:Nat):It:=⟨fun i H=>∃ xs,SqL K H a xs/\xs.length = n/\i < n,fun i H x H'=>H' = H/\∀ xs,SqL K H a xs->xs[n - 1 - i]? = some x,fun i _=>i = n⟩
theorem c8f {P:Program} {w:World} {K:W.Frag} {tg:Expr} (a it:Addr) (n:Nat):Turn P w K tg (Itv K a n) [it] it (fun i h=>h.IsRevIter it a ((n:Int) - 1 - (i:Nat))) where
 mem:=by simp
 obj:=fun i h st b hb=>by
  have e:b = it:=by simpa using hb
  subst e
  obtain ⟨o,e,c,d⟩:=st
  exact ⟨o,e,fun v z=>by rw [d] at z; cases z⟩
 keep:=fun i h h' st k=>st.at fun o e=>k it (by simp) o e
 item:=by
  intro X hP hw hK hc i pins s σ H E I hf st hg
  subst hP hw hK
  obtain ⟨xs,hq,hn,hi⟩:=hg
  obtain ⟨its,rv,p,hz⟩:=I.list hq
  have hj:n - 1 - i < xs.length:=by omega
  obtain ⟨u,hu,ru⟩:=rv.get (List.getElem?_eq_getElem hj)
  obtain ⟨f0,f1,f2,f3,f4,f5⟩:=hf it (by simp)
  have e1:(n:Int) - 1 - (i:Nat) = ((n - 1 - i:Nat):Int):=by omega
  rw [e1] at st
  refine wpAny_pyNext_rev_item st p.isList (x:=u) (by simpa using hu) fun h' st' sb=>?_
  have I1:Inv X pins σ H { s with heap:=h' }:=I.turned (t':=s.toks) (fun b o hb e=>(sb.2 b hb).trans e) f0 f1 f3 f4 f5
  obtain ⟨o,e,c,d⟩:=id st'
  have e2:((n - 1 - i:Nat):Int) - 1 = (n:Int) - 1 - ((i + 1:Nat):Int):=by omega
  rw [e2] at st'
  exact ⟨u,rfl,b3r (s:={ s with heap:=h' }) e c d (by decide) ⟨xs[n - 1 - i],H,I1,ru,⟨rfl,fun ys hy=>by rw [I.list_inj hy hq]; exact List.getElem?_eq_getElem hj⟩,st',fun b hb=>(hf b hb).1⟩⟩
 done:=by
  intro X hP hw hK hc i pins s σ H E I hf st hg
  subst hP hw hK
  obtain ⟨f0,f1,f2,f3,f4,f5⟩:=hf it (by simp)
  have hg:i = n:=hg
  subst hg
  have e1:(i:Int) - 1 - (i:Nat) = -1:=by omega
  rw [e1] at st
  exact wpAny_pyNext_rev_end (I.ok.hd hc) st fun h' eb=>⟨rfl,I.turned (t':=s.toks) (fun b o hb e=>eb b o hb e) f0 f1 f3 f4 f5⟩
 self:=fun _ _ _ _ _ st h=>wpAny_pyIter_revIter st h
section
variable {X:Cx} {tg:Expr}
noncomputable def iRev (K:W.Frag) (ta:TA):TI:=fun σ H R=>ta σ H fun vs H1=>∃ a xs,vs = [.ref a]/\SqL K H1 a xs/\R (Itv K a xs.length) H1
theorem kpi_rev (K:W.Frag) (hK:X.K = K) {a:Expr} {ta:TA} {p pos:Pos} (hg:Gl X "reversed") (hm:X.mg "reversed" = none) (ha:PA X [a] ta) (hs:starEach [a] X.env = [(false,eval a X.env)]:=by rfl):PI X tg (.Call (.Name "reversed" p) [a] [] pos) (iRev K ta):=by
 subst hK
 intro pins s σ H R I h
 refine Call_ (a5y I hg hm boot_reversed (PyProof.Rows.callWith_type1 (thn (ha pos pins s σ H _ I h) fun us s1 ⟨vs,H1,I1,r1,q1⟩=>?_) hs rfl))
 obtain ⟨l,xs,e,hq,q⟩:=q1
 subst e
 cases r1 with
 | cons r rr=>
  cases rr
  cases r
  obtain ⟨its,rv,pl,hz⟩:=I1.list hq
  have hlen:=rv.length
  refine call_reversed_list pl.isList (wpAny_pyIter_revIter (l:=l) (i:=(its.toArray.size:Int) - 1) ⟨_,Heap.get?_push_size _ rfl,rfl,rfl⟩ ?_)
  refine ⟨s1.heap.objs.size,[s1.heap.objs.size],_,_,H1,rfl,I1.kept (t':=s1.toks) fun b o e=>Heap.get?_push_of_some _ e,c8f l _ xs.length,?_,fun b hb=>?_,q⟩
  ·have e1:(xs.length:Int) - 1 - ((0:Nat):Int) = (its.toArray.size:Int) - 1:=by simp only [List.size_toArray]; omega
   show Heap.IsRevIter _ _ _ ((xs.length:Int) - 1 - ((0:Nat):Int))
   rw [e1]
   exact ⟨_,Heap.get?_push_size _ rfl,rfl,rfl⟩
  ·have e:b = s1.heap.objs.size:=by simpa using hb
   subst e
   exact I1.fpOk (Nat.le_refl _) (I1.hok.fresh (Nat.le_refl _))
end
theorem row_rev {K:W.Frag} {a:Addr} {xs:List V}:Row (Itv K a xs.length) xs.length (fun i=>xs.getD (xs.length - 1 - i) .non) (fun H=>SqL K H a xs):=⟨fun i H h q=>⟨xs,q,rfl,h⟩,fun i H v H' hi q h=>by
 obtain ⟨e,y⟩:=h
 refine ⟨e,?_⟩
 have:=y xs q
 rw [List.getD_eq_getElem?_getD,this]; rfl,fun H q=>rfl⟩
theorem iRev_i {K:W.Frag} {σ:St} {H:Hp} {ta:TA} {R:It->Hp->Prop} (k:ta σ H fun vs H1=>∃ a xs,vs = [.ref a]/\SqL K H1 a xs/\R (Itv K a xs.length) H1):iRev K ta σ H R:=k
noncomputable def figsOf (n:Nat):List Nat:=(Nat.toDigits 10 n).map Char.toNat
section
variable {X:Cx}
theorem b3f (K:W.Frag) (h:X.K = K):OpR X (compareOp .In) (rIn K false):=h ▸ c4t
theorem mMax_i {i j:Int} {H:Hp} {Q:VK} (k:Q (.int (if j > i then j else i)) H):mMax [.int i,.int j] H Q:=⟨i,j,rfl,k⟩
end
section
variable {X:Cx}
noncomputable def mUpd:V->List V->Hp->VK->Prop:=fun x vs H Q=>∃ (a b:Addr) (kvs more:List (Key × V)),x = .ref a/\vs = [.ref b]/\a ≠ b/\H a = some (.dK kvs)/\H b = some (.dK more)/\kvs.length + more.length<=sizeLine/\Q .non (upd H a (.dK (a1a kvs more)))
theorem c5n:MtR X "dict.update" mUpd:=by
 intro pins s σ H x vs v us Q I rx rv h
 obtain ⟨a,b,kvs,more,rfl,rfl,hab,ha,hb,hz,q⟩:=h
 cases rx
 obtain ⟨u,rfl,ru⟩:=rv.one
 cases ru
 obtain ⟨z1,d1,vs1,r1,dd1⟩:=b5q I.hok ha
 obtain ⟨z2,d2,vs2,r2,dd2⟩:=b5q I.hok hb
 have hl:=a9n more kvs
 refine call_meetsIn F.slot_dict_update dd1.typeIs F.entry_dict_update (F.args_dict_update_2 _ _) (meets_dict_update (a1i X.prog X.w) a b hab d2) ⟨vs1,vs2,dd1,dd2,by rw [<- r1.length,<- r2.length]; exact hz,fun h' g1 g2 hs=>?_⟩
 refine ⟨.non,_,?_,rfl,q⟩
 have he:∃ q,h'.get? a = some q:=let ⟨q,_,_,hq,_⟩:=g1; ⟨q,hq⟩
 exact b3u I (by rw [ha]; exact True.intro) hs he (b9q (by omega) d1 (r2.merge r1) g1)
theorem c5o {a b:Addr} {kvs more:List (Key × V)} {H:Hp} {Q:VK} (hab:a ≠ b) (ha:H a = some (.dK kvs)) (hb:H b = some (.dK more)) (hz:kvs.length + more.length<=sizeLine) (k:Q .non (upd H a (.dK (a1a kvs more)))):mUpd (.ref a) [.ref b] H Q:=⟨a,b,kvs,more,rfl,rfl,hab,ha,hb,hz,k⟩
end
section
variable {X:Cx}
noncomputable def rDIn (n:Bool):R2:=fun x y H Q=>∃ a o,y = .ref a/\DGet H a x o/\Q (.bl (n ^^ o.isSome)) H
theorem c5p (hu:X.A.units + 1 < cLine):OpR X (compareOp .In) (rDIn false):=by
 intro pins s σ H x y v u Q I rx ry h
 obtain ⟨a,o,rfl,g,q⟩:=h
 cases ry
 exact d_in hu I g rx fun s3 I3=>⟨.bl _,H,I3,rfl,by simpa using q⟩
theorem b6y (hu:X.A.units + 1 < cLine):OpR X (compareOp .NotIn) (rDIn true):=by
 intro pins s σ H x y v u Q I rx ry h
 obtain ⟨a,o,rfl,g,q⟩:=h
 cases ry
 exact d_notIn hu I g rx fun s3 I3=>⟨.bl _,H,I3,rfl,by simpa using q⟩
end
section
variable {σ:St} {H:Hp} {Q:VK} {D:Ends} {td ty tx tv:TE}
theorem tDGet_i (k:td σ H fun x H1=>ty σ H1 fun y H2=>∃ a v,x = .ref a/\DGet H2 a y (some v)/\Q v H2):tDGet td ty σ H Q:=k
theorem c8g (k:td σ H fun x H1=>∃ a,x = .ref a/\IsD H1 a/\ty σ H1 fun y H2=>tx σ H2 fun z H3=>∃ o,DGet H3 a y o/\Q (o.getD z) H3):c4y td ty tx σ H Q:=k
theorem sDPut_i (k:tv σ H fun v H1=>td σ H1 fun x H2=>ty σ H2 fun y H3=>∃ a H4,x = .ref a/\DPut H3 a y v H4/\D.nx σ H4):sDPut td ty tv D σ H:=k
theorem tDisp_i {trs:List (TE × TE)} (k:∀ p,H p = none->b0g trs σ (upd H p (.dK [])) fun ps H2=>H2 p = some (.dK [])/\∃ kvs:List (Key × V),ps = kvs.map (fun kv=>(kV kv.1,kv.2))/\kvs.length<=15/\Q (.ref p) (upd H2 p (.dK (a1a [] kvs)))):tDisp trs σ H Q:=k
theorem c8h {tk tv:TE} {r:List (TE × TE)} {R:List (V × V)->Hp->Prop} (k:tk σ H fun x H1=>tv σ H1 fun y H2=>b0g r σ H2 fun ps H3=>R ((x,y) :: ps) H3):b0g ((tk,tv) :: r) σ H R:=k
theorem c8i {R:List (V × V)->Hp->Prop} (k:R [] H):b0g [] σ H R:=k
end
section
variable {X:Cx}
noncomputable def c5q:V->List V->Hp->VK->Prop:=fun x vs H Q=>∃ p,x = .str p/\vs = []/\Builtin.Str.tooLong (Txt.upper p).length = false/\Q (.str (Txt.upper p)) H
theorem c8j:MtR X "str.upper" c5q:=by
 intro pins s σ H x vs v us Q I rx rv h
 obtain ⟨p,rfl,rfl,hz,q⟩:=h
 obtain ⟨t,rfl⟩:=rx
 cases rv
 exact SC.upper hz ⟨.str _,H,I.tok _,⟨_,rfl⟩,q⟩
theorem c8k {p r:Str} {H:Hp} {Q:VK} (e:Txt.upper p = r) (hz:Builtin.Str.tooLong r.length = false) (k:Q (.str r) H):c5q (.str p) [] H Q:=⟨p,rfl,rfl,by rw [e]; exact hz,by rw [e]; exact k⟩
theorem mo_shl:OpR X (binaryOp .LShift) (m2 CPow fun i j=>.int (i * 2 ^ j.toNat)):=op_shl.imp fun _ _ _ _ h=>b8q h
noncomputable def mIsN (n:Bool):R2:=fun x y H Q=>y = .non/\Q (.bl (n ^^ decide (x = .non))) H
theorem b6c:OpR X (compareOp .Is) (mIsN false):=op_isN.imp fun _ _ _ _ h=>⟨h.1,by have:=h.2; rwa [Bool.false_xor] at this⟩
theorem isN_ref {n:Bool} {a:Addr} {H:Hp} {Q:VK} (k:Q (.bl n) H):mIsN n (.ref a) .non H Q:=⟨rfl,by rw [decide_eq_false (fun z=>by cases z),Bool.xor_false]; exact k⟩
noncomputable def mInt:List V->Hp->VK->Prop:=fun vs H Q=>match vs with
 | [.int i]=>Q (.int i) H
 | [.bl b]=>Q (.int (if b then 1 else 0)) H
 | _=>False
theorem b6d:a3s X (.type "int") mInt:=by
 intro pins s σ H xs us Q I r h
 refine c4n pins s σ H xs us Q I r ?_
 unfold mInt at h
 split at h
 ·exact .inl ⟨_,rfl,h⟩
 ·exact .inr ⟨_,rfl,h⟩
 ·exact h.elim
theorem mInt_b {b:Bool} {H:Hp} {Q:VK} (k:Q (.int (if b then 1 else 0)) H):mInt [.bl b] H Q:=k
end
noncomputable def But (p:Addr) (H H':Hp):Prop:=∀ b o,b ≠ p->H b = some o->H' b = some o
theorem But.refl (p:Addr) (H:Hp):But p H H:=fun _ _ _ h=>h
theorem Same.but {p:Addr} {H H':Hp} (s:Same H H'):But p H H':=fun b o _ h=>s b o h
theorem But.trans {p:Addr} {H H1 H2:Hp} (a:But p H H1) (b:But p H1 H2):But p H H2:=fun c o n h=>b c o n (a c o n h)
theorem But.tup {K:W.Frag} {p:Addr} {H H':Hp} {ys:List V} (e:But p H H') (hp:H p = some (.lst ys)) {a:Addr} {xs:List V} (h:SqT K H a xs):SqT K H' a xs:=by
 rcases h with (h | ⟨o,h⟩) | h
 ·exact .inl (.inl (e _ _ (fun z=>by subst z; rw [hp] at h; cases h) h))
 ·exact .inl (.inr ⟨o,e _ _ (fun z=>by subst z; rw [hp] at h; cases h) h⟩)
 ·exact .inr h
theorem But.denL {K:W.Frag} {p:Addr} {H H':Hp} {ys:List V} (e:But p H H') (hp:H p = some (.lst ys)) {v:List V} {d:List PyData} (h:DenL K H v d):DenL K H' v d:=h.monoT fun _ _ q=>e.tup hp q
theorem c8l {α:Type} (f:α->V) (xs:List α) (lo hi:Option Int):cutV (xs.map f) lo hi = ((xs.drop (HT.sIx xs.length 0 lo)).take (HT.sIx xs.length xs.length hi - HT.sIx xs.length 0 lo)).map f:=by
 unfold cutV
 rw [List.length_map,<- List.map_drop,<- List.map_take]
theorem sIx_to (n:Nat) (m:Int) (h:0<=m):HT.sIx n n (some m) = min m.toNat n:=by
 unfold HT.sIx
 have e:¬ (m < 0):=by omega
 simp only [e,if_false]
section
variable {X:Cx} {pins:List (Addr × Obj)} {σ:St} {H:Hp} {s:Shared} {h':Heap}
theorem Inv.turnedLaid {t':Nat} {ch:List Addr} {T:Addr} {o:HO} (I:Inv X pins σ H s) (hf:∀ b ∈ ch,FpOk X pins H b) (k:∀ b u,b ∉ ch->s.heap.get? b = some u->h'.get? b = some u) (hT:s.heap.objs.size<=T)
  (new:a2e X.prog X.w (upd H T o) h' T o):Inv X pins σ (upd H T o) { s with heap:=h',toks:=t' }:=by
 have hn:H T = none:=I.hok.fresh hT
 have nin:∀ b u,H b = some u->b ∉ ch:=fun b u e hb=>by rw [(hf b hb).1] at e; cases e
 have neT:∀ b u,s.heap.get? b = some u->b ≠ T:=fun b u e=>Nat.ne_of_lt (Nat.lt_of_lt_of_le (Heap.lt_size e) hT)
 refine I.step (g':=s.gens) (d':=s.drawn) (ch:=ch) (fun b hb=>⟨(hf b hb).2.2.2.1,(hf b hb).2.1,(hf b hb).2.2.2.2.1,(hf b hb).2.2.2.2.2⟩) (fun b u _ _ hc e _=>k b u hc e) (fun b u _ _ hc e _=>⟨u.slots,k b u hc e⟩)
  (fun b u hc e n=>by rw [a0n (neT b u e)]; exact n) (fun b u hc e=>⟨u,k b u hc e⟩) (fun b xs q=>by rw [a0n (a2n q hn)]; exact q) (fun b u xs q=>by rw [a0n (a2n q hn)]; exact q) (fun b ps q=>⟨#[],by rw [a0n (a2n q hn),q]; simp⟩) (fun m hm=>?_) (fun b u e=>?_) I.bare
 ·obtain ⟨q,es,ep,ho,r⟩:=hm
  exact ⟨q,es,ep,k _ q (fun hb=>(hf _ hb).2.1 rfl) ho,r⟩
 ·by_cases hb:b = T
  ·subst hb; rw [a0d] at e; cases e; exact new
  ·rw [a0n hb] at e
   refine (I.hok b u e).stay (fun c v hc q=>k c v ?_ q) (fun c q=>by rw [a0n (a2n q hn)]; exact q) fun c xs q=>by rw [a0n (a2n q hn)]; exact q
   rcases hc with z | z
   ·rw [z]; exact nin b u e
   ·exact nin c _ z
end
noncomputable def Ite (K:W.Frag) (a:Addr) (n:Nat):It:=⟨fun i H=>i < n/\∃ xs,SqL K H a xs/\xs.length = n,fun i H v H'=>∃ T x,H T = none/\v = .ref T/\H' = upd H T (.tup [.int i,x])/\∀ xs,SqL K H a xs->xs[i]? = some x,fun i H=>i = n/\∃ xs,SqL K H a xs/\xs.length = n⟩
section
variable {X:Cx}
noncomputable def iEnum (K:W.Frag) (ta:TA):TI:=fun σ H R=>ta σ H fun vs H1=>∃ a xs,vs = [.ref a]/\SqL K H1 a xs/\R (Ite K a xs.length) H1
end
theorem iEnum_i {K:W.Frag} {σ:St} {H:Hp} {ta:TA} {R:It->Hp->Prop} (k:ta σ H fun vs H1=>∃ a xs,vs = [.ref a]/\SqL K H1 a xs/\R (Ite K a xs.length) H1):iEnum K ta σ H R:=k
open PySem PySem.Spec PyProof.Rows PySem.W
noncomputable def RawD (h:Heap) (a:Addr) (es:Array DictEntry) (ep:Nat):Prop:=∃ o,h.get? a = some o/\o.ExactDict/\o.data = .dict es ep
theorem RawD.ty {s:Shared} {a:Addr} {es:Array DictEntry} {ep:Nat} (x:RawD s.heap a es ep):s.TypeIs (.ref a) "dict":=let ⟨o,p,c,_⟩:=x; ⟨o,p,c.1⟩
section
variable {prog:Program} {w:World} {A:Around} {E:Value->Shared->Prop} {s:Shared} {d:Addr} {es:Array DictEntry} {ep:Nat}
theorem c8m {Q:Value->Shared->Prop} (hd:(d == sysModules) = false) (hm:RawD s.heap d es ep)
  (hQ:Q (.ref s.heap.objs.size) { s with heap:=s.heap.push { cls:=.type "dict_keyiterator",data:=.fields #[.ref d,.int 0 0,.int es.size 0,.int ep 0] } }):wpAny (model prog w) A (pyIter (.ref d)) Q E s:=by
 obtain ⟨o,ho,hc,hdat⟩:=id hm
 refine wpAny_pyIter_slot hm.ty F.slot_dict_iter (wpAny_call_entry F.slot_dict_iter hm.ty F.entry_dict_iter ?_ (F.args_dict_iter_1 _))
 (unfold Builtin.«dict.__iter__»; refine wpAny_bind ?_; unfold Builtin.Dict.dictSlotNone; refine wpAny_bind (wpAny_notOrdered_dict hm.ty ?_); show wpAny _ _ (pure (Value.ref d)) _ _ s; refine wpAny_pure ?_)
 (show wpAny _ _ (Builtin.Dict.showsAll d >>= _) _ _ s; unfold Builtin.Dict.showsAll; rw [if_neg (by rw [hd]; exact Bool.false_ne_true)]; refine wpAny_bind (wpAny_pure (wpAny_bind (wpAny_dictEntries ho hdat (wpAny_bind (wpAny_dictEpoch ho hdat ?_))))))
 refine wpAny_bind (wpAny_newObj_type (wpAny_pure ⟨_,rfl,"dict_keyiterator",_,⟨_,Heap.get?_push_size _ rfl,rfl⟩,F.slot_dict_keyiterator_next.lookup,by simpa [rawInt] using hQ⟩))
theorem c0b {it:Addr} {i:Nat} {Q:Option Value->Shared->Prop} (hit:s.heap.IsKeyIter it d i es.size ep) (hm:RawD s.heap d es ep) (hlt:i < es.size)
  (hQ:∀ h',h'.IsKeyIter it d (i + 1) es.size ep->Heap.SameBut it s.heap h'->Q (some es[i].key) { s with heap:=h' }):wpAny (model prog w) A (pyNext (.ref it)) Q E s:=by
 obtain ⟨o,ho,hc,hd⟩:=id hit
 obtain ⟨od,hod,hcd,hdd⟩:=id hm
 (unfold pyNext; refine wpAny_bind (wpAny_attempt (wpAny_callSpecial?_slot (name:=Str.ofString "__next__") hit.typeIs F.slot_dict_keyiterator_next (wpAny_call_entry F.slot_dict_keyiterator_next hit.typeIs F.entry_dict_keyiterator_next ?_ (F.args_dict_keyiterator_next_1 _)))))
 (refine wpAny_bind (wpAny_pure (wpAny_bind (wpAny_bind ?_))); first | refine wpAny_bind (wpAny_typeNameOfWhole_keyiter hit.typeIs (wpAny_pure ?_)) | refine wpAny_bind (wpAny_typeNameOf_keyiter hit.typeIs (wpAny_pure ?_)))
 refine wpAny_bind (wpAny_fieldsOf ho hd ?_)
 simp only [show Builtin.Dict_items.ownsTuple "dict_keyiterator" = false by decide,Bool.false_eq_true,if_false]
 (show wpAny _ _ (if (Value.ref d == Value.none) = true then _ else _) _ _ s; rw [if_neg (show ¬ ((Value.ref d == Value.none) = true) from Bool.false_ne_true)]; refine wpAny_bind (wpAny_pure (wpAny_bind (wpAny_dictEntries hod hdd ?_))))
 (rw [if_neg (by simp)]; refine wpAny_bind (wpAny_pure (wpAny_bind (wpAny_dictEpoch hod hdd ?_))); rw [if_neg (by simp)]; refine wpAny_pure ?_)
 simp only [show ¬ ((i:Int) < 0) from by omega,if_false,Int.toNat_natCast,Array.getElem?_eq_getElem hlt]
 (refine wpAny_bind ?_; first | refine wpAny_bind (wpAny_typeNameOfWhole_keyiter hit.typeIs (wpAny_pure ?_)) | refine wpAny_bind (wpAny_typeNameOf_keyiter hit.typeIs (wpAny_pure ?_)))
 (refine wpAny_bind (wpAny_isOneOf_keyiter hit.typeIs ?_); show wpAny _ _ (setField (.ref it) 1 (rawInt ((i:Int) + 1)) >>= _) _ _ s; refine wpAny_bind (wpAny_setField ho hd (by simp) ?_))
 have new:(s.heap.update it (Obj.mapFields (·.setIfInBounds 1 (rawInt ((i:Int) + 1))))).IsKeyIter it d (i + 1) es.size ep:=⟨_,Heap.get?_update_self _ ho (Obj.isFreed_of_fields (Obj.data_mapFields hd _)),(Obj.cls_mapFields ..).trans hc,by rw [Obj.data_mapFields hd]; simp [rawInt]⟩
 refine wpAny_bind (wpAny_holding ?_)
 (refine wpAny_bind (wpAny_isOneOf_keyiter (s:={ s with heap:=s.heap.update it (Obj.mapFields (·.setIfInBounds 1 (rawInt ((i:Int) + 1)))) }) new.typeIs ?_))
 (show wpAny _ _ (pure es[i].key) _ _ _; exact wpAny_pure (wpAny_pure ⟨_,rfl,wpAny_pure (hQ _ new (Heap.SameBut.update ..))⟩))
theorem c1l {it:Addr} {Q:Option Value->Shared->Prop} (hh:A.handled = none) (hit:s.heap.IsKeyIter it d es.size es.size ep) (hm:RawD s.heap d es ep)
  (hQ:∀ h',Heap.ExtBut it s.heap h'->Q none { s with heap:=h' }):wpAny (model prog w) A (pyNext (.ref it)) Q E s:=by
 obtain ⟨o,ho,hc,hd⟩:=id hit
 obtain ⟨od,hod,hcd,hdd⟩:=id hm
 (unfold pyNext; refine wpAny_bind (wpAny_attempt (wpAny_callSpecial?_slot (name:=Str.ofString "__next__") hit.typeIs F.slot_dict_keyiterator_next (wpAny_call_entry F.slot_dict_keyiterator_next hit.typeIs F.entry_dict_keyiterator_next ?_ (F.args_dict_keyiterator_next_1 _)))))
 (refine wpAny_bind (wpAny_pure (wpAny_bind (wpAny_bind ?_))); first | refine wpAny_bind (wpAny_typeNameOfWhole_keyiter hit.typeIs (wpAny_pure ?_)) | refine wpAny_bind (wpAny_typeNameOf_keyiter hit.typeIs (wpAny_pure ?_)))
 refine wpAny_bind (wpAny_fieldsOf ho hd ?_)
 simp only [show Builtin.Dict_items.ownsTuple "dict_keyiterator" = false by decide,Bool.false_eq_true,if_false]
 (show wpAny _ _ (if (Value.ref d == Value.none) = true then _ else _) _ _ s; rw [if_neg (show ¬ ((Value.ref d == Value.none) = true) from Bool.false_ne_true)]; refine wpAny_bind (wpAny_pure (wpAny_bind (wpAny_dictEntries hod hdd ?_))))
 (rw [if_neg (by simp)]; refine wpAny_bind (wpAny_pure (wpAny_bind (wpAny_dictEpoch hod hdd ?_))); rw [if_neg (by simp)]; refine wpAny_pure ?_)
 simp only [show ¬ ((es.size:Int) < 0) from by omega,if_false,Int.toNat_natCast,Array.getElem?_eq_none (Nat.le_refl es.size)]
 (refine wpAny_bind ?_; first | refine wpAny_bind (wpAny_typeNameOfWhole_keyiter hit.typeIs (wpAny_pure ?_)) | refine wpAny_bind (wpAny_typeNameOf_keyiter hit.typeIs (wpAny_pure ?_)))
 (show wpAny _ _ (setField (.ref it) 0 .none >>= _) _ _ s; refine wpAny_bind (wpAny_setField ho hd (by simp) ?_); show wpAny _ _ (newExc (.type "StopIteration") [] >>= _) _ _ _; refine wpAny_bind ?_; simp only [newExc,newTuple])
 (refine wpAny_bind (wpAny_newObj_type (wpAny_bind (m:=firstArgMember _ _) (wpAny_of_eq (a:=Value.none) (by first | rfl | (simp only [firstArgMember]; rfl)) (wpAny_newObj_type ?_ (by size_fits)))) (by size_fits)))
 (simp only [raiseNew]; refine wpAny_bind (wpAny_handled ?_); rw [show A.in1.handled = none from hh]; refine wpAny_bind (wpAny_pure (wpAny_throw ?_)); refine wpAny_bind (wpAny_isInstance (T:="StopIteration") (b:=true) ⟨_,Heap.get?_push_size _ rfl,rfl⟩ isSubtype_stop ?_))
 exact wpAny_pure (hQ _ (((Heap.SameBut.update ..).extBut.push _).push _))
end
section
variable {X:Cx}
theorem b1g {α β:Type} {R:α->β->Prop}:∀ {xs:List α} {ys:List β},Paired R xs ys->∀ (i:Nat) (y:β),ys[i]? = some y->∃ x,xs[i]? = some x/\R x y
 | _,_,.nil,i,x,h=>by simp at h
 | _,_,.cons r t,0,x,h=>by simp at h; subst h; exact ⟨_,rfl,r⟩
 | _,_,.cons r t,i + 1,x,h=>by simpa using b1g t i x (by simpa using h)
theorem c5r {P:Program} {w:World} {k:Key} {u:Value} (h:(a1i P w).is k u = true):RelV (kV k) u:=by
 cases u with
 | int i t=>
  cases k with
  | inl j=>
   have e:(Sum.inl i:Key) = Sum.inl j:=(a1i P w).inj _ _ _ (b1e P w i t) h
   cases e
   exact ⟨t,rfl⟩
  | inr x=>exact nomatch (show (Sum.inl i:Key) = Sum.inr x from (a1i P w).inj _ _ _ (b1e P w i t) h)
 | str x t=>
  cases k with
  | inr j=>
   have e:(Sum.inr x:Key) = Sum.inr j:=(a1i P w).inj _ _ _ (b1f P w x t) h
   cases e
   exact ⟨t,rfl⟩
  | inl i=>exact nomatch (show (Sum.inr x:Key) = Sum.inl i from (a1i P w).inj _ _ _ (b1f P w x t) h)
 | _=>cases k <;> exact absurd (show false = true from h) Bool.false_ne_true
noncomputable def mLstK:List V->Hp->VK->Prop:=fun vs H Q=>∃ a kvs,vs = [.ref a]/\Rd H a (.dK kvs)/\∀ p:Addr,H p = none->Q (.ref p) (upd H p (.lst (kvs.map fun kv=>kV kv.1)))
theorem b4k:∀ {xs:List V} {us:List Value},us.length = xs.length->(∀ (j:Nat) (v:Value),us[j]? = some v->∃ x,xs[j]? = some x/\RelV x v)->Vals xs us
 | [],[],_,_=>.nil
 | x :: r,u :: t,hl,h=>by
  obtain ⟨y,h1,h2⟩:=h 0 u rfl
  simp at h1
  subst h1
  exact .cons h2 (b4k (by simpa using hl) fun j v e=>by simpa using h (j + 1) v (by simpa using e))
 | [],_ :: _,hl,_=>by simp at hl
 | _ :: _,[],hl,_=>by simp at hl
theorem c8n (hc:X.calm = true):a3s X (.type "list") mLstK:=by
 intro pins s σ H vs us Q I r h
 obtain ⟨a,kvs,rfl,ha,q⟩:=h
 obtain ⟨u,rfl,r1⟩:=vals1 r
 cases r1
 obtain ⟨z,lo,xs,rel,dd⟩:=a9q I.hok ha
 obtain ⟨ep,dd⟩:=dd.dictAt
 have hlx:=rel.length
 refine kdl_call (kdl_dict (knd:=a1i X.prog X.w) lo) (I.ok.hd hc) dd (by omega) fun h' tk acc c hk hS hacc=>?_
 refine ⟨.ref s.heap.objs.size,_,I.laid (a:=s.heap.objs.size) (o:=.lst (kvs.map fun kv=>kV kv.1)) (t':=tk) hk (Nat.le_refl _) ⟨by simp; omega,acc.toList,c,?_,by simpa using hS⟩,rfl,q _ (I.hok.fresh (Nat.le_refl _))⟩
 refine b4k (by rw [Array.length_toList,hacc.1,List.length_map,hlx]) fun j v e=>?_
 obtain ⟨k,x,h1,h2⟩:=hacc.2 j v (by rw [<- Array.getElem?_toList]; exact e)
 obtain ⟨kv,h3,h4,h5⟩:=b1g rel j (k,x) h1
 refine ⟨kV k,by rw [List.getElem?_map,h3]; exact congrArg (fun z=>some (kV z)) h4,?_⟩
 exact c5r h2
end
open PySem.AutoSeq1 (wpAny_loadPart')
noncomputable def EqIn (prog:Program) (w:World) (A:Around) (s:Shared) (y x:Value):Prop:=∀ (E:Value->Shared->Prop) (Q:Bool->Shared->Prop),Q true s->wpAny (model prog w) A (eqBool y x) Q E s
section
variable {prog:Program} {w:World} {A:Around} {E:Value->Shared->Prop} {s:Shared}
variable {K:Type} [DecidableEq K] {knd:HeapKind prog w K}
end
section
variable {X:Cx}
end
section
variable {X:Cx}
theorem b3x (K:W.Frag) (hK:X.K = K) {pos:Pos} {es:List Expr} {k:Nat} {t:TGs} {n:Nat} (hc:X.calm = true) (h:PGs X es t)
  (hn:(assignEach es X.env).length = n:=by rfl) (hst:(assignEach es X.env).findIdx? (·.1) = none:=by rfl):PG X (.Tuple es k pos) (gTup K n t):=hK ▸ pg_tup hc h hn hst
end
section
variable {K:W.Frag} {σ:St} {H:Hp} {Q:VK} {D:Ends} {a:Addr} {xs:List V} {n:Nat}
theorem b6e {t:TGs} {N:St->Hp->Prop} (hs:SqT K H a xs) (hl:xs.length = n) (k:t xs σ H N):gTup K n t (.ref a) σ H N:=⟨a,xs,rfl,hs,hl,k⟩
theorem gCons_i {t:TG} {u:TGs} {v:V} {r:List V} {N:St->Hp->Prop} (k:t v σ H fun σ' H'=>u r σ' H' N):gCons t u (v :: r) σ H N:=⟨v,r,rfl,k⟩
theorem gNil_i {N:St->Hp->Prop} (k:N σ H):gNil [] σ H N:=⟨rfl,k⟩
theorem c8o (ys:List V):cutV ys none (some (-1)) = ys.dropLast:=by
 unfold cutV HT.sIx
 simp only [Nat.sub_zero,List.drop_zero]
 rw [List.dropLast_eq_take]
 congr 1
 have:((-1:Int) < 0):=by decide
 simp only [this,if_true]
 omega
end
section
variable {X:Cx}
end
structure QE (X:Cx) (e:Expr) (t:TE):Prop where
 pe:PE X e t
structure QP (X:Cx) (pos:Pos) (keys:List (Option Expr)) (values:List Expr) (trs:List (TE × TE)):Prop where
 pp:PPs X pos keys values trs
structure QS (X:Cx) (st:Stmt) (t:TS):Prop where
 ps:PS X st t
structure QSs (X:Cx) (l:List Stmt) (t:TS):Prop where
 pss:PSs X l t
section
variable {X:Cx} {pos pos':Pos} {e k v:Expr} {te tk tv:TE} {st:Stmt} {rest:List Stmt} {t u:TS}
theorem b6f:QP X pos [] [] []:=⟨pps_nil⟩
theorem a1u {ks:List (Option Expr)} {vs:List Expr} {trs:List (TE × TE)} (hk:PE X k tk) (hv:PE X v tv) (hr:QP X pos ks vs trs):QP X pos (some k :: ks) (v :: vs) ((tk,tv) :: trs):=⟨c7y hk hv hr.pp⟩
theorem b3y {keys:List (Option Expr)} {values:List Expr} {trs:List (TE × TE)} (h:QP X pos keys values trs) (hall:keys.all (·.isSome) = true) (hl:keys.length = values.length) (h0:keys ≠ []) (h15:keys.length<=15):QE X (.Dict keys values pos) (tDisp trs):=⟨pe_disp h.pp hall hl h0 h15⟩
theorem c5s {i:Nat} {x:Str} (hN:X.N.Nodup) (hi:X.N[i]? = some x) (hx:Loc X.env.scope x) (he:QE X e te) (hs:swapsWith e (some (.Name x pos')) pos.line X.env = pure false) (hf:X.fn x = true\/X.env.scope.names.lookup x = some .local):QS X (.Assign [.Name x pos'] e pos) (tAsg te (b5i i)):=⟨a0r hN hi hx he.pe hs hf⟩
theorem c5t (K:W.Frag) (hK:X.K = K) {o:Expr} {to:TE} {apos cpos:Pos} (ho:PE X o to) (he:QE X e te)
  (hbase:attributeBase o "update" X.env (eval o X.env) = eval o X.env)
  (hfew:((backTo cpos (starEach [e] X.env)).all (fun x=>!x.1) && (backToKw cpos (keywordEach [] X.env)).all (fun x=>x.1.isSome) && decide (([e]:List Expr).length + ([]:List Keyword).length + (if ([]:List Keyword).isEmpty then 0 else 1) < 30)) = true)
  (hline:(apos.endLine == cpos.line) = true) (hs:starEach [e] X.env = (false,eval e X.env) :: starEach [] X.env) (hplain:(backTo cpos (starEach [] X.env)).any (·.1) = false) (hsw:swapsWith (.Call (.Attribute o "update" apos) [e] [] cpos) none pos.line X.env = pure false) :
  QS X (.Expr (.Call (.Attribute o "update" apos) [e] [] cpos) pos) (tDrop (tBM K "dict" mUpd to (b5o te tNil))):=
 ⟨a1e (a9s K hK F.plainAttrs_dict F.slot_dict_update F.type_dict_update c5n ho (b6t he.pe a0c hs) hbase hfew hline hs hplain) hsw⟩
theorem a2y (h1:QS X st t) (h2:QSs X rest u):QSs X (st :: rest) (tSeq t u):=⟨a0e h1.ps h2.pss⟩
theorem a6u (h1:QS X st t):QSs X [st] t:=⟨a0g h1.ps⟩
end
section
variable {X:Cx} {pos:Pos} {e:Expr} {te:TE}
end
section
variable {X:Cx} {tg:Expr}
noncomputable def iSeq (K:W.Frag) (tl:TE):TI:=fun σ H R=>tl σ H fun x H1=>∃ a,x = .ref a/\((∃ xs,SqL K H1 a xs/\R (Itl K a) H1)\/∃ xs,SqT K H1 a xs/\R (Itt K a) H1)
theorem b6z (K:W.Frag) (hK:X.K = K) {l:Expr} {tl:TE} (hl:PE X l tl):PI X tg l (iSeq K tl):=by
 subst hK
 intro pins s σ H R I h
 refine thn (hl pins s σ H _ I h) fun v s1 ⟨x,H1,I1,r1,q1⟩=>?_
 obtain ⟨a,e,q1⟩:=q1
 subst e
 cases r1
 rcases q1 with ⟨xs,hq,q⟩ | ⟨xs,hq,q⟩
 ·obtain ⟨its,rv,p,hz⟩:=I1.list hq
  refine wpAny_pyIter_list p.isList ?_
  refine ⟨s1.heap.objs.size,[s1.heap.objs.size],_,_,H1,rfl,I1.kept (t':=s1.toks) fun b o e=>Heap.get?_push_of_some _ e,b7h a _,⟨_,Heap.get?_push_size _ rfl,rfl,rfl⟩,fun b hb=>?_,q⟩
  have e:b = s1.heap.objs.size:=by simpa using hb
  subst e
  exact I1.fpOk (Nat.le_refl _) (I1.hok.fresh (Nat.le_refl _))
 ·obtain ⟨its,rv,p,hz⟩:=I1.tuple hq
  refine wpAny_pyIter_tuple (show s1.heap.IsTuple a its.toArray from p) ?_
  refine ⟨s1.heap.objs.size,[s1.heap.objs.size],_,_,H1,rfl,I1.kept (t':=s1.toks) fun b o e=>Heap.get?_push_of_some _ e,b5j a _,⟨_,Heap.get?_push_size _ rfl,rfl,rfl⟩,fun b hb=>?_,q⟩
  have e:b = s1.heap.objs.size:=by simpa using hb
  subst e
  exact I1.fpOk (Nat.le_refl _) (I1.hok.fresh (Nat.le_refl _))
theorem c5u {K:W.Frag} {σ:St} {H:Hp} {ta:TE} {R:It->Hp->Prop} (k:ta σ H fun x H1=>∃ a,x = .ref a/\((∃ xs,SqL K H1 a xs/\R (Itl K a) H1)\/∃ xs,SqT K H1 a xs/\R (Itt K a) H1)):iSeq K ta σ H R:=k
noncomputable def mAbs:List V->Hp->VK->Prop:=fun vs H Q=>∃ i,vs = [.int i]/\Q (.int (if i < 0 then -i else i)) H
theorem mAbs_i {i:Int} {H:Hp} {Q:VK} (k:Q (.int (if i < 0 then -i else i)) H):mAbs [.int i] H Q:=⟨i,rfl,k⟩
end
section
variable {M:Model} {A:Around} {E:Value->Shared->Prop}
end
open PySem PySem.W
noncomputable abbrev newS:String:="ValueError.__new__"
structure XCls (K:Frag) (C:Addr) (bm:List Value):Prop where
 obj:∃ nm q N bs sn sub ab col dd k0 k1 k2 k3 k5,K.lookup C = some (excClassObj nm q C N bs bm true sn sub ab col dd k0 k1 k2 k3 k5 newS)
 hasV:bm.contains (.type "ValueError") = true
 hasB:bm.contains (.type "BaseException") = true
 noA:bm.contains (.type "AttributeError") = false
 noN:bm.contains (.type "NameError") = false
section
variable {prog:Program} {w:World} {A:Around} {E:Value->Shared->Prop} {R:Result->Shared->Prop} {h:Heap} {g:Array GenState} {d:Drawn} {t:Nat} {os:OsState}
variable {nm q:Str} {C N:Addr} {bs bm:List Value} {sn:List Str} {sub:List Value} {ab:Bool} {col:Option Bool} {dd:Option Addr} {k0 k1 k2 k3 k5:Option Value}
end
section
variable {prog:Program} {w:World} {A:Around} {E:Value->Shared->Prop} {R:Result->Shared->Prop} {h:Heap} {g:Array GenState} {d:Drawn} {t:Nat} {os:OsState} {K:Frag} {C e:Addr} {bm:List Value} {o:Obj} {vs:Array Value}
noncomputable def XUp (bm:List Value):Prop:=∃ l:List Value,(∀ v ∈ l,∃ a,v = Value.ref a)/\bm = l ++ [.type "ValueError",.type "Exception",.type "BaseException",.type "object"]
end
noncomputable def XFp (e C:Addr) (dx:Option Addr) (fr:Bool) (h:Heap):Prop:=∃ o vs t0 x,h.get? e = some o/\o.cls = .ref C/\o.dict = dx/\o.data = .fields vs/\vs[0]? = some (Value.ref t0)/\vs[1]? = some x/\(fr = true->x = .none)/\vs[2]? = some Value.none
noncomputable def XF (e C:Addr) (dx:Option Addr) (fr:Bool):HO:=.ext (XFp e C dx fr)
section
variable {X:Cx} {pins:List (Addr × Obj)} {σ:St} {H:Hp} {s:Shared}
end
section
variable {P:Program} {w:World} {K:Frag} {mg:Str->Option Value} {base:Heap} {N:List Str} {qual:Str} {scope:Scope} {f:Addr} {cd:Value} {A:Around} {outer:List Env} {s:Shared} {H:Hp} {E:XK}
end
section
variable {X:Cx} {pins:List (Addr × Obj)} {σ:St} {H:Hp} {s:Shared} {pos apos np:Pos} {a b o e value:Expr} {es:List Expr} {t:TA} {te ta tv:TE} {f x:Str}
noncomputable def tBInit (K:Frag) (t:TA):TE:=fun σ H Q=>t σ H fun vs H2=>∃ e C dx fr bm y,vs = [.ref e,y]/\H2 e = some (XF e C dx fr)/\XCls K C bm/\Q .non H2
structure b8y (K:Frag) (C:Addr):Prop where
 ga:findIn K (.ref C) "__getattribute__" = some (some (.builtin "BaseException.__getattribute__"))
 gx:findIn K (.ref C) "__getattr__" = some none
 sa:findIn K (.ref C) "__setattr__" = some (some (.builtin "object.__setattr__"))
noncomputable def tXSet (K:Frag) (ta tv:TE) (f:Str):TS:=fun D σ H=>tv σ H fun y H1=>ta σ H1 fun x H2=>∃ e C bm fr,x = .ref e/\XCls K C bm/\XUp bm/\b8y K C/\a3h K C f /\
 ((H2 e = some (XF e C none fr)/\∀ dx,H2 dx = none->dx ≠ e->D.nx σ (upd (upd H2 dx (.xd [(f,y)])) e (XF e C (some dx) fr)))\/(∃ dx fs,H2 e = some (XF e C (some dx) fr)/\H2 dx = some (.xd fs)/\fs.length<=900/\D.nx σ (upd H2 dx (.xd (putF f y fs)))))
noncomputable def tXGet (K:Frag) (ta:TE) (f:Str):TE:=fun σ H Q=>ta σ H fun x H1=>∃ e C bm dx fs fr v,x = .ref e/\H1 e = some (XF e C (some dx) fr)/\XCls K C bm/\b8y K C/\a3h K C f/\H1 dx = some (.xd fs)/\fs.lookup f = some v/\Q v H1
end
section
variable {X:Cx} {CX:CXT} {k:Nat} {f C:Addr} {fd:FuncData} {ps:List Str} {sp:Sp} {dvs:List V} {ds:List Value} {E:XK} {x m:Str} {p pos apos np:Pos} {e o:Expr} {es:List Expr} {ta te:TE} {t:TA} {bm:List Value}
noncomputable def tXMake (C:Addr) (sp:Sp) (dvs:List V) (E:XK) (t:TA):TE:=fun σ H Q=>t σ H fun vs H1=>vs.length<=1000/\∀ e,H1 e = none->sp (.ref e :: (vs ++ dvs)) (upd H1 e (XF e C none true)) (fun v H2=>v = .non/\Q (.ref e) H2) E
noncomputable def tRaise (EX:XK) (K:Frag) (te:TE):TS:=fun _ σ H=>te σ H fun v H1=>∃ e C dx bm,v = .ref e/\XCls K C bm/\H1 e = some (XF e C dx true)/\EX (.ref C) (some e) (upd H1 e (XF e C dx false))
end
section
variable {X:Cx} {pins:List (Addr × Obj)} {σ:St} {H:Hp} {s:Shared} {ea:Addr}
end
section
variable {X:Cx} {k:Nat} {f C':Addr} {fd:FuncData} {ps:List Str} {sp:Sp} {dvs:List V} {ds:List Value} {x y nm cx:Str} {p pos apos cp hpos py tpos:Pos} {e:Expr} {es:List Expr} {t:TA} {bm':List Value} {b0:Stmt} {suite:List Stmt} {ts:TS} {i n:Nat}
noncomputable def tTry (K:Frag) (C':Addr) (sp:Sp) (dvs:List V) (t:TA) (ok:Ends->St->V->Hp->Prop) (hd:Ends->St->Addr->Hp->Prop):TS:=fun D σ H=>t σ H fun vs H1=>sp (vs ++ dvs) H1 (fun v H2=>ok D σ v H2) (fun c eo H2=>∀ ea,eo = some ea->∃ C dx bm,c = .ref C/\H2 ea = some (XF ea C dx false)/\XCls K C bm/\(Value.ref C :: bm).contains (.ref C') = true/\hd D σ ea H2)
end
structure FunD (K:Frag) (x qual:Str) (st:Stmt) (f:Addr) (fd:FuncData) (dV:Value):Prop where
 ex:∃ (oc:Value) (od:Option Addr) (kV doc pm:Value) (an:Option Addr) (cdv ct:Value) (osl:Array (Option Value)),
  fd = fnOf x qual (a0w st) (a0v st) (a0j st) dV kV doc pm an cdv ct/\K.lookup f = some ⟨oc,od,.func fd,osl⟩/\codeIn K cdv qual = true
 kp:keepIn K (.ref f) = true
section
variable {P:Program} {w:World} {K:Frag} {mg:Str->Option Value} {base:Heap}
end
end L2
namespace Att
open PySem PySem.W PySem.Calls PyProof.Rows
end Att
namespace L2
open PySem PySem.Spec PyProof.Rows
open PySem PySem.Spec PyProof.Rows PySem.W
section
variable {X:Cx}
theorem b7a (K:Frag) (h:X.K = K):OpR X (compareOp .NotIn) (rIn K true):=h ▸ b9m
end
theorem b4r (x:Str):∀ xs:List Str,inV (.str x) (xs.map V.str) = decide (x ∈ xs)
 | []=>by simp [inV]
 | y :: r=>by
  have ih:=b4r x r
  unfold inV at ih ⊢
  rw [List.map_cons,List.any_cons,ih]
  by_cases h:y = x
  ·subst h; simp [eqV]
  ·have h2:x ≠ y:=fun z=>h z.symm
   simp [eqV,h,h2]
theorem c0c (xs:List Str):(xs.map V.str).all a9p = true:=by
 rw [List.all_eq_true]
 intro v hv
 obtain ⟨x,_,rfl⟩:=List.mem_map.mp hv
 rfl
theorem a8x {K:Frag} {H:Hp} {Q:VK} {p:Addr} {x:Str} (xs:List Str) (h:SqL K H p (xs.map V.str)\/SqT K H p (xs.map V.str)) (k:Q (.bl (decide (x ∈ xs))) H):rIn K false (.str x) (.ref p) H Q:=⟨p,_,rfl,h,rfl,c0c xs,by rw [b4r]; exact k⟩
theorem b2j {K:Frag} {H:Hp} {Q:VK} {p:Addr} {x:Str} (xs:List Str) (h:SqL K H p (xs.map V.str)\/SqT K H p (xs.map V.str)) (k:Q (.bl (!decide (x ∈ xs))) H):rIn K true (.str x) (.ref p) H Q:=⟨p,_,rfl,h,rfl,c0c xs,by rw [b4r]; exact k⟩
section
variable {K:Frag} {σ:St} {H:Hp} {Q:VK} {D:Ends} {t:TA} {te ta tv:TE} {f:Str} {sp:Sp} {dvs:List V} {E EX:XK} {C C':Addr}
theorem c8p (k:te σ H fun v H1=>∃ e C dx bm,v = .ref e/\XCls K C bm/\H1 e = some (XF e C dx true)/\EX (.ref C) (some e) (upd H1 e (XF e C dx false))):tRaise EX K te D σ H:=k
theorem c8q (k:t σ H fun vs H1=>vs.length<=1000/\∀ e,H1 e = none->sp (.ref e :: (vs ++ dvs)) (upd H1 e (XF e C none true)) (fun v H2=>v = .non/\Q (.ref e) H2) E):tXMake C sp dvs E t σ H Q:=k
theorem tTry_i {ok:Ends->St->V->Hp->Prop} {hd:Ends->St->Addr->Hp->Prop} (k:t σ H fun vs H1=>sp (vs ++ dvs) H1 (fun v H2=>ok D σ v H2) (fun c eo H2=>∀ ea,eo = some ea->∃ C dx bm,c = .ref C/\H2 ea = some (XF ea C dx false)/\XCls K C bm/\(Value.ref C :: bm).contains (.ref C') = true/\hd D σ ea H2)):tTry K C' sp dvs t ok hd D σ H:=k
theorem tXGet_i (k:ta σ H fun x H1=>∃ e C bm dx fs fr v,x = .ref e/\H1 e = some (XF e C (some dx) fr)/\XCls K C bm/\b8y K C/\a3h K C f/\H1 dx = some (.xd fs)/\fs.lookup f = some v/\Q v H1):tXGet K ta f σ H Q:=k
theorem c8r (k:t σ H fun vs H2=>∃ e C dx fr bm y,vs = [.ref e,y]/\H2 e = some (XF e C dx fr)/\XCls K C bm/\Q .non H2):tBInit K t σ H Q:=k
theorem tXSet_i (k:tv σ H fun y H1=>ta σ H1 fun x H2=>∃ e C bm fr,x = .ref e/\XCls K C bm/\XUp bm/\b8y K C/\a3h K C f /\
 ((H2 e = some (XF e C none fr)/\∀ dx,H2 dx = none->dx ≠ e->D.nx σ (upd (upd H2 dx (.xd [(f,y)])) e (XF e C (some dx) fr)))\/(∃ dx fs,H2 e = some (XF e C (some dx) fr)/\H2 dx = some (.xd fs)/\fs.length<=900/\D.nx σ (upd H2 dx (.xd (putF f y fs)))))):tXSet K ta tv f D σ H:=k
end
noncomputable def rowS:Str:=Str.ofString "row"
noncomputable def IsX (H:Hp) (ea C:Addr) (fs:List (Str × V)):Prop:=∃ dx,H ea = some (XF ea C (some dx) false)/\H dx = some (.xd fs)
structure RoomN (k:Nat) (A:Around):Prop where
 dp:A.depth + 3 * k + 5 < recursionLimit
 un:A.units + 16 * k + 200 < cLine
structure FnOkN (P:Program) (w:World) (K:Frag) (mg:Str->Option Value) (base:Heap) (k:Nat) (f:Addr) (fd:FuncData) (ps:List Str) (sp:Sp):Prop where
 len:∀ vs H Q E,sp vs H Q E->vs.length = ps.length
 run:∀ (A:Around) (outer:List Env) (s:Shared) (H:Hp) (args:Args) (us:List Value) (vs:List V) (Q:VK) (E:XK),RoomN k A->Env0 P w K mg base A outer s H->BindsTo s fd args (ps.zip us)->Vals vs us->sp vs H Q E ->
  codeAny (model P w) A (.call (.ref f) args) (CR CX0 outer P w H s Q E) s
section
variable {P:Program} {w:World} {K:Frag} {mg:Str->Option Value} {base:Heap} {N ps:List Str} {qual:Str} {scope:Scope} {f:Addr} {cd:Value} {A:Around} {outer:List Env} {s s1:Shared} {H:Hp} {E:XK} {us:List Value} {vs:List V}
end
section
variable {X:Cx} {k:Nat} {f:Addr} {fd:FuncData} {ps:List Str} {sp:Sp} {dvs:List V} {ds:List Value} {x:Str} {p pos:Pos} {e:Expr} {es:List Expr} {t:TA}
end
section
variable {prog:Program} {w:World} {A:Around} {E:Value->Shared->Prop} {s:Shared} {K:Frag} {C e:Addr} {bm:List Value} {ox od:Obj}
end
section
variable {X:Cx}
theorem tPar_i {i j:Nat} {ta:TA} {D:Ends} {σ:St} {H:Hp} (k:ta σ H fun vs H1=>∃ v w,vs = [v,w]/\D.nx ((σ.set i (some v)).set j (some w)) H1):tPar i j ta D σ H:=k
end
section
variable {X:Cx} {pins:List (Addr × Obj)} {σ:St} {H:Hp} {s:Shared} {h':Heap}
end
noncomputable def Izp (K:W.Frag) (a b:Addr) (n m:Nat):It:=⟨fun i H=>i < min n m/\∃ xs ys,SqL K H a xs/\SqL K H b ys/\xs.length = n/\ys.length = m,fun i H v H'=>∃ T x y,H T = none/\v = .ref T/\H' = upd H T (.tup [x,y])/\(∀ xs,SqL K H a xs->xs[i]? = some x)/\(∀ ys,SqL K H b ys->ys[i]? = some y),fun i H=>i = min n m/\∃ xs ys,SqL K H a xs/\SqL K H b ys/\xs.length = n/\ys.length = m⟩
section
variable {X:Cx}
noncomputable def iZip (K:W.Frag) (ta:TA):TI:=fun σ H R=>ta σ H fun vs H1=>∃ a b xs ys,vs = [.ref a,.ref b]/\SqL K H1 a xs/\SqL K H1 b ys/\R (Izp K a b xs.length ys.length) H1
end
theorem iZip_i {K:W.Frag} {σ:St} {H:Hp} {ta:TA} {R:It->Hp->Prop} (k:ta σ H fun vs H1=>∃ a b xs ys,vs = [.ref a,.ref b]/\SqL K H1 a xs/\SqL K H1 b ys/\R (Izp K a b xs.length ys.length) H1):iZip K ta σ H R:=k
section
variable {X:Cx} {pos:Pos} {e:Expr} {te:TE}
noncomputable def tF3i (te:TE):TE:=fun σ H Q=>te σ H fun x H1=>∃ i:Int,x = .int i/\i.natAbs.log2 < 1920/\(Str.ofString (toString i)).length<=100/\∀ z:Str,Q (.str z) H1
theorem tF3i_i {σ:St} {H:Hp} {Q:VK} (k:te σ H fun x H1=>∃ i:Int,x = .int i/\i.natAbs.log2 < 1920/\(Str.ofString (toString i)).length<=100/\∀ z:Str,Q (.str z) H1):tF3i te σ H Q:=k
end
noncomputable def onX (H:Hp) (C:Addr) (E:XK):Prop:=∀ ea H',Same H H'->IsX H' ea C [(rowS,.int 0)]->E (.ref C) (some ea) H'
section
variable {X:Cx} {es rest:List Expr} {k:Nat} {pos:Pos} {env:Env} {te:TE} {t:TA}
noncomputable def notStar:Expr->Bool
 | .Starred _ _=>false
 | _=>true
theorem c0d {e:Expr} (h:notStar e = true):starEach (e :: rest) env = (false,eval e env) :: starEach rest env:=by
 rw [starEach]
 intro a p z
 rw [z] at h
 cases h
theorem a0a {e:Expr} (ha:PE X e te) (hr:PA X rest t) (h:notStar e = true:=by rfl):PA X (e :: rest) (b5o te t):=b6t ha hr (c0d h)
theorem c5v {n:Option Expr} {l:Nat}:swapsWith (.Tuple es k pos) n l env = pure false:=rfl
theorem b3g {n:Option Expr} {l:Nat}:swapsWith (.List es pos) n l env = pure false:=rfl
theorem a2o {a b:Expr} {op:Operator} {n:Option Expr} {l:Nat}:swapsWith (.BinOp a op b pos) n l env = pure false:=rfl
theorem c0e {a b:Expr} {n:Option Expr} {l:Nat}:swapsWith (.Subscript a b pos) n l env = pure false:=rfl
theorem a1x {a:Expr} {kw:List Keyword} {n:Option Expr} {l:Nat}:swapsWith (.Call a es kw pos) n l env = pure false:=rfl
end
structure QA (X:Cx) (es:List Expr) (t:TA):Prop where
 pa:PA X es t
section
variable {X:Cx} {a b e:Expr} {es rest:List Expr} {k:Nat} {pos pos':Pos} {te ta tb:TE} {t:TA} {u v:TS} {st:Stmt} {x:Str}
theorem b2k (h:PE X e te):QE X e te:=⟨h⟩
theorem a9a (h:PS X st u):QS X st u:=⟨h⟩
theorem b3h:QA X [] tNil:=⟨a0c⟩
theorem a6z (ha:QE X e te) (hr:QA X rest t) (h:notStar e = true):QA X (e :: rest) (b5o te t):=⟨b6t ha.pe hr.pa (c0d h)⟩
theorem b3i (h:QA X es t):QE X (.Tuple es k pos) (tTup t):=⟨a0z h.pa⟩
theorem c5w (he:QE X e te):QS X (.Return (some e) pos) (tRet te):=⟨a0p he.pe⟩
theorem b2l {c:Expr} {l m:List Stmt} {tc:TT} (hc:PT X c tc) (ha:QSs X l u) (hb:QSs X m v):QS X (.If c l m pos) (tIfS tc u v):=⟨a1b hc ha.pss hb.pss⟩
theorem a8y:QSs X [] tNext:=⟨a0x⟩
end
section
variable {X:Cx}
end
section
variable {X:Cx} {pos:Pos} {e:Expr} {te:TE}
noncomputable def tFr (te:TE):TE:=fun σ H Q=>te σ H fun x H1=>∃ y,x = .str y/\(∀ c ∈ y.cps.toList,c < 16 ^ 8)/\y.length<=5000/\∀ z:Str,Q (.str z) H1
theorem tFr_i {σ:St} {H:Hp} {Q:VK} (k:te σ H fun x H1=>∃ y,x = .str y/\(∀ c ∈ y.cps.toList,c < 16 ^ 8)/\y.length<=5000/\∀ z:Str,Q (.str z) H1):tFr te σ H Q:=k
noncomputable def tF2 (te:TE):TE:=fun σ H Q=>te σ H fun x H1=>∃ y,x = .str y/\y.length<=5000/\∀ z:Str,Q (.str z) H1
theorem tF2_i {σ:St} {H:Hp} {Q:VK} (k:te σ H fun x H1=>∃ y,x = .str y/\y.length<=5000/\∀ z:Str,Q (.str z) H1):tF2 te σ H Q:=k
end
namespace FD
end FD
section
variable {prog:Program} {w:World} {A:Around} {R:Result->Shared->Prop}
noncomputable def c0f {K:Type} [DecidableEq K] (knd:PySem.KeyKind prog w K) (ts:List Addr) (kvs:List (K × Value)) (h:Heap):Prop:=∀ (i:Nat) (T:Addr),ts[i]? = some T->∃ (kk:K) (key val:Value),kvs[i]? = some (kk,val)/\knd.is kk key = true/\IsTup h T #[key,val]
theorem c0f.keep {K:Type} [DecidableEq K] {knd:PySem.KeyKind prog w K} {ts:List Addr} {kvs:List (K × Value)} {h h':Heap} (x:c0f knd ts kvs h) (k:∀ T ∈ ts,∀ o,h.get? T = some o->h'.get? T = some o):c0f knd ts kvs h':=fun i T e=>by
 obtain ⟨kk,key,val,e1,e2,o,ho,r⟩:=x i T e
 exact ⟨kk,key,val,e1,e2,o,k T (List.mem_of_getElem? e) o ho,r⟩
end
section
variable {X:Cx}
end
section
variable {X:Cx}
end
noncomputable abbrev Rws:=List (Str × Trm)
noncomputable def PutsOk (K:Frag) (H:Hp) (kvs:List (Key × V)) (rows:Rws):Prop:=Paired (fun (p:Key × V) (q:Str × Trm)=>p.1 = Sum.inr q.1/\Den K H p.2 q.2.data) kvs rows
noncomputable def lookR (rows:Rws) (x:Str):Option Trm:=(rows.find? fun r=>decide (r.1 = x)).map (·.2)
noncomputable def putR (rows:Rws) (x:Str) (t:Trm):Rws:=if (rows.any fun r=>decide (r.1 = x)) = true then rows.map (fun r=>if r.1 = x then (r.1,t) else r) else rows ++ [(x,t)]
section
variable {K:Frag} {H H':Hp} {kvs:List (Key × V)} {rows:Rws}
end
section
variable {X:Cx} {pins:List (Addr × Obj)} {σ:St} {H:Hp} {s:Shared}
theorem c8s {ks:List Trm} {t:Trm} (h:t ∈ ks):t.size<=Trm.sizeL ks:=by
 obtain ⟨a,b,rfl⟩:=List.append_of_mem h
 rw [Trm.sizeL_app,Trm.sizeL]
 omega
end
section
variable {X:Cx}
end
section
variable {prog:Program} {w:World} {A:Around} {E:Value->Shared->Prop} {s:Shared}
theorem c3f {it l:Addr} {i:Nat} {items} {x:Value} {Q:Value->Shared->Prop} (hit:s.heap.IsTupleIter it l i)
  (hl:s.heap.IsTuple l items) (hx:items[i]? = some x)
  (hQ:∀ h',h'.IsTupleIter it l (i + 1)->Heap.SameBut it s.heap h'->Q x { s with heap:=h' }) :
  wpAny (model prog w) A (Builtin.SmallTypes.nextOf (.ref it)) Q E s:=by
 obtain ⟨o,ho,hc,hd⟩:=id hit
 obtain ⟨ol,hol,_,nl,hdl⟩:=hl
 unfold Builtin.SmallTypes.nextOf
 refine wpAny_bind (wpAny_callSpecial?_slot (name:=Str.ofString "__next__") hit.typeIs F.slot_tuple_iterator_next
  (wpAny_call_entry F.slot_tuple_iterator_next hit.typeIs F.entry_tuple_iterator_next ?_ (F.args_tuple_iterator_next_1 _)))
 show wpAny _ _ (field (.ref it) 0 >>= _) _ _ s
 refine wpAny_bind (wpAny_field ho hd (x:=.ref l) rfl ?_)
 show wpAny _ _ (if (Value.ref l == Value.none) = true then _ else _) _ _ s
 rw [if_neg (show ¬ ((Value.ref l == Value.none) = true) from Bool.false_ne_true)]
 show wpAny _ _ (field (.ref it) 1 >>= _) _ _ s
 refine wpAny_bind (wpAny_field ho hd (x:=.int i 0) rfl ?_)
 show wpAny _ _ (seqItems? (.ref l) >>= _) _ _ s
 refine wpAny_bind (wpAny_seqItems hol hdl ?_)
 simp only [Int.toNat_natCast,hx]
 refine wpAny_bind (wpAny_setField ho hd (by simp) (wpAny_pure ⟨x,rfl,wpAny_pure (hQ _ ?_ (Heap.SameBut.update ..))⟩))
 exact ⟨_,Heap.get?_update_self _ ho (Obj.isFreed_of_fields (Obj.data_mapFields hd _)),(Obj.cls_mapFields ..).trans hc,by
  rw [Obj.data_mapFields hd]; simp [rawInt]⟩
theorem c5x {it l:Addr} {i:Nat} {items} {Q:Value->Shared->Prop} (hh:A.handled = none)
  (hit:s.heap.IsTupleIter it l i) (hl:s.heap.IsTuple l items) (hx:items[i]? = none)
  (hE:∀ h' e,Heap.ExtBut it s.heap h'->(∃ o,h'.get? e = some o/\o.cls = .type "StopIteration")->E (.ref e) { s with heap:=h' }) :
  wpAny (model prog w) A (Builtin.SmallTypes.nextOf (.ref it)) Q E s:=by
 obtain ⟨o,ho,hc,hd⟩:=id hit
 obtain ⟨ol,hol,_,nl,hdl⟩:=hl
 unfold Builtin.SmallTypes.nextOf
 refine wpAny_bind (wpAny_callSpecial?_slot (name:=Str.ofString "__next__") hit.typeIs F.slot_tuple_iterator_next
  (wpAny_call_entry F.slot_tuple_iterator_next hit.typeIs F.entry_tuple_iterator_next ?_ (F.args_tuple_iterator_next_1 _)))
 show wpAny _ _ (field (.ref it) 0 >>= _) _ _ s
 refine wpAny_bind (wpAny_field ho hd (x:=.ref l) rfl ?_)
 show wpAny _ _ (if (Value.ref l == Value.none) = true then _ else _) _ _ s
 rw [if_neg (show ¬ ((Value.ref l == Value.none) = true) from Bool.false_ne_true)]
 show wpAny _ _ (field (.ref it) 1 >>= _) _ _ s
 refine wpAny_bind (wpAny_field ho hd (x:=.int i 0) rfl ?_)
 show wpAny _ _ (seqItems? (.ref l) >>= _) _ _ s
 refine wpAny_bind (wpAny_seqItems hol hdl ?_)
 simp only [Int.toNat_natCast,hx]
 refine wpAny_bind (wpAny_rule (wpAny_bind (wpAny_setField ho hd (by simp) ?_)))
 show wpAny _ _ (newExc (.type "StopIteration") [] >>= _) _ _ _
 refine wpAny_bind ?_
 simp only [newExc,newTuple]
 refine wpAny_bind (wpAny_newObj_type ?_ (by size_fits))
 refine wpAny_bind (m:=firstArgMember _ _) (wpAny_of_eq (a:=Value.none) (by first | rfl | (simp only [firstArgMember]; rfl)) ?_)
 refine wpAny_newObj_type ?_ (by size_fits)
 simp only [raiseNew]
 refine wpAny_bind (wpAny_handled ?_)
 first | rw [show A.in1.handled = none from hh] | rw [hh]
 refine wpAny_bind (wpAny_pure (wpAny_throw ?_))
 exact hE _ _ (((Heap.SameBut.update ..).extBut.push _).push _) ⟨_,Heap.get?_push_size _ rfl,rfl⟩
noncomputable abbrev IsZipF (h:Heap) (z TI TO:Addr) (f0:Value) (f1:Bool):Prop:=
 h.get? z = some { cls:=.type "zip",dict:=none,data:=.fields #[f0,.bool f1,.bool false,.ref TI,.ref TO],slots:=#[] }
end
section
variable {prog:Program} {w:World} {A:Around} {E:Value->Shared->Prop} {s:Shared}
noncomputable def ZS (h:Heap) (z TI TO i1 i2 t1 t2 S:Addr) (i:Nat):Prop:=
 ((IsZip h z TI TO .none/\∃ a b,IsPair h TO a b)\/∃ (T:Addr) (f1:Bool) (o:Obj),IsZipF h z TI TO (rawInt T) f1/\h.get? T = some o/\T ≠ z/\T ≠ TO/\T ≠ i1/\T ≠ i2/\T ≠ S)/\IsPair h TI (.ref i1) (.ref i2)/\h.IsTupleIter i1 t1 i/\h.IsTupleIter i2 t2 i
end
section
variable {X:Cx} {pins:List (Addr × Obj)} {σ:St}
end
section
variable {X:Cx}
end
noncomputable def Itd (a:Addr) (o:Obj) (kvs:List (Key × V)):It:=⟨fun i H=>i < kvs.length/\H a = some (.frz o (.dK kvs)),fun i H x H'=>H' = H/\∃ k v,kvs[i]? = some (k,v)/\x = kV k,fun i H=>i = kvs.length/\H a = some (.frz o (.dK kvs))⟩
theorem c2k {P:Program} {w:World} {H:Hp} {h:Heap} {a:Addr} {o:Obj} {kvs:List (Key × V)} {es:Array DictEntry} {ep:Nat} (hd:o.data = .dict es ep) (hok:a2e P w H h a (.frz o (.dK kvs))) :
  RawD h a es ep/\es.size = kvs.length/\∀ (i:Nat) (hi:i < es.size),∃ k v,kvs[i]? = some (k,v)/\RelV (kV k) es[i].key:=by
 obtain ⟨ho,z,lo,vs,rel,dd⟩:=hok
 obtain ⟨ep',o',es',ho',hx,hd',hk,hpr,hn⟩:=dd.dictAt
 rw [ho] at ho'
 cases ho'
 rw [hd] at hd'
 cases hd'
 have hsz:es.size = vs.length:=by rw [<- hpr.length]; simp
 have hlx:=rel.length
 refine ⟨⟨o,ho,hx,hd⟩,by omega,fun i hi=>?_⟩
 obtain ⟨p,hp⟩:∃ p,vs[i]? = some p:=⟨vs[i]'(by omega),List.getElem?_eq_getElem (by omega)⟩
 obtain ⟨h1,h2⟩:=hpr.get? (e:=es[i]) (by simp [hi]) hp
 obtain ⟨kv,h3,h4,h5⟩:=b1g rel i p hp
 refine ⟨kv.1,kv.2,h3,?_⟩
 rw [h4]
 exact c5r h1
theorem c5y {P:Program} {w:World} {K:W.Frag} {tg:Expr} (a it:Addr) (o:Obj) (kvs:List (Key × V)) (es:Array DictEntry) (ep:Nat) (hd:o.data = .dict es ep):Turn P w K tg (Itd a o kvs) [it] it (fun i h=>h.IsKeyIter it a i es.size ep) where
 mem:=by simp
 obj:=fun i h st b hb=>by
  have e:b = it:=by simpa using hb
  subst e
  obtain ⟨o,e,c,d⟩:=st
  exact ⟨o,e,fun v z=>by rw [d] at z; cases z⟩
 keep:=fun i h h' st k=>by
  obtain ⟨o,e,c⟩:=st
  exact ⟨o,k it (by simp) o e,c⟩
 item:=by
  intro X hP hw hK hc i pins s σ H E I hf st hg
  subst hP hw hK
  obtain ⟨hi,hH⟩:=hg
  obtain ⟨raw,hsz,hget⟩:=c2k hd (I.hok a _ hH)
  obtain ⟨f0,f1,f2,f3,f4,f5⟩:=hf it (by simp)
  obtain ⟨k,v,h1,h2⟩:=hget i (by omega)
  refine c0b st raw (by omega) fun h' st' sb=>?_
  have I1:Inv X pins σ H { s with heap:=h' }:=I.turned (t':=s.toks) (fun b o hb e=>(sb.2 b hb).trans e) f0 f1 f3 f4 f5
  obtain ⟨o2,e,c,d⟩:=id st'
  exact ⟨_,rfl,b3r (s:={ s with heap:=h' }) e c d (by decide) ⟨kV k,H,I1,h2,⟨rfl,k,v,h1,rfl⟩,st',fun b hb=>(hf b hb).1⟩⟩
 done:=by
  intro X hP hw hK hc i pins s σ H E I hf st hg
  subst hP hw hK
  obtain ⟨f0,f1,f2,f3,f4,f5⟩:=hf it (by simp)
  obtain ⟨hi,hH⟩:=hg
  obtain ⟨raw,hsz,hget⟩:=c2k hd (I.hok a _ hH)
  rw [hi,<- hsz] at st
  exact c1l (I.ok.hd hc) st raw fun h' eb=>⟨rfl,I.turned (t':=s.toks) (fun b o hb e=>eb b o hb e) f0 f1 f3 f4 f5⟩
 self:=fun _ _ _ _ _ st h=>wpAny_pyIter_keyiter st h
theorem c8t {a:Addr} {o:Obj} {kvs:List (Key × V)}:Row (Itd a o kvs) kvs.length (fun i=>((kvs[i]?).map fun p=>kV p.1).getD .non) (fun H=>H a = some (.frz o (.dK kvs))):=⟨fun i H h q=>⟨h,q⟩,fun i H v H' hi q h=>by
 obtain ⟨e,k,x,h1,h2⟩:=h
 refine ⟨e,?_⟩
 rw [h1,h2]
 rfl,fun H q=>⟨rfl,q⟩⟩
section
variable {X:Cx} {tg:Expr}
noncomputable def NFz (X:Cx) (a:Addr):Prop:=∀ o u,X.H₀ a ≠ some (.frz o u)
noncomputable def iDict (NF:Addr->Prop) (tl:TE):TI:=fun σ H R=>tl σ H fun x H1=>∃ a kvs,x = .ref a/\H1 a = some (.dK kvs)/\∀ o,NF a->R (Itd a o kvs) (upd H1 a (.frz o (.dK kvs)))
theorem pi_dict {l:Expr} {tl:TE} (hl:PE X l tl):PI X tg l (iDict (NFz X) tl):=by
 intro pins s σ H R I h
 refine thn (hl pins s σ H _ I h) fun u s1 ⟨x,H1,I1,r1,a,kvs,ex,ha,q⟩=>?_
 subst ex
 cases r1
 obtain ⟨z,lo,vs,rel,dd⟩:=b5q I1.hok ha
 obtain ⟨ep,o,es,ho,hx,hd,hk,hpr,hn⟩:=dd.dictAt
 have nf:NFz X a:=fun o' u' e=>by
  have:=I1.base.frzs a o' u' e
  rw [ha] at this
  cases this
 have I2:Inv X pins σ (upd H1 a (.frz o (.dK kvs))) s1:=I1.write (t':=s1.toks) (h':=s1.heap) (x:=a) (e:=a) (by rw [ha]; exact True.intro) (.inl rfl) (fun b q hb e=>e) ⟨o,ho⟩ ⟨ho,z,lo,vs,rel,dd⟩
 refine c8m lo ⟨o,ho,hx,hd⟩ ?_
 refine ⟨s1.heap.objs.size,[s1.heap.objs.size],_,_,_,rfl,I2.kept (t':=s1.toks) fun b q e=>Heap.get?_push_of_some _ e,c5y a _ o kvs es ep hd,⟨_,Heap.get?_push_size _ rfl,rfl,rfl⟩,fun b hb=>?_,q o nf⟩
 have e:b = s1.heap.objs.size:=by simpa using hb
 subst e
 exact I2.fpOk (Nat.le_refl _) (I2.hok.fresh (Nat.le_refl _))
theorem Inv.thaw {pins:List (Addr × Obj)} {σ:St} {H:Hp} {s:Shared} {a:Addr} {o:Obj} {kvs:List (Key × V)} (I:Inv X pins σ H s) (nf:NFz X a) (hH:H a = some (.frz o (.dK kvs))):Inv X pins σ (upd H a (.dK kvs)) s:=by
 have ne0:∀ b,H b = none->b ≠ a:=fun b h z=>by rw [z,hH] at h; cases h
 have ne1:∀ b u,H b = some u->(∀ o' u',u ≠ .frz o' u')->b ≠ a:=fun b u h n z=>by
  rw [z,hH] at h
  exact n _ _ (Option.some.inj h).symm
 have hok:=I.hok
 refine { I with base:=⟨I.base.keep,I.base.slot,fun b o' g h e=>?_,I.base.there,fun b xs e=>?_,fun b o' u e=>?_,fun b ps e=>?_⟩,free:=?_,freeC:=fun x c e=>?_,pin:=fun p hp=>?_,hok:=fun b u e=>?_ }
 ·have:=I.base.free b o' g h e
  rw [a0n (ne0 b this)]
  exact this
 ·have:=I.base.tups b xs e
  rw [a0n (ne1 b _ this (fun _ _ z=>by cases z))]
  exact this
 ·have:=I.base.frzs b o' u e
  have nb:b ≠ a:=fun z=>by subst z; exact nf o' u e
  rw [a0n nb]
  exact this
 ·obtain ⟨more,this⟩:=I.base.tbls b ps e
  refine ⟨more,?_⟩
  rw [a0n (ne1 b _ this (fun _ _ z=>by cases z))]
  exact this
 ·rw [a0n (ne0 _ I.free)]
  exact I.free
 ·have:=I.freeC x c e
  rw [a0n (ne0 _ this)]
  exact this
 ·obtain ⟨h1,h2,h3⟩:=I.pin p hp
  refine ⟨h1,?_,h3⟩
  rw [a0n (ne0 _ h2)]
  exact h2
 ·by_cases hb:b = a
  ·subst hb
   rw [a0d] at e
   cases e
   exact (hok b _ hH).2
  ·rw [a0n hb] at e
   refine (hok b u e).stay (fun c v _ q=>q) (fun c q=>?_) fun c xs q=>?_
   ·rw [a0n (ne1 c _ q (fun _ _ z=>by cases z))]; exact q
   ·rw [a0n (ne1 c _ q (fun _ _ z=>by cases z))]; exact q
noncomputable def tThaw (NF:Addr->Prop) (t:TS):TS:=fun D σ H=>t { nx:=fun σ' H'=>∃ a o kvs,NF a/\H' a = some (.frz o (.dK kvs))/\D.nx σ' (upd H' a (.dK kvs)),rt:=D.rt,bk:=D.bk,ct:=D.ct } σ H
theorem ps_thaw {st:Stmt} {t:TS} (h:PS X st t):PS X st (tThaw (NFz X) t):=by
 intro pins s σ H D I q
 refine thn (h pins s σ H _ I q) fun f s1 r=>?_
 cases f with
 | next=>
  obtain ⟨σ',H',I',a,o,kvs,nf,hH,q'⟩:=r
  exact ⟨σ',_,I'.thaw nf hH,q'⟩
 | brk=>exact r
 | cont=>exact r
 | ret u=>exact r
end
section
variable {X:Cx}
end
theorem c3g:typeLookup (.type "list_reverseiterator") "__len__" = pure none:=by rw [typeLookup_type,builtinLookup_eq_fast]; kernel_rfl
theorem c8u:typeLookup (.type "list_reverseiterator") "__length_hint__" = pure (some (.builtin "list_reverseiterator.__length_hint__")):=by rw [typeLookup_type,builtinLookup_eq_fast]; kernel_rfl
theorem c5z:typeLookup (.type "reversed") "__len__" = pure none:=by rw [typeLookup_type,builtinLookup_eq_fast]; kernel_rfl
theorem b4s:Manifest.owners.lookup (String.ofList ['d','e','s','r','e','v','e','r'].reverse) = some Manifest.sig_reversed:=by kernel_rfl
theorem a6g:Slot "reversed" "__next__" "reversed.__next__":=
 .of (owner:="reversed") (n:="__next__") (by rw [typeLookup_type,builtinLookup_eq_fast]; kernel_rfl) (by decide +kernel) (by decide +kernel) (by decide +kernel)
  (by first | exact .inl (by decide +kernel) | exact .inr (by decide +kernel)) (by rw [isSubtype_type]; kernel_rfl)
theorem b2t:entryFor table "reversed.__next__" = some Builtin.«reversed.__next__»:=entryFor_of_tree (by kernel_rfl)
theorem b1n (a:Value):argsOk "reversed.__next__" ⟨[a],[]⟩:=by
 unfold argsOk; rw [signature?_of (id:="reversed.__next__") (n:=['_','_','t','x','e','n','_','_']) (o:=['d','e','s','r','e','v','e','r']) (by kernel_rfl) b4s]; kernel_rfl
theorem b3j:Slot "reversed" "__iter__" "reversed.__iter__":=
 .of (owner:="reversed") (n:="__iter__") (by rw [typeLookup_type,builtinLookup_eq_fast]; kernel_rfl) (by decide +kernel) (by decide +kernel) (by decide +kernel)
  (by first | exact .inl (by decide +kernel) | exact .inr (by decide +kernel)) (by rw [isSubtype_type]; kernel_rfl)
theorem b7b (a:Value):argsOk "reversed.__iter__" ⟨[a],[]⟩:=by
 unfold argsOk; rw [signature?_of (id:="reversed.__iter__") (n:=['_','_','r','e','t','i','_','_']) (o:=['d','e','s','r','e','v','e','r']) (by kernel_rfl) b4s]; kernel_rfl
theorem b8d:entryFor table "reversed.__iter__" = some Builtin.«dict_keyiterator.__iter__»:=
 entryFor_alias (id':="dict_keyiterator.__iter__") (by kernel_rfl) (by first | rfl | decide +kernel | (unfold String.splitOn; simp +decide [String.splitOnAux])) (by decide +kernel) (by kernel_rfl)
theorem b0i:Slot "reversed" "__length_hint__" "reversed.__length_hint__":=
 .of (owner:="reversed") (n:="__length_hint__") (by rw [typeLookup_type,builtinLookup_eq_fast]; kernel_rfl) (by decide +kernel) (by decide +kernel) (by decide +kernel)
  (by first | exact .inl (by decide +kernel) | exact .inr (by decide +kernel)) (by rw [isSubtype_type]; kernel_rfl)
theorem b8e:entryFor table "reversed.__length_hint__" = some Builtin.«reversed.__length_hint__»:=entryFor_of_tree (by kernel_rfl)
theorem b7c (a:Value):argsOk "reversed.__length_hint__" ⟨[a],[]⟩:=by
 unfold argsOk; rw [signature?_of (id:="reversed.__length_hint__") (n:="__length_hint__".toList.reverse) (o:=['d','e','s','r','e','v','e','r']) (by kernel_rfl) b4s]; kernel_rfl
theorem c0g:Slot "reversed" "__init__" "object.__init__":=
 .of (owner:="object") (n:="__init__") (by rw [typeLookup_type,builtinLookup_eq_fast]; kernel_rfl) (by decide +kernel) (by decide +kernel) (by decide +kernel)
  (by first | exact .inl (by decide +kernel) | exact .inr (by decide +kernel)) (by rw [isSubtype_type]; kernel_rfl)
theorem c6a:TypeCalled "reversed" "reversed.__new__" "object.__init__":=
 ⟨by decide +kernel,by decide +kernel,⟨_,_,F.mro_reversed⟩,madeBy_type F.mro_reversed F.lookup_reversed_new (by decide +kernel),by decide +kernel,by rw [isSubtype_type]; kernel_rfl,c0g⟩
theorem c3h:typeLookup (.type "tuple") "__reversed__" = pure none:=by rw [typeLookup_type,builtinLookup_eq_fast]; kernel_rfl
noncomputable def IsRv (h:Heap) (a t:Addr) (i:Int):Prop:=∃ o,h.get? a = some o/\o.cls = .type "reversed"/\o.data = .fields #[.ref t,rawInt i]
theorem IsRv.typeIs {s:Shared} {a t:Addr} {i:Int} (x:IsRv s.heap a t i):s.TypeIs (.ref a) "reversed":=let ⟨o,ho,hc,_⟩:=x; ⟨o,ho,hc⟩
theorem IsRv.at {h h':Heap} {a l:Addr} {i:Int} (x:IsRv h a l i) (e:∀ o,h.get? a = some o->h'.get? a = some o):IsRv h' a l i:=let ⟨o,ho,r⟩:=x; ⟨o,e _ ho,r⟩
noncomputable def b6g (t:Addr) (i:Int):Obj:={ cls:=.type "reversed",data:=.fields #[.ref t,rawInt i] }
theorem c6b (t:Addr) (items:Array Value) (hn:(items.size:Int) < 2 ^ 63) :
  Meets (Builtin.«reversed.__new__» ⟨[.type "reversed",.ref t],[]⟩) (fun _ R s=>IsTup s.heap t items/\∀ tk,R (.ok (.ret (.ref s.heap.objs.size))) { s with heap:=s.heap.push (b6g t ((items.size:Int) - 1)),toks:=tk }):=
 .of_wp fun prog w A R s h=>by
  obtain ⟨ht,h⟩:=h
  unfold Builtin.«reversed.__new__»
  refine wpAny_bind (wpAny_of_eq (newClass_reversed _) ?_)
  try dsimp only
  refine wpAny_bind (wpAny_of_eq (a:=()) (by first | rfl | kernel_rfl) ?_)
  refine wpAny_bind (wpAny_of_eq (a:=()) (by first | rfl | kernel_rfl) ?_)
  try dsimp only
  refine wpAny_bind (wpAny_specialOf ht.typeIs c3h ?_)
  try dsimp only
  refine wpAny_bind ?_
  show wpAny _ _ (isInstance (Value.ref t) (.type "dict") >>= _) _ _ _
  refine wpAny_bind (wpAny_isInstance (T:="tuple") (b:=false) ht.typeIs (by rw [isSubtype_type]; kernel_rfl) ?_)
  refine wpAny_ite_split (fun hab=>absurd hab (by decide)) (fun _=>?_)
  refine wpAny_bind (wpAny_specialOf ht.typeIs slot_tuple_getitem.lookup ?_)
  refine wpAny_ite_split (fun _=>?_) (fun hab=>absurd (by decide +kernel) hab)
  refine wpAny_pure ?_
  refine wpAny_ite_split (fun hab=>absurd hab (by decide)) (fun _=>?_)
  refine wpAny_bind (len_tuple ht hn ?_)
  refine wpAny_bind (m:=asInt? _) (wpAny_pure ?_)
  refine wpAny_bind ?_
  show wpAny _ _ (newObj (.type "reversed") (.fields #[.ref t,rawInt ((items.size:Int) - 1)])) _ _ _
  refine wpAny_newObj_type (wpAny_pure ⟨_,rfl,?_⟩)
  exact h _
section
variable {prog:Program} {w:World} {A:Around} {E:Value->Shared->Prop} {s:Shared}
theorem b4g {t:Addr} {items:Array Value} {Q:Value->Shared->Prop} (ht:IsTup s.heap t items) (hn:(items.size:Int) < 2 ^ 63)
  (h:∀ tk,Q (.ref s.heap.objs.size) { s with heap:=s.heap.push (b6g t ((items.size:Int) - 1)),toks:=tk }):wpAny (model prog w) A (call (.type "reversed") [.ref t]) Q E s:=by
 refine callType_new c6a (by decide) (F.typeCall_reversed_1 _) (F.newCall_reversed_1 _) (fun obj=>F.args_object_init_2 obj _) F.entry_reversed_new (c6b t items hn) ⟨ht,fun tk=>?_⟩
 exact ⟨⟨_,Heap.get?_push_size _ rfl,rfl⟩,h tk⟩
theorem c0h {it t:Addr} {i:Nat} {items:Array Value} {x:Value} {Q:Option Value->Shared->Prop} (hit:IsRv s.heap it t (i:Int)) (ht:IsTup s.heap t items) (hi:(i:Int) < 2 ^ 63) (hx:items[i]? = some x)
  (hQ:∀ h' tk,IsRv h' it t ((i:Int) - 1)->Heap.SameBut it s.heap h'->Q (some x) { s with heap:=h',toks:=tk }):wpAny (model prog w) A (pyNext (.ref it)) Q E s:=by
 obtain ⟨o,ho,hc,hd⟩:=id hit
 unfold pyNext
 refine wpAny_bind (wpAny_attempt (wpAny_callSpecial?_slot (name:=Str.ofString "__next__") hit.typeIs a6g
  (wpAny_call_entry a6g hit.typeIs b2t ?_ (b1n _))))
 unfold Builtin.«reversed.__next__»
 refine wpAny_bind (wpAny_of_eq (a:=(Value.ref it,[])) rfl ?_)
 try dsimp only
 refine wpAny_bind (wpAny_field ho hd (x:=.ref t) rfl ?_)
 refine wpAny_bind (wpAny_field ho hd (x:=rawInt (i:Int)) rfl ?_)
 show wpAny _ _ (if (i:Int) < 0 then _ else _) _ _ s
 rw [if_neg (by omega)]
 refine wpAny_bind (wpAny_specialOf ht.typeIs slot_tuple_getitem.lookup ?_)
 refine wpAny_ite_split (fun hab=>absurd hab (by decide)) (fun _=>?_)
 refine wpAny_bind (wpAny_mkInt ?_)
 have hlt:i < items.size:=by
  rcases Nat.lt_or_ge i items.size with z | z
  ·exact z
  ·rw [Array.getElem?_eq_none z] at hx; cases hx
 have hj:seqIndex? (i:Int) items.size = some i:=by
  unfold seqIndex?
  simp
  omega
 refine wpAny_bind (wpAny_attempt (getItem_tuple (s:={ s with toks:=s.toks + 1 }) (j:=i) ht (by omega) hi hj hx ?_))
 refine wpAny_bind (wpAny_field ho hd (x:=rawInt (i:Int)) rfl ?_)
 show wpAny _ _ (setField (.ref it) 1 (rawInt ((i:Int) - 1)) >>= fun _=>ret x) _ _ _
 refine wpAny_bind (wpAny_setField ho hd (by simp) ?_)
 refine wpAny_pure ⟨x,rfl,wpAny_pure (hQ _ _ ?_ (Heap.SameBut.update ..))⟩
 exact ⟨_,Heap.get?_update_self _ ho (Obj.isFreed_of_fields (Obj.data_mapFields hd _)),(Obj.cls_mapFields ..).trans hc,by
  rw [Obj.data_mapFields hd]; simp⟩
theorem c1m {it t:Addr} {Q:Option Value->Shared->Prop} (hh:A.handled = none) (hit:IsRv s.heap it t (-1))
  (hQ:∀ h',Heap.ExtBut it s.heap h'->Q none { s with heap:=h' }):wpAny (model prog w) A (pyNext (.ref it)) Q E s:=by
 obtain ⟨o,ho,hc,hd⟩:=id hit
 unfold pyNext
 refine wpAny_bind (wpAny_attempt (wpAny_callSpecial?_slot (name:=Str.ofString "__next__") hit.typeIs a6g
  (wpAny_call_entry a6g hit.typeIs b2t ?_ (b1n _))))
 unfold Builtin.«reversed.__next__»
 refine wpAny_bind (wpAny_of_eq (a:=(Value.ref it,[])) rfl ?_)
 try dsimp only
 refine wpAny_bind (wpAny_field ho hd (x:=.ref t) rfl ?_)
 refine wpAny_bind (wpAny_field ho hd (x:=rawInt (-1)) rfl ?_)
 show wpAny _ _ (if (-1:Int) < 0 then _ else _) _ _ s
 rw [if_pos (by decide)]
 refine wpAny_bind (wpAny_rule ?_)
 refine wpAny_bind ?_
 show wpAny _ _ (setField (.ref it) 1 (rawInt (-1)) >>= fun _=>setField (.ref it) 0 .none) _ _ _
 refine wpAny_bind (wpAny_setField ho hd (by simp) ?_)
 have ho1:=Heap.get?_update_self (Obj.mapFields (·.setIfInBounds 1 (rawInt (-1)))) ho (Obj.isFreed_of_fields (Obj.data_mapFields hd _))
 have hd1:(Obj.mapFields (fun x=>x.setIfInBounds 1 (rawInt (-1))) o).data = .fields #[.ref t,rawInt (-1)]:=by rw [Obj.data_mapFields hd]; simp
 refine wpAny_setField ho1 hd1 (by simp) ?_
 refine wpAny_bind ?_
 show wpAny _ _ (newExc (.type "StopIteration") [] >>= _) _ _ _
 refine wpAny_bind ?_
 simp only [newExc,newTuple]
 refine wpAny_bind (wpAny_newObj_type ?_ (by size_fits))
 refine wpAny_bind (m:=firstArgMember _ _) (wpAny_of_eq (a:=Value.none) (by first | rfl | (simp only [firstArgMember]; rfl)) ?_)
 refine wpAny_newObj_type ?_ (by size_fits)
 simp only [raiseNew]
 refine wpAny_bind (wpAny_handled ?_)
 first | rw [show A.in1.handled = none from hh] | rw [hh]
 refine wpAny_bind (wpAny_pure (wpAny_throw ?_))
 refine wpAny_bind (wpAny_isInstance (T:="StopIteration") (b:=true) ⟨_,Heap.get?_push_size _ rfl,rfl⟩ isSubtype_stop ?_)
 refine wpAny_pure (hQ _ (fun b u hb e=>?_))
 exact Heap.get?_push_of_some _ (Heap.get?_push_of_some _ ((Heap.get?_update_other _ _ (Ne.symm hb)).trans ((Heap.get?_update_other _ _ (Ne.symm hb)).trans e)))
theorem iter_rv {it t:Addr} {i:Int} {Q:Value->Shared->Prop} (hit:IsRv s.heap it t i) (h:Q (.ref it) s):wpAny (model prog w) A (pyIter (.ref it)) Q E s:=by
 refine wpAny_pyIter_slot hit.typeIs b3j (wpAny_call_entry b3j hit.typeIs b8d ?_ (b7b _))
 show wpAny _ _ (ret (.ref it)) _ _ s
 exact wpAny_pure ⟨_,rfl,"reversed",_,hit.typeIs,a6g.lookup,h⟩
theorem c8v {r:Addr} {Q:Bool->Shared->Prop} (hT:s.TypeIs (.ref r) "list_reverseiterator") (h:Q false s):wpAny (model prog w) A (Builtin.List.listLengthHint (.ref r)) Q E s:=by
 unfold Builtin.List.listLengthHint
 refine wpAny_bind (wpAny_specialOf hT c3g ?_)
 show wpAny _ _ (specialOf (Value.ref r) (Str.ofString "__length_hint__") >>= _) _ _ _
 refine wpAny_bind (wpAny_specialOf hT c8u ?_)
 generalize hid:("list_reverseiterator.__length_hint__" : String) = id0
 wp_delta
 rw [show splitId id0 = some ("list_reverseiterator","__length_hint__") from by subst hid; decide +kernel]
 subst hid
 refine wpAny_bind (wpAny_isInstance (T:="list_reverseiterator") (b:=true) hT (by rw [isSubtype_type]; kernel_rfl) ?_)
 refine wpAny_ite_split (fun hab=>absurd hab (by decide)) (fun _=>?_)
 refine wpAny_ite_split (fun _=>?_) (fun hab=>absurd (by decide +kernel) hab)
 refine wpAny_ite_split (fun hab=>absurd hab (by decide +kernel)) (fun _=>?_)
 exact wpAny_pure h
theorem hint_rv {r t:Addr} {i:Int} {items:Array Value} {Q:Bool->Shared->Prop} (hit:IsRv s.heap r t i) (ht:IsTup s.heap t items) (hi:i = (items.size:Int) - 1) (hn:items.size<=2 ^ 24) (h:∀ b tk,Q b { s with toks:=tk }):wpAny (model prog w) A (Builtin.List.listLengthHint (.ref r)) Q E s:=by
 have hT:=hit.typeIs
 obtain ⟨o,ho,hc,hd⟩:=id hit
 unfold Builtin.List.listLengthHint
 refine wpAny_bind (wpAny_specialOf hT c5z ?_)
 show wpAny _ _ (specialOf (Value.ref r) (Str.ofString "__length_hint__") >>= _) _ _ _
 refine wpAny_bind (wpAny_specialOf hT b0i.lookup ?_)
 generalize hid:("reversed.__length_hint__" : String) = id0
 wp_delta
 rw [show splitId id0 = some ("reversed","__length_hint__") from by subst hid; decide +kernel]
 subst hid
 refine wpAny_bind (wpAny_isInstance (T:="reversed") (b:=true) hT (by rw [isSubtype_type]; kernel_rfl) ?_)
 refine wpAny_ite_split (fun hab=>absurd hab (by decide)) (fun _=>?_)
 refine wpAny_ite_split (fun hab=>absurd hab (by decide +kernel)) (fun _=>?_)
 refine wpAny_bind (wpAny_rule ?_)
 refine wpAny_bind (wpAny_of_eq (b0i.bind _) ?_)
 refine wpAny_bind (wpAny_attempt (wpAny_call_entry b0i hT b8e ?_ (b7c _)))
 unfold Builtin.«reversed.__length_hint__»
 refine wpAny_bind (wpAny_of_eq (a:=Value.ref r) rfl ?_)
 refine wpAny_bind (wpAny_field ho hd (x:=.ref t) rfl ?_)
 refine wpAny_ite_split (fun hab=>absurd hab Bool.false_ne_true) (fun _=>?_)
 refine wpAny_bind (len_tuple ht (by omega) ?_)
 refine wpAny_bind (m:=asInt? _) (wpAny_pure ?_)
 refine wpAny_bind (wpAny_field ho hd (x:=rawInt i) rfl ?_)
 show wpAny _ _ (if (items.size:Int) < i + 1 then _ else _) _ _ _
 rw [if_neg (by omega)]
 refine wpAny_bind (wpAny_mkInt (wpAny_pure ⟨_,rfl,?_⟩))
 refine wpAny_bind (m:=asInt? _) (wpAny_pure ?_)
 have e1:Builtin.List.listFitsIndex (i + 1) = true:=by simp [Builtin.List.listFitsIndex]; omega
 have e2:Builtin.List.listTooLong (i + 1).toNat = false:=by simp [Builtin.List.listTooLong,sizeLine_eq]; omega
 refine wpAny_ite_split (fun hab=>absurd hab (by rw [e1]; decide)) (fun _=>?_)
 refine wpAny_ite_split (fun hab=>absurd hab (by omega)) (fun _=>?_)
 refine wpAny_ite_split (fun hab=>absurd hab (by rw [e2]; decide)) (fun _=>?_)
 exact wpAny_pure (h _ _)
theorem c8w (hh:A.handled = none) (I t:Addr) (hne:t ≠ I) (items:Array Value) (hn:items.size<=2 ^ 24) :
  Walks prog w A I [I,t] [I] items.size (fun i v=>items[items.size - 1 - i]? = some v) (fun i h=>i<=items.size/\IsRv h I t ((items.size:Int) - 1 - (i:Int))/\IsTup h t items) where
 sub:=fun b hb=>by simp at hb; simp [hb]
 frame:=fun _ _ _ x hk=>⟨x.1,x.2.1.at fun o e=>hk I (by simp) o e,let ⟨o,ho,r⟩:=x.2.2; ⟨o,hk t (by simp) o ho,r⟩⟩
 item:=fun i s Q E hi x hQ=>by
  have e:(items.size:Int) - 1 - (i:Int) = ((items.size - 1 - i:Nat):Int):=by omega
  have hit:=x.2.1
  rw [e] at hit
  have hx:items[items.size - 1 - i]? = some (items[items.size - 1 - i]'(by omega)):=Array.getElem?_eq_getElem (by omega)
  refine c0h hit x.2.2 (by omega) hx fun h' tk hit' hs'=>?_
  have e2:((items.size - 1 - i:Nat):Int) - 1 = (items.size:Int) - 1 - ((i + 1:Nat):Int):=by omega
  rw [e2] at hit'
  exact hQ _ h' tk hx ⟨hi,hit',let ⟨o,ho,r⟩:=x.2.2; ⟨o,(hs'.2 t hne).trans ho,r⟩⟩ fun b o hb eo=>hs'.extBut b o (fun h=>hb (by simp [h])) eo
 done:=fun s Q E x hQ=>by
  have e:(items.size:Int) - 1 - (items.size:Int) = -1:=by omega
  have hit:=x.2.1
  rw [e] at hit
  exact c1m hh hit fun h' he'=>hQ h' s.toks fun b o hb eo=>he' b o (fun h=>hb (by simp [h])) eo
 self:=fun _ _ _ _ x hQ=>iter_rv x.2.1 hQ
theorem b3k {Q:Value->Shared->Prop} {T:String} {I:Addr} {fp wr:List Addr} {n:Nat} {P:Nat->Value->Prop} {St:Nat->Heap->Prop} (W:Walks prog w A.in1.in1 I fp wr n P St) (hn:n<=sizeLine)
  (hT:∀ (s':Shared),St 0 s'.heap->s'.TypeIs (.ref I) T) (h2:(Value.type T == Value.type "list") = false) (h3:(Value.type T == Value.type "tuple") = false)
  (hint:∀ {A':Around} {E':Value->Shared->Prop} (s':Shared) (Q':Bool->Shared->Prop),St 0 s'.heap->(∀ b tk,Q' b { s' with toks:=tk })->wpAny (model prog w) A' (Builtin.List.listLengthHint (.ref I)) Q' E' s')
  (hst:St 0 s.heap) (hfp:∀ b ∈ fp,b < s.heap.objs.size) (hI:I ∈ fp)
  (hQ:∀ h' tk acc' c',(∀ b o,b ∉ wr->s.heap.get? b = some o->h'.get? b = some o) ->
   h'.get? s.heap.objs.size = some { cls:=.type "list",dict:=none,data:=.seq acc' c',slots:=#[] }->ItemsOf P acc' n->Q (.ref s.heap.objs.size) { s with heap:=h',toks:=tk }) :
  wpAny (model prog w) A (call (.type "list") [.ref I]) Q E s:=by
 have hSf:s.heap.objs.size ∉ fp:=fun hm=>Nat.lt_irrefl _ (hfp _ hm)
 have hSI:s.heap.objs.size ≠ I:=fun e=>hSf (e ▸ hI)
 refine callType_codes (Q₁:=fun obj s₁=>obj = .ref s.heap.objs.size/\s₁ = { s with heap:=s.heap.push { cls:=.type "list",data:=.seq #[] } }) F.called_list (F.typeCall_list_1 _) F.entry_list_init
  (code_list_new _ ⟨rfl,rfl⟩) fun obj s₁ h₁=>?_
 obtain ⟨rfl,rfl⟩:=h₁
 have hS:(s.heap.push { cls:=.type "list",data:=.seq #[] }).get? s.heap.objs.size = some { cls:=.type "list",data:=.seq #[] }:=Heap.get?_push_size _ rfl
 refine ⟨⟨_,hS,rfl⟩,F.args_list_init_2 _ _,?_⟩
 generalize hSS:s.heap.objs.size = S at hS hSf hSI hQ ⊢
 show wpAny _ _ (do let old <- Builtin.List.listItems (.ref S); Builtin.List.listUpdate (.ref S) (fun _=>#[]); letGo old.toList.reverse; Builtin.List.listExtendWith (.ref S) (.ref I) .none) _ _ _
 refine wpAny_bind ?_
 unfold Builtin.List.listItems
 refine wpAny_bind (wpAny_seqItems hS rfl (wpAny_pure ?_))
 show wpAny _ _ (updateSeq S (fun _=>#[]) >>= fun _=>letGo (#[]:Array Value).toList.reverse >>= fun _=>Builtin.List.listExtendWith (.ref S) (.ref I) .none) _ _ _
 refine wpAny_bind (wpAny_updateSeq hS rfl ?_)
 have hS₁:=Heap.get?_update_self (Obj.mapSeq (fun _=>(#[]:Array Value))) hS rfl
 have k1:∀ b o,b ≠ S->s.heap.get? b = some o->((s.heap.push { cls:=.type "list",data:=.seq #[] }).update S (Obj.mapSeq (fun _=>(#[]:Array Value)))).get? b = some o:=
  fun b o hb e=>(Heap.get?_update_other _ _ (Ne.symm hb)).trans (Heap.get?_push_of_some _ e)
 refine wpAny_bind (wpAny_letGo ?_)
 generalize ((s.heap.push { cls:=.type "list",data:=.seq #[] }).update S (Obj.mapSeq (fun _=>(#[]:Array Value)))) = hp1 at hS₁ k1 ⊢
 have neS:∀ b ∈ fp,b ≠ S:=fun b hb e=>hSf (e ▸ hb)
 have st1:St 0 hp1:=W.frame 0 _ _ hst fun b hb o e=>k1 b o (neS b hb) e
 unfold Builtin.List.listExtendWith
 refine wpAny_bind (wpAny_typeOf (hT { s with heap:=hp1 } st1) ?_)
 have g1:Builtin.List.listSameRef (.ref S) (.ref I) = false:=by simp [Builtin.List.listSameRef,hSI]
 simp only [g1,h2,h3,Bool.or_false,Bool.false_eq_true,if_false]
 refine wpAny_bind (W.self 0 { s with heap:=hp1 } _ _ st1 ?_)
 refine wpAny_bind (wpAny_holding (hint { s with heap:=hp1 } _ st1 fun b tk=>?_))
 have key:∀ (h:Heap) (c₁:Nat),(∀ b o,b ≠ S->s.heap.get? b = some o->h.get? b = some o)->h.get? S = some { cls:=.type "list",data:=.seq #[] c₁ } ->
   codeAny (model prog w) A.in1 (.builtin "list.extend.loop" ⟨[.ref S,.ref I,.none],[]⟩) (wants (fun r s'=>r = .none/\Q (.ref S) s') E) { s with heap:=h,toks:=tk }:=by
  intro h c₁ hk hS₂
  refine codeAny_extend_loopS W.toS hn S hSf .none n 0 _ #[] c₁ rfl (Nat.zero_le _) (W.frame 0 _ _ hst fun b hb o e=>hk b o (neS b hb) e) hS₂ (ItemsOf.nil _) fun s' acc' c' hm hS' hacc=>?_
  rw [Moved.eq_with hm]
  refine ⟨rfl,hQ s'.heap s'.toks acc' c' (fun b o hb e=>hm.heap b o (fun hmem=>?_) (hk b o (fun z=>?_) e)) hS' hacc⟩
  ·rcases List.mem_cons.mp hmem with e' | hmem
   ·have:=Heap.lt_size e
    rw [e',hSS] at this
    exact Nat.lt_irrefl _ this
   ·exact hb hmem
  ·have:=Heap.lt_size e
   rw [z,hSS] at this
   exact Nat.lt_irrefl _ this
 refine wpAny_ite_split (fun _=>?_) (fun _=>wpAny_pure ⟨plainId_quiet F.plain_extend_loop _,key _ _ k1 hS₁⟩)
 refine wpAny_bind (wpAny_rule ?_)
 refine wpAny_bind ?_
 show wpAny _ _ (updateSeq S (·.push .none) >>= fun _=>updateSeq S (·.pop)) _ _ _
 refine wpAny_bind (wpAny_updateSeq hS₁ rfl ?_)
 have hS₂:=Heap.get?_update_self (Obj.mapSeq (·.push Value.none)) hS₁ rfl
 refine wpAny_updateSeq (hz:=by seq_fits) hS₂ rfl ?_
 have hS₃:=Heap.get?_update_self (Obj.mapSeq (·.pop)) hS₂ rfl
 exact wpAny_pure ⟨plainId_quiet F.plain_extend_loop _,key _ _ (fun b o hb e=>(Heap.get?_update_other _ _ (Ne.symm hb)).trans ((Heap.get?_update_other _ _ (Ne.symm hb)).trans (k1 b o hb e))) hS₃⟩
end
theorem c6c {its:List Value} {acc:Array Value} (h:ItemsOf (fun i v=>its.toArray[its.toArray.size - 1 - i]? = some v) acc its.toArray.size):acc = its.reverse.toArray:=by
 obtain ⟨h1,h2⟩:=h
 apply Array.ext'
 rw [List.toList_toArray]
 apply List.ext_getElem?
 intro j
 have hs:acc.toList.length = its.length:=by rw [Array.length_toList,h1,List.size_toArray]
 by_cases hj:j < its.length
 ·have hj':j < acc.size:=by rw [<- Array.length_toList]; omega
  have e:=h2 j acc[j] (Array.getElem?_eq_getElem hj')
  rw [List.getElem?_reverse hj,Array.getElem?_toList,Array.getElem?_eq_getElem hj']
  rw [List.size_toArray,List.getElem?_toArray] at e
  exact e.symm
 ·rw [List.getElem?_eq_none (by omega),List.getElem?_eq_none (by rw [List.length_reverse]; omega)]
section
variable {X:Cx}
noncomputable def c0i (K:W.Frag) (ta:TA):TE:=fun σ H Q=>ta σ H fun vs H1=>∃ a xs,vs = [.ref a]/\(SqL K H1 a xs\/SqT K H1 a xs)/\xs.length<=100000/\∀ p,H1 p = none->Q (.ref p) (upd H1 p (.lst xs.reverse))
theorem b2m (K:W.Frag) (hK:X.K = K) (hc:X.calm = true) {a:Expr} {ta:TA} {p1 p2 pos1 pos2:Pos} (hg:Gl X "list") (hm:X.mg "list" = none) (hg2:Gl X "reversed") (hm2:X.mg "reversed" = none) (ha:PA X [a] ta)
  (hs:starEach [a] X.env = [(false,eval a X.env)]:=by rfl)
  (hs1:starEach [Expr.Call (.Name "reversed" p2) [a] [] pos2] X.env = [(false,eval (.Call (.Name "reversed" p2) [a] [] pos2) X.env)]:=by rfl) :
  PE X (.Call (.Name "list" p1) [.Call (.Name "reversed" p2) [a] [] pos2] [] pos1) (c0i K ta):=by
 subst hK
 intro pins s σ H Q I h
 refine Call_ (a5y I hg hm boot_list (PyProof.Rows.callWith_type1 ?_ hs1 rfl))
 rw [hs1]
 show wpAny _ _ (spliced ((false,eval (.Call (.Name "reversed" p2) [a] [] pos2) X.env) :: backTo pos1 (starEach [] X.env))) _ _ s
 refine Calls.spliced_cons ?_
 refine Call_ (a5y I hg2 hm2 boot_reversed (PyProof.Rows.callWith_type1 (thn (ha pos2 pins s σ H _ I h) fun us s1 ⟨vs,H1,I1,r1,q1⟩=>?_) hs rfl))
 obtain ⟨l,xs,e,hq,hlen,q⟩:=q1
 subst e
 have fin:∀ (its:List Value) (h':Heap) (tk:Nat) (acc':Array Value) (c':Nat),Vals xs its->(∀ b o,s1.heap.get? b = some o->h'.get? b = some o)->h'.get? (s1.heap.objs.size + 1) = some { cls:=.type "list",dict:=none,data:=.seq acc' c',slots:=#[] }->ItemsOf (fun i v=>its.toArray[its.toArray.size - 1 - i]? = some v) acc' its.toArray.size->EP X pins σ Q (.ref (s1.heap.objs.size + 1)) { s1 with heap:=h',toks:=tk }:=by
  intro its h' tk acc' c' rv hk hS hacc
  have ea:=c6c hacc
  subst ea
  have fr:H1 (s1.heap.objs.size + 1) = none:=I1.hok.fresh (Nat.le_add_right _ _)
  refine ⟨.ref _,upd H1 (s1.heap.objs.size + 1) (.lst xs.reverse),I1.laid (t':=tk) hk (Nat.le_add_right _ _) ⟨by rw [List.length_reverse,sizeLine_eq]; omega,its.reverse,c',rv.reverse,hS⟩,rfl,q _ fr⟩
 have keepA:∀ (o0:Obj) (h':Heap),(∀ b o,b ∉ [s1.heap.objs.size]->(s1.heap.push o0).get? b = some o->h'.get? b = some o)->∀ b o,s1.heap.get? b = some o->h'.get? b = some o:=fun o0 h' hk b o e=>hk b o (fun z=>by
  rw [List.mem_singleton.mp z] at e
  exact Nat.lt_irrefl _ (Heap.lt_size e)) (Heap.get?_push_of_some _ e)
 cases r1 with
 | cons r rr=>
  cases rr
  cases r
  rcases hq with hq | hq
  ·obtain ⟨its,rv,pl,hz⟩:=I1.list hq
   have hlen':=rv.length
   have hL:s1.heap.IsList l its.toArray:=pl.isList
   have hlt:l < s1.heap.objs.size:=by obtain ⟨o,ho,_⟩:=hL; exact Heap.lt_size ho
   refine call_reversed_list hL ?_
   refine Calls.spliced_nil ?_
   have zz:(s1.heap.push (revObj l ((its.toArray.size:Int) - 1))).objs.size = s1.heap.objs.size + 1:=Heap.size_push ..
   have st0:0<=its.toArray.size/\(s1.heap.push (revObj l ((its.toArray.size:Int) - 1))).IsRevIter s1.heap.objs.size l ((its.toArray.size:Int) - 1 - ((0:Nat):Int))/\(s1.heap.push (revObj l ((its.toArray.size:Int) - 1))).IsList l its.toArray:=by
    refine ⟨Nat.zero_le _,?_,hL.at fun o e=>Heap.get?_push_of_some _ e⟩
    have e1:(its.toArray.size:Int) - 1 - ((0:Nat):Int) = (its.toArray.size:Int) - 1:=by omega
    rw [e1]
    exact ⟨_,Heap.get?_push_size _ rfl,rfl,rfl⟩
   have W:=Walks.listRev (prog:=X.prog) (w:=X.w) (A:=X.A.in1.in1) (I1.ok.hd hc) s1.heap.objs.size l (Nat.ne_of_lt hlt) its.toArray
   refine b3k (T:="list_reverseiterator") W (by rw [List.size_toArray,<- hlen',sizeLine_eq]; omega) (fun s' st=>st.2.1.typeIs) (by decide) (by decide) (fun s' Q' st k=>c8v st.2.1.typeIs (k false s'.toks)) st0 (fun b hb=>?_) (by simp) (fun h' tk acc' c' hk hS hacc=>?_)
   ·rw [zz]
    simp only [List.mem_cons,List.not_mem_nil,or_false] at hb
    rcases hb with rfl | rfl
    ·exact Nat.lt_succ_self _
    ·exact Nat.lt_succ_of_lt hlt
   ·rw [zz] at hS ⊢
    exact fin its h' tk acc' c' rv (keepA _ h' hk) hS hacc
  ·obtain ⟨its,rv,pl,hz⟩:=I1.tuple hq
   have hlen':=rv.length
   have hlt:l < s1.heap.objs.size:=pl.lt
   refine b4g pl (by rw [List.size_toArray,<- hlen']; omega) (fun tk0=>?_)
   refine Calls.spliced_nil ?_
   have zz:(s1.heap.push (b6g l ((its.toArray.size:Int) - 1))).objs.size = s1.heap.objs.size + 1:=Heap.size_push ..
   have st0:0<=its.toArray.size/\IsRv (s1.heap.push (b6g l ((its.toArray.size:Int) - 1))) s1.heap.objs.size l ((its.toArray.size:Int) - 1 - ((0:Nat):Int))/\IsTup (s1.heap.push (b6g l ((its.toArray.size:Int) - 1))) l its.toArray:=by
    refine ⟨Nat.zero_le _,?_,pl.push _⟩
    have e1:(its.toArray.size:Int) - 1 - ((0:Nat):Int) = (its.toArray.size:Int) - 1:=by omega
    rw [e1]
    exact ⟨_,Heap.get?_push_size _ rfl,rfl,rfl⟩
   have hsz:its.toArray.size<=2 ^ 24:=by rw [List.size_toArray,<- hlen']; omega
   have W:=c8w (prog:=X.prog) (w:=X.w) (A:=X.A.in1.in1) (I1.ok.hd hc) s1.heap.objs.size l (Nat.ne_of_lt hlt) its.toArray hsz
   refine b3k (T:="reversed") W (by rw [List.size_toArray,<- hlen',sizeLine_eq]; omega) (fun s' st=>st.2.1.typeIs) (by decide) (by decide) (fun s' Q' st k=>hint_rv st.2.1 st.2.2 (by omega) hsz k) st0 (fun b hb=>?_) (by simp) (fun h' tk acc' c' hk hS hacc=>?_)
   ·rw [zz]
    simp only [List.mem_cons,List.not_mem_nil,or_false] at hb
    rcases hb with rfl | rfl
    ·exact Nat.lt_succ_self _
    ·exact Nat.lt_succ_of_lt hlt
   ·rw [zz] at hS ⊢
    exact fin its h' tk acc' c' rv (keepA _ h' hk) hS hacc
theorem c3i {K:W.Frag} {σ:St} {H:Hp} {ta:TA} {Q:VK} (k:ta σ H fun vs H1=>∃ a xs,vs = [.ref a]/\(SqL K H1 a xs\/SqT K H1 a xs)/\xs.length<=100000/\∀ p,H1 p = none->Q (.ref p) (upd H1 p (.lst xs.reverse))):c0i K ta σ H Q:=k
end
section
variable {X:Cx} {pos:Pos} {e e2:Expr} {te te2:TE}
end
section
variable {X:Cx}
end
theorem b7r {prog:Program} {w:World} {A:Around} (hh:A.handled = none) (it l:Addr) (hne:l ≠ it) (items:Array Value) :
  Draws prog w A it [it,l] items.size (fun i v=>items[i]? = some v) (fun i h=>h.IsTupleIter it l i/\h.IsTuple l items) where
 live:=fun _ _ st=>let ⟨o,ho,_⟩:=st.1; ⟨o,ho⟩
 frame:=fun _ _ _ st hk=>⟨st.1.at fun o e=>hk it (by simp) o e,let ⟨o,ho,r⟩:=st.2; ⟨o,hk l (by simp) o ho,r⟩⟩
 item:=fun i s Q E hi st hQ=>by
  refine c3f st.1 st.2 (x:=items[i]) (by simp [hi]) fun h' hit' hs'=>?_
  exact hQ _ h' s.toks (by simp [hi]) ⟨hit',let ⟨o,ho,r⟩:=st.2; ⟨o,(hs'.2 l hne).trans ho,r⟩⟩ hs'
 done:=fun s Q E st hE=>c5x hh st.1 st.2 (by simp) hE
theorem c1n (l:Addr) (items:Array Value) :
  Meets (Builtin.«enumerate.__new__» ⟨[.type "enumerate",.ref l],[]⟩) (fun _ R s=>s.heap.IsTuple l items /\
   R (.ok (.ret (.ref (s.heap.push { cls:=.type "tuple_iterator",data:=.fields #[.ref l,.int 0 0] }).objs.size)))
    { s with heap:=(s.heap.push { cls:=.type "tuple_iterator",data:=.fields #[.ref l,.int 0 0] }).push { cls:=.type "enumerate",data:=.fields #[.none,.bool false,.ref s.heap.objs.size,rawInt 0,.none,.none] } }):=
 .of_wp fun prog w A R s h=>by
  obtain ⟨hp,g,d,tk,os⟩:=s; obtain ⟨hl,h⟩:=h
  have hsub:=sub_enumerate
  have hL:Heap.IsTuple (Shared.heap ⟨hp,g,d,tk,os⟩) l items:=hl
  wp_walk using wpAny_pyIter_tuple hL
  refine wpAny_stack_any fun st=>wpAny_pure ?_
  split
  ·rename_i c _ _ _ _ _
   cases (c == Value.type "enumerate")
   ·wp_walk using wpAny_pyIter_tuple hL
    exact ⟨_,rfl,h⟩
   ·wp_walk using wpAny_pyIter_tuple hL
    exact ⟨_,rfl,h⟩
  ·wp_walk using wpAny_pyIter_tuple hL
   exact ⟨_,rfl,h⟩
theorem c3j {prog:Program} {w:World} {A:Around} {E:Value->Shared->Prop} {s:Shared} {l:Addr} {items:Array Value} {Q:Value->Shared->Prop} (hL:s.heap.IsTuple l items)
  (h:∀ h',IsEnum h' (s.heap.objs.size + 1) s.heap.objs.size 0 .none->h'.IsTupleIter s.heap.objs.size l 0->h'.objs.size = s.heap.objs.size + 2 ->
   (∀ b o,s.heap.get? b = some o->h'.get? b = some o)->Q (.ref (s.heap.objs.size + 1)) { s with heap:=h' }) :
  wpAny (model prog w) A (call (.type "enumerate") [.ref l]) Q E s:=by
 refine callType_new F.called_enumerate (by decide) (F.typeCall_enumerate_1 _) (F.newCall_enumerate_1 _) (fun obj=>F.args_object_init_2 obj _) F.entry_enumerate_new
  (c1n l items) ⟨hL,?_⟩
 have hz:(s.heap.push { cls:=.type "tuple_iterator",data:=.fields #[.ref l,.int 0 0] }).objs.size = s.heap.objs.size + 1:=Heap.size_push ..
 show _/\_
 rw [hz]
 have he:IsEnum ((s.heap.push { cls:=.type "tuple_iterator",data:=.fields #[.ref l,.int 0 0] }).push
   { cls:=.type "enumerate",data:=.fields #[.none,.bool false,.ref s.heap.objs.size,rawInt 0,.none,.none] }) (s.heap.objs.size + 1) s.heap.objs.size 0 .none:=by
  have:=Heap.get?_push_size (s.heap.push { cls:=.type "tuple_iterator",data:=.fields #[.ref l,.int 0 0] })
   (o:={ cls:=.type "enumerate",data:=.fields #[.none,.bool false,.ref s.heap.objs.size,rawInt 0,.none,.none] }) rfl
  rw [hz] at this; exact this
 refine ⟨⟨_,he,rfl⟩,h _ he ⟨_,Heap.get?_push_of_some _ (Heap.get?_push_size _ rfl),rfl,rfl⟩ (by rw [Heap.size_push,hz]) fun b o x=>Heap.get?_push_of_some _ (Heap.get?_push_of_some _ x)⟩
noncomputable def Iet (K:W.Frag) (a:Addr) (n:Nat):It:=⟨fun i H=>i < n/\∃ xs,SqT K H a xs/\xs.length = n,fun i H v H'=>∃ T x,H T = none/\v = .ref T/\H' = upd H T (.tup [.int i,x])/\∀ xs,SqT K H a xs->xs[i]? = some x,fun i H=>i = n/\∃ xs,SqT K H a xs/\xs.length = n⟩
theorem c3k {P:Program} {w:World} {K:W.Frag} {elts:List Expr} {k:Nat} {pos:Pos} (a e it:Addr) (n:Nat) (hei:e ≠ it) (hai:a ≠ it) (hae:a ≠ e) :
  Turn P w K (.Tuple elts k pos) (Iet K a n) [e,it] e (fun i h=>(∃ old,IsEnum h e it (i:Nat) old)/\h.IsTupleIter it a i) where
 mem:=by simp
 obj:=fun i h st b hb=>by
  obtain ⟨⟨old,h1⟩,o,h2,h3,h4⟩:=st
  simp only [List.mem_cons,List.not_mem_nil,or_false] at hb
  rcases hb with rfl | rfl
  ·exact ⟨_,h1,fun v z=>by have z':Data.fields _ = Data.cell v:=z; cases z'⟩
  ·exact ⟨o,h2,fun v z=>by rw [h4] at z; cases z⟩
 keep:=fun i h h' st hk=>⟨let ⟨old,q⟩:=st.1; ⟨old,hk e (by simp) _ q⟩,st.2.at fun o q=>hk it (by simp) o q⟩
 item:=by
  intro X hP hw hK hc i pins s σ H E I hf st hg
  subst hP hw hK
  obtain ⟨hi,xs,hq,hl⟩:=hg
  obtain ⟨its,rv,p,hz⟩:=I.tuple hq
  have hlen:=rv.length
  have D:=b7r (prog:=X.prog) (w:=X.w) (A:=X.A.in1) (show X.A.in1.handled = none from I.ok.hd hc) it a hai its.toArray
  have W:=WalksT.enumerateD D e hei (by simp only [List.mem_cons,List.not_mem_nil,or_false,not_or]; exact ⟨hei,Ne.symm hae⟩) (by simp)
  refine W.item i s _ _ (by rw [List.size_toArray]; omega) ⟨st.1,st.2,p⟩ fun T vals h1 tk hPt hT htup hmid hk1=>?_
  obtain ⟨t,x,hx,rfl⟩:=hPt
  refine ⟨.ref T,rfl,W.go elts k pos i T { s with heap:=h1,toks:=tk } _ _ hmid fun h2 hst2 hk2=>?_⟩
  have hx2:its[i]? = some x:=by simpa using hx
  have hix:i < xs.length:=by omega
  obtain ⟨u,hu,ru⟩:=rv.get (List.getElem?_eq_getElem hix)
  rw [hu] at hx2
  cases hx2
  have hk:∀ b u,b ∉ [e,it]->s.heap.get? b = some u->h2.get? b = some u:=fun b u hb q=>hk2 b u hb (hk1 b u hb q)
  have hTn:T ∉ [e,it]:=by
   obtain ⟨_,_,z1,z2⟩:=hmid
   simp only [List.mem_cons,List.not_mem_nil,or_false,not_or]
   exact ⟨z1,z2⟩
  have hTup:IsTup h2 T #[.int i t,x]:=by
   obtain ⟨o,h3,h4⟩:=htup
   exact ⟨o,hk2 T o hTn h3,h4⟩
  refine ⟨.ref T,upd H T (.tup [.int i,xs[i]]),I.turnedLaid (ch:=[e,it]) hf hk hT ⟨by simp [sizeLine_eq],[.int i t,x],.cons ⟨t,rfl⟩ (.cons ru .nil),hTup⟩,rfl,?_,?_,fun b hb=>?_⟩
  ·exact ⟨T,xs[i],I.hok.fresh hT,rfl,rfl,fun ys hy=>by rw [I.tuple_inj hy hq]; exact List.getElem?_eq_getElem hix⟩
  ·exact ⟨by simpa using hst2.1,hst2.2.1⟩
  ·have nb:b ≠ T:=fun z=>hTn (by rw [<- z]; exact hb)
   rw [a0n nb]
   exact (hf b hb).1
 done:=by
  intro X hP hw hK hc i pins s σ H E I hf st hg
  subst hP hw hK
  obtain ⟨hi,xs,hq,hl⟩:=hg
  subst hi
  obtain ⟨its,rv,p,hz⟩:=I.tuple hq
  obtain ⟨old,h1⟩:=st.1
  obtain ⟨f0,f1,f2,f3,f4,f5⟩:=hf it (by simp)
  have hlen:=rv.length
  have D:=b7r (prog:=X.prog) (w:=X.w) (A:=X.A.in1) (show X.A.in1.handled = none from I.ok.hd hc) it a hai its.toArray
  have hn:its.toArray.size = i:=by rw [List.size_toArray]; omega
  have st2:=st.2
  rw [<- hn] at st2
  exact wpAny_pyNext_enum_endD D h1 ⟨st2,p⟩ fun h' eb=>⟨rfl,I.turned (t':=s.toks) (fun b o hb q=>eb b o hb q) f0 f1 f3 f4 f5⟩
 self:=fun _ _ _ _ _ st h=>by
  obtain ⟨⟨old,h1⟩,_⟩:=st
  exact wpAny_pyIter_enum h1 h
section
variable {X:Cx}
noncomputable def c6d (K:W.Frag) (ta:TA):TI:=fun σ H R=>ta σ H fun vs H1=>∃ a xs,vs = [.ref a]/\SqT K H1 a xs/\R (Iet K a xs.length) H1
theorem b0t (K:W.Frag) (hK:X.K = K) {elts:List Expr} {k:Nat} {tpos:Pos} {a:Expr} {ta:TA} {p pos:Pos} (hg:Gl X "enumerate") (hm:X.mg "enumerate" = none) (ha:PA X [a] ta) (hs:starEach [a] X.env = [(false,eval a X.env)]:=by rfl):PI X (.Tuple elts k tpos) (.Call (.Name "enumerate" p) [a] [] pos) (c6d K ta):=by
 subst hK
 intro pins s σ H R I h
 refine Call_ (a5y I hg hm boot_enumerate (PyProof.Rows.callWith_type1 (thn (ha pos pins s σ H _ I h) fun us s1 ⟨vs,H1,I1,r1,q1⟩=>?_) hs rfl))
 obtain ⟨l,xs,e,hq,q⟩:=q1
 subst e
 cases r1 with
 | cons r rr=>
  cases rr
  cases r
  obtain ⟨its,rv,pl,hz⟩:=I1.tuple hq
  have hlt:l < s1.heap.objs.size:=pl.lt
  refine c3j (show s1.heap.IsTuple l its.toArray from pl) fun h' he hit hsz hk=>wpAny_pyIter_enum he ?_
  refine ⟨_,[s1.heap.objs.size + 1,s1.heap.objs.size],_,_,H1,rfl,I1.kept (t':=s1.toks) hk,c3k l (s1.heap.objs.size + 1) s1.heap.objs.size xs.length (Nat.succ_ne_self _) (Nat.ne_of_lt hlt) (Nat.ne_of_lt (Nat.lt_succ_of_lt hlt)),⟨⟨_,he⟩,hit⟩,fun b hb=>?_,q⟩
  simp only [List.mem_cons,List.not_mem_nil,or_false] at hb
  rcases hb with rfl | rfl
  ·exact I1.fpOk (Nat.le_succ _) (I1.hok.fresh (Nat.le_succ _))
  ·exact I1.fpOk (Nat.le_refl _) (I1.hok.fresh (Nat.le_refl _))
end
theorem c8x {K:W.Frag} {σ:St} {H:Hp} {ta:TA} {R:It->Hp->Prop} (k:ta σ H fun vs H1=>∃ a xs,vs = [.ref a]/\SqT K H1 a xs/\R (Iet K a xs.length) H1):c6d K ta σ H R:=k
theorem b0u {K:W.Frag} {a:Addr} {xs:List V} {g:TG} {tb:TS} {D:Ends} {σ:St} {H:Hp} (Pv:Nat->St->Hp->Prop) (h0:Pv 0 σ H) (hok:∀ i σ H,Pv i σ H->SqT K H a xs)
  (hs:∀ i σ H T,i < xs.length->Pv i σ H->H T = none->g (.ref T) σ (upd H T (.tup [.int i,xs.getD i .non])) fun σ2 H2=>tb { D with nx:=Pv (i + 1),ct:=Pv (i + 1),bk:=D.nx } σ2 H2) (hd:∀ σ H,Pv xs.length σ H->D.nx σ H) :
  ForW (Iet K a xs.length) g tb D σ H:=by
 refine ⟨fun i m σ H=>m = xs.length - i/\i<=xs.length/\Pv i σ H,⟨xs.length,by simp,Nat.zero_le _,h0⟩,?_⟩
 rintro i m σ H ⟨rfl,hi,p⟩
 have q1:=hok i σ H p
 by_cases hlt:i < xs.length
 ·refine .inr ⟨⟨hlt,xs,q1,rfl⟩,Pv (i + 1),fun σ' H' p'=>⟨xs.length - (i + 1),by omega,rfl,hlt,p'⟩,fun x H' y=>?_⟩
  obtain ⟨T,u,hT,rfl,rfl,e1⟩:=y
  have e1:=e1 xs q1
  have f1:xs.getD i .non = u:=by rw [List.getD_eq_getElem?_getD,e1]; rfl
  have:=hs i σ H T hlt p hT
  rw [f1] at this
  exact this
 ·have e:i = xs.length:=by omega
  subst e
  exact .inl ⟨⟨rfl,xs,q1,rfl⟩,hd σ H p⟩
section
variable {X:Cx}
noncomputable def c6e:V->List V->Hp->VK->Prop:=fun x vs H Q=>∃ p,x = .str p/\vs = []/\Builtin.Str.tooLong (Txt.lower p).length = false/\Q (.str (Txt.lower p)) H
theorem c8y:MtR X "str.lower" c6e:=by
 intro pins s σ H x vs v us Q I rx rv h
 obtain ⟨p,rfl,rfl,hz,q⟩:=h
 obtain ⟨t,rfl⟩:=rx
 cases rv
 exact SC.lower hz ⟨.str _,H,I.tok _,⟨_,rfl⟩,q⟩
theorem c8z {p r:Str} {H:Hp} {Q:VK} (e:Txt.lower p = r) (hz:Builtin.Str.tooLong r.length = false) (k:Q (.str r) H):c6e (.str p) [] H Q:=⟨p,rfl,rfl,by rw [e]; exact hz,by rw [e]; exact k⟩
end
section
variable {K:W.Frag} {σ:St} {H:Hp} {Q:VK} {D:Ends} {ta tv:TE} {t:TA} {f m:Str} {C:Addr} {sp:Sp} {dvs:List V} {E:XK}
theorem tFld_i (k:ta σ H fun x H1=>∃ a C dx fs v,x = .ref a/\H1 a = some (.ins C dx fs)/\Cls K C/\a3h K C f/\fs.lookup f = some v/\Q v H1):tFld K ta f σ H Q:=k
theorem sFld_i (k:tv σ H fun y H1=>ta σ H1 fun x H2=>∃ a C dx fs,x = .ref a/\H2 a = some (.ins C dx fs)/\Cls K C/\a3h K C f/\fs.length < 1000/\D.nx σ (upd H2 a (.ins C dx (putF f y fs)))):sFld K ta tv f D σ H:=k
theorem tMeth_i (k:ta σ H fun x H1=>∃ a dx fs,x = .ref a/\H1 a = some (.ins C dx fs)/\fs.lookup m = none/\t σ H1 fun vs H2=>sp (x :: (vs ++ dvs)) H2 Q E):tMeth C m sp dvs E ta t σ H Q:=k
theorem tMake_i (k:t σ H fun vs H1=>∀ x dx,H1 x = none->H1 dx = none->dx ≠ x->sp (.ref x :: (vs ++ dvs)) (upd (upd H1 dx (.own x)) x (.ins C dx [])) (fun v H2=>v = .non/\Q (.ref x) H2) E):tMake C sp dvs E t σ H Q:=k
theorem c6f {rd:V->V->Hp->VK->Prop} (k:ta σ H fun x H1=>∃ a C dx fs v,x = .ref a/\H1 a = some (.ins C dx fs)/\Cls K C/\a3h K C f/\fs.lookup f = some v /\
 tv σ H1 fun y H2=>rd v y H2 fun z H3=>∃ dx' fs',H3 a = some (.ins C dx' fs')/\fs'.length < 1000/\D.nx σ (upd H3 a (.ins C dx' (putF f z fs')))):c1z K ta tv rd f D σ H:=k
end
section
variable {X:Cx}
noncomputable def mSortI (K:W.Frag):List V->Hp->VK->Prop:=fun vs H Q=>∃ (p:Addr) (ns:List Int),vs = [.ref p]/\SqL K H p (ns.map V.int)/\ns.length < 64/\∀ (q:Addr) (ns':List Int),H q = none->ns'.Perm ns->ns'.Pairwise (·<=·)->Q (.ref q) (upd H q (.lst (ns'.map V.int)))
theorem c9a (K:W.Frag) (hK:X.K = K):a3s X (.builtin "sorted") (mSortI K):=by
 subst hK
 intro pins s σ H xs us Q I r h
 obtain ⟨p,ns,rfl,hs,h64,q⟩:=h
 obtain ⟨u,rfl,r1⟩:=vals1 r
 cases r1
 obtain ⟨its,rv,pl,hz⟩:=I.list hs
 have hi:IntsAre its ns:=intsAre_of rv
 have hlen:its.length = ns.length:=hi.length
 refine sorted_ints pl.isList hi (by omega) fun out ns' a1 a2 a3=>?_
 obtain ⟨e,he⟩:=sortedAll_at s.heap its out
 have hl:(ns'.map V.int).length<=sizeLine:=by rw [List.length_map,a2.length_eq,sizeLine_eq]; omega
 refine ⟨.ref _,upd H (s.heap.objs.size + 1) (.lst (ns'.map V.int)),I.laid (t':=s.toks) (fun b o e=>sortedAll_old e) (Nat.le_add_right _ _) ⟨hl,out.toList,e,b3a a1,by simpa using he⟩,rfl,q _ ns' (I.hok.fresh (Nat.le_add_right _ _)) a2 a3⟩
noncomputable def c0j (ta:TA):TE:=fun σ H Q=>ta σ H fun vs H1=>∃ i j:Int,vs = [.int i,.int j]/\(-(2 ^ 20)<=i/\i < 2 ^ 20/\-(2 ^ 20)<=j/\j < 2 ^ 20)/\∀ p,H1 p = none->Q (.ref p) (upd H1 p (.lst ((List.range (j - i).toNat).map fun k=>V.int (i + (k:Nat)))))
theorem c6g {a:Int} {n:Nat} {acc:Array Value} (h:ItemsOf (fun i v=>∃ t,v = Value.int (a + i * 1) t) acc n):Vals ((List.range n).map fun k=>V.int (a + (k:Nat))) acc.toList:=by
 obtain ⟨h1,h2⟩:=h
 have:∀ (l:List Value) (o:Nat),(∀ j v,l[j]? = some v->∃ t,v = Value.int (a + ((o + j:Nat):Int)) t)->Vals ((List.range' o l.length).map fun k=>V.int (a + (k:Nat))) l:=by
  intro l
  induction l with
  | nil=>intro o _; exact .nil
  | cons v l ih=>
   intro o hv
   rw [List.length_cons,List.range'_succ,List.map_cons]
   refine .cons ?_ (ih (o + 1) fun j v e=>?_)
   ·obtain ⟨t,e⟩:=hv 0 v rfl
    exact ⟨t,e⟩
   ·obtain ⟨t,e⟩:=hv (j + 1) v e
    exact ⟨t,by rw [e,show o + (j + 1) = o + 1 + j by omega]⟩
 have q:=this acc.toList 0 fun j v e=>by
  rw [Array.getElem?_toList] at e
  obtain ⟨t,e⟩:=h2 j v e
  refine ⟨t,?_⟩
  rw [e,Nat.zero_add,Int.mul_one]
 rw [Array.length_toList,h1,<- List.range_eq_range'] at q
 exact q
theorem c3l (hc:X.calm = true) {a b:Expr} {ta:TA} {p1 p2 pos1 pos2:Pos} (hg:Gl X "list") (hm:X.mg "list" = none) (hg2:Gl X "range") (hm2:X.mg "range" = none) (ha:PA X [a,b] ta)
  (hs:starEach [a,b] X.env = [(false,eval a X.env),(false,eval b X.env)]:=by rfl) (hs2:starEach [b] X.env = [(false,eval b X.env)]:=by rfl)
  (hs1:starEach [Expr.Call (.Name "range" p2) [a,b] [] pos2] X.env = [(false,eval (.Call (.Name "range" p2) [a,b] [] pos2) X.env)]:=by rfl) :
  PE X (.Call (.Name "list" p1) [.Call (.Name "range" p2) [a,b] [] pos2] [] pos1) (c0j ta):=by
 intro pins s σ H Q I h
 refine Call_ (a5y I hg hm boot_list (PyProof.Rows.callWith_type1 ?_ hs1 rfl))
 rw [hs1]
 show wpAny _ _ (spliced ((false,eval (.Call (.Name "range" p2) [a,b] [] pos2) X.env) :: backTo pos1 (starEach [] X.env))) _ _ s
 refine Calls.spliced_cons ?_
 refine Call_ (a5y I hg2 hm2 boot_range (PyProof.Rows.callWith_type1 (thn (ha pos2 pins s σ H _ I h) fun us s1 ⟨vs,H1,I1,r1,q1⟩=>?_) (by rw [hs,hs2]) (by rw [hs2]; rfl)))
 obtain ⟨i,j,e,⟨q1,q2,q3,q4⟩,q⟩:=q1
 subst e
 cases r1 with
 | cons r rr=>
  cases rr with
  | cons r' rr=>
   cases rr
   obtain ⟨t,rfl⟩:=r
   obtain ⟨t',rfl⟩:=r'
   refine call_range_2 ?_
   refine Calls.spliced_nil ?_
   have en:Builtin.Range.rangeSize i j 1 = (((j - i).toNat:Nat):Int):=by rw [rangeSize_one]; split <;> omega
   refine call_list_range (I1.ok.hd hc) (IsRange.new ..) (small_one (by omega) (by omega) (by omega) (by omega)) en (by omega) fun h' tk acc' c' hk hS hacc=>?_
   have fr:H1 (s1.heap.objs.size + 1) = none:=I1.hok.fresh (Nat.le_add_right _ _)
   have zz:∀ o:Obj,(s1.heap.push o).objs.size = s1.heap.objs.size + 1:=fun o=>Heap.size_push ..
   rw [zz] at hS ⊢
   have rv:=c6g hacc
   have hz:((List.range (j - i).toNat).map fun k=>V.int (i + (k:Nat))).length<=sizeLine:=by rw [List.length_map,List.length_range,sizeLine_eq]; omega
   exact ⟨.ref _,upd H1 (s1.heap.objs.size + 1) (.lst _),I1.laid (t':=tk) (fun b o e=>hk b o (Heap.get?_push_of_some _ e)) (Nat.le_add_right _ _) ⟨hz,acc'.toList,c',rv,by simpa using hS⟩,rfl,q _ fr⟩
theorem c3m {σ:St} {H:Hp} {ta:TA} {Q:VK} (k:ta σ H fun vs H1=>∃ i j:Int,vs = [.int i,.int j]/\(-(2 ^ 20)<=i/\i < 2 ^ 20/\-(2 ^ 20)<=j/\j < 2 ^ 20)/\∀ p,H1 p = none->Q (.ref p) (upd H1 p (.lst ((List.range (j - i).toNat).map fun k=>V.int (i + (k:Nat)))))):c0j ta σ H Q:=k
noncomputable def KD (P:Program) (w:World) (K:W.Frag) (a:Addr) (kvs:List (Key × V)):Prop:=∀ h:Heap,K.In h->∃ vs,KV kvs vs/\h.DictOf (a1i P w) a vs
noncomputable def tGetK (kvs:List (Key × V)) (ty:TE):TE:=fun σ H Q=>ty σ H fun y H1=>∃ k v,y = kV k/\valV kvs k = some v/\Q v H1
theorem pe_getK {n:Str} {a:Addr} {kvs:List (Key × V)} {i:Expr} {ty:TE} {p pos:Pos} (D:KD X.prog X.w X.K a kvs) (hg:Gl X n) (hm:X.mg n = some (.ref a)) (hi:PE X i ty) (hs:NoSl i) (hd:(n == ("__debug__" : Str)) = false:=by decide) :
  PE X (.Subscript (.Name n p) i pos) (tGetK kvs ty):=by
 intro pins s σ H Q I h
 have g:PE X (.Name n p) (tC (.ref a)):=b6s hg hm rfl hd
 refine c2d F.slot_dict_getitem.lookup hs (thn (g pins s σ H (fun x H1=>x = .ref a/\ty σ H1 fun y H2=>∃ k v,y = kV k/\valV kvs k = some v/\Q v H2) I ⟨rfl,h⟩) fun u s1 ⟨x,H1,I1,rx,ex,q1⟩=>thn (hi pins s1 σ H1 _ I1 q1) fun iv s2 ⟨y,H2,I2,ry,k,v,ey,g,q2⟩=>?_)
 subst ex
 obtain rfl:u = Value.ref a:=rx
 subst ey
 obtain ⟨vs,rel,dd⟩:=D s2.heap (I2.mod.kin.keeps I2.bk)
 obtain ⟨w',hw,rw'⟩:=RelO.some_of (v:=v) (o:=valueAt vs k) (by rw [<- g]; exact rel.val k)
 exact ⟨dd.typeIs,wpAny_getItem_of (b0q ry) dd.mapOf hw ⟨v,H2,I2.tok _,rw',q2⟩⟩
theorem tGetK_i {kvs:List (Key × V)} {σ:St} {H:Hp} {ty:TE} {Q:VK} (k:ty σ H fun y H1=>∃ k v,y = kV k/\valV kvs k = some v/\Q v H1):tGetK kvs ty σ H Q:=k
inductive DRow (pm:Params):List DictEntry->List (Key × V)->List (Key × Value)->Prop
 | nil:DRow pm [] [] []
 | cons {x:Str} {t:Tok} {v:V} {u:Value} {es:List DictEntry} {kvs:List (Key × V)} {vs:List (Key × Value)}:RelV v u->DRow pm es kvs vs->DRow pm (⟨PyData.keyHash pm x,.str x t,u⟩ :: es) ((Sum.inr x,v) :: kvs) ((Sum.inr x,u) :: vs)
theorem DRow.facts {P:Program} {w:World} {es:List DictEntry} {kvs:List (Key × V)} {vs:List (Key × Value)} (d:DRow w.params es kvs vs):KV kvs vs/\(∀ e ∈ es,∃ k,(a1i P w).is k e.key = true/\e.hash = (a1i P w).hash k)/\Pairs (a1i P w) es vs/\vs.map (·.1) = kvs.map (·.1):=by
 induction d with
 | nil=>exact ⟨.nil,fun e he=>by simp at he,.nil,rfl⟩
 | @cons x t v u es kvs vs r d ih=>
  obtain ⟨h1,h2,h3,h4⟩:=ih
  refine ⟨.cons ⟨rfl,r⟩ h1,fun e he=>?_,.cons (b2v x t) rfl h3,by rw [List.map_cons,List.map_cons,h4]⟩
  rcases List.mem_cons.mp he with z | z
  ·subst z
   exact ⟨Sum.inr x,b2v x t,rfl⟩
  ·exact h2 e z
theorem kd_of {P:Program} {w:World} {K:W.Frag} {a:Addr} {es:List DictEntry} {n:Nat} {kvs:List (Key × V)} {vs:List (Key × Value)} (h:K.lookup a = some ⟨.type "dict",none,.dict es.toArray n,#[]⟩) (d:DRow w.params es kvs vs) (hn:(kvs.map (·.1)).Nodup):KD P w K a kvs:=fun hp hi=>by
 obtain ⟨h1,h2,h3,h4⟩:=d.facts (P:=P)
 exact ⟨vs,h1,_,_,_,hi a _ h,⟨rfl,rfl,rfl⟩,rfl,fun e he=>h2 e (by simpa using he),by simpa using h3,by rw [h4]; exact hn⟩
end
section
variable {X:Cx}
end
section
variable {X:Cx} {tg:Expr}
end
section
variable {X:Cx} {pos:Pos} {e e2:Expr} {te te2:TE}
end
section
variable {X:Cx} {pins:List (Addr × Obj)} {σ:St} {H:Hp} {s:Shared}
end
section
variable {P:Program} {w:World} {A:Around} {E:Value->Shared->Prop} {s:Shared} {d a:Addr} {o:Obj} {ep:Nat}
end
section
variable {X:Cx}
end
section
variable {X:Cx}
end
section
variable {X:Cx} {e:Expr} {ta:TE} {f:Str} {pos:Pos}
end
section
variable {X:Cx}
end
section
variable {X:Cx}
end
section
variable {X:Cx} {ea:Addr} {tg:Expr}
end
section
variable {X:Cx} {k:Nat} {f C C':Addr} {fd:FuncData} {ps:List Str} {sp:Sp} {dvs:List V} {ds:List Value} {m nm cx:Str} {pos apos cp hpos tpos xpos:Pos} {e o:Expr} {es:List Expr} {ta:TE} {t:TA} {bm':List Value} {b0:Stmt} {suite:List Stmt} {ts:Addr->TS} {n:Nat}
end
section
variable {X:Cx}
end
end L2
namespace My
open PySem PySem.Spec PyProof.Rows L2
mutual
noncomputable def ord:Trm->List Str->List Str
 | .any x,a=>if x ∈ a then a else a ++ [x]
 | .num _,a=>a
 | .app _ ks,a=>ordL ks a
noncomputable def ordL:List Trm->List Str->List Str
 | [],a=>a
 | k :: ks,a=>ordL ks (ord k a)
end
mutual
noncomputable def vars:Trm->List Str
 | .any x=>[x]
 | .num _=>[]
 | .app _ ks=>a1f ks
noncomputable def a1f:List Trm->List Str
 | []=>[]
 | k :: ks=>vars k ++ a1f ks
end
theorem b0j:∀ (a b:List Trm) (acc:List Str),ordL (a ++ b) acc = ordL b (ordL a acc)
 | [],b,acc=>by rw [List.nil_append,ordL]
 | k :: a,b,acc=>by rw [List.cons_append,ordL,ordL,b0j a b]
theorem c0k (t:Trm) (acc:List Str):ordL [t] acc = ord t acc:=by rw [ordL,ordL]
mutual
theorem ord_mem:∀ (t:Trm) (a:List Str) (x:Str),x ∈ ord t a ↔ x ∈ a\/x ∈ vars t
 | .any y,a,x=>by
  rw [ord,vars]
  split
  ·rename_i h
   constructor
   ·exact .inl
   ·rintro (z | z)
    ·exact z
    ·rw [List.mem_singleton.mp z]; exact h
  ·rw [List.mem_append]
 | .num _,a,x=>by rw [ord,vars]; simp
 | .app _ ks,a,x=>by rw [ord,vars]; exact b2n ks a x
theorem b2n:∀ (ts:List Trm) (a:List Str) (x:Str),x ∈ ordL ts a ↔ x ∈ a\/x ∈ a1f ts
 | [],a,x=>by rw [ordL,a1f]; simp
 | k :: ks,a,x=>by rw [ordL,a1f,b2n ks,ord_mem k,List.mem_append,or_assoc]
end
mutual
theorem c2l:∀ (t:Trm) (a:List Str),a.Nodup->(ord t a).Nodup
 | .any y,a,h=>by
  rw [ord]
  split
  ·exact h
  ·rename_i hy
   exact List.nodup_append.mpr ⟨h,by simp,fun u hu v hv e=>hy (by rw [<- List.mem_singleton.mp hv,<- e]; exact hu)⟩
 | .num _,a,h=>by rw [ord]; exact h
 | .app _ ks,a,h=>by rw [ord]; exact a6h ks a h
theorem a6h:∀ (ts:List Trm) (a:List Str),a.Nodup->(ordL ts a).Nodup
 | [],a,h=>by rw [ordL]; exact h
 | k :: ks,a,h=>by rw [ordL]; exact a6h ks _ (c2l k a h)
end
mutual
theorem b3z:∀ (t:Trm) (a:List Str),(ord t a).length<=a.length + t.size
 | .any y,a=>by
  rw [ord]
  split
  ·omega
  ·rw [List.length_append]; simp [Trm.size]
 | .num _,a=>by rw [ord]; omega
 | .app _ ks,a=>by rw [ord]; have:=a7j ks a; simp only [Trm.size]; omega
theorem a7j:∀ (ts:List Trm) (a:List Str),(ordL ts a).length<=a.length + Trm.sizeL ts
 | [],a=>by rw [ordL]; omega
 | k :: ks,a=>by
  rw [ordL]
  have h1:=b3z k a
  have h2:=a7j ks (ord k a)
  simp only [Trm.sizeL]
  omega
end
noncomputable abbrev As:=List (Str × Str)
noncomputable def sub (as:As) (x:Str):Str:=((as.find? fun r=>decide (r.1 = x)).map (·.2)).getD x
theorem mem_idx {u:List Str} {x:Str} (h:x ∈ u):∃ j:Nat,u[j]? = some x:=List.mem_iff_getElem?.mp h
noncomputable def tn (n:Nat):Str:=⟨(figsOf n).toArray⟩
theorem c9b {u:List Str} (hn:u.Nodup) {i:Nat} (hi:i < u.length):u[i] ∉ u.take i:=fun h=>by
 obtain ⟨j,hj⟩:=mem_idx h
 have hl:=(List.getElem?_eq_some_iff.mp hj).1
 rw [List.length_take] at hl
 rw [List.getElem?_take_of_lt (by omega)] at hj
 have hj':=List.getElem?_eq_some_iff.mp hj
 have hp:=List.pairwise_iff_getElem.mp (List.nodup_iff_pairwise_ne.mp hn) j i hj'.1 hi (by omega)
 exact hp hj'.2
theorem c6h {u:List Str} {i:Nat} (hi:i < u.length):(u.map V.str).getD i .non = .str u[i]:=by rw [List.getD_eq_getElem?_getD,List.getElem?_map,List.getElem?_eq_getElem hi]; rfl
theorem nodL (ts:List Trm):(ordL ts []).Nodup:=a6h ts [] (by simp)
theorem b0k {ts:List Trm} {x:Str} (h:x ∈ a1f ts):x ∈ ordL ts []:=(b2n ts [] x).mpr (.inr h)
theorem b4a {ts:List Trm} {t:Trm} (h:t ∈ ts):∀ x ∈ vars t,x ∈ a1f ts:=fun x hx=>by
 induction ts with
 | nil=>simp at h
 | cons a r ih=>
  rw [a1f,List.mem_append]
  rcases List.mem_cons.mp h with z | z
  ·subst z; exact .inl hx
  ·exact .inr (ih z)
inductive Rw where
 | slot (c s:Nat)
 | same (c s:Nat)
 | num (c:Nat) (n:Int)
 | app (c:Nat) (g:Str) (m f:Nat)
noncomputable def b8z:Str:=Str.ofString "slot"
noncomputable def b9a:Str:=Str.ofString "same"
noncomputable def Rw.data:Rw->PyData
 | .slot c s=>.tuple [.str b8z,.int c,.int s]
 | .same c s=>.tuple [.str b9a,.int c,.int s]
 | .num c n=>.tuple [.str numS,.int c,.int n]
 | .app c g m f=>.tuple [.str appS,.int c,.str g,.int m,.int f]
noncomputable def Rw.cell:Rw->Nat
 | .slot c _=>c
 | .same c _=>c
 | .num c _=>c
 | .app c _ _ _=>c
mutual
noncomputable def ta (sl:Str->Nat):Trm->Nat->Nat->List Str->List Rw
 | .num n,c,_,_=>[.num c n]
 | .any x,c,_,met=>[if x ∈ met then .same c (sl x) else .slot c (sl x)]
 | .app s ks,c,C,met=>.app c s ks.length C :: taL sl ks C (C + ks.length) met
noncomputable def taL (sl:Str->Nat):List Trm->Nat->Nat->List Str->List Rw
 | [],_,_,_=>[]
 | k :: ks,c,C,met=>ta sl k c C met ++ taL sl ks (c + 1) (C + (k.size - 1)) (ord k met)
end
noncomputable abbrev Th:=List (Option Rw)
noncomputable def Ok1 (th:Th) (m:List Nat) (r:Rw):Prop:=th[r.cell]? = some none/\match r with
 | .num _ _=>True
 | .slot _ s=>s ∉ m
 | .same _ s=>s ∈ m
 | .app _ _ k f=>f = th.length/\k<=4/\f + k<=200
noncomputable def th1 (th:Th) (r:Rw):Th:=match r with
 | .app c _ k _=>th.set c (some r) ++ List.replicate k none
 | .slot c _=>th.set c (some r)
 | .same c _=>th.set c (some r)
 | .num c _=>th.set c (some r)
noncomputable def m1 (m:List Nat) (r:Rw):List Nat:=match r with
 | .slot _ s=>m ++ [s]
 | _=>m
noncomputable def Oks:List Rw->Th->List Nat->Prop
 | [],_,_=>True
 | r :: rs,th,m=>Ok1 th m r/\Oks rs (th1 th r) (m1 m r)
noncomputable def thA (rs:List Rw) (th:Th):Th:=rs.foldl th1 th
noncomputable def mA (rs:List Rw) (m:List Nat):List Nat:=rs.foldl m1 m
noncomputable def Kept (th th':Th):Prop:=∀ (j:Nat) (r:Rw),th[j]? = some (some r)->th'[j]? = some (some r)
mutual
noncomputable def Bt (sl:Str->Nat) (th:Th):Trm->Nat->Prop
 | .num n,c=>th[c]? = some (some (.num c n))
 | .any x,c=>th[c]? = some (some (.slot c (sl x)))\/th[c]? = some (some (.same c (sl x)))
 | .app s ks,c=>∃ f,th[c]? = some (some (.app c s ks.length f))/\BtL sl th ks f
noncomputable def BtL (sl:Str->Nat) (th:Th):List Trm->Nat->Prop
 | [],_=>True
 | k :: ks,c=>Bt sl th k c/\BtL sl th ks (c + 1)
end
mutual
theorem Bt.mono {sl:Str->Nat} {th th':Th} (h:Kept th th'):∀ {t:Trm} {c:Nat},Bt sl th t c->Bt sl th' t c
 | .num n,c,b=>by rw [Bt] at b ⊢; exact h _ _ b
 | .any x,c,b=>by
  rw [Bt] at b ⊢
  rcases b with b | b
  ·exact .inl (h _ _ b)
  ·exact .inr (h _ _ b)
 | .app s ks,c,b=>by
  rw [Bt] at b ⊢
  obtain ⟨f,b1,b2⟩:=b
  exact ⟨f,h _ _ b1,BtL.mono h b2⟩
theorem BtL.mono {sl:Str->Nat} {th th':Th} (h:Kept th th'):∀ {ks:List Trm} {c:Nat},BtL sl th ks c->BtL sl th' ks c
 | [],c,b=>by rw [BtL]; trivial
 | k :: ks,c,b=>by
  rw [BtL] at b ⊢
  exact ⟨Bt.mono h b.1,BtL.mono h b.2⟩
end
mutual
noncomputable def ar4:Trm->Prop
 | .num _=>True
 | .any _=>True
 | .app _ ks=>ks.length<=4/\ar4L ks
noncomputable def ar4L:List Trm->Prop
 | []=>True
 | k :: ks=>ar4 k/\ar4L ks
end
structure Rd (sl:Str->Nat) (rs:List Rw) (th:Th) (met met':List Str) (n:Nat):Prop where
 ok:Oks rs th (met.map sl)
 mt:mA rs (met.map sl) = met'.map sl
 len:(thA rs th).length = n
 new:∀ j,th.length<=j->j < n->∃ r,(thA rs th)[j]? = some (some r)
mutual
noncomputable def byD (sl:Str->Nat):Trm->PyData
 | .num n=>.tuple [.str numS,.int n]
 | .any x=>.tuple [.str anyS,.int (sl x)]
 | .app s ks=>.tuple [.str appS,.str s,.tuple (byL sl ks)]
noncomputable def byL (sl:Str->Nat):List Trm->List PyData
 | []=>[]
 | k :: ks=>byD sl k :: byL sl ks
end
theorem b0a (sl:Str->Nat):∀ ks:List Trm,byL sl ks = ks.map (byD sl)
 | []=>by rw [byL]; rfl
 | k :: ks=>by rw [byL,b0a sl ks]; rfl
local macro_rules | `(tactic| walk_at "rm1") => `(tactic| first | decide | exact Nat.le_refl _ | exact Nat.le_add_left_of_le (by decide) | omega)
local macro_rules | `(tactic| walk_at "or1") => `(tactic| first | exact Or.inl rfl | exact Or.inr rfl)
local macro_rules | `(tactic| walk_at "stq") => `(tactic| first | refine tAsg_i ?_ | refine a6s ?_ | refine tRet_i ?_ | refine tIfS_i ?_ | refine b3v ?_ | refine tDrop_i ?_ | refine mTest_i ?_ | refine mTrue_i ?_ | refine mTru_b ?_ | refine mB_i ?_ | refine tOp_i ?_ | refine tUn_i ?_ | refine mUn_i ?_ | refine m20_i ?_ | refine mAdd_i ?_ | refine mEq_i ?_ | refine mEq_s ?_ | refine mEq_b ?_ | refine mInS_i ?_ | (refine' b9w ?hv ?_; (case hv => with_unfolding_all rfl)) | refine tC_i ?_ | refine c8c ?_ | refine mAndV_i ?_ | refine mOrV_i ?_ | refine mNotV_i ?_ | refine tIf_i ?_ | refine tAnd_i ?_ | refine tOr_i ?_ | refine tNot_i ?_ | refine tCB_i ?_ | refine c8d ?_ | refine tCons_i ?_ | refine tNil_i ?_ | refine tBM_i ?_ | refine tBM0_i ?_ | refine tTup_i ?_ | refine tLst_i ?_ | refine tSl_i ?_ | refine c5j ?_ | refine mPart_i ?_ | refine mI_i ?_ | refine is_str ?_ | refine is_bool ?_ | refine is_int ?_ | refine c1k ?_ | refine mMin_i ?_ | refine isN_non ?_ | refine isN_ref ?_ | refine mInt_b ?_ | refine mMax_i ?_ | refine tDGet_i ?_ | refine c8g ?_ | refine sDPut_i ?_ | refine tDisp_i ?_ | refine c8h ?_ | refine c8i ?_ | refine iRng2_i ?_ | refine iRev_i ?_ | refine iEnum_i ?_ | refine c5u ?_ | refine mAbs_i ?_ | refine gCons_i ?_ | refine gNil_i ?_ | refine c8e ?_ | (refine' mAug_i ?hw ?_; (case hw => with_unfolding_all rfl)) | refine mIAdd_i ?_ | refine tFor_i ?_ | refine c8p ?_ | refine c8q ?_ | refine tTry_i ?_ | refine tXGet_i ?_ | refine c8r ?_ | refine tXSet_i ?_ | refine tPar_i ?_ | refine tF3i_i ?_ | refine iZip_i ?_ | refine c3i ?_ | refine tMeth_i ?_ | refine tFld_i ?_ | refine sFld_i ?_ | refine c6f ?_ | refine tMake_i ?_ | refine c8x ?_ | refine tFr_i ?_ | refine tF2_i ?_ | refine c5u ?_ | refine iStr_i ?_ | refine iList_i ?_ | refine iTup_i ?_ | refine iRng1_i ?_ | refine tComp_i ?_ | (refine m2_i ?hc ?_; (case hc => first | (show (0 : Int) < _; decide) | exact b5y (by decide) (by decide))))
local macro_rules | `(tactic| walk_at "stp") => `(tactic| repeat (with_reducible first | refine c5i ?_ | walk_at "stq"))
local macro_rules | `(tactic| walk_at "stm") => `(tactic| repeat (with_reducible walk_at "stq"))
noncomputable def top (i:Nat):Stmt:=PySem.Challenge.pw_goaltrail_k44_goals_read_back.main.body.getD i (.Pass ⟨0,0,0,0⟩)
noncomputable abbrev a3i:Stmt:=inClass (top 16) 0
noncomputable abbrev a2z:Stmt:=inClass (top 16) 1
noncomputable abbrev a1z:Stmt:=inClass (top 16) 2
noncomputable abbrev a2a:Stmt:=inClass (top 16) 3
noncomputable abbrev a2b:Stmt:=inClass (top 16) 4
noncomputable abbrev a1v:Stmt:=inClass (top 16) 5
noncomputable abbrev a3a:Stmt:=inClass (top 16) 6
noncomputable abbrev a2c:Stmt:=inClass (top 16) 7
noncomputable abbrev a5i:Stmt:=top 5
noncomputable abbrev a4e:Stmt:=top 6
noncomputable abbrev a6i:Stmt:=top 7
noncomputable abbrev a3z:Stmt:=top 9
noncomputable abbrev a5j:Stmt:=top 13
noncomputable abbrev a4s:Stmt:=top 17
noncomputable abbrev a3b:Stmt:=top 18
noncomputable abbrev a6j:Stmt:=top 20
noncomputable abbrev a6k:Stmt:=top 21
noncomputable abbrev a7k:Stmt:=top 22
noncomputable abbrev a7l:Stmt:=top 23
noncomputable abbrev a5c:Stmt:=top 24
noncomputable abbrev a5k:Stmt:=top 25
noncomputable abbrev a5d:Stmt:=top 26
noncomputable abbrev a7m:Stmt:=top 27
noncomputable abbrev a5e:Stmt:=top 28
noncomputable abbrev a7n:Stmt:=top 29
noncomputable abbrev a7o:Stmt:=top 30
noncomputable abbrev a7p:Stmt:=top 31
noncomputable abbrev a7q:Stmt:=top 32
noncomputable abbrev a7r:Stmt:=top 33
noncomputable abbrev a5f:Stmt:=top 34
noncomputable abbrev a3q:Stmt:=top 35
noncomputable abbrev a4i:Stmt:=top 36
noncomputable abbrev a6l:Stmt:=top 37
noncomputable abbrev a4t:Stmt:=top 38
noncomputable abbrev a7s:Stmt:=top 39
noncomputable abbrev a4j:Stmt:=top 40
noncomputable abbrev a3j:Stmt:=top 41
noncomputable abbrev a3k:Stmt:=top 42
noncomputable abbrev a2l:Stmt:=top 43
noncomputable abbrev b0v:Stmt:=top 44
theorem b0w:a0y ["self","terms","name"] ["self","terms"] (a0j a3i):=⟨rfl,rfl,rfl,by decide +kernel,rfl,by decide +kernel,by decide +kernel⟩
theorem b4t:a0y ["self","row"] ["self","row"] (a0j a2z):=⟨rfl,rfl,rfl,by decide +kernel,rfl,by decide +kernel,by decide +kernel⟩
theorem a8c:a0y ["self","many","first"] ["self","many"] (a0j a1z):=⟨rfl,rfl,rfl,by decide +kernel,rfl,by decide +kernel,by decide +kernel⟩
theorem a5a:a0y ["self","head","cell","kid"] ["self","head"] (a0j a2a):=⟨rfl,rfl,rfl,by decide +kernel,rfl,by decide +kernel,by decide +kernel⟩
theorem a3u:a0y ["self","cell","term","first","place","kid"] ["self","cell","term"] (a0j a2b):=⟨rfl,rfl,rfl,by decide +kernel,rfl,by decide +kernel,by decide +kernel⟩
theorem a7a:a0y ["self","name"] ["self"] (a0j a1v):=⟨rfl,rfl,rfl,by decide +kernel,rfl,by decide +kernel,by decide +kernel⟩
theorem a5l:a0y ["self","cell","term","first","place","kid"] ["self","cell","term"] (a0j a3a):=⟨rfl,rfl,rfl,by decide +kernel,rfl,by decide +kernel,by decide +kernel⟩
theorem a3v:a0y ["self","goal","call","asked","cell","kid"] ["self","goal","call"] (a0j a2c):=⟨rfl,rfl,rfl,by decide +kernel,rfl,by decide +kernel,by decide +kernel⟩
theorem c1o:a0y ["sign"] ["sign"] (a0j a5i):=⟨rfl,rfl,rfl,by decide +kernel,rfl,by decide +kernel,by decide +kernel⟩
theorem c0l:a0y ["text","firsts"] ["text","firsts"] (a0j a4e):=⟨rfl,rfl,rfl,by decide +kernel,rfl,by decide +kernel,by decide +kernel⟩
theorem c3n:a0y ["text"] ["text"] (a0j a6i):=⟨rfl,rfl,rfl,by decide +kernel,rfl,by decide +kernel,by decide +kernel⟩
theorem a6v:a0y ["terms","found","todo","part"] ["terms"] (a0j a3z):=⟨rfl,rfl,rfl,by decide +kernel,rfl,by decide +kernel,by decide +kernel⟩
theorem c1p:a0y ["term"] ["term"] (a0j a5j):=⟨rfl,rfl,rfl,by decide +kernel,rfl,by decide +kernel,by decide +kernel⟩
theorem b0l:a0y ["number","rule","writing","goal"] ["number","rule"] (a0j a4s):=⟨rfl,rfl,rfl,by decide +kernel,rfl,by decide +kernel,by decide +kernel⟩
theorem a7t:a0y ["goals","writing","goal"] ["goals"] (a0j a3b):=⟨rfl,rfl,rfl,by decide +kernel,rfl,by decide +kernel,by decide +kernel⟩
theorem c3o:a0y ["_law_found"] ["_law_found"] (a0j a6j):=⟨rfl,rfl,rfl,by decide +kernel,rfl,by decide +kernel,by decide +kernel⟩
theorem a8g:a0y ["_law_script","_law_many","_law_cells_here","_law_number_here"] ["_law_script","_law_many"] (a0j a6k):=⟨rfl,rfl,rfl,by decide +kernel,rfl,by decide +kernel,by decide +kernel⟩
theorem c6i:a0y ["_law_left"] ["_law_left"] (a0j a7k):=⟨rfl,rfl,rfl,by decide +kernel,rfl,by decide +kernel,by decide +kernel⟩
theorem a6m:a0y ["_law_cell","_law_at","_law_k","_law_small","_law_some","_law_word_here","_law_j","_law_n"] ["_law_cell","_law_at","_law_k"] (a0j a7l):=⟨rfl,rfl,rfl,by decide +kernel,rfl,by decide +kernel,by decide +kernel⟩
theorem c3p:a0y ["_law_cell","_law_at"] ["_law_cell","_law_at"] (a0j a5c):=⟨rfl,rfl,rfl,by decide +kernel,rfl,by decide +kernel,by decide +kernel⟩
theorem c1q:a0y ["_law_cell"] ["_law_cell"] (a0j a5k):=⟨rfl,rfl,rfl,by decide +kernel,rfl,by decide +kernel,by decide +kernel⟩
theorem c3q:a0y ["_law_term_here"] ["_law_term_here"] (a0j a5d):=⟨rfl,rfl,rfl,by decide +kernel,rfl,by decide +kernel,by decide +kernel⟩
theorem a4o:a0y ["_law_cell","_law_k","_law_some","_law_signs","_law_many","_law_ahead","_law_name_here","_law_j","_law_n"] ["_law_cell","_law_k"] (a0j a7m):=⟨rfl,rfl,rfl,by decide +kernel,rfl,by decide +kernel,by decide +kernel⟩
theorem c3r:a0y ["_law_cell"] ["_law_cell"] (a0j a5e):=⟨rfl,rfl,rfl,by decide +kernel,rfl,by decide +kernel,by decide +kernel⟩
theorem a9g:a0y ["_law_cell","_law_signs","_law_mark_here","_law_k"] ["_law_cell"] (a0j a7n):=⟨rfl,rfl,rfl,by decide +kernel,rfl,by decide +kernel,by decide +kernel⟩
theorem c6j:a0y ["_law_cell","_law_many","_law_words_here"] ["_law_cell","_law_many","_law_words_here"] (a0j a7o):=⟨rfl,rfl,rfl,by decide +kernel,rfl,by decide +kernel,by decide +kernel⟩
theorem a9h:a0y ["_law_left","_law_many","_law_room","_law_words_here","_law_kids_here","_law_k","_law_kid"] ["_law_left","_law_many","_law_room","_law_words_here"] (a0j a7p):=⟨rfl,rfl,rfl,by decide +kernel,rfl,by decide +kernel,by decide +kernel⟩
theorem a9i:a0y ["_law_left","_law_room","_law_words_here","_law_cell","_law_way","_law_many"] ["_law_left","_law_room","_law_words_here"] (a0j a7q):=⟨rfl,rfl,rfl,by decide +kernel,rfl,by decide +kernel,by decide +kernel⟩
theorem a9j:a0y ["_law_left","_law_words_here","_law_cell","_law_room","_law_way","_law_named"] ["_law_left","_law_words_here"] (a0j a7r):=⟨rfl,rfl,rfl,by decide +kernel,rfl,by decide +kernel,by decide +kernel⟩
theorem a9t:a0y ["_law_terms","_law_slots_here","_law_due","_law_term_here"] ["_law_terms"] (a0j a5f):=⟨rfl,rfl,rfl,by decide +kernel,rfl,by decide +kernel,by decide +kernel⟩
theorem b8f:a0y ["_law_term_here","_law_slots_here"] ["_law_term_here","_law_slots_here"] (a0j a3q):=⟨rfl,rfl,rfl,by decide +kernel,rfl,by decide +kernel,by decide +kernel⟩
theorem a5q:a0y ["_law_rows","_law_sizes","_law_row","_law_k","_law_sign_here"] ["_law_rows"] (a0j a4i):=⟨rfl,rfl,rfl,by decide +kernel,rfl,by decide +kernel,by decide +kernel⟩
theorem b2o:a0y ["_law_cells_here","_law_first","_law_many","_law_kids_here","_law_cell"] ["_law_cells_here","_law_first","_law_many"] (a0j a6l):=⟨rfl,rfl,rfl,by decide +kernel,rfl,by decide +kernel,by decide +kernel⟩
theorem a6n:a0y ["_law_rows","_law_at","_law_cells_here","_law_row","_law_kids_here"] ["_law_rows","_law_at","_law_cells_here"] (a0j a4t):=⟨rfl,rfl,rfl,by decide +kernel,rfl,by decide +kernel,by decide +kernel⟩
theorem b0x:a0y ["_law_row","_law_cells_here","_law_deeds","_law_kids_here"] ["_law_row","_law_cells_here"] (a0j a7s):=⟨rfl,rfl,rfl,by decide +kernel,rfl,by decide +kernel,by decide +kernel⟩
theorem b8g:a0y ["_law_goal_here"] ["_law_goal_here"] (a0j a4j):=⟨rfl,rfl,rfl,by decide +kernel,rfl,by decide +kernel,by decide +kernel⟩
theorem a2g:a0y ["_law_rows","_law_at","_law_goals","_law_slots_here","_law_head_slots","_law_is_rule","_law_news","_law_k","_law_cells_here","_law_jumps"] ["_law_rows","_law_at","_law_goals","_law_slots_here","_law_head_slots","_law_is_rule"] (a0j a3j):=⟨rfl,rfl,rfl,by decide +kernel,rfl,by decide +kernel,by decide +kernel⟩
theorem a3w:a0y ["_law_number_here","_law_head","_law_goals","_law_found","_law_slots_here","_law_rows","_law_at"] ["_law_number_here","_law_head","_law_goals"] (a0j a3k):=⟨rfl,rfl,rfl,by decide +kernel,rfl,by decide +kernel,by decide +kernel⟩
theorem a4k:a0y ["_law_goals","_law_handed","_law_found","_law_slots_here"] ["_law_goals"] (a0j a2l):=⟨rfl,rfl,rfl,by decide +kernel,rfl,by decide +kernel,by decide +kernel⟩
theorem a9k:a0y ["_law_script","_law_cells_here","_law_words_here","_law_left","_law_goals","_law_k","_law_head","_law_number_here"] ["_law_script"] (a0j b0v):=⟨rfl,rfl,rfl,by decide +kernel,rfl,by decide +kernel,by decide +kernel⟩
set_option genInjectivity false in
structure Ad where
 k_Writing:Addr
 a_Writing_init:Addr
 d_Writing_init:FuncData
 a_Writing_write:Addr
 d_Writing_write:FuncData
 a_Writing_give_cells:Addr
 d_Writing_give_cells:FuncData
 a_Writing_write_head:Addr
 d_Writing_write_head:FuncData
 a_Writing_take_apart:Addr
 d_Writing_take_apart:FuncData
 a_Writing_write_frame:Addr
 d_Writing_write_frame:FuncData
 a_Writing_bring:Addr
 d_Writing_bring:FuncData
 a_Writing_write_goal:Addr
 d_Writing_write_goal:FuncData
 a_is_inner:Addr
 d_is_inner:FuncData
 a_is_called:Addr
 d_is_called:FuncData
 a_is_word:Addr
 d_is_word:FuncData
 a_unknowns_of:Addr
 d_unknowns_of:FuncData
 a_is_named:Addr
 d_is_named:FuncData
 a_rule_code:Addr
 d_rule_code:FuncData
 a_question_code:Addr
 d_question_code:FuncData
 a_l_whole:Addr
 d_l_whole:FuncData
 a_l_cells:Addr
 d_l_cells:FuncData
 a_l_next:Addr
 d_l_next:FuncData
 a_l_word:Addr
 d_l_word:FuncData
 a_l_words:Addr
 d_l_words:FuncData
 a_l_number:Addr
 d_l_number:FuncData
 a_l_parts:Addr
 d_l_parts:FuncData
 a_l_name:Addr
 d_l_name:FuncData
 a_l_names:Addr
 d_l_names:FuncData
 a_l_mark:Addr
 d_l_mark:FuncData
 a_l_sign:Addr
 d_l_sign:FuncData
 a_l_kids:Addr
 d_l_kids:FuncData
 a_l_term:Addr
 d_l_term:FuncData
 a_l_goal:Addr
 d_l_goal:FuncData
 a_l_slots:Addr
 d_l_slots:FuncData
 a_l_by_slots:Addr
 d_l_by_slots:FuncData
 a_l_rows_are:Addr
 d_l_rows_are:FuncData
 a_l_taken:Addr
 d_l_taken:FuncData
 a_l_brought:Addr
 d_l_brought:FuncData
 a_l_done:Addr
 d_l_done:FuncData
 a_l_is_named:Addr
 d_l_is_named:FuncData
 a_l_body_right:Addr
 d_l_body_right:FuncData
 a_l_rule_right:Addr
 d_l_rule_right:FuncData
 a_l_question_right:Addr
 d_l_question_right:FuncData
 a_law:Addr
 d_law:FuncData
 t_NOT:Tok
 t_KEEP:Tok
 c_MARK_ROWS:Addr
 t_SMALL:Tok
 t_GREAT:Tok
 t_FIGURES:Tok
 t_MOST_LETTERS:Tok
structure Txt (K:W.Frag) (mg:Str->Option Value) (t:Ad):Prop where
 m_Writing:mg "Writing" = some (.ref t.k_Writing)
 cl_Writing:Cls K t.k_Writing
 no_Writing_slots:a3h K t.k_Writing "slots"
 no_Writing_met:a3h K t.k_Writing "met"
 no_Writing_cells:a3h K t.k_Writing "cells"
 no_Writing_rows:a3h K t.k_Writing "rows"
 mk_Writing:Mk K t.k_Writing t.a_Writing_init
 me_Writing_write:Meth K t.k_Writing "write" t.a_Writing_write
 me_Writing_give_cells:Meth K t.k_Writing "give_cells" t.a_Writing_give_cells
 me_Writing_write_head:Meth K t.k_Writing "write_head" t.a_Writing_write_head
 me_Writing_take_apart:Meth K t.k_Writing "take_apart" t.a_Writing_take_apart
 me_Writing_write_frame:Meth K t.k_Writing "write_frame" t.a_Writing_write_frame
 me_Writing_bring:Meth K t.k_Writing "bring" t.a_Writing_bring
 me_Writing_write_goal:Meth K t.k_Writing "write_goal" t.a_Writing_write_goal
 F_Writing_init:Fun K "__init__" "Writing.__init__" a3i t.a_Writing_init t.d_Writing_init
 b_Writing_init:Binds K t.d_Writing_init ["self","terms"] []
 F_Writing_write:Fun K "write" "Writing.write" a2z t.a_Writing_write t.d_Writing_write
 b_Writing_write:Binds K t.d_Writing_write ["self","row"] []
 F_Writing_give_cells:Fun K "give_cells" "Writing.give_cells" a1z t.a_Writing_give_cells t.d_Writing_give_cells
 b_Writing_give_cells:Binds K t.d_Writing_give_cells ["self","many"] []
 F_Writing_write_head:Fun K "write_head" "Writing.write_head" a2a t.a_Writing_write_head t.d_Writing_write_head
 b_Writing_write_head:Binds K t.d_Writing_write_head ["self","head"] []
 F_Writing_take_apart:Fun K "take_apart" "Writing.take_apart" a2b t.a_Writing_take_apart t.d_Writing_take_apart
 b_Writing_take_apart:Binds K t.d_Writing_take_apart ["self","cell","term"] []
 F_Writing_write_frame:Fun K "write_frame" "Writing.write_frame" a1v t.a_Writing_write_frame t.d_Writing_write_frame
 b_Writing_write_frame:Binds K t.d_Writing_write_frame ["self"] []
 F_Writing_bring:Fun K "bring" "Writing.bring" a3a t.a_Writing_bring t.d_Writing_bring
 b_Writing_bring:Binds K t.d_Writing_bring ["self","cell","term"] []
 F_Writing_write_goal:Fun K "write_goal" "Writing.write_goal" a2c t.a_Writing_write_goal t.d_Writing_write_goal
 b_Writing_write_goal:Binds K t.d_Writing_write_goal ["self","goal","call"] []
 F_is_inner:Fun K "is_inner" "is_inner" a5i t.a_is_inner t.d_is_inner
 b_is_inner:Binds K t.d_is_inner ["sign"] []
 m_is_inner:mg "is_inner" = some (.ref t.a_is_inner)
 F_is_called:Fun K "is_called" "is_called" a4e t.a_is_called t.d_is_called
 b_is_called:Binds K t.d_is_called ["text","firsts"] []
 m_is_called:mg "is_called" = some (.ref t.a_is_called)
 F_is_word:Fun K "is_word" "is_word" a6i t.a_is_word t.d_is_word
 b_is_word:Binds K t.d_is_word ["text"] []
 m_is_word:mg "is_word" = some (.ref t.a_is_word)
 F_unknowns_of:Fun K "unknowns_of" "unknowns_of" a3z t.a_unknowns_of t.d_unknowns_of
 b_unknowns_of:Binds K t.d_unknowns_of ["terms"] []
 m_unknowns_of:mg "unknowns_of" = some (.ref t.a_unknowns_of)
 F_is_named:Fun K "is_named" "is_named" a5j t.a_is_named t.d_is_named
 b_is_named:Binds K t.d_is_named ["term"] []
 m_is_named:mg "is_named" = some (.ref t.a_is_named)
 F_rule_code:Fun K "rule_code" "rule_code" a4s t.a_rule_code t.d_rule_code
 b_rule_code:Binds K t.d_rule_code ["number","rule"] []
 m_rule_code:mg "rule_code" = some (.ref t.a_rule_code)
 F_question_code:Fun K "question_code" "question_code" a3b t.a_question_code t.d_question_code
 b_question_code:Binds K t.d_question_code ["goals"] []
 m_question_code:mg "question_code" = some (.ref t.a_question_code)
 F_l_whole:Fun K "_law_whole" "_law_whole" a6j t.a_l_whole t.d_l_whole
 b_l_whole:Binds K t.d_l_whole ["_law_found"] []
 m_l_whole:mg "_law_whole" = some (.ref t.a_l_whole)
 F_l_cells:Fun K "_law_cells" "_law_cells" a6k t.a_l_cells t.d_l_cells
 b_l_cells:Binds K t.d_l_cells ["_law_script","_law_many"] []
 m_l_cells:mg "_law_cells" = some (.ref t.a_l_cells)
 F_l_next:Fun K "_law_next" "_law_next" a7k t.a_l_next t.d_l_next
 b_l_next:Binds K t.d_l_next ["_law_left"] []
 m_l_next:mg "_law_next" = some (.ref t.a_l_next)
 F_l_word:Fun K "_law_word" "_law_word" a7l t.a_l_word t.d_l_word
 b_l_word:Binds K t.d_l_word ["_law_cell","_law_at","_law_k"] []
 m_l_word:mg "_law_word" = some (.ref t.a_l_word)
 F_l_words:Fun K "_law_words" "_law_words" a5c t.a_l_words t.d_l_words
 b_l_words:Binds K t.d_l_words ["_law_cell","_law_at"] []
 m_l_words:mg "_law_words" = some (.ref t.a_l_words)
 F_l_number:Fun K "_law_number" "_law_number" a5k t.a_l_number t.d_l_number
 b_l_number:Binds K t.d_l_number ["_law_cell"] []
 m_l_number:mg "_law_number" = some (.ref t.a_l_number)
 F_l_parts:Fun K "_law_parts" "_law_parts" a5d t.a_l_parts t.d_l_parts
 b_l_parts:Binds K t.d_l_parts ["_law_term_here"] []
 m_l_parts:mg "_law_parts" = some (.ref t.a_l_parts)
 F_l_name:Fun K "_law_name" "_law_name" a7m t.a_l_name t.d_l_name
 b_l_name:Binds K t.d_l_name ["_law_cell","_law_k"] []
 m_l_name:mg "_law_name" = some (.ref t.a_l_name)
 F_l_names:Fun K "_law_names" "_law_names" a5e t.a_l_names t.d_l_names
 b_l_names:Binds K t.d_l_names ["_law_cell"] []
 m_l_names:mg "_law_names" = some (.ref t.a_l_names)
 F_l_mark:Fun K "_law_mark" "_law_mark" a7n t.a_l_mark t.d_l_mark
 b_l_mark:Binds K t.d_l_mark ["_law_cell"] []
 m_l_mark:mg "_law_mark" = some (.ref t.a_l_mark)
 F_l_sign:Fun K "_law_sign" "_law_sign" a7o t.a_l_sign t.d_l_sign
 b_l_sign:Binds K t.d_l_sign ["_law_cell","_law_many","_law_words_here"] []
 m_l_sign:mg "_law_sign" = some (.ref t.a_l_sign)
 F_l_kids:Fun K "_law_kids" "_law_kids" a7p t.a_l_kids t.d_l_kids
 b_l_kids:Binds K t.d_l_kids ["_law_left","_law_many","_law_room","_law_words_here"] []
 m_l_kids:mg "_law_kids" = some (.ref t.a_l_kids)
 F_l_term:Fun K "_law_term" "_law_term" a7q t.a_l_term t.d_l_term
 b_l_term:Binds K t.d_l_term ["_law_left","_law_room","_law_words_here"] []
 m_l_term:mg "_law_term" = some (.ref t.a_l_term)
 F_l_goal:Fun K "_law_goal" "_law_goal" a7r t.a_l_goal t.d_l_goal
 b_l_goal:Binds K t.d_l_goal ["_law_left","_law_words_here"] []
 m_l_goal:mg "_law_goal" = some (.ref t.a_l_goal)
 F_l_slots:Fun K "_law_slots" "_law_slots" a5f t.a_l_slots t.d_l_slots
 b_l_slots:Binds K t.d_l_slots ["_law_terms"] []
 m_l_slots:mg "_law_slots" = some (.ref t.a_l_slots)
 F_l_by_slots:Fun K "_law_by_slots" "_law_by_slots" a3q t.a_l_by_slots t.d_l_by_slots
 b_l_by_slots:Binds K t.d_l_by_slots ["_law_term_here","_law_slots_here"] []
 m_l_by_slots:mg "_law_by_slots" = some (.ref t.a_l_by_slots)
 F_l_rows_are:Fun K "_law_rows_are" "_law_rows_are" a4i t.a_l_rows_are t.d_l_rows_are
 b_l_rows_are:Binds K t.d_l_rows_are ["_law_rows"] []
 m_l_rows_are:mg "_law_rows_are" = some (.ref t.a_l_rows_are)
 F_l_taken:Fun K "_law_taken" "_law_taken" a6l t.a_l_taken t.d_l_taken
 b_l_taken:Binds K t.d_l_taken ["_law_cells_here","_law_first","_law_many"] []
 m_l_taken:mg "_law_taken" = some (.ref t.a_l_taken)
 F_l_brought:Fun K "_law_brought" "_law_brought" a4t t.a_l_brought t.d_l_brought
 b_l_brought:Binds K t.d_l_brought ["_law_rows","_law_at","_law_cells_here"] []
 m_l_brought:mg "_law_brought" = some (.ref t.a_l_brought)
 F_l_done:Fun K "_law_done" "_law_done" a7s t.a_l_done t.d_l_done
 b_l_done:Binds K t.d_l_done ["_law_row","_law_cells_here"] []
 m_l_done:mg "_law_done" = some (.ref t.a_l_done)
 F_l_is_named:Fun K "_law_is_named" "_law_is_named" a4j t.a_l_is_named t.d_l_is_named
 b_l_is_named:Binds K t.d_l_is_named ["_law_goal_here"] []
 m_l_is_named:mg "_law_is_named" = some (.ref t.a_l_is_named)
 F_l_body_right:Fun K "_law_body_right" "_law_body_right" a3j t.a_l_body_right t.d_l_body_right
 b_l_body_right:Binds K t.d_l_body_right ["_law_rows","_law_at","_law_goals","_law_slots_here","_law_head_slots","_law_is_rule"] []
 m_l_body_right:mg "_law_body_right" = some (.ref t.a_l_body_right)
 F_l_rule_right:Fun K "_law_rule_right" "_law_rule_right" a3k t.a_l_rule_right t.d_l_rule_right
 b_l_rule_right:Binds K t.d_l_rule_right ["_law_number_here","_law_head","_law_goals"] []
 m_l_rule_right:mg "_law_rule_right" = some (.ref t.a_l_rule_right)
 F_l_question_right:Fun K "_law_question_right" "_law_question_right" a2l t.a_l_question_right t.d_l_question_right
 b_l_question_right:Binds K t.d_l_question_right ["_law_goals"] []
 m_l_question_right:mg "_law_question_right" = some (.ref t.a_l_question_right)
 F_law:Fun K "law" "law" b0v t.a_law t.d_law
 b_law:Binds K t.d_law ["_law_script"] []
 m_law:mg "law" = some (.ref t.a_law)
 n_all:mg "all" = none
 n_bool:mg "bool" = none
 n_enumerate:mg "enumerate" = none
 n_int:mg "int" = none
 n_isinstance:mg "isinstance" = none
 n_len:mg "len" = none
 n_list:mg "list" = none
 n_min:mg "min" = none
 n_range:mg "range" = none
 n_reversed:mg "reversed" = none
 n_sorted:mg "sorted" = none
 n_str:mg "str" = none
 n_sum:mg "sum" = none
 n_tuple:mg "tuple" = none
 m_NOT:mg "NOT" = some (.str (PySem.Str.ofString "not") t.t_NOT)
 m_KEEP:mg "KEEP" = some (.str (PySem.Str.ofString "keep") t.t_KEEP)
 m_MARK_ROWS:mg "MARK_ROWS" = some (.ref t.c_MARK_ROWS)
 e_MARK_ROWS:(t.c_MARK_ROWS == sysModules) = false
 m_SMALL:mg "SMALL" = some (.str (PySem.Str.ofString "abcdefghijklmnopqrstuvwxyz") t.t_SMALL)
 m_GREAT:mg "GREAT" = some (.str (PySem.Str.ofString "ABCDEFGHIJKLMNOPQRSTUVWXYZ") t.t_GREAT)
 m_FIGURES:mg "FIGURES" = some (.str (PySem.Str.ofString "0123456789") t.t_FIGURES)
 m_MOST_LETTERS:mg "MOST_LETTERS" = some (.int 12 t.t_MOST_LETTERS)
theorem b8h:([Sum.inr (PySem.Str.ofString "="),Sum.inr (PySem.Str.ofString ":="),Sum.inr (PySem.Str.ofString "<"),Sum.inr (PySem.Str.ofString "<=")]:List Key).Nodup:=by decide +kernel
noncomputable def a8h (t:Ad):List (Key × V):=[(Sum.inr (PySem.Str.ofString "="),.str (PySem.Str.ofString "equal")),(Sum.inr (PySem.Str.ofString ":="),.str (PySem.Str.ofString "reckon")),(Sum.inr (PySem.Str.ofString "<"),.str (PySem.Str.ofString "less")),(Sum.inr (PySem.Str.ofString "<="),.str (PySem.Str.ofString "atmost"))]
noncomputable abbrev a2f:Str:=Str.ofString "abcdefghijklmnopqrstuvwxyz"
noncomputable abbrev a6f:Str:=Str.ofString "ABCDEFGHIJKLMNOPQRSTUVWXYZ"
noncomputable abbrev figS:Str:=Str.ofString "0123456789"
noncomputable abbrev one (c:Nat):Str:=⟨#[c]⟩
noncomputable def inner (c:Str):Bool:=inS c a2f || (inS c a6f || inS c figS)
noncomputable def fst (z:Str):Str:=one (z.cps.getD 0 0)
noncomputable def called (z firsts:Str):Bool:=(decide ((1:Int)<=z.length) && decide ((z.length:Int)<=12)) && (inS (fst z) firsts && z.cps.toList.all fun c=>inner (one c))
noncomputable abbrev a9b:Sp:=fun vs H Q _=>match vs with | [.str c]=>Q (.bl (inner c)) H | _=>False
noncomputable abbrev a8i:Sp:=fun vs H Q _=>match vs with | [.str z,.str f]=>z.length<=1000/\∀ H',Same H H'->Q (.bl (called z f)) H' | _=>False
noncomputable abbrev a9u:Sp:=fun vs H Q _=>match vs with | [.str z]=>z.length<=1000/\∀ H',Same H H'->Q (.bl (called z a2f)) H' | _=>False
theorem len_fst {z:Str} (h:0 < z.length):atI z.cps.toList 0 = some (z.cps.getD 0 0):=by
 obtain ⟨v,h1,h2⟩:=a6d (xs:=z.cps.toList) (i:=0) (by omega) (by simp only [Array.length_toList]; unfold Str.length at h; omega)
 rw [h1]
 have h2:z.cps.toList[0]? = some v:=h2
 rw [Array.getElem?_toList] at h2
 rw [Array.getD_eq_getD_getElem?,h2]; rfl
theorem all_get (z:Str) (f:Nat->Bool):((List.range z.cps.size).map fun k=>f (z.cps.getD k 0)).all id = z.cps.toList.all f:=by
 rw [Bool.eq_iff_iff,List.all_eq_true,List.all_eq_true]
 constructor
 ·intro h c hc
  obtain ⟨i,hi,e⟩:=List.getElem_of_mem hc
  have hi':i < z.cps.size:=by simpa using hi
  have:=h (f (z.cps.getD i 0)) (List.mem_map.mpr ⟨i,List.mem_range.mpr hi',rfl⟩)
  rw [Array.getD_eq_getD_getElem?,<- Array.getElem?_toList,List.getElem?_eq_getElem hi] at this
  simpa [e] using this
 ·intro h b hb
  obtain ⟨i,hi,rfl⟩:=List.mem_map.mp hb
  have hi:=List.mem_range.mp hi
  rw [Array.getD_eq_getD_getElem?,Array.getElem?_eq_getElem hi]
  exact h _ (by simp)
theorem c1r {α:Type} (l:List α):l = []\/∃ a b,l = a ++ [b]:=by
 rcases List.eq_nil_or_concat l with h | ⟨a,b,h⟩
 ·exact .inl h
 ·exact .inr ⟨a,b,by rw [h,List.concat_eq_append]⟩
theorem c6k {x:Str} (h:decide (x = appS) = false) {A B:Prop} (k:B):if (false ^^ decide (x = appS)) = true then A else B:=by rw [Bool.false_xor,h]; exact iteF k
theorem yes_app {x:Str} (h:decide (x = appS) = true) {A B:Prop} (k:A):if (false ^^ decide (x = appS)) = true then A else B:=by rw [Bool.false_xor,h]; exact iteT k
theorem d1:decide (numS = appS) = false:=by decide +kernel
theorem d2:decide (anyS = appS) = false:=by decide +kernel
theorem d3:decide (appS = appS) = true:=by decide +kernel
noncomputable abbrev a2p:Str:=Str.ofString "keep"
noncomputable abbrev notS:Str:=Str.ofString "not"
noncomputable def named:Trm->Bool
 | .app sg _=>called sg a2f && !decide (sg ∈ [a2p,notS])
 | _=>false
noncomputable def sLen:Trm->Prop
 | .app sg _=>sg.length<=1000
 | _=>True
noncomputable abbrev a7b (K:W.Frag):Sp:=fun vs H Q _=>match vs with | [v]=>∃ t:Trm,Den K H v t.data/\sLen t/\∀ H',Same H H'->Q (.bl (named t)) H' | _=>False
theorem a2t {H H':Hp} {p:Addr} (s:Same H H') (h:H' p = none):H p = none:=by
 cases e:H p with
 | none=>rfl
 | some o=>rw [s _ _ e] at h; cases h
theorem a6o (a b:List Trm):Trm.dataL (a ++ b) = Trm.dataL a ++ Trm.dataL b:=by rw [Trm.dataL_map,Trm.dataL_map,Trm.dataL_map,List.map_append]
theorem a7u {K:W.Frag} {p:Addr} {H H':Hp} {kv:List (Key × V)} (e:But p H H') (hp:H p = some (.dK kv)):∀ a xs,SqT K H a xs->SqT K H' a xs:=fun a xs h=>by
 rcases h with (h | ⟨o,h⟩) | h
 ·exact .inl (.inl (e _ _ (fun z=>by rw [z,hp] at h; cases h) h))
 ·exact .inl (.inr ⟨o,e _ _ (fun z=>by rw [z,hp] at h; cases h) h⟩)
 ·exact .inr h
theorem q1:decide (numS = anyS) = false:=by decide +kernel
theorem q2:decide (appS = anyS) = false:=by decide +kernel
theorem q3:decide (anyS = anyS) = true:=by decide +kernel
noncomputable abbrev a6w (K:W.Frag):Sp:=fun vs H Q _=>match vs with | [.ref a]=>∃ (us:List V) (ts:List Trm),SqL K H a us/\DenL K H us (Trm.dataL ts)/\Trm.sizeL ts<=1000/\∀ (p:Addr) (H':Hp),Same H H'->H p = none->H' p = some (.lst ((ordL ts []).map V.str))->Q (.ref p) H' | _=>False
theorem nil_or_snoc' {α:Type} (l:List α):l = []\/∃ r x,l = r ++ [x]:=by
 rcases List.eq_nil_or_concat l with h | ⟨r,x,h⟩
 ·exact .inl h
 ·exact .inr ⟨r,x,by rw [h,List.concat_eq_append]⟩
theorem DenL.rev {K:W.Frag} {H:Hp}:∀ {us:List V} {ds:List PyData},DenL K H us ds->DenL K H us.reverse ds.reverse
 | _,_,.nil=>.nil
 | _,_,.cons a r=>by
  rw [List.reverse_cons,List.reverse_cons]
  exact (DenL.rev r).append (.cons a .nil)
theorem b0y (ts:List Trm):(Trm.dataL ts).reverse = Trm.dataL ts.reverse:=by rw [Trm.dataL_map,Trm.dataL_map,List.map_reverse]
theorem a9l:∀ ts:List Trm,Trm.sizeL ts.reverse = Trm.sizeL ts
 | []=>rfl
 | k :: ks=>by
  rw [List.reverse_cons,Trm.sizeL_app,a9l ks]
  simp only [Trm.sizeL]
  omega
noncomputable def encB (acc:List Str):List (Key × V):=acc.map fun x=>(Sum.inr x,V.bl true)
theorem b4u (acc:List Str):(encB acc).length = acc.length:=by simp [encB]
theorem c9c (acc:List Str) (x:Str):((encB acc).any fun kv=>decide (kv.1 = Sum.inr x)) = decide (x ∈ acc):=by
 by_cases h:x ∈ acc
 ·rw [decide_eq_true h,List.any_eq_true]
  exact ⟨(Sum.inr x,V.bl true),List.mem_map.mpr ⟨x,h,rfl⟩,by simp⟩
 ·rw [decide_eq_false h,List.any_eq_false]
  intro kv hk e
  obtain ⟨y,hy,rfl⟩:=List.mem_map.mp hk
  exact h (by rw [<- Sum.inr.inj (of_decide_eq_true e)]; exact hy)
theorem b4v (acc:List Str) (x:Str):putK (encB acc) (Sum.inr x) (.bl true) = encB (ord (.any x) acc):=by
 rw [ord]
 unfold putK
 rw [c9c]
 by_cases h:x ∈ acc
 ·rw [if_pos (decide_eq_true h),if_pos h]
  unfold encB
  rw [List.map_map]
  refine List.map_congr_left fun y hy=>?_
  show (if (Sum.inr y:Key) = Sum.inr x then ((Sum.inr y:Key),V.bl true) else (Sum.inr y,V.bl true)) = (Sum.inr y,V.bl true)
  split <;> rfl
 ·rw [if_neg (by rw [decide_eq_false h]; decide),if_neg h]
  unfold encB
  rw [List.map_append]
  rfl
theorem c6l (acc:List Str):((encB acc).map fun kv=>kV kv.1) = acc.map V.str:=by
 unfold encB
 rw [List.map_map]
 rfl
theorem b0m {ls:List Trm} {i:Nat} {l:Trm} (h:ls[i]? = some l):l.size<=Trm.sizeL ls:=c8s (List.mem_of_getElem? h)
theorem b0b {K:W.Frag} {H:Hp} {us:List V} {ts:List Trm} {i:Nat} (h:DenL K H us (Trm.dataL ts)) (hi:i < ts.length):∃ hu:i < us.length,Den K H us[i] ts[i].data:=by
 have hl:=h.length
 rw [Trm.dataL_map,List.length_map] at hl
 have hu:i < us.length:=by omega
 refine ⟨hu,?_⟩
 obtain ⟨d,e1,e2⟩:=h.get (List.getElem?_eq_getElem hu)
 rw [Trm.dataL_map,List.getElem?_map,List.getElem?_eq_getElem hi] at e1
 obtain rfl:ts[i].data = d:=Option.some.inj e1
 exact e2
theorem getD_at {us:List V} {i:Nat} (h:i < us.length):us.getD i .non = us[i]:=by rw [List.getD_eq_getElem?_getD,List.getElem?_eq_getElem h]; rfl
theorem take_succ' {α:Type} {l:List α} {i:Nat} (h:i < l.length):l.take (i + 1) = l.take i ++ [l[i]]:=by rw [List.take_add_one,List.getElem?_eq_getElem h]; rfl
theorem a1y {K:W.Frag} {H:Hp} {us:List V} {ts:List Trm} (h:DenL K H us (Trm.dataL ts)):us.length = ts.length:=by
 have hl:=h.length
 rwa [Trm.dataL_map,List.length_map] at hl
theorem b7d {p:Addr} {H0 H H':Hp} (s:Same H0 H) (b:But p H H') (n:H0 p = none):Same H0 H':=fun a o e=>b a o (fun z=>by rw [z,n] at e; cases e) (s a o e)
theorem a3d {p:Addr} {H:Hp} {o:HO}:But p H (upd H p o):=fun b u hb e=>by rw [a0n hb]; exact e
theorem a9v (ts:List Trm) (i:Nat):Trm.sizeL (ts.take i)<=Trm.sizeL ts:=by
 have h:=Trm.sizeL_app (ts.take i) (ts.drop i)
 rw [List.take_append_drop] at h
 omega
noncomputable def encJ:Nat->List Str->List (Key × V)
 | _,[]=>[]
 | i,x :: u=>(Sum.inr x,.int i) :: encJ (i + 1) u
noncomputable def ix:List Str->Str->Nat
 | [],_=>0
 | y :: u,x=>if y = x then 0 else ix u x + 1
theorem a2s:∀ (i:Nat) (u:List Str),(encJ i u).length = u.length
 | _,[]=>rfl
 | i,x :: u=>by rw [encJ,List.length_cons,a2s (i + 1) u,List.length_cons]
theorem b7s:∀ (i:Nat) (u:List Str),((encJ i u).map fun kv=>kV kv.1) = u.map V.str
 | _,[]=>rfl
 | i,x :: u=>by rw [encJ,List.map_cons,b7s (i + 1) u]; rfl
theorem valJ:∀ {u:List Str} {x:Str} (i:Nat),x ∈ u->valV (encJ i u) (Sum.inr x) = some (.int ((i + ix u x:Nat):Int))
 | y :: u,x,i,h=>by
  by_cases e:y = x
  ·rw [encJ,a2i (by rw [e]),ix,if_pos e]; rfl
  ·rw [encJ,a1t (fun z=>e (Sum.inr.inj z)),ix,if_neg e,valJ (i + 1) (by rcases List.mem_cons.mp h with z | z; exact absurd z.symm e; exact z)]
   rw [show i + 1 + ix u x = i + (ix u x + 1) by omega]
 | [],_,_,h=>by simp at h
theorem b7e:∀ {u:List Str} {x:Str} (i:Nat),x ∉ u->valV (encJ i u) (Sum.inr x) = none
 | [],x,i,h=>rfl
 | y :: u,x,i,h=>by
  rw [encJ,a1t (fun z=>h (by rw [Sum.inr.inj z]; exact List.mem_cons_self ..)),b7e (i + 1) (fun z=>h (List.mem_cons_of_mem _ z))]
theorem b7t:∀ (i:Nat) (u:List Str) (x:Str),encJ i (u ++ [x]) = encJ i u ++ [(Sum.inr x,.int ((i + u.length:Nat):Int))]
 | i,[],x=>rfl
 | i,y :: u,x=>by
  rw [List.cons_append,encJ,encJ,b7t (i + 1) u x,List.cons_append,List.length_cons,show i + 1 + u.length = i + (u.length + 1) by omega]
theorem c0m {u:List Str} {x:Str} (h:x ∉ u):putK (encJ 0 u) (Sum.inr x) (.int (u.length:Int)) = encJ 0 (u ++ [x]):=by
 rw [b9p _ (b7e 0 h),b7t,Nat.zero_add]
theorem c0n:∀ {u:List Str} {x:Str} (i:Nat),u.Nodup->x ∈ u->(encJ i u).map (fun kv=>if kv.1 = Sum.inr x then (kv.1,V.int ((i + ix u x:Nat):Int)) else kv) = encJ i u
 | y :: u,x,i,hn,h=>by
  have hn':=List.nodup_cons.mp hn
  rw [encJ,List.map_cons]
  by_cases e:y = x
  ·subst e
   have hix:ix (y :: u) y = 0:=by rw [ix,if_pos rfl]
   rw [hix]
   show (if (Sum.inr y:Key) = Sum.inr y then _ else _) :: _ = _
   rw [if_pos rfl]
   congr 1
   have:∀ kv ∈ encJ (i + 1) u,(if kv.1 = Sum.inr y then (kv.1,V.int ((i + 0:Nat):Int)) else kv) = kv:=fun kv hkv=>by
    rw [if_neg]
    intro z
    have hk:=List.mem_map_of_mem (f:=fun kv:Key × V=>kV kv.1) hkv
    rw [b7s] at hk
    obtain ⟨w,hw,e2⟩:=List.mem_map.mp hk
    rw [z] at e2
    have e3:w = y:=by injection e2
    rw [e3] at hw
    exact hn'.1 hw
   rw [List.map_congr_left this,List.map_id']
  ·have hx:x ∈ u:=by rcases List.mem_cons.mp h with z | z; exact absurd z.symm e; exact z
   have hix:ix (y :: u) x = ix u x + 1:=by rw [ix,if_neg e]
   rw [hix]
   show (if (Sum.inr y:Key) = Sum.inr x then _ else _) :: _ = _
   rw [if_neg (fun z=>e (Sum.inr.inj z))]
   have:=c0n (u:=u) (x:=x) (i + 1) hn'.2 hx
   rw [show i + 1 + ix u x = i + (ix u x + 1) by omega] at this
   rw [this]
 | [],_,_,_,h=>by simp at h
theorem c6m {u:List Str} {x:Str} (hn:u.Nodup) (h:x ∈ u):putK (encJ 0 u) (Sum.inr x) (.int (ix u x:Int)) = encJ 0 u:=by
 unfold putK
 rw [a7g,valJ 0 h,Option.isSome_some,if_pos rfl]
 have:=c0n 0 hn h
 rw [Nat.zero_add] at this
 exact this
theorem ix_at:∀ {u:List Str} {x:Str},x ∈ u->u[ix u x]? = some x
 | y :: u,x,h=>by
  by_cases e:y = x
  ·rw [ix,if_pos e,e]; rfl
  ·rw [ix,if_neg e]
   exact ix_at (u:=u) (by rcases List.mem_cons.mp h with z | z; exact absurd z.symm e; exact z)
 | [],_,h=>by simp at h
theorem ix_lt {u:List Str} {x:Str} (h:x ∈ u):ix u x < u.length:=(List.getElem?_eq_some_iff.mp (ix_at h)).1
noncomputable abbrev a1g:Str:=Str.ofString "slots"
noncomputable abbrev metN:Str:=Str.ofString "met"
noncomputable abbrev a5r:Str:=Str.ofString "cells"
noncomputable abbrev rowsN:Str:=Str.ofString "rows"
noncomputable def fsW (ps pm:Addr) (c:Int) (pr:Addr):List (Str × V):=[(a1g,.ref ps),(metN,.ref pm),(a5r,.int c),(rowsN,.ref pr)]
theorem a5m (ps pm:Addr) (c:Int) (pr:Addr):(fsW ps pm c pr).lookup (Str.ofString "slots") = some (.ref ps):=by
 simp only [fsW,List.lookup,show (Str.ofString "slots" == a1g) = true by decide +kernel]
theorem b6h (ps pm:Addr) (c:Int) (pr:Addr):(fsW ps pm c pr).lookup (Str.ofString "met") = some (.ref pm):=by
 simp only [fsW,List.lookup,show (Str.ofString "met" == a1g) = false by decide +kernel,show (Str.ofString "met" == metN) = true by decide +kernel]
theorem c0o (ps pm:Addr) (c:Int) (pr:Addr):(fsW ps pm c pr).lookup (Str.ofString "cells") = some (.int c):=by
 simp only [fsW,List.lookup,show (Str.ofString "cells" == a1g) = false by decide +kernel,show (Str.ofString "cells" == metN) = false by decide +kernel,show (Str.ofString "cells" == a5r) = true by decide +kernel]
theorem b1o (ps pm:Addr) (c:Int) (pr:Addr):(fsW ps pm c pr).lookup (Str.ofString "rows") = some (.ref pr):=by
 simp only [fsW,List.lookup,show (Str.ofString "rows" == a1g) = false by decide +kernel,show (Str.ofString "rows" == metN) = false by decide +kernel,show (Str.ofString "rows" == a5r) = false by decide +kernel,show (Str.ofString "rows" == rowsN) = true by decide +kernel]
theorem a2h {ps pm:Addr} {c:Int} {pr:Addr} {m:Str} (h1:(m == a1g) = false:=by decide +kernel) (h2:(m == metN) = false:=by decide +kernel) (h3:(m == a5r) = false:=by decide +kernel) (h4:(m == rowsN) = false:=by decide +kernel):(fsW ps pm c pr).lookup m = none:=by
 simp only [fsW,List.lookup,h1,h2,h3,h4]
theorem b7u (ps pm:Addr) (c d:Int) (pr:Addr):putF (Str.ofString "cells") (.int d) (fsW ps pm c pr) = fsW ps pm d pr:=by
 simp only [fsW,putF,show ¬ a1g = Str.ofString "cells" by decide +kernel,show ¬ metN = Str.ofString "cells" by decide +kernel,show a5r = Str.ofString "cells" from rfl,if_false,if_true]
structure WS (K:W.Frag) (C:Addr) (H:Hp) (x dx ps pm pr:Addr) (u met:List Str) (c:Nat) (rs:List V):Prop where
 o:H x = some (.ins C dx (fsW ps pm c pr))
 s:H ps = some (.dK (encJ 0 u))
 m:H pm = some (.dK (encB met))
 r:H pr = some (.lst rs)
 ne:ps ≠ pm
noncomputable def WFr (x pm pr:Addr) (H H':Hp):Prop:=∀ b o,b ≠ x->b ≠ pm->b ≠ pr->H b = some o->H' b = some o
theorem WFr.refl (x pm pr:Addr) (H:Hp):WFr x pm pr H H:=fun _ _ _ _ _ e=>e
theorem WFr.trans {x pm pr:Addr} {H H1 H2:Hp} (a:WFr x pm pr H H1) (b:WFr x pm pr H1 H2):WFr x pm pr H H2:=fun c o h1 h2 h3 e=>b c o h1 h2 h3 (a c o h1 h2 h3 e)
theorem WFr.of {x pm pr:Addr} {H H':Hp} (s:Same H H'):WFr x pm pr H H':=fun b o _ _ _ e=>s b o e
section
variable {K:W.Frag} {C:Addr} {H H':Hp} {x dx ps pm pr:Addr} {u met:List Str} {c:Nat} {rs:List V}
theorem WS.ne1 (w:WS K C H x dx ps pm pr u met c rs):pm ≠ x/\pr ≠ x/\ps ≠ x/\pm ≠ pr/\ps ≠ pr:=by
 refine ⟨fun z=>?_,fun z=>?_,fun z=>?_,fun z=>?_,fun z=>?_⟩
 ·have:=w.m; rw [z,w.o] at this; cases this
 ·have:=w.r; rw [z,w.o] at this; cases this
 ·have:=w.s; rw [z,w.o] at this; cases this
 ·have:=w.m; rw [z,w.r] at this; cases this
 ·have:=w.s; rw [z,w.r] at this; cases this
theorem WS.same (w:WS K C H x dx ps pm pr u met c rs) (s:Same H H'):WS K C H' x dx ps pm pr u met c rs:=⟨s _ _ w.o,s _ _ w.s,s _ _ w.m,s _ _ w.r,w.ne⟩
theorem WS.tup (w:WS K C H x dx ps pm pr u met c rs) (f:WFr x pm pr H H'):∀ a xs,SqT K H a xs->SqT K H' a xs:=fun a xs h=>by
 have n1:∀ {o:HO},H a = some o->(∀ C dx fs,o ≠ .ins C dx fs)->(∀ kv,o ≠ .dK kv)->(∀ ys,o ≠ .lst ys)->H' a = some o:=fun {o} e h1 h2 h3=>
  f a o (fun z=>by rw [z,w.o] at e; exact h1 _ _ _ (Option.some.inj e).symm) (fun z=>by rw [z,w.m] at e; exact h2 _ (Option.some.inj e).symm) (fun z=>by rw [z,w.r] at e; exact h3 _ (Option.some.inj e).symm) e
 rcases h with (h | ⟨o,h⟩) | h
 ·exact .inl (.inl (n1 h (fun _ _ _ z=>by cases z) (fun _ z=>by cases z) (fun _ z=>by cases z)))
 ·exact .inl (.inr ⟨o,n1 h (fun _ _ _ z=>by cases z) (fun _ z=>by cases z) (fun _ z=>by cases z)⟩)
 ·exact .inr h
theorem WS.row (w:WS K C H x dx ps pm pr u met c rs) (v:V):WS K C (upd H pr (.lst (rs ++ [v]))) x dx ps pm pr u met c (rs ++ [v])/\WFr x pm pr H (upd H pr (.lst (rs ++ [v]))):=by
 obtain ⟨h1,h2,h3,h4,h5⟩:=w.ne1
 exact ⟨⟨by rw [a0n (Ne.symm h2)]; exact w.o,by rw [a0n h5]; exact w.s,by rw [a0n h4]; exact w.m,a0d,w.ne⟩,fun b o _ _ hb e=>by rw [a0n hb]; exact e⟩
theorem WS.cel (w:WS K C H x dx ps pm pr u met c rs) (d:Nat):WS K C (upd H x (.ins C dx (fsW ps pm d pr))) x dx ps pm pr u met d rs/\WFr x pm pr H (upd H x (.ins C dx (fsW ps pm d pr))):=by
 obtain ⟨h1,h2,h3,h4,h5⟩:=w.ne1
 exact ⟨⟨a0d,by rw [a0n h3]; exact w.s,by rw [a0n h1]; exact w.m,by rw [a0n h2]; exact w.r,w.ne⟩,fun b o hb _ _ e=>by rw [a0n hb]; exact e⟩
theorem WS.met' (w:WS K C H x dx ps pm pr u met c rs) (me:List Str):WS K C (upd H pm (.dK (encB me))) x dx ps pm pr u me c rs/\WFr x pm pr H (upd H pm (.dK (encB me))):=by
 obtain ⟨h1,h2,h3,h4,h5⟩:=w.ne1
 exact ⟨⟨by rw [a0n (Ne.symm h1)]; exact w.o,by rw [a0n w.ne]; exact w.s,a0d,by rw [a0n (Ne.symm h4)]; exact w.r,w.ne⟩,fun b o _ hb _ e=>by rw [a0n hb]; exact e⟩
end
noncomputable abbrev a4p (K:W.Frag) (C:Addr):Sp:=fun vs H Q _=>match vs with | [.ref x,.ref a]=>∃ (dx:Addr) (us:List V) (ts:List Trm),H x = some (.ins C dx [])/\SqL K H a us/\DenL K H us (Trm.dataL ts)/\Trm.sizeL ts<=500/\∀ (ps pm pr:Addr) (H':Hp),WS K C H' x dx ps pm pr (ordL ts []) [] 0 []->(∀ b o,b ≠ x->H b = some o->H' b = some o)->H ps = none->H pm = none->H pr = none->Q .non H' | _=>False
noncomputable abbrev a1m (K:W.Frag) (C:Addr):Sp:=fun vs H Q _=>match vs with | [.ref x,v]=>∃ (dx ps pm pr:Addr) (c:Int) (rs:List V),H x = some (.ins C dx (fsW ps pm c pr))/\H pr = some (.lst rs)/\rs.length<=1000/\Q .non (upd H pr (.lst (rs ++ [v]))) | _=>False
noncomputable abbrev a1n (K:W.Frag) (C:Addr):Sp:=fun vs H Q _=>match vs with | [.ref x,.int m]=>∃ (dx ps pm pr:Addr) (u met:List Str) (c:Nat) (rs:List V),WS K C H x dx ps pm pr u met c rs/\Q (.int c) (upd H x (.ins C dx (fsW ps pm ((c:Int) + m) pr))) | _=>False
noncomputable abbrev a1o (K:W.Frag) (C:Addr) (n:Nat):Sp:=fun vs H Q _=>match vs with | [.ref x,.int i,v]=>∃ (dx ps pm pr:Addr) (u met:List Str) (c:Nat) (rs:List V) (t:Trm) (cell:Nat),WS K C H x dx ps pm pr u met c rs/\i = (cell:Int)/\Den K H v t.data/\(∀ y ∈ vars t,y ∈ u)/\t.size<=n/\n<=60/\rs.length + t.size<=500/\met.length + t.size<=500/\∀ (H':Hp) (ns:List V),WFr x pm pr H H'->WS K C H' x dx ps pm pr u (ord t met) (c + (t.size - 1)) (rs ++ ns)->DenL K H' ns ((ta (ix u) t cell c met).map Rw.data)->Q .non H' | _=>False
theorem b1p {K:W.Frag} {C:Addr} {H:Hp} {x:Addr} {i:Int} {v:V} {R:Addr->Addr->Addr->Addr->List Str->List Str->Nat->List V->Trm->Nat->Prop} (h:∃ (dx ps pm pr:Addr) (u met:List Str) (c:Nat) (rs:List V) (t:Trm) (cell:Nat),WS K C H x dx ps pm pr u met c rs/\i = (cell:Int)/\Den K H v t.data/\(∀ y ∈ vars t,y ∈ u)/\t.size<=0/\R dx ps pm pr u met c rs t cell):False:=by
 obtain ⟨_,_,_,_,_,_,_,_,t,_,_,_,_,_,z,_⟩:=h
 have:=Trm.size_pos t
 omega
noncomputable abbrev a3x (K:W.Frag) (C:Addr):Sp:=fun vs H Q _=>match vs with | [.ref x,v]=>∃ (dx ps pm pr:Addr) (u:List Str) (w:Str) (ks:List Trm),WS K C H x dx ps pm pr u [] 0 []/\Den K H v (Trm.app w ks).data/\(∀ y ∈ a1f ks,y ∈ u)/\Trm.sizeL ks<=59/\∀ (H':Hp) (ns:List V),WFr x pm pr H H'->WS K C H' x dx ps pm pr u (ordL ks []) (Trm.sizeL ks) ns->DenL K H' ns ((taL (ix u) ks 0 ks.length []).map Rw.data)->Q .non H' | _=>False
noncomputable def frameD:PyData:=.tuple [.str (Str.ofString "frame")]
noncomputable def backD:PyData:=.tuple [.str (Str.ofString "back")]
noncomputable def b0n (w:Str):Prop:=called w a2f = true/\w ≠ a2p/\w ≠ notS/\w.length<=30
inductive Br where
 | put (c:Nat) (x:Str)
 | pnum (c:Nat) (n:Int)
 | bld (c:Nat) (g:Str) (ks:List Trm) (f:Nat)
noncomputable def putS:Str:=Str.ofString "put"
noncomputable def a9c:Str:=Str.ofString "putnum"
noncomputable def bldS:Str:=Str.ofString "build"
noncomputable def Br.data (sl:Str->Nat):Br->PyData
 | .put c x=>.tuple [.str putS,.int c,.int (sl x)]
 | .pnum c n=>.tuple [.str a9c,.int c,.int n]
 | .bld c g ks f=>.tuple [.str bldS,.int c,.str g,.int ks.length,.int f]
noncomputable def Br.cell:Br->Nat
 | .put c _=>c
 | .pnum c _=>c
 | .bld c _ _ _=>c
noncomputable def Br.trm:Br->Trm
 | .put _ x=>.any x
 | .pnum _ n=>.num n
 | .bld _ g ks _=>.app g ks
mutual
noncomputable def br:Trm->Nat->Nat->List Br
 | .num n,c,_=>[.pnum c n]
 | .any x,c,_=>[.put c x]
 | .app s ks,c,C=>brL ks C (C + ks.length) ++ [.bld c s ks C]
noncomputable def brL:List Trm->Nat->Nat->List Br
 | [],_,_=>[]
 | k :: ks,c,C=>br k c C ++ brL ks (c + 1) (C + (k.size - 1))
end
mutual
theorem c0p:∀ (t:Trm) (c C:Nat),(br t c C).length = t.size
 | .num n,c,C=>by rw [br]; rfl
 | .any x,c,C=>by rw [br]; rfl
 | .app s ks,c,C=>by rw [br,List.length_append,a6x ks]; simp only [Trm.size,List.length_cons,List.length_nil]; omega
theorem a6x:∀ (ks:List Trm) (c C:Nat),(brL ks c C).length = Trm.sizeL ks
 | [],c,C=>by rw [brL]; rfl
 | k :: ks,c,C=>by rw [brL,List.length_append,c0p k,a6x ks,Trm.sizeL]
end
theorem b4w:∀ (a:List Trm) (k:Trm) (c C:Nat),brL (a ++ [k]) c C = brL a c C ++ br k (c + a.length) (C + (Trm.sizeL a - a.length))
 | [],k,c,C=>by
  rw [List.nil_append,brL,brL,brL,List.append_nil,List.nil_append]
  simp [Trm.sizeL]
 | b :: a,k,c,C=>by
  have bp:=b.size_pos
  have zl:=Trm.len_le a
  rw [List.cons_append,brL,brL,b4w a k (c + 1) _,List.append_assoc]
  congr 2
  congr 1
  ·simp only [List.length_cons]; omega
  ·simp only [Trm.sizeL,List.length_cons]; omega
noncomputable abbrev Ce:=Nat->Option Trm
noncomputable def ce1 (f:Ce) (r:Br):Ce:=fun j=>if j = r.cell then some r.trm else f j
noncomputable def Ok1B (f:Ce) (r:Br):Prop:=r.cell<=199/\match r with
 | .bld _ _ ks a=>ks.length<=4/\∀ (j:Nat) (h:j < ks.length),f (a + j) = some ks[j]
 | _=>True
noncomputable def OksB:List Br->Ce->Prop
 | [],_=>True
 | r :: rs,f=>Ok1B f r/\OksB rs (ce1 f r)
noncomputable def ceA (rs:List Br) (f:Ce):Ce:=rs.foldl ce1 f
theorem b4x:∀ {a b:List Br} {f:Ce},OksB a f->OksB b (ceA a f)->OksB (a ++ b) f
 | [],_,_,_,h=>h
 | r :: a,b,f,h,h'=>⟨h.1,b4x (a:=a) h.2 h'⟩
theorem b1q (a b:List Br) (f:Ce):ceA (a ++ b) f = ceA b (ceA a f):=List.foldl_append
theorem c2m:∀ {rs:List Br} {f:Ce} {i:Nat},OksB rs f->(hi:i < rs.length)->Ok1B (ceA (rs.take i) f) rs[i]
 | r :: rs,f,0,h,_=>h.1
 | r :: rs,f,i + 1,h,hi=>c2m (rs:=rs) (f:=ce1 f r) h.2 (by simpa using hi)
theorem c9d {rs:List Br} {i:Nat} (h:i < rs.length) (f:Ce):ceA (rs.take (i + 1)) f = ce1 (ceA (rs.take i) f) rs[i]:=by
 rw [List.take_succ,List.getElem?_eq_getElem h,b1q]
 rfl
mutual
theorem rdB_t:∀ (t:Trm) (c C:Nat) (f:Ce),c < C->C + (t.size - 1)<=200->ar4 t ->
  OksB (br t c C) f/\ceA (br t c C) f c = some t/\∀ j,j < C->j ≠ c->ceA (br t c C) f j = f j
 | .num n,c,C,f,h,hz,ha=>by
  rw [br]
  refine ⟨⟨⟨by show c<=199; omega,trivial⟩,trivial⟩,?_,fun j _ hj=>?_⟩
  ·show (if c = c then _ else _) = _
   rw [if_pos rfl]; rfl
  ·show (if j = c then _ else _) = _
   rw [if_neg hj]
 | .any x,c,C,f,h,hz,ha=>by
  rw [br]
  refine ⟨⟨⟨by show c<=199; omega,trivial⟩,trivial⟩,?_,fun j _ hj=>?_⟩
  ·show (if c = c then _ else _) = _
   rw [if_pos rfl]; rfl
  ·show (if j = c then _ else _) = _
   rw [if_neg hj]
 | .app s ks,c,C,f,h,hz,ha=>by
  rw [ar4] at ha
  simp only [Trm.size] at hz
  have zl:=Trm.len_le ks
  obtain ⟨o,g,k⟩:=rdB_L ks C (C + ks.length) f (Nat.le_refl _) (by omega) ha.2
  rw [br]
  refine ⟨b4x o ⟨⟨by show c<=199; omega,ha.1,g⟩,trivial⟩,?_,fun j hj hjc=>?_⟩
  ·rw [b1q]
   show (if c = c then _ else _) = _
   rw [if_pos rfl]; rfl
  ·rw [b1q]
   show (if j = c then _ else _) = _
   rw [if_neg hjc]
   exact k j (by omega) (.inl hj)
theorem rdB_L:∀ (ks:List Trm) (c C:Nat) (f:Ce),c + ks.length<=C->C + (Trm.sizeL ks - ks.length)<=200->ar4L ks ->
  OksB (brL ks c C) f/\(∀ (j:Nat) (h:j < ks.length),ceA (brL ks c C) f (c + j) = some ks[j])/\∀ j,j < C->(j < c\/c + ks.length<=j)->ceA (brL ks c C) f j = f j
 | [],c,C,f,h,hz,ha=>by
  rw [brL]
  exact ⟨trivial,fun j h=>by simp at h,fun j _ _=>rfl⟩
 | k :: ks,c,C,f,h,hz,ha=>by
  rw [ar4L] at ha
  simp only [Trm.sizeL,List.length_cons] at hz h
  have kp:=k.size_pos
  have zl:=Trm.len_le ks
  obtain ⟨o1,g1,k1⟩:=rdB_t k c C f (by omega) (by omega) ha.1
  obtain ⟨o2,g2,k2⟩:=rdB_L ks (c + 1) (C + (k.size - 1)) (ceA (br k c C) f) (by omega) (by omega) ha.2
  rw [brL]
  refine ⟨b4x o1 o2,fun j hj=>?_,fun j hj hc=>?_⟩
  ·rw [b1q]
   cases j with
   | zero=>
    rw [k2 _ (by omega) (by omega)]
    exact g1
   | succ j=>
    rw [show c + (j + 1) = c + 1 + j by omega]
    exact g2 j (by simpa using hj)
  ·simp only [List.length_cons] at hc
   rw [b1q,k2 j (by omega) (by omega),k1 j hj (by omega)]
end
mutual
theorem ord_pre:∀ (t:Trm) (a:List Str),∃ b,ord t a = a ++ b
 | .num n,a=>⟨[],by rw [ord,List.append_nil]⟩
 | .any x,a=>by
  rw [ord]
  by_cases h:x ∈ a
  ·exact ⟨[],by rw [if_pos h,List.append_nil]⟩
  ·exact ⟨[x],by rw [if_neg h]⟩
 | .app s ks,a=>by rw [ord]; exact b4y ks a
theorem b4y:∀ (ts:List Trm) (a:List Str),∃ b,ordL ts a = a ++ b
 | [],a=>⟨[],by rw [ordL,List.append_nil]⟩
 | t :: ts,a=>by
  obtain ⟨b,e⟩:=ord_pre t a
  obtain ⟨d,e2⟩:=b4y ts (ord t a)
  exact ⟨b ++ d,by rw [ordL,e2,e,List.append_assoc]⟩
end
theorem ix_pre:∀ (a b:List Str) (j:Nat),(a ++ b).Nodup->(h:j < b.length)->ix (a ++ b) b[j] = a.length + j
 | a,b,j,hn,h=>by
  have hm:b[j] ∈ a ++ b:=List.mem_append.mpr (.inr (List.getElem_mem h))
  have e1:=ix_at hm
  have e2:(a ++ b)[a.length + j]? = some b[j]:=by
   rw [List.getElem?_append_right (by omega),show a.length + j - a.length = j by omega,List.getElem?_eq_getElem h]
  have l1:=ix_lt hm
  have l2:a.length + j < (a ++ b).length:=by rw [List.length_append]; omega
  rw [List.getElem?_eq_getElem l1] at e1
  rw [List.getElem?_eq_getElem l2] at e2
  have e3:=(Option.some.inj e1).trans (Option.some.inj e2).symm
  have pw:=List.pairwise_iff_getElem.mp hn
  rcases Nat.lt_trichotomy (ix (a ++ b) b[j]) (a.length + j) with z | z | z
  ·exact absurd e3 (pw _ _ l1 l2 z)
  ·exact z
  ·exact absurd e3.symm (pw _ _ l2 l1 z)
noncomputable def newS:Str:=Str.ofString "new"
noncomputable def newD (s:Nat):PyData:=.tuple [.str newS,.int s]
noncomputable def a7d (u met:List Str):List PyData:=(u.filter fun x=>decide (x ∉ met)).map fun x=>newD (ix u x)
theorem c0q (a b:List Str) (hn:(a ++ b).Nodup):a7d (a ++ b) a = (List.range b.length).map fun j=>newD (a.length + j):=by
 unfold a7d
 have e:((a ++ b).filter fun x=>decide (x ∉ a)) = b:=by
  rw [List.filter_append,List.filter_eq_nil_iff.mpr (fun x hx=>by simp [hx]),List.nil_append]
  exact List.filter_eq_self.mpr fun x hx=>by
   simp only [decide_eq_true_eq]
   intro z
   exact (List.nodup_append.mp hn).2.2 x z x hx rfl
 rw [e]
 apply List.ext_getElem?
 intro j
 rw [List.getElem?_map,List.getElem?_map]
 by_cases h:j < b.length
 ·rw [List.getElem?_eq_getElem h,List.getElem?_range h,Option.map_some,Option.map_some,ix_pre a b j hn h]
 ·rw [List.getElem?_eq_none (by omega),List.getElem?_eq_none (by rw [List.length_range]; omega)]
  rfl
inductive Mk where
 | eq | asg | lt | le
noncomputable def Mk.sign:Mk->Str
 | .eq=>Str.ofString "="
 | .asg=>Str.ofString ":="
 | .lt=>Str.ofString "<"
 | .le=>Str.ofString "<="
noncomputable def Mk.tag:Mk->Str
 | .eq=>Str.ofString "equal"
 | .asg=>Str.ofString "reckon"
 | .lt=>Str.ofString "less"
 | .le=>Str.ofString "atmost"
noncomputable def b6i:List (Key × V):=[(Sum.inr (Str.ofString "="),.str (Str.ofString "equal")),(Sum.inr (Str.ofString ":="),.str (Str.ofString "reckon")),(Sum.inr (Str.ofString "<"),.str (Str.ofString "less")),(Sum.inr (Str.ofString "<="),.str (Str.ofString "atmost"))]
theorem c9e (m:Mk):valV b6i (Sum.inr m.sign) = some (.str m.tag):=by
 cases m
 ·exact a2i rfl
 ·rw [b6i,a1t (by decide +kernel)]; exact a2i rfl
 ·rw [b6i,a1t (by decide +kernel),a1t (by decide +kernel)]; exact a2i rfl
 ·rw [b6i,a1t (by decide +kernel),a1t (by decide +kernel),a1t (by decide +kernel)]; exact a2i rfl
inductive Go where
 | keep
 | mark (m:Mk) (a b:Trm)
 | neg (w:Str) (ks:List Trm)
 | nm (w:Str) (ks:List Trm)
noncomputable def Go.trm:Go->Trm
 | .keep=>.app a2p []
 | .mark m a b=>.app m.sign [a,b]
 | .neg w ks=>.app notS [.app w ks]
 | .nm w ks=>.app w ks
noncomputable def Go.kids:Go->List Trm
 | .keep=>[]
 | .mark _ a b=>[a,b]
 | .neg _ ks=>ks
 | .nm _ ks=>ks
noncomputable def Go.row (call:Str):Go->PyData
 | .keep=>.tuple [.str a2p]
 | .mark m _ _=>.tuple [.str m.tag]
 | .neg w ks=>.tuple [.str notS,.str w,.int ks.length]
 | .nm w ks=>.tuple [.str call,.str w,.int ks.length]
noncomputable def Go.ok:Go->Prop
 | .keep=>True
 | .mark _ _ _=>True
 | .neg w _=>b0n w
 | .nm w _=>b0n w
noncomputable def Go.named:Go->Bool
 | .nm _ _=>true
 | _=>false
noncomputable def a3c:Str:=Str.ofString "call"
noncomputable def a4v:Str:=Str.ofString "jump"
noncomputable def tellD:PyData:=.tuple [.str (Str.ofString "tell")]
noncomputable def gR (sl:Str->Nat) (call:Str) (g:Go):List PyData:=(brL g.kids 0 g.kids.length).map (Br.data sl) ++ [g.row call]
noncomputable def gsR (sl:Str->Nat) (f:Nat->Str):Nat->List Go->List PyData
 | _,[]=>[]
 | i,g :: gs=>gR sl (f i) g ++ gsR sl f (i + 1) gs
theorem b2p (sl:Str->Nat) (f:Nat->Str):∀ (i:Nat) (a:List Go) (g:Go),gsR sl f i (a ++ [g]) = gsR sl f i a ++ gR sl (f (i + a.length)) g
 | i,[],g=>by
  rw [List.nil_append,gsR,gsR,gsR,List.append_nil,List.nil_append]; rfl
 | i,b :: a,g=>by
  rw [List.cons_append,gsR,gsR,b2p sl f (i + 1) a g,List.append_assoc,List.length_cons,show i + 1 + a.length = i + (a.length + 1) by omega]
theorem b3l (sl:Str->Nat) (f h:Nat->Str):∀ (i:Nat) (a:List Go),(∀ j,i<=j->j < i + a.length->f j = h j)->gsR sl f i a = gsR sl h i a
 | i,[],_=>by rw [gsR,gsR]
 | i,b :: a,e=>by
  rw [gsR,gsR,e i (Nat.le_refl _) (by simp),b3l sl f h (i + 1) a (fun j h1 h2=>e j (by omega) (by simp only [List.length_cons]; omega))]
theorem c6n (sl:Str->Nat) (c:Str) (g:Go):(gR sl c g).length = Trm.sizeL g.kids + 1:=by
 rw [gR,List.length_append,List.length_map,a6x]; rfl
theorem Go.kids_size (g:Go):Trm.sizeL g.kids<=g.trm.size:=by
 cases g <;> simp only [Go.kids,Go.trm,Trm.size,Trm.sizeL] <;> omega
theorem Go.kids_vars (g:Go):a1f g.kids = vars g.trm:=by
 cases g <;> simp [Go.kids,Go.trm,vars,a1f]
noncomputable def a1s (r:Bool) (n i:Nat):Str:=if r = true/\i + 1 = n then a4v else a3c
noncomputable abbrev a2r (K:W.Frag) (C:Addr):Sp:=fun vs H Q _=>match vs with | [.ref x]=>∃ (dx ps pm pr:Addr) (u met:List Str) (c:Nat) (rs:List V),WS K C H x dx ps pm pr u met c rs/\rs.length<=300/\u.length<=300/\u.Nodup/\∀ (H':Hp) (ns:List V),WFr x pm pr H H'->WS K C H' x dx ps pm pr u met c (rs ++ ns)->DenL K H' ns (frameD :: a7d u met)->Q .non H' | _=>False
noncomputable abbrev a2m (K:W.Frag) (C:Addr) (n:Nat):Sp:=fun vs H Q _=>match vs with | [.ref x,.int i,v]=>∃ (dx ps pm pr:Addr) (u met:List Str) (c:Nat) (rs:List V) (t:Trm) (cell:Nat),WS K C H x dx ps pm pr u met c rs/\i = (cell:Int)/\Den K H v t.data/\(∀ y ∈ vars t,y ∈ u)/\t.size<=n/\n<=60/\rs.length + t.size<=900/\∀ (H':Hp) (ns:List V),WFr x pm pr H H'->WS K C H' x dx ps pm pr u met (c + (t.size - 1)) (rs ++ ns)->DenL K H' ns ((br t cell c).map (Br.data (ix u)))->Q .non H' | _=>False
theorem b4z {K:W.Frag} {C:Addr} {H:Hp} {x:Addr} {i:Int} {v:V} {R:Addr->Addr->Addr->Addr->List Str->List Str->Nat->List V->Trm->Nat->Prop} (h:∃ (dx ps pm pr:Addr) (u met:List Str) (c:Nat) (rs:List V) (t:Trm) (cell:Nat),WS K C H x dx ps pm pr u met c rs/\i = (cell:Int)/\Den K H v t.data/\(∀ y ∈ vars t,y ∈ u)/\t.size<=0/\R dx ps pm pr u met c rs t cell):False:=by
 obtain ⟨_,_,_,_,_,_,_,_,t,_,_,_,_,_,z,_⟩:=h
 have:=Trm.size_pos t
 omega
noncomputable abbrev a2u (K:W.Frag) (C:Addr):Sp:=fun vs H Q _=>match vs with | [.ref x,v,.str call]=>∃ (dx ps pm pr:Addr) (u met:List Str) (c:Nat) (rs:List V) (g:Go),WS K C H x dx ps pm pr u met c rs/\Den K H v g.trm.data/\g.ok/\(∀ y ∈ a1f g.kids,y ∈ u)/\Trm.sizeL g.kids<=59/\rs.length<=700/\∀ (H':Hp) (c':Nat) (ns:List V),WFr x pm pr H H'->WS K C H' x dx ps pm pr u met c' (rs ++ ns)->DenL K H' ns (gR (ix u) call g)->Q .non H' | _=>False
noncomputable def a5g (gs:List Go):Bool:=match gs.getLast? with | some g=>g.named | none=>false
noncomputable def b4b (u:List Str) (ks:List Trm) (gs:List Go):List PyData:=(taL (ix u) ks 0 ks.length []).map Rw.data ++ (if gs = [] then [backD] else frameD :: a7d u (ordL ks []) ++ gsR (ix u) (a1s true gs.length) 0 gs ++ (if a5g gs = true then [] else [backD]))
noncomputable def askR (u:List Str) (gs:List Go):List PyData:=frameD :: a7d u [] ++ gsR (ix u) (a1s false gs.length) 0 gs ++ [tellD]
noncomputable def trms (gs:List Go):List Trm:=gs.map Go.trm
noncomputable abbrev a8j (K:W.Frag):Sp:=fun vs H Q _=>match vs with | [.int n,.ref p]=>∃ (vh:V) (g:Addr) (w:Str) (ks:List Trm) (us:List V) (gs:List Go),SqT K H p [vh,.ref g]/\Den K H vh (Trm.app w ks).data/\SqT K H g us/\DenL K H us (Trm.dataL (trms gs))/\gs.length<=6/\(∀ t ∈ gs,t.ok/\t.trm.size<=30)/\Trm.sizeL ks<=59/\∀ (q pr:Addr) (ns:List V) (H':Hp),Same H H'->H' q = some (.tup [.int n,.int ((ordL (.app w ks :: trms gs) []).length:Int),.ref pr])->H' pr = some (.lst ns)->DenL K H' ns (b4b (ordL (.app w ks :: trms gs) []) ks gs)->Q (.ref q) H' | _=>False
noncomputable abbrev a5n (K:W.Frag):Sp:=fun vs H Q _=>match vs with | [.ref p]=>∃ (us:List V) (gs:List Go),SqL K H p us/\DenL K H us (Trm.dataL (trms gs))/\gs.length<=6/\(∀ t ∈ gs,t.ok/\t.trm.size<=30)/\∀ (q pr:Addr) (ns:List V) (H':Hp),Same H H'->H' q = some (.tup [.int 0,.int ((ordL (trms gs) []).length:Int),.ref pr])->H' pr = some (.lst ns)->DenL K H' ns (askR (ordL (trms gs) []) gs)->Q (.ref q) H' | _=>False
section
variable {P:Program} {w:World} {K:W.Frag} {mg:Str->Option Value} {base:Heap} {t:Ad}
theorem c1s (T:Txt K mg t)  : FnOk P w K mg base CX0 1 t.a_is_inner t.d_is_inner ["sign"] (a9b):=by
 refine T.F_is_inner.ok c1o (fun vs H Q E h=>?_) (fun cdv A outer s H vs Q E hr h=>?_)
 ·unfold a9b at h
  split at h
  ·rfl
  ·exact h.elim
 unfold a9b at h
 split at h
 rotate_left
 ·exact h.elim
 refine ⟨_,(a0g (a0p (b8v (a1w b5w (mv 0) (a6r rfl T.m_SMALL) (by with_unfolding_all rfl)) (b8v (a1w b5w (mv 0) (a6r rfl T.m_GREAT) (by with_unfolding_all rfl)) (a5z (a1w b5w (mv 0) (a6r rfl T.m_FIGURES) (by with_unfolding_all rfl))))))),?_⟩
 rename_i c
 walk_at "stp"
 have h:Q (.bl (inner c)) H:=h
 unfold inner at h
 refine iteB (fun e=>?_) (fun e=>?_)
 ·rw [Bool.false_xor] at e
  rw [e] at h
  exact h
 ·rw [Bool.false_xor] at e
  rw [e,Bool.false_or] at h
  walk_at "stp"
  refine iteB (fun e=>?_) (fun e=>?_)
  ·rw [Bool.false_xor] at e
   rw [e] at h
   exact h
  ·rw [Bool.false_xor] at e
   rw [e,Bool.false_or] at h
   walk_at "stp"
   rw [Bool.false_xor]
   exact h
theorem c0r (T:Txt K mg t) (G_is_inner:FnOk P w K mg base CX0 1 t.a_is_inner t.d_is_inner ["sign"] (a9b)):FnOk P w K mg base CX0 2 t.a_is_called t.d_is_called ["text","firsts"] (a8i):=by
 refine T.F_is_called.ok c0l (fun vs H Q E h=>?_) (fun cdv A outer s H vs Q E hr h=>?_)
 ·unfold a8i at h
  split at h
  ·rfl
  ·exact h.elim
 unfold a8i at h
 split at h
 rotate_left
 ·exact h.elim
 refine ⟨_,(a0e (a1b (PW.pt (a2v (a2w (a2j K rfl (a0t (b0s K rfl) rfl T.n_isinstance boot_isinstance (a0a (mv 0) (a0a (a9e rfl T.n_str boot_str) a0c))))) (a4m (a2w (b9u b8r b8r a0b (a0t (a1r K rfl) rfl T.n_len PySem.boot_len (a0a (mv 0) a0c)) (pe_gint rfl T.m_MOST_LETTERS)))))) (a0g (a0p a3r)) a0x) (a0g (a0p (a6c (a1w b5w (a0l (a0h K rfl) (mv 0) a0b (fun _ _=>rfl)) (mv 1) (by with_unfolding_all rfl)) (a5z (a0t (kc_all K rfl rfl) rfl T.n_all boot_all (a0a (b1m rfl (pi_str (mv 0)) (a8t (a0j a4e) ["text","firsts"] ["text","firsts"] rfl rfl (by decide +kernel)) (fun _ _ _ _ _=>a8s) (fun _ _ _ _ _=>(a0u G_is_inner (hr.mono (by walk_at "rm1")) rfl T.m_is_inner T.F_is_inner.kp T.b_is_inner .nil a0s (a0a (mv 0) a0c)))) a0c))))))),?_⟩
 rename_i z f
 obtain ⟨hz,q⟩:=h
 walk_at "stp"
 refine iteF ?_
 walk_at "stp"
 refine mLen_s (ln (by omega)) ?_
 walk_at "stp"
 unfold called at q
 have lo:decide ((1:Int)<=z.length) = false\/decide ((1:Int)<=z.length) = true/\decide ((z.length:Int)<=12) = false->Q (.bl false) H:=fun c=>by
  have q:=q H (Same.refl H)
  rcases c with c | ⟨c1,c2⟩
  ·rw [c] at q; simpa using q
  ·rw [c1,c2] at q; simpa using q
 refine iteB (fun e=>?_) (fun e=>?_)
 rotate_left
 ·walk_at "stp"
  exact lo (.inl e)
 walk_at "stp"
 refine iteB (fun e2=>?_) (fun e2=>?_)
 ·walk_at "stp"
  refine lo (.inr ⟨e,?_⟩)
  cases d:decide ((z.length:Int)<=12) with
  | false=>rfl
  | true=>rw [d] at e2; cases e2
 have e2:decide ((z.length:Int)<=12) = true:=by
  cases d:decide ((z.length:Int)<=12) with
  | true=>rfl
  | false=>rw [d] at e2; cases e2
 rw [e,e2] at q
 simp only [Bool.and_self,Bool.true_and] at q
 have hp:0 < z.length:=by have:=of_decide_eq_true e; omega
 walk_at "stp"
 refine b3w (ln (by omega)) (len_fst hp) ?_
 walk_at "stp"
 rw [Bool.false_xor]
 refine iteB (fun e3=>?_) (fun e3=>?_)
 rotate_left
 ·have e3:inS (fst z) f = false:=e3
  rw [e3] at q
  exact q H (Same.refl H)
 have e3:inS (fst z) f = true:=e3
 rw [e3] at q
 simp only [Bool.true_and] at q
 walk_at "stp"
 refine ⟨z,rfl,fun D hD=>?_⟩
 refine a7h (row_str z) (fun i ys H'=>Same H H'/\ys = ((List.range i).map fun k=>inner (one (z.cps.getD k 0))).map V.bl/\H' D = some (.lst ys)) (ln (by unfold Str.length at hz; omega)) ⟨a0f hD _,rfl,a0d⟩ (fun _ _ _ _=>trivial) (fun i ys H' Q' hi hl hP k=>?_) (fun ys H' hl hP=>?_)
 ·obtain ⟨h1,h2,h3⟩:=hP
  walk_at "stp"
  refine k _ _ h3 ⟨a2k h1 hD,?_,a0d⟩
  rw [List.range_succ,List.map_append,List.map_append,h2]
  rfl
 ·obtain ⟨h1,h2,h3⟩:=hP
  walk_at "stp"
  refine ⟨_,SqL.of (h2 ▸ h3),?_⟩
  have:=q H' h1
  rw [<- all_get z (fun c=>inner (one c))] at this
  exact this
theorem c3s (T:Txt K mg t) (G_is_called:FnOk P w K mg base CX0 2 t.a_is_called t.d_is_called ["text","firsts"] (a8i)):FnOk P w K mg base CX0 3 t.a_is_word t.d_is_word ["text"] (a9u):=by
 refine T.F_is_word.ok c3n (fun vs H Q E h=>?_) (fun cdv A outer s H vs Q E hr h=>?_)
 ·unfold a9u at h
  split at h
  ·rfl
  ·exact h.elim
 unfold a9u at h
 split at h
 rotate_left
 ·exact h.elim
 refine ⟨_,(a0g (a0p (a0u G_is_called (hr.mono (by walk_at "rm1")) rfl T.m_is_called T.F_is_called.kp T.b_is_called .nil a0s (a0a (mv 0) (a0a (a6r rfl T.m_SMALL) a0c))))),?_⟩
 rename_i z
 walk_at "stp"
 exact h
theorem c1t (T:Txt K mg t) (G_is_word:FnOk P w K mg base CX0 3 t.a_is_word t.d_is_word ["text"] (a9u)):FnOk P w K mg base CX0 4 t.a_is_named t.d_is_named ["term"] (a7b K):=by
 refine T.F_is_named.ok c1p (fun vs H Q E h=>?_) (fun cdv A outer s H vs Q E hr h=>?_)
 ·unfold a7b at h
  split at h
  ·rfl
  ·exact h.elim
 unfold a7b at h
 split at h
 rotate_left
 ·exact h.elim
 refine ⟨_,(a0g (a0p (a6c (a1w a1h (a0l (a0h K rfl) (mv 0) a0b (fun _ _=>rfl)) a0i (a0o _)) (a6c (a0u G_is_word (hr.mono (by walk_at "rm1")) rfl T.m_is_word T.F_is_word.kp T.b_is_word .nil a0s (a0a (a0l (a0h K rfl) (mv 0) a0b (fun _ _=>rfl)) a0c)) (a5z (a1w (b7a K rfl) (a0l (a0h K rfl) (mv 0) a0b (fun _ _=>rfl)) (a0z (a0a (a6r rfl T.m_KEEP) (a0a (a6r rfl T.m_NOT) a0c))) (by with_unfolding_all rfl))))))),?_⟩
 rename_i v
 obtain ⟨t0,hd,hl,q⟩:=h
 cases t0 with
 | num m=>
  obtain ⟨a,rfl,hs⟩:=a8v hd
  walk_at "stp"
  refine a0k hs (v:=.str numS) rfl ?_
  walk_at "stp"
  refine c6k d1 ?_
  exact q H (Same.refl H)
 | any m=>
  obtain ⟨a,rfl,hs⟩:=a8w hd
  walk_at "stp"
  refine a0k hs (v:=.str anyS) rfl ?_
  walk_at "stp"
  refine c6k d2 ?_
  exact q H (Same.refl H)
 | app sg ks=>
  obtain ⟨a,b,us,rfl,hs,hb,hk⟩:=a4z hd
  have q:∀ H',Same H H'->Q (.bl (called sg a2f && !decide (sg ∈ [a2p,notS]))) H':=q
  walk_at "stp"
  refine a0k hs (v:=.str appS) rfl ?_
  walk_at "stp"
  refine yes_app d3 ?_
  walk_at "stp"
  refine a0k hs (v:=.str sg) rfl ?_
  walk_at "stp"
  refine ⟨hl,fun H1 s1=>?_⟩
  walk_at "stp"
  refine iteB (fun e=>?_) (fun e=>?_)
  ·walk_at "stp"
   refine a0k (s1.tup hs) (v:=.str sg) rfl ?_
   walk_at "stp"
   refine ⟨ln (by show 2<=100000; decide),fun p1 hp1=>?_⟩
   refine b2j [a2p,notS] (.inr (SqT.of a0d)) ?_
   rw [e,Bool.true_and] at q
   exact q _ (s1.trans (a0f hp1 _))
  ·rw [e,Bool.false_and] at q
   exact q _ s1
theorem b7f (T:Txt K mg t)  : FnOk P w K mg base CX0 1 t.a_unknowns_of t.d_unknowns_of ["terms"] (a6w K):=by
 refine T.F_unknowns_of.ok a6v (fun vs H Q E h=>?_) (fun cdv A outer s H vs Q E hr h=>?_)
 ·unfold a6w at h
  split at h
  ·rfl
  ·exact h.elim
 unfold a6w at h
 split at h
 rotate_left
 ·exact h.elim
 refine ⟨_,(a0e (a0r (i:=1) a6v.nd rfl (by walk_at "or1") b0f) (a0e (a0r (i:=2) (hs:=a1x) a6v.nd rfl (by walk_at "or1") (b2m K rfl rfl rfl T.n_list rfl T.n_reversed (a0a (mv 0) a0c))) (a0e (a8o PassesOwn.never (a2j K rfl (mv 2)) (a0e (a0r (i:=3) (hs:=a1x) a6v.nd rfl (by walk_at "or1") (b3d K rfl F.plainAttrs_list F.slot_list_pop F.type_list_pop b9v (mv 2))) (a0g (a1b (a0q a1h (a0l (a0h K rfl) (mv 3) a0b (fun _ _=>rfl)) a0i (a0o _)) (a0g (a8q (a3t hr) (mv 1) (a0l (a0h K rfl) (mv 3) a0b (fun _ _=>rfl)) a3r rfl)) (a0g (a1b (a0q a1h (a0l (a0h K rfl) (mv 3) a0b (fun _ _=>rfl)) a0i (a0o _)) (a0g (a1e (a9s K rfl F.plainAttrs_list F.slot_list_extend F.type_list_extend (b7q K rfl) (mv 2) (a0a (b2m K rfl rfl rfl T.n_list rfl T.n_reversed (a0a (a0l (a0h K rfl) (mv 3) a0b (fun _ _=>rfl)) a0c)) a0c)))) a0x)))))) (a0g (a0p (a3e (c8n rfl) rfl T.n_list boot_list (a0a (mv 1) a0c))))))),?_⟩
 rename_i a
 obtain ⟨us,ts,hS,hd,hz,q⟩:=h
 have hul:=a1y hd
 have tl:=Trm.len_le ts
 walk_at "stp"
 intro pd hpd
 have s1:=a0f hpd (.dK [])
 have k1:(upd H pd (.dK [])) pd = some (.dK []):=a0d
 generalize upd H pd (.dK []) = H1 at s1 k1 ⊢
 walk_at "stp"
 refine ⟨a,us,rfl,.inl (s1.seq hS),by omega,fun pt hpt=>?_⟩
 have s2:=a0f hpt (.lst us.reverse)
 have k2:(upd H1 pt (.lst us.reverse)) pt = some (.lst us.reverse):=a0d
 generalize upd H1 pt (.lst us.reverse) = H2 at s2 k2 ⊢
 have hpt0:H pt = none:=a2t s1 hpt
 have hne:pd ≠ pt:=fun z=>by rw [z,hpt] at k1; cases k1
 have d2:DenL K H2 us.reverse (Trm.dataL ts.reverse):=by rw [<- b0y]; exact My.DenL.rev (hd.mono (s1.trans s2))
 walk_at "stp"
 refine a8a (fun n σ' H'=>∃ (ws:List V) (st:List Trm) (acc:List Str) (o1:Option V),σ' = [some (.ref a),some (.ref pd),some (.ref pt),o1]/\H' pt = some (.lst ws)/\DenL K H' ws (Trm.dataL st)/\H' pd = some (.dK (encB acc))/\acc.length + Trm.sizeL st<=1000/\ordL st.reverse acc = ordL ts []/\n = Trm.sizeL st/\Same H H') (Trm.sizeL ts.reverse) ⟨us.reverse,ts.reverse,[],none,rfl,k2,d2,s2 _ _ k1,by rw [a9l]; simpa using hz,by rw [List.reverse_reverse],rfl,s1.trans s2⟩ (fun n σ' H' R hP kT kF=>?_)
 obtain ⟨ws,st,acc,o1,rfl,h1,h2,h3,h4,h5,h6,h7⟩:=hP
 walk_at "stp"
 refine .inl ⟨ws,SqL.of h1,?_⟩
 rcases nil_or_snoc' st with rfl | ⟨st',t1,rfl⟩
 ·have e:ws = []:=by have:=a1y h2; simpa using this
  subst e
  refine kF H' ?_
  walk_at "stp"
  refine ⟨pd,_,rfl,.inl h3,fun pr hpr=>?_⟩
  rw [c6l]
  rw [List.reverse_nil,ordL] at h5
  rw [h5]
  exact q pr _ (a2k h7 (a2t h7 hpr)) (a2t h7 hpr) a0d
 ·rw [a6o] at h2
  obtain ⟨ws',w,rfl,g1,g2⟩:=DenL.snoc h2
  have hwl:=a1y g1
  have hsl:=Trm.len_le st'
  have e:(!(ws' ++ [w]).isEmpty) = true:=by simp
  rw [e]
  have hsz:=Trm.sizeL_app st' [t1]
  have hs1:Trm.sizeL [t1] = t1.size:=by simp [Trm.sizeL]
  have tpos:=t1.size_pos
  rw [List.reverse_append,List.reverse_singleton,List.singleton_append,ordL] at h5
  refine kT H' (fun D' e1 e2 hnx hct=>?_)
  walk_at "stp"
  refine ⟨.inl ⟨rfl,_,SqL.of h1⟩,?_⟩
  refine b9z h1 ?_
  walk_at "stp"
  have f1:DenL K (upd H' pt (.lst ws')) ws' (Trm.dataL st'):=g1.lst h1
  have f2:Den K (upd H' pt (.lst ws')) w t1.data:=g2.lst h1
  have f3:Same H (upd H' pt (.lst ws')):=a2k h7 hpt0
  have f4:(upd H' pt (.lst ws')) pt = some (.lst ws'):=a0d
  have f5:(upd H' pt (.lst ws')) pd = some (.dK (encB acc)):=by rw [a0n hne]; exact h3
  generalize upd H' pt (.lst ws') = J at f1 f2 f3 f4 f5 ⊢
  cases t1 with
  | any x=>
   obtain ⟨b,rfl,hb⟩:=a8w f2
   refine a0k hb (v:=.str anyS) rfl ?_
   walk_at "stp"
   rw [Bool.false_xor,q3]
   refine iteT ?_
   walk_at "stp"
   refine a0k hb (v:=.str x) rfl ?_
   walk_at "stp"
   refine ⟨pd,_,rfl,DPut.k (k:=Sum.inr x) f5 (by rw [b4u,sizeLine_eq]; omega),?_⟩
   rw [b4v]
   have bb:But pd J (upd J pd (.dK (encB (ord (.any x) acc)))):=a3d
   have ol:=b3z (.any x) acc
   refine hnx _ _ (Trm.sizeL st') (by omega) ⟨ws',st',ord (.any x) acc,_,rfl,bb _ _ hne.symm f4,f1.monoT (a7u bb f5),a0d,by omega,h5,rfl,b7d f3 bb hpd⟩
  | num m=>
   obtain ⟨b,rfl,hb⟩:=a8v f2
   refine a0k hb (v:=.str numS) rfl ?_
   walk_at "stp"
   rw [Bool.false_xor,q1]
   refine iteF ?_
   walk_at "stp"
   refine a0k hb (v:=.str numS) rfl ?_
   walk_at "stp"
   refine iteB (fun e=>absurd e (by decide +kernel)) (fun e=>?_)
   walk_at "stp"
   rw [ord] at h5
   exact hnx _ _ (Trm.sizeL st') (by omega) ⟨ws',st',acc,_,rfl,f4,f1,f5,by omega,h5,rfl,f3⟩
  | app sg ks=>
   obtain ⟨b,c,ku,rfl,hb,hc,hk⟩:=a4z f2
   have hkl:=a1y hk
   have kl:=Trm.len_le ks
   simp only [Trm.size] at hs1 tpos
   refine a0k hb (v:=.str appS) rfl ?_
   walk_at "stp"
   rw [Bool.false_xor,q2]
   refine iteF ?_
   walk_at "stp"
   refine a0k hb (v:=.str appS) rfl ?_
   walk_at "stp"
   refine iteB (fun e=>?_) (fun e=>absurd e (by decide +kernel))
   walk_at "stp"
   refine ⟨.inl ⟨rfl,_,SqL.of f4⟩,?_⟩
   walk_at "stp"
   refine a0k hb (v:=.ref c) rfl ?_
   walk_at "stp"
   refine ⟨c,ku,rfl,.inr hc,by omega,fun pr hpr=>?_⟩
   have s5:=a0f hpr (.lst ku.reverse)
   have k5:(upd J pr (.lst ku.reverse)) pr = some (.lst ku.reverse):=a0d
   generalize upd J pr (.lst ku.reverse) = J5 at s5 k5 ⊢
   walk_at "stp"
   refine c5m (s5 _ _ f4) k5 (ln (by rw [List.length_reverse]; omega)) ?_
   walk_at "stp"
   rw [ord] at h5
   have sz:=Trm.sizeL_app st' ks.reverse
   rw [a9l] at sz
   have k6:=s5 _ _ f4
   refine hnx _ _ (Trm.sizeL (st' ++ ks.reverse)) (by omega) ⟨ws' ++ ku.reverse,st' ++ ks.reverse,acc,_,rfl,a0d,?_,?_,by omega,?_,rfl,a2k (f3.trans s5) hpt0⟩
   ·rw [a6o,<- b0y]
    exact ((f1.mono s5).append (My.DenL.rev (hk.mono s5))).lst k6
   ·rw [a0n hne]
    exact s5 _ _ f5
   ·rw [List.reverse_append,List.reverse_reverse,b0j]
    exact h5
end
section
variable {P:Program} {w:World} {K:W.Frag} {mg:Str->Option Value} {base:Heap} {t:Ad}
theorem b5a (T:Txt K mg t)  : FnOk P w K mg base CX0 1 t.a_Writing_write t.d_Writing_write ["self","row"] (a1m K t.k_Writing):=by
 refine T.F_Writing_write.ok b4t (fun vs H Q E h=>?_) (fun cdv A outer s H vs Q E hr h=>?_)
 ·unfold a1m at h
  split at h
  ·rfl
  ·exact h.elim
 unfold a1m at h
 split at h
 rotate_left
 ·exact h.elim
 refine ⟨_,(a0g (a1e (a9s K rfl F.plainAttrs_list F.slot_list_append F.type_list_append a7x (a4g (mv 0) rfl) (a0a (mv 1) a0c)))),?_⟩
 rename_i x v
 obtain ⟨dx,ps,pm,pr,c,rs,ho,hr',hl,q⟩:=h
 walk_at "stp"
 refine ⟨x,_,dx,_,_,rfl,ho,T.cl_Writing,T.no_Writing_rows,b1o _ _ _ _,?_⟩
 refine ⟨.inl ⟨rfl,_,SqL.of hr'⟩,?_⟩
 walk_at "stp"
 refine a7y hr' (ln1 (by omega)) ?_
 exact q
theorem b1r (T:Txt K mg t)  : FnOk P w K mg base CX0 1 t.a_Writing_give_cells t.d_Writing_give_cells ["self","many"] (a1n K t.k_Writing):=by
 refine T.F_Writing_give_cells.ok a8c (fun vs H Q E h=>?_) (fun cdv A outer s H vs Q E hr h=>?_)
 ·unfold a1n at h
  split at h
  ·rfl
  ·exact h.elim
 unfold a1n at h
 split at h
 rotate_left
 ·exact h.elim
 refine ⟨_,(a0e (a0r (i:=2) a8c.nd rfl (by walk_at "or1") (a4g (mv 0) rfl)) (a0e (c4q (mv 0) (mv 1) mi_add) (a0g (a0p (mv 2))))),?_⟩
 rename_i x m
 obtain ⟨dx,ps,pm,pr,u,met,c,rs,w,q⟩:=h
 walk_at "stp"
 refine ⟨x,_,dx,_,_,rfl,w.o,T.cl_Writing,T.no_Writing_cells,c0o _ _ _ _,?_⟩
 walk_at "stp"
 refine ⟨x,_,dx,_,_,rfl,w.o,T.cl_Writing,T.no_Writing_cells,c0o _ _ _ _,?_⟩
 walk_at "stp"
 refine ⟨dx,_,w.o,by simp [fsW],?_⟩
 rw [b7u]
 walk_at "stp"
 exact q
theorem b6j (T:Txt K mg t) (G_unknowns_of:FnOk P w K mg base CX0 1 t.a_unknowns_of t.d_unknowns_of ["terms"] (a6w K)):FnOk P w K mg base CX0 2 t.a_Writing_init t.d_Writing_init ["self","terms"] (a4p K t.k_Writing):=by
 refine T.F_Writing_init.ok b0w (fun vs H Q E h=>?_) (fun cdv A outer s H vs Q E hr h=>?_)
 ·unfold a4p at h
  split at h
  ·rfl
  ·exact h.elim
 unfold a4p at h
 split at h
 rotate_left
 ·exact h.elim
 refine ⟨_,(a0e (b2y (mv 0) b0f rfl) (a0e (a3n PassesOwn.never rfl (c8b K rfl (a0u G_unknowns_of (hr.mono (by walk_at "rm1")) rfl T.m_unknowns_of T.F_unknowns_of.kp T.b_unknowns_of .nil a0s (a0a (mv 1) a0c))) (a2d (i:=2) b0w.nd rfl (by walk_at "or1")) (a0g (a8q (a3t hr) (a4g (mv 0) rfl) (mv 2) (a0t a5b rfl T.n_len PySem.boot_len (a0a (a4g (mv 0) rfl) a0c)) rfl))) (a0e (b2y (mv 0) b0f rfl) (a0e (b2y (mv 0) a0b rfl) (a0g (b2y (mv 0) (a2x a0c) rfl)))))),?_⟩
 rename_i x a
 obtain ⟨dx,us,ts,hx,hS,hd,hz,q⟩:=h
 walk_at "stp"
 intro ps hps
 have s1:=a0f hps (.dK [])
 have k1:(upd H ps (.dK [])) ps = some (.dK []):=a0d
 generalize upd H ps (.dK []) = H1 at s1 k1 ⊢
 walk_at "stp"
 refine ⟨x,_,dx,_,rfl,s1 _ _ hx,T.cl_Writing,T.no_Writing_slots,by simp,?_⟩
 have nps:ps ≠ x:=fun z=>by rw [z,hx] at hps; cases hps
 have b2:But x H1 (upd H1 x (.ins t.k_Writing dx [(a1g,.ref ps)])):=a3d
 have o2:(upd H1 x (.ins t.k_Writing dx [(a1g,.ref ps)])) x = some (.ins t.k_Writing dx [(a1g,.ref ps)]):=a0d
 have k2:=b2 _ _ nps k1
 have f2:∀ b o,b ≠ x->H b = some o->(upd H1 x (.ins t.k_Writing dx [(a1g,.ref ps)])) b = some o:=fun b o hb e=>b2 _ _ hb (s1 _ _ e)
 have S2:∀ a xs,SqL K H a xs->SqL K (upd H1 x (.ins t.k_Writing dx [(a1g,.ref ps)])) a xs:=fun a xs h=>by
  rcases h with (h | ⟨o,h⟩) | h
  ·exact .inl (.inl (f2 _ _ (fun z=>by rw [z,hx] at h; cases h) h))
  ·exact .inl (.inr ⟨o,f2 _ _ (fun z=>by rw [z,hx] at h; cases h) h⟩)
  ·exact .inr h
 have T2:∀ a xs,SqT K H a xs->SqT K (upd H1 x (.ins t.k_Writing dx [(a1g,.ref ps)])) a xs:=fun a xs h=>by
  rcases h with (h | ⟨o,h⟩) | h
  ·exact .inl (.inl (f2 _ _ (fun z=>by rw [z,hx] at h; cases h) h))
  ·exact .inl (.inr ⟨o,f2 _ _ (fun z=>by rw [z,hx] at h; cases h) h⟩)
  ·exact .inr h
 have e2:putF (Str.ofString "slots") (.ref ps) [] = [(a1g,V.ref ps)]:=rfl
 rw [e2]
 have hS2:=S2 _ _ hS
 have hd2:=hd.monoT T2
 have nx2:∀ b,(upd H1 x (.ins t.k_Writing dx [(a1g,.ref ps)])) b = none->H b = none:=fun b e=>by
  cases hb:H b with
  | none=>rfl
  | some o=>
   by_cases z:b = x
   ·rw [z,o2] at e; cases e
   ·rw [f2 b o z hb] at e; cases e
 generalize upd H1 x (.ins t.k_Writing dx [(a1g,.ref ps)]) = H2 at b2 o2 k2 f2 hS2 hd2 nx2 ⊢
 clear S2 T2
 walk_at "stp"
 refine ⟨us,ts,hS2,hd2,by omega,fun p H3 s3 hp kp=>?_⟩
 have hu:=nodL ts
 have hl:=a7j ts []
 generalize ordL ts [] = u at hu hl kp q
 rw [List.length_nil,Nat.zero_add] at hl
 have n1:ps ≠ p:=fun z=>by rw [z,hp] at k2; cases k2
 have n2:x ≠ p:=fun z=>by rw [z,hp] at o2; cases o2
 refine ⟨p,rfl,⟨_,SqL.of kp⟩,?_⟩
 refine a4f (b4q (xs:=u.map V.str)) (fun i σ' J=>∃ (o1:Option V),σ' = [some (.ref x),some (.ref a),o1]/\J ps = some (.dK (encJ 0 (u.take i)))/\J p = some (.lst (u.map V.str))/\J x = some (.ins t.k_Writing dx [(a1g,.ref ps)])/\(∀ b o,b ≠ ps->H3 b = some o->J b = some o)) ⟨none,rfl,by rw [List.take_zero]; exact s3 _ _ k2,kp,s3 _ _ o2,fun b o _ e=>e⟩ (fun i σ' J hP=>by obtain ⟨_,_,_,h,_⟩:=hP; exact SqL.of h) (fun i σ' J hi hP=>?_) (fun σ' J hP=>?_)
 ·obtain ⟨o1,rfl,g1,g2,g3,g4⟩:=hP
  rw [List.length_map] at hi
  rw [c6h hi]
  have lk:List.lookup (Str.ofString "slots") [(a1g,V.ref ps)] = some (V.ref ps):=by simp only [List.lookup,show (Str.ofString "slots" == a1g) = true by decide +kernel]
  walk_at "stp"
  refine ⟨x,_,dx,_,_,rfl,g3,T.cl_Writing,T.no_Writing_slots,lk,?_⟩
  walk_at "stp"
  refine ⟨ps,_,rfl,g1,?_⟩
  rw [a2s,List.length_take,Nat.min_eq_left (by omega)]
  walk_at "stp"
  refine ⟨x,_,dx,_,_,rfl,g3,T.cl_Writing,T.no_Writing_slots,lk,?_⟩
  walk_at "stp"
  refine ⟨ps,_,rfl,DPut.k (k:=Sum.inr u[i]) g1 (by rw [a2s,List.length_take,sizeLine_eq]; omega),?_⟩
  have hnew:=c0m (c9b hu hi)
  rw [List.length_take,Nat.min_eq_left (by omega),<- take_succ' hi] at hnew
  rw [hnew]
  have bb:=a3d (p:=ps) (H:=J) (o:=.dK (encJ 0 (u.take (i + 1))))
  exact ⟨_,rfl,a0d,bb _ _ n1.symm g2,bb _ _ nps.symm g3,fun b o hb e=>bb _ _ hb (g4 _ _ hb e)⟩
 obtain ⟨o1,rfl,g1,g2,g3,g4⟩:=hP
 rw [List.length_map,List.take_length] at g1
 have fJ:∀ b o,b ≠ x->H b = some o->J b = some o:=fun b o hb e=>g4 b o (fun z=>by rw [z,hps] at e; cases e) (s3 _ _ (f2 _ _ hb e))
 have nJ:∀ b,J b = none->H b = none:=fun b e=>by
  cases hb:H b with
  | none=>rfl
  | some o=>
   by_cases z:b = x
   ·rw [z,g3] at e; cases e
   ·rw [fJ b o z hb] at e; cases e
 walk_at "stp"
 intro pm hpm
 have s4:=a0f hpm (.dK [])
 have k4:(upd J pm (.dK [])) pm = some (.dK []):=a0d
 have n3:pm ≠ x:=fun z=>by rw [z,g3] at hpm; cases hpm
 have n4:ps ≠ pm:=fun z=>by rw [<- z,g1] at hpm; cases hpm
 have hpm0:=nJ _ hpm
 generalize upd J pm (.dK []) = H4 at s4 k4 ⊢
 walk_at "stp"
 refine ⟨x,_,dx,_,rfl,s4 _ _ g3,T.cl_Writing,T.no_Writing_met,by simp,?_⟩
 have e5:putF (Str.ofString "met") (.ref pm) [(a1g,V.ref ps)] = [(a1g,.ref ps),(metN,.ref pm)]:=by
  simp only [putF,show ¬ a1g = Str.ofString "met" by decide +kernel,if_false]
 rw [e5]
 have b5:=a3d (p:=x) (H:=H4) (o:=.ins t.k_Writing dx [(a1g,.ref ps),(metN,.ref pm)])
 have o5:(upd H4 x (.ins t.k_Writing dx [(a1g,.ref ps),(metN,.ref pm)])) x = some (.ins t.k_Writing dx [(a1g,.ref ps),(metN,.ref pm)]):=a0d
 generalize upd H4 x (.ins t.k_Writing dx [(a1g,.ref ps),(metN,.ref pm)]) = H5 at b5 o5 ⊢
 walk_at "stp"
 refine ⟨x,_,dx,_,rfl,o5,T.cl_Writing,T.no_Writing_cells,by simp,?_⟩
 have e6:putF (Str.ofString "cells") (.int 0) [(a1g,V.ref ps),(metN,.ref pm)] = [(a1g,.ref ps),(metN,.ref pm),(a5r,.int 0)]:=by
  simp only [putF,show ¬ a1g = Str.ofString "cells" by decide +kernel,show ¬ metN = Str.ofString "cells" by decide +kernel,if_false]
 rw [e6]
 have b6:=a3d (p:=x) (H:=H5) (o:=.ins t.k_Writing dx [(a1g,.ref ps),(metN,.ref pm),(a5r,.int 0)])
 have o6:(upd H5 x (.ins t.k_Writing dx [(a1g,.ref ps),(metN,.ref pm),(a5r,.int 0)])) x = some (.ins t.k_Writing dx [(a1g,.ref ps),(metN,.ref pm),(a5r,.int 0)]):=a0d
 generalize upd H5 x (.ins t.k_Writing dx [(a1g,.ref ps),(metN,.ref pm),(a5r,.int 0)]) = H6 at b6 o6 ⊢
 walk_at "stp"
 refine ⟨Nat.zero_le _,fun pr hpr=>?_⟩
 have s7:=a0f hpr (.lst [])
 have k7:(upd H6 pr (.lst [])) pr = some (.lst []):=a0d
 have n5:pr ≠ x:=fun z=>by rw [z,o6] at hpr; cases hpr
 have f6:∀ b o,b ≠ x->J b = some o->H6 b = some o:=fun b o hb e=>b6 _ _ hb (b5 _ _ hb (s4 _ _ e))
 have hpr0:H pr = none:=nJ _ (by
  cases hb:J pr with
  | none=>rfl
  | some o=>rw [f6 _ _ n5 hb] at hpr; cases hpr)
 generalize upd H6 pr (.lst []) = H7 at s7 k7 ⊢
 walk_at "stp"
 refine ⟨x,_,dx,_,rfl,s7 _ _ o6,T.cl_Writing,T.no_Writing_rows,by simp,?_⟩
 have e8:putF (Str.ofString "rows") (.ref pr) [(a1g,V.ref ps),(metN,.ref pm),(a5r,.int 0)] = fsW ps pm ((0:Nat):Int) pr:=by
  simp only [putF,fsW,show ¬ a1g = Str.ofString "rows" by decide +kernel,show ¬ metN = Str.ofString "rows" by decide +kernel,show ¬ a5r = Str.ofString "rows" by decide +kernel,if_false]
  rfl
 rw [e8]
 have b8:=a3d (p:=x) (H:=H7) (o:=.ins t.k_Writing dx (fsW ps pm ((0:Nat):Int) pr))
 have kpm6:H6 pm = some (.dK []):=b6 _ _ n3 (b5 _ _ n3 k4)
 exact q ps pm pr _ ⟨a0d,b8 _ _ nps (s7 _ _ (f6 _ _ nps g1)),b8 _ _ n3 (s7 _ _ kpm6),b8 _ _ n5 k7,n4⟩ (fun b o hb e=>b8 _ _ hb (s7 _ _ (f6 _ _ hb (fJ _ _ hb e)))) hps hpm0 hpr0
end
theorem b5b (sl:Str->Nat):∀ (a:List Trm) (k:Trm) (c C:Nat) (met:List Str),taL sl (a ++ [k]) c C met = taL sl a c C met ++ ta sl k (c + a.length) (C + (Trm.sizeL a - a.length)) (ordL a met)
 | [],k,c,C,met=>by
  rw [List.nil_append,taL,taL,taL,List.append_nil,List.nil_append,ordL]
  simp [Trm.sizeL]
 | b :: a,k,c,C,met=>by
  have bp:=b.size_pos
  have zl:=Trm.len_le a
  rw [List.cons_append,taL,taL,b5b sl a k (c + 1) _ _,List.append_assoc,ordL]
  congr 2
  congr 1
  ·simp only [List.length_cons]; omega
  ·simp only [Trm.sizeL,List.length_cons]; omega
theorem valB (met:List Str) (x:Str):valV (encB met) (Sum.inr x) = if x ∈ met then some (.bl true) else none:=by
 induction met with
 | nil=>rfl
 | cons y r ih=>
  by_cases e:y = x
  ·rw [show encB (y :: r) = (Sum.inr y,V.bl true) :: encB r from rfl,a2i (by rw [e]),if_pos (by rw [e]; exact List.mem_cons_self ..)]
  ·rw [show encB (y :: r) = (Sum.inr y,V.bl true) :: encB r from rfl,a1t (fun z=>e (Sum.inr.inj z)),ih]
   by_cases h:x ∈ r
   ·rw [if_pos h,if_pos (List.mem_cons_of_mem _ h)]
   ·rw [if_neg h,if_neg (fun z=>by rcases List.mem_cons.mp z with q | q; exact e q.symm; exact h q)]
theorem b1s {ks:List Trm} {i:Nat} (h:i < ks.length):∀ x ∈ vars ks[i],x ∈ a1f ks:=b4a (List.getElem_mem h)
theorem a4a {ks:List Trm} {i:Nat} (h:i < ks.length):Trm.sizeL (ks.take (i + 1)) = Trm.sizeL (ks.take i) + ks[i].size:=by
 rw [take_succ' h,Trm.sizeL_app]
 simp [Trm.sizeL]
theorem a6p {ks:List Trm} {i:Nat} (h:i<=ks.length):(ks.take i).length = i:=by rw [List.length_take]; omega
section
variable {K:W.Frag} {H:Hp} {p:Addr}
theorem c9f {c:Nat} {n:Int} (h:SqT K H p [.str numS,.int c,.int n]):Den K H (.ref p) (Rw.num c n).data:=.tup h (.cons (.str _) (.cons (.int _) (.cons (.int _) .nil)))
theorem c6o {c s:Nat} (h:SqT K H p [.str b8z,.int c,.int s]):Den K H (.ref p) (Rw.slot c s).data:=.tup h (.cons (.str _) (.cons (.int _) (.cons (.int _) .nil)))
theorem c6p {c s:Nat} (h:SqT K H p [.str b9a,.int c,.int s]):Den K H (.ref p) (Rw.same c s).data:=.tup h (.cons (.str _) (.cons (.int _) (.cons (.int _) .nil)))
theorem c9g {c m f:Nat} {g:Str} (h:SqT K H p [.str appS,.int c,.str g,.int m,.int f]):Den K H (.ref p) (Rw.app c g m f).data:=.tup h (.cons (.str _) (.cons (.int _) (.cons (.str _) (.cons (.int _) (.cons (.int _) .nil)))))
theorem b9b {s:Str} (h:SqT K H p [.str s]):Den K H (.ref p) (.tuple [.str s]):=.tup h (.cons (.str _) .nil)
end
theorem b7v {K:W.Frag} {H:Hp} (sl:Str->Nat) (ks:List Trm) (c C:Nat) (met:List Str):DenL K H [] ((taL sl (ks.take 0) c C met).map Rw.data):=by rw [List.take_zero,taL]; exact .nil
mutual
theorem c0s (sl:Str->Nat):∀ (t:Trm) (c C:Nat) (met:List Str),(ta sl t c C met).length = t.size
 | .num n,c,C,met=>by rw [ta]; rfl
 | .any x,c,C,met=>by rw [ta]; rfl
 | .app s ks,c,C,met=>by rw [ta,List.length_cons,b4c sl ks]; simp only [Trm.size]; omega
theorem b4c (sl:Str->Nat):∀ (ks:List Trm) (c C:Nat) (met:List Str),(taL sl ks c C met).length = Trm.sizeL ks
 | [],c,C,met=>by rw [taL]; rfl
 | k :: ks,c,C,met=>by rw [taL,List.length_append,c0s sl k,b4c sl ks,Trm.sizeL]
end
section
variable {K:W.Frag} {H:Hp} {p:Addr} {sl:Str->Nat}
theorem den_pn {c:Nat} {n:Int} (h:SqT K H p [.str a9c,.int c,.int n]):Den K H (.ref p) ((Br.pnum c n).data sl):=.tup h (.cons (.str _) (.cons (.int _) (.cons (.int _) .nil)))
theorem den_pt {c:Nat} {x:Str} (h:SqT K H p [.str putS,.int c,.int (sl x)]):Den K H (.ref p) ((Br.put c x).data sl):=.tup h (.cons (.str _) (.cons (.int _) (.cons (.int _) .nil)))
theorem den_bd {c f m:Nat} {g:Str} {ks:List Trm} (e:m = ks.length) (h:SqT K H p [.str bldS,.int c,.str g,.int m,.int f]):Den K H (.ref p) ((Br.bld c g ks f).data sl):=by
 subst e
 exact .tup h (.cons (.str _) (.cons (.int _) (.cons (.str _) (.cons (.int _) (.cons (.int _) .nil)))))
end
theorem b6k {K:W.Frag} {H:Hp} (sl:Str->Nat) (ks:List Trm) (c C:Nat):DenL K H [] ((brL (ks.take 0) c C).map (Br.data sl)):=by rw [List.take_zero,brL]; exact .nil
section
variable {P:Program} {w:World} {K:W.Frag} {mg:Str->Option Value} {base:Heap} {t:Ad}
theorem b1t (T:Txt K mg t) (G_Writing_write:FnOk P w K mg base CX0 1 t.a_Writing_write t.d_Writing_write ["self","row"] (a1m K t.k_Writing)) (G_Writing_give_cells:FnOk P w K mg base CX0 1 t.a_Writing_give_cells t.d_Writing_give_cells ["self","many"] (a1n K t.k_Writing)) (n:Nat) (G_Writing_take_apart:FnOk P w K mg base CX0 (n + 2) t.a_Writing_take_apart t.d_Writing_take_apart ["self","cell","term"] (a1o K t.k_Writing n)):FnOk P w K mg base CX0 (n + 2 + 1) t.a_Writing_take_apart t.d_Writing_take_apart ["self","cell","term"] (a1o K t.k_Writing (n + 1)):=by
 refine T.F_Writing_take_apart.ok (k:=n + 2) a3u (fun vs H Q E h=>?_) (fun cdv A outer s H vs Q E hr h=>?_)
 ·unfold a1o at h
  split at h
  ·rfl
  ·exact h.elim
 unfold a1o at h
 split at h
 rotate_left
 ·exact h.elim
 refine ⟨_,(a0g (a1b (a0q a1h (a0l (a0h K rfl) (mv 2) a0b (fun _ _=>rfl)) a0i (a0o _)) (a0g (a1e (a1q (mv 0) T.cl_Writing T.me_Writing_write G_Writing_write (hr.mono (by walk_at "rm1")) T.b_Writing_write .nil a0s (a0a (a0z (a0a a0i (a0a (mv 1) (a0a (a0l (a0h K rfl) (mv 2) a0b (fun _ _=>rfl)) a0c)))) a0c)))) (a0g (a1b (a0q a1h (a0l (a0h K rfl) (mv 2) a0b (fun _ _=>rfl)) a0i (a0o _)) (a0e (a1e (a1q (mv 0) T.cl_Writing T.me_Writing_write G_Writing_write (hr.mono (by walk_at "rm1")) T.b_Writing_write .nil a0s (a0a (a0z (a0a (b9e (a0q (c5p (a3t hr)) (a0l (a0h K rfl) (mv 2) a0b (fun _ _=>rfl)) (a4g (mv 0) rfl) (by with_unfolding_all rfl)) a0i a0i) (a0a (mv 1) (a0a (a8p (a3t hr) (a4g (mv 0) rfl) (a0l (a0h K rfl) (mv 2) a0b (fun _ _=>rfl)) (fun _ _=>rfl)) a0c)))) a0c))) (a0g (a8q (a3t hr) (a4g (mv 0) rfl) (a0l (a0h K rfl) (mv 2) a0b (fun _ _=>rfl)) a3r rfl))) (a0e (a0r (i:=3) (hs:=a1x) a3u.nd rfl (by walk_at "or1") (a1q (mv 0) T.cl_Writing T.me_Writing_give_cells G_Writing_give_cells (hr.mono (by walk_at "rm1")) T.b_Writing_give_cells .nil a0s (a0a (a0t (a1r K rfl) rfl T.n_len PySem.boot_len (a0a (a0l (a0h K rfl) (mv 2) a0b (fun _ _=>rfl)) a0c)) a0c))) (a0e (a1e (a1q (mv 0) T.cl_Writing T.me_Writing_write G_Writing_write (hr.mono (by walk_at "rm1")) T.b_Writing_write .nil a0s (a0a (a0z (a0a a0i (a0a (mv 1) (a0a (a0l (a0h K rfl) (mv 2) a0b (fun _ _=>rfl)) (a0a (a0t (a1r K rfl) rfl T.n_len PySem.boot_len (a0a (a0l (a0h K rfl) (mv 2) a0b (fun _ _=>rfl)) a0c)) (a0a (mv 3) a0c)))))) a0c))) (a0g (a3n PassesOwn.never rfl (b0t K rfl rfl T.n_enumerate (a0a (a0l (a0h K rfl) (mv 2) a0b (fun _ _=>rfl)) a0c)) (b3x K rfl rfl (a6a (a2d (i:=4) a3u.nd rfl (by walk_at "or1")) (a6a (a2d (i:=5) a3u.nd rfl (by walk_at "or1")) b3q))) (a0g (a1e (a1q (mv 0) T.cl_Writing T.me_Writing_take_apart G_Writing_take_apart (hr.mono (by walk_at "rm1")) T.b_Writing_take_apart .nil a0s (a0a (a0m (a1d K rfl) (mv 3) (mv 4)) (a0a (mv 5) a0c))))))))))))),?_⟩
 rename_i x i v
 obtain ⟨dx,ps,pm,pr,u,met,c,rs,t0,cell,w,ei,hd,hv,hz,hn,hrs,hml,q⟩:=h
 have tp:=t0.size_pos
 subst ei
 walk_at "stp"
 cases t0 with
 | num m=>
  obtain ⟨a,rfl,hs⟩:=a8v hd
  refine a0k hs (v:=.str numS) rfl ?_
  walk_at "stp"
  refine iteB (fun e=>?_) (fun e=>absurd e (by decide +kernel))
  walk_at "stp"
  refine ⟨x,dx,_,rfl,w.o,a2h,?_⟩
  walk_at "stp"
  refine a0k hs (v:=.int m) rfl ?_
  walk_at "stp"
  refine ⟨ln (by show 3<=100000; decide),fun p1 hp1=>?_⟩
  have sp1:=a0f hp1 (.tup [.str (Str.ofString "num"),.int cell,.int m])
  have kp1:(upd H p1 (.tup [.str (Str.ofString "num"),.int cell,.int m])) p1 = some (.tup [.str (Str.ofString "num"),.int cell,.int m]):=a0d
  generalize upd H p1 (.tup [.str (Str.ofString "num"),.int cell,.int m]) = Hp1 at sp1 kp1 ⊢
  walk_at "stp"
  have ap1:=w.same sp1
  refine ⟨dx,ps,pm,pr,_,_,ap1.o,ap1.r,by first | omega | (simp only [List.length_append,List.length_cons,List.length_nil] at *; omega),?_⟩
  obtain ⟨w2,fw2⟩:=ap1.row (.ref p1)
  have fw2:=(WFr.of (x:=x) (pm:=pm) (pr:=pr) sp1).trans fw2
  have tp1:=(ap1.tup (show WFr x pm pr Hp1 _ from (ap1.row (.ref p1)).2)) _ _ (SqT.of kp1)
  generalize upd Hp1 pr (.lst (_ ++ [.ref p1])) = H2 at w2 fw2 tp1 ⊢
  exact q _ [.ref p1] fw2 (by rw [ord]; exact w2) (by rw [ta]; exact .cons (c9f tp1) .nil)
 | any y=>
  obtain ⟨a,rfl,hs⟩:=a8w hd
  have hy:y ∈ u:=hv y (by simp [vars])
  refine a0k hs (v:=.str anyS) rfl ?_
  walk_at "stp"
  refine iteB (fun e=>absurd e (by decide +kernel)) (fun e=>?_)
  walk_at "stp"
  refine a0k hs (v:=.str anyS) rfl ?_
  walk_at "stp"
  refine iteB (fun e=>?_) (fun e=>absurd e (by decide +kernel))
  walk_at "stp"
  refine ⟨x,dx,_,rfl,w.o,a2h,?_⟩
  walk_at "stp"
  refine a0k hs (v:=.str y) rfl ?_
  walk_at "stp"
  refine ⟨x,_,dx,_,_,rfl,w.o,T.cl_Writing,T.no_Writing_met,b6h _ _ _ _,?_⟩
  have dg:DGet H pm (.str y) (valV (encB met) (Sum.inr y)):=DGet.k (k:=Sum.inr y) w.m
  have dj:DGet H ps (.str y) (valV (encJ 0 u) (Sum.inr y)):=DGet.k (k:=Sum.inr y) w.s
  rw [valJ 0 hy,Nat.zero_add] at dj
  rw [valB] at dg
  have mlen:=b3z (.any y) met
  simp only [Trm.size] at mlen hml hrs
  by_cases hm:y ∈ met
  ·rw [if_pos hm] at dg
   refine ⟨pm,_,rfl,dg,?_⟩
   walk_at "stp"
   refine iteB (fun e=>?_) (fun e=>absurd e (by simp))
   walk_at "stp"
   refine ⟨x,_,dx,_,_,rfl,w.o,T.cl_Writing,T.no_Writing_slots,a5m _ _ _ _,?_⟩
   walk_at "stp"
   refine a0k hs (v:=.str y) rfl ?_
   walk_at "stp"
   refine ⟨ps,_,rfl,dj,?_⟩
   walk_at "stp"
   refine ⟨ln (by show 3<=100000; decide),fun p1 hp1=>?_⟩
   have sp1:=a0f hp1 (.tup [.str (Str.ofString "same"),.int cell,.int (ix u y)])
   have kp1:(upd H p1 (.tup [.str (Str.ofString "same"),.int cell,.int (ix u y)])) p1 = some (.tup [.str (Str.ofString "same"),.int cell,.int (ix u y)]):=a0d
   generalize upd H p1 (.tup [.str (Str.ofString "same"),.int cell,.int (ix u y)]) = Hp1 at sp1 kp1 ⊢
   walk_at "stp"
   have ap1:=w.same sp1
   refine ⟨dx,ps,pm,pr,_,_,ap1.o,ap1.r,by first | omega | (simp only [List.length_append,List.length_cons,List.length_nil] at *; omega),?_⟩
   obtain ⟨w2,fw2⟩:=ap1.row (.ref p1)
   have fw2:=(WFr.of (x:=x) (pm:=pm) (pr:=pr) sp1).trans fw2
   have tp1:=(ap1.tup (show WFr x pm pr Hp1 _ from (ap1.row (.ref p1)).2)) _ _ (SqT.of kp1)
   generalize upd Hp1 pr (.lst (_ ++ [.ref p1])) = H2 at w2 fw2 tp1 ⊢
   walk_at "stp"
   refine ⟨x,_,dx,_,_,rfl,w2.o,T.cl_Writing,T.no_Writing_met,b6h _ _ _ _,?_⟩
   walk_at "stp"
   refine a0k (w.tup fw2 _ _ hs) (v:=.str y) rfl ?_
   walk_at "stp"
   refine ⟨pm,_,rfl,DPut.k (k:=Sum.inr y) w2.m (by rw [b4u,sizeLine_eq]; omega),?_⟩
   rw [b4v]
   obtain ⟨w3,f3⟩:=w2.met' (ord (.any y) met)
   exact q _ [.ref p1] (fw2.trans f3) w3 (by rw [ta,if_pos hm]; exact .cons (c6p (w2.tup f3 _ _ tp1)) .nil)
  ·rw [if_neg hm] at dg
   refine ⟨pm,_,rfl,dg,?_⟩
   walk_at "stp"
   refine iteB (fun e=>absurd e (by simp)) (fun e=>?_)
   walk_at "stp"
   refine ⟨x,_,dx,_,_,rfl,w.o,T.cl_Writing,T.no_Writing_slots,a5m _ _ _ _,?_⟩
   walk_at "stp"
   refine a0k hs (v:=.str y) rfl ?_
   walk_at "stp"
   refine ⟨ps,_,rfl,dj,?_⟩
   walk_at "stp"
   refine ⟨ln (by show 3<=100000; decide),fun p1 hp1=>?_⟩
   have sp1:=a0f hp1 (.tup [.str (Str.ofString "slot"),.int cell,.int (ix u y)])
   have kp1:(upd H p1 (.tup [.str (Str.ofString "slot"),.int cell,.int (ix u y)])) p1 = some (.tup [.str (Str.ofString "slot"),.int cell,.int (ix u y)]):=a0d
   generalize upd H p1 (.tup [.str (Str.ofString "slot"),.int cell,.int (ix u y)]) = Hp1 at sp1 kp1 ⊢
   walk_at "stp"
   have ap1:=w.same sp1
   refine ⟨dx,ps,pm,pr,_,_,ap1.o,ap1.r,by first | omega | (simp only [List.length_append,List.length_cons,List.length_nil] at *; omega),?_⟩
   obtain ⟨w2,fw2⟩:=ap1.row (.ref p1)
   have fw2:=(WFr.of (x:=x) (pm:=pm) (pr:=pr) sp1).trans fw2
   have tp1:=(ap1.tup (show WFr x pm pr Hp1 _ from (ap1.row (.ref p1)).2)) _ _ (SqT.of kp1)
   generalize upd Hp1 pr (.lst (_ ++ [.ref p1])) = H2 at w2 fw2 tp1 ⊢
   walk_at "stp"
   refine ⟨x,_,dx,_,_,rfl,w2.o,T.cl_Writing,T.no_Writing_met,b6h _ _ _ _,?_⟩
   walk_at "stp"
   refine a0k (w.tup fw2 _ _ hs) (v:=.str y) rfl ?_
   walk_at "stp"
   refine ⟨pm,_,rfl,DPut.k (k:=Sum.inr y) w2.m (by rw [b4u,sizeLine_eq]; omega),?_⟩
   rw [b4v]
   obtain ⟨w3,f3⟩:=w2.met' (ord (.any y) met)
   exact q _ [.ref p1] (fw2.trans f3) w3 (by rw [ta,if_neg hm]; exact .cons (c6o (w2.tup f3 _ _ tp1)) .nil)
 | app sg ks=>
  obtain ⟨a,b,us,rfl,hs,hb,hk⟩:=a4z hd
  have hkl:=a1y hk
  have zl:=Trm.len_le ks
  simp only [Trm.size] at hz hrs hml
  have hvk:∀ y ∈ a1f ks,y ∈ u:=by simpa only [vars] using hv
  refine a0k hs (v:=.str appS) rfl ?_
  walk_at "stp"
  refine iteB (fun e=>absurd e (by decide +kernel)) (fun e=>?_)
  walk_at "stp"
  refine a0k hs (v:=.str appS) rfl ?_
  walk_at "stp"
  refine iteB (fun e=>absurd e (by decide +kernel)) (fun e=>?_)
  walk_at "stp"
  refine ⟨x,dx,_,rfl,w.o,a2h,?_⟩
  walk_at "stp"
  refine a0k hs (v:=.ref b) rfl ?_
  walk_at "stp"
  refine a4y hb ?_
  walk_at "stp"
  refine ⟨dx,ps,pm,pr,_,_,_,_,w,?_⟩
  rw [show (c:Int) + (us.length:Int) = ((c + us.length:Nat):Int) by omega]
  obtain ⟨w1,f1⟩:=w.cel (c + us.length)
  generalize upd H x (.ins t.k_Writing dx (fsW ps pm ((c + us.length:Nat):Int) pr)) = H1 at w1 f1 ⊢
  have hs1:=w.tup f1 _ _ hs
  have hb1:=w.tup f1 _ _ hb
  have hk1:=hk.monoT (w.tup f1)
  walk_at "stp"
  refine ⟨x,dx,_,rfl,w1.o,a2h,?_⟩
  walk_at "stp"
  refine a0k hs1 (v:=.str sg) rfl ?_
  walk_at "stp"
  refine a0k hs1 (v:=.ref b) rfl ?_
  walk_at "stp"
  refine a4y hb1 ?_
  walk_at "stp"
  refine ⟨ln (by show 5<=100000; decide),fun p1 hp1=>?_⟩
  have sp1:=a0f hp1 (.tup [.str (Str.ofString "app"),.int cell,.str sg,.int us.length,.int c])
  have kp1:(upd H1 p1 (.tup [.str (Str.ofString "app"),.int cell,.str sg,.int us.length,.int c])) p1 = some (.tup [.str (Str.ofString "app"),.int cell,.str sg,.int us.length,.int c]):=a0d
  generalize upd H1 p1 (.tup [.str (Str.ofString "app"),.int cell,.str sg,.int us.length,.int c]) = H1p1 at sp1 kp1 ⊢
  walk_at "stp"
  have ap1:=w1.same sp1
  refine ⟨dx,ps,pm,pr,_,_,ap1.o,ap1.r,by first | omega | (simp only [List.length_append,List.length_cons,List.length_nil] at *; omega),?_⟩
  obtain ⟨w2,fw2⟩:=ap1.row (.ref p1)
  have fw2:=(WFr.of (x:=x) (pm:=pm) (pr:=pr) sp1).trans fw2
  have tp1:=(ap1.tup (show WFr x pm pr H1p1 _ from (ap1.row (.ref p1)).2)) _ _ (SqT.of kp1)
  generalize upd H1p1 pr (.lst (_ ++ [.ref p1])) = H2 at w2 fw2 tp1 ⊢
  have fA:=f1.trans fw2
  have hs2:=w1.tup fw2 _ _ hs1
  have hb2:=w1.tup fw2 _ _ hb1
  have hk2:=hk1.monoT (w1.tup fw2)
  walk_at "stp"
  refine a0k hs2 (v:=.ref b) rfl ?_
  walk_at "stp"
  refine ⟨b,us,rfl,hb2,?_⟩
  refine b0u (fun i σ' J=>∃ (o4 o5:Option V) (ns:List V),σ' = [some (.ref x),some (.int cell),some (.ref a),some (.int c),o4,o5]/\WFr x pm pr H2 J/\WS K t.k_Writing J x dx ps pm pr u (ordL (ks.take i) met) (c + us.length + (Trm.sizeL (ks.take i) - i)) ((rs ++ [.ref p1]) ++ ns)/\DenL K J ns ((taL (ix u) (ks.take i) c (c + us.length) met).map Rw.data)/\ns.length<=Trm.sizeL (ks.take i)) ⟨none,none,[],rfl,WFr.refl _ _ _ _,by rw [List.take_zero,ordL,List.append_nil]; exact w2,b7v _ _ _ _ _,Nat.zero_le _⟩ (fun i σ' J hP=>by obtain ⟨_,_,_,_,h,_⟩:=hP; exact w2.tup h _ _ hb2) (fun i σ' J T' hi hP hT=>?_) (fun σ' J hP=>?_)
  ·obtain ⟨o4,o5,ns,rfl,g1,g2,g3,g4⟩:=hP
   have hki:i < ks.length:=by omega
   obtain ⟨hui,dk⟩:=b0b hk2 hki
   have z1:=b0m (List.getElem?_eq_getElem hki)
   have z2:=a9v ks (i + 1)
   rw [a4a hki] at z2
   have z3:=ks[i].size_pos
   have z4:=Trm.len_le (ks.take i)
   rw [a6p (by omega)] at z4
   have z5:=a7j (ks.take i) met
   refine b6e (SqT.of a0d) rfl ?_
   rw [getD_at hui]
   have sT:=a0f hT (.tup [.int i,us[i]])
   generalize upd J T' (.tup [.int i,us[i]]) = J1 at sT ⊢
   have g2':=g2.same sT
   have f1':=g1.trans (WFr.of (x:=x) (pm:=pm) (pr:=pr) sT)
   walk_at "stp"
   refine ⟨x,dx,_,rfl,g2'.o,a2h,?_⟩
   walk_at "stp"
   refine ⟨dx,ps,pm,pr,u,_,_,_,ks[i],c + i,g2',by omega,(dk.monoT (w2.tup f1')),fun y hy=>hvk y (b1s hki y hy),by omega,by omega,by simp only [List.length_append,List.length_cons,List.length_nil]; omega,by omega,fun J2 ns2 f2 w3 d3=>?_⟩
   have l3:=d3.length
   rw [List.length_map] at l3
   refine ⟨_,_,ns ++ ns2,rfl,f1'.trans f2,?_,?_,?_⟩
   ·rw [take_succ' hki,b0j,c0k,<- List.append_assoc,<- take_succ' hki,a4a hki]
    rw [show c + us.length + (Trm.sizeL (ks.take i) + ks[i].size - (i + 1)) = c + us.length + (Trm.sizeL (ks.take i) - i) + (ks[i].size - 1) by omega]
    exact w3
   ·rw [take_succ' hki,b5b,List.map_append,a6p (by omega)]
    exact ((g3.mono sT).monoT (g2'.tup f2)).append d3
   ·rw [List.length_append,a4a hki,l3]
    have:=c0s (ix u) ks[i] (c + i) (c + us.length + (Trm.sizeL (ks.take i) - i)) (ordL (ks.take i) met)
    omega
  obtain ⟨o4,o5,ns,rfl,g1,g2,g3,g4⟩:=hP
  rw [List.take_of_length_le (by omega)] at g2 g3 g4
  refine q J (.ref p1 :: ns) (fA.trans g1) ?_ ?_
  ·rw [ord]
   simp only [Trm.size]
   rw [show c + (1 + Trm.sizeL ks - 1) = c + us.length + (Trm.sizeL ks - us.length) by omega]
   rw [List.append_assoc] at g2
   exact g2
  ·rw [ta,List.map_cons,<- hkl]
   exact .cons (c9g (w2.tup g1 _ _ tp1)) g3
theorem b1u (T:Txt K mg t) (G_Writing_write:FnOk P w K mg base CX0 1 t.a_Writing_write t.d_Writing_write ["self","row"] (a1m K t.k_Writing)) (G_Writing_give_cells:FnOk P w K mg base CX0 1 t.a_Writing_give_cells t.d_Writing_give_cells ["self","many"] (a1n K t.k_Writing)) (n:Nat):FnOk P w K mg base CX0 (n + 2) t.a_Writing_take_apart t.d_Writing_take_apart ["self","cell","term"] (a1o K t.k_Writing n):=by
 induction n with
 | zero=>
  have no:∀ vs H Q E,(a1o K t.k_Writing 0) vs H Q E->False:=fun vs H Q E h=>by
   unfold a1o at h
   split at h
   ·exact b1p h
   ·exact h
  exact ⟨fun vs H Q E h=>(no vs H Q E h).elim,fun A outer s H args us vs Q E _ _ _ _ h=>(no vs H Q E h).elim⟩
 | succ n ih=>
  have e:n + 1 + 2 = n + 2 + 1:=by omega
  rw [e]
  exact b1t T G_Writing_write G_Writing_give_cells n ih
end
section
variable {P:Program} {w:World} {K:W.Frag} {mg:Str->Option Value} {base:Heap} {t:Ad}
theorem b1v (T:Txt K mg t) (G_Writing_give_cells:FnOk P w K mg base CX0 1 t.a_Writing_give_cells t.d_Writing_give_cells ["self","many"] (a1n K t.k_Writing)) (G_Writing_take_apart:FnOk P w K mg base CX0 62 t.a_Writing_take_apart t.d_Writing_take_apart ["self","cell","term"] (a1o K t.k_Writing 60)):FnOk P w K mg base CX0 63 t.a_Writing_write_head t.d_Writing_write_head ["self","head"] (a3x K t.k_Writing):=by
 refine T.F_Writing_write_head.ok a5a (fun vs H Q E h=>?_) (fun cdv A outer s H vs Q E hr h=>?_)
 ·unfold a3x at h
  split at h
  ·rfl
  ·exact h.elim
 unfold a3x at h
 split at h
 rotate_left
 ·exact h.elim
 refine ⟨_,(a0e (a1e (a1q (mv 0) T.cl_Writing T.me_Writing_give_cells G_Writing_give_cells (hr.mono (by walk_at "rm1")) T.b_Writing_give_cells .nil a0s (a0a (a0t (a1r K rfl) rfl T.n_len PySem.boot_len (a0a (a0l (a0h K rfl) (mv 1) a0b (fun _ _=>rfl)) a0c)) a0c))) (a0g (a3n PassesOwn.never rfl (b0t K rfl rfl T.n_enumerate (a0a (a0l (a0h K rfl) (mv 1) a0b (fun _ _=>rfl)) a0c)) (b3x K rfl rfl (a6a (a2d (i:=2) a5a.nd rfl (by walk_at "or1")) (a6a (a2d (i:=3) a5a.nd rfl (by walk_at "or1")) b3q))) (a0g (a1e (a1q (mv 0) T.cl_Writing T.me_Writing_take_apart G_Writing_take_apart (hr.mono (by walk_at "rm1")) T.b_Writing_take_apart .nil a0s (a0a (mv 2) (a0a (mv 3) a0c)))))))),?_⟩
 rename_i x v
 obtain ⟨dx,ps,pm,pr,u,wd,ks,w,hd,hvk,hz,q⟩:=h
 obtain ⟨a,b,us,rfl,hs,hb,hk⟩:=a4z hd
 have hkl:=a1y hk
 have zl:=Trm.len_le ks
 walk_at "stp"
 refine ⟨x,dx,_,rfl,w.o,a2h,?_⟩
 walk_at "stp"
 refine a0k hs (v:=.ref b) rfl ?_
 walk_at "stp"
 refine a4y hb ?_
 walk_at "stp"
 refine ⟨dx,ps,pm,pr,_,_,_,_,w,?_⟩
 rw [show ((0:Nat):Int) + (us.length:Int) = ((us.length:Nat):Int) by omega]
 obtain ⟨w1,f1⟩:=w.cel us.length
 generalize upd H x (.ins t.k_Writing dx (fsW ps pm ((us.length:Nat):Int) pr)) = H1 at w1 f1 ⊢
 have hs1:=w.tup f1 _ _ hs
 have hb1:=w.tup f1 _ _ hb
 have hk1:=hk.monoT (w.tup f1)
 walk_at "stp"
 refine a0k hs1 (v:=.ref b) rfl ?_
 walk_at "stp"
 refine ⟨b,us,rfl,hb1,?_⟩
 refine b0u (fun i σ' J=>∃ (o4 o5:Option V) (ns:List V),σ' = [some (.ref x),some (.ref a),o4,o5]/\WFr x pm pr H1 J/\WS K t.k_Writing J x dx ps pm pr u (ordL (ks.take i) []) (us.length + (Trm.sizeL (ks.take i) - i)) ns/\DenL K J ns ((taL (ix u) (ks.take i) 0 us.length []).map Rw.data)/\ns.length<=Trm.sizeL (ks.take i)) ⟨none,none,[],rfl,WFr.refl _ _ _ _,by rw [List.take_zero,ordL]; exact w1,b7v _ _ _ _ _,Nat.zero_le _⟩ (fun i σ' J hP=>by obtain ⟨_,_,_,_,h,_⟩:=hP; exact w1.tup h _ _ hb1) (fun i σ' J T' hi hP hT=>?_) (fun σ' J hP=>?_)
 ·obtain ⟨o4,o5,ns,rfl,g1,g2,g3,g4⟩:=hP
  have hki:i < ks.length:=by omega
  obtain ⟨hui,dk⟩:=b0b hk1 hki
  have z1:=b0m (List.getElem?_eq_getElem hki)
  have z2:=a9v ks (i + 1)
  rw [a4a hki] at z2
  have z3:=ks[i].size_pos
  have z4:=Trm.len_le (ks.take i)
  rw [a6p (by omega)] at z4
  have z5:=a7j (ks.take i) []
  rw [List.length_nil] at z5
  refine b6e (SqT.of a0d) rfl ?_
  rw [getD_at hui]
  have sT:=a0f hT (.tup [.int i,us[i]])
  generalize upd J T' (.tup [.int i,us[i]]) = J1 at sT ⊢
  have g2':=g2.same sT
  have f1':=g1.trans (WFr.of (x:=x) (pm:=pm) (pr:=pr) sT)
  walk_at "stp"
  refine ⟨x,dx,_,rfl,g2'.o,a2h,?_⟩
  walk_at "stp"
  refine ⟨dx,ps,pm,pr,u,_,_,_,ks[i],i,g2',rfl,(dk.monoT (w1.tup f1')),fun y hy=>hvk y (b1s hki y hy),by omega,by omega,by omega,by omega,fun J2 ns2 f2 w3 d3=>?_⟩
  have l3:=d3.length
  rw [List.length_map] at l3
  refine ⟨_,_,ns ++ ns2,rfl,f1'.trans f2,?_,?_,?_⟩
  ·rw [take_succ' hki,b0j,c0k,<- take_succ' hki,a4a hki]
   rw [show us.length + (Trm.sizeL (ks.take i) + ks[i].size - (i + 1)) = us.length + (Trm.sizeL (ks.take i) - i) + (ks[i].size - 1) by omega]
   exact w3
  ·rw [take_succ' hki,b5b,List.map_append,a6p (by omega),Nat.zero_add]
   exact ((g3.mono sT).monoT (g2'.tup f2)).append d3
  ·rw [List.length_append,a4a hki,l3]
   have:=c0s (ix u) ks[i] i (us.length + (Trm.sizeL (ks.take i) - i)) (ordL (ks.take i) [])
   omega
 obtain ⟨o4,o5,ns,rfl,g1,g2,g3,g4⟩:=hP
 rw [List.take_of_length_le (by omega)] at g2 g3 g4
 rw [show us.length + (Trm.sizeL ks - us.length) = Trm.sizeL ks by omega] at g2
 rw [hkl] at g3
 exact q J ns (f1.trans g1) g2 g3
theorem b5c (T:Txt K mg t) (G_Writing_write:FnOk P w K mg base CX0 1 t.a_Writing_write t.d_Writing_write ["self","row"] (a1m K t.k_Writing)) (G_Writing_give_cells:FnOk P w K mg base CX0 1 t.a_Writing_give_cells t.d_Writing_give_cells ["self","many"] (a1n K t.k_Writing)) (n:Nat) (G_Writing_bring:FnOk P w K mg base CX0 (n + 2) t.a_Writing_bring t.d_Writing_bring ["self","cell","term"] (a2m K t.k_Writing n)):FnOk P w K mg base CX0 (n + 2 + 1) t.a_Writing_bring t.d_Writing_bring ["self","cell","term"] (a2m K t.k_Writing (n + 1)):=by
 refine T.F_Writing_bring.ok (k:=n + 2) a5l (fun vs H Q E h=>?_) (fun cdv A outer s H vs Q E hr h=>?_)
 ·unfold a2m at h
  split at h
  ·rfl
  ·exact h.elim
 unfold a2m at h
 split at h
 rotate_left
 ·exact h.elim
 refine ⟨_,(a0g (a1b (a0q a1h (a0l (a0h K rfl) (mv 2) a0b (fun _ _=>rfl)) a0i (a0o _)) (a0g (a1e (a1q (mv 0) T.cl_Writing T.me_Writing_write G_Writing_write (hr.mono (by walk_at "rm1")) T.b_Writing_write .nil a0s (a0a (a0z (a0a a0i (a0a (mv 1) (a0a (a0l (a0h K rfl) (mv 2) a0b (fun _ _=>rfl)) a0c)))) a0c)))) (a0g (a1b (a0q a1h (a0l (a0h K rfl) (mv 2) a0b (fun _ _=>rfl)) a0i (a0o _)) (a0g (a1e (a1q (mv 0) T.cl_Writing T.me_Writing_write G_Writing_write (hr.mono (by walk_at "rm1")) T.b_Writing_write .nil a0s (a0a (a0z (a0a a0i (a0a (mv 1) (a0a (a8p (a3t hr) (a4g (mv 0) rfl) (a0l (a0h K rfl) (mv 2) a0b (fun _ _=>rfl)) (fun _ _=>rfl)) a0c)))) a0c)))) (a0e (a0r (i:=3) (hs:=a1x) a5l.nd rfl (by walk_at "or1") (a1q (mv 0) T.cl_Writing T.me_Writing_give_cells G_Writing_give_cells (hr.mono (by walk_at "rm1")) T.b_Writing_give_cells .nil a0s (a0a (a0t (a1r K rfl) rfl T.n_len PySem.boot_len (a0a (a0l (a0h K rfl) (mv 2) a0b (fun _ _=>rfl)) a0c)) a0c))) (a0e (a3n PassesOwn.never rfl (b0t K rfl rfl T.n_enumerate (a0a (a0l (a0h K rfl) (mv 2) a0b (fun _ _=>rfl)) a0c)) (b3x K rfl rfl (a6a (a2d (i:=4) a5l.nd rfl (by walk_at "or1")) (a6a (a2d (i:=5) a5l.nd rfl (by walk_at "or1")) b3q))) (a0g (a1e (a1q (mv 0) T.cl_Writing T.me_Writing_bring G_Writing_bring (hr.mono (by walk_at "rm1")) T.b_Writing_bring .nil a0s (a0a (a0m (a1d K rfl) (mv 3) (mv 4)) (a0a (mv 5) a0c)))))) (a0g (a1e (a1q (mv 0) T.cl_Writing T.me_Writing_write G_Writing_write (hr.mono (by walk_at "rm1")) T.b_Writing_write .nil a0s (a0a (a0z (a0a a0i (a0a (mv 1) (a0a (a0l (a0h K rfl) (mv 2) a0b (fun _ _=>rfl)) (a0a (a0t (a1r K rfl) rfl T.n_len PySem.boot_len (a0a (a0l (a0h K rfl) (mv 2) a0b (fun _ _=>rfl)) a0c)) (a0a (mv 3) a0c)))))) a0c)))))))))),?_⟩
 rename_i x i v
 obtain ⟨dx,ps,pm,pr,u,met,c,rs,t0,cell,w,ei,hd,hv,hz,hn,hrs,q⟩:=h
 have tp:=t0.size_pos
 subst ei
 walk_at "stp"
 cases t0 with
 | num m=>
  obtain ⟨a,rfl,hs⟩:=a8v hd
  refine a0k hs (v:=.str numS) rfl ?_
  walk_at "stp"
  refine iteB (fun e=>?_) (fun e=>absurd e (by decide +kernel))
  walk_at "stp"
  refine ⟨x,dx,_,rfl,w.o,a2h,?_⟩
  walk_at "stp"
  refine a0k hs (v:=.int m) rfl ?_
  walk_at "stp"
  refine ⟨ln (by show 3<=100000; decide),fun p1 hp1=>?_⟩
  have sp1:=a0f hp1 (.tup [.str (Str.ofString "putnum"),.int cell,.int m])
  have kp1:(upd H p1 (.tup [.str (Str.ofString "putnum"),.int cell,.int m])) p1 = some (.tup [.str (Str.ofString "putnum"),.int cell,.int m]):=a0d
  generalize upd H p1 (.tup [.str (Str.ofString "putnum"),.int cell,.int m]) = Hp1 at sp1 kp1 ⊢
  walk_at "stp"
  have ap1:=w.same sp1
  refine ⟨dx,ps,pm,pr,_,_,ap1.o,ap1.r,by first | omega | (simp only [List.length_append,List.length_cons,List.length_nil] at *; omega),?_⟩
  obtain ⟨w2,fw2⟩:=ap1.row (.ref p1)
  have fw2:=(WFr.of (x:=x) (pm:=pm) (pr:=pr) sp1).trans fw2
  have tp1:=(ap1.tup (show WFr x pm pr Hp1 _ from (ap1.row (.ref p1)).2)) _ _ (SqT.of kp1)
  generalize upd Hp1 pr (.lst (_ ++ [.ref p1])) = H2 at w2 fw2 tp1 ⊢
  exact q _ [.ref p1] fw2 w2 (by rw [br]; exact .cons (den_pn tp1) .nil)
 | any y=>
  obtain ⟨a,rfl,hs⟩:=a8w hd
  have hy:y ∈ u:=hv y (by simp [vars])
  refine a0k hs (v:=.str anyS) rfl ?_
  walk_at "stp"
  refine iteB (fun e=>absurd e (by decide +kernel)) (fun e=>?_)
  walk_at "stp"
  refine a0k hs (v:=.str anyS) rfl ?_
  walk_at "stp"
  refine iteB (fun e=>?_) (fun e=>absurd e (by decide +kernel))
  walk_at "stp"
  refine ⟨x,dx,_,rfl,w.o,a2h,?_⟩
  walk_at "stp"
  refine ⟨x,_,dx,_,_,rfl,w.o,T.cl_Writing,T.no_Writing_slots,a5m _ _ _ _,?_⟩
  have dj:DGet H ps (.str y) (valV (encJ 0 u) (Sum.inr y)):=DGet.k (k:=Sum.inr y) w.s
  rw [valJ 0 hy,Nat.zero_add] at dj
  walk_at "stp"
  refine a0k hs (v:=.str y) rfl ?_
  walk_at "stp"
  refine ⟨ps,_,rfl,dj,?_⟩
  walk_at "stp"
  refine ⟨ln (by show 3<=100000; decide),fun p1 hp1=>?_⟩
  have sp1:=a0f hp1 (.tup [.str (Str.ofString "put"),.int cell,.int (ix u y)])
  have kp1:(upd H p1 (.tup [.str (Str.ofString "put"),.int cell,.int (ix u y)])) p1 = some (.tup [.str (Str.ofString "put"),.int cell,.int (ix u y)]):=a0d
  generalize upd H p1 (.tup [.str (Str.ofString "put"),.int cell,.int (ix u y)]) = Hp1 at sp1 kp1 ⊢
  walk_at "stp"
  have ap1:=w.same sp1
  refine ⟨dx,ps,pm,pr,_,_,ap1.o,ap1.r,by first | omega | (simp only [List.length_append,List.length_cons,List.length_nil] at *; omega),?_⟩
  obtain ⟨w2,fw2⟩:=ap1.row (.ref p1)
  have fw2:=(WFr.of (x:=x) (pm:=pm) (pr:=pr) sp1).trans fw2
  have tp1:=(ap1.tup (show WFr x pm pr Hp1 _ from (ap1.row (.ref p1)).2)) _ _ (SqT.of kp1)
  generalize upd Hp1 pr (.lst (_ ++ [.ref p1])) = H2 at w2 fw2 tp1 ⊢
  exact q _ [.ref p1] fw2 w2 (by rw [br]; exact .cons (den_pt tp1) .nil)
 | app sg ks=>
  obtain ⟨a,b,us,rfl,hs,hb,hk⟩:=a4z hd
  have hkl:=a1y hk
  have zl:=Trm.len_le ks
  simp only [Trm.size] at hz hrs q
  have hvk:∀ y ∈ a1f ks,y ∈ u:=by simpa only [vars] using hv
  refine a0k hs (v:=.str appS) rfl ?_
  walk_at "stp"
  refine iteB (fun e=>absurd e (by decide +kernel)) (fun e=>?_)
  walk_at "stp"
  refine a0k hs (v:=.str appS) rfl ?_
  walk_at "stp"
  refine iteB (fun e=>absurd e (by decide +kernel)) (fun e=>?_)
  walk_at "stp"
  refine ⟨x,dx,_,rfl,w.o,a2h,?_⟩
  walk_at "stp"
  refine a0k hs (v:=.ref b) rfl ?_
  walk_at "stp"
  refine a4y hb ?_
  walk_at "stp"
  refine ⟨dx,ps,pm,pr,_,_,_,_,w,?_⟩
  rw [show (c:Int) + (us.length:Int) = ((c + us.length:Nat):Int) by omega]
  obtain ⟨w1,f1⟩:=w.cel (c + us.length)
  generalize upd H x (.ins t.k_Writing dx (fsW ps pm ((c + us.length:Nat):Int) pr)) = H1 at w1 f1 ⊢
  have hs1:=w.tup f1 _ _ hs
  have hb1:=w.tup f1 _ _ hb
  have hk1:=hk.monoT (w.tup f1)
  walk_at "stp"
  refine a0k hs1 (v:=.ref b) rfl ?_
  walk_at "stp"
  refine ⟨b,us,rfl,hb1,?_⟩
  refine b0u (fun j σ' J=>∃ (o4 o5:Option V) (ns:List V),σ' = [some (.ref x),some (.int cell),some (.ref a),some (.int c),o4,o5]/\WFr x pm pr H1 J/\WS K t.k_Writing J x dx ps pm pr u met (c + us.length + (Trm.sizeL (ks.take j) - j)) (rs ++ ns)/\DenL K J ns ((brL (ks.take j) c (c + us.length)).map (Br.data (ix u)))/\ns.length = Trm.sizeL (ks.take j)) ⟨none,none,[],rfl,WFr.refl _ _ _ _,by rw [List.append_nil]; exact w1,b6k _ _ _ _,rfl⟩ (fun j σ' J hP=>by obtain ⟨_,_,_,_,h,_⟩:=hP; exact w1.tup h _ _ hb1) (fun j σ' J T' hi hP hT=>?_) (fun σ' J hP=>?_)
  ·obtain ⟨o4,o5,ns,rfl,g1,g2,g3,g4⟩:=hP
   have hki:j < ks.length:=by omega
   have z4:=Trm.len_le (ks.take j)
   rw [a6p (by omega)] at z4
   obtain ⟨hui,dk⟩:=b0b hk1 hki
   have z1:=b0m (List.getElem?_eq_getElem hki)
   have z2:=a9v ks (j + 1)
   rw [a4a hki] at z2
   have z3:=ks[j].size_pos
   refine b6e (SqT.of a0d) rfl ?_
   rw [getD_at hui]
   have sT:=a0f hT (.tup [.int j,us[j]])
   generalize upd J T' (.tup [.int j,us[j]]) = J1 at sT ⊢
   have g2':=g2.same sT
   have f1':=g1.trans (WFr.of (x:=x) (pm:=pm) (pr:=pr) sT)
   walk_at "stp"
   refine ⟨x,dx,_,rfl,g2'.o,a2h,?_⟩
   walk_at "stp"
   refine ⟨dx,ps,pm,pr,u,_,_,_,ks[j],c + j,g2',by omega,(dk.monoT (w1.tup f1')),fun y hy=>hvk y (b1s hki y hy),by omega,by omega,by rw [List.length_append]; omega,fun J2 ns2 f2 w3 d3=>?_⟩
   have l3:=d3.length
   rw [List.length_map,c0p] at l3
   refine ⟨_,_,ns ++ ns2,rfl,f1'.trans f2,?_,?_,?_⟩
   ·rw [<- List.append_assoc,a4a hki]
    rw [show c + us.length + (Trm.sizeL (ks.take j) + ks[j].size - (j + 1)) = c + us.length + (Trm.sizeL (ks.take j) - j) + (ks[j].size - 1) by omega]
    exact w3
   ·rw [take_succ' hki,b4w,List.map_append,a6p (by omega)]
    exact ((g3.mono sT).monoT (g2'.tup f2)).append d3
   ·rw [List.length_append,a4a hki,l3]
    omega
  obtain ⟨o4,o5,ns,rfl,g1,g2,g3,g4⟩:=hP
  rw [List.take_of_length_le (by omega)] at g2 g3 g4
  have hs2:=w1.tup g1 _ _ hs1
  have hb2:=w1.tup g1 _ _ hb1
  walk_at "stp"
  refine ⟨x,dx,_,rfl,g2.o,a2h,?_⟩
  walk_at "stp"
  refine a0k hs2 (v:=.str sg) rfl ?_
  walk_at "stp"
  refine a0k hs2 (v:=.ref b) rfl ?_
  walk_at "stp"
  refine a4y hb2 ?_
  walk_at "stp"
  refine ⟨ln (by show 5<=100000; decide),fun p1 hp1=>?_⟩
  have sp1:=a0f hp1 (.tup [.str (Str.ofString "build"),.int cell,.str sg,.int us.length,.int c])
  have kp1:(upd J p1 (.tup [.str (Str.ofString "build"),.int cell,.str sg,.int us.length,.int c])) p1 = some (.tup [.str (Str.ofString "build"),.int cell,.str sg,.int us.length,.int c]):=a0d
  generalize upd J p1 (.tup [.str (Str.ofString "build"),.int cell,.str sg,.int us.length,.int c]) = Jp1 at sp1 kp1 ⊢
  walk_at "stp"
  have ap1:=g2.same sp1
  refine ⟨dx,ps,pm,pr,_,_,ap1.o,ap1.r,by first | omega | (simp only [List.length_append,List.length_cons,List.length_nil] at *; omega),?_⟩
  obtain ⟨w2,fw2⟩:=ap1.row (.ref p1)
  have fw2:=(WFr.of (x:=x) (pm:=pm) (pr:=pr) sp1).trans fw2
  have tp1:=(ap1.tup (show WFr x pm pr Jp1 _ from (ap1.row (.ref p1)).2)) _ _ (SqT.of kp1)
  generalize upd Jp1 pr (.lst (_ ++ [.ref p1])) = H2 at w2 fw2 tp1 ⊢
  refine q _ (ns ++ [.ref p1]) (f1.trans (g1.trans fw2)) ?_ ?_
  ·rw [<- List.append_assoc]
   rw [show c + (1 + Trm.sizeL ks - 1) = c + us.length + (Trm.sizeL ks - us.length) by omega]
   exact w2
  ·rw [br,List.map_append,<- hkl]
   exact ((g3.monoT (g2.tup fw2)).append (.cons (den_bd hkl tp1) .nil))
theorem b5d (T:Txt K mg t) (G_Writing_write:FnOk P w K mg base CX0 1 t.a_Writing_write t.d_Writing_write ["self","row"] (a1m K t.k_Writing)) (G_Writing_give_cells:FnOk P w K mg base CX0 1 t.a_Writing_give_cells t.d_Writing_give_cells ["self","many"] (a1n K t.k_Writing)) (n:Nat):FnOk P w K mg base CX0 (n + 2) t.a_Writing_bring t.d_Writing_bring ["self","cell","term"] (a2m K t.k_Writing n):=by
 induction n with
 | zero=>
  have no:∀ vs H Q E,(a2m K t.k_Writing 0) vs H Q E->False:=fun vs H Q E h=>by
   unfold a2m at h
   split at h
   ·exact b4z h
   ·exact h
  exact ⟨fun vs H Q E h=>(no vs H Q E h).elim,fun A outer s H args us vs Q E _ _ _ _ h=>(no vs H Q E h).elim⟩
 | succ n ih=>
  have e:n + 1 + 2 = n + 2 + 1:=by omega
  rw [e]
  exact b5c T G_Writing_write G_Writing_give_cells n ih
end
section
variable {P:Program} {w:World} {K:W.Frag} {mg:Str->Option Value} {base:Heap} {t:Ad}
theorem c2n:∀ (u:List Str) (k i:Nat) (hi:i < u.length),(encJ k u)[i]? = some (Sum.inr u[i],V.int ((k + i:Nat):Int))
 | x :: u,k,0,_=>rfl
 | x :: u,k,i + 1,hi=>by
  have:=c2n u (k + 1) i (by simpa using hi)
  rw [show k + 1 + i = k + (i + 1) by omega] at this
  exact this
 | [],_,_,hi=>by simp at hi
theorem c9h {K:W.Frag} {H:Hp} {p:Addr} {o:Obj} {kv:List (Key × V)} (h:H p = some (.frz o (.dK kv))):∀ a xs,SqT K H a xs->SqT K (upd H p (.dK kv)) a xs:=fun a xs g=>by
 have n1:∀ {o':HO},H a = some o'->(∀ o kv,o' ≠ .frz o (.dK kv))->(upd H p (.dK kv)) a = some o':=fun e h1=>by
  rw [a0n (fun z=>by rw [z,h] at e; exact h1 _ _ (Option.some.inj e).symm)]
  exact e
 rcases g with (g | ⟨o',g⟩) | g
 ·exact .inl (.inl (n1 g (fun _ _ z=>by cases z)))
 ·exact .inl (.inr ⟨o',n1 g (fun _ _ z=>by cases z)⟩)
 ·exact .inr g
theorem den_new {K:W.Frag} {H:Hp} {p:Addr} {s:Nat} (h:SqT K H p [.str newS,.int s]):Den K H (.ref p) (newD s):=.tup h (.cons (.str _) (.cons (.int _) .nil))
noncomputable def a9w (u met:List Str) (i:Nat):List PyData:=((u.take i).filter fun x=>decide (x ∉ met)).map fun x=>newD (ix u x)
theorem c6q {u met:List Str}:a9w u met u.length = a7d u met:=by rw [a9w,List.take_length]; rfl
theorem c9i {u met:List Str} {i:Nat} (hi:i < u.length) (h:u[i] ∈ met):a9w u met (i + 1) = a9w u met i:=by
 unfold a9w
 rw [List.take_succ,List.getElem?_eq_getElem hi,Option.toList_some,List.filter_append,List.filter_cons,if_neg (by simp [h]),List.filter_nil,List.append_nil]
theorem c6r {u met:List Str} {i:Nat} (hi:i < u.length) (h:u[i] ∉ met):a9w u met (i + 1) = a9w u met i ++ [newD (ix u u[i])]:=by
 unfold a9w
 rw [List.take_succ,List.getElem?_eq_getElem hi,Option.toList_some,List.filter_append,List.filter_cons,if_pos (by simp [h]),List.filter_nil,List.map_append]
 rfl
theorem b1h (T:Txt K mg t) (G_Writing_write:FnOk P w K mg base CX0 1 t.a_Writing_write t.d_Writing_write ["self","row"] (a1m K t.k_Writing)):FnOk P w K mg base CX0 2 t.a_Writing_write_frame t.d_Writing_write_frame ["self"] (a2r K t.k_Writing):=by
 refine T.F_Writing_write_frame.ok a7a (fun vs H Q E h=>?_) (fun cdv A outer s H vs Q E hr h=>?_)
 ·unfold a2r at h
  split at h
  ·rfl
  ·exact h.elim
 unfold a2r at h
 split at h
 rotate_left
 ·exact h.elim
 refine ⟨_,(a0e (a1e (a1q (mv 0) T.cl_Writing T.me_Writing_write G_Writing_write (hr.mono (by walk_at "rm1")) T.b_Writing_write .nil a0s (a0a (a0z (a0a a0i a0c)) a0c))) (a0g (ps_thaw (a3n PassesOwn.never rfl (pi_dict (a4g (mv 0) rfl)) (a2d (i:=1) a7a.nd rfl (by walk_at "or1")) (a0g (a1b (a0q (b6y (a3t hr)) (mv 1) (a4g (mv 0) rfl) (by with_unfolding_all rfl)) (a0g (a1e (a1q (mv 0) T.cl_Writing T.me_Writing_write G_Writing_write (hr.mono (by walk_at "rm1")) T.b_Writing_write .nil a0s (a0a (a0z (a0a a0i (a0a (a8p (a3t hr) (a4g (mv 0) rfl) (mv 1) (fun _ _=>rfl)) a0c))) a0c)))) a0x)))))),?_⟩
 rename_i x
 obtain ⟨dx,ps,pm,pr,u,met,c,rs,w,hrs,hul,hnd,q⟩:=h
 walk_at "stp"
 refine ⟨x,dx,_,rfl,w.o,a2h,?_⟩
 walk_at "stp"
 refine ⟨ln (by show 1<=100000; decide),fun p1 hp1=>?_⟩
 have sp1:=a0f hp1 (.tup [.str (Str.ofString "frame")])
 have kp1:(upd H p1 (.tup [.str (Str.ofString "frame")])) p1 = some (.tup [.str (Str.ofString "frame")]):=a0d
 generalize upd H p1 (.tup [.str (Str.ofString "frame")]) = Hp1 at sp1 kp1 ⊢
 walk_at "stp"
 have ap1:=w.same sp1
 refine ⟨dx,ps,pm,pr,_,_,ap1.o,ap1.r,by first | omega | (simp only [List.length_append,List.length_cons,List.length_nil] at *; omega),?_⟩
 obtain ⟨w2,fw2⟩:=ap1.row (.ref p1)
 have fw2:=(WFr.of (x:=x) (pm:=pm) (pr:=pr) sp1).trans fw2
 have tp1:=(ap1.tup (show WFr x pm pr Hp1 _ from (ap1.row (.ref p1)).2)) _ _ (SqT.of kp1)
 generalize upd Hp1 pr (.lst (_ ++ [.ref p1])) = H2 at w2 fw2 tp1 ⊢
 obtain ⟨e1,e2,e3,e4,e5⟩:=w2.ne1
 walk_at "stp"
 refine ⟨x,_,dx,_,_,rfl,w2.o,T.cl_Writing,T.no_Writing_slots,a5m _ _ _ _,?_⟩
 generalize NFz _ = NF
 refine ⟨ps,_,rfl,w2.s,fun o nf=>?_⟩
 have b1:But ps H2 (upd H2 ps (.frz o (.dK (encJ 0 u)))):=a3d
 have f1:(upd H2 ps (.frz o (.dK (encJ 0 u)))) ps = some (.frz o (.dK (encJ 0 u))):=a0d
 generalize upd H2 ps (.frz o (.dK (encJ 0 u))) = F at b1 f1 ⊢
 have xF:=b1 _ _ e3.symm w2.o
 have mF:=b1 _ _ w2.ne.symm w2.m
 have rF:=b1 _ _ e5.symm w2.r
 refine a4f c8t (fun i σ' J=>∃ (o':Option V) (ns:List V),σ' = [some (.ref x),o']/\J pr = some (.lst ((rs ++ [.ref p1]) ++ ns))/\ns.length<=i/\(∀ b o',b ≠ pr->F b = some o'->J b = some o')/\DenL K J ns (a9w u met i)) ⟨none,[],rfl,by rw [List.append_nil]; exact rF,Nat.le_refl _,fun b o' _ e=>e,.nil⟩ (fun i σ' J hP=>by obtain ⟨_,_,_,_,_,h,_⟩:=hP; exact h _ _ e5 f1) (fun i σ' J hi hP=>?_) (fun σ' J hP=>?_)
 ·obtain ⟨o',ns,rfl,g1,g2,g3,g4⟩:=hP
  rw [a2s] at hi
  rw [c2n u 0 i hi]
  have xJ:=g3 _ _ e2.symm xF
  have mJ:=g3 _ _ e4 mF
  have sJ:=g3 _ _ e5 f1
  have dg:DGet J pm (.str u[i]) (valV (encB met) (Sum.inr u[i])):=DGet.k (k:=Sum.inr u[i]) mJ
  have dj:DGet J ps (.str u[i]) (valV (encJ 0 u) (Sum.inr u[i])):=.inl ⟨_,Sum.inr u[i],.inr ⟨o,sJ⟩,rfl,rfl⟩
  rw [valJ 0 (List.getElem_mem hi),Nat.zero_add] at dj
  rw [valB] at dg
  walk_at "stp"
  refine ⟨x,_,dx,_,_,rfl,xJ,T.cl_Writing,T.no_Writing_met,b6h _ _ _ _,?_⟩
  refine ⟨pm,_,rfl,dg,?_⟩
  walk_at "stp"
  refine iteB (fun e=>?_) (fun e=>?_)
  rotate_left
  ·have hm:u[i] ∈ met:=by
    by_cases z:u[i] ∈ met
    ·exact z
    ·rw [if_neg z] at e; simp at e
   walk_at "stp"
   exact ⟨_,ns,rfl,g1,by omega,g3,by rw [c9i hi hm]; exact g4⟩
  have hm:u[i] ∉ met:=fun z=>by rw [if_pos z] at e; simp at e
  walk_at "stp"
  refine ⟨x,dx,_,rfl,xJ,a2h,?_⟩
  walk_at "stp"
  refine ⟨x,_,dx,_,_,rfl,xJ,T.cl_Writing,T.no_Writing_slots,a5m _ _ _ _,?_⟩
  walk_at "stp"
  refine ⟨ps,_,rfl,dj,?_⟩
  walk_at "stp"
  refine ⟨ln (by show 2<=100000; decide),fun p2 hp2=>?_⟩
  have s2:=a0f hp2 (.tup [.str newS,.int (ix u u[i]:Int)])
  have k2:(upd J p2 (.tup [.str newS,.int (ix u u[i]:Int)])) p2 = some (.tup [.str newS,.int (ix u u[i]:Int)]):=a0d
  generalize hJ1:upd J p2 (.tup [.str newS,.int (ix u u[i]:Int)]) = J1 at s2 k2
  rw [show upd J p2 (.tup [.str (Str.ofString "new"),.int (ix u u[i]:Int)]) = J1 from hJ1]
  walk_at "stp"
  refine ⟨dx,ps,pm,pr,_,_,s2 _ _ xJ,s2 _ _ g1,by simp only [List.length_append,List.length_cons,List.length_nil]; omega,?_⟩
  refine ⟨_,ns ++ [.ref p2],rfl,by rw [<- List.append_assoc]; exact a0d,by rw [List.length_append,List.length_singleton]; omega,fun b o2 hb e=>by rw [a0n hb]; exact s2 _ _ (g3 _ _ hb e),?_⟩
  rw [c6r hi hm]
  exact ((g4.mono s2).append (.cons (den_new (SqT.of k2)) .nil)).lst (s2 _ _ g1)
 obtain ⟨o',ns,rfl,g1,g2,g3,g4⟩:=hP
 have jZ:=g3 _ _ e5 f1
 refine ⟨ps,o,_,nf,jZ,?_⟩
 rw [a2s] at g2 g4
 rw [c6q] at g4
 have fZ:WFr x pm pr H2 (upd J ps (.dK (encJ 0 u))):=fun b o2 h1 h2 h3 e=>by
  by_cases hb:b = ps
  ·rw [hb,w2.s] at e
   rw [hb,<- e]
   exact a0d
  ·rw [a0n hb]
   exact g3 _ _ h3 (b1 _ _ hb e)
 have wZ:WS K t.k_Writing (upd J ps (.dK (encJ 0 u))) x dx ps pm pr u met c (rs ++ .ref p1 :: ns):=⟨by rw [a0n e3.symm]; exact g3 _ _ e2.symm xF,a0d,by rw [a0n w2.ne.symm]; exact g3 _ _ e4 mF,by rw [a0n e5.symm,g1,List.append_assoc]; rfl,w2.ne⟩
 exact q _ (.ref p1 :: ns) (fw2.trans fZ) wZ (.cons (b9b (w2.tup fZ _ _ tp1)) (g4.monoT (c9h jZ)))
end
section
variable {P:Program} {w:World} {K:W.Frag} {mg:Str->Option Value} {base:Heap} {t:Ad}
noncomputable def Go.sgn:Go->Str
 | .keep=>a2p
 | .mark m _ _=>m.sign
 | .neg _ _=>notS
 | .nm w _=>w
noncomputable def Go.top:Go->List Trm
 | .keep=>[]
 | .mark _ a b=>[a,b]
 | .neg w ks=>[.app w ks]
 | .nm _ ks=>ks
theorem Go.trm_eq (g:Go):g.trm = .app g.sgn g.top:=by cases g <;> rfl
theorem Mk.sign_len (m:Mk):m.sign.length<=2:=by cases m <;> decide +kernel
theorem Mk.no_call (m:Mk):called m.sign a2f = false:=by cases m <;> decide +kernel
theorem Mk.no_keep (m:Mk):m.sign ≠ a2p/\m.sign ≠ notS:=by cases m <;> decide +kernel
theorem c0t (g:Go) (h:g.ok):named (.app g.sgn g.top) = g.named:=by
 cases g with
 | keep=>
  show (called a2p a2f && !decide (a2p ∈ [a2p,notS])) = false
  rw [decide_eq_true (by simp),Bool.not_true,Bool.and_false]
 | mark m a b=>
  show (called m.sign a2f && !decide (m.sign ∈ [a2p,notS])) = false
  rw [m.no_call]; rfl
 | neg w ks=>
  show (called notS a2f && !decide (notS ∈ [a2p,notS])) = false
  rw [decide_eq_true (by simp),Bool.not_true,Bool.and_false]
 | nm w ks=>
  obtain ⟨h1,h2,h3,h4⟩:=h
  show (called w a2f && !decide (w ∈ [a2p,notS])) = true
  rw [h1,decide_eq_false (by simp [h2,h3])]
  rfl
theorem c2o (g:Go) (h:g.ok):g.sgn.length<=1000:=by
 cases g with
 | keep=>show a2p.length<=1000; decide +kernel
 | mark m a b=>have:=m.sign_len; show m.sign.length<=1000; omega
 | neg w ks=>show notS.length<=1000; decide +kernel
 | nm w ks=>have:=h.2.2.2; show w.length<=1000; omega
theorem c2p (g:Go) (h:g.ok):g.sgn = notS ↔ ∃ w ks,g = .neg w ks:=by
 cases g with
 | keep=>exact ⟨fun z=>absurd z (by decide +kernel),fun ⟨_,_,z⟩=>by cases z⟩
 | mark m a b=>exact ⟨fun z=>absurd z m.no_keep.2,fun ⟨_,_,z⟩=>by cases z⟩
 | neg w ks=>exact ⟨fun _=>⟨_,_,rfl⟩,fun _=>rfl⟩
 | nm w ks=>exact ⟨fun z=>absurd z h.2.2.1,fun ⟨_,_,z⟩=>by cases z⟩
theorem b1w (T:Txt K mg t) (D:KD P w K t.c_MARK_ROWS (a8h t)) (G_is_named:FnOk P w K mg base CX0 4 t.a_is_named t.d_is_named ["term"] (a7b K)) (G_Writing_bring:FnOk P w K mg base CX0 62 t.a_Writing_bring t.d_Writing_bring ["self","cell","term"] (a2m K t.k_Writing 60)) (G_Writing_write:FnOk P w K mg base CX0 1 t.a_Writing_write t.d_Writing_write ["self","row"] (a1m K t.k_Writing)):FnOk P w K mg base CX0 63 t.a_Writing_write_goal t.d_Writing_write_goal ["self","goal","call"] (a2u K t.k_Writing):=by
 refine T.F_Writing_write_goal.ok a3v (fun vs H Q E h=>?_) (fun cdv A outer s H vs Q E hr h=>?_)
 ·unfold a2u at h
  split at h
  ·rfl
  ·exact h.elim
 unfold a2u at h
 split at h
 rotate_left
 ·exact h.elim
 refine ⟨_,(a0e (a0r (i:=3) a3v.nd rfl (by walk_at "or1") (b9e (a0q a1h (a0l (a0h K rfl) (mv 1) a0b (fun _ _=>rfl)) (a6r rfl T.m_NOT) (a0o _)) (a0l (a0h K rfl) (a0l (a0h K rfl) (mv 1) a0b (fun _ _=>rfl)) a0b (fun _ _=>rfl)) (mv 1))) (a0e (b2y (mv 0) (a0t (a1r K rfl) rfl T.n_len PySem.boot_len (a0a (a0l (a0h K rfl) (mv 3) a0b (fun _ _=>rfl)) a0c)) rfl) (a0e (a3n PassesOwn.never rfl (b0t K rfl rfl T.n_enumerate (a0a (a0l (a0h K rfl) (mv 3) a0b (fun _ _=>rfl)) a0c)) (b3x K rfl rfl (a6a (a2d (i:=4) a3v.nd rfl (by walk_at "or1")) (a6a (a2d (i:=5) a3v.nd rfl (by walk_at "or1")) b3q))) (a0g (a1e (a1q (mv 0) T.cl_Writing T.me_Writing_bring G_Writing_bring (hr.mono (by walk_at "rm1")) T.b_Writing_bring .nil a0s (a0a (mv 4) (a0a (mv 5) a0c)))))) (a0g (a1b (a2j K rfl (a0u G_is_named (hr.mono (by walk_at "rm1")) rfl T.m_is_named T.F_is_named.kp T.b_is_named .nil a0s (a0a (mv 1) a0c))) (a0g (a1e (a1q (mv 0) T.cl_Writing T.me_Writing_write G_Writing_write (hr.mono (by walk_at "rm1")) T.b_Writing_write .nil a0s (a0a (a0z (a0a (mv 2) (a0a (a0l (a0h K rfl) (mv 1) a0b (fun _ _=>rfl)) (a0a (a0t (a1r K rfl) rfl T.n_len PySem.boot_len (a0a (a0l (a0h K rfl) (mv 1) a0b (fun _ _=>rfl)) a0c)) a0c)))) a0c)))) (a0g (a1b (a0q a1h (a0l (a0h K rfl) (mv 1) a0b (fun _ _=>rfl)) (a6r rfl T.m_NOT) (a0o _)) (a0g (a1e (a1q (mv 0) T.cl_Writing T.me_Writing_write G_Writing_write (hr.mono (by walk_at "rm1")) T.b_Writing_write .nil a0s (a0a (a0z (a0a a0i (a0a (a0l (a0h K rfl) (mv 3) a0b (fun _ _=>rfl)) (a0a (a0t (a1r K rfl) rfl T.n_len PySem.boot_len (a0a (a0l (a0h K rfl) (mv 3) a0b (fun _ _=>rfl)) a0c)) a0c)))) a0c)))) (a0g (a1b (a0q a1h (a0l (a0h K rfl) (mv 1) a0b (fun _ _=>rfl)) (a6r rfl T.m_KEEP) (a0o _)) (a0g (a1e (a1q (mv 0) T.cl_Writing T.me_Writing_write G_Writing_write (hr.mono (by walk_at "rm1")) T.b_Writing_write .nil a0s (a0a (a0z (a0a a0i a0c)) a0c)))) (a0g (a1e (a1q (mv 0) T.cl_Writing T.me_Writing_write G_Writing_write (hr.mono (by walk_at "rm1")) T.b_Writing_write .nil a0s (a0a (a0z (a0a (pe_getK D rfl T.m_MARK_ROWS (a0l (a0h K rfl) (mv 1) a0b (fun _ _=>rfl)) (fun _ _=>rfl)) a0c)) a0c))))))))))))),?_⟩
 rename_i x v call
 obtain ⟨dx,ps,pm,pr,u,met,c,rs,go,w,hd,hok,hvk,hz,hrs,q⟩:=h
 rw [Go.trm_eq] at hd
 obtain ⟨a,b,us0,rfl,hs,hb,hk0⟩:=a4z hd
 have zl:=Trm.len_le go.kids
 (with_reducible refine a7i (fun σ' H'=>∃ (a2 b2:Addr) (s2:Str) (us:List V),σ' = [some (.ref x),some (.ref a),some (.str call),some (.ref a2),none,none]/\H' = H/\SqT K H a2 [.str appS,.str s2,.ref b2]/\SqT K H b2 us/\DenL K H us (Trm.dataL go.kids)/\(∀ wd ks,go = .neg wd ks->s2 = wd)) (fun σ' H' hP=>?_) (fun kk=>?_))
 rotate_left
 ·walk_at "stm"
  refine a0k hs (v:=.str go.sgn) rfl ?_
  walk_at "stm"
  refine iteB (fun e=>?_) (fun e=>?_)
  ·have e':=of_decide_eq_true (by simpa using e)
   obtain ⟨wd,ks,rfl⟩:=(c2p go hok).mp e'
   cases hk0 with
   | cons h1 h2=>
   cases h2
   obtain ⟨a2,b2,us,rfl,k1,k2,k3⟩:=a4z h1
   walk_at "stm"
   refine a0k hs (v:=.ref b) rfl ?_
   walk_at "stm"
   refine a0k hb (v:=.ref a2) rfl ?_
   walk_at "stm"
   exact kk _ _ ⟨a2,b2,wd,us,rfl,rfl,k1,k2,k3,fun _ _ z=>by cases z; rfl⟩
  ·have e':=of_decide_eq_false (by simpa using e)
   have nn:∀ wd ks,go ≠ .neg wd ks:=fun wd ks z=>e' ((c2p go hok).mpr ⟨wd,ks,z⟩)
   walk_at "stm"
   refine kk _ _ ⟨a,b,_,us0,rfl,rfl,hs,hb,?_,fun wd ks z=>absurd z (nn wd ks)⟩
   cases go with
   | neg wd ks=>exact absurd rfl (nn wd ks)
   | keep=>exact hk0
   | mark m y z=>exact hk0
   | nm y z=>exact hk0
 obtain ⟨a2,b2,s2',us,rfl,rfl,hs2,hb2,hk,hneg⟩:=hP
 have hkl:=a1y hk
 walk_at "stp"
 refine a0k hs2 (v:=.ref b2) rfl ?_
 walk_at "stp"
 refine a4y hb2 ?_
 walk_at "stp"
 refine ⟨x,_,dx,_,rfl,w.o,T.cl_Writing,T.no_Writing_cells,by simp [fsW],?_⟩
 rw [b7u]
 obtain ⟨w1,f1⟩:=w.cel us.length
 generalize upd H' x (.ins t.k_Writing dx (fsW ps pm ((us.length:Nat):Int) pr)) = H1 at w1 f1 ⊢
 have hs1:=w.tup f1 _ _ hs2
 have hb1:=w.tup f1 _ _ hb2
 have hk1:=hk.monoT (w.tup f1)
 walk_at "stp"
 refine a0k hs1 (v:=.ref b2) rfl ?_
 walk_at "stp"
 refine ⟨b2,us,rfl,hb1,?_⟩
 generalize hks:go.kids = ks at *
 refine b0u (fun j σ' J=>∃ (o4 o5:Option V) (ns:List V),σ' = [some (.ref x),some (.ref a),some (.str call),some (.ref a2),o4,o5]/\WFr x pm pr H1 J/\WS K t.k_Writing J x dx ps pm pr u met (us.length + (Trm.sizeL (ks.take j) - j)) (rs ++ ns)/\DenL K J ns ((brL (ks.take j) 0 us.length).map (Br.data (ix u)))/\ns.length = Trm.sizeL (ks.take j)) ⟨none,none,[],rfl,WFr.refl _ _ _ _,by rw [List.append_nil]; exact w1,b6k _ _ _ _,rfl⟩ (fun j σ' J hP=>by obtain ⟨_,_,_,_,h,_⟩:=hP; exact w1.tup h _ _ hb1) (fun j σ' J T' hi hP hT=>?_) (fun σ' J hP=>?_)
 ·obtain ⟨o4,o5,ns,rfl,g1,g2,g3,g4⟩:=hP
  have hki:j < ks.length:=by omega
  have z4:=Trm.len_le (ks.take j)
  rw [a6p (by omega)] at z4
  obtain ⟨hui,dk⟩:=b0b hk1 hki
  have z1:=b0m (List.getElem?_eq_getElem hki)
  have z2:=a9v ks (j + 1)
  rw [a4a hki] at z2
  have z3:=ks[j].size_pos
  refine b6e (SqT.of a0d) rfl ?_
  rw [getD_at hui]
  have sT:=a0f hT (.tup [.int j,us[j]])
  generalize upd J T' (.tup [.int j,us[j]]) = J1 at sT ⊢
  have g2':=g2.same sT
  have f1':=g1.trans (WFr.of (x:=x) (pm:=pm) (pr:=pr) sT)
  walk_at "stp"
  refine ⟨x,dx,_,rfl,g2'.o,a2h,?_⟩
  walk_at "stp"
  refine ⟨dx,ps,pm,pr,u,_,_,_,ks[j],j,g2',rfl,(dk.monoT (w1.tup f1')),fun y hy=>hvk y (b1s hki y hy),by omega,by omega,by rw [List.length_append]; omega,fun J2 ns2 f2 w3 d3=>?_⟩
  have l3:=d3.length
  rw [List.length_map,c0p] at l3
  refine ⟨_,_,ns ++ ns2,rfl,f1'.trans f2,?_,?_,?_⟩
  ·rw [<- List.append_assoc,a4a hki]
   rw [show us.length + (Trm.sizeL (ks.take j) + ks[j].size - (j + 1)) = us.length + (Trm.sizeL (ks.take j) - j) + (ks[j].size - 1) by omega]
   exact w3
  ·rw [take_succ' hki,b4w,List.map_append,a6p (by omega),Nat.zero_add]
   exact ((g3.mono sT).monoT (g2'.tup f2)).append d3
  ·rw [List.length_append,a4a hki,l3]
   omega
 obtain ⟨o4,o5,ns,rfl,g1,g2,g3,g4⟩:=hP
 rw [List.take_of_length_le (by omega)] at g2 g3 g4
 rw [hkl] at g3
 subst hks
 have fA:=f1.trans g1
 have dA:Den K J (.ref a) (Trm.app go.sgn go.top).data:=hd.monoT (w.tup fA)
 walk_at "stp"
 refine ⟨.app go.sgn go.top,dA,c2o go hok,fun J2 s2=>?_⟩
 rw [c0t go hok]
 have g2':=g2.same s2
 have ht2:=s2.tup (w.tup fA _ _ hs)
 have hu2:=s2.tup (w.tup fA _ _ hb)
 have hv2:=s2.tup (w1.tup g1 _ _ hs1)
 have hw2:=s2.tup (w1.tup g1 _ _ hb1)
 have hlen:rs.length + ns.length<=900:=by omega
 cases go with
 | nm wd ks=>
  have ek:us0.length = ks.length:=a1y hk0
  walk_at "stp"
  refine iteT ?_
  walk_at "stp"
  refine ⟨x,dx,_,rfl,g2'.o,a2h,?_⟩
  walk_at "stp"
  refine a0k ht2 (v:=.str wd) rfl ?_
  walk_at "stp"
  refine a0k ht2 (v:=.ref b) rfl ?_
  walk_at "stp"
  refine a4y hu2 ?_
  rw [ek]
  walk_at "stp"
  refine ⟨ln (by show 3<=100000; decide),fun p1 hp1=>?_⟩
  have sp1:=a0f hp1 (.tup [.str call,.str wd,.int ks.length])
  have kp1:(upd J2 p1 (.tup [.str call,.str wd,.int ks.length])) p1 = some (.tup [.str call,.str wd,.int ks.length]):=a0d
  generalize upd J2 p1 (.tup [.str call,.str wd,.int ks.length]) = J2p1 at sp1 kp1 ⊢
  walk_at "stp"
  have ap1:=g2'.same sp1
  refine ⟨dx,ps,pm,pr,_,_,ap1.o,ap1.r,by first | omega | (simp only [List.length_append,List.length_cons,List.length_nil] at *; omega),?_⟩
  obtain ⟨w2,fw2⟩:=ap1.row (.ref p1)
  have fw2:=(WFr.of (x:=x) (pm:=pm) (pr:=pr) sp1).trans fw2
  have tp1:=(ap1.tup (show WFr x pm pr J2p1 _ from (ap1.row (.ref p1)).2)) _ _ (SqT.of kp1)
  generalize upd J2p1 pr (.lst (_ ++ [.ref p1])) = H2 at w2 fw2 tp1 ⊢
  refine q _ _ (ns ++ [.ref p1]) (fA.trans ((WFr.of s2).trans fw2)) (by rw [<- List.append_assoc]; exact w2) ?_
  rw [gR]
  exact ((g3.mono s2).monoT (g2'.tup fw2)).append (.cons (.tup tp1 (.cons (.str _) (.cons (.str _) (.cons (.int _) .nil)))) .nil)
 | neg wd ks=>
  have ek:us.length = ks.length:=hkl
  have es:s2' = wd:=hneg _ _ rfl
  subst es
  walk_at "stp"
  refine iteF ?_
  walk_at "stp"
  refine a0k ht2 (v:=.str notS) rfl ?_
  walk_at "stp"
  refine iteB (fun e=>?_) (fun e=>absurd e (by decide +kernel))
  walk_at "stp"
  refine ⟨x,dx,_,rfl,g2'.o,a2h,?_⟩
  walk_at "stp"
  refine a0k hv2 (v:=.str s2') rfl ?_
  walk_at "stp"
  refine a0k hv2 (v:=.ref b2) rfl ?_
  walk_at "stp"
  refine a4y hw2 ?_
  rw [ek]
  walk_at "stp"
  refine ⟨ln (by show 3<=100000; decide),fun p1 hp1=>?_⟩
  have sp1:=a0f hp1 (.tup [.str (Str.ofString "not"),.str s2',.int ks.length])
  have kp1:(upd J2 p1 (.tup [.str (Str.ofString "not"),.str s2',.int ks.length])) p1 = some (.tup [.str (Str.ofString "not"),.str s2',.int ks.length]):=a0d
  generalize upd J2 p1 (.tup [.str (Str.ofString "not"),.str s2',.int ks.length]) = J2p1 at sp1 kp1 ⊢
  walk_at "stp"
  have ap1:=g2'.same sp1
  refine ⟨dx,ps,pm,pr,_,_,ap1.o,ap1.r,by first | omega | (simp only [List.length_append,List.length_cons,List.length_nil] at *; omega),?_⟩
  obtain ⟨w2,fw2⟩:=ap1.row (.ref p1)
  have fw2:=(WFr.of (x:=x) (pm:=pm) (pr:=pr) sp1).trans fw2
  have tp1:=(ap1.tup (show WFr x pm pr J2p1 _ from (ap1.row (.ref p1)).2)) _ _ (SqT.of kp1)
  generalize upd J2p1 pr (.lst (_ ++ [.ref p1])) = H2 at w2 fw2 tp1 ⊢
  refine q _ _ (ns ++ [.ref p1]) (fA.trans ((WFr.of s2).trans fw2)) (by rw [<- List.append_assoc]; exact w2) ?_
  rw [gR]
  exact ((g3.mono s2).monoT (g2'.tup fw2)).append (.cons (.tup tp1 (.cons (.str _) (.cons (.str _) (.cons (.int _) .nil)))) .nil)
 | keep=>
  walk_at "stp"
  refine iteF ?_
  walk_at "stp"
  refine a0k ht2 (v:=.str a2p) rfl ?_
  walk_at "stp"
  refine iteB (fun e=>absurd e (by decide +kernel)) (fun e=>?_)
  walk_at "stp"
  refine a0k ht2 (v:=.str a2p) rfl ?_
  walk_at "stp"
  refine iteB (fun e=>?_) (fun e=>absurd e (by decide +kernel))
  walk_at "stp"
  refine ⟨x,dx,_,rfl,g2'.o,a2h,?_⟩
  walk_at "stp"
  refine ⟨ln (by show 1<=100000; decide),fun p1 hp1=>?_⟩
  have sp1:=a0f hp1 (.tup [.str (Str.ofString "keep")])
  have kp1:(upd J2 p1 (.tup [.str (Str.ofString "keep")])) p1 = some (.tup [.str (Str.ofString "keep")]):=a0d
  generalize upd J2 p1 (.tup [.str (Str.ofString "keep")]) = J2p1 at sp1 kp1 ⊢
  walk_at "stp"
  have ap1:=g2'.same sp1
  refine ⟨dx,ps,pm,pr,_,_,ap1.o,ap1.r,by first | omega | (simp only [List.length_append,List.length_cons,List.length_nil] at *; omega),?_⟩
  obtain ⟨w2,fw2⟩:=ap1.row (.ref p1)
  have fw2:=(WFr.of (x:=x) (pm:=pm) (pr:=pr) sp1).trans fw2
  have tp1:=(ap1.tup (show WFr x pm pr J2p1 _ from (ap1.row (.ref p1)).2)) _ _ (SqT.of kp1)
  generalize upd J2p1 pr (.lst (_ ++ [.ref p1])) = H2 at w2 fw2 tp1 ⊢
  refine q _ _ (ns ++ [.ref p1]) (fA.trans ((WFr.of s2).trans fw2)) (by rw [<- List.append_assoc]; exact w2) ?_
  rw [gR]
  exact ((g3.mono s2).monoT (g2'.tup fw2)).append (.cons (.tup tp1 (.cons (.str _) .nil)) .nil)
 | mark m y1 y2=>
  walk_at "stp"
  refine iteF ?_
  walk_at "stp"
  refine a0k ht2 (v:=.str m.sign) rfl ?_
  walk_at "stp"
  refine iteB (fun e=>absurd (of_decide_eq_true (by simpa using e)) m.no_keep.2) (fun e=>?_)
  walk_at "stp"
  refine a0k ht2 (v:=.str m.sign) rfl ?_
  walk_at "stp"
  refine iteB (fun e=>absurd (of_decide_eq_true (by simpa using e)) m.no_keep.1) (fun e=>?_)
  walk_at "stp"
  refine ⟨x,dx,_,rfl,g2'.o,a2h,?_⟩
  walk_at "stp"
  refine tGetK_i ?_
  walk_at "stp"
  refine a0k ht2 (v:=.str m.sign) rfl ?_
  refine ⟨Sum.inr m.sign,.str m.tag,rfl,c9e m,?_⟩
  walk_at "stp"
  refine ⟨ln (by show 1<=100000; decide),fun p1 hp1=>?_⟩
  have sp1:=a0f hp1 (.tup [.str m.tag])
  have kp1:(upd J2 p1 (.tup [.str m.tag])) p1 = some (.tup [.str m.tag]):=a0d
  generalize upd J2 p1 (.tup [.str m.tag]) = J2p1 at sp1 kp1 ⊢
  walk_at "stp"
  have ap1:=g2'.same sp1
  refine ⟨dx,ps,pm,pr,_,_,ap1.o,ap1.r,by first | omega | (simp only [List.length_append,List.length_cons,List.length_nil] at *; omega),?_⟩
  obtain ⟨w2,fw2⟩:=ap1.row (.ref p1)
  have fw2:=(WFr.of (x:=x) (pm:=pm) (pr:=pr) sp1).trans fw2
  have tp1:=(ap1.tup (show WFr x pm pr J2p1 _ from (ap1.row (.ref p1)).2)) _ _ (SqT.of kp1)
  generalize upd J2p1 pr (.lst (_ ++ [.ref p1])) = H2 at w2 fw2 tp1 ⊢
  refine q _ _ (ns ++ [.ref p1]) (fA.trans ((WFr.of s2).trans fw2)) (by rw [<- List.append_assoc]; exact w2) ?_
  rw [gR]
  exact ((g3.mono s2).monoT (g2'.tup fw2)).append (.cons (.tup tp1 (.cons (.str _) .nil)) .nil)
end
section
variable {P:Program} {w:World} {K:W.Frag} {mg:Str->Option Value} {base:Heap} {t:Ad}
theorem c0u (us:List V) (v:V):atI (us ++ [v]) (-1) = some v:=by
 unfold atI ixN
 rw [if_neg (by omega),if_pos (by rw [List.length_append,List.length_singleton]; omega),List.length_append,List.length_singleton,show ((-1:Int) + ((us.length + 1:Nat):Int)).toNat = us.length by omega]
 simp
theorem b0o {n:Nat}:∀ ts:List Trm,(∀ t ∈ ts,t.size<=n)->Trm.sizeL ts<=n * ts.length
 | [],_=>by simp [Trm.sizeL]
 | t :: r,h=>by
  have h1:=h t (List.mem_cons_self ..)
  have h2:=b0o r fun u hu=>h u (List.mem_cons_of_mem _ hu)
  simp only [Trm.sizeL,List.length_cons]
  rw [Nat.mul_add]
  omega
theorem c6s {K:W.Frag} {a:Addr} {us:List V} {H:Hp} (h:SqT K H a us) {g:TG} {tb:TS} {D:Ends} {σ:L2.St} (k:ForW (Itt K a) g tb D σ H):(∃ xs,SqL K H a xs/\ForW (Itl K a) g tb D σ H)\/∃ xs,SqT K H a xs/\ForW (Itt K a) g tb D σ H:=.inr ⟨us,h,k⟩
theorem b7w {K:W.Frag} {a:Addr} {us:List V} {H:Hp} (h:SqL K H a us) {g:TG} {tb:TS} {D:Ends} {σ:L2.St} (k:ForW (Itl K a) g tb D σ H):(∃ xs,SqL K H a xs/\ForW (Itl K a) g tb D σ H)\/∃ xs,SqT K H a xs/\ForW (Itt K a) g tb D σ H:=.inl ⟨us,h,k⟩
theorem a3l (gs:List Go):(trms gs).length = gs.length:=List.length_map ..
theorem trms_at {gs:List Go} {i:Nat} (h:i < gs.length) (h':i < (trms gs).length):(trms gs)[i] = gs[i].trm:=by simp [trms]
theorem b1x (sl:Str->Nat) (f:Nat->Str):∀ (i:Nat) (gs:List Go),(∀ g ∈ gs,g.ok/\g.trm.size<=30)->(gsR sl f i gs).length<=31 * gs.length
 | i,[],_=>by rw [gsR]; simp
 | i,g :: gs,h=>by
  have h1:=(h g (List.mem_cons_self ..)).2
  have h2:=b1x sl f (i + 1) gs fun u hu=>h u (List.mem_cons_of_mem _ hu)
  have h3:=g.kids_size
  rw [gsR,List.length_append,c6n,List.length_cons]
  omega
theorem b2q {gs:List Go} {i:Nat} (h:i < gs.length):gs.take (i + 1) = gs.take i ++ [gs[i]]:=by
 rw [List.take_succ,List.getElem?_eq_getElem h]; rfl
theorem b7x (u met:List Str):(a7d u met).length<=u.length:=by
 unfold a7d
 rw [List.length_map]
 exact List.length_filter_le _ _
theorem b1y (gs:List Go) (g:Go):a5g (gs ++ [g]) = g.named:=by
 unfold a5g; rw [List.getLast?_append]; rfl
theorem c9j (sl:Str->Nat) (gs:List Go) (g:Go):gsR sl (a1s true (gs ++ [g]).length) 0 (gs ++ [g]) = gsR sl (fun _=>a3c) 0 gs ++ gR sl a4v g:=by
 rw [b2p,Nat.zero_add]
 congr 1
 ·refine b3l sl _ _ 0 gs fun j _ hj=>?_
  unfold a1s
  rw [if_neg (by rintro ⟨_,e⟩; rw [List.length_append,List.length_singleton] at e; omega)]
 ·unfold a1s
  rw [if_pos ⟨rfl,by rw [List.length_append,List.length_singleton]⟩]
theorem gsR_ask (sl:Str->Nat) (n:Nat) (gs:List Go):gsR sl (a1s false n) 0 gs = gsR sl (fun _=>a3c) 0 gs:=by
 refine b3l sl _ _ 0 gs fun j _ hj=>?_
 unfold a1s
 rw [if_neg (by rintro ⟨e,_⟩; cases e)]
theorem c0v {K:W.Frag} {H:Hp} {us:List V} {gs:List Go} (h:DenL K H us (Trm.dataL (trms gs))) {i:Nat} (hi:i < gs.length):∃ hu:i < us.length,Den K H us[i] gs[i].trm.data:=by
 obtain ⟨hu,d⟩:=b0b h (by rw [a3l]; exact hi)
 rw [trms_at hi] at d
 exact ⟨hu,d⟩
theorem c0w (T:Txt K mg t) (G_Writing_init:FnOk P w K mg base CX0 2 t.a_Writing_init t.d_Writing_init ["self","terms"] (a4p K t.k_Writing)) (G_Writing_write_head:FnOk P w K mg base CX0 63 t.a_Writing_write_head t.d_Writing_write_head ["self","head"] (a3x K t.k_Writing)) (G_Writing_write_frame:FnOk P w K mg base CX0 2 t.a_Writing_write_frame t.d_Writing_write_frame ["self"] (a2r K t.k_Writing)) (G_Writing_write_goal:FnOk P w K mg base CX0 63 t.a_Writing_write_goal t.d_Writing_write_goal ["self","goal","call"] (a2u K t.k_Writing)) (G_Writing_write:FnOk P w K mg base CX0 1 t.a_Writing_write t.d_Writing_write ["self","row"] (a1m K t.k_Writing)) (G_is_named:FnOk P w K mg base CX0 4 t.a_is_named t.d_is_named ["term"] (a7b K)):FnOk P w K mg base CX0 66 t.a_rule_code t.d_rule_code ["number","rule"] (a8j K):=by
 refine T.F_rule_code.ok b0l (fun vs H Q E h=>?_) (fun cdv A outer s H vs Q E hr h=>?_)
 ·unfold a8j at h
  split at h
  ·rfl
  ·exact h.elim
 unfold a8j at h
 split at h
 rotate_left
 ·exact h.elim
 refine ⟨_,(a0e (a0r (i:=2) (hs:=a1x) b0l.nd rfl (by walk_at "or1") (c2a T.mk_Writing G_Writing_init (hr.mono (by walk_at "rm1")) rfl T.m_Writing T.b_Writing_init .nil a0s (a0a (a0m (a1d K rfl) (a2x (a0a (a0l (a0h K rfl) (mv 1) a0b (fun _ _=>rfl)) a0c)) (a3e (b6x K rfl) rfl T.n_list boot_list (a0a (a0l (a0h K rfl) (mv 1) a0b (fun _ _=>rfl)) a0c))) a0c))) (a0e (a1e (a1q (mv 2) T.cl_Writing T.me_Writing_write_head G_Writing_write_head (hr.mono (by walk_at "rm1")) T.b_Writing_write_head .nil a0s (a0a (a0l (a0h K rfl) (mv 1) a0b (fun _ _=>rfl)) a0c))) (a0e (a1b (a2j K rfl (a0l (a0h K rfl) (mv 1) a0b (fun _ _=>rfl))) (a0e (a1e (b9j (mv 2) T.cl_Writing T.me_Writing_write_frame G_Writing_write_frame (hr.mono (by walk_at "rm1")) T.b_Writing_write_frame .nil a0s)) (a0e (a3n PassesOwn.never rfl (b6z K rfl (a6b (ks_tup K rfl) (a0l (a0h K rfl) (mv 1) a0b (fun _ _=>rfl)) a7v (a7w (b8n b5x a0b)))) (a2d (i:=3) b0l.nd rfl (by walk_at "or1")) (a0g (a1e (a1q (mv 2) T.cl_Writing T.me_Writing_write_goal G_Writing_write_goal (hr.mono (by walk_at "rm1")) T.b_Writing_write_goal .nil a0s (a0a (mv 3) (a0a a0i a0c)))))) (a0g (a1e (a1q (mv 2) T.cl_Writing T.me_Writing_write_goal G_Writing_write_goal (hr.mono (by walk_at "rm1")) T.b_Writing_write_goal .nil a0s (a0a (a0l (a0h K rfl) (a0l (a0h K rfl) (mv 1) a0b (fun _ _=>rfl)) (b8n b5x a0b) (fun _ _=>rfl)) (a0a a0i a0c))))))) a0x) (a0e (a1b (PW.pt (a2v (a2w (a2j K rfl (a0l (a0h K rfl) (mv 1) a0b (fun _ _=>rfl)))) (a4m (a2w (a2j K rfl (a0u G_is_named (hr.mono (by walk_at "rm1")) rfl T.m_is_named T.F_is_named.kp T.b_is_named .nil a0s (a0a (a0l (a0h K rfl) (a0l (a0h K rfl) (mv 1) a0b (fun _ _=>rfl)) (b8n b5x a0b) (fun _ _=>rfl)) a0c))))))) (a0g (a1e (a1q (mv 2) T.cl_Writing T.me_Writing_write G_Writing_write (hr.mono (by walk_at "rm1")) T.b_Writing_write .nil a0s (a0a (a0z (a0a a0i a0c)) a0c)))) a0x) (a0g (a0p (a0z (a0a (mv 0) (a0a (a0t a5b rfl T.n_len PySem.boot_len (a0a (a4g (mv 2) rfl) a0c)) (a0a (a4g (mv 2) rfl) a0c)))))))))),?_⟩
 rename_i n p
 obtain ⟨vh,ga,wd,ks,us,gs,hp,hdh,hg,hgs,hgl,hgo,hz,q⟩:=h
 have hul:=a1y hgs
 rw [a3l] at hul
 have zg:=b0o (n:=30) (trms gs) fun t ht=>by
  obtain ⟨g,hg,rfl⟩:=List.mem_map.mp ht
  exact (hgo g hg).2
 rw [a3l] at zg
 walk_at "stp"
 refine a0k hp (v:=vh) rfl ?_
 walk_at "stp"
 refine ⟨ln (by show 1<=100000; decide),fun p1 hp1=>?_⟩
 have sp1:Same H (upd H p1 (.lst [vh])):=a0f hp1 _
 have kp1:(upd H p1 (.lst [vh])) p1 = some (.lst [vh]):=a0d
 generalize upd H p1 (.lst [vh]) = H1 at sp1 kp1 ⊢
 walk_at "stp"
 refine a0k (sp1.tup hp) (v:=.ref ga) rfl ?_
 walk_at "stp"
 refine ⟨ga,us,rfl,.inr (sp1.tup hg),fun p2 hp2=>?_⟩
 have sp2:=a0f hp2 (.lst us)
 have kp2:(upd H1 p2 (.lst us)) p2 = some (.lst us):=a0d
 generalize upd H1 p2 (.lst us) = H2 at sp2 kp2 ⊢
 walk_at "stp"
 refine b3e (sp2 _ _ kp1) kp2 (ln (by show 1 + us.length<=_; omega)) (fun p3 hp3=>?_)
 have sp3:=a0f hp3 (.lst ([vh] ++ us))
 have kp3:(upd H2 p3 (.lst ([vh] ++ us))) p3 = some (.lst (vh :: us)):=a0d
 generalize upd H2 p3 (.lst ([vh] ++ us)) = H3 at sp3 kp3 ⊢
 have s03:=sp1.trans (sp2.trans sp3)
 walk_at "stp"
 intro x dx hx hdx hne
 have s4:Same H3 (upd (upd H3 dx (.own x)) x (.ins t.k_Writing dx [])):=fun b o e=>by
  rw [a0n (fun z=>by rw [z,hx] at e; cases e),a0n (fun z=>by rw [z,hdx] at e; cases e)]
  exact e
 have x4:(upd (upd H3 dx (.own x)) x (.ins t.k_Writing dx [])) x = some (.ins t.k_Writing dx []):=a0d
 generalize upd (upd H3 dx (.own x)) x (.ins t.k_Writing dx []) = H4 at s4 x4 ⊢
 have s04:=s03.trans s4
 have hx0:H x = none:=a2t s03 hx
 have dAll:DenL K H4 (vh :: us) (Trm.dataL (.app wd ks :: trms gs)):=.cons (hdh.mono s04) (hgs.mono s04)
 refine ⟨dx,_,_,x4,SqL.of (s4 _ _ kp3),dAll,by simp only [Trm.sizeL,Trm.size]; omega,fun ps pm pr H5 w f5 h1 h2 h3=>⟨rfl,?_⟩⟩
 have hvh:∀ y ∈ a1f ks,y ∈ ordL (.app wd ks :: trms gs) []:=fun y hy=>b0k (by rw [a1f,vars]; exact List.mem_append.mpr (.inl hy))
 have hvg:∀ g ∈ gs,∀ y ∈ a1f g.kids,y ∈ ordL (.app wd ks :: trms gs) []:=fun g hg y hy=>b0k (by rw [a1f]; exact List.mem_append.mpr (.inr (b4a (List.mem_map.mpr ⟨g,hg,rfl⟩) y (by rw [<- g.kids_vars]; exact hy))))
 have hln:=a7j (.app wd ks :: trms gs) []
 have hnd:=a6h (.app wd ks :: trms gs) [] List.nodup_nil
 rw [List.length_nil] at hln
 simp only [Trm.sizeL,Trm.size] at hln
 have s05:Same H H5:=fun b o e=>f5 b o (fun z=>by rw [z,hx0] at e; cases e) (s04 _ _ e)
 have hps:H ps = none:=a2t s04 h1
 have hpm:H pm = none:=a2t s04 h2
 have hpr:H pr = none:=a2t s04 h3
 generalize ordL (.app wd ks :: trms gs) [] = u at w hvh hvg hln hnd q
 have FR:∀ {J:Hp},WFr x pm pr H5 J->Same H J:=fun f b o e=>f b o (fun z=>by rw [z,hx0] at e; cases e) (fun z=>by rw [z,hpm] at e; cases e) (fun z=>by rw [z,hpr] at e; cases e) (s05 _ _ e)
 walk_at "stp"
 refine ⟨x,dx,_,rfl,w.o,a2h,?_⟩
 walk_at "stp"
 refine a0k (s05.tup hp) (v:=vh) rfl ?_
 walk_at "stp"
 refine ⟨dx,ps,pm,pr,u,wd,ks,w,hdh.mono s05,hvh,hz,fun H6 ns f6 w6 d6=>?_⟩
 have l6:=d6.length
 rw [List.length_map,b4c] at l6
 have s06:=FR f6
 walk_at "stp"
 refine a0k (s06.tup hp) (v:=.ref ga) rfl ?_
 walk_at "stp"
 refine .inr (.inl ⟨us,s06.tup hg,?_⟩)
 rcases nil_or_snoc' gs with hg0 | ⟨gs',gl,hg0⟩
 ·subst hg0
  have hu0:us = []:=by simpa using hul
  subst hu0
  refine iteF ?_
  walk_at "stp"
  refine a0k (s06.tup hp) (v:=.ref ga) rfl ?_
  walk_at "stp"
  refine .inr (.inl ⟨[],s06.tup hg,?_⟩)
  walk_at "stp"
  refine iteT ?_
  walk_at "stp"
  refine ⟨x,dx,_,rfl,w6.o,a2h,?_⟩
  walk_at "stp"
  refine ⟨ln (by show 1<=100000; decide),fun q1 hq1=>?_⟩
  have sq1:=a0f hq1 (.tup [.str (Str.ofString "back")])
  have kq1:(upd H6 q1 (.tup [.str (Str.ofString "back")])) q1 = some (.tup [.str (Str.ofString "back")]):=a0d
  generalize upd H6 q1 (.tup [.str (Str.ofString "back")]) = H6q1 at sq1 kq1 ⊢
  walk_at "stp"
  have aq1:=w6.same sq1
  refine ⟨dx,ps,pm,pr,_,_,aq1.o,aq1.r,by first | omega | (simp only [List.length_append,List.length_cons,List.length_nil] at *; omega),?_⟩
  obtain ⟨w7,fw7⟩:=aq1.row (.ref q1)
  have fw7:=(WFr.of (x:=x) (pm:=pm) (pr:=pr) sq1).trans fw7
  have tq1:=(aq1.tup (show WFr x pm pr H6q1 _ from (aq1.row (.ref q1)).2)) _ _ (SqT.of kq1)
  generalize upd H6q1 pr (.lst (_ ++ [.ref q1])) = H7 at w7 fw7 tq1 ⊢
  have s07:=FR (f6.trans fw7)
  walk_at "stp"
  refine ⟨x,_,dx,_,_,rfl,w7.o,T.cl_Writing,T.no_Writing_slots,a5m _ _ _ _,?_⟩
  refine ⟨ps,_,rfl,w7.s,?_⟩
  rw [a2s]
  walk_at "stp"
  refine ⟨x,_,dx,_,_,rfl,w7.o,T.cl_Writing,T.no_Writing_rows,b1o _ _ _ _,?_⟩
  walk_at "stp"
  refine ⟨ln (by show 3<=100000; decide),fun p9 hp9=>?_⟩
  have s9:=a0f hp9 (.tup [.int n,.int (u.length:Int),.ref pr])
  refine q p9 pr (ns ++ [.ref q1]) _ (s07.trans s9) a0d (s9 _ _ w7.r) ?_
  rw [b4b,if_pos rfl]
  exact (((d6.monoT (w6.tup fw7)).append (.cons (b9b tq1) .nil)).mono s9)
 ·have hgne:gs ≠ []:=by rw [hg0]; simp
  have hgs2:=hgs
  rw [hg0,trms,List.map_append,a6o] at hgs2
  obtain ⟨us',ul,hus,du',dul⟩:=DenL.snoc hgs2
  have du':DenL K H us' (Trm.dataL (trms gs')):=du'
  have dul:Den K H ul gl.trm.data:=dul
  have hul':=a1y du'
  rw [a3l] at hul'
  have hgl':gs'.length<=5:=by rw [hg0,List.length_append,List.length_singleton] at hgl; omega
  have e1:(!us.isEmpty) = true:=by rw [hus]; simp
  rw [e1]
  refine iteT ?_
  walk_at "stp"
  refine ⟨x,dx,_,rfl,w6.o,a2h,?_⟩
  walk_at "stp"
  refine ⟨dx,ps,pm,pr,u,_,_,_,w6,by omega,by omega,hnd,fun H7 nf f7 w7 d7=>?_⟩
  have l7:=d7.length
  have l7':=b7x u (ordL ks [])
  rw [List.length_cons] at l7
  have f07:=f6.trans f7
  have s07:=FR f07
  walk_at "stp"
  refine a0k (s07.tup hp) (v:=.ref ga) rfl ?_
  walk_at "stp"
  have hgo':∀ g ∈ gs',g.ok/\g.trm.size<=30:=fun g hg=>hgo g (by rw [hg0]; exact List.mem_append.mpr (.inl hg))
  refine ⟨ga,us,rfl,s07.tup hg,fun hcut=>?_,fun _ pc hpc=>?_⟩
  ·exfalso
   have h2:=hcut.2
   rw [hus] at h2
   simp only [List.length_append,List.length_singleton,HT.sIx] at h2
   split at h2 <;> omega
  rw [c8o,hus,List.dropLast_concat]
  have sc:=a0f hpc (.tup us')
  have kc:(upd H7 pc (.tup us')) pc = some (.tup us'):=a0d
  generalize upd H7 pc (.tup us') = H8 at sc kc ⊢
  have w8:=w7.same sc
  have f08:=f07.trans (WFr.of (x:=x) (pm:=pm) (pr:=pr) sc)
  have s08:=FR f08
  have d8:=((d6.monoT (w6.tup f7)).append d7).mono sc
  have l8:(ns ++ nf).length<=60 + 300:=by rw [List.length_append]; omega
  generalize hB:List.map Rw.data (taL (ix u) ks 0 ks.length []) ++ frameD :: a7d u (ordL ks []) = B at d8
  generalize ns ++ nf = na at w8 d8 l8
  have lB:B.length<=360:=by have:=d8.length; omega
  refine ⟨pc,rfl,c6s (SqT.of kc) ?_⟩
  refine a4f (b6u (xs:=us')) (fun i σ' J=>∃ (o3:Option V) (cc:Nat) (mr:List V),σ' = [some (.int n),some (.ref p),some (.ref x),o3]/\WFr x pm pr H8 J/\WS K t.k_Writing J x dx ps pm pr u (ordL ks []) cc mr/\DenL K J mr (B ++ gsR (ix u) (fun _=>a3c) 0 (gs'.take i))) ⟨none,_,_,rfl,WFr.refl _ _ _ _,w8,by rw [List.take_zero,gsR,List.append_nil]; exact d8⟩ (fun i σ' J hP=>by obtain ⟨_,_,_,_,h,_⟩:=hP; exact w8.tup h _ _ (SqT.of kc)) (fun i σ' J hi hP=>?_) (fun σ' J hP=>?_)
  ·obtain ⟨o3,cc,mr,rfl,g1,g2,g3⟩:=hP
   have hgi:i < gs'.length:=by omega
   obtain ⟨hui,dk⟩:=c0v du' hgi
   obtain ⟨ow,zw⟩:=hgo' _ (List.getElem_mem hgi)
   rw [getD_at hui]
   have dk:=dk.mono (FR (f08.trans g1))
   have hvi:=hvg gs'[i] (by rw [hg0]; exact List.mem_append.mpr (.inl (List.getElem_mem hgi)))
   have zk:=gs'[i].kids_size
   have l3:=g3.length
   have l4:=b1x (ix u) (fun _=>a3c) 0 (gs'.take i) fun g hg=>hgo' g (List.mem_of_mem_take hg)
   rw [List.length_append] at l3
   rw [List.length_take] at l4
   walk_at "stp"
   refine ⟨x,dx,_,rfl,g2.o,a2h,?_⟩
   walk_at "stp"
   refine ⟨dx,ps,pm,pr,u,_,_,_,gs'[i],g2,dk,ow,hvi,by omega,by omega,fun J2 c2 ms f2 w3 d3=>?_⟩
   refine ⟨_,c2,mr ++ ms,rfl,g1.trans f2,w3,?_⟩
   rw [b2q hgi,b2p,<- List.append_assoc]
   exact (g3.monoT (g2.tup f2)).append d3
  obtain ⟨o3,cc,mr,rfl,g1,g2,g3⟩:=hP
  rw [List.take_of_length_le (by omega)] at g3
  have f0J:=f08.trans g1
  have s0J:=FR f0J
  have hat:atI us (-1) = some ul:=by rw [hus]; exact c0u us' ul
  obtain ⟨ow,zw⟩:=hgo gl (by rw [hg0]; simp)
  have hvi:=hvg gl (by rw [hg0]; simp)
  have zk:=gl.kids_size
  have l3:=g3.length
  have l4:=b1x (ix u) (fun _=>a3c) 0 gs' hgo'
  rw [List.length_append] at l3
  walk_at "stp"
  refine ⟨x,dx,_,rfl,g2.o,a2h,?_⟩
  walk_at "stp"
  refine a0k (s0J.tup hp) (v:=.ref ga) rfl ?_
  walk_at "stp"
  refine a0k (s0J.tup hg) hat ?_
  walk_at "stp"
  refine ⟨dx,ps,pm,pr,u,_,_,_,gl,g2,dul.mono s0J,ow,hvi,by omega,by omega,fun J2 c2 ms f2 w3 d3=>?_⟩
  have f0K:=f0J.trans f2
  have s0K:=FR f0K
  have l5:=d3.length
  rw [c6n] at l5
  have dZ:DenL K J2 (mr ++ ms) (B ++ gsR (ix u) (a1s true gs.length) 0 gs):=by
   rw [hg0,c9j,<- List.append_assoc]
   exact (g3.monoT (g2.tup f2)).append d3
  have lZ:(mr ++ ms).length<=700:=by rw [List.length_append]; omega
  generalize mr ++ ms = mz at w3 dZ lZ
  walk_at "stp"
  refine a0k (s0K.tup hp) (v:=.ref ga) rfl ?_
  walk_at "stp"
  refine .inr (.inl ⟨us,s0K.tup hg,?_⟩)
  rw [e1]
  walk_at "stp"
  refine iteF ?_
  walk_at "stp"
  refine a0k (s0K.tup hp) (v:=.ref ga) rfl ?_
  walk_at "stp"
  refine a0k (s0K.tup hg) hat ?_
  walk_at "stp"
  have dul2:=dul.mono s0K
  rw [Go.trm_eq] at dul2
  refine ⟨.app gl.sgn gl.top,dul2,c2o gl ow,fun J3 s3=>?_⟩
  rw [c0t gl ow]
  have w4:=w3.same s3
  have s03':=s0K.trans s3
  have dZ3:=dZ.mono s3
  walk_at "stp"
  have hr:b4b u ks gs = B ++ gsR (ix u) (a1s true gs.length) 0 gs ++ (if gl.named = true then [] else [backD]):=by
   rw [b4b,if_neg hgne,<- hB,show a5g gs = gl.named by rw [hg0]; exact b1y gs' gl]
   simp only [List.cons_append,List.append_assoc]
  cases hnm:gl.named with
  | true=>
   rw [hnm,if_pos rfl,List.append_nil] at hr
   refine iteF ?_
   walk_at "stp"
   refine ⟨x,_,dx,_,_,rfl,w4.o,T.cl_Writing,T.no_Writing_slots,a5m _ _ _ _,?_⟩
   refine ⟨ps,_,rfl,w4.s,?_⟩
   rw [a2s]
   walk_at "stp"
   refine ⟨x,_,dx,_,_,rfl,w4.o,T.cl_Writing,T.no_Writing_rows,b1o _ _ _ _,?_⟩
   walk_at "stp"
   refine ⟨ln (by show 3<=100000; decide),fun p9 hp9=>?_⟩
   have s9:=a0f hp9 (.tup [.int n,.int (u.length:Int),.ref pr])
   exact q p9 pr mz _ (s03'.trans s9) a0d (s9 _ _ w4.r) (by rw [hr]; exact dZ3.mono s9)
  | false=>
   rw [hnm,if_neg (by simp)] at hr
   refine iteT ?_
   walk_at "stp"
   refine ⟨x,dx,_,rfl,w4.o,a2h,?_⟩
   walk_at "stp"
   refine ⟨ln (by show 1<=100000; decide),fun q1 hq1=>?_⟩
   have sq1:=a0f hq1 (.tup [.str (Str.ofString "back")])
   have kq1:(upd J3 q1 (.tup [.str (Str.ofString "back")])) q1 = some (.tup [.str (Str.ofString "back")]):=a0d
   generalize upd J3 q1 (.tup [.str (Str.ofString "back")]) = J3q1 at sq1 kq1 ⊢
   walk_at "stp"
   have aq1:=w4.same sq1
   refine ⟨dx,ps,pm,pr,_,_,aq1.o,aq1.r,by first | omega | (simp only [List.length_append,List.length_cons,List.length_nil] at *; omega),?_⟩
   obtain ⟨ww7,fww7⟩:=aq1.row (.ref q1)
   have fww7:=(WFr.of (x:=x) (pm:=pm) (pr:=pr) sq1).trans fww7
   have tq1:=(aq1.tup (show WFr x pm pr J3q1 _ from (aq1.row (.ref q1)).2)) _ _ (SqT.of kq1)
   generalize upd J3q1 pr (.lst (_ ++ [.ref q1])) = HH7 at ww7 fww7 tq1 ⊢
   have s09:=FR (f0K.trans ((WFr.of s3).trans fww7))
   walk_at "stp"
   refine ⟨x,_,dx,_,_,rfl,ww7.o,T.cl_Writing,T.no_Writing_slots,a5m _ _ _ _,?_⟩
   refine ⟨ps,_,rfl,ww7.s,?_⟩
   rw [a2s]
   walk_at "stp"
   refine ⟨x,_,dx,_,_,rfl,ww7.o,T.cl_Writing,T.no_Writing_rows,b1o _ _ _ _,?_⟩
   walk_at "stp"
   refine ⟨ln (by show 3<=100000; decide),fun p9 hp9=>?_⟩
   have s9:=a0f hp9 (.tup [.int n,.int (u.length:Int),.ref pr])
   refine q p9 pr (mz ++ [.ref q1]) _ (s09.trans s9) a0d (s9 _ _ ww7.r) ?_
   rw [hr]
   exact ((dZ3.monoT (w4.tup fww7)).append (.cons (b9b tq1) .nil)).mono s9
end
section
variable {P:Program} {w:World} {K:W.Frag} {mg:Str->Option Value} {base:Heap} {t:Ad}
theorem b5e (T:Txt K mg t) (G_Writing_init:FnOk P w K mg base CX0 2 t.a_Writing_init t.d_Writing_init ["self","terms"] (a4p K t.k_Writing)) (G_Writing_write_frame:FnOk P w K mg base CX0 2 t.a_Writing_write_frame t.d_Writing_write_frame ["self"] (a2r K t.k_Writing)) (G_Writing_write:FnOk P w K mg base CX0 1 t.a_Writing_write t.d_Writing_write ["self","row"] (a1m K t.k_Writing)) (G_Writing_write_goal:FnOk P w K mg base CX0 63 t.a_Writing_write_goal t.d_Writing_write_goal ["self","goal","call"] (a2u K t.k_Writing)):FnOk P w K mg base CX0 66 t.a_question_code t.d_question_code ["goals"] (a5n K):=by
 refine T.F_question_code.ok a7t (fun vs H Q E h=>?_) (fun cdv A outer s H vs Q E hr h=>?_)
 ·unfold a5n at h
  split at h
  ·rfl
  ·exact h.elim
 unfold a5n at h
 split at h
 rotate_left
 ·exact h.elim
 refine ⟨_,(a0e (a0r (i:=1) (hs:=a1x) a7t.nd rfl (by walk_at "or1") (c2a T.mk_Writing G_Writing_init (hr.mono (by walk_at "rm1")) rfl T.m_Writing T.b_Writing_init .nil a0s (a0a (mv 0) a0c))) (a0e (a1e (b9j (mv 1) T.cl_Writing T.me_Writing_write_frame G_Writing_write_frame (hr.mono (by walk_at "rm1")) T.b_Writing_write_frame .nil a0s)) (a0e (a3n PassesOwn.never rfl (b6z K rfl (mv 0)) (a2d (i:=2) a7t.nd rfl (by walk_at "or1")) (a0g (a1e (a1q (mv 1) T.cl_Writing T.me_Writing_write_goal G_Writing_write_goal (hr.mono (by walk_at "rm1")) T.b_Writing_write_goal .nil a0s (a0a (mv 2) (a0a a0i a0c)))))) (a0e (a1e (a1q (mv 1) T.cl_Writing T.me_Writing_write G_Writing_write (hr.mono (by walk_at "rm1")) T.b_Writing_write .nil a0s (a0a (a0z (a0a a0i a0c)) a0c))) (a0g (a0p (a0z (a0a a0b (a0a (a0t a5b rfl T.n_len PySem.boot_len (a0a (a4g (mv 1) rfl) a0c)) (a0a (a4g (mv 1) rfl) a0c)))))))))),?_⟩
 rename_i p
 obtain ⟨us,gs,hp,hgs,hgl,hgo,q⟩:=h
 have hul:=a1y hgs
 rw [a3l] at hul
 have zg:=b0o (n:=30) (trms gs) fun t ht=>by
  obtain ⟨g,hg,rfl⟩:=List.mem_map.mp ht
  exact (hgo g hg).2
 rw [a3l] at zg
 walk_at "stp"
 intro x dx hx hdx hne
 have s4:Same H (upd (upd H dx (.own x)) x (.ins t.k_Writing dx [])):=fun b o e=>by
  rw [a0n (fun z=>by rw [z,hx] at e; cases e),a0n (fun z=>by rw [z,hdx] at e; cases e)]
  exact e
 have x4:(upd (upd H dx (.own x)) x (.ins t.k_Writing dx [])) x = some (.ins t.k_Writing dx []):=a0d
 generalize upd (upd H dx (.own x)) x (.ins t.k_Writing dx []) = H4 at s4 x4 ⊢
 have hx0:H x = none:=hx
 refine ⟨dx,_,_,x4,s4.seq hp,hgs.mono s4,by omega,fun ps pm pr H5 w f5 h1 h2 h3=>⟨rfl,?_⟩⟩
 have hvg:∀ g ∈ gs,∀ y ∈ a1f g.kids,y ∈ ordL (trms gs) []:=fun g hg y hy=>b0k (b4a (List.mem_map.mpr ⟨g,hg,rfl⟩) y (by rw [<- g.kids_vars]; exact hy))
 have hln:=a7j (trms gs) []
 have hnd:=a6h (trms gs) [] List.nodup_nil
 rw [List.length_nil] at hln
 have s05:Same H H5:=fun b o e=>f5 b o (fun z=>by rw [z,hx0] at e; cases e) (s4 _ _ e)
 have hps:H ps = none:=a2t s4 h1
 have hpm:H pm = none:=a2t s4 h2
 have hpr:H pr = none:=a2t s4 h3
 generalize ordL (trms gs) [] = u at w hvg hln hnd q
 have FR:∀ {J:Hp},WFr x pm pr H5 J->Same H J:=fun f b o e=>f b o (fun z=>by rw [z,hx0] at e; cases e) (fun z=>by rw [z,hpm] at e; cases e) (fun z=>by rw [z,hpr] at e; cases e) (s05 _ _ e)
 walk_at "stp"
 refine ⟨x,dx,_,rfl,w.o,a2h,?_⟩
 walk_at "stp"
 refine ⟨dx,ps,pm,pr,u,_,_,_,w,by simp,by omega,hnd,fun H7 nf f7 w7 d7=>?_⟩
 have l7:=d7.length
 have l7':=b7x u []
 rw [List.length_cons] at l7
 have s07:=FR f7
 walk_at "stp"
 refine ⟨p,rfl,b7w (s07.seq hp) ?_⟩
 rw [List.nil_append] at w7
 refine a4f (b4q (xs:=us)) (fun i σ' J=>∃ (o3:Option V) (cc:Nat) (mr:List V),σ' = [some (.ref p),some (.ref x),o3]/\WFr x pm pr H7 J/\WS K t.k_Writing J x dx ps pm pr u [] cc mr/\DenL K J mr (frameD :: a7d u [] ++ gsR (ix u) (fun _=>a3c) 0 (gs.take i))) ⟨none,_,_,rfl,WFr.refl _ _ _ _,w7,by rw [List.take_zero,gsR,List.append_nil]; exact d7⟩ (fun i σ' J hP=>by obtain ⟨_,_,_,_,h,_⟩:=hP; exact (FR (f7.trans h)).seq hp) (fun i σ' J hi hP=>?_) (fun σ' J hP=>?_)
 ·obtain ⟨o3,cc,mr,rfl,g1,g2,g3⟩:=hP
  have hgi:i < gs.length:=by omega
  obtain ⟨hui,dk⟩:=c0v hgs hgi
  obtain ⟨ow,zw⟩:=hgo _ (List.getElem_mem hgi)
  rw [getD_at hui]
  have dk:=dk.mono (FR (f7.trans g1))
  have hvi:=hvg gs[i] (List.getElem_mem hgi)
  have zk:=gs[i].kids_size
  have l3:=g3.length
  have l4:=b1x (ix u) (fun _=>a3c) 0 (gs.take i) fun g hg=>hgo g (List.mem_of_mem_take hg)
  rw [List.length_append,List.length_cons] at l3
  rw [List.length_take] at l4
  walk_at "stp"
  refine ⟨x,dx,_,rfl,g2.o,a2h,?_⟩
  walk_at "stp"
  refine ⟨dx,ps,pm,pr,u,_,_,_,gs[i],g2,dk,ow,hvi,by omega,by omega,fun J2 c2 ms f2 w3 d3=>?_⟩
  refine ⟨_,c2,mr ++ ms,rfl,g1.trans f2,w3,?_⟩
  rw [b2q hgi,b2p,<- List.append_assoc]
  exact (g3.monoT (g2.tup f2)).append d3
 obtain ⟨o3,cc,mr,rfl,g1,g2,g3⟩:=hP
 rw [List.take_of_length_le (by omega)] at g3
 have l3:=g3.length
 have l4:=b1x (ix u) (fun _=>a3c) 0 gs hgo
 rw [List.length_append,List.length_cons] at l3
 walk_at "stp"
 refine ⟨x,dx,_,rfl,g2.o,a2h,?_⟩
 walk_at "stp"
 refine ⟨ln (by show 1<=100000; decide),fun q1 hq1=>?_⟩
 have sq1:=a0f hq1 (.tup [.str (Str.ofString "tell")])
 have kq1:(upd J q1 (.tup [.str (Str.ofString "tell")])) q1 = some (.tup [.str (Str.ofString "tell")]):=a0d
 generalize upd J q1 (.tup [.str (Str.ofString "tell")]) = Jq1 at sq1 kq1 ⊢
 walk_at "stp"
 have aq1:=g2.same sq1
 refine ⟨dx,ps,pm,pr,_,_,aq1.o,aq1.r,by first | omega | (simp only [List.length_append,List.length_cons,List.length_nil] at *; omega),?_⟩
 obtain ⟨ww7,fww7⟩:=aq1.row (.ref q1)
 have fww7:=(WFr.of (x:=x) (pm:=pm) (pr:=pr) sq1).trans fww7
 have tq1:=(aq1.tup (show WFr x pm pr Jq1 _ from (aq1.row (.ref q1)).2)) _ _ (SqT.of kq1)
 generalize upd Jq1 pr (.lst (_ ++ [.ref q1])) = HH7 at ww7 fww7 tq1 ⊢
 have s09:=FR (f7.trans (g1.trans fww7))
 walk_at "stp"
 refine ⟨x,_,dx,_,_,rfl,ww7.o,T.cl_Writing,T.no_Writing_slots,a5m _ _ _ _,?_⟩
 refine ⟨ps,_,rfl,ww7.s,?_⟩
 rw [a2s]
 walk_at "stp"
 refine ⟨x,_,dx,_,_,rfl,ww7.o,T.cl_Writing,T.no_Writing_rows,b1o _ _ _ _,?_⟩
 walk_at "stp"
 refine ⟨ln (by show 3<=100000; decide),fun p9 hp9=>?_⟩
 have s9:=a0f hp9 (.tup [.int 0,.int (u.length:Int),.ref pr])
 refine q p9 pr (mr ++ [.ref q1]) _ (s09.trans s9) a0d (s9 _ _ ww7.r) ?_
 rw [askR,gsR_ask]
 exact ((g3.monoT (g2.tup fww7)).append (.cons (b9b tq1) .nil)).mono s9
end
noncomputable abbrev a8f (K:W.Frag):Sp:=fun vs H Q _=>match vs with
 | [.ref a,.int m]=>∃ ns:List Int,SqL K H a (ns.map V.int)/\ns.length<=63/\0<=m/\m<=200/\∀ (p:Addr) (cs:List Int) (H':Hp),cs.length = m.toNat->Same H H'->H' p = some (.lst (cs.map V.int))->Q (.ref p) H'
 | _=>False
noncomputable abbrev a8d:Sp:=fun vs H Q _=>match vs with
 | [.ref p]=>∃ ns:List Int,H p = some (.lst (ns.map V.int))/\∀ (v:Int) (ns':List Int) (H':Hp),But p H H'->(∀ b,H' b = none->H b = none)->H' p = some (.lst (ns'.map V.int))->Q (.int v) H'
 | _=>False
noncomputable abbrev a5h:Sp:=fun vs H Q _=>match vs with | [.int n]=>Q (.bl true) H | _=>False
noncomputable abbrev b0z (K:W.Frag):Sp:=fun vs H Q _=>match vs with | [.int c,.int at_,.int k]=>∀ (z:Str) (H':Hp),b0n z->Same H H'->Q (.str z) H' | _=>False
noncomputable abbrev a9x:Sp:=fun vs H Q _=>match vs with | [.int c,.int at_]=>∀ (p:Addr) (ws:List Str) (H':Hp),ws.length = 4->(∀ w ∈ ws,b0n w)->Same H H'->H' p = some (.lst (ws.map V.str))->Q (.ref p) H' | _=>False
noncomputable abbrev b1a:Sp:=fun vs H Q _=>match vs with | [.int c,.int k]=>∀ (z:Str) (H':Hp),Same H H'->Q (.str z) H' | _=>False
noncomputable abbrev a9y:Sp:=fun vs H Q _=>match vs with | [.int c]=>∀ (p:Addr) (xs:List Str) (H':Hp),xs.length = 6->Same H H'->H' p = some (.lst (xs.map V.str))->Q (.ref p) H' | _=>False
noncomputable abbrev a5u:Sp:=fun vs H Q _=>match vs with | [.int c]=>∀ n:Int,Q (.int n) H | _=>False
noncomputable abbrev a4b (K:W.Frag) (n:Nat):Sp:=fun vs H Q _=>match vs with | [v]=>∃ t:Trm,Den K H v t.data/\t.size<=n/\n<=1000/\∀ H',Same H H'->Q (.int t.size) H' | _=>False
theorem c3t {K:W.Frag} {H:Hp} {Q:VK} {v:V} (h:∃ t:Trm,Den K H v t.data/\t.size<=0/\0<=1000/\∀ H',Same H H'->Q (.int t.size) H'):False:=by
 obtain ⟨t,_,h,_⟩:=h
 have:=t.size_pos
 omega
noncomputable abbrev a9f:Sp:=fun vs H Q _=>match vs with | [.int c]=>∀ z:Str,Q (.str z) H | _=>False
structure Wd (H:Hp) (q wp np:Addr) (ws xs:List Str):Prop where
 l:H q = some (.lst [.ref wp,.ref np])
 w:H wp = some (.lst (ws.map V.str))
 x:H np = some (.lst (xs.map V.str))
 wl:ws.length = 4
 xl:xs.length = 6
noncomputable abbrev a9m:Sp:=fun vs H Q _=>match vs with | [.int c,.int m,.ref q]=>∃ (wp np:Addr) (ws xs:List Str),Wd H q wp np ws xs/\∀ (z:Str) (H':Hp),Same H H'->Q (.str z) H' | _=>False
theorem Wd.same {H H':Hp} {q wp np:Addr} {ws xs:List Str} (d:Wd H q wp np ws xs) (s:Same H H'):Wd H' q wp np ws xs:=⟨s _ _ d.l,s _ _ d.w,s _ _ d.x,d.wl,d.xl⟩
theorem Wd.ne {H:Hp} {q wp np p:Addr} {ws xs:List Str} {ns:List Int} (d:Wd H q wp np ws xs) (h:H p = some (.lst (ns.map V.int))):q ≠ p/\wp ≠ p/\np ≠ p:=by
 have key:∀ (ss:List Str),1<=ss.length->ss.map V.str ≠ ns.map V.int:=fun ss hs e=>by
  cases ss with
  | nil=>simp at hs
  | cons a r=>cases ns with
   | nil=>simp at e
   | cons n m=>simp at e
 refine ⟨fun z=>?_,fun z=>?_,fun z=>?_⟩
 ·have e:=d.l; rw [z,h] at e
  have e:=Option.some.inj e
  cases ns with
  | nil=>simp at e
  | cons n m=>simp at e
 ·have e:=d.w; rw [z,h] at e
  exact key ws (by rw [d.wl]; decide) (HO.lst.inj (Option.some.inj e)).symm
 ·have e:=d.x; rw [z,h] at e
  exact key xs (by rw [d.xl]; decide) (HO.lst.inj (Option.some.inj e)).symm
theorem Wd.but {H H':Hp} {q wp np p:Addr} {ws xs:List Str} {ns:List Int} (d:Wd H q wp np ws xs) (h:H p = some (.lst (ns.map V.int))) (b:But p H H'):Wd H' q wp np ws xs:=by
 obtain ⟨n1,n2,n3⟩:=d.ne h
 exact ⟨b _ _ n1 d.l,b _ _ n2 d.w,b _ _ n3 d.x,d.wl,d.xl⟩
theorem b3m:∀ ks:List Trm,(ks.map fun t:Trm=>(t.size:Int)).sum = (Trm.sizeL ks:Int)
 | []=>rfl
 | t :: r=>by rw [List.map_cons,List.sum_cons,b3m r,Trm.sizeL]; omega
theorem c9k (c:Nat):inS (one c) a6t = inner (one c):=by
 have e:∀ j:Str,inS (one c) j = decide (c ∈ j.cps.toList):=fun j=>b6w c j
 unfold inner
 rw [e,e,e,e]
 have q:a6t.cps.toList = a2f.cps.toList ++ (a6f.cps.toList ++ figS.cps.toList):=by decide +kernel
 rw [q,Bool.eq_iff_iff]
 simp only [List.mem_append,Bool.or_eq_true,decide_eq_true_eq]
theorem tail_in {i:Int} {y:Nat} (h:atI a6t.cps.toList i = some y):inner (one y) = true:=by
 rw [<- c9k,b6w]
 exact decide_eq_true (a9z h)
theorem small26:∀ k:Fin 26,((a6t.cps.toList[k.1]?).all fun y=>decide (y ∈ a2f.cps.toList)) = true:=by decide +kernel
theorem c3u {i:Int} {y:Nat} (h0:0<=i) (h1:i < 26) (h:atI a6t.cps.toList i = some y):inS (one y) a2f = true:=by
 rw [b6w]
 obtain ⟨k,rfl⟩:=Int.eq_ofNat_of_zero_le h0
 have hk:k < 26:=by omega
 have q:=small26 ⟨k,hk⟩
 have l62:a6t.cps.toList.length = 62:=by decide +kernel
 have e:a6t.cps.toList[k]? = some y:=by
  obtain ⟨v,e1,e2⟩:=a6d (xs:=a6t.cps.toList) (i:=(k:Int)) (by omega) (by omega)
  rw [h] at e1
  cases e1
  exact e2
 show decide (y ∈ a2f.cps.toList) = true
 have q:(a6t.cps.toList[k]?).all (fun y=>decide (y ∈ a2f.cps.toList)) = true:=q
 rw [e] at q
 exact q
theorem c6t {r:List Nat} (h1:1<=r.length) (h2:r.length<=12) (ha:∀ c ∈ r,inner (one c) = true) (hf:∀ c,r.head? = some c->inS (one c) a2f = true):called ⟨r.toArray⟩ a2f = true:=by
 cases r with
 | nil=>simp at h1
 | cons c r=>
  have e1:(⟨(c :: r).toArray⟩:Str).length = (c :: r).length:=str_len _
  unfold called
  rw [e1,decide_eq_true (by omega),decide_eq_true (by omega)]
  have e2:fst (⟨(c :: r).toArray⟩:Str) = one c:=by simp [fst,one]
  rw [e2,hf c rfl]
  simp only [Bool.true_and,List.all_eq_true]
  exact fun x hx=>ha x (by simpa using hx)
theorem c9l {z:Str} (h:z ∈ [notS,a2p]):b0n (z ++ Str.ofString "1"):=by
 simp only [List.mem_cons,List.not_mem_nil,or_false] at h
 rcases h with rfl | rfl
 ·exact ⟨by decide +kernel,by decide +kernel,by decide +kernel,by decide +kernel⟩
 ·exact ⟨by decide +kernel,by decide +kernel,by decide +kernel,by decide +kernel⟩
noncomputable abbrev a4q (K:W.Frag) (n:Nat):Sp:=fun vs H Q _=>match vs with
 | [.ref p,.int room,.ref q]=>∃ (ns:List Int) (wp np:Addr) (ws xs:List Str),Wd H q wp np ws xs/\H p = some (.lst (ns.map V.int))/\1<=room/\room<=(n:Int)/\n<=40 /\
  ∀ (r:Addr) (H':Hp) (t:Trm) (ns':List Int),But p H H'->(∀ b,H' b = none->H b = none)->H' p = some (.lst (ns'.map V.int))->Den K H' (.ref r) t.data->(t.size:Int)<=room->ar4 t->(∀ x ∈ vars t,x ∈ xs)->Q (.ref r) H'
 | _=>False
noncomputable abbrev a6q (K:W.Frag) (n:Nat):Sp:=fun vs H Q _=>match vs with
 | [.ref p,.int many,.int room,.ref q]=>∃ (ns:List Int) (wp np:Addr) (ws xs:List Str),Wd H q wp np ws xs/\H p = some (.lst (ns.map V.int))/\0<=many/\many<=4/\many<=room/\room<=(n:Int)/\n<=40 /\
  ∀ (r:Addr) (us:List V) (H':Hp) (ts:List Trm) (ns':List Int),But p H H'->(∀ b,H' b = none->H b = none)->H' p = some (.lst (ns'.map V.int))->H' r = some (.tup us)->DenL K H' us (Trm.dataL ts)->(ts.length:Int) = many->(Trm.sizeL ts:Int)<=room->ar4L ts->(∀ x ∈ a1f ts,x ∈ xs)->Q (.ref r) H'
 | _=>False
theorem c0x:∀ {ts:List Trm},ar4L ts ↔ ∀ t ∈ ts,ar4 t
 | []=>by rw [ar4L]; simp
 | k :: ks=>by rw [ar4L,c0x]; simp
theorem b7y:∀ (a b:List Trm),a1f (a ++ b) = a1f a ++ a1f b
 | [],b=>by simp [a1f]
 | k :: a,b=>by simp [a1f,b7y a b]
noncomputable def Go.fit (g:Go) (xs:List Str):Prop:=g.ok/\g.trm.size<=30/\ar4L g.kids/\g.kids.length<=4/\∀ x ∈ a1f g.kids,x ∈ xs
noncomputable abbrev b1b (K:W.Frag):Sp:=fun vs H Q _=>match vs with
 | [.ref p,.ref q]=>∃ (ns:List Int) (wp np:Addr) (ws xs:List Str),Wd H q wp np ws xs/\H p = some (.lst (ns.map V.int))/\(∀ w ∈ ws,b0n w) /\
  ∀ (r:Addr) (H':Hp) (g:Go) (ns':List Int),But p H H'->(∀ b,H' b = none->H b = none)->H' p = some (.lst (ns'.map V.int))->Den K H' (.ref r) g.trm.data->g.fit xs->Q (.ref r) H'
 | _=>False
noncomputable abbrev a8k (K:W.Frag):Sp:=fun vs H Q _=>match vs with | [.ref a]=>∃ (us:List V) (ts:List Trm),SqL K H a us/\DenL K H us (Trm.dataL ts)/\Trm.sizeL ts<=500/\∀ (p:Addr) (H':Hp),Same H H'->H' p = some (.dK (encJ 0 (ordL ts [])))->Q (.ref p) H' | _=>False
noncomputable abbrev a3f (K:W.Frag) (n:Nat):Sp:=fun vs H Q _=>match vs with | [v,.ref d]=>∃ (t:Trm) (u:List Str),Den K H v t.data/\H d = some (.dK (encJ 0 u))/\(∀ x ∈ vars t,x ∈ u)/\t.size<=n/\n<=60/\∀ (x:V) (H':Hp),Same H H'->Den K H' x (byD (ix u) t)->Q x H' | _=>False
theorem b8i {K:W.Frag} {H:Hp} {v:V} {d:Addr} {R:Trm->List Str->Prop} (h:∃ (t:Trm) (u:List Str),Den K H v t.data/\H d = some (.dK (encJ 0 u))/\(∀ x ∈ vars t,x ∈ u)/\t.size<=0/\0<=60/\R t u):False:=by
 obtain ⟨t,_,_,_,_,z,_⟩:=h
 have:=Trm.size_pos t
 omega
section
variable {P:Program} {w:World} {K:W.Frag} {mg:Str->Option Value} {base:Heap} {t:Ad}
theorem c3v (T:Txt K mg t)  : FnOk P w K mg base CX0 1 t.a_l_whole t.d_l_whole ["_law_found"] (a5h):=by
 refine T.F_l_whole.ok c3o (fun vs H Q E h=>?_) (fun cdv A outer s H vs Q E hr h=>?_)
 ·unfold a5h at h
  split at h
  ·rfl
  ·exact h.elim
 unfold a5h at h
 split at h
 rotate_left
 ·exact h.elim
 refine ⟨_,(a0g (a0p (a6c (a0t (b0s K rfl) rfl T.n_isinstance boot_isinstance (a0a (mv 0) (a0a (a9e rfl T.n_int boot_int) a0c))) (a5z (c5h K rfl (a0t (b0s K rfl) rfl T.n_isinstance boot_isinstance (a0a (mv 0) (a0a (a9e rfl T.n_bool boot_bool) a0c)))))))),?_⟩
 rename_i n
 walk_at "stp"
 refine iteT ?_
 walk_at "stp"
 exact h
theorem c3w (T:Txt K mg t)  : FnOk P w K mg base CX0 1 t.a_l_cells t.d_l_cells ["_law_script","_law_many"] (a8f K):=by
 refine T.F_l_cells.ok a8g (fun vs H Q E h=>?_) (fun cdv A outer s H vs Q E hr h=>?_)
 ·unfold a8f at h
  split at h
  ·rfl
  ·exact h.elim
 unfold a8f at h
 split at h
 rotate_left
 ·exact h.elim
 refine ⟨_,(a0e (a0r (i:=2) (hs:=a1x) a8g.nd rfl (by walk_at "or1") (a3e (b6x K rfl) rfl T.n_list boot_list (a0a (a6b (a8u K rfl) (mv 0) a7v (a7w (mv 1))) a0c))) (a0e (a0r (i:=3) (hs:=a2o) a8g.nd rfl (by walk_at "or1") (a0m (a1d K rfl) a0b (a0t (a1r K rfl) rfl T.n_len PySem.boot_len (a0a (mv 0) a0c)))) (a0e (a8o PassesOwn.never (a0q a8z (a0t (a1r K rfl) rfl T.n_len PySem.boot_len (a0a (mv 2) a0c)) (mv 1) (a0o _)) (a0e (a1b (a0q b8s (a0t (a1r K rfl) rfl T.n_len PySem.boot_len (a0a (mv 0) a0c)) a0b (a0o _)) (a0g (a0r (i:=3) (hs:=a2o) a8g.nd rfl (by walk_at "or1") (a0m (a1d K rfl) (mv 3) (a0l (a0h K rfl) (mv 0) (a0m a1l (a0t (a1r K rfl) rfl T.n_len PySem.boot_len (a0a (mv 2) a0c)) (a0t (a1r K rfl) rfl T.n_len PySem.boot_len (a0a (mv 0) a0c))) (fun _ _=>rfl))))) a0x) (a0e (a0r (i:=3) (hs:=a2o) a8g.nd rfl (by walk_at "or1") (a0m a1l (a0m (a1d K rfl) (a0m a6y (mv 3) a0b) a0b) a0b)) (a0g (a1e (a9s K rfl F.plainAttrs_list F.slot_list_append F.type_list_append a7x (mv 2) (a0a (a0m a2q (mv 3) a0b) a0c))))))) (a0g (a0p (mv 2)))))),?_⟩
 rename_i a m
 obtain ⟨ns,hS,hn,h0,h1,q⟩:=h
 walk_at "stp"
 refine mSlL_i hS fun p1 hp1=>?_
 walk_at "stp"
 refine mLst_l (SqL.of a0d) fun p hp=>?_
 walk_at "stp"
 rw [c8l] at hp ⊢
 generalize hc0:(ns.drop (HT.sIx ns.length 0 none)).take (HT.sIx ns.length ns.length (some m) - HT.sIx ns.length 0 none) = cs0 at hp ⊢
 have hl0:cs0.length<=m.toNat:=by
  rw [<- hc0,List.length_take,sIx_to _ _ h0]
  omega
 have s1:Same H (upd H p1 (.lst (cs0.map V.int))):=a0f hp1 _
 have hp0:H p = none:=s1.free hp
 have s2:Same H (upd (upd H p1 (.lst (cs0.map V.int))) p (.lst (cs0.map V.int))):=s1.trans (a0f hp _)
 have hpp:upd (upd H p1 (.lst (cs0.map V.int))) p (.lst (cs0.map V.int)) p = some (.lst (cs0.map V.int)):=a0d
 generalize upd (upd H p1 (.lst (cs0.map V.int))) p (.lst (cs0.map V.int)) = H2 at s2 hpp ⊢
 refine a4h (s2.seq hS) ?_
 walk_at "stp"
 refine a8a (fun n σ' H'=>∃ (x:Int) (cs:List Int),σ' = [some (.ref a),some (.int m),some (.ref p),some (.int x)]/\H' p = some (.lst (cs.map V.int))/\Same H H'/\cs.length<=m.toNat/\n = m.toNat - cs.length) _ ⟨_,cs0,rfl,hpp,s2,hl0,rfl⟩ (fun n σ' H' R hP kT kF=>?_)
 obtain ⟨x,cs,rfl,h2,h3,h4,h5⟩:=hP
 walk_at "stp"
 refine a4h (SqL.of h2) ?_
 walk_at "stp"
 by_cases hlt:cs.length < m.toNat
 ·have e:decide (((cs.map V.int).length:Int) < m) = true:=decide_eq_true (by rw [List.length_map]; omega)
  rw [e]
  refine kT H' (fun D' e1 e2 hnx hct=>?_)
  have rest:∀ y:Int,(D'.nx) [some (.ref a),some (.int m),some (.ref p),some (.int ((y * 39373 + 101) % 2147483647))] (upd H' p (.lst (cs.map V.int ++ [V.int ((y * 39373 + 101) % 2147483647 / 13)]))):=fun y=>by
   refine hnx _ _ (m.toNat - (cs.length + 1)) (by omega) ⟨_,cs ++ [(y * 39373 + 101) % 2147483647 / 13],rfl,by rw [a0d,List.map_append]; rfl,a2k h3 hp0,by rw [List.length_append,List.length_singleton]; omega,by rw [List.length_append,List.length_singleton]⟩
  (with_reducible refine a7i (fun σ' H1=>∃ y:Int,σ' = [some (.ref a),some (.int m),some (.ref p),some (.int y)]/\H1 = H') (fun σ' H1 hP=>?_) (fun k=>?_))
  rotate_left
  ·walk_at "stm"
   refine a4h (h3.seq hS) ?_
   walk_at "stm"
   refine iteB (fun e3=>?_) (fun e3=>?_)
   ·walk_at "stm"
    refine a4h (SqL.of h2) ?_
    walk_at "stm"
    refine a4h (h3.seq hS) ?_
    have hpos:=of_decide_eq_true e3
    refine m2_i (show (0:Int) < _ from hpos) ?_
    have b1:=Int.emod_nonneg ((cs.map V.int).length:Int) (show ((ns.map V.int).length:Int) ≠ 0 by omega)
    have b2:=Int.emod_lt_of_pos ((cs.map V.int).length:Int) hpos
    obtain ⟨v,hv,hv2⟩:=a6d (xs:=ns.map V.int) b1 b2
    obtain ⟨z,rfl⟩:=ints_at hv
    refine a1p (h3.seq hS) hv ?_
    walk_at "stm"
    exact k _ _ ⟨_,rfl,rfl⟩
   ·walk_at "stm"
    exact k _ _ ⟨_,rfl,rfl⟩
  obtain ⟨y,rfl,rfl⟩:=hP
  walk_at "stp"
  refine a6e (a4d (by decide)) ?_
  walk_at "stp"
  refine ⟨.inl ⟨rfl,_,SqL.of h2⟩,?_⟩
  walk_at "stp"
  refine a7y h2 (ln1 (by rw [List.length_map]; omega)) ?_
  exact rest y
 ·have e:decide (((cs.map V.int).length:Int) < m) = false:=decide_eq_false (by rw [List.length_map]; omega)
  rw [e]
  refine kF H' ?_
  walk_at "stp"
  exact q p cs H' (by omega) h3 h2
theorem c6u (T:Txt K mg t)  : FnOk P w K mg base CX0 1 t.a_l_next t.d_l_next ["_law_left"] (a8d):=by
 refine T.F_l_next.ok c6i (fun vs H Q E h=>?_) (fun cdv A outer s H vs Q E hr h=>?_)
 ·unfold a8d at h
  split at h
  ·rfl
  ·exact h.elim
 unfold a8d at h
 split at h
 rotate_left
 ·exact h.elim
 refine ⟨_,(a0e (a1b (a0q a1h (a0t (a1r K rfl) rfl T.n_len PySem.boot_len (a0a (mv 0) a0c)) a0b (a0o _)) (a0g (a0p a0b)) a0x) (a0g (a0p (b3d K rfl F.plainAttrs_list F.slot_list_pop F.type_list_pop b9v (mv 0))))),?_⟩
 rename_i p
 obtain ⟨ns,hp,q⟩:=h
 walk_at "stp"
 refine a4h (SqL.of hp) ?_
 walk_at "stp"
 rcases c1r ns with rfl | ⟨ns',x,rfl⟩
 ·refine iteT ?_
  walk_at "stp"
  exact q 0 [] H (But.refl _ _) (fun _ h=>h) hp
 ·have e:(false ^^ decide ((((ns' ++ [x]).map V.int).length:Int) = 0)) = false:=by simp; omega
  rw [e]
  refine iteF ?_
  walk_at "stp"
  rw [List.map_append] at hp
  refine ⟨.inl ⟨rfl,_,SqL.of hp⟩,?_⟩
  refine b9z (v:=V.int x) hp ?_
  exact q x ns' _ a3d (fun b h=>by
   by_cases z:b = p
   ·subst z; rw [a0d] at h; cases h
   ·rwa [a0n z] at h) a0d
theorem c1u (T:Txt K mg t)  : FnOk P w K mg base CX0 1 t.a_l_number t.d_l_number ["_law_cell"] (a5u):=by
 refine T.F_l_number.ok c1q (fun vs H Q E h=>?_) (fun cdv A outer s H vs Q E hr h=>?_)
 ·unfold a5u at h
  split at h
  ·rfl
  ·exact h.elim
 unfold a5u at h
 split at h
 rotate_left
 ·exact h.elim
 refine ⟨_,(a0e (a1b (a0q a1h (a0m a1l (mv 0) a0b) a0b (a0o _)) (a0g (a0p (a0m a5p (a0m a1l (a0m a6y (a0m a2q (mv 0) a0b) a0b) (a0m a5p (a0m a6y a0b (a0m c5e a0b a0b)) a0b)) (a0m a5p (a0m c5e a0b a0b) a0b)))) a0x) (a0g (a0p (a0m a5p (a0m a1l (a0m a2q (mv 0) a0b) a0b) a0b)))),?_⟩
 rename_i c
 have hp:(0:Int) < 2 * 10 ^ (30:Int).toNat - 1:=by decide +kernel
 walk_at "stp"
 refine iteB (fun e=>?_) (fun e=>?_)
 ·walk_at "stp"
  refine a6e (a4d (by decide)) ?_
  walk_at "stp"
  refine m2_i (C:=CPow) ⟨by decide,by decide,by decide⟩ ?_
  walk_at "stp"
  refine a6e (b2g (by decide)) ?_
  walk_at "stp"
  refine m2_i (C:=CPow) ⟨by decide,by decide,by decide⟩ ?_
  walk_at "stp"
  exact h _
 ·walk_at "stp"
  exact h _
theorem c3x (T:Txt K mg t)  (n:Nat) (G_l_parts:FnOk P w K mg base CX0 (n + 1) t.a_l_parts t.d_l_parts ["_law_term_here"] (a4b K n)):FnOk P w K mg base CX0 (n + 1 + 1) t.a_l_parts t.d_l_parts ["_law_term_here"] (a4b K (n + 1)):=by
 refine T.F_l_parts.ok (k:=n + 1) c3q (fun vs H Q E h=>?_) (fun cdv A outer s H vs Q E hr h=>?_)
 ·unfold a4b at h
  split at h
  ·rfl
  ·exact h.elim
 unfold a4b at h
 split at h
 rotate_left
 ·exact h.elim
 refine ⟨_,(a0e (a1b (a0q a1h (a0l (a0h K rfl) (mv 0) a0b (fun _ _=>rfl)) a0i (a0o _)) (a0g (a0p (a0m (a1d K rfl) a0b (a0t (kc_sum K rfl rfl) rfl T.n_sum boot_sum (a0a (b1m rfl (c2h K rfl (a0l (a0h K rfl) (mv 0) a0b (fun _ _=>rfl))) (a8t (a0j a5d) ["_law_term_here"] ["_law_term_here"] rfl rfl (by decide +kernel)) (fun _ _ _ _ _=>a8s) (fun _ _ _ _ _=>(a0u G_l_parts (hr.mono (by walk_at "rm1")) rfl T.m_l_parts T.F_l_parts.kp T.b_l_parts .nil a0s (a0a (mv 0) a0c)))) a0c))))) a0x) (a0g (a0p a0b))),?_⟩
 rename_i v
 obtain ⟨t0,hd,hz,hn,q⟩:=h
 cases t0 with
 | num m=>
  obtain ⟨a,rfl,hs⟩:=a8v hd
  walk_at "stp"
  refine a0k hs (v:=.str numS) rfl ?_
  walk_at "stp"
  rw [Bool.false_xor,d1]
  refine iteF ?_
  walk_at "stp"
  exact q H (Same.refl H)
 | any m=>
  obtain ⟨a,rfl,hs⟩:=a8w hd
  walk_at "stp"
  refine a0k hs (v:=.str anyS) rfl ?_
  walk_at "stp"
  rw [Bool.false_xor,d2]
  refine iteF ?_
  walk_at "stp"
  exact q H (Same.refl H)
 | app sg ks=>
  obtain ⟨a,b,us,rfl,hs,hb,hk⟩:=a4z hd
  walk_at "stp"
  refine a0k hs (v:=.str appS) rfl ?_
  walk_at "stp"
  rw [Bool.false_xor,d3]
  refine iteT ?_
  walk_at "stp"
  refine a0k hs (v:=.ref b) rfl ?_
  refine ⟨b,rfl,⟨_,hb⟩,fun D hD=>?_⟩
  simp only [Trm.size] at hz
  have hl:=hk.length
  rw [Trm.dataL_map,List.length_map] at hl
  have l4:=Trm.len_le ks
  refine a7h (b6u (xs:=us)) (fun i ys H'=>Same H H'/\ys = ((ks.take i).map fun t:Trm=>V.int t.size)/\H' D = some (.lst ys)) (ln (by omega)) ⟨a0f hD _,rfl,a0d⟩ (fun i ys H' hP=>hP.1.tup hb) (fun i ys H' Q' hi' hl' hP k=>?_) (fun ys H' hl' hP=>?_)
  ·obtain ⟨g1,g2,g3⟩:=hP
   have hki:i < ks.length:=by omega
   have hx:us[i]? = some us[i]:=List.getElem?_eq_getElem hi'
   have hg:us.getD i .non = us[i]:=by rw [List.getD_eq_getElem?_getD,hx]; rfl
   obtain ⟨d,e1,e2⟩:=hk.get hx
   rw [Trm.dataL_map,List.getElem?_map,List.getElem?_eq_getElem hki] at e1
   have e1:ks[i].data = d:=Option.some.inj e1
   subst e1
   walk_at "stp"
   rw [hg]
   have hsz:ks[i].size<=Trm.sizeL ks:=by
    have e:=Trm.sizeL_app (ks.take i) (ks.drop i)
    rw [List.take_append_drop,List.drop_eq_getElem_cons hki,Trm.sizeL] at e
    omega
   refine ⟨ks[i],e2.mono g1,by omega,by omega,fun H2 s2=>?_⟩
   refine k _ _ (s2 _ _ g3) ⟨a2k (g1.trans s2) hD,?_,a0d⟩
   rw [g2,List.take_add_one,List.getElem?_eq_getElem hki,List.map_append]
   rfl
  ·obtain ⟨g1,g2,g3⟩:=hP
   have e:ks.take us.length = ks:=List.take_of_length_le (by omega)
   rw [e] at g2
   walk_at "stp"
   refine ⟨D,ks.map fun t:Trm=>(t.size:Int),rfl,SqL.of (by rw [List.map_map]; exact g2 ▸ g3),fun n hn=>?_,?_,?_⟩
   ·obtain ⟨t,_,rfl⟩:=List.mem_map.mp hn
    omega
   ·rw [b3m]; omega
   ·walk_at "stp"
    rw [b3m]
    have e:(1:Int) + (Trm.sizeL ks:Int) = ((Trm.app sg ks).size:Int):=by simp only [Trm.size]; omega
    rw [e]
    exact q H' g1
theorem c3y (T:Txt K mg t)  (n:Nat):FnOk P w K mg base CX0 (n + 1) t.a_l_parts t.d_l_parts ["_law_term_here"] (a4b K n):=by
 induction n with
 | zero=>
  have no:∀ vs H Q E,(a4b K 0) vs H Q E->False:=fun vs H Q E h=>by
   unfold a4b at h
   split at h
   ·exact c3t h
   ·exact h
  exact ⟨fun vs H Q E h=>(no vs H Q E h).elim,fun A outer s H args us vs Q E _ _ _ _ h=>(no vs H Q E h).elim⟩
 | succ n ih=>
  have e:n + 1 + 1 = n + 1 + 1:=by omega
  rw [e]
  exact c3x T  n ih
theorem c6v (T:Txt K mg t)  : FnOk P w K mg base CX0 1 t.a_l_mark t.d_l_mark ["_law_cell"] (a9f):=by
 refine T.F_l_mark.ok a9g (fun vs H Q E h=>?_) (fun cdv A outer s H vs Q E hr h=>?_)
 ·unfold a9f at h
  split at h
  ·rfl
  ·exact h.elim
 unfold a9f at h
 split at h
 rotate_left
 ·exact h.elim
 refine ⟨_,(a0e (a0r (i:=1) a9g.nd rfl (by walk_at "or1") a0i) (a0e (a0r (i:=2) a9g.nd rfl (by walk_at "or1") a0i) (a0e (a3n PassesOwn.never rfl (a4n rfl T.n_range (a0a (a0m (a1d K rfl) a0b (a0m a1l (mv 0) a0b)) a0c)) (a2d (i:=3) a9g.nd rfl (by walk_at "or1")) (a0g (a0r (i:=2) (hs:=a2o) a9g.nd rfl (by walk_at "or1") (a0m (a1d K rfl) (mv 2) (a0l (a0h K rfl) (mv 1) (a0m a1l (a0m a2q (a0m a2q (mv 0) a0b) (a0m mo_shl a0b (a0m a6y a0b (mv 3)))) a0b) (fun _ _=>rfl)))))) (a0e (a1b (a0q a1h (mv 2) a0i (a0o _)) (a0g (a0p a0i)) a0x) (a0g (a0p (mv 2))))))),?_⟩
 rename_i c
 have b1:=Int.emod_nonneg c (show (3:Int) ≠ 0 by decide)
 have b2:=Int.emod_lt_of_pos c (show (0:Int) < 3 by decide)
 walk_at "stp"
 refine ⟨_,rfl,by omega,by omega,?_⟩
 refine a4f (a3p 0 (1 + c % 3).toNat) (fun i σ' H'=>∃ (o:Option V) (r:List Nat),σ' = [some (.int c),some (.str b8x),some (.str ⟨r.toArray⟩),o]/\r.length = i/\H' = H) ⟨none,[],rfl,rfl,rfl⟩ (fun _ _ _ _=>trivial) (fun i σ' H' hi hP=>?_) (fun σ' H' hP=>?_)
 ·obtain ⟨o,r,rfl,hl,rfl⟩:=hP
  have hi3:i = 0\/i = 1\/i = 2:=by omega
  walk_at "stp"
  refine a6e (b2g (by decide)) ?_
  refine m2_i (C:=CPow) ⟨by omega,by omega,by decide⟩ ?_
  have hd:∃ d:Int,1 * 2 ^ (4 * (0 + (i:Int))).toNat = d/\0 < d/\d < 1073741824:=by
   rcases hi3 with rfl | rfl | rfl <;> exact ⟨_,rfl,by decide,by decide⟩
  obtain ⟨d,hd,hd0,hd1⟩:=hd
  rw [hd]
  refine m2_i (b5y hd0 hd1) ?_
  walk_at "stp"
  obtain ⟨y,hy⟩:=b0r (z:=b8x) (Int.emod_nonneg (c / 3 / d) (show (16:Int) ≠ 0 by decide)) (by rw [mk16]; exact Int.emod_lt_of_pos _ (by decide))
  refine b3w (ln (by rw [mk16]; decide)) hy ?_
  walk_at "stp"
  refine a8e ?_ ?_
  ·refine ln ?_
   rw [str_len,show (⟨#[y]⟩:Str).length = 1 from rfl]
   omega
  walk_at "stp"
  refine ⟨some (.int (0 + (i:Int))),r ++ [y],?_,by rw [List.length_append,hl]; rfl,rfl⟩
  have e:(⟨r.toArray⟩:Str) ++ ⟨#[y]⟩ = ⟨(r ++ [y]).toArray⟩:=c2j r [y]
  rw [e]
  rfl
 ·obtain ⟨o,r,rfl,hl,rfl⟩:=hP
  walk_at "stp"
  refine iteB (fun e=>?_) (fun e=>?_)
  ·walk_at "stp"
   exact h _
  ·walk_at "stp"
   exact h _
theorem c6w (T:Txt K mg t) (G_l_mark:FnOk P w K mg base CX0 1 t.a_l_mark t.d_l_mark ["_law_cell"] (a9f)):FnOk P w K mg base CX0 2 t.a_l_sign t.d_l_sign ["_law_cell","_law_many","_law_words_here"] (a9m):=by
 refine T.F_l_sign.ok c6j (fun vs H Q E h=>?_) (fun cdv A outer s H vs Q E hr h=>?_)
 ·unfold a9m at h
  split at h
  ·rfl
  ·exact h.elim
 unfold a9m at h
 split at h
 rotate_left
 ·exact h.elim
 refine ⟨_,(a0e (a1b (PW.pt (b0c (a0q a1h (mv 1) a0b (a0o _)) (a8n (a0q a1h (a0m a1l (mv 0) a0b) a0b (a0o _))))) (a0g (a0p a0i)) a0x) (a0e (a1b (PW.pt (b0c (a0q a1h (mv 1) a0b (a0o _)) (a8n (a0q a8z (a0m a1l (mv 0) a0b) a0b (a0o _))))) (a0g (a0p (a0u G_l_mark (hr.mono (by walk_at "rm1")) rfl T.m_l_mark T.F_l_mark.kp T.b_l_mark .nil a0s (a0a (a0m a2q (mv 0) a0b) a0c)))) a0x) (a0g (a0p (a0l (a0h K rfl) (a0m (a1d K rfl) (a0l (a0h K rfl) (mv 2) a0b (fun _ _=>rfl)) (a2x (a0a a0i (a0a a0i a0c)))) (a0m a1l (a0m a2q (mv 0) a0b) a0b) (fun _ _=>rfl)))))),?_⟩
 rename_i c m p
 obtain ⟨wp,np,ws,xs,wd,q⟩:=h
 have hl:=wd.wl
 have hw:=wd.w
 have lst:∀ (H1:Hp) (K1:W.Frag) ,True:=fun _ _=>trivial
 (with_reducible refine a7i (fun σ' H'=>σ' = [some (.int c),some (.int m),some (.ref p)]/\H' = H) (fun σ' H' hP=>?_) (fun k=>?_))
 rotate_left
 ·walk_at "stm"
  refine iteB (fun e=>?_) (fun e=>?_)
  ·walk_at "stm"
   refine iteB (fun e1=>?_) (fun e1=>?_)
   ·walk_at "stm"
    exact q _ _ (Same.refl H)
   ·walk_at "stm"
    exact k _ _ ⟨rfl,rfl⟩
  ·refine iteF ?_
   walk_at "stm"
   exact k _ _ ⟨rfl,rfl⟩
 obtain ⟨rfl,rfl⟩:=hP
 (with_reducible refine a7i (fun σ' H1=>σ' = [some (.int c),some (.int m),some (.ref p)]/\H1 = H') (fun σ' H1 hP=>?_) (fun k=>?_))
 rotate_left
 ·walk_at "stm"
  refine iteB (fun e=>?_) (fun e=>?_)
  ·walk_at "stm"
   refine iteB (fun e1=>?_) (fun e1=>?_)
   ·walk_at "stm"
    intro z
    exact q _ _ (Same.refl _)
   ·walk_at "stm"
    exact k _ _ ⟨rfl,rfl⟩
  ·refine iteF ?_
   walk_at "stm"
   exact k _ _ ⟨rfl,rfl⟩
 obtain ⟨rfl,rfl⟩:=hP
 walk_at "stp"
 refine a1p (SqL.of wd.l) (v:=.ref wp) rfl ?_
 walk_at "stp"
 refine ⟨ln (by show 2<=100000; decide),fun p1 hp1=>?_⟩
 have s1:Same H1 (upd H1 p1 (.lst [.str (Str.ofString "not"),.str (Str.ofString "keep")])):=a0f hp1 _
 refine b3e (s1 _ _ hw) a0d (by rw [List.length_map,hl]; exact ln (by decide)) fun p2 hp2=>?_
 walk_at "stp"
 have b1:=Int.emod_nonneg (c / 4) (show (6:Int) ≠ 0 by decide)
 have b2:=Int.emod_lt_of_pos (c / 4) (show (0:Int) < 6 by decide)
 obtain ⟨v,hv,hv2⟩:=a6d (xs:=ws.map V.str ++ [.str (Str.ofString "not"),.str (Str.ofString "keep")]) b1 (by rw [List.length_append,List.length_map,hl]; exact b2)
 have hm:=a9z hv
 have hz:∃ z:Str,v = .str z:=by
  rcases List.mem_append.mp hm with h | h
  ·obtain ⟨z,_,e⟩:=List.mem_map.mp h
   exact ⟨z,e.symm⟩
  ·simp only [List.mem_cons,List.not_mem_nil,or_false] at h
   rcases h with rfl | rfl <;> exact ⟨_,rfl⟩
 obtain ⟨z,rfl⟩:=hz
 refine a1p (SqL.of a0d) hv ?_
 exact q _ _ (s1.trans (a0f hp2 _))
theorem c6x (T:Txt K mg t)  : FnOk P w K mg base CX0 1 t.a_l_word t.d_l_word ["_law_cell","_law_at","_law_k"] (b0z K):=by
 refine T.F_l_word.ok a6m (fun vs H Q E h=>?_) (fun cdv A outer s H vs Q E hr h=>?_)
 ·unfold b0z at h
  split at h
  ·rfl
  ·exact h.elim
 unfold b0z at h
 split at h
 rotate_left
 ·exact h.elim
 refine ⟨_,(a0e (a0r (i:=3) a6m.nd rfl (by walk_at "or1") a0i) (a0e (a0r (i:=4) (hs:=a2o) a6m.nd rfl (by walk_at "or1") (a0m (a1d K rfl) (a0m (a1d K rfl) (mv 3) (b3d K rfl F.plainAttrs_str F.slot_str_upper F.type_str_upper c8j (mv 3))) a0i)) (a0e (a0r (i:=5) a6m.nd rfl (by walk_at "or1") a0i) (a0e (a3n PassesOwn.never rfl (a4n rfl T.n_range (a0a (a0m (a1d K rfl) a0b (a0m a1l (mv 0) a0b)) a0c)) (a2d (i:=6) a6m.nd rfl (by walk_at "or1")) (a0e (a0r (i:=7) (hs:=a2o) a6m.nd rfl (by walk_at "or1") (a0m (a1d K rfl) (a0m (a1d K rfl) (a0m a2q (mv 0) (a0m (a1d K rfl) (mv 6) a0b)) (a0m a6y a0b (mv 6))) (a0m a6y (mv 2) (a3e b6d rfl T.n_int boot_int (a0a (a1w a1h (mv 1) (mv 6) (a0o _)) a0c))))) (a0g (a0r (i:=5) (hs:=a2o) a6m.nd rfl (by walk_at "or1") (a0m (a1d K rfl) (mv 5) (a0l (a0h K rfl) (mv 4) (a0m a1l (mv 7) (a0l (a0h K rfl) (a2x (a0a a0b (a0a a0b a0c))) (a3e b6d rfl T.n_int boot_int (a0a (a1w a1h (mv 6) a0b (a0o _)) a0c)) (fun _ _=>rfl))) (fun _ _=>rfl))))))) (a0e (a1b (a0q (b3f K rfl) (mv 5) (a0z (a0a a0i (a0a a0i a0c))) (by with_unfolding_all rfl)) (a0g (a0p (a0m (a1d K rfl) (mv 5) a0i))) a0x) (a0g (a0p (mv 5)))))))),?_⟩
 rename_i c at_ k
 walk_at "stp"
 refine ⟨rfl,?_⟩
 refine c8k (r:=a6f) (by decide +kernel) (by decide +kernel) ?_
 walk_at "stp"
 refine a8e (ln (by decide +kernel)) ?_
 walk_at "stp"
 refine a8e (ln (by decide +kernel)) ?_
 walk_at "stp"
 have ht:a2f ++ a6f ++ figS = a6t:=by decide +kernel
 rw [ht]
 have b1:=Int.emod_nonneg c (show (12:Int) ≠ 0 by decide)
 have b2:=Int.emod_lt_of_pos c (show (0:Int) < 12 by decide)
 refine ⟨_,rfl,by omega,by omega,?_⟩
 refine a4f (a3p 0 (1 + c % 12).toNat) (fun i σ' H'=>∃ (o6 o7:Option V) (r:List Nat),σ' = [some (.int c),some (.int at_),some (.int k),some (.str a2f),some (.str a6t),some (.str ⟨r.toArray⟩),o6,o7]/\r.length = i/\Same H H'/\(∀ c ∈ r,inner (one c) = true)/\(∀ c,r.head? = some c->inS (one c) a2f = true)) ⟨none,none,[],rfl,rfl,Same.refl H,fun c hc=>by simp at hc,fun c hc=>by simp at hc⟩ (fun _ _ _ _=>trivial) (fun i σ' H' hi hP=>?_) (fun σ' H' hP=>?_)
 ·obtain ⟨o6,o7,r,rfl,hl,s1,ha,hf⟩:=hP
  walk_at "stp"
  refine m2_i (b5y (by omega) (by omega)) ?_
  walk_at "stp"
  refine a6e (b2g (by decide)) ?_
  walk_at "stp"
  refine a6e (a4d (by split <;> decide)) ?_
  walk_at "stp"
  generalize c / (0 + (i:Int) + 1) + 7 * (0 + (i:Int)) + k * (if (false ^^ decide (at_ = 0 + (i:Int))) = true then 1 else 0) = n
  refine ⟨ln (by show 2<=100000; decide),fun p hp=>?_⟩
  walk_at "stp"
  have hx:∃ x:Int,atI [V.int 62,V.int 26] (if (false ^^ decide (0 + (i:Int) = 0)) = true then 1 else 0) = some (.int x)/\0 < x/\x<=62/\(i = 0->x = 26):=by
   by_cases hi0:i = 0
   ·subst hi0; exact ⟨26,rfl,by decide,by decide,fun _=>rfl⟩
   ·rw [show (false ^^ decide (0 + (i:Int) = 0)) = false by rw [decide_eq_false (by omega)]; rfl]
    exact ⟨62,rfl,by decide,by decide,fun z=>absurd z hi0⟩
  obtain ⟨x,hx,hx0,hx1,hx26⟩:=hx
  refine a1p (SqL.of a0d) hx ?_
  refine m2_i (show (0:Int) < x from hx0) ?_
  have b5:=Int.emod_nonneg n (show x ≠ 0 by omega)
  have b6:=Int.emod_lt_of_pos n hx0
  obtain ⟨y,hy⟩:=b0r (z:=a6t) b5 (by rw [tl62]; omega)
  refine b3w (ln (by rw [tl62]; decide)) hy ?_
  walk_at "stp"
  refine a8e ?_ ?_
  ·refine ln ?_
   rw [str_len,show (⟨#[y]⟩:Str).length = 1 from rfl]
   omega
  walk_at "stp"
  refine ⟨some (.int (0 + (i:Int))),some (.int n),r ++ [y],?_,by rw [List.length_append,hl]; rfl,s1.trans (a0f hp _),fun c hc=>?_,fun c hc=>?_⟩
  rotate_left
  ·rcases List.mem_append.mp hc with z | z
   ·exact ha c z
   ·rw [List.mem_singleton.mp z]; exact tail_in hy
  ·cases r with
   | nil=>
    have hc:y = c:=by simpa using hc
    subst hc
    have e26:=hx26 hl.symm
    subst e26
    exact c3u b5 b6 hy
   | cons a r'=>exact hf c hc
  have e:(⟨r.toArray⟩:Str) ++ ⟨#[y]⟩ = ⟨(r ++ [y]).toArray⟩:=c2j r [y]
  rw [e]
  rfl
 ·obtain ⟨o6,o7,r,rfl,hl,s1,ha,hf⟩:=hP
  walk_at "stp"
  refine ⟨ln (by show 2<=100000; decide),fun p9 hp9=>?_⟩
  have sp9:Same H' (upd H' p9 (.tup [.str (Str.ofString "not"),.str (Str.ofString "keep")])):=a0f hp9 _
  have kp9:(upd H' p9 (.tup [.str (Str.ofString "not"),.str (Str.ofString "keep")])) p9 = some (.tup [.str (Str.ofString "not"),.str (Str.ofString "keep")]):=a0d
  generalize upd H' p9 (.tup [.str (Str.ofString "not"),.str (Str.ofString "keep")]) = H2 at sp9 kp9 ⊢
  walk_at "stp"
  refine a8x [notS,a2p] (.inr (SqT.of kp9)) ?_
  walk_at "stp"
  refine iteB (fun e=>?_) (fun e=>?_)
  ·have hm:=of_decide_eq_true e
   walk_at "stp"
   refine a8e (ln (by rw [str_len]; show _ + 1<=_; omega)) ?_
   walk_at "stp"
   exact h _ _ (c9l hm) (s1.trans sp9)
  ·have hm:=of_decide_eq_false e
   walk_at "stp"
   refine h _ _ ⟨c6t (by omega) (by omega) ha hf,fun z=>hm (by rw [z]; simp),fun z=>hm (by rw [z]; simp),by rw [str_len]; omega⟩ (s1.trans sp9)
theorem c3z (T:Txt K mg t) (G_l_word:FnOk P w K mg base CX0 1 t.a_l_word t.d_l_word ["_law_cell","_law_at","_law_k"] (b0z K)):FnOk P w K mg base CX0 2 t.a_l_words t.d_l_words ["_law_cell","_law_at"] (a9x):=by
 refine T.F_l_words.ok c3p (fun vs H Q E h=>?_) (fun cdv A outer s H vs Q E hr h=>?_)
 ·unfold a9x at h
  split at h
  ·rfl
  ·exact h.elim
 unfold a9x at h
 split at h
 rotate_left
 ·exact h.elim
 refine ⟨_,(a0g (a0p (b1m rfl (a4n rfl T.n_range (a0a a0b a0c)) (a8t (a0j a5c) ["_law_cell","_law_at"] ["_law_cell","_law_at"] rfl rfl (by decide +kernel)) (fun _ _ _ _ _=>a8s) (fun _ _ _ _ _=>(a0u G_l_word (hr.mono (by walk_at "rm1")) rfl T.m_l_word T.F_l_word.kp T.b_l_word .nil a0s (a0a (mv 1) (a0a (a0m a1l (mv 2) (a0m (a1d K rfl) a0b (a0m a1l (mv 1) a0b))) (a0a (mv 0) a0c)))))))),?_⟩
 rename_i c at_
 walk_at "stp"
 refine ⟨4,rfl,by decide,by decide,fun D hD=>?_⟩
 refine a7h (a3p 0 (4:Int).toNat) (fun i ys H'=>Same H H'/\(∃ cs:List Str,ys = cs.map V.str/\cs.length = i/\∀ w ∈ cs,b0n w)/\H' D = some (.lst ys)) (ln (by decide)) ⟨a0f hD _,⟨[],rfl,rfl,fun w hw=>by simp at hw⟩,a0d⟩ (fun _ _ _ _=>trivial) (fun i ys H' Q' hi' hl' hP k=>?_) (fun ys H' hl' hP=>?_)
 ·obtain ⟨g1,⟨cs,g2,g4,g5⟩,g3⟩:=hP
  walk_at "stp"
  have b1:=Int.emod_nonneg c (show (12:Int) ≠ 0 by decide)
  refine m2_i (show (0:Int) < _ by omega) ?_
  walk_at "stp"
  intro z H2 oz s2
  exact k _ _ (s2 _ _ g3) ⟨a2k (g1.trans s2) hD,⟨cs ++ [z],by rw [g2,List.map_append]; rfl,by rw [List.length_append,g4]; rfl,fun w hw=>(List.mem_append.mp hw).elim (g5 w) (fun q=>by rw [List.mem_singleton.mp q]; exact oz)⟩,a0d⟩
 ·obtain ⟨g1,⟨cs,g2,g4,g5⟩,g3⟩:=hP
  exact h D cs H' g4 g5 g1 (g2 ▸ g3)
theorem c6y (T:Txt K mg t)  : FnOk P w K mg base CX0 1 t.a_l_name t.d_l_name ["_law_cell","_law_k"] (b1a):=by
 refine T.F_l_name.ok a4o (fun vs H Q E h=>?_) (fun cdv A outer s H vs Q E hr h=>?_)
 ·unfold b1a at h
  split at h
  ·rfl
  ·exact h.elim
 unfold b1a at h
 split at h
 rotate_left
 ·exact h.elim
 refine ⟨_,(a0e (a0r (i:=2) a4o.nd rfl (by walk_at "or1") a0i) (a0e (a0r (i:=3) (hs:=a2o) a4o.nd rfl (by walk_at "or1") (a0m (a1d K rfl) (a0m (a1d K rfl) (mv 2) (b3d K rfl F.plainAttrs_str F.slot_str_lower F.type_str_lower c8y (mv 2))) a0i)) (a0e (a0r (i:=4) (hs:=a2o) a4o.nd rfl (by walk_at "or1") (a0m a1l (a0m a2q (mv 0) a0b) a0b)) (a0e (a0r (i:=5) a4o.nd rfl (by walk_at "or1") (b8v (a1w a1h (a0m a1l (a0m a2q (mv 0) a0b) a0b) a0b (a0o _)) (a5z (a1w a1h (mv 4) a0b (a0o _))))) (a0e (a0r (i:=6) (hs:=c0e) a4o.nd rfl (by walk_at "or1") (a0l (a0h K rfl) (mv 2) (a0m a1l (a0m (a1d K rfl) (mv 0) (a0m a6y (mv 1) (a3e b6d rfl T.n_int boot_int (a0a (mv 5) a0c)))) a0b) (fun _ _=>rfl))) (a0e (a3n PassesOwn.never rfl (a4n rfl T.n_range (a0a (mv 4) a0c)) (a2d (i:=7) a4o.nd rfl (by walk_at "or1")) (a0e (a0r (i:=8) (hs:=a2o) a4o.nd rfl (by walk_at "or1") (a0m (a1d K rfl) (a0m (a1d K rfl) (a0m a2q (mv 0) (a0m (a1d K rfl) (mv 7) a0b)) (mv 7)) (a0m a6y (mv 1) (a3e b6d rfl T.n_int boot_int (a0a (a6c (c5h K rfl (mv 5)) (a5z (a1w a1h (a0m (a1d K rfl) (mv 7) a0b) (mv 4) (a0o _)))) a0c))))) (a0g (a0r (i:=6) (hs:=a2o) a4o.nd rfl (by walk_at "or1") (a0m (a1d K rfl) (mv 6) (a0l (a0h K rfl) (mv 3) (a0m a1l (mv 8) a0b) (fun _ _=>rfl))))))) (a0g (a0p (mv 6))))))))),?_⟩
 rename_i c k
 have b1:=Int.emod_nonneg (c / 6) (show (12:Int) ≠ 0 by decide)
 have b2:=Int.emod_lt_of_pos (c / 6) (show (0:Int) < 12 by decide)
 walk_at "stp"
 refine ⟨rfl,?_⟩
 refine c8z (r:=a2f) (by decide +kernel) (by decide +kernel) ?_
 walk_at "stp"
 refine a8e (ln (by decide +kernel)) ?_
 walk_at "stp"
 refine a8e (ln (by decide +kernel)) ?_
 walk_at "stm"
 have l26:a6f.length = 26:=by decide +kernel
 have l62:(a6f ++ a2f ++ figS).length = 62:=by decide +kernel
 generalize hsg:a6f ++ a2f ++ figS = sg at l62 ⊢
 (with_reducible refine c5i ?_)
 walk_at "stm"
 (with_reducible refine a7i (fun σ' H'=>∃ bb:Bool,σ' = [some (.int c),some (.int k),some (.str a6f),some (.str sg),some (.int (c / 6 % 12)),some (.bl bb),none,none,none]/\H' = H) (fun σ' H' hP=>?_) (fun kk=>?_))
 rotate_left
 ·walk_at "stm"
  refine iteB (fun e=>?_) (fun e=>?_)
  ·walk_at "stm"
   exact kk _ _ ⟨_,rfl,rfl⟩
  ·walk_at "stm"
   exact kk _ _ ⟨_,rfl,rfl⟩
 obtain ⟨bb,rfl,rfl⟩:=hP
 walk_at "stp"
 refine a6e (a4d (by cases bb <;> decide)) ?_
 walk_at "stp"
 generalize c + k * (if bb = true then 1 else 0) = n0
 have b3:=Int.emod_nonneg n0 (show (26:Int) ≠ 0 by decide)
 have b4:=Int.emod_lt_of_pos n0 (show (0:Int) < 26 by decide)
 obtain ⟨y0,hy0⟩:=b0r (z:=a6f) b3 (by rw [l26]; exact b4)
 refine b3w (ln (by rw [l26]; decide)) hy0 ?_
 walk_at "stp"
 refine ⟨_,rfl,by omega,by omega,?_⟩
 refine a4f (a3p 0 (c / 6 % 12).toNat) (fun i σ' J=>∃ (o6 o7:Option V) (z:Str),σ' = [some (.int c),some (.int k),some (.str a6f),some (.str sg),some (.int (c / 6 % 12)),some (.bl bb),some (.str z),o6,o7]/\z.length<=1 + i/\J = H') ⟨none,none,_,rfl,Nat.le_refl _,rfl⟩ (fun _ _ _ _=>trivial) (fun i σ' J hi hP=>?_) (fun σ' J hP=>?_)
 ·obtain ⟨o6,o7,z,rfl,hl,rfl⟩:=hP
  have ixs:∀ n:Int,∃ y,atI sg.cps.toList (n % 62) = some y:=fun n=>b0r (Int.emod_nonneg n (by decide)) (by rw [l62]; exact Int.emod_lt_of_pos n (by decide))
  walk_at "stp"
  refine m2_i (C:=CDiv) (b5y (by omega) (by omega)) ?_
  walk_at "stp"
  cases bb with
  | true=>
   refine iteF ?_
   walk_at "stp"
   refine a6e (a4d (by decide)) ?_
   walk_at "stp"
   refine b3w (ln (by rw [l62]; decide)) (ixs _).choose_spec ?_
   walk_at "stp"
   refine a8e (ln (by show _ + 1<=_; omega)) ?_
   walk_at "stp"
   refine ⟨_,_,_,rfl,?_,rfl⟩
   rw [strLen_append]
   show _ + 1<=_
   omega
  | false=>
   refine iteT ?_
   walk_at "stp"
   refine a6e (a4d (by split <;> decide)) ?_
   walk_at "stp"
   refine b3w (ln (by rw [l62]; decide)) (ixs _).choose_spec ?_
   walk_at "stp"
   refine a8e (ln (by show _ + 1<=_; omega)) ?_
   walk_at "stp"
   refine ⟨_,_,_,rfl,?_,rfl⟩
   rw [strLen_append]
   show _ + 1<=_
   omega
 obtain ⟨o6,o7,z,rfl,hl,rfl⟩:=hP
 walk_at "stp"
 exact h _ _ (Same.refl _)
theorem c4a (T:Txt K mg t) (G_l_name:FnOk P w K mg base CX0 1 t.a_l_name t.d_l_name ["_law_cell","_law_k"] (b1a)):FnOk P w K mg base CX0 2 t.a_l_names t.d_l_names ["_law_cell"] (a9y):=by
 refine T.F_l_names.ok c3r (fun vs H Q E h=>?_) (fun cdv A outer s H vs Q E hr h=>?_)
 ·unfold a9y at h
  split at h
  ·rfl
  ·exact h.elim
 unfold a9y at h
 split at h
 rotate_left
 ·exact h.elim
 refine ⟨_,(a0e (a1b (a0q a1h (a0m a1l (mv 0) a0b) a0b (a0o _)) (a0g (a0p (a2x (a0a a0i (a0a a0i (a0a a0i (a0a a0i (a0a a0i (a0a a0i a0c))))))))) a0x) (a0g (a0p (b1m rfl (a4n rfl T.n_range (a0a a0b a0c)) (a8t (a0j a5e) ["_law_cell"] ["_law_cell"] rfl rfl (by decide +kernel)) (fun _ _ _ _ _=>a8s) (fun _ _ _ _ _=>(a0u G_l_name (hr.mono (by walk_at "rm1")) rfl T.m_l_name T.F_l_name.kp T.b_l_name .nil a0s (a0a (mv 1) (a0a (mv 0) a0c)))))))),?_⟩
 rename_i c
 walk_at "stp"
 refine iteB (fun e=>?_) (fun e=>?_)
 ·walk_at "stp"
  refine ⟨ln (by show 6<=100000; decide),fun p hp=>?_⟩
  exact h p [Str.ofString "X",Str.ofString "U1",Str.ofString "Y",Str.ofString "U2",Str.ofString "B0",Str.ofString "Z3"] _ rfl (a0f hp _) a0d
 walk_at "stp"
 refine ⟨6,rfl,by decide,by decide,fun D hD=>?_⟩
 refine a7h (a3p 0 (6:Int).toNat) (fun i ys H'=>Same H H'/\(∃ cs:List Str,ys = cs.map V.str/\cs.length = i)/\H' D = some (.lst ys)) (ln (by decide)) ⟨a0f hD _,⟨[],rfl,rfl⟩,a0d⟩ (fun _ _ _ _=>trivial) (fun i ys H' Q' hi' hl' hP k=>?_) (fun ys H' hl' hP=>?_)
 ·obtain ⟨g1,⟨cs,g2,g4⟩,g3⟩:=hP
  walk_at "stp"
  intro z H2 s2
  exact k _ _ (s2 _ _ g3) ⟨a2k (g1.trans s2) hD,⟨cs ++ [z],by rw [g2,List.map_append]; rfl,by rw [List.length_append,g4]; rfl⟩,a0d⟩
 ·obtain ⟨g1,⟨cs,g2,g4⟩,g3⟩:=hP
  exact h D cs H' g4 g1 (g2 ▸ g3)
end
section
variable {P:Program} {w:World} {K:W.Frag} {mg:Str->Option Value} {base:Heap} {t:Ad}
theorem but_own {p k:Addr} {H H':Hp} {o:HO} (e:But p H H') (h:H k = none):But p H (upd H' k o):=fun b u n q=>by rw [a0n (a2n q h)]; exact e b u n q
theorem c0y {ws:List Str} {j:Int} (h0:0<=j) (h1:j < (ws.length:Int)):∃ z:Str,atI (ws.map V.str) j = some (.str z):=by
 obtain ⟨v,hv,_⟩:=a6d (xs:=ws.map V.str) h0 (by rw [List.length_map]; exact h1)
 obtain ⟨z,_,e⟩:=List.mem_map.mp (a9z hv)
 exact ⟨z,by rw [hv,e]⟩
theorem c9m {ws:List Int} {j:Int} (h0:0<=j) (h1:j < (ws.length:Int)):∃ z:Int,atI (ws.map V.int) j = some (.int z):=by
 obtain ⟨v,hv,_⟩:=a6d (xs:=ws.map V.int) h0 (by rw [List.length_map]; exact h1)
 obtain ⟨z,_,e⟩:=List.mem_map.mp (a9z hv)
 exact ⟨z,by rw [hv,e]⟩
theorem c0z {ws:List Str} {j:Int} (h0:0<=j) (h1:j < (ws.length:Int)):∃ z:Str,atI (ws.map V.str) j = some (.str z)/\z ∈ ws:=by
 obtain ⟨v,hv,_⟩:=a6d (xs:=ws.map V.str) h0 (by rw [List.length_map]; exact h1)
 obtain ⟨z,hz,e⟩:=List.mem_map.mp (a9z hv)
 exact ⟨z,by rw [hv,e],hz⟩
theorem b7z (T:Txt K mg t) (G_l_parts:FnOk P w K mg base CX0 42 t.a_l_parts t.d_l_parts ["_law_term_here"] (a4b K 41)) (n:Nat) (G_l_term:FnOk P w K mg base CX0 (42 + 2 * n) t.a_l_term t.d_l_term ["_law_left","_law_room","_law_words_here"] (a4q K n)):FnOk P w K mg base CX0 (42 + 2 * n + 1) t.a_l_kids t.d_l_kids ["_law_left","_law_many","_law_room","_law_words_here"] (a6q K n):=by
 refine T.F_l_kids.ok (k:=42 + 2 * n) a9h (fun vs H Q E h=>?_) (fun cdv A outer s H vs Q E hr h=>?_)
 ·unfold a6q at h
  split at h
  ·rfl
  ·exact h.elim
 unfold a6q at h
 split at h
 rotate_left
 ·exact h.elim
 refine ⟨_,(a0e (a0r (i:=4) (hs:=b3g) a9h.nd rfl (by walk_at "or1") (a2x a0c)) (a0e (a3n PassesOwn.never rfl (a4n rfl T.n_range (a0a (mv 1) a0c)) (a2d (i:=5) a9h.nd rfl (by walk_at "or1")) (a0e (a0r (i:=6) (hs:=a1x) a9h.nd rfl (by walk_at "or1") (a0u G_l_term (hr.mono (by walk_at "rm1")) rfl T.m_l_term T.F_l_term.kp T.b_l_term .nil a0s (a0a (mv 0) (a0a (a0m a5p (mv 2) (a0m a5p (a0m a5p (mv 1) a0b) (mv 5))) (a0a (mv 3) a0c))))) (a0e (a0r (i:=2) (hs:=a2o) a9h.nd rfl (by walk_at "or1") (a0m a5p (mv 2) (a0u G_l_parts (hr.mono (by walk_at "rm1")) rfl T.m_l_parts T.F_l_parts.kp T.b_l_parts .nil a0s (a0a (mv 6) a0c)))) (a0g (a1e (a9s K rfl F.plainAttrs_list F.slot_list_append F.type_list_append a7x (mv 4) (a0a (mv 6) a0c))))))) (a0g (a0p (a3e (b2i K rfl) rfl T.n_tuple boot_tuple (a0a (mv 4) a0c)))))),?_⟩
 rename_i p m room wq
 obtain ⟨ns,wp,np,ws,xs,wd,hp,hm0,hm4,hmr,hrn,hn,q⟩:=h
 walk_at "stp"
 refine ⟨ln (by show 0<=100000; decide),fun pk hpk=>?_⟩
 walk_at "stp"
 refine ⟨m,rfl,by omega,by omega,?_⟩
 have npk:pk ≠ p:=fun z=>by subst z; rw [hp] at hpk; cases hpk
 have sk:Same H (upd H pk (.lst [])):=a0f hpk _
 refine a4f (a3p 0 m.toNat) (fun i σ' H'=>∃ (o7 o8:Option V) (us:List V) (ks:List Trm) (ns':List Int) (rm:Int),σ' = [some (.ref p),some (.int m),some (.int rm),some (.ref wq),some (.ref pk),o7,o8]/\H' pk = some (.lst us)/\DenL K H' us (Trm.dataL ks)/\ks.length = i/\rm + (Trm.sizeL ks:Int) = room/\m - (i:Int)<=rm/\H' p = some (.lst (ns'.map V.int))/\But p H H'/\(∀ b,H' b = none->H b = none)/\ar4L ks/\∀ x ∈ a1f ks,x ∈ xs) ⟨none,none,[],[],ns,_,rfl,a0d,.nil,rfl,by simp only [Trm.sizeL]; omega,by simpa using hmr,sk _ _ hp,sk.but,fun b hb=>sk.free hb,by rw [ar4L]; trivial,fun x hx=>by simp [a1f] at hx⟩ (fun _ _ _ _=>trivial) (fun i σ' H' hi hP=>?_) (fun σ' H' hP=>?_)
 ·obtain ⟨o7,o8,us,ks,ns',rm,rfl,j1,j2,j3,j4,j5,j6,j8,j9,ja,jv⟩:=hP
  walk_at "stp"
  refine ⟨ns',wp,np,ws,xs,wd.but hp j8,j6,by omega,by omega,by omega,fun r H2 t2 ns2 b2 f2 hp2 hd2 hsz ha2 hv2=>?_⟩
  walk_at "stp"
  have tp:=t2.size_pos
  refine ⟨t2,hd2,by omega,by decide,fun H3 s3=>?_⟩
  walk_at "stp"
  have hk3:H3 pk = some (.lst us):=s3 _ _ (b2 _ _ npk j1)
  refine ⟨.inl ⟨rfl,_,SqL.of hk3⟩,?_⟩
  walk_at "stp"
  have l1:=j2.length
  rw [Trm.dataL_map,List.length_map] at l1
  refine a7y hk3 (ln1 (by omega)) ?_
  refine ⟨_,_,us ++ [.ref r],ks ++ [t2],ns2,rm - (t2.size:Int),rfl,a0d,?_,by rw [List.length_append,j3]; rfl,?_,?_,?_,?_,?_,?_,?_⟩
  ·rw [Trm.dataL_map,List.map_append,<- Trm.dataL_map]
   exact (((b2.denL j6 j2).mono s3).append (.cons (hd2.mono s3) .nil)).lst hk3
  ·rw [Trm.sizeL_app]
   simp only [Trm.sizeL]
   omega
  ·omega
  ·rw [a0n (Ne.symm npk)]
   exact s3 _ _ hp2
  ·exact but_own ((j8.trans b2).trans s3.but) hpk
  ·intro b hb
   refine j9 b (f2 b (s3.free ?_))
   by_cases z:b = pk
   ·subst z; rw [a0d] at hb; cases hb
   ·rwa [a0n z] at hb
  ·rw [c0x] at ja ⊢
   intro t ht
   rcases List.mem_append.mp ht with z | z
   ·exact ja t z
   ·rw [List.mem_singleton.mp z]; exact ha2
  ·intro x hx
   rw [b7y] at hx
   rcases List.mem_append.mp hx with z | z
   ·exact jv x z
   ·exact hv2 x (by simpa [a1f] using z)
 ·obtain ⟨o7,o8,us,ks,ns',rm,rfl,j1,j2,j3,j4,j5,j6,j8,j9,ja,jv⟩:=hP
  walk_at "stp"
  refine b6b (SqL.of j1) fun b hb=>?_
  have s4:=a0f hb (.tup us)
  exact q b us _ ks ns' (j8.trans s4.but) (fun b hb=>j9 b (s4.free hb)) (s4 _ _ j6) a0d (j2.mono s4) (by omega) (by omega) ja jv
theorem c6z (T:Txt K mg t) (G_l_next:FnOk P w K mg base CX0 1 t.a_l_next t.d_l_next ["_law_left"] (a8d)) (G_l_number:FnOk P w K mg base CX0 1 t.a_l_number t.d_l_number ["_law_cell"] (a5u)) (G_l_sign:FnOk P w K mg base CX0 2 t.a_l_sign t.d_l_sign ["_law_cell","_law_many","_law_words_here"] (a9m)) (n:Nat) (G_l_kids:FnOk P w K mg base CX0 (42 + 2 * n + 1) t.a_l_kids t.d_l_kids ["_law_left","_law_many","_law_room","_law_words_here"] (a6q K n)):FnOk P w K mg base CX0 (42 + 2 * n + 1 + 1) t.a_l_term t.d_l_term ["_law_left","_law_room","_law_words_here"] (a4q K (n + 1)):=by
 refine T.F_l_term.ok (k:=42 + 2 * n + 1) a9i (fun vs H Q E h=>?_) (fun cdv A outer s H vs Q E hr h=>?_)
 ·unfold a4q at h
  split at h
  ·rfl
  ·exact h.elim
 unfold a4q at h
 split at h
 rotate_left
 ·exact h.elim
 refine ⟨_,(a0e (a0r (i:=3) (hs:=a1x) a9i.nd rfl (by walk_at "or1") (a0u G_l_next (hr.mono (by walk_at "rm1")) rfl T.m_l_next T.F_l_next.kp T.b_l_next .nil a0s (a0a (mv 0) a0c))) (a0e (a0r (i:=4) (hs:=a2o) a9i.nd rfl (by walk_at "or1") (a0m a1l (mv 3) a0b)) (a0e (a0r (i:=3) (hs:=a2o) a9i.nd rfl (by walk_at "or1") (a0m a2q (mv 3) a0b)) (a0e (a1b (a0q a8z (mv 4) a0b (a0o _)) (a0g (a0p (a0z (a0a a0i (a0a (a0l (a0h K rfl) (a0l (a0h K rfl) (mv 2) a0b (fun _ _=>rfl)) (a0m a1l (mv 3) a0b) (fun _ _=>rfl)) a0c))))) a0x) (a0e (a1b (a0q a1h (mv 4) a0b (a0o _)) (a0g (a0p (a0z (a0a a0i (a0a (a0u G_l_number (hr.mono (by walk_at "rm1")) rfl T.m_l_number T.F_l_number.kp T.b_l_number .nil a0s (a0a (mv 3) a0c)) a0c))))) a0x) (a0e (a1b (PW.pt (a2v (a0q a1h (mv 4) a0b (a0o _)) (a4m (a0q a8z (mv 1) a0b (a0o _))))) (a0g (a0p (a0z (a0a a0i (a0a (a0l (a0h K rfl) (a0m (a1d K rfl) (a0l (a0h K rfl) (mv 2) a0b (fun _ _=>rfl)) (a2x (a0a a0i (a0a a0i a0c)))) (a0m a1l (mv 3) a0b) (fun _ _=>rfl)) (a0a (a0z a0c) a0c)))))) a0x) (a0e (a0r (i:=5) (hs:=a1x) a9i.nd rfl (by walk_at "or1") (a0t (mc_min rfl) rfl T.n_min boot_min (a0a (a0m (a1d K rfl) a0b (a0m a1l (mv 3) a0b)) (a0a (a0m a5p (mv 1) a0b) a0c)))) (a0g (a0p (a0z (a0a a0i (a0a (a0u G_l_sign (hr.mono (by walk_at "rm1")) rfl T.m_l_sign T.F_l_sign.kp T.b_l_sign .nil a0s (a0a (a0m a2q (mv 3) a0b) (a0a (mv 5) (a0a (mv 2) a0c)))) (a0a (a0u G_l_kids (hr.mono (by walk_at "rm1")) rfl T.m_l_kids T.F_l_kids.kp T.b_l_kids .nil a0s (a0a (mv 0) (a0a (mv 5) (a0a (a0m a5p (mv 1) a0b) (a0a (mv 2) a0c))))) a0c))))))))))))),?_⟩
 rename_i p room wq
 obtain ⟨ns,wp,np,ws,xs,wd,hp,h1,h2,hn,q⟩:=h
 walk_at "stp"
 refine ⟨ns,hp,fun v ns1 H1 b1 f1 hp1=>?_⟩
 have w1:=wd.but hp b1
 walk_at "stp"
 refine iteB (fun e=>?_) (fun e=>?_)
 ·walk_at "stp"
  refine a1p (SqL.of w1.l) (v:=.ref np) rfl ?_
  walk_at "stp"
  have b5:=Int.emod_nonneg (v / 8) (show (6:Int) ≠ 0 by decide)
  have b6:=Int.emod_lt_of_pos (v / 8) (show (0:Int) < 6 by decide)
  obtain ⟨z,hz,hzx⟩:=c0z (ws:=xs) b5 (by rw [wd.xl]; exact b6)
  refine a1p (SqL.of w1.x) hz ?_
  walk_at "stp"
  refine ⟨ln (by show 2<=100000; decide),fun r hr=>?_⟩
  have s3:=a0f hr (.tup [.str anyS,.str z])
  exact q r _ (.any z) ns1 (b1.trans s3.but) (fun b hb=>f1 b (s3.free hb)) (s3 _ _ hp1) (any_den (SqT.of a0d)) (by simp only [Trm.size]; omega) (by rw [ar4]; trivial) (fun x hx=>by rw [vars,List.mem_singleton] at hx; rw [hx]; exact hzx)
 walk_at "stp"
 refine iteB (fun e1=>?_) (fun e1=>?_)
 ·walk_at "stp"
  intro x
  walk_at "stp"
  refine ⟨ln (by show 2<=100000; decide),fun r hr=>?_⟩
  have s3:=a0f hr (.tup [.str numS,.int x])
  exact q r _ (.num x) ns1 (b1.trans s3.but) (fun b hb=>f1 b (s3.free hb)) (s3 _ _ hp1) (num_den (SqT.of a0d)) (by simp only [Trm.size]; omega) (by rw [ar4]; trivial) (fun x hx=>by simp [vars] at hx)
 walk_at "stp"
 refine iteB (fun e2=>?_) (fun e2=>?_)
 ·refine iteT ?_
  walk_at "stp"
  refine a1p (SqL.of w1.l) (v:=.ref wp) rfl ?_
  walk_at "stp"
  refine ⟨ln (by show 2<=100000; decide),fun p1 hp1'=>?_⟩
  have t1:Same H1 (upd H1 p1 (.lst (["[]","keep"].map fun z=>V.str (Str.ofString z)))):=a0f hp1' _
  refine b3e (t1 _ _ w1.w) a0d (by rw [List.length_map,wd.wl]; exact ln (by decide)) fun p2 hp2=>?_
  walk_at "stp"
  have b5:=Int.emod_nonneg (v / 8) (show (6:Int) ≠ 0 by decide)
  have b6:=Int.emod_lt_of_pos (v / 8) (show (0:Int) < 6 by decide)
  obtain ⟨z,hz⟩:=c0y (ws:=ws ++ ["[]","keep"].map Str.ofString) b5 (by rw [List.length_append,wd.wl]; exact b6)
  rw [List.map_append] at hz
  refine a1p (SqL.of a0d) hz ?_
  walk_at "stp"
  refine ⟨ln (by show 0<=100000; decide),fun p3 hp3=>?_⟩
  walk_at "stp"
  refine ⟨ln (by show 3<=100000; decide),fun r hr=>?_⟩
  have s3:=t1.trans ((a0f hp2 _).trans ((a0f hp3 (.tup [])).trans (a0f hr (.tup [.str appS,.str z,.ref p3]))))
  refine q r _ (.app z []) ns1 (b1.trans s3.but) (fun b hb=>f1 b (s3.free hb)) (s3 _ _ hp1) (a8b (SqT.of a0d) ((a0f hr _).tup (SqT.of a0d)) .nil) ?_ (by rw [ar4,ar4L]; exact ⟨Nat.zero_le _,trivial⟩) (fun x hx=>by simp [vars,a1f] at hx)
  simp only [Trm.size,Trm.sizeL]
  omega
 walk_at "stp"
 refine iteB (fun e3=>?_) (fun e3=>?_)
 ·skip
  walk_at "stp"
  refine a1p (SqL.of w1.l) (v:=.ref wp) rfl ?_
  walk_at "stp"
  refine ⟨ln (by show 2<=100000; decide),fun p1 hp1'=>?_⟩
  have t1:Same H1 (upd H1 p1 (.lst (["[]","keep"].map fun z=>V.str (Str.ofString z)))):=a0f hp1' _
  refine b3e (t1 _ _ w1.w) a0d (by rw [List.length_map,wd.wl]; exact ln (by decide)) fun p2 hp2=>?_
  walk_at "stp"
  have b5:=Int.emod_nonneg (v / 8) (show (6:Int) ≠ 0 by decide)
  have b6:=Int.emod_lt_of_pos (v / 8) (show (0:Int) < 6 by decide)
  obtain ⟨z,hz⟩:=c0y (ws:=ws ++ ["[]","keep"].map Str.ofString) b5 (by rw [List.length_append,wd.wl]; exact b6)
  rw [List.map_append] at hz
  refine a1p (SqL.of a0d) hz ?_
  walk_at "stp"
  refine ⟨ln (by show 0<=100000; decide),fun p3 hp3=>?_⟩
  walk_at "stp"
  refine ⟨ln (by show 3<=100000; decide),fun r hr=>?_⟩
  have s3:=t1.trans ((a0f hp2 _).trans ((a0f hp3 (.tup [])).trans (a0f hr (.tup [.str appS,.str z,.ref p3]))))
  refine q r _ (.app z []) ns1 (b1.trans s3.but) (fun b hb=>f1 b (s3.free hb)) (s3 _ _ hp1) (a8b (SqT.of a0d) ((a0f hr _).tup (SqT.of a0d)) .nil) ?_ (by rw [ar4,ar4L]; exact ⟨Nat.zero_le _,trivial⟩) (fun x hx=>by simp [vars,a1f] at hx)
  simp only [Trm.size,Trm.sizeL]
  omega
 have hr2:=of_decide_eq_false e3
 walk_at "stp"
 have b5:=Int.emod_nonneg (v / 8) (show (4:Int) ≠ 0 by decide)
 have b6:=Int.emod_lt_of_pos (v / 8) (show (0:Int) < 4 by decide)
 obtain ⟨m,hm,hm1,hm4,hmr⟩:∃ m:Int,(if room - 1 < 1 + v / 8 % 4 then room - 1 else 1 + v / 8 % 4) = m/\1<=m/\m<=4/\m<=room - 1:=⟨_,rfl,by split <;> omega⟩
 rw [hm]
 refine ⟨wp,np,ws,xs,w1,fun z H3 s3=>?_⟩
 walk_at "stp"
 refine ⟨ns1,wp,np,ws,xs,w1.same s3,s3 _ _ hp1,by omega,by omega,by omega,by omega,by omega,fun r us H4 ts ns4 b4 f4 kp4 kr d4 l4 z4 a4 v4=>?_⟩
 walk_at "stp"
 refine ⟨ln (by show 3<=100000; decide),fun r2 hr2'=>?_⟩
 have s5:=a0f hr2' (.tup [.str appS,.str z,.ref r])
 refine q r2 _ (.app z ts) ns4 ((b1.trans s3.but).trans (b4.trans s5.but)) (fun b hb=>f1 b (s3.free (f4 b (s5.free hb)))) (s5 _ _ kp4) (a8b (SqT.of a0d) (SqT.of (s5 _ _ kr)) (d4.mono s5)) ?_ (by rw [ar4]; exact ⟨by omega,a4⟩) (fun x hx=>v4 x (by rw [vars] at hx; exact hx))
 simp only [Trm.size]
 omega
theorem ok_mut (T:Txt K mg t) (G_l_parts:FnOk P w K mg base CX0 42 t.a_l_parts t.d_l_parts ["_law_term_here"] (a4b K 41)) (G_l_next:FnOk P w K mg base CX0 1 t.a_l_next t.d_l_next ["_law_left"] (a8d)) (G_l_number:FnOk P w K mg base CX0 1 t.a_l_number t.d_l_number ["_law_cell"] (a5u)) (G_l_sign:FnOk P w K mg base CX0 2 t.a_l_sign t.d_l_sign ["_law_cell","_law_many","_law_words_here"] (a9m)) (n:Nat):FnOk P w K mg base CX0 (42 + 2 * n) t.a_l_term t.d_l_term ["_law_left","_law_room","_law_words_here"] (a4q K n)/\FnOk P w K mg base CX0 (42 + 2 * n + 1) t.a_l_kids t.d_l_kids ["_law_left","_law_many","_law_room","_law_words_here"] (a6q K n):=by
 induction n with
 | zero=>
  have no:∀ vs H Q E,(a4q K 0) vs H Q E->False:=fun vs H Q E h=>by
   unfold a4q at h
   split at h
   ·obtain ⟨_,_,_,_,_,_,_,h1,h2,_⟩:=h
    have h2:_<=(0:Int):=h2
    omega
   ·exact h
  have h0:FnOk P w K mg base CX0 (42 + 2 * 0) t.a_l_term t.d_l_term ["_law_left","_law_room","_law_words_here"] (a4q K 0):=⟨fun vs H Q E h=>(no vs H Q E h).elim,fun A outer s H args us vs Q E _ _ _ _ h=>(no vs H Q E h).elim⟩
  exact ⟨h0,b7z T G_l_parts 0 h0⟩
 | succ n ih=>
  have h1:FnOk P w K mg base CX0 (42 + 2 * (n + 1)) t.a_l_term t.d_l_term ["_law_left","_law_room","_law_words_here"] (a4q K (n + 1)):=c6z T G_l_next G_l_number G_l_sign n ih.2
  exact ⟨h1,b7z T G_l_parts (n + 1) h1⟩
end
section
variable {P:Program} {w:World} {K:W.Frag} {mg:Str->Option Value} {base:Heap} {t:Ad}
theorem c4b (T:Txt K mg t)  : FnOk P w K mg base CX0 1 t.a_l_slots t.d_l_slots ["_law_terms"] (a8k K):=by
 refine T.F_l_slots.ok a9t (fun vs H Q E h=>?_) (fun cdv A outer s H vs Q E hr h=>?_)
 ·unfold a8k at h
  split at h
  ·rfl
  ·exact h.elim
 unfold a8k at h
 split at h
 rotate_left
 ·exact h.elim
 refine ⟨_,(a0e (a0r (i:=1) a9t.nd rfl (by walk_at "or1") b0f) (a0e (c2e (i:=2) a9t.nd rfl (by walk_at "or1") rfl (kpi_rev K rfl rfl T.n_reversed (a0a (mv 0) a0c)) (a8t (a0j a5f) ["_law_terms","_law_slots_here","_law_due","_law_term_here"] ["_law_terms","_law_slots_here","_law_due","%_law_term_here"] rfl rfl (by decide +kernel)) (fun _ _ _ _ _=>a8s) (fun _ _ _ _ _=>(mv 0))) (a0e (a8o PassesOwn.never (a0q b8s (a0t (a1r K rfl) rfl T.n_len PySem.boot_len (a0a (mv 2) a0c)) a0b (a0o _)) (a0e (a0r (i:=3) (hs:=a1x) a9t.nd rfl (by walk_at "or1") (b3d K rfl F.plainAttrs_list F.slot_list_pop F.type_list_pop b9v (mv 2))) (a0e (a1b (a0q a1h (a0l (a0h K rfl) (mv 3) a0b (fun _ _=>rfl)) a0i (a0o _)) (a0g (a8q (a3t hr) (mv 1) (a0l (a0h K rfl) (mv 3) a0b (fun _ _=>rfl)) (c7z (a3t hr) (mv 1) (a0l (a0h K rfl) (mv 3) a0b (fun _ _=>rfl)) (a0t a5b rfl T.n_len PySem.boot_len (a0a (mv 1) a0c)) ⟨rfl,rfl,rfl,rfl⟩) rfl)) a0x) (a0g (a1b (a0q a1h (a0l (a0h K rfl) (mv 3) a0b (fun _ _=>rfl)) a0i (a0o _)) (a0g (a1e (a9s K rfl F.plainAttrs_list F.slot_list_extend F.type_list_extend (b7q K rfl) (mv 2) (a0a (b2m K rfl rfl rfl T.n_list rfl T.n_reversed (a0a (a0l (a0h K rfl) (mv 3) a0b (fun _ _=>rfl)) a0c)) a0c)))) a0x))))) (a0g (a0p (mv 1)))))),?_⟩
 rename_i a
 obtain ⟨us,ts,hS,hd,hz,q⟩:=h
 have hul:=a1y hd
 have tl:=Trm.len_le ts
 walk_at "stp"
 intro pd hpd
 have s1:=a0f hpd (.dK [])
 have k1:(upd H pd (.dK [])) pd = some (.dK []):=a0d
 generalize upd H pd (.dK []) = H1 at s1 k1 ⊢
 walk_at "stp"
 refine ⟨a,us,rfl,s1.seq hS,fun pt hpt=>?_⟩
 refine a7h (row_rev (xs:=us)) (fun i ys J=>Same H1 J/\ys = us.reverse.take i/\J pt = some (.lst ys)) (ln (by omega)) ⟨a0f hpt _,rfl,a0d⟩ (fun i ys J hP=>hP.1.seq (s1.seq hS)) (fun i ys J Q' hi hl' hP kk=>?_) (fun ys H2 hl' hP=>?_)
 ·obtain ⟨g1,g2,g3⟩:=hP
  walk_at "stp"
  refine kk _ _ g3 ⟨a2k g1 hpt,?_,a0d⟩
  have hr:i < us.reverse.length:=by rw [List.length_reverse]; exact hi
  rw [g2,take_succ' hr,List.getElem_reverse,getD_at (by omega)]
 obtain ⟨s2,g2,k2⟩:=hP
 rw [List.take_of_length_le (by rw [List.length_reverse]; exact Nat.le_refl _)] at g2
 subst g2
 have hpt0:H pt = none:=a2t s1 hpt
 have hne:pd ≠ pt:=fun z=>by rw [z,hpt] at k1; cases k1
 have d2:DenL K H2 us.reverse (Trm.dataL ts.reverse):=by rw [<- b0y]; exact My.DenL.rev (hd.mono (s1.trans s2))
 walk_at "stp"
 refine a8a (fun n σ' H'=>∃ (ws:List V) (st:List Trm) (acc:List Str) (o1:Option V),σ' = [some (.ref a),some (.ref pd),some (.ref pt),o1]/\H' pt = some (.lst ws)/\DenL K H' ws (Trm.dataL st)/\H' pd = some (.dK (encJ 0 acc))/\acc.length + Trm.sizeL st<=1000/\ordL st.reverse acc = ordL ts []/\n = Trm.sizeL st/\Same H H'/\acc.Nodup) (Trm.sizeL ts.reverse) ⟨us.reverse,ts.reverse,[],none,rfl,k2,d2,s2 _ _ k1,by rw [a9l]; simp; omega,by rw [List.reverse_reverse],rfl,s1.trans s2,by simp⟩ (fun n σ' H' R hP kT kF=>?_)
 obtain ⟨ws,st,acc,o1,rfl,h1,h2,h3,h4,h5,h6,h7,h8⟩:=hP
 walk_at "stp"
 refine a4h (SqL.of h1) ?_
 walk_at "stp"
 rcases nil_or_snoc' st with rfl | ⟨st',t1,rfl⟩
 ·have e:ws = []:=by have:=a1y h2; simpa using this
  subst e
  refine kF H' ?_
  walk_at "stp"
  rw [List.reverse_nil,ordL] at h5
  rw [h5] at h3
  exact q pd H' h7 h3
 ·rw [a6o] at h2
  obtain ⟨ws',w,rfl,g1,g2⟩:=DenL.snoc h2
  have hwl:=a1y g1
  have hsl:=Trm.len_le st'
  have e:decide (0 < ((ws' ++ [w]).length:Int)) = true:=decide_eq_true (by rw [List.length_append,List.length_singleton]; omega)
  rw [e]
  have hsz:=Trm.sizeL_app st' [t1]
  have hs1:Trm.sizeL [t1] = t1.size:=by simp [Trm.sizeL]
  have tpos:=t1.size_pos
  rw [List.reverse_append,List.reverse_singleton,List.singleton_append,ordL] at h5
  refine kT H' (fun D' e1 e2 hnx hct=>?_)
  walk_at "stp"
  refine ⟨.inl ⟨rfl,_,SqL.of h1⟩,?_⟩
  refine b9z h1 ?_
  walk_at "stp"
  have f1:DenL K (upd H' pt (.lst ws')) ws' (Trm.dataL st'):=g1.lst h1
  have f2:Den K (upd H' pt (.lst ws')) w t1.data:=g2.lst h1
  have f3:Same H (upd H' pt (.lst ws')):=a2k h7 hpt0
  have f4:(upd H' pt (.lst ws')) pt = some (.lst ws'):=a0d
  have f5:(upd H' pt (.lst ws')) pd = some (.dK (encJ 0 acc)):=by rw [a0n hne]; exact h3
  generalize upd H' pt (.lst ws') = J at f1 f2 f3 f4 f5 ⊢
  cases t1 with
  | any x=>
   obtain ⟨b,rfl,hb⟩:=a8w f2
   refine a0k hb (v:=.str anyS) rfl ?_
   walk_at "stp"
   rw [Bool.false_xor,q3]
   refine iteT ?_
   walk_at "stp"
   refine ⟨pd,rfl,.inl ⟨_,.inl f5⟩,?_⟩
   walk_at "stp"
   refine a0k hb (v:=.str x) rfl ?_
   walk_at "stp"
   refine ⟨pd,_,rfl,f5,?_⟩
   rw [a2s]
   refine ⟨_,DGet.k (k:=Sum.inr x) f5,?_⟩
   have hput:putK (encJ 0 acc) (Sum.inr x) ((valV (encJ 0 acc) (Sum.inr x)).getD (.int (acc.length:Int))) = encJ 0 (ord (.any x) acc):=by
    rw [ord]
    by_cases hx:x ∈ acc
    ·rw [if_pos hx,valJ 0 hx,Nat.zero_add]
     exact c6m h8 hx
    ·rw [if_neg hx,b7e 0 hx]
     exact c0m hx
   generalize (valV (encJ 0 acc) (Sum.inr x)).getD (.int (acc.length:Int)) = vv at hput ⊢
   walk_at "stp"
   refine a0k hb (v:=.str x) rfl ?_
   walk_at "stp"
   refine ⟨pd,_,rfl,DPut.k (k:=Sum.inr x) f5 (by rw [a2s,sizeLine_eq]; omega),?_⟩
   rw [hput]
   have bb:But pd J (upd J pd (.dK (encJ 0 (ord (.any x) acc)))):=a3d
   have ol:=b3z (.any x) acc
   have tb:=(a7u (K:=K) bb f5) _ _ hb
   walk_at "stp"
   refine a0k tb (v:=.str anyS) rfl ?_
   walk_at "stp"
   refine iteB (fun e=>absurd e (by decide +kernel)) (fun e=>?_)
   walk_at "stp"
   exact hnx _ _ (Trm.sizeL st') (by omega) ⟨ws',st',ord (.any x) acc,_,rfl,bb _ _ hne.symm f4,f1.monoT (a7u bb f5),a0d,by omega,h5,rfl,b7d f3 bb hpd,c2l _ _ h8⟩
  | num m=>
   obtain ⟨b,rfl,hb⟩:=a8v f2
   refine a0k hb (v:=.str numS) rfl ?_
   walk_at "stp"
   rw [Bool.false_xor,q1]
   refine iteF ?_
   walk_at "stp"
   refine a0k hb (v:=.str numS) rfl ?_
   walk_at "stp"
   refine iteB (fun e=>absurd e (by decide +kernel)) (fun e=>?_)
   walk_at "stp"
   rw [ord] at h5
   exact hnx _ _ (Trm.sizeL st') (by omega) ⟨ws',st',acc,_,rfl,f4,f1,f5,by omega,h5,rfl,f3,h8⟩
  | app sg ks=>
   obtain ⟨b,c,ku,rfl,hb,hc,hk⟩:=a4z f2
   have hkl:=a1y hk
   have kl:=Trm.len_le ks
   simp only [Trm.size] at hs1 tpos
   refine a0k hb (v:=.str appS) rfl ?_
   walk_at "stp"
   rw [Bool.false_xor,q2]
   refine iteF ?_
   walk_at "stp"
   refine a0k hb (v:=.str appS) rfl ?_
   walk_at "stp"
   refine iteB (fun e=>?_) (fun e=>absurd e (by decide +kernel))
   walk_at "stp"
   refine ⟨.inl ⟨rfl,_,SqL.of f4⟩,?_⟩
   walk_at "stp"
   refine a0k hb (v:=.ref c) rfl ?_
   walk_at "stp"
   refine ⟨c,ku,rfl,.inr hc,by omega,fun pr hpr=>?_⟩
   have s5:=a0f hpr (.lst ku.reverse)
   have k5:(upd J pr (.lst ku.reverse)) pr = some (.lst ku.reverse):=a0d
   generalize upd J pr (.lst ku.reverse) = J5 at s5 k5 ⊢
   walk_at "stp"
   refine c5m (s5 _ _ f4) k5 (ln (by rw [List.length_reverse]; omega)) ?_
   walk_at "stp"
   rw [ord] at h5
   have sz:=Trm.sizeL_app st' ks.reverse
   rw [a9l] at sz
   have k6:=s5 _ _ f4
   refine hnx _ _ (Trm.sizeL (st' ++ ks.reverse)) (by omega) ⟨ws' ++ ku.reverse,st' ++ ks.reverse,acc,_,rfl,a0d,?_,?_,by omega,?_,rfl,a2k (f3.trans s5) hpt0,h8⟩
   ·rw [a6o,<- b0y]
    exact ((f1.mono s5).append (My.DenL.rev (hk.mono s5))).lst k6
   ·rw [a0n hne]
    exact s5 _ _ f5
   ·rw [List.reverse_append,List.reverse_reverse,b0j]
    exact h5
theorem b8j (T:Txt K mg t)  (n:Nat) (G_l_by_slots:FnOk P w K mg base CX0 (n + 2) t.a_l_by_slots t.d_l_by_slots ["_law_term_here","_law_slots_here"] (a3f K n)):FnOk P w K mg base CX0 (n + 2 + 1) t.a_l_by_slots t.d_l_by_slots ["_law_term_here","_law_slots_here"] (a3f K (n + 1)):=by
 refine T.F_l_by_slots.ok (k:=n + 2) b8f (fun vs H Q E h=>?_) (fun cdv A outer s H vs Q E hr h=>?_)
 ·unfold a3f at h
  split at h
  ·rfl
  ·exact h.elim
 unfold a3f at h
 split at h
 rotate_left
 ·exact h.elim
 refine ⟨_,(a0e (a1b (a0q a1h (a0l (a0h K rfl) (mv 0) a0b (fun _ _=>rfl)) a0i (a0o _)) (a0g (a0p (a0z (a0a a0i (a0a (a8p (a3t hr) (mv 1) (a0l (a0h K rfl) (mv 0) a0b (fun _ _=>rfl)) (fun _ _=>rfl)) a0c))))) a0x) (a0e (a1b (a0q a1h (a0l (a0h K rfl) (mv 0) a0b (fun _ _=>rfl)) a0i (a0o _)) (a0g (a0p (mv 0))) a0x) (a0g (a0p (a0z (a0a a0i (a0a (a0l (a0h K rfl) (mv 0) a0b (fun _ _=>rfl)) (a0a (a3e (b2i K rfl) rfl T.n_tuple boot_tuple (a0a (b1m rfl (c2h K rfl (a0l (a0h K rfl) (mv 0) a0b (fun _ _=>rfl))) (a8t (a0j a3q) ["_law_term_here","_law_slots_here"] ["_law_term_here","_law_slots_here"] rfl rfl (by decide +kernel)) (fun _ _ _ _ _=>a8s) (fun _ _ _ _ _=>(a0u G_l_by_slots (hr.mono (by walk_at "rm1")) rfl T.m_l_by_slots T.F_l_by_slots.kp T.b_l_by_slots .nil a0s (a0a (mv 0) (a0a (mv 2) a0c))))) a0c)) a0c)))))))),?_⟩
 rename_i v d
 obtain ⟨t0,u,hd,hD,hv,hz,hn,q⟩:=h
 walk_at "stp"
 cases t0 with
 | any x=>
  obtain ⟨a,rfl,hs⟩:=a8w hd
  have hx:x ∈ u:=hv x (by simp [vars])
  refine a0k hs (v:=.str anyS) rfl ?_
  walk_at "stp"
  rw [Bool.false_xor,q3]
  refine iteT ?_
  walk_at "stp"
  refine a0k hs (v:=.str x) rfl ?_
  walk_at "stp"
  have dg:DGet H d (.str x) (valV (encJ 0 u) (Sum.inr x)):=DGet.k (k:=Sum.inr x) hD
  rw [valJ 0 hx,Nat.zero_add] at dg
  refine ⟨d,_,rfl,dg,?_⟩
  walk_at "stp"
  refine ⟨ln (by show 2<=100000; decide),fun p hp=>?_⟩
  exact q _ _ (a0f hp _) (by rw [byD]; exact .tup (SqT.of a0d) (.cons (.str _) (.cons (.int _) .nil)))
 | num m=>
  obtain ⟨a,rfl,hs⟩:=a8v hd
  refine a0k hs (v:=.str numS) rfl ?_
  walk_at "stp"
  rw [Bool.false_xor,q1]
  refine iteF ?_
  walk_at "stp"
  refine a0k hs (v:=.str numS) rfl ?_
  walk_at "stp"
  refine iteB (fun e=>?_) (fun e=>absurd e (by decide +kernel))
  walk_at "stp"
  exact q _ H (Same.refl _) (by rw [byD]; exact .tup hs (.cons (.str _) (.cons (.int _) .nil)))
 | app sg ks=>
  obtain ⟨a,b,us,rfl,hs,hb,hk⟩:=a4z hd
  have hkl:=a1y hk
  simp only [Trm.size] at hz
  refine a0k hs (v:=.str appS) rfl ?_
  walk_at "stp"
  rw [Bool.false_xor,q2]
  refine iteF ?_
  walk_at "stp"
  refine a0k hs (v:=.str appS) rfl ?_
  walk_at "stp"
  refine iteB (fun e=>absurd e (by decide +kernel)) (fun e=>?_)
  walk_at "stp"
  refine a0k hs (v:=.str sg) rfl ?_
  walk_at "stp"
  refine a0k hs (v:=.ref b) rfl ?_
  refine ⟨b,rfl,⟨_,hb⟩,fun D hD'=>?_⟩
  have zl:=Trm.len_le ks
  refine a7h (b6u (xs:=us)) (fun i ys J=>Same H J/\J D = some (.lst ys)/\DenL K J ys (byL (ix u) (ks.take i))) (ln (by omega)) ⟨a0f hD' _,a0d,by rw [List.take_zero,byL]; exact .nil⟩ (fun i ys J hP=>hP.1.tup hb) (fun i ys J Q' hi hl' hP kk=>?_) (fun ys J hl' hP=>?_)
  ·obtain ⟨g1,g2,g3⟩:=hP
   have hki:i < ks.length:=by omega
   obtain ⟨hu,dk⟩:=b0b hk hki
   have z1:=b0m (List.getElem?_eq_getElem hki)
   walk_at "stp"
   rw [getD_at hu]
   refine ⟨ks[i],u,dk.mono g1,g1 _ _ hD,fun x hx=>hv x (by rw [vars]; exact b1s hki x hx),by omega,by omega,fun x J2 s2 dx=>?_⟩
   have g6:J2 D = some (.lst ys):=s2 _ _ g2
   refine kk _ _ g6 ⟨a2k (g1.trans s2) hD',a0d,?_⟩
   rw [take_succ' hki,b0a,List.map_append,<- b0a]
   exact ((g3.mono s2).append (.cons dx .nil)).lst g6
  obtain ⟨g1,g2,g3⟩:=hP
  rw [List.take_of_length_le (by omega)] at g3
  walk_at "stp"
  refine b6b (SqL.of g2) (fun p2 hp2=>?_)
  have s2:=a0f hp2 (.tup ys)
  have k2:(upd J p2 (.tup ys)) p2 = some (.tup ys):=a0d
  generalize upd J p2 (.tup ys) = J2 at s2 k2 ⊢
  walk_at "stp"
  refine ⟨ln (by show 3<=100000; decide),fun p3 hp3=>?_⟩
  have s3:=a0f hp3 (.tup [.str (Str.ofString "app"),.str sg,.ref p2])
  have ss:=s2.trans s3
  exact q _ _ (g1.trans ss) (by rw [byD]; exact .tup (SqT.of a0d) (.cons (.str _) (.cons (.str _) (.cons (.tup (SqT.of (s3 _ _ k2)) (g3.mono ss)) .nil))))
theorem b8k (T:Txt K mg t)  (n:Nat):FnOk P w K mg base CX0 (n + 2) t.a_l_by_slots t.d_l_by_slots ["_law_term_here","_law_slots_here"] (a3f K n):=by
 induction n with
 | zero=>
  have no:∀ vs H Q E,(a3f K 0) vs H Q E->False:=fun vs H Q E h=>by
   unfold a3f at h
   split at h
   ·exact b8i h
   ·exact h
  exact ⟨fun vs H Q E h=>(no vs H Q E h).elim,fun A outer s H args us vs Q E _ _ _ _ h=>(no vs H Q E h).elim⟩
 | succ n ih=>
  have e:n + 1 + 2 = n + 2 + 1:=by omega
  rw [e]
  exact b8j T  n ih
end
section
variable {P:Program} {w:World} {K:W.Frag} {mg:Str->Option Value} {base:Heap} {t:Ad}
noncomputable def Mk.of (j:Nat):Mk:=match j with | 0=>.eq | 1=>.asg | 2=>.lt | _=>.le
theorem mk_at {j:Int} (h0:0<=j) (h1:j < 4):∃ m:Mk,atI [V.str (Str.ofString "="),V.str (Str.ofString ":="),V.str (Str.ofString "<"),V.str (Str.ofString "<=")] j = some (.str m.sign):=by
 obtain ⟨k,rfl⟩:=Int.eq_ofNat_of_zero_le h0
 have hk:k < 4:=by omega
 match k,hk with
 | 0,_=>exact ⟨.eq,rfl⟩
 | 1,_=>exact ⟨.asg,rfl⟩
 | 2,_=>exact ⟨.lt,rfl⟩
 | 3,_=>exact ⟨.le,rfl⟩
theorem two_of {ks:List Trm} (h:(ks.length:Int) = 2):∃ a b,ks = [a,b]:=by
 match ks,h with
 | [a,b],_=>exact ⟨a,b,rfl⟩
 | [],h=>simp at h
 | [_],h=>simp at h
 | _ :: _ :: _ :: _,h=>simp at h; omega
theorem c7a (T:Txt K mg t) (G_l_next:FnOk P w K mg base CX0 1 t.a_l_next t.d_l_next ["_law_left"] (a8d)) (G_l_kids:FnOk P w K mg base CX0 89 t.a_l_kids t.d_l_kids ["_law_left","_law_many","_law_room","_law_words_here"] (a6q K 23)):FnOk P w K mg base CX0 91 t.a_l_goal t.d_l_goal ["_law_left","_law_words_here"] (b1b K):=by
 refine T.F_l_goal.ok a9j (fun vs H Q E h=>?_) (fun cdv A outer s H vs Q E hr h=>?_)
 ·unfold b1b at h
  split at h
  ·rfl
  ·exact h.elim
 unfold b1b at h
 split at h
 rotate_left
 ·exact h.elim
 refine ⟨_,(a0e (a0r (i:=2) (hs:=a1x) a9j.nd rfl (by walk_at "or1") (a0u G_l_next (hr.mono (by walk_at "rm1")) rfl T.m_l_next T.F_l_next.kp T.b_l_next .nil a0s (a0a (mv 0) a0c))) (a0e (a0r (i:=3) (hs:=a2o) a9j.nd rfl (by walk_at "or1") (a0m (a1d K rfl) a0b (a0m a6y (a0m a1l (a0m a2q (mv 2) a0b) a0b) a0b))) (a0e (a0r (i:=4) (hs:=a2o) a9j.nd rfl (by walk_at "or1") (a0m a1l (mv 2) a0b)) (a0e (a1b (a0q a1h (mv 4) a0b (a0o _)) (a0g (a0p (a0z (a0a a0i (a0a a0i (a0a (a0z a0c) a0c)))))) a0x) (a0e (a1b (a0q a8z (mv 4) a0b (a0o _)) (a0g (a0p (a0z (a0a a0i (a0a (a0l (a0h K rfl) (a2x (a0a a0i (a0a a0i (a0a a0i (a0a a0i a0c))))) (a0m a5p (mv 4) a0b) (fun _ _=>rfl)) (a0a (a0u G_l_kids (hr.mono (by walk_at "rm1")) rfl T.m_l_kids T.F_l_kids.kp T.b_l_kids .nil a0s (a0a (mv 0) (a0a a0b (a0a (mv 3) (a0a (mv 1) a0c))))) a0c)))))) a0x) (a0e (a0r (i:=5) (hs:=c5v) a9j.nd rfl (by walk_at "or1") (a0z (a0a a0i (a0a (a0l (a0h K rfl) (a0l (a0h K rfl) (mv 1) a0b (fun _ _=>rfl)) (a0m a1l (a0m a2q (mv 2) a0b) a0b) (fun _ _=>rfl)) (a0a (a0u G_l_kids (hr.mono (by walk_at "rm1")) rfl T.m_l_kids T.F_l_kids.kp T.b_l_kids .nil a0s (a0a (mv 0) (a0a (a0m a1l (a0m a2q (mv 2) a0b) a0b) (a0a (mv 3) (a0a (mv 1) a0c))))) a0c))))) (a0e (a1b (a0q a1h (mv 4) a0b (a0o _)) (a0g (a0p (a0z (a0a a0i (a0a a0i (a0a (a0z (a0a (mv 5) a0c)) a0c)))))) a0x) (a0g (a0p (mv 5)))))))))),?_⟩
 rename_i p wq
 obtain ⟨ns,wp,np,ws,xs,wd,hp,hwo,q⟩:=h
 walk_at "stp"
 refine ⟨ns,hp,fun v ns1 H1 b1 f1 hp1=>?_⟩
 have w1:=wd.but hp b1
 have r1:=Int.emod_nonneg (v / 50) (show (4:Int) ≠ 0 by decide)
 have r2:=Int.emod_lt_of_pos (v / 50) (show (0:Int) < 4 by decide)
 have r3:=Int.emod_nonneg v (show (10:Int) ≠ 0 by decide)
 have r4:=Int.emod_lt_of_pos v (show (0:Int) < 10 by decide)
 walk_at "stp"
 refine a6e (a4d (by decide)) ?_
 walk_at "stp"
 generalize hroom:4 + v / 50 % 4 * 6 = room
 have hr0:4<=room:=by omega
 have hr1:room<=22:=by omega
 refine iteB (fun e=>?_) (fun e=>?_)
 ·walk_at "stp"
  refine ⟨ln (by show 0<=100000; decide),fun p3 hp3=>?_⟩
  walk_at "stp"
  refine ⟨ln (by show 3<=100000; decide),fun r hr=>?_⟩
  have s3:=(a0f hp3 (.tup [])).trans (a0f hr (.tup [.str appS,.str a2p,.ref p3]))
  refine q r _ .keep ns1 (b1.trans s3.but) (fun b hb=>f1 b (s3.free hb)) (s3 _ _ hp1) (a8b (SqT.of a0d) ((a0f hr _).tup (SqT.of a0d)) .nil) ⟨trivial,?_,?_,?_,?_⟩
  ·simp only [Go.trm,Trm.size,Trm.sizeL]; omega
  ·show ar4L []; rw [ar4L]; trivial
  ·exact Nat.zero_le _
  ·intro x hx; simp [Go.kids,a1f] at hx
 have e:=of_decide_eq_false (by simpa using e)
 walk_at "stp"
 refine iteB (fun e1=>?_) (fun e1=>?_)
 ·have e1:=of_decide_eq_true e1
  walk_at "stp"
  refine ⟨ln (by show 4<=100000; decide),fun p3 hp3=>?_⟩
  have s3:=a0f hp3 (.lst [.str (Str.ofString "="),.str (Str.ofString ":="),.str (Str.ofString "<"),.str (Str.ofString "<=")])
  have k3:(upd H1 p3 (.lst [.str (Str.ofString "="),.str (Str.ofString ":="),.str (Str.ofString "<"),.str (Str.ofString "<=")])) p3 = some (.lst [.str (Str.ofString "="),.str (Str.ofString ":="),.str (Str.ofString "<"),.str (Str.ofString "<=")]):=a0d
  generalize upd H1 p3 (.lst [.str (Str.ofString "="),.str (Str.ofString ":="),.str (Str.ofString "<"),.str (Str.ofString "<=")]) = H3 at s3 k3 ⊢
  walk_at "stp"
  obtain ⟨m,hm⟩:=mk_at (j:=v % 10 - 1) (by omega) (by omega)
  refine a1p (SqL.of k3) hm ?_
  walk_at "stp"
  refine ⟨ns1,wp,np,ws,xs,w1.same s3,s3 _ _ hp1,by omega,by omega,by omega,by omega,by omega,fun r us H4 ts ns4 b4 f4 kp4 kr d4 l4 z4 a4 v4=>?_⟩
  obtain ⟨ta,tb,rfl⟩:=two_of l4
  walk_at "stp"
  refine ⟨ln (by show 3<=100000; decide),fun r2 hr2'=>?_⟩
  have s5:=a0f hr2' (.tup [.str appS,.str m.sign,.ref r])
  refine q r2 _ (.mark m ta tb) ns4 ((b1.trans s3.but).trans (b4.trans s5.but)) (fun b hb=>f1 b (s3.free (f4 b (s5.free hb)))) (s5 _ _ kp4) (a8b (SqT.of a0d) (SqT.of (s5 _ _ kr)) (d4.mono s5)) ⟨trivial,?_,a4,by show 2<=4; omega,v4⟩
  simp only [Go.trm,Trm.size]
  omega
 have e1:=of_decide_eq_false e1
 have n1:=Int.emod_nonneg (v / 10) (show (4:Int) ≠ 0 by decide)
 have n2:=Int.emod_lt_of_pos (v / 10) (show (0:Int) < 4 by decide)
 have n3:=Int.emod_nonneg (v / 10) (show (5:Int) ≠ 0 by decide)
 have n4:=Int.emod_lt_of_pos (v / 10) (show (0:Int) < 5 by decide)
 walk_at "stp"
 refine a1p (SqL.of w1.l) (v:=.ref wp) rfl ?_
 walk_at "stp"
 obtain ⟨z,hz,hzw⟩:=c0z (ws:=ws) n1 (by rw [wd.wl]; exact n2)
 refine a1p (SqL.of w1.w) hz ?_
 walk_at "stp"
 refine ⟨ns1,wp,np,ws,xs,w1,hp1,by omega,by omega,by omega,by omega,by omega,fun r us H4 ts ns4 b4 f4 kp4 kr d4 l4 z4 a4 v4=>?_⟩
 walk_at "stp"
 refine ⟨ln (by show 3<=100000; decide),fun r2 hr2'=>?_⟩
 have s5:=a0f hr2' (.tup [.str appS,.str z,.ref r])
 have k5:(upd H4 r2 (.tup [.str appS,.str z,.ref r])) r2 = some (.tup [.str appS,.str z,.ref r]):=a0d
 have kk5:upd H4 r2 (.tup [.str (Str.ofString "app"),.str z,.ref r]) = upd H4 r2 (.tup [.str appS,.str z,.ref r]):=rfl
 rw [kk5]
 generalize upd H4 r2 (.tup [.str appS,.str z,.ref r]) = H5 at s5 k5 ⊢
 have d5:Den K H5 (.ref r2) (Trm.app z ts).data:=a8b (SqT.of k5) (SqT.of (s5 _ _ kr)) (d4.mono s5)
 have bb:=b1.trans (b4.trans s5.but)
 have ff:∀ b,H5 b = none->H b = none:=fun b hb=>f1 b (f4 b (s5.free hb))
 walk_at "stp"
 refine iteB (fun e2=>?_) (fun e2=>?_)
 ·walk_at "stp"
  refine ⟨ln (by show 1<=100000; decide),fun p6 hp6=>?_⟩
  have s6:=a0f hp6 (.tup [.ref r2])
  have k6:(upd H5 p6 (.tup [.ref r2])) p6 = some (.tup [.ref r2]):=a0d
  generalize upd H5 p6 (.tup [.ref r2]) = H6 at s6 k6 ⊢
  walk_at "stp"
  refine ⟨ln (by show 3<=100000; decide),fun p7 hp7=>?_⟩
  have s7:=a0f hp7 (.tup [.str appS,.str notS,.ref p6])
  have s67:=s6.trans s7
  refine q p7 _ (.neg z ts) ns4 (bb.trans s67.but) (fun b hb=>ff b (s67.free hb)) (s67 _ _ (s5 _ _ kp4)) (a8b (SqT.of a0d) (SqT.of (s7 _ _ k6)) (.cons (d5.mono s67) .nil)) ⟨hwo z hzw,?_,a4,by show ts.length<=4; omega,v4⟩
  simp only [Go.trm,Trm.size,Trm.sizeL]
  omega
 walk_at "stp"
 refine q r2 _ (.nm z ts) ns4 bb ff (s5 _ _ kp4) d5 ⟨hwo z hzw,?_,a4,by show ts.length<=4; omega,v4⟩
 simp only [Go.trm,Trm.size]
 omega
end
noncomputable def keyD:Key->PyData
 | .inl n=>.int n
 | .inr s=>.str s
noncomputable def rowD (ks:List Key):PyData:=.tuple (ks.map keyD)
theorem c1a {K:W.Frag} {H:Hp}:∀ {us:List V} {ks:List Key},DenL K H us (ks.map keyD)->us = ks.map kV
 | _,[],h=>by cases h; rfl
 | _,k :: ks,h=>by
  cases h with
  | cons a b=>
   rw [c1a b,List.map_cons]
   cases k with
   | inl n=>cases a; rfl
   | inr s=>cases a; rfl
theorem row_sq {K:W.Frag} {H:Hp} {v:V} {ks:List Key} (h:Den K H v (rowD ks)):∃ a,v = .ref a/\SqT K H a (ks.map kV):=by
 cases h with
 | tup hs hl=>exact ⟨_,rfl,c1a hl ▸ hs⟩
noncomputable def rwK:Rw->List Key
 | .slot c s=>[.inr b8z,.inl c,.inl s]
 | .same c s=>[.inr b9a,.inl c,.inl s]
 | .num c n=>[.inr numS,.inl c,.inl n]
 | .app c g m f=>[.inr appS,.inl c,.inr g,.inl m,.inl f]
theorem rw_data (r:Rw):r.data = rowD (rwK r):=by cases r <;> rfl
noncomputable def brK (sl:Str->Nat):Br->List Key
 | .put c x=>[.inr putS,.inl c,.inl (sl x)]
 | .pnum c n=>[.inr a9c,.inl c,.inl n]
 | .bld c g ks f=>[.inr bldS,.inl c,.inr g,.inl ks.length,.inl f]
theorem br_data (sl:Str->Nat) (r:Br):r.data sl = rowD (brK sl r):=by cases r <;> rfl
noncomputable def goK (call:Str):Go->List Key
 | .keep=>[.inr a2p]
 | .mark m _ _=>[.inr m.tag]
 | .neg w ks=>[.inr notS,.inr w,.inl ks.length]
 | .nm w ks=>[.inr call,.inr w,.inl ks.length]
theorem go_data (call:Str) (g:Go):g.row call = rowD (goK call g):=by cases g <;> rfl
noncomputable def a7c:List Key:=[.inr (Str.ofString "frame")]
noncomputable def a7e:List Key:=[.inr (Str.ofString "back")]
noncomputable def b9c:List Key:=[.inr (Str.ofString "tell")]
noncomputable def newK (s:Nat):List Key:=[.inr newS,.inl s]
noncomputable def gK (sl:Str->Nat) (call:Str) (g:Go):List (List Key):=(brL g.kids 0 g.kids.length).map (brK sl) ++ [goK call g]
noncomputable def gsK (sl:Str->Nat) (f:Nat->Str):Nat->List Go->List (List Key)
 | _,[]=>[]
 | i,g :: gs=>gK sl (f i) g ++ gsK sl f (i + 1) gs
theorem gK_data (sl:Str->Nat) (call:Str) (g:Go):gR sl call g = (gK sl call g).map rowD:=by
 unfold gR gK
 rw [List.map_append,List.map_map,go_data]
 congr 1
 exact List.map_congr_left fun r _=>br_data sl r
theorem b2r (sl:Str->Nat) (f:Nat->Str):∀ (i:Nat) (gs:List Go),gsR sl f i gs = (gsK sl f i gs).map rowD
 | i,[]=>by rw [gsR,gsK]; rfl
 | i,g :: gs=>by rw [gsR,gsK,List.map_append,gK_data,b2r sl f (i + 1) gs]
theorem c9n (sl:Str->Nat) (ks:List Trm) (c C:Nat) (met:List Str):(taL sl ks c C met).map Rw.data = ((taL sl ks c C met).map rwK).map rowD:=by
 rw [List.map_map]
 exact List.map_congr_left fun r _=>rw_data r
noncomputable def a4w (a n:Nat):List (List Key):=(List.range n).map fun j=>newK (a + j)
noncomputable def a3y (sl:Str->Nat) (r:Bool) (a n:Nat) (gs:List Go) (tl:List (List Key)):List (List Key):=a7c :: a4w a n ++ gsK sl (a1s r gs.length) 0 gs ++ tl
noncomputable def szA:List (Key × V):=[(Sum.inr (Str.ofString "slot"),.int 3),(Sum.inr (Str.ofString "same"),.int 3),(Sum.inr (Str.ofString "num"),.int 3),(Sum.inr (Str.ofString "app"),.int 5),(Sum.inr (Str.ofString "frame"),.int 1),(Sum.inr (Str.ofString "new"),.int 2),(Sum.inr (Str.ofString "put"),.int 3),(Sum.inr (Str.ofString "putnum"),.int 3),(Sum.inr (Str.ofString "build"),.int 5)]
noncomputable def szB:List (Key × V):=[(Sum.inr (Str.ofString "call"),.int 3),(Sum.inr (Str.ofString "jump"),.int 3),(Sum.inr (Str.ofString "not"),.int 3),(Sum.inr (Str.ofString "keep"),.int 1),(Sum.inr (Str.ofString "equal"),.int 1),(Sum.inr (Str.ofString "reckon"),.int 1),(Sum.inr (Str.ofString "less"),.int 1),(Sum.inr (Str.ofString "atmost"),.int 1)]
noncomputable def szC:List (Key × V):=[(Sum.inr (Str.ofString "back"),.int 1),(Sum.inr (Str.ofString "tell"),.int 1)]
noncomputable def a1j:List (Key × V):=a1a (a1a (a1a [] szA) szB) szC
theorem sz_slot:valV a1j (Sum.inr (Str.ofString "slot")) = some (.int 3):=by kernel_rfl
theorem sz_same:valV a1j (Sum.inr (Str.ofString "same")) = some (.int 3):=by kernel_rfl
theorem sz_num:valV a1j (Sum.inr (Str.ofString "num")) = some (.int 3):=by kernel_rfl
theorem sz_app:valV a1j (Sum.inr (Str.ofString "app")) = some (.int 5):=by kernel_rfl
theorem c9o:valV a1j (Sum.inr (Str.ofString "frame")) = some (.int 1):=by kernel_rfl
theorem sz_new:valV a1j (Sum.inr (Str.ofString "new")) = some (.int 2):=by kernel_rfl
theorem sz_put:valV a1j (Sum.inr (Str.ofString "put")) = some (.int 3):=by kernel_rfl
theorem c7b:valV a1j (Sum.inr (Str.ofString "putnum")) = some (.int 3):=by kernel_rfl
theorem c9p:valV a1j (Sum.inr (Str.ofString "build")) = some (.int 5):=by kernel_rfl
theorem sz_call:valV a1j (Sum.inr (Str.ofString "call")) = some (.int 3):=by kernel_rfl
theorem sz_jump:valV a1j (Sum.inr (Str.ofString "jump")) = some (.int 3):=by kernel_rfl
theorem sz_not:valV a1j (Sum.inr (Str.ofString "not")) = some (.int 3):=by kernel_rfl
theorem sz_keep:valV a1j (Sum.inr (Str.ofString "keep")) = some (.int 1):=by kernel_rfl
theorem c9q:valV a1j (Sum.inr (Str.ofString "equal")) = some (.int 1):=by kernel_rfl
theorem c7c:valV a1j (Sum.inr (Str.ofString "reckon")) = some (.int 1):=by kernel_rfl
theorem sz_less:valV a1j (Sum.inr (Str.ofString "less")) = some (.int 1):=by kernel_rfl
theorem c7d:valV a1j (Sum.inr (Str.ofString "atmost")) = some (.int 1):=by kernel_rfl
theorem c2q:valV a1j (Sum.inr (Str.ofString "back")) = some (.int 1):=by kernel_rfl
theorem sz_tell:valV a1j (Sum.inr (Str.ofString "tell")) = some (.int 1):=by kernel_rfl
noncomputable def a4c (tag:Str) (k:Nat):Bool:=(decide (tag ∈ [appS,bldS]) && decide (k = 2)) || (decide (tag ∈ [a3c,a4v,notS]) && decide (k = 1))
noncomputable def isS:Key->Bool
 | .inl _=>false
 | .inr _=>true
noncomputable def a4x (ks:List Key):Prop:=∃ (tag:Str) (els:List Key),ks = .inr tag :: els/\els.length<=4/\valV a1j (.inr tag) = some (.int ks.length)/\∀ (k:Nat) (h:k < els.length),a4c tag (k + 1) = isS els[k]
theorem ok_1 {tag:Str} (h:valV a1j (.inr tag) = some (.int 1)):a4x [.inr tag]:=⟨tag,[],rfl,by simp,h,fun k hk=>absurd hk (by simp)⟩
theorem ok_2 {tag:Str} {a:Key} (h:valV a1j (.inr tag) = some (.int 2)) (h1:a4c tag 1 = isS a):a4x [.inr tag,a]:=⟨tag,[a],rfl,by simp,h,fun k hk=>by
 match k,hk with
 | 0,_=>exact h1⟩
theorem ok_3 {tag:Str} {a b:Key} (h:valV a1j (.inr tag) = some (.int 3)) (h1:a4c tag 1 = isS a) (h2:a4c tag 2 = isS b):a4x [.inr tag,a,b]:=⟨tag,[a,b],rfl,by simp,h,fun k hk=>by
 match k,hk with
 | 0,_=>exact h1
 | 1,_=>exact h2⟩
theorem ok_5 {tag:Str} {a b c d:Key} (h:valV a1j (.inr tag) = some (.int 5)) (h1:a4c tag 1 = isS a) (h2:a4c tag 2 = isS b) (h3:a4c tag 3 = isS c) (h4:a4c tag 4 = isS d):a4x [.inr tag,a,b,c,d]:=⟨tag,[a,b,c,d],rfl,by simp,h,fun k hk=>by
 match k,hk with
 | 0,_=>exact h1
 | 1,_=>exact h2
 | 2,_=>exact h3
 | 3,_=>exact h4⟩
theorem rw_ok (r:Rw):a4x (rwK r):=by
 cases r with
 | slot c s=>exact ok_3 sz_slot (by show _ = false; decide +kernel) (by show _ = false; decide +kernel)
 | same c s=>exact ok_3 sz_same (by show _ = false; decide +kernel) (by show _ = false; decide +kernel)
 | num c s=>exact ok_3 sz_num (by show _ = false; decide +kernel) (by show _ = false; decide +kernel)
 | app c g m f=>exact ok_5 sz_app (by show _ = false; decide +kernel) (by show _ = true; decide +kernel) (by show _ = false; decide +kernel) (by show _ = false; decide +kernel)
theorem br_ok (sl:Str->Nat) (r:Br):a4x (brK sl r):=by
 cases r with
 | put c s=>exact ok_3 sz_put (by show _ = false; decide +kernel) (by show _ = false; decide +kernel)
 | pnum c s=>exact ok_3 c7b (by show _ = false; decide +kernel) (by show _ = false; decide +kernel)
 | bld c g m f=>exact ok_5 c9p (by show _ = false; decide +kernel) (by show _ = true; decide +kernel) (by show _ = false; decide +kernel) (by show _ = false; decide +kernel)
theorem go_ok {call:Str} (hc:call = a3c\/call = a4v) (g:Go):a4x (goK call g):=by
 cases g with
 | keep=>exact ok_1 sz_keep
 | mark m a b=>cases m with
  | eq=>exact ok_1 c9q
  | asg=>exact ok_1 c7c
  | lt=>exact ok_1 sz_less
  | le=>exact ok_1 c7d
 | neg w ks=>exact ok_3 sz_not (by show _ = true; decide +kernel) (by show _ = false; decide +kernel)
 | nm w ks=>
  rcases hc with rfl | rfl
  ·exact ok_3 sz_call (by show _ = true; decide +kernel) (by show _ = false; decide +kernel)
  ·exact ok_3 sz_jump (by show _ = true; decide +kernel) (by show _ = false; decide +kernel)
theorem b4d (r:Bool) (n i:Nat):a1s r n i = a3c\/a1s r n i = a4v:=by
 unfold a1s; split
 ·exact .inr rfl
 ·exact .inl rfl
theorem gK_ok {sl:Str->Nat} {call:Str} (hc:call = a3c\/call = a4v) (g:Go):∀ ks ∈ gK sl call g,a4x ks:=fun ks h=>by
 rcases List.mem_append.mp h with z | z
 ·obtain ⟨r,_,rfl⟩:=List.mem_map.mp z
  exact br_ok sl r
 ·rw [List.mem_singleton.mp z]; exact go_ok hc g
theorem c7e {sl:Str->Nat} {f:Nat->Str} (hf:∀ i,f i = a3c\/f i = a4v):∀ (i:Nat) (gs:List Go),∀ ks ∈ gsK sl f i gs,a4x ks
 | i,[],ks,h=>by simp [gsK] at h
 | i,g :: gs,ks,h=>by
  rw [gsK] at h
  rcases List.mem_append.mp h with z | z
  ·exact gK_ok (hf i) g ks z
  ·exact c7e hf (i + 1) gs ks z
theorem news_ok (a n:Nat):∀ ks ∈ a4w a n,a4x ks:=fun ks h=>by
 obtain ⟨j,_,rfl⟩:=List.mem_map.mp h
 exact ok_2 sz_new (by show _ = false; decide +kernel)
theorem c2r {sl:Str->Nat} {r:Bool} {a n:Nat} {gs:List Go} {tl:List (List Key)} (ht:∀ ks ∈ tl,a4x ks):∀ ks ∈ a3y sl r a n gs tl,a4x ks:=fun ks h=>by
 unfold a3y at h
 rcases List.mem_append.mp h with z | z
 ·rcases List.mem_append.mp z with y | y
  ·rcases List.mem_cons.mp y with x | x
   ·rw [x]; exact ok_1 c9o
   ·exact news_ok a n ks x
  ·exact c7e (b4d r gs.length) 0 gs ks y
 ·exact ht ks z
noncomputable abbrev a5s (K:W.Frag):Sp:=fun vs H Q _=>match vs with | [.ref p]=>∃ (us:List V) (kss:List (List Key)),SqL K H p us/\DenL K H us (kss.map rowD)/\(∀ ks ∈ kss,a4x ks)/\us.length<=2000/\∀ H',Same H H'->Q (.bl true) H' | _=>False
theorem c1b {K:W.Frag} {H:Hp} {us:List V} {kss:List (List Key)} (h:DenL K H us (kss.map rowD)) {i:Nat} (hi:i < kss.length):∃ (hu:i < us.length) (a:Addr),us[i] = .ref a/\SqT K H a (kss[i].map kV):=by
 have hl:=h.length
 rw [List.length_map] at hl
 obtain ⟨d,e1,e2⟩:=h.get (i:=i) (u:=us[i]'(by omega)) (List.getElem?_eq_getElem (by omega))
 rw [List.getElem?_map,List.getElem?_eq_getElem hi] at e1
 obtain rfl:rowD kss[i] = d:=Option.some.inj e1
 obtain ⟨a,e,s⟩:=row_sq e2
 exact ⟨by omega,a,e,s⟩
section
variable {P:Program} {w:World} {K:W.Frag} {mg:Str->Option Value} {base:Heap} {t:Ad}
theorem c4c {K:W.Frag} {H:Hp} {Q:VK} {i:Int} (k:Q (.bl false) H):mIs K [.int i,.ty "str"] H Q:=⟨_,_,_,false,rfl,rfl,fun _=>c5l (by decide +kernel),k⟩
theorem c1c {ks:List Key} {k:Nat} (h:k < ks.length):atI (ks.map kV) (k:Int) = some (kV ks[k]):=by
 obtain ⟨v,e1,e2⟩:=a6d (xs:=ks.map kV) (i:=(k:Int)) (by omega) (by rw [List.length_map]; omega)
 rw [e1]
 have e3:(ks.map kV)[k]? = some v:=e2
 rw [List.getElem?_map,List.getElem?_eq_getElem h] at e3
 exact e3.symm
theorem a5v (tag:Str) (els:List Key):atI ((Sum.inr tag :: els).map kV) 0 = some (.str tag):=c1c (ks:=Sum.inr tag :: els) (k:=0) (by simp)
theorem b6l:∀ (more kvs:List (Key × V)),(∀ p ∈ more,valV kvs p.1 = none)->(more.map (·.1)).Nodup->a1a kvs more = kvs ++ more
 | [],kvs,_,_=>(List.append_nil _).symm
 | p :: r,kvs,h,hn=>by
  rw [List.map_cons,List.nodup_cons] at hn
  show a1a (putK kvs p.1 p.2) r = _
  rw [b9p _ (h p List.mem_cons_self),b6l r _ (fun q hq=>?_) hn.2,List.append_assoc]
  ·rfl
  ·have e:p.1 ≠ q.1:=fun z=>hn.1 (by rw [z]; exact List.mem_map.mpr ⟨q,hq,rfl⟩)
   rw [b2z _ _ _ _ (h p List.mem_cons_self),if_neg (Ne.symm e)]
   exact h q (List.mem_cons_of_mem _ hq)
theorem c1v (more kvs:List (Key × V)) (h:∀ k ∈ more.map (·.1),k ∉ kvs.map (·.1)) (hn:(more.map (·.1)).Nodup):a1a kvs more = kvs ++ more:=b6l more kvs (fun p hp=>by
 cases e:valV kvs p.1 with
 | none=>rfl
 | some v=>exact absurd (valV_in e) (h _ (List.mem_map.mpr ⟨p,hp,rfl⟩))) hn
theorem b8a (kvs:List (Key × V)) (hn:(kvs.map (·.1)).Nodup):a1a [] kvs = kvs:=by
 rw [c1v kvs [] (fun _ _ z=>by cases z) hn,List.nil_append]
theorem sz_nd2:(szB.map (·.1)).Nodup:=by decide +kernel
theorem sz_nd3:(szC.map (·.1)).Nodup:=by decide +kernel
theorem b8l (T:Txt K mg t) (G_l_whole:FnOk P w K mg base CX0 1 t.a_l_whole t.d_l_whole ["_law_found"] (a5h)):FnOk P w K mg base CX0 4 t.a_l_rows_are t.d_l_rows_are ["_law_rows"] (a5s K):=by
 refine T.F_l_rows_are.ok a5q (fun vs H Q E h=>?_) (fun cdv A outer s H vs Q E hr h=>?_)
 ·unfold a5s at h
  split at h
  ·rfl
  ·exact h.elim
 unfold a5s at h
 split at h
 rotate_left
 ·exact h.elim
 refine ⟨_,(@QSs.pss _ _ _ (a2y (b2l (a2w (a2j K rfl (a0t (b0s K rfl) rfl T.n_isinstance boot_isinstance (a0a (mv 0) (a0a (a9e rfl T.n_list boot_list) a0c))))) (a6u (a9a (a0p a3r))) a8y) (a2y (c5s (i:=1) a5q.nd rfl (by walk_at "or1") (b3y (a1u a0i a0b (a1u a0i a0b (a1u a0i a0b (a1u a0i a0b (a1u a0i a0b (a1u a0i a0b (a1u a0i a0b (a1u a0i a0b (a1u a0i a0b b6f))))))))) rfl rfl (by simp) (by decide)) rfl (by walk_at "or1")) (a2y (c5t K rfl (mv 1) (b3y (a1u a0i a0b (a1u a0i a0b (a1u a0i a0b (a1u a0i a0b (a1u a0i a0b (a1u a0i a0b (a1u a0i a0b (a1u a0i a0b b6f)))))))) rfl rfl (by simp) (by decide)) rfl rfl rfl rfl rfl rfl) (a2y (c5t K rfl (mv 1) (b3y (a1u a0i a0b (a1u a0i a0b b6f)) rfl rfl (by simp) (by decide)) rfl rfl rfl rfl rfl rfl) (a2y (a9a (a3n PassesOwn.never rfl (b6z K rfl (mv 0)) (a2d (i:=2) a5q.nd rfl (by walk_at "or1")) (a0e (a1b (PW.pt (a2v (a2w (a2j K rfl (a0t (b0s K rfl) rfl T.n_isinstance boot_isinstance (a0a (mv 2) (a0a (a9e rfl T.n_tuple boot_tuple) a0c))))) (a2v (a0q a1h (a0t (a1r K rfl) rfl T.n_len PySem.boot_len (a0a (mv 2) a0c)) a0b (a0o _)) (a2v (a0q (b6y (a3t hr)) (a0l (a0h K rfl) (mv 2) a0b (fun _ _=>rfl)) (mv 1) (by with_unfolding_all rfl)) (a4m (a0q a9r (a0t (a1r K rfl) rfl T.n_len PySem.boot_len (a0a (mv 2) a0c)) (a8p (a3t hr) (mv 1) (a0l (a0h K rfl) (mv 2) a0b (fun _ _=>rfl)) (fun _ _=>rfl)) (a0o _))))))) (a0g (a0p a3r)) a0x) (a0g (a3n PassesOwn.never rfl (b7i rfl T.n_range (a0a a0b (a0a (a0t (a1r K rfl) rfl T.n_len PySem.boot_len (a0a (mv 2) a0c)) a0c))) (a2d (i:=3) a5q.nd rfl (by walk_at "or1")) (a0e (a0r (i:=4) a5q.nd rfl (by walk_at "or1") (b8v (a6c (a1w (b3f K rfl) (a0l (a0h K rfl) (mv 2) a0b (fun _ _=>rfl)) (a0z (a0a a0i (a0a a0i a0c))) (by with_unfolding_all rfl)) (a5z (a1w a1h (mv 3) a0b (a0o _)))) (a5z (a6c (a1w (b3f K rfl) (a0l (a0h K rfl) (mv 2) a0b (fun _ _=>rfl)) (a0z (a0a a0i (a0a a0i (a0a a0i a0c)))) (by with_unfolding_all rfl)) (a5z (a1w a1h (mv 3) a0b (a0o _))))))) (a0g (a1b (PW.pt (a2v (a0q a9r (mv 4) (a0t (b0s K rfl) rfl T.n_isinstance boot_isinstance (a0a (a0l (a0h K rfl) (mv 2) (mv 3) (fun _ _=>rfl)) (a0a (a9e rfl T.n_str boot_str) a0c))) (a0o _)) (a4m (PW.pt (b0c (a2w (a2j K rfl (mv 4))) (a8n (a2w (a2j K rfl (a0u G_l_whole (hr.mono (by walk_at "rm1")) rfl T.m_l_whole T.F_l_whole.kp T.b_l_whole .nil a0s (a0a (a0l (a0h K rfl) (mv 2) (mv 3) (fun _ _=>rfl)) a0c)))))))))) (a0g (a0p a3r)) a0x)))))))) (a6u (a9a (a0p a3r))))))))),?_⟩
 rename_i p
 obtain ⟨us,kss,hS,hd,hok,hul,q⟩:=h
 have hkl:=hd.length
 rw [List.length_map] at hkl
 walk_at "stp"
 refine is_lst hS ?_
 walk_at "stp"
 refine iteF ?_
 walk_at "stp"
 intro d1 hd1
 walk_at "stp"
 refine ⟨a0d,szA,rfl,by decide,?_⟩
 have sd1:Same H (upd (upd H d1 (.dK [])) d1 (.dK (a1a [] szA))):=fun b o e=>by
  rw [a0n (fun z=>by rw [z,hd1] at e; cases e),a0n (fun z=>by rw [z,hd1] at e; cases e)]
  exact e
 have kd1:(upd (upd H d1 (.dK [])) d1 (.dK (a1a [] szA))) d1 = some (.dK (a1a [] szA)):=a0d
 generalize upd (upd H d1 (.dK [])) d1 (.dK (a1a [] szA)) = H1 at sd1 kd1 ⊢
 walk_at "stp"
 refine ⟨.inr (.inr (.inl ⟨rfl,.inl ⟨_,kd1⟩⟩)),?_⟩
 walk_at "stp"
 intro d2 hd2
 walk_at "stp"
 refine ⟨a0d,szB,rfl,by decide,?_⟩
 have sd2:Same H1 (upd (upd H1 d2 (.dK [])) d2 (.dK (a1a [] szB))):=fun b o e=>by
  rw [a0n (fun z=>by rw [z,hd2] at e; cases e),a0n (fun z=>by rw [z,hd2] at e; cases e)]
  exact e
 have kd2:(upd (upd H1 d2 (.dK [])) d2 (.dK (a1a [] szB))) d2 = some (.dK (a1a [] szB)):=a0d
 generalize upd (upd H1 d2 (.dK [])) d2 (.dK (a1a [] szB)) = H2 at sd2 kd2 ⊢
 walk_at "stp"
 have n12:d1 ≠ d2:=fun z=>by rw [z,hd2] at kd1; cases kd1
 refine c5o n12 (sd2 _ _ kd1) kd2 (ln (by decide +kernel)) ?_
 have e12:a1a (a1a [] szA) (a1a [] szB) = a1a (a1a [] szA) szB:=by rw [b8a _ sz_nd2]
 rw [e12]
 have s2:=a2k (o:=.dK (a1a (a1a [] szA) szB)) (sd1.trans sd2) hd1
 have k2:(upd H2 d1 (.dK (a1a (a1a [] szA) szB))) d1 = some (.dK (a1a (a1a [] szA) szB)):=a0d
 generalize upd H2 d1 (.dK (a1a (a1a [] szA) szB)) = H3 at s2 k2 ⊢
 walk_at "stp"
 refine ⟨.inr (.inr (.inl ⟨rfl,.inl ⟨_,k2⟩⟩)),?_⟩
 walk_at "stp"
 intro d3 hd3
 walk_at "stp"
 refine ⟨a0d,szC,rfl,by decide,?_⟩
 have sd3:Same H3 (upd (upd H3 d3 (.dK [])) d3 (.dK (a1a [] szC))):=fun b o e=>by
  rw [a0n (fun z=>by rw [z,hd3] at e; cases e),a0n (fun z=>by rw [z,hd3] at e; cases e)]
  exact e
 have kd3:(upd (upd H3 d3 (.dK [])) d3 (.dK (a1a [] szC))) d3 = some (.dK (a1a [] szC)):=a0d
 generalize upd (upd H3 d3 (.dK [])) d3 (.dK (a1a [] szC)) = H4 at sd3 kd3 ⊢
 walk_at "stp"
 have n13:d1 ≠ d3:=fun z=>by rw [z,hd3] at k2; cases k2
 refine c5o n13 (sd3 _ _ k2) kd3 (ln (by decide +kernel)) ?_
 rw [b8a _ sz_nd3]
 have s4:=a2k (o:=.dK a1j) (s2.trans sd3) hd1
 have k4:(upd H4 d1 (.dK a1j)) d1 = some (.dK a1j):=a0d
 show _
 generalize hH5:upd H4 d1 (.dK a1j) = H5 at s4 k4
 rw [show upd H4 d1 (.dK (a1a (a1a (a1a [] szA) szB) szC)) = H5 from hH5]
 walk_at "stp"
 refine ⟨p,rfl,b7w (s4.seq hS) ?_⟩
 refine a4f (b4q (xs:=us)) (fun i σ' J=>∃ o3 o4 o5:Option V,σ' = [some (.ref p),some (.ref d1),o3,o4,o5]/\Same H5 J) ⟨none,none,none,rfl,Same.refl _⟩ (fun i σ' J hP=>by obtain ⟨_,_,_,_,h⟩:=hP; exact (s4.trans h).seq hS) (fun i σ' J hi hP=>?_) (fun σ' J hP=>?_)
 ·obtain ⟨o3,o4,o5,rfl,sJ⟩:=hP
  have hki:i < kss.length:=by omega
  obtain ⟨hui,a,ea,ha⟩:=c1b hd hki
  rw [getD_at hui,ea]
  obtain ⟨tag,els,eks,hel,hsz,hsg⟩:=hok _ (List.getElem_mem hki)
  rw [eks] at ha hsz
  have ha:=(s4.trans sJ).tup ha
  have kJ:=sJ _ _ k4
  have dg:DGet J d1 (.str tag) (valV a1j (Sum.inr tag)):=DGet.k (k:=Sum.inr tag) kJ
  rw [hsz] at dg
  walk_at "stp"
  refine b9y ha ?_
  walk_at "stp"
  refine iteF ?_
  walk_at "stp"
  refine a4y ha ?_
  walk_at "stp"
  refine iteB (fun e=>absurd (of_decide_eq_true (by simpa using e)) (by omega)) (fun e=>?_)
  walk_at "stp"
  refine a0k ha (a5v tag els) ?_
  walk_at "stp"
  refine ⟨d1,_,rfl,dg,?_⟩
  walk_at "stp"
  refine iteF ?_
  walk_at "stp"
  refine a4y ha ?_
  walk_at "stp"
  refine a0k ha (a5v tag els) ?_
  walk_at "stp"
  refine ⟨d1,_,rfl,dg,?_⟩
  walk_at "stp"
  refine iteB (fun e=>absurd e (by rw [List.length_map]; simp)) (fun e=>?_)
  walk_at "stp"
  refine a4y ha ?_
  walk_at "stp"
  refine ⟨_,_,rfl,⟨by omega,by omega,by omega,by rw [List.map_cons,List.length_cons,List.length_map]; omega⟩,?_⟩
  rw [List.map_cons,List.length_cons,List.length_map,show (((els.length + 1:Nat):Int) - 1).toNat = els.length by omega]
  have ha0:SqT K J a (List.map kV (Sum.inr tag :: els)):=ha
  refine a4f (a3p 1 els.length) (fun j σ' J'=>∃ o4 o5:Option V,σ' = [some (.ref p),some (.ref d1),some (.ref a),o4,o5]/\Same J J') ⟨o4,o5,rfl,Same.refl _⟩ (fun _ _ _ _=>trivial) (fun j σ' J' hj hP=>?_) (fun σ' J' hP=>?_)
  ·obtain ⟨o4,o5,rfl,sJ'⟩:=hP
   have hsj:=hsg j hj
   have ha:=sJ'.tup ha0
   have hat:atI (List.map kV (Sum.inr tag :: els)) (1 + (j:Int)) = some (kV els[j]):=by
    have:=c1c (ks:=Sum.inr tag :: els) (k:=j + 1) (by simp; omega)
    rw [show ((j + 1:Nat):Int) = 1 + (j:Int) by omega] at this
    exact this
   walk_at "stm"
   (with_reducible refine a7i (fun σ' H'=>σ' = [some (.ref p),some (.ref d1),some (.ref a),some (.int (1 + (j:Int))),some (.bl (a4c tag (j + 1)))]/\Same J H') (fun σ' H' hP=>?_) (fun kk=>?_))
   rotate_left
   ·walk_at "stm"
    refine a0k ha (a5v tag els) ?_
    walk_at "stm"
    refine ⟨ln (by show 2<=100000; decide),fun q1 hq1=>?_⟩
    have sq1:Same J' (upd J' q1 (.tup [.str (Str.ofString "app"),.str (Str.ofString "build")])):=a0f hq1 _
    have kq1:(upd J' q1 (.tup [.str (Str.ofString "app"),.str (Str.ofString "build")])) q1 = some (.tup [.str (Str.ofString "app"),.str (Str.ofString "build")]):=a0d
    generalize upd J' q1 (.tup [.str (Str.ofString "app"),.str (Str.ofString "build")]) = J2 at sq1 kq1 ⊢
    walk_at "stm"
    refine a8x [appS,bldS] (.inr (SqT.of kq1)) ?_
    walk_at "stm"
    refine iteB (fun e1=>?_) (fun e1=>?_)
    ·walk_at "stm"
     refine iteB (fun e2=>?_) (fun e2=>?_)
     ·have e2:j + 1 = 2:=by have:=of_decide_eq_true (by simpa using e2); omega
      (with_reducible refine a6s ?_)
      have hh:=kk _ _ ⟨rfl,sJ'.trans sq1⟩
      rw [show a4c tag (j + 1) = true by unfold a4c; rw [e1,decide_eq_true e2]; rfl] at hh
      exact hh
     ·have e2:¬ j + 1 = 2:=by have:=of_decide_eq_false (by simpa using e2); omega
      walk_at "stm"
      refine a0k (sq1.tup ha) (a5v tag els) ?_
      walk_at "stm"
      refine ⟨ln (by show 3<=100000; decide),fun q2 hq2=>?_⟩
      have sq2:Same J2 (upd J2 q2 (.tup [.str (Str.ofString "call"),.str (Str.ofString "jump"),.str (Str.ofString "not")])):=a0f hq2 _
      have kq2:(upd J2 q2 (.tup [.str (Str.ofString "call"),.str (Str.ofString "jump"),.str (Str.ofString "not")])) q2 = some (.tup [.str (Str.ofString "call"),.str (Str.ofString "jump"),.str (Str.ofString "not")]):=a0d
      generalize upd J2 q2 (.tup [.str (Str.ofString "call"),.str (Str.ofString "jump"),.str (Str.ofString "not")]) = J3 at sq2 kq2 ⊢
      walk_at "stm"
      refine a8x [a3c,a4v,notS] (.inr (SqT.of kq2)) ?_
      walk_at "stm"
      refine iteB (fun e3=>?_) (fun e3=>?_)
      ·(with_reducible refine tOp_i ?_); (refine' b9w ?hv ?_; (case hv=>with_unfolding_all rfl)); (with_reducible refine tC_i ?_); (with_reducible refine mEq_i ?_); (with_reducible refine a6s ?_)
       have hh:=kk _ _ ⟨rfl,sJ'.trans (sq1.trans sq2)⟩
       rw [show a4c tag (j + 1) = (false ^^ decide (1 + (j:Int) = 1)) by unfold a4c; rw [e1,e3,decide_eq_false e2]; simp; omega] at hh
       exact hh
      ·(with_reducible refine a6s ?_)
       have hh:=kk _ _ ⟨rfl,sJ'.trans (sq1.trans sq2)⟩
       rw [show a4c tag (j + 1) = false by unfold a4c; rw [e1,e3,decide_eq_false e2]; rfl] at hh
       exact hh
    ·(with_reducible refine mB_i ?_)
     refine iteF ?_
     walk_at "stm"
     refine a0k (sq1.tup ha) (a5v tag els) ?_
     walk_at "stm"
     refine ⟨ln (by show 3<=100000; decide),fun q2 hq2=>?_⟩
     have sq2:Same J2 (upd J2 q2 (.tup [.str (Str.ofString "call"),.str (Str.ofString "jump"),.str (Str.ofString "not")])):=a0f hq2 _
     have kq2:(upd J2 q2 (.tup [.str (Str.ofString "call"),.str (Str.ofString "jump"),.str (Str.ofString "not")])) q2 = some (.tup [.str (Str.ofString "call"),.str (Str.ofString "jump"),.str (Str.ofString "not")]):=a0d
     generalize upd J2 q2 (.tup [.str (Str.ofString "call"),.str (Str.ofString "jump"),.str (Str.ofString "not")]) = J3 at sq2 kq2 ⊢
     walk_at "stm"
     refine a8x [a3c,a4v,notS] (.inr (SqT.of kq2)) ?_
     walk_at "stm"
     refine iteB (fun e3=>?_) (fun e3=>?_)
     ·(with_reducible refine tOp_i ?_); (refine' b9w ?hv ?_; (case hv=>with_unfolding_all rfl)); (with_reducible refine tC_i ?_); (with_reducible refine mEq_i ?_); (with_reducible refine a6s ?_)
      have hh:=kk _ _ ⟨rfl,sJ'.trans (sq1.trans sq2)⟩
      rw [show a4c tag (j + 1) = (false ^^ decide (1 + (j:Int) = 1)) by unfold a4c; rw [e1,e3]; simp; omega] at hh
      exact hh
     ·(with_reducible refine a6s ?_)
      have hh:=kk _ _ ⟨rfl,sJ'.trans (sq1.trans sq2)⟩
      rw [show a4c tag (j + 1) = false by unfold a4c; rw [e1,e3]; rfl] at hh
      exact hh
   obtain ⟨rfl,sK⟩:=hP
   have ha:=sK.tup ha0
   rw [hsj]
   walk_at "stp"
   refine a0k ha hat ?_
   cases hk:els[j] with
   | inl n=>
    rw [show kV (Sum.inl n) = V.int n from rfl]
    walk_at "stp"
    refine c4c ?_
    walk_at "stp"
    refine iteB (fun e=>absurd e (by simp [isS])) (fun e=>?_)
    walk_at "stp"
    refine iteT ?_
    walk_at "stp"
    refine a0k ha hat ?_
    rw [hk,show kV (Sum.inl n) = V.int n from rfl]
    walk_at "stp"
    refine iteF ?_
    first | exact ⟨_,_,rfl,sK⟩ | ((with_reducible refine b3v ?_); exact ⟨_,_,rfl,sK⟩) | trace_state
   | inr z=>
    rw [show kV (Sum.inr z) = V.str z from rfl]
    walk_at "stp"
    refine iteB (fun e=>absurd e (by simp [isS])) (fun e=>?_)
    walk_at "stp"
    refine iteF ?_
    first | exact ⟨_,_,rfl,sK⟩ | ((with_reducible refine b3v ?_); exact ⟨_,_,rfl,sK⟩) | trace_state
  obtain ⟨o4,o5,rfl,sK⟩:=hP
  exact ⟨_,_,_,rfl,sJ.trans sK⟩
 obtain ⟨o3,o4,o5,rfl,sJ⟩:=hP
 walk_at "stp"
 exact q J (s4.trans sJ)
end
noncomputable def CeOk (K:W.Frag) (H:Hp) (sl:Str->Nat) (kvs:List (Key × V)) (f:Ce):Prop:=∀ (j:Nat) (t:Trm),f j = some t->∃ v,valV kvs (Sum.inl (j:Int)) = some v/\Den K H v (byD sl t)
theorem CeOk.monoT {K:W.Frag} {H H':Hp} {sl:Str->Nat} {kvs:List (Key × V)} {f:Ce} (c:CeOk K H sl kvs f) (e:∀ a xs,SqT K H a xs->SqT K H' a xs):CeOk K H' sl kvs f:=fun j t h=>by
 obtain ⟨v,h1,h2⟩:=c j t h
 exact ⟨v,h1,h2.monoT e⟩
theorem CeOk.mono {K:W.Frag} {H H':Hp} {sl:Str->Nat} {kvs:List (Key × V)} {f:Ce} (c:CeOk K H sl kvs f) (s:Same H H'):CeOk K H' sl kvs f:=c.monoT fun _ _ h=>s.tup h
theorem CeOk.put {K:W.Frag} {H:Hp} {sl:Str->Nat} {kvs:List (Key × V)} {f:Ce} (c:CeOk K H sl kvs f) {r:Br} {v:V} (d:Den K H v (byD sl r.trm)):CeOk K H sl (putK kvs (Sum.inl (r.cell:Int)) v) (ce1 f r):=fun j t h=>by
 unfold ce1 at h
 rw [c7x]
 by_cases e:j = r.cell
 ·rw [if_pos e] at h
  rw [if_pos (by rw [e]),<- Option.some.inj h]
  exact ⟨v,rfl,d⟩
 ·rw [if_neg e] at h
  rw [if_neg (fun z=>e (by have:=Sum.inl.inj z; omega))]
  exact c j t h
noncomputable abbrev a8l (K:W.Frag):Sp:=fun vs H Q _=>match vs with
 | [.ref pc,.int a,.int m]=>∃ (sl:Str->Nat) (kvs:List (Key × V)) (f:Ce) (ks:List Trm) (n:Nat),H pc = some (.dK kvs)/\CeOk K H sl kvs f/\a = (n:Int)/\m = (ks.length:Int)/\ks.length<=4/\n<=1000/\(∀ (j:Nat) (h:j < ks.length),f (n + j) = some ks[j]) /\
  ∀ (r:Addr) (us:List V) (H':Hp),Same H H'->H' r = some (.tup us)->DenL K H' us (byL sl ks)->Q (.ref r) H'
 | _=>False
noncomputable abbrev a8m (K:W.Frag):Sp:=fun vs H Q _=>match vs with
 | [.ref pr,.int a,.ref pc]=>∃ (sl:Str->Nat) (us:List V) (kss:List (List Key)) (bs:List Br) (n:Nat),H pr = some (.lst us)/\DenL K H us (kss.map rowD)/\a = (n:Int)/\(∀ (i:Nat) (h:i < bs.length),kss[n + i]? = some (brK sl bs[i]))/\(∀ ks,kss[n + bs.length]? = some ks->∃ tag els,ks = .inr tag :: els/\tag ∉ [putS,a9c,bldS])/\OksB bs (fun _=>none)/\H pc = some (.dK [])/\us.length<=3000 /\
  (∀ i (h:i < bs.length),match bs[i] with | .bld _ _ _ f=>f<=1000 | _=>True) /\
  ∀ (H':Hp) (kvs:List (Key × V)),But pc H H'->(∀ b,H' b = none->H b = none)->H' pc = some (.dK kvs)->CeOk K H' sl kvs (ceA bs (fun _=>none))->Q (.int ((n + bs.length:Nat):Int)) H'
 | _=>False
noncomputable abbrev b1c (K:W.Frag):Sp:=fun vs H Q _=>match vs with
 | [.ref a,.ref pc]=>∃ (sl:Str->Nat) (kvs:List (Key × V)) (f:Ce) (g:Go) (call:Str),SqT K H a ((goK call g).map kV)/\(call = a3c\/call = a4v)/\H pc = some (.dK kvs)/\CeOk K H sl kvs f/\g.ok/\g.kids.length<=4/\(∀ (j:Nat) (h:j < g.kids.length),f j = some g.kids[j]) /\
  ∀ (v:V) (H':Hp),Same H H'->Den K H' v (byD sl g.trm)->Q v H'
 | _=>False
noncomputable abbrev a7f (K:W.Frag):Sp:=fun vs H Q _=>match vs with | [v]=>∃ g:Go,Den K H v g.trm.data/\g.ok/\∀ H',Same H H'->Q (.bl g.named) H' | _=>False
noncomputable def a5o:List Str:=[a2p,notS,Str.ofString "=",Str.ofString ":=",Str.ofString "<",Str.ofString "<="]
theorem c9r (g:Go) (h:g.ok):(!decide (g.sgn ∈ a5o)) = g.named:=by
 cases g with
 | keep=>show (!decide (a2p ∈ a5o)) = false; decide +kernel
 | mark m a b=>show (!decide (m.sign ∈ a5o)) = false; cases m <;> decide +kernel
 | neg w ks=>show (!decide (notS ∈ a5o)) = false; decide +kernel
 | nm w ks=>
  obtain ⟨h1,h2,h3,h4⟩:=h
  show (!decide (w ∈ a5o)) = true
  rw [decide_eq_false]; rfl
  intro z
  simp only [a5o,List.mem_cons,List.not_mem_nil,or_false] at z
  rcases z with rfl | rfl | rfl | rfl | rfl | rfl
  ·exact h2 rfl
  ·exact h3 rfl
  ·exact absurd h1 (by decide +kernel)
  ·exact absurd h1 (by decide +kernel)
  ·exact absurd h1 (by decide +kernel)
  ·exact absurd h1 (by decide +kernel)
section
variable {P:Program} {w:World} {K:W.Frag} {mg:Str->Option Value} {base:Heap} {t:Ad}
theorem b5f {H:Hp} {p b:Addr} {o o':HO} (h:(upd H p o) b = none) (hp:H p = some o'):H b = none:=by
 by_cases z:b = p
 ·subst z; rw [a0d] at h; cases h
 ·rwa [a0n z] at h
theorem c4d (T:Txt K mg t)  : FnOk P w K mg base CX0 1 t.a_l_taken t.d_l_taken ["_law_cells_here","_law_first","_law_many"] (a8l K):=by
 refine T.F_l_taken.ok b2o (fun vs H Q E h=>?_) (fun cdv A outer s H vs Q E hr h=>?_)
 ·unfold a8l at h
  split at h
  ·rfl
  ·exact h.elim
 unfold a8l at h
 split at h
 rotate_left
 ·exact h.elim
 refine ⟨_,(a0e (a0r (i:=3) (hs:=b3g) b2o.nd rfl (by walk_at "or1") (a2x a0c)) (a0e (a3n PassesOwn.never rfl (b7i rfl T.n_range (a0a (mv 1) (a0a (a0m (a1d K rfl) (mv 1) (mv 2)) a0c))) (a2d (i:=4) b2o.nd rfl (by walk_at "or1")) (a0e (a1b (a0q (b6y (a3t hr)) (mv 4) (mv 0) (by with_unfolding_all rfl)) (a0g (a0p a5x)) a0x) (a0g (a1e (a9s K rfl F.plainAttrs_list F.slot_list_append F.type_list_append a7x (mv 3) (a0a (a8p (a3t hr) (mv 0) (mv 4) (fun _ _=>rfl)) a0c)))))) (a0g (a0p (a3e (b2i K rfl) rfl T.n_tuple boot_tuple (a0a (mv 3) a0c)))))),?_⟩
 rename_i pc a m
 obtain ⟨sl,kvs,f,ks,n,hpc,hce,ea,em,hl4,hn,hf,q⟩:=h
 subst ea em
 walk_at "stp"
 refine ⟨ln (by show 0<=100000; decide),fun pk hpk=>?_⟩
 walk_at "stp"
 refine ⟨_,_,rfl,⟨by omega,by omega,by omega,by omega⟩,?_⟩
 rw [show ((n:Int) + (ks.length:Int) - (n:Int)).toNat = ks.length by omega]
 refine a4f (a3p (n:Int) ks.length) (fun i σ' J=>∃ (o4:Option V) (us:List V),σ' = [some (.ref pc),some (.int (n:Int)),some (.int (ks.length:Int)),some (.ref pk),o4]/\J pk = some (.lst us)/\Same H J/\DenL K J us (byL sl (ks.take i))) ⟨none,[],rfl,a0d,a0f hpk _,by rw [List.take_zero,byL]; exact .nil⟩ (fun _ _ _ _=>trivial) (fun i σ' J hi hP=>?_) (fun σ' J hP=>?_)
 ·obtain ⟨o4,us,rfl,g1,g2,g3⟩:=hP
  obtain ⟨v,hv,hd⟩:=hce _ _ (hf i hi)
  have dg:DGet J pc (.int ((n:Int) + (i:Int))) (valV kvs (Sum.inl ((n:Int) + (i:Int)))):=DGet.k (k:=Sum.inl ((n:Int) + (i:Int))) (g2 _ _ hpc)
  rw [show ((n + i:Nat):Int) = (n:Int) + (i:Int) by omega] at hv
  rw [hv] at dg
  walk_at "stp"
  refine ⟨pc,_,rfl,dg,?_⟩
  walk_at "stp"
  refine iteF ?_
  walk_at "stp"
  refine ⟨.inl ⟨rfl,_,SqL.of g1⟩,?_⟩
  walk_at "stp"
  refine ⟨pc,_,rfl,dg,?_⟩
  walk_at "stp"
  have l1:=g3.length
  rw [b0a,List.length_map,List.length_take] at l1
  refine a7y g1 (ln1 (by omega)) ?_
  refine ⟨_,us ++ [v],rfl,a0d,a2k g2 hpk,?_⟩
  rw [take_succ' hi,b0a,List.map_append,<- b0a]
  exact (g3.append (.cons (hd.mono g2) .nil)).lst g1
 obtain ⟨o4,us,rfl,g1,g2,g3⟩:=hP
 rw [List.take_of_length_le (Nat.le_refl _)] at g3
 walk_at "stp"
 refine b6b (SqL.of g1) (fun p2 hp2=>?_)
 have s2:=a0f hp2 (.tup us)
 exact q p2 us _ (g2.trans s2) a0d (g3.mono s2)
theorem c1d (T:Txt K mg t) (G_l_taken:FnOk P w K mg base CX0 1 t.a_l_taken t.d_l_taken ["_law_cells_here","_law_first","_law_many"] (a8l K)):FnOk P w K mg base CX0 2 t.a_l_brought t.d_l_brought ["_law_rows","_law_at","_law_cells_here"] (a8m K):=by
 refine T.F_l_brought.ok a6n (fun vs H Q E h=>?_) (fun cdv A outer s H vs Q E hr h=>?_)
 ·unfold a8m at h
  split at h
  ·rfl
  ·exact h.elim
 unfold a8m at h
 split at h
 rotate_left
 ·exact h.elim
 refine ⟨_,(a0e (a8o PassesOwn.never (PW.pt (b0c (a0q a8z (mv 1) (a0t (a1r K rfl) rfl T.n_len PySem.boot_len (a0a (mv 0) a0c)) (a0o _)) (a8n (a0q (b3f K rfl) (a0l (a0h K rfl) (a0l (a0h K rfl) (mv 0) (mv 1) (fun _ _=>rfl)) a0b (fun _ _=>rfl)) (a0z (a0a a0i (a0a a0i (a0a a0i a0c)))) (by with_unfolding_all rfl))))) (a0e (a0r (i:=3) (hs:=c0e) a6n.nd rfl (by walk_at "or1") (a0l (a0h K rfl) (mv 0) (mv 1) (fun _ _=>rfl))) (a0e (a1b (PW.pt (a2v (a0q a8z (a0l (a0h K rfl) (mv 3) a0b (fun _ _=>rfl)) a0b (a0o _)) (a4m (a0q b8s (a0l (a0h K rfl) (mv 3) a0b (fun _ _=>rfl)) a0b (a0o _))))) (a0g (a0p a5x)) a0x) (a0e (a1b (a0q a1h (a0l (a0h K rfl) (mv 3) a0b (fun _ _=>rfl)) a0i (a0o _)) (a0g (a8q (a3t hr) (mv 2) (a0l (a0h K rfl) (mv 3) a0b (fun _ _=>rfl)) (a0z (a0a a0i (a0a (a0l (a0h K rfl) (mv 3) a0b (fun _ _=>rfl)) a0c))) rfl)) (a0g (a1b (a0q a1h (a0l (a0h K rfl) (mv 3) a0b (fun _ _=>rfl)) a0i (a0o _)) (a0g (a8q (a3t hr) (mv 2) (a0l (a0h K rfl) (mv 3) a0b (fun _ _=>rfl)) (a0z (a0a a0i (a0a (a0l (a0h K rfl) (mv 3) a0b (fun _ _=>rfl)) a0c))) rfl)) (a0e (a0r (i:=4) a6n.nd rfl (by walk_at "or1") a5x) (a0e (a1b (b9u b8r b8r a0b (a0l (a0h K rfl) (mv 3) a0b (fun _ _=>rfl)) a0b) (a0g (a0r (i:=4) (hs:=a1x) a6n.nd rfl (by walk_at "or1") (a0u G_l_taken (hr.mono (by walk_at "rm1")) rfl T.m_l_taken T.F_l_taken.kp T.b_l_taken .nil a0s (a0a (mv 2) (a0a (a0l (a0h K rfl) (mv 3) a0b (fun _ _=>rfl)) (a0a (a0l (a0h K rfl) (mv 3) a0b (fun _ _=>rfl)) a0c)))))) a0x) (a0e (a1b (a0q b6c (mv 4) a5x (a0o _)) (a0g (a0p a5x)) a0x) (a0g (a8q (a3t hr) (mv 2) (a0l (a0h K rfl) (mv 3) a0b (fun _ _=>rfl)) (a0z (a0a a0i (a0a (a0l (a0h K rfl) (mv 3) a0b (fun _ _=>rfl)) (a0a (mv 4) a0c)))) rfl)))))))) (a0g (a0r (i:=1) (hs:=a2o) a6n.nd rfl (by walk_at "or1") (a0m (a1d K rfl) (mv 1) a0b))))))) (a0g (a0p (mv 1)))),?_⟩
 rename_i pr a pc
 obtain ⟨sl,us,kss,bs,n,hpr,hd,ea,hb,hstop,hoks,hpc,hul,hfl,q⟩:=h
 subst ea
 have hkl:=hd.length
 rw [List.length_map] at hkl
 have hne:pr ≠ pc:=fun z=>by rw [z,hpc] at hpr; cases hpr
 walk_at "stp"
 refine a8a (fun m σ' J=>∃ (i:Nat) (kvs:List (Key × V)) (o4 o5:Option V),σ' = [some (.ref pr),some (.int ((n + i:Nat):Int)),some (.ref pc),o4,o5]/\i<=bs.length/\m = bs.length - i/\But pc H J/\(∀ b,J b = none->H b = none)/\J pc = some (.dK kvs)/\kvs.length<=i/\CeOk K J sl kvs (ceA (bs.take i) (fun _=>none))) bs.length ⟨0,[],none,none,rfl,Nat.zero_le _,rfl,fun b o _ e=>e,fun b e=>e,hpc,Nat.le_refl _,fun j t h=>by cases h⟩ (fun m σ' J R hP kT kF=>?_)
 obtain ⟨i,kvs,o4,o5,rfl,hi,em,g1,g2,g3,g4,g5⟩:=hP
 have gpr:=g1 _ _ hne hpr
 have gd:=hd.monoT (a7u g1 hpc)
 walk_at "stp"
 refine a4h (SqL.of gpr) ?_
 walk_at "stp"
 by_cases hlt:n + i < us.length
 ·refine iteB (fun e=>?_) (fun e=>absurd (of_decide_eq_false e) (by omega))
  obtain ⟨hui,ar,ear,har⟩:=c1b gd (show n + i < kss.length by omega)
  have hat:atI us ((n + i:Nat):Int) = some (.ref ar):=by
   obtain ⟨v,e1,e2⟩:=a6d (xs:=us) (i:=((n + i:Nat):Int)) (by omega) (by omega)
   rw [e1]
   have e3:us[n + i]? = some v:=e2
   rw [List.getElem?_eq_getElem hui,ear] at e3
   exact e3.symm
  walk_at "stp"
  refine a1p (SqL.of gpr) hat ?_
  walk_at "stp"
  have hks:kss[n + i]? = some kss[n + i]:=List.getElem?_eq_getElem (by omega)
  generalize kss[n + i] = ks at har hks
  rcases Nat.lt_or_ge i bs.length with hib | hib
  ·have hbi:=hb i hib
   rw [hks] at hbi
   have hbi:=Option.some.inj hbi
   obtain ⟨tag,els,hte,htag⟩:∃ tag els,brK sl bs[i] = .inr tag :: els/\tag ∈ [putS,a9c,bldS]:=by
    cases bs[i] with
    | put c x=>exact ⟨_,_,rfl,by simp⟩
    | pnum c x=>exact ⟨_,_,rfl,by simp⟩
    | bld c g k f=>exact ⟨_,_,rfl,by simp⟩
   rw [hbi,hte] at har
   refine a0k har (a5v tag els) ?_
   walk_at "stp"
   refine ⟨ln (by show 3<=100000; decide),fun q1 hq1=>?_⟩
   have sq1:Same J (upd J q1 (.tup [.str (Str.ofString "put"),.str (Str.ofString "putnum"),.str (Str.ofString "build")])):=a0f hq1 _
   have kq1:(upd J q1 (.tup [.str (Str.ofString "put"),.str (Str.ofString "putnum"),.str (Str.ofString "build")])) q1 = some (.tup [.str (Str.ofString "put"),.str (Str.ofString "putnum"),.str (Str.ofString "build")]):=a0d
   generalize upd J q1 (.tup [.str (Str.ofString "put"),.str (Str.ofString "putnum"),.str (Str.ofString "build")]) = J1 at sq1 kq1 ⊢
   walk_at "stp"
   refine a8x [putS,a9c,bldS] (.inr (SqT.of kq1)) ?_
   rw [decide_eq_true htag]
   walk_at "stp"
   refine kT J1 (fun D' e1 e2 hnx hct=>?_)
   have f1:But pc H J1:=g1.trans sq1.but
   have f2:∀ b,J1 b = none->H b = none:=fun b hb=>g2 b (sq1.free hb)
   have f3:=sq1 _ _ g3
   have fpr:=sq1 _ _ gpr
   have f5:=g5.mono sq1
   have har:=sq1.tup har
   rw [<- hte] at har
   have ho:=c2m hoks hib
   have hfi:=hfl i hib
   have htk:=c9d (rs:=bs) hib (fun _=>none)
   have NX:∀ (J2:Hp) (kv2:List (Key × V)) (o4 o5:Option V),But pc J1 J2->(∀ b,J2 b = none->J1 b = none)->J2 pc = some (.dK kv2)->kv2.length<=i + 1->CeOk K J2 sl kv2 (ce1 (ceA (bs.take i) (fun _=>none)) bs[i])->D'.nx [some (.ref pr),some (.int ((n + i:Nat) + 1)),some (.ref pc),o4,o5] J2:=fun J2 kv2 o4 o5 k1 k2 k3 k4 k5=>
    hnx _ _ (bs.length - (i + 1)) (by omega) ⟨i + 1,kv2,o4,o5,rfl,hib,rfl,f1.trans k1,fun b hb=>f2 b (k2 b hb),k3,k4,by rw [htk]; exact k5⟩
   walk_at "stp"
   refine a1p (SqL.of fpr) hat ?_
   walk_at "stp"
   generalize bs[i] = r at har ho hfi NX
   obtain ⟨ho1,ho2⟩:=ho
   have CELL:∃ (tg:Str) (rest:List Key),brK sl r = .inr tg :: .inl (r.cell:Int) :: rest:=by
    cases r with
    | put c x=>exact ⟨_,_,rfl⟩
    | pnum c x=>exact ⟨_,_,rfl⟩
    | bld c g k f=>exact ⟨_,_,rfl⟩
   have at1:atI ((brK sl r).map kV) 1 = some (.int (r.cell:Int)):=by
    obtain ⟨tg,rest,e⟩:=CELL
    rw [e]
    exact c1c (ks:=.inr tg :: .inl (r.cell:Int) :: rest) (k:=1) (by simp)
   refine a0k har at1 ?_
   walk_at "stp"
   refine iteB (fun e=>absurd (of_decide_eq_true e) (by omega)) (fun e=>?_)
   walk_at "stp"
   refine a0k har at1 ?_
   walk_at "stp"
   refine iteB (fun e=>absurd (of_decide_eq_true e) (by omega)) (fun e=>?_)
   walk_at "stp"
   cases r with
   | put c x=>
    refine a0k har (v:=.str putS) rfl ?_
    walk_at "stp"
    refine iteB (fun e=>?_) (fun e=>absurd e (by decide +kernel))
    walk_at "stp"
    refine a0k har (v:=.int (sl x)) rfl ?_
    walk_at "stp"
    refine ⟨ln (by show 2<=100000; decide),fun q2 hq2=>?_⟩
    have sq2:Same J1 (upd J1 q2 (.tup [.str (Str.ofString "any"),.int (sl x)])):=a0f hq2 _
    have kq2:(upd J1 q2 (.tup [.str (Str.ofString "any"),.int (sl x)])) q2 = some (.tup [.str (Str.ofString "any"),.int (sl x)]):=a0d
    generalize upd J1 q2 (.tup [.str (Str.ofString "any"),.int (sl x)]) = J2 at sq2 kq2 ⊢
    walk_at "stp"
    refine a0k (sq2.tup har) at1 ?_
    walk_at "stp"
    refine ⟨pc,_,rfl,DPut.k (k:=Sum.inl (c:Int)) (sq2 _ _ f3) (ln1 (by omega)),?_⟩
    walk_at "stp"
    have lp:=a5t kvs (Sum.inl (c:Int):Key) (.ref q2)
    refine NX _ _ _ _ (sq2.but.trans a3d) (fun b hb=>sq2.free (b5f hb (sq2 _ _ f3))) a0d (by omega) ?_
    exact ((f5.mono sq2).put (r:=.put c x) (by rw [Br.trm,byD]; exact .tup (SqT.of kq2) (.cons (.str _) (.cons (.int _) .nil)))).monoT (a7u a3d (sq2 _ _ f3))
   | pnum c x=>
    refine a0k har (v:=.str a9c) rfl ?_
    walk_at "stp"
    refine iteB (fun e=>absurd e (by decide +kernel)) (fun e=>?_)
    walk_at "stp"
    refine a0k har (v:=.str a9c) rfl ?_
    walk_at "stp"
    refine iteB (fun e=>?_) (fun e=>absurd e (by decide +kernel))
    walk_at "stp"
    refine a0k har (v:=.int x) rfl ?_
    walk_at "stp"
    refine ⟨ln (by show 2<=100000; decide),fun q2 hq2=>?_⟩
    have sq2:Same J1 (upd J1 q2 (.tup [.str (Str.ofString "num"),.int x])):=a0f hq2 _
    have kq2:(upd J1 q2 (.tup [.str (Str.ofString "num"),.int x])) q2 = some (.tup [.str (Str.ofString "num"),.int x]):=a0d
    generalize upd J1 q2 (.tup [.str (Str.ofString "num"),.int x]) = J2 at sq2 kq2 ⊢
    walk_at "stp"
    refine a0k (sq2.tup har) at1 ?_
    walk_at "stp"
    refine ⟨pc,_,rfl,DPut.k (k:=Sum.inl (c:Int)) (sq2 _ _ f3) (ln1 (by omega)),?_⟩
    walk_at "stp"
    have lp:=a5t kvs (Sum.inl (c:Int):Key) (.ref q2)
    refine NX _ _ _ _ (sq2.but.trans a3d) (fun b hb=>sq2.free (b5f hb (sq2 _ _ f3))) a0d (by omega) ?_
    exact ((f5.mono sq2).put (r:=.pnum c x) (by rw [Br.trm,byD]; exact .tup (SqT.of kq2) (.cons (.str _) (.cons (.int _) .nil)))).monoT (a7u a3d (sq2 _ _ f3))
   | bld c sg k f=>
    obtain ⟨hk4,hkf⟩:=ho2
    refine a0k har (v:=.str bldS) rfl ?_
    walk_at "stp"
    refine iteB (fun e=>absurd e (by decide +kernel)) (fun e=>?_)
    walk_at "stp"
    refine a0k har (v:=.str bldS) rfl ?_
    walk_at "stp"
    refine iteB (fun e=>absurd e (by decide +kernel)) (fun e=>?_)
    walk_at "stp"
    refine a0k har (v:=.int k.length) rfl ?_
    walk_at "stp"
    refine iteB (fun e=>?_) (fun e=>absurd (of_decide_eq_false e) (by omega))
    walk_at "stp"
    refine iteB (fun e=>?_) (fun e=>absurd (of_decide_eq_false e) (by omega))
    walk_at "stp"
    refine a0k har (v:=.int f) rfl ?_
    walk_at "stp"
    refine a0k har (v:=.int k.length) rfl ?_
    walk_at "stp"
    refine ⟨sl,kvs,_,k,f,f3,f5,rfl,rfl,hk4,hfi,hkf,fun rk uk J3 s3 kr dk=>?_⟩
    walk_at "stp"
    refine iteF ?_
    walk_at "stp"
    refine a0k (s3.tup har) (v:=.str sg) rfl ?_
    walk_at "stp"
    refine ⟨ln (by show 3<=100000; decide),fun q2 hq2=>?_⟩
    have sq2:Same J3 (upd J3 q2 (.tup [.str (Str.ofString "app"),.str sg,.ref rk])):=a0f hq2 _
    have kq2:(upd J3 q2 (.tup [.str (Str.ofString "app"),.str sg,.ref rk])) q2 = some (.tup [.str (Str.ofString "app"),.str sg,.ref rk]):=a0d
    generalize upd J3 q2 (.tup [.str (Str.ofString "app"),.str sg,.ref rk]) = J4 at sq2 kq2 ⊢
    walk_at "stp"
    refine a0k (sq2.tup (s3.tup har)) at1 ?_
    walk_at "stp"
    have s34:=s3.trans sq2
    refine ⟨pc,_,rfl,DPut.k (k:=Sum.inl (c:Int)) (s34 _ _ f3) (ln1 (by omega)),?_⟩
    walk_at "stp"
    have lp:=a5t kvs (Sum.inl (c:Int):Key) (.ref q2)
    refine NX _ _ _ _ (s34.but.trans a3d) (fun b hb=>s34.free (b5f hb (s34 _ _ f3))) a0d (by omega) ?_
    exact ((f5.mono s34).put (r:=.bld c sg k f) (by rw [Br.trm,byD]; exact .tup (SqT.of kq2) (.cons (.str _) (.cons (.str _) (.cons (.tup (SqT.of (sq2 _ _ kr)) (dk.mono sq2)) .nil))))).monoT (a7u a3d (s34 _ _ f3))
  ·have hib:i = bs.length:=by omega
   subst hib
   obtain ⟨tag,els,rfl,htag⟩:=hstop _ hks
   refine a0k har (a5v tag els) ?_
   walk_at "stp"
   refine ⟨ln (by show 3<=100000; decide),fun q1 hq1=>?_⟩
   have sq1:Same J (upd J q1 (.tup [.str (Str.ofString "put"),.str (Str.ofString "putnum"),.str (Str.ofString "build")])):=a0f hq1 _
   have kq1:(upd J q1 (.tup [.str (Str.ofString "put"),.str (Str.ofString "putnum"),.str (Str.ofString "build")])) q1 = some (.tup [.str (Str.ofString "put"),.str (Str.ofString "putnum"),.str (Str.ofString "build")]):=a0d
   generalize upd J q1 (.tup [.str (Str.ofString "put"),.str (Str.ofString "putnum"),.str (Str.ofString "build")]) = J1 at sq1 kq1 ⊢
   walk_at "stp"
   refine a8x [putS,a9c,bldS] (.inr (SqT.of kq1)) ?_
   rw [decide_eq_false htag]
   walk_at "stp"
   refine kF J1 ?_
   walk_at "stp"
   rw [List.take_of_length_le (Nat.le_refl _)] at g5
   exact q J1 kvs (g1.trans sq1.but) (fun b hb=>g2 b (sq1.free hb)) (sq1 _ _ g3) (g5.mono sq1)
 ·refine iteB (fun e=>absurd (of_decide_eq_true e) (by omega)) (fun e=>?_)
  have hib:i = bs.length:=by
   rcases Nat.lt_or_ge i bs.length with z | z
   ·have:=hb i z
    rw [List.getElem?_eq_none (by omega)] at this
    cases this
   ·omega
  subst hib
  refine kF J ?_
  walk_at "stp"
  rw [List.take_of_length_le (Nat.le_refl _)] at g5
  exact q J kvs g1 g2 g3 g5
end
section
variable {P:Program} {w:World} {K:W.Frag} {mg:Str->Option Value} {base:Heap} {t:Ad}
noncomputable def b1z:List (Key × V):=a1a [] [(Sum.inr (Str.ofString "equal"),.str (Str.ofString "=")),(Sum.inr (Str.ofString "reckon"),.str (Str.ofString ":=")),(Sum.inr (Str.ofString "less"),.str (Str.ofString "<")),(Sum.inr (Str.ofString "atmost"),.str (Str.ofString "<="))]
theorem c9s (m:Mk):valV b1z (Sum.inr m.tag) = some (.str m.sign):=by cases m <;> kernel_rfl
theorem DGet.same {H H':Hp} {a:Addr} {y:V} {r:Option V} (h:DGet H a y r) (s:Same H H'):DGet H' a y r:=by
 rcases h with ⟨kvs,k,h1,h2,h3⟩ | ⟨kvs,k,b,h1,h2,h3,h4⟩
 ·refine .inl ⟨kvs,k,?_,h2,h3⟩
  rcases h1 with h1 | ⟨o,h1⟩
  ·exact .inl (s _ _ h1)
  ·exact .inr ⟨o,s _ _ h1⟩
 ·refine .inr ⟨kvs,k,b,?_,h2,s _ _ h3,h4⟩
  rcases h1 with h1 | ⟨o,h1⟩
  ·exact .inl (s _ _ h1)
  ·exact .inr ⟨o,s _ _ h1⟩
theorem c7f (T:Txt K mg t) (G_l_taken:FnOk P w K mg base CX0 1 t.a_l_taken t.d_l_taken ["_law_cells_here","_law_first","_law_many"] (a8l K)):FnOk P w K mg base CX0 2 t.a_l_done t.d_l_done ["_law_row","_law_cells_here"] (b1c K):=by
 refine T.F_l_done.ok b0x (fun vs H Q E h=>?_) (fun cdv A outer s H vs Q E hr h=>?_)
 ·unfold b1c at h
  split at h
  ·rfl
  ·exact h.elim
 unfold b1c at h
 split at h
 rotate_left
 ·exact h.elim
 refine ⟨_,(@QSs.pss _ _ _ (a2y (c5s (i:=2) b0x.nd rfl (by walk_at "or1") (b3y (a1u a0i a0i (a1u a0i a0i (a1u a0i a0i (a1u a0i a0i b6f)))) rfl rfl (by simp) (by decide)) rfl (by walk_at "or1")) (a2y (b2l (a0q a1h (a0l (a0h K rfl) (mv 0) a0b (fun _ _=>rfl)) a0i (a0o _)) (a6u (c5w (b3i (a6z (b2k a0i) (a6z (b2k a0i) (a6z (b3i b3h) b3h rfl) rfl) rfl)))) a8y) (a2y (b2l (a0q (c5p (a3t hr)) (a0l (a0h K rfl) (mv 0) a0b (fun _ _=>rfl)) (mv 2) (by with_unfolding_all rfl)) (a2y (a9a (a0r (i:=3) (hs:=a1x) b0x.nd rfl (by walk_at "or1") (a0u G_l_taken (hr.mono (by walk_at "rm1")) rfl T.m_l_taken T.F_l_taken.kp T.b_l_taken .nil a0s (a0a (mv 1) (a0a a0b (a0a a0b a0c)))))) (a2y (b2l (a0q b6c (mv 3) a5x (a0o _)) (a6u (a9a (a0p a5x))) a8y) (a6u (a9a (a0p (a0z (a0a a0i (a0a (a8p (a3t hr) (mv 2) (a0l (a0h K rfl) (mv 0) a0b (fun _ _=>rfl)) (fun _ _=>rfl)) (a0a (mv 3) a0c))))))))) a8y) (a2y (b2l (PW.pt (a2v (a0q (b7a K rfl) (a0l (a0h K rfl) (mv 0) a0b (fun _ _=>rfl)) (a0z (a0a a0i (a0a a0i (a0a a0i a0c)))) (by with_unfolding_all rfl)) (a2v (a0q a8z (a0l (a0h K rfl) (mv 0) a0b (fun _ _=>rfl)) a0b (a0o _)) (a4m (a0q b8s (a0l (a0h K rfl) (mv 0) a0b (fun _ _=>rfl)) a0b (a0o _)))))) (a6u (a9a (a0p a5x))) a8y) (a2y (a9a (a0r (i:=3) (hs:=a1x) b0x.nd rfl (by walk_at "or1") (a0u G_l_taken (hr.mono (by walk_at "rm1")) rfl T.m_l_taken T.F_l_taken.kp T.b_l_taken .nil a0s (a0a (mv 1) (a0a a0b (a0a (a0l (a0h K rfl) (mv 0) a0b (fun _ _=>rfl)) a0c)))))) (a2y (b2l (a0q b6c (mv 3) a5x (a0o _)) (a6u (a9a (a0p a5x))) a8y) (a2y (b2l (a0q a1h (a0l (a0h K rfl) (mv 0) a0b (fun _ _=>rfl)) a0i (a0o _)) (a6u (c5w (b3i (a6z (b2k a0i) (a6z (b2k a0i) (a6z (b3i (a6z (b3i (a6z (b2k a0i) (a6z (b2k (a0l (a0h K rfl) (mv 0) a0b (fun _ _=>rfl))) (a6z (b2k (mv 3)) b3h rfl) rfl) rfl)) b3h rfl)) b3h rfl) rfl) rfl)))) a8y) (a6u (a9a (a0p (a0z (a0a a0i (a0a (a0l (a0h K rfl) (mv 0) a0b (fun _ _=>rfl)) (a0a (mv 3) a0c))))))))))))))),?_⟩
 rename_i a pc
 obtain ⟨sl,kvs,f,g,call,ha,hcall,hpc,hce,hok,hk4,hf,q⟩:=h
 walk_at "stp"
 intro d1 hd1
 walk_at "stp"
 refine ⟨a0d,[(Sum.inr (Str.ofString "equal"),.str (Str.ofString "=")),(Sum.inr (Str.ofString "reckon"),.str (Str.ofString ":=")),(Sum.inr (Str.ofString "less"),.str (Str.ofString "<")),(Sum.inr (Str.ofString "atmost"),.str (Str.ofString "<="))],rfl,by decide,?_⟩
 have sd1:Same H (upd (upd H d1 (.dK [])) d1 (.dK (a1a [] [(Sum.inr (Str.ofString "equal"),.str (Str.ofString "=")),(Sum.inr (Str.ofString "reckon"),.str (Str.ofString ":=")),(Sum.inr (Str.ofString "less"),.str (Str.ofString "<")),(Sum.inr (Str.ofString "atmost"),.str (Str.ofString "<="))]))):=fun b o e=>by
  rw [a0n (fun z=>by rw [z,hd1] at e; cases e),a0n (fun z=>by rw [z,hd1] at e; cases e)]
  exact e
 have kd1:(upd (upd H d1 (.dK [])) d1 (.dK (a1a [] [(Sum.inr (Str.ofString "equal"),.str (Str.ofString "=")),(Sum.inr (Str.ofString "reckon"),.str (Str.ofString ":=")),(Sum.inr (Str.ofString "less"),.str (Str.ofString "<")),(Sum.inr (Str.ofString "atmost"),.str (Str.ofString "<="))]))) d1 = some (.dK b1z):=a0d
 generalize upd (upd H d1 (.dK [])) d1 (.dK (a1a [] [(Sum.inr (Str.ofString "equal"),.str (Str.ofString "=")),(Sum.inr (Str.ofString "reckon"),.str (Str.ofString ":=")),(Sum.inr (Str.ofString "less"),.str (Str.ofString "<")),(Sum.inr (Str.ofString "atmost"),.str (Str.ofString "<="))])) = H1 at sd1 kd1 ⊢
 walk_at "stp"
 have ha1:=sd1.tup ha
 have hce1:=hce.mono sd1
 have hpc1:=sd1 _ _ hpc
 have dg:∀ x:Str,DGet H1 d1 (.str x) (valV b1z (Sum.inr x)):=fun x=>DGet.k (k:=Sum.inr x) kd1
 cases g with
 | keep=>
  refine a0k ha1 (v:=.str a2p) rfl ?_
  walk_at "stp"
  refine iteB (fun e=>?_) (fun e=>absurd e (by decide +kernel))
  walk_at "stp"
  refine ⟨ln (by show 0<=100000; decide),fun p2 hp2=>?_⟩
  have sp2:=a0f hp2 (.tup [])
  have kp2:(upd H1 p2 (.tup [])) p2 = some (.tup []):=a0d
  generalize upd H1 p2 (.tup []) = H2 at sp2 kp2 ⊢
  walk_at "stp"
  refine ⟨ln (by show 3<=100000; decide),fun p3 hp3=>?_⟩
  have sp3:=a0f hp3 (.tup [.str (Str.ofString "app"),.str (Str.ofString "keep"),.ref p2])
  exact q _ _ (sd1.trans (sp2.trans sp3)) (by rw [Go.trm,byD,byL]; exact .tup (SqT.of a0d) (.cons (.str _) (.cons (.str _) (.cons (.tup (SqT.of (sp3 _ _ kp2)) .nil) .nil))))
 | mark m x y=>
  have dm:=dg m.tag
  rw [c9s m] at dm
  refine a0k ha1 (v:=.str m.tag) rfl ?_
  walk_at "stp"
  refine iteB (fun e=>absurd e (by cases m <;> decide +kernel)) (fun e=>?_)
  walk_at "stp"
  refine a0k ha1 (v:=.str m.tag) rfl ?_
  walk_at "stp"
  refine ⟨d1,_,rfl,dm,?_⟩
  walk_at "stp"
  refine iteT ?_
  walk_at "stp"
  refine ⟨sl,kvs,f,[x,y],0,hpc1,hce1,rfl,rfl,by simp,by omega,fun j h=>by rw [Nat.zero_add]; exact hf j h,fun rk uk J3 s3 kr dk=>?_⟩
  walk_at "stp"
  refine iteF ?_
  walk_at "stp"
  refine a0k (s3.tup ha1) (v:=.str m.tag) rfl ?_
  walk_at "stp"
  refine ⟨d1,_,rfl,My.DGet.same dm s3,?_⟩
  walk_at "stp"
  refine ⟨ln (by show 3<=100000; decide),fun p3 hp3=>?_⟩
  have sp3:=a0f hp3 (.tup [.str (Str.ofString "app"),.str m.sign,.ref rk])
  exact q _ _ (sd1.trans (s3.trans sp3)) (by rw [Go.trm,byD]; exact .tup (SqT.of a0d) (.cons (.str _) (.cons (.str _) (.cons (.tup (SqT.of (sp3 _ _ kr)) (dk.mono sp3)) .nil))))
 | neg wd ks=>
  have dm:=dg notS
  rw [show valV b1z (Sum.inr notS) = none by kernel_rfl] at dm
  refine a0k ha1 (v:=.str notS) rfl ?_
  walk_at "stp"
  refine iteB (fun e=>absurd e (by decide +kernel)) (fun e=>?_)
  walk_at "stp"
  refine a0k ha1 (v:=.str notS) rfl ?_
  walk_at "stp"
  refine ⟨d1,_,rfl,dm,?_⟩
  walk_at "stp"
  refine iteF ?_
  walk_at "stp"
  refine a0k ha1 (v:=.str notS) rfl ?_
  walk_at "stp"
  refine ⟨ln (by show 3<=100000; decide),fun q1 hq1=>?_⟩
  have sq1:Same H1 (upd H1 q1 (.tup [.str (Str.ofString "call"),.str (Str.ofString "jump"),.str (Str.ofString "not")])):=a0f hq1 _
  have kq1:(upd H1 q1 (.tup [.str (Str.ofString "call"),.str (Str.ofString "jump"),.str (Str.ofString "not")])) q1 = some (.tup [.str (Str.ofString "call"),.str (Str.ofString "jump"),.str (Str.ofString "not")]):=a0d
  generalize upd H1 q1 (.tup [.str (Str.ofString "call"),.str (Str.ofString "jump"),.str (Str.ofString "not")]) = H2 at sq1 kq1 ⊢
  walk_at "stp"
  refine b2j [a3c,a4v,notS] (.inr (SqT.of kq1)) ?_
  rw [show (!decide (notS ∈ [a3c,a4v,notS])) = false by decide +kernel]
  walk_at "stp"
  refine iteF ?_
  walk_at "stp"
  have ha2:=sq1.tup ha1
  refine a0k ha2 (v:=.int ks.length) rfl ?_
  walk_at "stp"
  refine iteB (fun e=>absurd (of_decide_eq_true e) (by omega)) (fun e=>?_)
  walk_at "stp"
  refine a0k ha2 (v:=.int ks.length) rfl ?_
  walk_at "stp"
  refine iteB (fun e=>absurd (of_decide_eq_true e) (by have:ks.length<=4:=hk4; omega)) (fun e=>?_)
  walk_at "stp"
  refine a0k ha2 (v:=.int ks.length) rfl ?_
  walk_at "stp"
  refine ⟨sl,kvs,f,ks,0,sq1 _ _ hpc1,hce1.mono sq1,rfl,rfl,hk4,by omega,fun j h=>by rw [Nat.zero_add]; exact hf j h,fun rk uk J3 s3 kr dk=>?_⟩
  walk_at "stp"
  refine iteF ?_
  walk_at "stp"
  refine a0k (s3.tup ha2) (v:=.str notS) rfl ?_
  walk_at "stp"
  refine iteB (fun e=>?_) (fun e=>absurd e (by decide +kernel))
  walk_at "stp"
  refine a0k (s3.tup ha2) (v:=.str wd) rfl ?_
  walk_at "stp"
  refine ⟨ln (by show 3<=100000; decide),fun q2 hq2=>?_⟩
  have sq2:Same J3 (upd J3 q2 (.tup [.str (Str.ofString "app"),.str wd,.ref rk])):=a0f hq2 _
  have kq2:(upd J3 q2 (.tup [.str (Str.ofString "app"),.str wd,.ref rk])) q2 = some (.tup [.str (Str.ofString "app"),.str wd,.ref rk]):=a0d
  generalize upd J3 q2 (.tup [.str (Str.ofString "app"),.str wd,.ref rk]) = J4 at sq2 kq2 ⊢
  walk_at "stp"
  refine ⟨ln (by show 1<=100000; decide),fun q3 hq3=>?_⟩
  have sq3:Same J4 (upd J4 q3 (.tup [.ref q2])):=a0f hq3 _
  have kq3:(upd J4 q3 (.tup [.ref q2])) q3 = some (.tup [.ref q2]):=a0d
  generalize upd J4 q3 (.tup [.ref q2]) = J5 at sq3 kq3 ⊢
  walk_at "stp"
  refine ⟨ln (by show 3<=100000; decide),fun p3 hp3=>?_⟩
  have sp3:=a0f hp3 (.tup [.str (Str.ofString "app"),.str (Str.ofString "not"),.ref q3])
  have s45:=sq2.trans (sq3.trans sp3)
  refine q _ _ (sd1.trans (sq1.trans (s3.trans s45))) ?_
  rw [Go.trm,byD,byL,byL,byD]
  exact .tup (SqT.of a0d) (.cons (.str _) (.cons (.str _) (.cons (.tup (SqT.of (sp3 _ _ kq3)) (.cons (.tup (SqT.of ((sq3.trans sp3) _ _ kq2)) (.cons (.str _) (.cons (.str _) (.cons (.tup (SqT.of (s45 _ _ kr)) (dk.mono s45)) .nil)))) .nil)) .nil)))
 | nm wd ks=>
  have hcv:valV b1z (Sum.inr call) = none/\(call == a2p) = false/\call ∈ [a3c,a4v,notS]/\call ≠ notS/\call ≠ a2p:=by
   rcases hcall with rfl | rfl
   ·exact ⟨by kernel_rfl,by decide +kernel,by decide +kernel,by decide +kernel,by decide +kernel⟩
   ·exact ⟨by kernel_rfl,by decide +kernel,by decide +kernel,by decide +kernel,by decide +kernel⟩
  obtain ⟨hc1,hc2,hc3,hc4,hc5⟩:=hcv
  have dm:=dg call
  rw [hc1] at dm
  refine a0k ha1 (v:=.str call) rfl ?_
  walk_at "stp"
  refine iteB (fun e=>absurd (of_decide_eq_true (by simpa using e)) hc5) (fun e=>?_)
  walk_at "stp"
  refine a0k ha1 (v:=.str call) rfl ?_
  walk_at "stp"
  refine ⟨d1,_,rfl,dm,?_⟩
  walk_at "stp"
  refine iteF ?_
  walk_at "stp"
  refine a0k ha1 (v:=.str call) rfl ?_
  walk_at "stp"
  refine ⟨ln (by show 3<=100000; decide),fun q1 hq1=>?_⟩
  have sq1:Same H1 (upd H1 q1 (.tup [.str (Str.ofString "call"),.str (Str.ofString "jump"),.str (Str.ofString "not")])):=a0f hq1 _
  have kq1:(upd H1 q1 (.tup [.str (Str.ofString "call"),.str (Str.ofString "jump"),.str (Str.ofString "not")])) q1 = some (.tup [.str (Str.ofString "call"),.str (Str.ofString "jump"),.str (Str.ofString "not")]):=a0d
  generalize upd H1 q1 (.tup [.str (Str.ofString "call"),.str (Str.ofString "jump"),.str (Str.ofString "not")]) = H2 at sq1 kq1 ⊢
  walk_at "stp"
  refine b2j [a3c,a4v,notS] (.inr (SqT.of kq1)) ?_
  rw [decide_eq_true hc3]
  walk_at "stp"
  refine iteF ?_
  walk_at "stp"
  have ha2:=sq1.tup ha1
  refine a0k ha2 (v:=.int ks.length) rfl ?_
  walk_at "stp"
  refine iteB (fun e=>absurd (of_decide_eq_true e) (by omega)) (fun e=>?_)
  walk_at "stp"
  refine a0k ha2 (v:=.int ks.length) rfl ?_
  walk_at "stp"
  refine iteB (fun e=>absurd (of_decide_eq_true e) (by have:ks.length<=4:=hk4; omega)) (fun e=>?_)
  walk_at "stp"
  refine a0k ha2 (v:=.int ks.length) rfl ?_
  walk_at "stp"
  refine ⟨sl,kvs,f,ks,0,sq1 _ _ hpc1,hce1.mono sq1,rfl,rfl,hk4,by omega,fun j h=>by rw [Nat.zero_add]; exact hf j h,fun rk uk J3 s3 kr dk=>?_⟩
  walk_at "stp"
  refine iteF ?_
  walk_at "stp"
  refine a0k (s3.tup ha2) (v:=.str call) rfl ?_
  walk_at "stp"
  refine iteB (fun e=>absurd (of_decide_eq_true (by simpa using e)) hc4) (fun e=>?_)
  walk_at "stp"
  refine a0k (s3.tup ha2) (v:=.str wd) rfl ?_
  walk_at "stp"
  refine ⟨ln (by show 3<=100000; decide),fun p3 hp3=>?_⟩
  have sp3:=a0f hp3 (.tup [.str (Str.ofString "app"),.str wd,.ref rk])
  exact q _ _ (sd1.trans (sq1.trans (s3.trans sp3))) (by rw [Go.trm,byD]; exact .tup (SqT.of a0d) (.cons (.str _) (.cons (.str _) (.cons (.tup (SqT.of (sp3 _ _ kr)) (dk.mono sp3)) .nil))))
theorem b8m (T:Txt K mg t)  : FnOk P w K mg base CX0 1 t.a_l_is_named t.d_l_is_named ["_law_goal_here"] (a7f K):=by
 refine T.F_l_is_named.ok b8g (fun vs H Q E h=>?_) (fun cdv A outer s H vs Q E hr h=>?_)
 ·unfold a7f at h
  split at h
  ·rfl
  ·exact h.elim
 unfold a7f at h
 split at h
 rotate_left
 ·exact h.elim
 refine ⟨_,(a0g (a0p (a1w (b7a K rfl) (a0l (a0h K rfl) (mv 0) a0b (fun _ _=>rfl)) (a0z (a0a a0i (a0a a0i (a0a a0i (a0a a0i (a0a a0i (a0a a0i a0c))))))) (by with_unfolding_all rfl)))),?_⟩
 rename_i v
 obtain ⟨g,hd,hok,q⟩:=h
 rw [Go.trm_eq] at hd
 obtain ⟨a,b,us,rfl,hs,hb,hk⟩:=a4z hd
 walk_at "stp"
 refine a0k hs (v:=.str g.sgn) rfl ?_
 walk_at "stp"
 refine ⟨ln (by show 6<=100000; decide),fun q1 hq1=>?_⟩
 have sq1:Same H (upd H q1 (.tup [.str (Str.ofString "keep"),.str (Str.ofString "not"),.str (Str.ofString "="),.str (Str.ofString ":="),.str (Str.ofString "<"),.str (Str.ofString "<=")])):=a0f hq1 _
 have kq1:(upd H q1 (.tup [.str (Str.ofString "keep"),.str (Str.ofString "not"),.str (Str.ofString "="),.str (Str.ofString ":="),.str (Str.ofString "<"),.str (Str.ofString "<=")])) q1 = some (.tup [.str (Str.ofString "keep"),.str (Str.ofString "not"),.str (Str.ofString "="),.str (Str.ofString ":="),.str (Str.ofString "<"),.str (Str.ofString "<=")]):=a0d
 generalize upd H q1 (.tup [.str (Str.ofString "keep"),.str (Str.ofString "not"),.str (Str.ofString "="),.str (Str.ofString ":="),.str (Str.ofString "<"),.str (Str.ofString "<=")]) = H1 at sq1 kq1 ⊢
 walk_at "stp"
 refine b2j a5o (.inr (SqT.of kq1)) ?_
 rw [c9r g hok]
 exact q _ sq1
end
theorem b4e {α:Type} {A B C:List α} {j:Nat} (h:j < B.length):(A ++ (B ++ C))[A.length + j]? = B[j]?:=by
 rw [List.getElem?_append_right (by omega),show A.length + j - A.length = j by omega,List.getElem?_append_left h]
theorem b3n (sl:Str->Nat) (f:Nat->Str):∀ (k i:Nat) (gs:List Go),gsK sl f k gs = gsK sl f k (gs.take i) ++ gsK sl f (k + i) (gs.drop i)
 | k,0,gs=>by rw [List.take_zero,gsK,List.drop_zero,List.nil_append,Nat.add_zero]
 | k,i + 1,[]=>by simp [gsK]
 | k,i + 1,g :: gs=>by
  rw [List.take_succ_cons,List.drop_succ_cons,gsK,gsK,b3n sl f (k + 1) i gs,List.append_assoc,show k + 1 + i = k + (i + 1) by omega]
theorem c1e (sl:Str->Nat) (c:Str) (g:Go):(gK sl c g).length = Trm.sizeL g.kids + 1:=by
 rw [gK,List.length_append,List.length_map,a6x]; rfl
noncomputable def hdK (sl:Str->Nat) (r:Bool) (a m:Nat) (gs:List Go) (i:Nat):List (List Key):=a7c :: a4w a m ++ gsK sl (a1s r gs.length) 0 (gs.take i)
theorem c9t (sl:Str->Nat) (r:Bool) (a m:Nat) (gs:List Go):(hdK sl r a m gs 0).length = 1 + m:=by
 unfold hdK a4w
 rw [List.take_zero,gsK,List.append_nil,List.length_cons,List.length_map,List.length_range]
 omega
theorem c9u (sl:Str->Nat) (r:Bool) (a m:Nat) {gs:List Go} {i:Nat} (h:i < gs.length):(hdK sl r a m gs (i + 1)).length = (hdK sl r a m gs i).length + (Trm.sizeL gs[i].kids + 1):=by
 have e:gsK sl (a1s r gs.length) 0 (gs.take (i + 1)) = gsK sl (a1s r gs.length) 0 (gs.take i) ++ gK sl (a1s r gs.length i) gs[i]:=by
  rw [b3n sl _ 0 i (gs.take (i + 1)),List.take_take,Nat.min_eq_left (Nat.le_succ i),Nat.zero_add]
  congr 1
  rw [b2q h,List.drop_append_of_le_length (by rw [List.length_take]; omega),List.drop_of_length_le (by rw [List.length_take]; omega),List.nil_append,gsK,gsK,List.append_nil]
 unfold hdK
 rw [e,<- List.append_assoc,List.length_append,c1e]
theorem c9v (pre:List (List Key)) (sl:Str->Nat) (r:Bool) (a m:Nat) {gs:List Go} (tl:List (List Key)) {i:Nat} (h:i < gs.length):∃ Y,pre ++ a3y sl r a m gs tl = (pre ++ hdK sl r a m gs i) ++ (gK sl (a1s r gs.length i) gs[i] ++ Y):=by
 refine ⟨gsK sl (a1s r gs.length) (i + 1) (gs.drop (i + 1)) ++ tl,?_⟩
 unfold a3y hdK
 rw [b3n sl _ 0 i gs,Nat.zero_add,List.drop_eq_getElem_cons h,gsK]
 simp only [List.append_assoc,List.cons_append]
theorem c9w (pre:List (List Key)) (sl:Str->Nat) (r:Bool) (a m:Nat) (gs:List Go) (tl:List (List Key)):pre ++ a3y sl r a m gs tl = (pre ++ hdK sl r a m gs gs.length) ++ tl:=by
 unfold a3y hdK
 rw [List.take_length]
 simp only [List.append_assoc,List.cons_append]
theorem body_0 (pre:List (List Key)) (sl:Str->Nat) (r:Bool) (a m:Nat) (gs:List Go) (tl:List (List Key)):pre ++ a3y sl r a m gs tl = pre ++ ([a7c] ++ (a4w a m ++ (gsK sl (a1s r gs.length) 0 gs ++ tl))):=by
 unfold a3y
 simp only [List.append_assoc,List.cons_append,List.nil_append]
theorem c7g (pre:List (List Key)) (sl:Str->Nat) (r:Bool) (a m:Nat) (gs:List Go) (tl:List (List Key)):pre ++ a3y sl r a m gs tl = (pre ++ [a7c]) ++ (a4w a m ++ (gsK sl (a1s r gs.length) 0 gs ++ tl)):=by
 unfold a3y
 simp only [List.append_assoc,List.cons_append,List.nil_append]
noncomputable def c1f (ks:List Key):Prop:=∃ tag els,ks = .inr tag :: els/\tag ≠ newS
theorem c2s {sl:Str->Nat} {f:Nat->Str} (hf:∀ i,f i = a3c\/f i = a4v):∀ (i:Nat) (gs:List Go),∀ ks ∈ gsK sl f i gs,c1f ks
 | i,[],ks,h=>by simp [gsK] at h
 | i,g :: gs,ks,h=>by
  rw [gsK] at h
  rcases List.mem_append.mp h with z | z
  ·rcases List.mem_append.mp z with y | y
   ·obtain ⟨r,_,rfl⟩:=List.mem_map.mp y
    cases r with
    | put c x=>exact ⟨_,_,rfl,by decide +kernel⟩
    | pnum c x=>exact ⟨_,_,rfl,by decide +kernel⟩
    | bld c g k f=>exact ⟨_,_,rfl,by decide +kernel⟩
   ·rw [List.mem_singleton.mp y]
    cases g with
    | keep=>exact ⟨_,_,rfl,by decide +kernel⟩
    | mark m a b=>exact ⟨_,_,rfl,by cases m <;> decide +kernel⟩
    | neg w k=>exact ⟨_,_,rfl,by decide +kernel⟩
    | nm w k=>
     refine ⟨_,_,rfl,?_⟩
     rcases hf i with e | e
     ·rw [e]; decide +kernel
     ·rw [e]; decide +kernel
  ·exact c2s hf (i + 1) gs ks z
theorem go_tag {call:Str} (hc:call = a3c\/call = a4v) (g:Go):∃ tag els,goK call g = .inr tag :: els/\tag ∉ [putS,a9c,bldS]:=by
 cases g with
 | keep=>exact ⟨_,_,rfl,by decide +kernel⟩
 | mark m a b=>exact ⟨_,_,rfl,by cases m <;> decide +kernel⟩
 | neg w k=>exact ⟨_,_,rfl,by decide +kernel⟩
 | nm w k=>
  refine ⟨_,_,rfl,?_⟩
  rcases hc with e | e
  ·rw [e]; decide +kernel
  ·rw [e]; decide +kernel
noncomputable def bldLe (n:Nat):Br->Prop
 | .bld _ _ _ f=>f<=n
 | _=>True
mutual
theorem br_f:∀ (t:Trm) (c C n:Nat),C + t.size<=n->∀ r ∈ br t c C,bldLe n r
 | .num m,c,C,n,h,r,hr=>by rw [br] at hr; rw [List.mem_singleton.mp hr]; trivial
 | .any x,c,C,n,h,r,hr=>by rw [br] at hr; rw [List.mem_singleton.mp hr]; trivial
 | .app s ks,c,C,n,h,r,hr=>by
  rw [br] at hr
  simp only [Trm.size] at h
  have zl:=Trm.len_le ks
  rcases List.mem_append.mp hr with z | z
  ·exact brL_f ks C (C + ks.length) n (by omega) r z
  ·rw [List.mem_singleton.mp z]; show C<=n; omega
theorem brL_f:∀ (ks:List Trm) (c C n:Nat),C + (Trm.sizeL ks - ks.length) + 1<=n->∀ r ∈ brL ks c C,bldLe n r
 | [],c,C,n,h,r,hr=>by rw [brL] at hr; simp at hr
 | k :: ks,c,C,n,h,r,hr=>by
  rw [brL] at hr
  have zk:=k.size_pos
  have zl:=Trm.len_le ks
  simp only [Trm.sizeL,List.length_cons] at h
  rcases List.mem_append.mp hr with z | z
  ·exact br_f k c C n (by omega) r z
  ·exact brL_f ks (c + 1) (C + (k.size - 1)) n (by omega) r z
end
noncomputable def a3g (r:Bool) (gs:List Go):List (List Key):=if r = false then [b9c] else if a5g gs = true then [] else [a7e]
theorem c7h (r:Bool) (gs:List Go):∀ ks ∈ a3g r gs,c1f ks:=fun ks h=>by
 unfold a3g at h
 split at h
 ·rw [List.mem_singleton.mp h]; exact ⟨_,_,rfl,by decide +kernel⟩
 ·split at h
  ·simp at h
  ·rw [List.mem_singleton.mp h]; exact ⟨_,_,rfl,by decide +kernel⟩
theorem c1g (r:Bool) (gs:List Go):∀ ks ∈ a3g r gs,a4x ks:=fun ks h=>by
 unfold a3g at h
 split at h
 ·rw [List.mem_singleton.mp h]; exact ok_1 sz_tell
 ·split at h
  ·simp at h
  ·rw [List.mem_singleton.mp h]; exact ok_1 c2q
noncomputable def Go.fits (g:Go) (u:List Str):Prop:=g.ok/\g.trm.size<=30/\ar4L g.kids/\g.kids.length<=4/\∀ x ∈ a1f g.kids,x ∈ u
noncomputable abbrev a4r (K:W.Frag):Sp:=fun vs H Q _=>match vs with
 | [.ref pr,.int at_,.ref pg,.ref pd,.int hs,.bl r]=>∃ (us:List V) (pre:List (List Key)) (ug:List V) (gs:List Go) (u:List Str) (a m:Nat),H pr = some (.lst us)/\DenL K H us ((pre ++ a3y (ix u) r a m gs (a3g r gs)).map rowD)/\at_ = (pre.length:Int) /\
  H pg = some (.lst ug)/\DenL K H ug (Trm.dataL (trms gs))/\H pd = some (.dK (encJ 0 u))/\hs = (a:Int)/\u.length = a + m/\u.length < 60/\gs.length<=6/\(∀ g ∈ gs,g.fits u)/\us.length<=3000/\(r = true->gs ≠ [])/\∀ H',Same H H'->Q (.bl true) H'
 | _=>False
theorem b5g {K:W.Frag} {H:Hp}:∀ ns:List Int,DenL K H (ns.map V.int) (ns.map PyData.int)
 | []=>.nil
 | n :: ns=>.cons (.int n) (b5g ns)
theorem b6m:∀ ns:List Int,PyData.depthAll (ns.map PyData.int)<=149
 | []=>by simp [PyData.depthAll]
 | n :: ns=>by
  have:=b6m ns
  simp only [List.map_cons,PyData.depthAll,PyData.depth]
  omega
theorem b5h {K:W.Frag} {H:Hp}:∀ ks:List Key,DenL K H (ks.map kV) (ks.map keyD)
 | []=>.nil
 | .inl n :: ks=>.cons (.int n) (b5h ks)
 | .inr n :: ks=>.cons (.str n) (b5h ks)
theorem b2s:∀ ks:List Key,PyData.depthAll (ks.map keyD)<=1
 | []=>by simp [PyData.depthAll]
 | .inl n :: ks=>by
  have:=b2s ks
  simp only [List.map_cons,keyD,PyData.depthAll,PyData.depth]
  omega
 | .inr n :: ks=>by
  have:=b2s ks
  simp only [List.map_cons,keyD,PyData.depthAll,PyData.depth]
  omega
theorem b2a {K:W.Frag} {H:Hp} {a:Addr} {ks:List Key} (h:SqT K H a (ks.map kV)):Den K H (.ref a) (rowD ks):=.tup h (b5h ks)
theorem b1j {us:List V} {i:Nat} (h:i < us.length):atI us (i:Int) = some us[i]:=by
 obtain ⟨v,e1,e2⟩:=a6d (xs:=us) (i:=(i:Int)) (by omega) (by omega)
 rw [e1]
 have e3:us[i]? = some v:=e2
 rw [List.getElem?_eq_getElem h] at e3
 exact e3.symm
theorem b2b {K:W.Frag} {H:Hp} {us:List V} {kss:List (List Key)} (h:DenL K H us (kss.map rowD)) {i:Nat} {ks:List Key} (e:kss[i]? = some ks):∃ a,atI us (i:Int) = some (.ref a)/\i < us.length/\SqT K H a (ks.map kV):=by
 obtain ⟨hi,e'⟩:=List.getElem?_eq_some_iff.mp e
 obtain ⟨hu,a,h1,h2⟩:=c1b h hi
 rw [e'] at h2
 exact ⟨a,by rw [b1j hu,h1],hu,h2⟩
theorem c7i (sl:Str->Nat):∀ t:Trm,(byD sl t).depth<=2 * t.size:=by
 have key:∀ n:Nat,(∀ t:Trm,t.size<=n->(byD sl t).depth<=2 * t.size)/\(∀ ks:List Trm,Trm.sizeL ks<=n->PyData.depthAll (byL sl ks)<=2 * Trm.sizeL ks):=by
  intro n
  induction n with
  | zero=>exact ⟨fun t h=>by have:=t.size_pos; omega,fun ks h=>by
    cases ks with
    | nil=>simp [byL,PyData.depthAll]
    | cons k ks=>have:=k.size_pos; simp only [Trm.sizeL] at h; omega⟩
  | succ n ih=>
   have A:∀ t:Trm,t.size<=n + 1->(byD sl t).depth<=2 * t.size:=fun t h=>by
    cases t with
    | num m=>rw [byD]; simp [PyData.depth,PyData.depthAll,Trm.size]
    | any x=>rw [byD]; simp [PyData.depth,PyData.depthAll,Trm.size]
    | app s ks=>
     simp only [Trm.size] at h ⊢
     have:=ih.2 ks (by omega)
     rw [byD]
     simp only [PyData.depth,PyData.depthAll]
     omega
   refine ⟨A,fun ks h=>?_⟩
   induction ks with
   | nil=>simp [byL,PyData.depthAll]
   | cons k ks ih2=>
    have kp:=k.size_pos
    simp only [Trm.sizeL] at h ⊢
    have h1:=A k (by omega)
    have h2:=ih2 (by omega)
    rw [byL]
    simp only [PyData.depthAll]
    omega
 exact fun t=>(key t.size).1 t (Nat.le_refl _)
section
variable {P:Program} {w:World} {K:W.Frag} {mg:Str->Option Value} {base:Heap} {t:Ad}
theorem b0p (xs:List V) (k:Nat) (h:k<=xs.length):cutV xs (some (k:Int)) none = xs.drop k:=by
 unfold cutV
 have e1:HT.sIx xs.length 0 (some (k:Int)) = k:=by
  simp only [HT.sIx]
  split <;> omega
 have e2:HT.sIx xs.length xs.length none = xs.length:=rfl
 rw [e1,e2,List.take_of_length_le (by rw [List.length_drop]; omega)]
theorem c7j {K:W.Frag} {H:Hp} {Q:VK} {v x:V} {ds:List PyData} {n:Bool} (h1:Den K H v (.tuple ds)) (h2:Den K H x (.tuple ds)) (hz:PyData.depthAll ds<=149) (k:Q (.bl (!n)) H):dEq K n v x H Q:=by
 cases h1 with
 | tup s1 d1=>cases h2 with
  | tup s2 d2=>exact ⟨_,_,_,_,ds,rfl,rfl,.inl ⟨s1,s2⟩,d1,d2,hz,k⟩
theorem c7k (sl:Str->Nat) (t:Trm):∃ ds,byD sl t = .tuple ds:=by cases t <;> (rw [byD]; exact ⟨_,rfl⟩)
theorem eq_byD {K:W.Frag} {H:Hp} {Q:VK} {v x:V} {sl:Str->Nat} {t:Trm} {n:Bool} (h1:Den K H v (byD sl t)) (h2:Den K H x (byD sl t)) (hz:t.size<=70) (k:Q (.bl (!n)) H):dEq K n v x H Q:=by
 have hd:=c7i sl t
 obtain ⟨ds,e⟩:=c7k sl t
 rw [e] at h1 h2 hd
 simp only [PyData.depth] at hd
 exact c7j h1 h2 (by omega) k
theorem jump_eq (r:Bool) (n j:Nat):(false ^^ decide (a1s r n j = Str.ofString "jump")) = (r && decide (j + 1 = n) && true):=by
 unfold a1s
 by_cases h:r = true/\j + 1 = n
 ·rw [if_pos h,h.1,decide_eq_true h.2]; decide +kernel
 ·rw [if_neg h]
  cases r with
  | false=>rw [Bool.false_and,Bool.false_and]; decide +kernel
  | true=>
   rw [decide_eq_false (fun z=>h ⟨rfl,z⟩)]
   decide +kernel
noncomputable def nwI (a i:Nat):List Int:=(List.range i).map fun (j:Nat)=>(a:Int) + (j:Int)
theorem c1h (a i:Nat):nwI a (i + 1) = nwI a i ++ [((a + i:Nat):Int)]:=by
 unfold nwI; rw [List.range_succ,List.map_append]; simp
theorem c2t (a i:Nat):(nwI a i).length = i:=by unfold nwI; rw [List.length_map,List.length_range]
theorem c7l:∀ (a i:Nat),(nwI a i).Pairwise (·<=·)
 | a,0=>by simp [nwI]
 | a,i + 1=>by
  rw [c1h,List.pairwise_append]
  refine ⟨c7l a i,List.pairwise_singleton _ _,fun x hx y hy=>?_⟩
  obtain ⟨j,hj,rfl⟩:=List.mem_map.mp hx
  rw [List.mem_singleton.mp hy]
  have:=List.mem_range.mp hj
  omega
theorem nw_rng (a m:Nat):(List.range ((((a + m:Nat):Int) - (a:Int)).toNat)).map (fun k=>V.int ((a:Int) + (k:Nat))) = (nwI a m).map V.int:=by
 rw [show (((a + m:Nat):Int) - (a:Int)).toNat = m by omega]
 unfold nwI
 rw [List.map_map]; rfl
theorem b6n (T:Txt K mg t) (G_l_is_named:FnOk P w K mg base CX0 1 t.a_l_is_named t.d_l_is_named ["_law_goal_here"] (a7f K)) (G_l_brought:FnOk P w K mg base CX0 2 t.a_l_brought t.d_l_brought ["_law_rows","_law_at","_law_cells_here"] (a8m K)) (G_l_done:FnOk P w K mg base CX0 2 t.a_l_done t.d_l_done ["_law_row","_law_cells_here"] (b1c K)) (G_l_by_slots:FnOk P w K mg base CX0 62 t.a_l_by_slots t.d_l_by_slots ["_law_term_here","_law_slots_here"] (a3f K 60)):FnOk P w K mg base CX0 64 t.a_l_body_right t.d_l_body_right ["_law_rows","_law_at","_law_goals","_law_slots_here","_law_head_slots","_law_is_rule"] (a4r K):=by
 refine T.F_l_body_right.ok a2g (fun vs H Q E h=>?_) (fun cdv A outer s H vs Q E hr h=>?_)
 ·unfold a4r at h
  split at h
  ·rfl
  ·exact h.elim
 unfold a4r at h
 split at h
 rotate_left
 ·exact h.elim
 refine ⟨_,(a0e (a1b (PW.pt (a2v (a0q mo_ge (mv 1) (a0t (a1r K rfl) rfl T.n_len PySem.boot_len (a0a (mv 0) a0c)) (a0o _)) (a4m (a0q (b6a K rfl (a7z hr)) (a0l (a0h K rfl) (mv 0) (mv 1) (fun _ _=>rfl)) (a0z (a0a a0i a0c)) (a0o _))))) (a0g (a0p a3r)) a0x) (a0e (a0r (i:=1) (hs:=a2o) a2g.nd rfl (by walk_at "or1") (a0m (a1d K rfl) (mv 1) a0b)) (a0e (a0r (i:=6) (hs:=b3g) a2g.nd rfl (by walk_at "or1") (a2x a0c)) (a0e (a8o PassesOwn.never (PW.pt (b0c (a0q a8z (mv 1) (a0t (a1r K rfl) rfl T.n_len PySem.boot_len (a0a (mv 0) a0c)) (a0o _)) (a8n (a0q a1h (a0l (a0h K rfl) (a0l (a0h K rfl) (mv 0) (mv 1) (fun _ _=>rfl)) a0b (fun _ _=>rfl)) a0i (a0o _))))) (a0e (a1e (a9s K rfl F.plainAttrs_list F.slot_list_append F.type_list_append a7x (mv 6) (a0a (a0l (a0h K rfl) (a0l (a0h K rfl) (mv 0) (mv 1) (fun _ _=>rfl)) a0b (fun _ _=>rfl)) a0c))) (a0g (a0r (i:=1) (hs:=a2o) a2g.nd rfl (by walk_at "or1") (a0m (a1d K rfl) (mv 1) a0b))))) (a0e (a1b (a0q (b6a K rfl (a7z hr)) (a0t (c9a K rfl) rfl T.n_sorted boot_sorted (a0a (mv 6) a0c)) (c3l rfl rfl T.n_list rfl T.n_range (a0a (mv 4) (a0a (a0t a5b rfl T.n_len PySem.boot_len (a0a (mv 3) a0c)) a0c))) (a0o _)) (a0g (a0p a3r)) a0x) (a0e (a3n PassesOwn.never rfl (a4n rfl T.n_range (a0a (a0t (a1r K rfl) rfl T.n_len PySem.boot_len (a0a (mv 2) a0c)) a0c)) (a2d (i:=7) a2g.nd rfl (by walk_at "or1")) (a0e (a0r (i:=8) a2g.nd rfl (by walk_at "or1") b0f) (a0e (a0r (i:=1) (hs:=a1x) a2g.nd rfl (by walk_at "or1") (a0u G_l_brought (hr.mono (by walk_at "rm1")) rfl T.m_l_brought T.F_l_brought.kp T.b_l_brought .nil a0s (a0a (mv 0) (a0a (mv 1) (a0a (mv 8) a0c))))) (a0e (a1b (PW.pt (a2v (a0q b6c (mv 1) a5x (a0o _)) (a4m (a0q mo_ge (mv 1) (a0t (a1r K rfl) rfl T.n_len PySem.boot_len (a0a (mv 0) a0c)) (a0o _))))) (a0g (a0p a3r)) a0x) (a0e (a1b (a0q (b6a K rfl (a7z hr)) (a0u G_l_done (hr.mono (by walk_at "rm1")) rfl T.m_l_done T.F_l_done.kp T.b_l_done .nil a0s (a0a (a0l (a0h K rfl) (mv 0) (mv 1) (fun _ _=>rfl)) (a0a (mv 8) a0c))) (a0u G_l_by_slots (hr.mono (by walk_at "rm1")) rfl T.m_l_by_slots T.F_l_by_slots.kp T.b_l_by_slots .nil a0s (a0a (a0l (a0h K rfl) (mv 2) (mv 7) (fun _ _=>rfl)) (a0a (mv 3) a0c))) (a0o _)) (a0g (a0p a3r)) a0x) (a0e (a0r (i:=9) a2g.nd rfl (by walk_at "or1") (a6c (mv 5) (a6c (a1w a1h (a0m (a1d K rfl) (mv 7) a0b) (a0t (a1r K rfl) rfl T.n_len PySem.boot_len (a0a (mv 2) a0c)) (a0o _)) (a5z (a0u G_l_is_named (hr.mono (by walk_at "rm1")) rfl T.m_l_is_named T.F_l_is_named.kp T.b_l_is_named .nil a0s (a0a (a0l (a0h K rfl) (mv 2) (mv 7) (fun _ _=>rfl)) a0c)))))) (a0e (a1b (PW.pt (b0c (a2j K rfl (a0u G_l_is_named (hr.mono (by walk_at "rm1")) rfl T.m_l_is_named T.F_l_is_named.kp T.b_l_is_named .nil a0s (a0a (a0l (a0h K rfl) (mv 2) (mv 7) (fun _ _=>rfl)) a0c))) (a8n (a0q a9r (a1w a1h (a0l (a0h K rfl) (a0l (a0h K rfl) (mv 0) (mv 1) (fun _ _=>rfl)) a0b (fun _ _=>rfl)) a0i (a0o _)) (mv 9) (a0o _))))) (a0g (a0p a3r)) a0x) (a0g (a0r (i:=1) (hs:=a2o) a2g.nd rfl (by walk_at "or1") (a0m (a1d K rfl) (mv 1) a0b)))))))))) (a0e (a1b (a2w (a2j K rfl (mv 5))) (a0g (a0p (a1w (b5z K rfl (a7z hr)) (a6b (a8u K rfl) (mv 0) (a7w (mv 1)) a7v) (a2x (a0a (a0z (a0a a0i a0c)) a0c)) (a0o _)))) a0x) (a0e (a1b (a2j K rfl (a0u G_l_is_named (hr.mono (by walk_at "rm1")) rfl T.m_l_is_named T.F_l_is_named.kp T.b_l_is_named .nil a0s (a0a (a0l (a0h K rfl) (mv 2) (b8n b5x a0b) (fun _ _=>rfl)) a0c))) (a0g (a0p (a1w (b5z K rfl (a7z hr)) (a6b (a8u K rfl) (mv 0) (a7w (mv 1)) a7v) (a2x a0c) (a0o _)))) a0x) (a0g (a0p (a1w (b5z K rfl (a7z hr)) (a6b (a8u K rfl) (mv 0) (a7w (mv 1)) a7v) (a2x (a0a (a0z (a0a a0i a0c)) a0c)) (a0o _)))))))))))),?_⟩
 rename_i pr at_ pg pd hs r
 obtain ⟨us,pre,ug,gs,u,a,m,hpr,hd,eat,hpg,hdg,hpd,ehs,hu,hu60,hg6,hgo,hul,hr0,q⟩:=h
 subst eat ehs
 have hkl:=hd.length
 rw [List.length_map] at hkl
 have hgl:=a1y hdg
 rw [a3l] at hgl
 generalize hB:pre ++ a3y (ix u) r a m gs (a3g r gs) = B at hd hkl
 have e0:B[pre.length]? = some a7c:=by
  rw [<- hB,body_0]
  exact b4e (A:=pre) (B:=[a7c]) (j:=0) (by simp)
 have e1:∀ i,i < m->B[pre.length + 1 + i]? = some (newK (a + i)):=fun i hi=>by
  have:=b4e (A:=pre ++ [a7c]) (B:=a4w a m) (C:=gsK (ix u) (a1s r gs.length) 0 gs ++ a3g r gs) (j:=i) (by unfold a4w; simpa using hi)
  rw [<- c7g,hB,List.length_append,List.length_singleton] at this
  rw [this]
  unfold a4w
  rw [List.getElem?_map,List.getElem?_range hi]; rfl
 have e2:∀ ks,B[pre.length + 1 + m]? = some ks->c1f ks:=fun ks h=>by
  have hl:(pre ++ [a7c] ++ a4w a m).length = pre.length + 1 + m:=by unfold a4w; simp; omega
  rw [<- hB,c7g,<- List.append_assoc,List.getElem?_append_right (by omega)] at h
  rcases List.mem_append.mp (List.mem_of_getElem? h) with z | z
  ·exact c2s (b4d r gs.length) 0 gs ks z
  ·exact c7h r gs ks z
 obtain ⟨a0,at0,lt0,sq0⟩:=b2b hd e0
 walk_at "stp"
 refine a4h (SqL.of hpr) ?_
 walk_at "stp"
 refine iteB (fun e=>absurd (of_decide_eq_true e) (by omega)) (fun e=>?_)
 walk_at "stp"
 refine a1p (SqL.of hpr) at0 ?_
 walk_at "stp"
 refine ⟨ln (by show 1<=100000; decide),fun q1 hq1=>?_⟩
 have sq1:Same H (upd H q1 (.tup [.str (Str.ofString "frame")])):=a0f hq1 _
 have kq1:(upd H q1 (.tup [.str (Str.ofString "frame")])) q1 = some (.tup [.str (Str.ofString "frame")]):=a0d
 generalize upd H q1 (.tup [.str (Str.ofString "frame")]) = H1 at sq1 kq1 ⊢
 walk_at "stp"
 refine c7j (b2a (sq1.tup sq0)) (b2a (ks:=a7c) (SqT.of kq1)) (by have:=b2s a7c; omega) ?_
 walk_at "stp"
 refine iteF ?_
 walk_at "stp"
 refine ⟨ln (by show 0<=100000; decide),fun pn hpn=>?_⟩
 have spn:=a0f hpn (.lst [])
 have kpn:(upd H1 pn (.lst [])) pn = some (.lst []):=a0d
 generalize upd H1 pn (.lst []) = H2 at spn kpn ⊢
 have s02:=sq1.trans spn
 have hpn0:H pn = none:=a2t sq1 hpn
 walk_at "stp"
 refine a8a (fun c σ' J=>∃ (i:Nat),σ' = [some (.ref pr),some (.int ((pre.length + 1 + i:Nat):Int)),some (.ref pg),some (.ref pd),some (.int (a:Int)),some (.bl r),some (.ref pn),none,none,none]/\i<=m/\c = m - i/\Same H J/\J pn = some (.lst ((nwI a i).map V.int))) m ⟨0,rfl,Nat.zero_le _,rfl,s02,by simpa [nwI] using kpn⟩ (fun c σ' J R hP kT kF=>?_)
 obtain ⟨i,rfl,hi,ec,sJ,kJ⟩:=hP
 walk_at "stp"
 refine a4h (SqL.of (sJ _ _ hpr)) ?_
 walk_at "stp"
 rcases Nat.lt_or_ge i m with him | him
 ·obtain ⟨ar,atr,ltr,sqr⟩:=b2b hd (e1 i him)
  have sqr:=sJ.tup sqr
  refine iteB (fun e=>?_) (fun e=>absurd (of_decide_eq_false e) (by omega))
  walk_at "stp"
  refine a1p (SqL.of (sJ _ _ hpr)) atr ?_
  walk_at "stp"
  refine a0k sqr (v:=.str newS) rfl ?_
  walk_at "stp"
  rw [show (false ^^ decide (newS = Str.ofString "new")) = true by decide +kernel]
  refine kT J (fun D' e3 e4 hnx hct=>?_)
  walk_at "stp"
  refine ⟨.inl ⟨rfl,_,SqL.of kJ⟩,?_⟩
  walk_at "stp"
  refine a1p (SqL.of (sJ _ _ hpr)) atr ?_
  walk_at "stp"
  refine a0k sqr (v:=.int ((a + i:Nat):Int)) rfl ?_
  walk_at "stp"
  refine a7y kJ (ln1 (by rw [List.length_map,c2t]; omega)) ?_
  walk_at "stp"
  exact hnx _ _ (m - (i + 1)) (by omega) ⟨i + 1,rfl,him,rfl,a2k sJ hpn0,by rw [c1h,List.map_append]; exact a0d⟩
 have him:i = m:=by omega
 subst him
 have DONE:∀ J',Same J J'->R false J':=?D
 case D=>
  intro J' sJ'
  refine kF J' ?_
  have s0:=sJ.trans sJ'
  have kN:=sJ' _ _ kJ
  walk_at "stp"
  refine ⟨pn,_,rfl,SqL.of kN,by rw [c2t]; omega,fun qs ns' hqs perm pw=>?_⟩
  obtain rfl:ns' = nwI a i:=perm.eq_of_pairwise (fun x y _ _ h1 h2=>Int.le_antisymm h1 h2) pw (c7l a i)
  have s3:=a0f hqs (.lst ((nwI a i).map V.int))
  have k3:(upd J' qs (.lst ((nwI a i).map V.int))) qs = some (.lst ((nwI a i).map V.int)):=a0d
  generalize upd J' qs (.lst ((nwI a i).map V.int)) = H3 at s3 k3 ⊢
  refine c3m ?_
  walk_at "stp"
  refine ⟨pd,_,rfl,(s0.trans s3) _ _ hpd,?_⟩
  rw [a2s,hu]
  walk_at "stp"
  refine ⟨_,_,rfl,⟨by omega,by omega,by omega,by omega⟩,fun p4 hp4=>?_⟩
  rw [nw_rng]
  have s4:=a0f hp4 (.lst ((nwI a i).map V.int))
  have k4:(upd H3 p4 (.lst ((nwI a i).map V.int))) p4 = some (.lst ((nwI a i).map V.int)):=a0d
  generalize upd H3 p4 (.lst ((nwI a i).map V.int)) = H4 at s4 k4 ⊢
  refine ⟨qs,p4,_,_,_,rfl,rfl,.inr ⟨SqL.of (s4 _ _ k3),SqL.of k4⟩,b5g _,b5g _,b6m _,?_⟩
  walk_at "stp"
  refine iteF ?_
  walk_at "stp"
  have s04:=s0.trans (s3.trans s4)
  refine a4h (SqL.of (s04 _ _ hpg)) ?_
  walk_at "stp"
  refine ⟨_,rfl,by omega,by omega,?_⟩
  rw [show (ug.length:Int).toNat = gs.length by omega]
  refine a4f (a3p 0 gs.length) (fun j σ' J=>∃ (o7 o8 o9:Option V),σ' = [some (.ref pr),some (.int ((pre ++ hdK (ix u) r a i gs j).length:Int)),some (.ref pg),some (.ref pd),some (.int (a:Int)),some (.bl r),some (.ref pn),o7,o8,o9]/\Same H J) ⟨none,none,none,by rw [List.length_append,c9t,<- Nat.add_assoc],s04⟩ (fun _ _ _ _=>trivial) (fun j σ' J hj hP=>?_) (fun σ' J hP=>?_)
  ·obtain ⟨o7,o8,o9,rfl,s5⟩:=hP
   obtain ⟨hok,hz30,har,hk4,hv⟩:=hgo _ (List.getElem_mem hj)
   have zk:=gs[j].kids_size
   have zl:=Trm.len_le gs[j].kids
   obtain ⟨Y,hY⟩:=c9v pre (ix u) r a i (a3g r gs) hj
   rw [hB] at hY
   have hX:(pre ++ hdK (ix u) r a i gs j).length = (pre ++ hdK (ix u) r a i gs j).length:=rfl
   have hS:=c9u (ix u) r a i hj
   obtain ⟨oks,ceK,_⟩:=rdB_L gs[j].kids 0 gs[j].kids.length (fun _=>none) (by omega) (by omega) har
   have hrow:B[(pre ++ hdK (ix u) r a i gs j).length + Trm.sizeL gs[j].kids]? = some (goK (a1s r gs.length j) gs[j]):=by
    rw [hY,b4e (by rw [c1e]; omega)]
    unfold gK
    rw [List.getElem?_append_right (by rw [List.length_map,a6x]; exact Nat.le_refl _),List.length_map,a6x,Nat.sub_self]; rfl
   generalize hn:(pre ++ hdK (ix u) r a i gs j).length = n at hY hrow
   have hnx':n + (Trm.sizeL gs[j].kids + 1) = (pre ++ hdK (ix u) r a i gs (j + 1)).length:=by rw [List.length_append,hS,<- hn,List.length_append]; omega
   walk_at "stp"
   intro pc hpc
   have s6:=a0f hpc (.dK [])
   have k6:(upd J pc (.dK [])) pc = some (.dK []):=a0d
   generalize upd J pc (.dK []) = J6 at s6 k6 ⊢
   have s06:=s5.trans s6
   have hpc0:H pc = none:=a2t s5 hpc
   walk_at "stp"
   refine ⟨ix u,us,B,brL gs[j].kids 0 gs[j].kids.length,n,s06 _ _ hpr,hd.mono s06,rfl,fun k hk=>?_,fun ks hks=>?_,oks,k6,hul,fun k hk=>?_,fun J7 kvs b7 f7 k7 c7=>?_⟩
   ·rw [hY,<- hn,b4e (by rw [c1e]; rw [a6x] at hk; omega)]
    unfold gK
    rw [List.getElem?_append_left (by rw [List.length_map]; exact hk),List.getElem?_map,List.getElem?_eq_getElem hk]; rfl
   ·rw [a6x,hrow] at hks
    rw [<- Option.some.inj hks]
    exact go_tag (b4d r gs.length j) gs[j]
   ·have:=brL_f gs[j].kids 0 gs[j].kids.length 1000 (by omega) _ (List.getElem_mem hk)
    revert this
    cases (brL gs[j].kids 0 gs[j].kids.length)[k] <;> exact id
   have s07:Same H J7:=b7d s06 b7 hpc0
   rw [a6x]
   obtain ⟨ar,atr,ltr,sqr⟩:=b2b hd hrow
   walk_at "stp"
   refine ⟨rfl,?_⟩
   rw [show (false ^^ decide (V.int ((n + Trm.sizeL gs[j].kids:Nat):Int) = V.non)) = false by rw [decide_eq_false (fun z=>by cases z)]; rfl]
   walk_at "stp"
   refine iteF ?_
   walk_at "stp"
   refine a4h (SqL.of (s07 _ _ hpr)) ?_
   walk_at "stp"
   refine iteB (fun e=>absurd (of_decide_eq_true e) (by omega)) (fun e=>?_)
   walk_at "stp"
   refine a1p (SqL.of (s07 _ _ hpr)) atr ?_
   walk_at "stp"
   refine ⟨ix u,kvs,_,gs[j],a1s r gs.length j,s07.tup sqr,b4d r gs.length j,k7,c7,hok,hk4,fun k hk=>by have:=ceK k hk; rw [Nat.zero_add] at this; exact this,fun v8 J8 s8 d8=>?_⟩
   have s08:=s07.trans s8
   obtain ⟨huj,dgj⟩:=c0v hdg hj
   have atg:atI ug (0 + (j:Int)) = some ug[j]:=by rw [show (0:Int) + (j:Int) = (j:Int) by omega]; exact b1j huj
   walk_at "stp"
   refine a1p (SqL.of (s08 _ _ hpg)) atg ?_
   walk_at "stp"
   refine ⟨gs[j].trm,u,dgj.mono s08,s08 _ _ hpd,fun x hx=>hv x (by rw [gs[j].kids_vars]; exact hx),by omega,by omega,fun x9 J9 s9 d9=>?_⟩
   have s09:=s08.trans s9
   refine eq_byD (d8.mono s9) d9 (by omega) ?_
   walk_at "stp"
   refine iteF ?_
   (with_reducible refine b3v ?_)
   (with_reducible refine a7i (fun σ' H'=>σ' = [some (.ref pr),some (.int ((n + Trm.sizeL gs[j].kids:Nat):Int)),some (.ref pg),some (.ref pd),some (.int (a:Int)),some (.bl r),some (.ref pn),some (.int (0 + (j:Int))),some (.ref pc),some (.bl (r && decide (j + 1 = gs.length) && gs[j].named))]/\Same H H') (fun σ' H' hP=>?_) (fun kk=>?_))
   rotate_left
   ·cases r with
    | false=>
     walk_at "stm"
     refine iteF ?_
     (with_reducible refine a6s ?_)
     exact kk _ _ ⟨rfl,s09⟩
    | true=>
     walk_at "stm"
     refine iteT ?_
     walk_at "stm"
     refine a4h (SqL.of (s09 _ _ hpg)) ?_
     walk_at "stm"
     refine iteB (fun e3=>?_) (fun e3=>?_)
     ·have e3:j + 1 = gs.length:=by have:=of_decide_eq_true (by simpa using e3); omega
      walk_at "stm"
      refine a1p (SqL.of (s09 _ _ hpg)) atg ?_
      walk_at "stm"
      refine ⟨gs[j],dgj.mono s09,hok,fun J10 s10=>?_⟩
      (with_reducible refine a6s ?_)
      have hh:=kk _ _ ⟨rfl,s09.trans s10⟩
      rw [decide_eq_true e3] at hh
      exact hh
     ·have e3:¬ j + 1 = gs.length:=by have:=of_decide_eq_false (by simpa using e3); omega
      (with_reducible refine a6s ?_)
      have hh:=kk _ _ ⟨rfl,s09⟩
      rw [decide_eq_false e3] at hh
      exact hh
   obtain ⟨rfl,s10⟩:=hP
   walk_at "stp"
   refine a1p (SqL.of (s10 _ _ hpg)) atg ?_
   walk_at "stp"
   refine ⟨gs[j],dgj.mono s10,hok,fun J11 s11=>?_⟩
   have s011:=s10.trans s11
   have NXT:∃ o7 o8 o9:Option V,[some (.ref pr),some (.int ((n + Trm.sizeL gs[j].kids:Nat) + 1:Int)),some (.ref pg),some (.ref pd),some (.int (a:Int)),some (.bl r),some (.ref pn),some (.int (0 + (j:Int))),some (.ref pc),some (.bl (r && decide (j + 1 = gs.length) && gs[j].named))] = [some (.ref pr),some (.int ((pre ++ hdK (ix u) r a i gs (j + 1)).length:Int)),some (.ref pg),some (.ref pd),some (.int (a:Int)),some (.bl r),some (.ref pn),o7,o8,o9]/\Same H J11:=⟨_,_,_,by rw [<- hnx',<- Nat.add_assoc]; rfl,s011⟩
   walk_at "stp"
   cases hnm:gs[j].named with
   | false=>
    rw [hnm] at NXT
    refine iteF ?_
    walk_at "stp"
    exact NXT
   | true=>
    rw [hnm] at NXT
    have hj0:atI ((goK (a1s r gs.length j) gs[j]).map kV) 0 = some (.str (a1s r gs.length j)):=by
     revert hnm
     cases gs[j] <;> intro hnm
     ·cases hnm
     ·cases hnm
     ·cases hnm
     ·exact a5v _ _
    refine iteT ?_
    walk_at "stp"
    refine a1p (SqL.of (s011 _ _ hpr)) atr ?_
    walk_at "stp"
    refine a0k (s011.tup sqr) hj0 ?_
    walk_at "stp"
    rw [jump_eq]
    refine iteB (fun e=>absurd e (by simp)) (fun e=>?_)
    walk_at "stp"
    exact NXT
  obtain ⟨o7,o8,o9,rfl,s5⟩:=hP
  have hE:=c9w pre (ix u) r a i gs (a3g r gs)
  rw [hB] at hE
  have dE:DenL K H (us.drop (pre ++ hdK (ix u) r a i gs gs.length).length) ((a3g r gs).map rowD):=by
   have:=hd.drop (pre ++ hdK (ix u) r a i gs gs.length).length
   rw [hE,List.map_append] at this
   have e:List.drop (pre ++ hdK (ix u) r a i gs gs.length).length (List.map rowD (pre ++ hdK (ix u) r a i gs gs.length) ++ List.map rowD (a3g r gs)) = List.map rowD (a3g r gs):=List.drop_left' (by rw [List.length_map])
   rw [e] at this
   exact this
  have lE:(pre ++ hdK (ix u) r a i gs gs.length).length<=us.length:=by rw [hkl,hE]; simp
  generalize (pre ++ hdK (ix u) r a i gs gs.length).length = nE at dE lE
  cases r with
  | false=>
   walk_at "stp"
   refine iteT ?_
   walk_at "stp"
   refine ⟨pr,us,rfl,SqL.of (s5 _ _ hpr),fun p6 hp6=>?_⟩
   rw [b0p us nE lE]
   have s6:=a0f hp6 (.lst (us.drop nE))
   have k6:(upd J p6 (.lst (us.drop nE))) p6 = some (.lst (us.drop nE)):=a0d
   generalize upd J p6 (.lst (us.drop nE)) = J6 at s6 k6 ⊢
   walk_at "stp"
   refine ⟨ln (by show 1<=100000; decide),fun q7 hq7=>?_⟩
   have sq7:Same J6 (upd J6 q7 (.tup [.str (Str.ofString "tell")])):=a0f hq7 _
   have kq7:(upd J6 q7 (.tup [.str (Str.ofString "tell")])) q7 = some (.tup [.str (Str.ofString "tell")]):=a0d
   generalize upd J6 q7 (.tup [.str (Str.ofString "tell")]) = J7 at sq7 kq7 ⊢
   walk_at "stp"
   refine ⟨ln (by show 1<=100000; decide),fun q8 hq8=>?_⟩
   have sq8:Same J7 (upd J7 q8 (.lst [.ref q7])):=a0f hq8 _
   have kq8:(upd J7 q8 (.lst [.ref q7])) q8 = some (.lst [.ref q7]):=a0d
   generalize upd J7 q8 (.lst [.ref q7]) = J8 at sq8 kq8 ⊢
   have s78:=sq7.trans sq8
   refine ⟨p6,q8,_,_,[rowD b9c],rfl,rfl,.inr ⟨SqL.of (s78 _ _ k6),SqL.of kq8⟩,dE.mono (s5.trans (s6.trans s78)),.cons (b2a (ks:=b9c) (SqT.of (sq8 _ _ kq7))) .nil,by simp [rowD,b9c,keyD,PyData.depthAll,PyData.depth],?_⟩
   exact q _ (s5.trans (s6.trans s78))
  | true=>
   rcases nil_or_snoc' gs with hg0 | ⟨gs',gl,hg0⟩
   ·exact absurd hg0 (hr0 rfl)
   have hgs2:=hdg
   rw [hg0,trms,List.map_append,a6o] at hgs2
   obtain ⟨us',ul,hus,du',dul⟩:=DenL.snoc hgs2
   have dul:Den K H ul gl.trm.data:=dul
   have hat:atI ug (-1) = some ul:=by rw [hus]; exact c0u us' ul
   have okl:=(hgo gl (by rw [hg0]; simp)).1
   have hln:a5g gs = gl.named:=by rw [hg0]; exact b1y gs' gl
   walk_at "stp"
   refine iteF ?_
   walk_at "stp"
   refine a1p (SqL.of (s5 _ _ hpg)) hat ?_
   walk_at "stp"
   refine ⟨gl,dul.mono s5,okl,fun J5 s55=>?_⟩
   have s5:=s5.trans s55
   have hT:a3g true gs = if gl.named = true then [] else [a7e]:=by unfold a3g; rw [hln]; rfl
   rw [hT] at dE
   walk_at "stp"
   cases hnl:gl.named with
   | true=>
    rw [hnl,if_pos rfl] at dE
    refine iteT ?_
    walk_at "stp"
    refine ⟨pr,us,rfl,SqL.of (s5 _ _ hpr),fun p6 hp6=>?_⟩
    rw [b0p us nE lE]
    have s6:=a0f hp6 (.lst (us.drop nE))
    have k6:(upd J5 p6 (.lst (us.drop nE))) p6 = some (.lst (us.drop nE)):=a0d
    generalize upd J5 p6 (.lst (us.drop nE)) = J6 at s6 k6 ⊢
    walk_at "stp"
    refine ⟨ln (by show 0<=100000; decide),fun q8 hq8=>?_⟩
    have sq8:=a0f hq8 (.lst [])
    refine ⟨p6,q8,_,_,[],rfl,rfl,.inr ⟨SqL.of (sq8 _ _ k6),SqL.of a0d⟩,dE.mono (s5.trans (s6.trans sq8)),.nil,by simp [PyData.depthAll],?_⟩
    exact q _ (s5.trans (s6.trans sq8))
   | false=>
    rw [hnl,if_neg (by simp)] at dE
    refine iteF ?_
    walk_at "stp"
    refine ⟨pr,us,rfl,SqL.of (s5 _ _ hpr),fun p6 hp6=>?_⟩
    rw [b0p us nE lE]
    have s6:=a0f hp6 (.lst (us.drop nE))
    have k6:(upd J5 p6 (.lst (us.drop nE))) p6 = some (.lst (us.drop nE)):=a0d
    generalize upd J5 p6 (.lst (us.drop nE)) = J6 at s6 k6 ⊢
    walk_at "stp"
    refine ⟨ln (by show 1<=100000; decide),fun q7 hq7=>?_⟩
    have sq7:Same J6 (upd J6 q7 (.tup [.str (Str.ofString "back")])):=a0f hq7 _
    have kq7:(upd J6 q7 (.tup [.str (Str.ofString "back")])) q7 = some (.tup [.str (Str.ofString "back")]):=a0d
    generalize upd J6 q7 (.tup [.str (Str.ofString "back")]) = J7 at sq7 kq7 ⊢
    walk_at "stp"
    refine ⟨ln (by show 1<=100000; decide),fun q8 hq8=>?_⟩
    have sq8:Same J7 (upd J7 q8 (.lst [.ref q7])):=a0f hq8 _
    have kq8:(upd J7 q8 (.lst [.ref q7])) q8 = some (.lst [.ref q7]):=a0d
    generalize upd J7 q8 (.lst [.ref q7]) = J8 at sq8 kq8 ⊢
    have s78:=sq7.trans sq8
    refine ⟨p6,q8,_,_,[rowD a7e],rfl,rfl,.inr ⟨SqL.of (s78 _ _ k6),SqL.of kq8⟩,dE.mono (s5.trans (s6.trans s78)),.cons (b2a (ks:=a7e) (SqT.of (sq8 _ _ kq7))) .nil,by simp [rowD,a7e,keyD,PyData.depthAll,PyData.depth],?_⟩
    exact q _ (s5.trans (s6.trans s78))
 by_cases hlt:pre.length + 1 + i < us.length
 ·refine iteB (fun e=>?_) (fun e=>absurd (of_decide_eq_false e) (by omega))
  have hks:B[pre.length + 1 + i]? = some B[pre.length + 1 + i]:=List.getElem?_eq_getElem (by omega)
  obtain ⟨tag,els,eks,htag⟩:=e2 _ hks
  rw [eks] at hks
  obtain ⟨ar,atr,ltr,sqr⟩:=b2b hd hks
  walk_at "stp"
  refine a1p (SqL.of (sJ _ _ hpr)) atr ?_
  walk_at "stp"
  refine a0k (sJ.tup sqr) (a5v tag els) ?_
  walk_at "stp"
  rw [show (false ^^ decide (tag = Str.ofString "new")) = false by rw [decide_eq_false (show ¬ tag = Str.ofString "new" from htag)]; rfl]
  exact DONE J (Same.refl _)
 ·refine iteB (fun e=>absurd (of_decide_eq_true e) (by omega)) (fun e=>?_)
  exact DONE J (Same.refl _)
end
noncomputable def b1d (u:List Str) (ks:List Trm) (a m:Nat) (gs:List Go):List (List Key):=(taL (ix u) ks 0 ks.length []).map rwK ++ (if gs = [] then [a7e] else a3y (ix u) true a m gs (a3g true gs))
theorem b6o (a m:Nat):(a4w a m).map rowD = (List.range m).map fun j=>newD (a + j):=by
 unfold a4w
 rw [List.map_map]; rfl
theorem c7m (w:Str) (ks:List Trm) (ts:List Trm):∃ b,ordL (.app w ks :: ts) [] = ordL ks [] ++ b:=by
 rw [ordL,ord]
 exact b4y ts (ordL ks [])
theorem c7n (w:Str) (ks:List Trm) (gs:List Go) (b:List Str) (e:ordL (.app w ks :: trms gs) [] = ordL ks [] ++ b):b4b (ordL (.app w ks :: trms gs) []) ks gs = (b1d (ordL (.app w ks :: trms gs) []) ks (ordL ks []).length b.length gs).map rowD:=by
 have hn:=a6h (.app w ks :: trms gs) [] List.nodup_nil
 have hnews:a7d (ordL (.app w ks :: trms gs) []) (ordL ks []) = (a4w (ordL ks []).length b.length).map rowD:=by
  rw [b6o]
  have hn2:=hn
  rw [e] at hn2 ⊢
  exact c0q _ _ hn2
 unfold b4b b1d
 rw [List.map_append,c9n]
 congr 1
 by_cases hg:gs = []
 ·rw [if_pos hg,if_pos hg]; rfl
 ·rw [if_neg hg,if_neg hg,hnews]
  unfold a3y
  rw [List.map_append,List.map_append,List.map_cons,b2r]
  congr 1
  have ht:a3g true gs = if a5g gs = true then [] else [a7e]:=rfl
  rw [ht]
  cases a5g gs <;> rfl
theorem c9x (gs:List Go):askR (ordL (trms gs) []) gs = (a3y (ix (ordL (trms gs) [])) false 0 (ordL (trms gs) []).length gs (a3g false gs)).map rowD:=by
 have hn:=a6h (trms gs) [] List.nodup_nil
 have hnews:a7d (ordL (trms gs) []) [] = (a4w 0 (ordL (trms gs) []).length).map rowD:=by
  rw [b6o]
  exact c0q [] _ hn
 unfold askR
 rw [hnews]
 unfold a3y
 rw [List.map_append,List.map_append,List.map_cons,b2r]
 rfl
theorem gsK_le (sl:Str->Nat) (f:Nat->Str) (gs:List Go) (h:∀ g ∈ gs,g.ok/\g.trm.size<=30):(gsK sl f 0 gs).length<=31 * gs.length:=by
 have h1:=b1x sl f 0 gs h
 rw [b2r,List.length_map] at h1
 exact h1
theorem c9y (r:Bool) (gs:List Go):(a3g r gs).length<=1:=by
 unfold a3g
 split
 ·simp
 ·split <;> simp
theorem c2u (sl:Str->Nat) (r:Bool) (a m:Nat) (gs:List Go) (h:∀ g ∈ gs,g.ok/\g.trm.size<=30):(a3y sl r a m gs (a3g r gs)).length<=2 + m + 31 * gs.length:=by
 have h1:=gsK_le sl (a1s r gs.length) gs h
 have h2:=c9y r gs
 unfold a3y a4w
 rw [List.length_append,List.length_append,List.length_cons,List.length_map,List.length_range]
 omega
theorem b6p {gs:List Go} {xs:List Str} (h:∀ g ∈ gs,g.fit xs):∀ x ∈ a1f (trms gs),x ∈ xs:=by
 induction gs with
 | nil=>intro x hx; simp [trms,a1f] at hx
 | cons g gs ih=>
  intro x hx
  rw [trms,List.map_cons,a1f] at hx
  rcases List.mem_append.mp hx with z | z
  ·exact (h g (List.mem_cons_self ..)).2.2.2.2 x (by rw [g.kids_vars]; exact z)
  ·exact ih (fun g' hg'=>h g' (List.mem_cons_of_mem _ hg')) x z
theorem ord6 {ts:List Trm} {xs:List Str} (hx:xs.length = 6) (h:∀ x ∈ a1f ts,x ∈ xs):(ordL ts []).length<=6:=by
 have hn:=a6h ts [] List.nodup_nil
 have:=List.Nodup.length_le_of_subset hn (fun x hx=>h x (by
  rcases (b2n ts [] x).mp hx with z | z
  ·simp at z
  ·exact z))
 omega
theorem fits_of {g:Go} {xs u:List Str} (h:g.fit xs) (hv:∀ x ∈ a1f g.kids,x ∈ u):g.fits u:=⟨h.1,h.2.1,h.2.2.1,h.2.2.2.1,hv⟩
theorem c2v {gs:List Go} {u:List Str} (h:∀ x ∈ a1f (trms gs),x ∈ u):∀ g ∈ gs,∀ x ∈ a1f g.kids,x ∈ u:=fun g hg x hx=>h x (b4a (List.mem_map.mpr ⟨g,hg,rfl⟩) x (by rw [<- g.kids_vars]; exact hx))
noncomputable def a4u:List Str:=[b8z,b9a,numS,appS]
theorem rw_tag (r:Rw):∃ tag els,rwK r = .inr tag :: els/\tag ∈ a4u:=by
 cases r with
 | slot c s=>exact ⟨_,_,rfl,by simp [a4u]⟩
 | same c s=>exact ⟨_,_,rfl,by simp [a4u]⟩
 | num c s=>exact ⟨_,_,rfl,by simp [a4u]⟩
 | app c g m f=>exact ⟨_,_,rfl,by simp [a4u]⟩
noncomputable abbrev a5w (K:W.Frag):Sp:=fun vs H Q _=>match vs with
 | [.int n,v,.ref pg]=>∃ (w:Str) (ks:List Trm) (ug:List V) (gs:List Go) (xs:List Str),Den K H v (Trm.app w ks).data/\Trm.sizeL ks<=30/\(∀ x ∈ a1f ks,x ∈ xs)/\H pg = some (.lst ug)/\DenL K H ug (Trm.dataL (trms gs))/\gs.length<=6/\(∀ g ∈ gs,g.fit xs)/\xs.length = 6/\∀ H',Same H H'->Q (.bl true) H'
 | _=>False
noncomputable abbrev a4l (K:W.Frag):Sp:=fun vs H Q _=>match vs with
 | [.ref pg]=>∃ (ug:List V) (gs:List Go) (xs:List Str),H pg = some (.lst ug)/\DenL K H ug (Trm.dataL (trms gs))/\gs.length<=6/\(∀ g ∈ gs,g.fit xs)/\xs.length = 6/\∀ H',Same H H'->Q (.bl true) H'
 | _=>False
noncomputable abbrev b2c (K:W.Frag):Sp:=fun vs H Q _=>match vs with | [.ref a]=>∃ ns:List Int,SqL K H a (ns.map V.int)/\ns.length<=63/\∀ H',Q (.bl true) H' | _=>False
section
variable {P:Program} {w:World} {K:W.Frag} {mg:Str->Option Value} {base:Heap} {t:Ad}
theorem b3o:∀ ts:List Trm,(∀ t ∈ ts,t.size<=70)->PyData.depthAll (Trm.dataL ts)<=140
 | [],_=>by simp [Trm.dataL,PyData.depthAll]
 | t :: r,h=>by
  have h1:=Trm.depth_le t
  have h2:=b3o r fun u hu=>h u (List.mem_cons_of_mem _ hu)
  have h3:=h t (List.mem_cons_self ..)
  simp only [Trm.dataL,PyData.depthAll]
  omega
theorem b6q (T:Txt K mg t) (G_rule_code:FnOk P w K mg base CX0 66 t.a_rule_code t.d_rule_code ["number","rule"] (a8j K)) (G_l_slots:FnOk P w K mg base CX0 1 t.a_l_slots t.d_l_slots ["_law_terms"] (a8k K)) (G_l_body_right:FnOk P w K mg base CX0 64 t.a_l_body_right t.d_l_body_right ["_law_rows","_law_at","_law_goals","_law_slots_here","_law_head_slots","_law_is_rule"] (a4r K)) (G_l_whole:FnOk P w K mg base CX0 1 t.a_l_whole t.d_l_whole ["_law_found"] (a5h)) (G_l_rows_are:FnOk P w K mg base CX0 4 t.a_l_rows_are t.d_l_rows_are ["_law_rows"] (a5s K)):FnOk P w K mg base CX0 67 t.a_l_rule_right t.d_l_rule_right ["_law_number_here","_law_head","_law_goals"] (a5w K):=by
 refine T.F_l_rule_right.ok a3w (fun vs H Q E h=>?_) (fun cdv A outer s H vs Q E hr h=>?_)
 ·unfold a5w at h
  split at h
  ·rfl
  ·exact h.elim
 unfold a5w at h
 split at h
 rotate_left
 ·exact h.elim
 refine ⟨_,(a0e (a0r (i:=3) (hs:=a1x) a3w.nd rfl (by walk_at "or1") (a0u G_rule_code (hr.mono (by walk_at "rm1")) rfl T.m_rule_code T.F_rule_code.kp T.b_rule_code .nil a0s (a0a (mv 0) (a0a (a0z (a0a (mv 1) (a0a (a3e (b2i K rfl) rfl T.n_tuple boot_tuple (a0a (mv 2) a0c)) a0c))) a0c)))) (a0e (a0r (i:=4) (hs:=a1x) a3w.nd rfl (by walk_at "or1") (a0u G_l_slots (hr.mono (by walk_at "rm1")) rfl T.m_l_slots T.F_l_slots.kp T.b_l_slots .nil a0s (a0a (a0m (a1d K rfl) (a2x (a0a (mv 1) a0c)) (mv 2)) a0c))) (a0e (a1b (PW.pt (a2v (a2w (a2j K rfl (a0t (b0s K rfl) rfl T.n_isinstance boot_isinstance (a0a (mv 3) (a0a (a9e rfl T.n_tuple boot_tuple) a0c))))) (a2v (a0q a9r (a0t (a1r K rfl) rfl T.n_len PySem.boot_len (a0a (mv 3) a0c)) a0b (a0o _)) (a2v (a2w (a2j K rfl (a0u G_l_whole (hr.mono (by walk_at "rm1")) rfl T.m_l_whole T.F_l_whole.kp T.b_l_whole .nil a0s (a0a (a0l (a0h K rfl) (mv 3) a0b (fun _ _=>rfl)) a0c)))) (a4m (a2w (a2j K rfl (a0u G_l_whole (hr.mono (by walk_at "rm1")) rfl T.m_l_whole T.F_l_whole.kp T.b_l_whole .nil a0s (a0a (a0l (a0h K rfl) (mv 3) a0b (fun _ _=>rfl)) a0c))))))))) (a0g (a0p a3r)) a0x) (a0e (a1b (PW.pt (a2v (a0q a9r (a0l (a0h K rfl) (mv 3) a0b (fun _ _=>rfl)) (mv 0) (a0o _)) (a2v (a0q a9r (a0l (a0h K rfl) (mv 3) a0b (fun _ _=>rfl)) (a0t a5b rfl T.n_len PySem.boot_len (a0a (mv 4) a0c)) (a0o _)) (a4m (a2w (a2j K rfl (a0u G_l_rows_are (hr.mono (by walk_at "rm1")) rfl T.m_l_rows_are T.F_l_rows_are.kp T.b_l_rows_are .nil a0s (a0a (a0l (a0h K rfl) (mv 3) a0b (fun _ _=>rfl)) a0c)))))))) (a0g (a0p a3r)) a0x) (a0e (a0r (i:=5) (hs:=c0e) a3w.nd rfl (by walk_at "or1") (a0l (a0h K rfl) (mv 3) a0b (fun _ _=>rfl))) (a0e (a0r (i:=6) a3w.nd rfl (by walk_at "or1") a0b) (a0e (a8o PassesOwn.never (PW.pt (b0c (a0q a8z (mv 6) (a0t (a1r K rfl) rfl T.n_len PySem.boot_len (a0a (mv 5) a0c)) (a0o _)) (a8n (a0q (b3f K rfl) (a0l (a0h K rfl) (a0l (a0h K rfl) (mv 5) (mv 6) (fun _ _=>rfl)) a0b (fun _ _=>rfl)) (a0z (a0a a0i (a0a a0i (a0a a0i (a0a a0i a0c))))) (by with_unfolding_all rfl))))) (a0g (a0r (i:=6) (hs:=a2o) a3w.nd rfl (by walk_at "or1") (a0m (a1d K rfl) (mv 6) a0b)))) (a0e (a1b (a0q a1h (a0t (a1r K rfl) rfl T.n_len PySem.boot_len (a0a (mv 2) a0c)) a0b (a0o _)) (a0g (a0p (a1w (b5z K rfl (a7z hr)) (a6b (a8u K rfl) (mv 5) (a7w (mv 6)) a7v) (a2x (a0a (a0z (a0a a0i a0c)) a0c)) (a0o _)))) a0x) (a0g (a0p (a0u G_l_body_right (hr.mono (by walk_at "rm1")) rfl T.m_l_body_right T.F_l_body_right.kp T.b_l_body_right .nil a0s (a0a (mv 5) (a0a (mv 6) (a0a (mv 2) (a0a (mv 4) (a0a (a0t a5b rfl T.n_len PySem.boot_len (a0a (a0u G_l_slots (hr.mono (by walk_at "rm1")) rfl T.m_l_slots T.F_l_slots.kp T.b_l_slots .nil a0s (a0a (a2x (a0a (mv 1) a0c)) a0c)) a0c)) (a0a a3r a0c))))))))))))))))),?_⟩
 rename_i n v pg
 obtain ⟨wd,ks,ug,gs,xs,hv,hz,hvx,hpg,hdg,hg6,hfit,hx6,q⟩:=h
 have hgl:=a1y hdg
 rw [a3l] at hgl
 have hok:∀ g ∈ gs,g.ok/\g.trm.size<=30:=fun g hg=>⟨(hfit g hg).1,(hfit g hg).2.1⟩
 have zg:=b0o (n:=30) (trms gs) fun t ht=>by
  obtain ⟨g,hg,rfl⟩:=List.mem_map.mp ht
  exact (hok g hg).2
 rw [a3l] at zg
 have hva:∀ x ∈ a1f (.app wd ks :: trms gs),x ∈ xs:=fun x hx=>by
  rw [a1f,vars] at hx
  rcases List.mem_append.mp hx with z | z
  ·exact hvx x z
  ·exact b6p hfit x z
 have hu6:=ord6 hx6 hva
 obtain ⟨ub,hub⟩:=c7m wd ks (trms gs)
 have hgv:=c2v (gs:=gs) (u:=ordL (.app wd ks :: trms gs) []) (fun x hx=>b0k (by rw [a1f]; exact List.mem_append.mpr (.inr hx)))
 have hrd:=c7n wd ks gs ub hub
 have hln:(ordL (.app wd ks :: trms gs) []).length = (ordL ks []).length + ub.length:=by rw [hub,List.length_append]
 have ha0:(ordL [.app wd ks] []).length = (ordL ks []).length:=by rw [ordL,ordL,ord]
 generalize hu:ordL (.app wd ks :: trms gs) [] = u at hu6 hub hgv hrd hln
 walk_at "stp"
 refine b6b (SqL.of hpg) fun p1 hp1=>?_
 have sp1:=a0f hp1 (.tup ug)
 have kp1:(upd H p1 (.tup ug)) p1 = some (.tup ug):=a0d
 generalize upd H p1 (.tup ug) = H1 at sp1 kp1 ⊢
 walk_at "stp"
 refine ⟨ln (by show 2<=100000; decide),fun p2 hp2=>?_⟩
 have sp2:Same H1 (upd H1 p2 (.tup [v,.ref p1])):=a0f hp2 _
 have kp2:(upd H1 p2 (.tup [v,.ref p1])) p2 = some (.tup [v,.ref p1]):=a0d
 generalize upd H1 p2 (.tup [v,.ref p1]) = H2 at sp2 kp2 ⊢
 walk_at "stp"
 have s02:=sp1.trans sp2
 refine ⟨v,p1,wd,ks,ug,gs,SqT.of kp2,hv.mono s02,SqT.of (sp2 _ _ kp1),hdg.mono s02,hg6,hok,by omega,fun pf pr ns H3 s3 k3 kr d3=>?_⟩
 rw [hu] at k3 d3
 rw [hrd] at d3
 have s03:=s02.trans s3
 have hS:∀ ks' ∈ b1d u ks (ordL ks []).length ub.length gs,a4x ks':=fun ks' h=>by
  unfold b1d at h
  rcases List.mem_append.mp h with z | z
  ·obtain ⟨r,_,rfl⟩:=List.mem_map.mp z
   exact rw_ok r
  ·by_cases hg:gs = []
   ·rw [if_pos hg] at z
    rw [List.mem_singleton.mp z]; exact ok_1 c2q
   ·rw [if_neg hg] at z
    exact c2r (c1g true gs) ks' z
 have hL:(b1d u ks (ordL ks []).length ub.length gs).length<=1000:=by
  unfold b1d
  rw [List.length_append,List.length_map,b4c]
  have:=c2u (ix u) true (ordL ks []).length ub.length gs hok
  split
  ·simp only [List.length_cons,List.length_nil]; omega
  ·omega
 have hnl:=d3.length
 rw [List.length_map] at hnl
 walk_at "stp"
 refine ⟨ln (by show 1<=100000; decide),fun p4 hp4=>?_⟩
 have sp4:Same H3 (upd H3 p4 (.lst [v])):=a0f hp4 _
 have kp4:(upd H3 p4 (.lst [v])) p4 = some (.lst [v]):=a0d
 generalize upd H3 p4 (.lst [v]) = H4 at sp4 kp4 ⊢
 walk_at "stp"
 have s04:=s03.trans sp4
 refine b3e kp4 (s04 _ _ hpg) (ln (by show 1 + ug.length<=_; omega)) (fun p5 hp5=>?_)
 have sp5:=a0f hp5 (.lst ([v] ++ ug))
 have kp5:(upd H4 p5 (.lst ([v] ++ ug))) p5 = some (.lst (v :: ug)):=a0d
 generalize upd H4 p5 (.lst ([v] ++ ug)) = H5 at sp5 kp5 ⊢
 have s05:=s04.trans sp5
 walk_at "stp"
 refine ⟨v :: ug,.app wd ks :: trms gs,SqL.of kp5,.cons (hv.mono s05) (hdg.mono s05),by simp only [Trm.sizeL,Trm.size]; omega,fun pd H6 s6 kd=>?_⟩
 rw [hu] at kd
 have s06:=s05.trans s6
 have k6:=((sp4.trans sp5).trans s6) _ _ k3
 have r6:=((sp4.trans sp5).trans s6) _ _ kr
 have d6:=d3.mono ((sp4.trans sp5).trans s6)
 walk_at "stp"
 refine b9y (SqT.of k6) ?_
 walk_at "stp"
 refine iteF ?_
 walk_at "stp"
 refine a4y (SqT.of k6) ?_
 walk_at "stp"
 refine iteB (fun e=>absurd e (by simp)) (fun e=>?_)
 walk_at "stp"
 refine a0k (SqT.of k6) (v:=.int n) rfl ?_
 walk_at "stp"
 refine iteF ?_
 walk_at "stp"
 refine a0k (SqT.of k6) (v:=.int (u.length:Int)) rfl ?_
 walk_at "stp"
 refine iteF ?_
 walk_at "stp"
 refine a0k (SqT.of k6) (v:=.int n) rfl ?_
 walk_at "stp"
 refine iteB (fun e=>absurd e (by simp)) (fun e=>?_)
 walk_at "stp"
 refine a0k (SqT.of k6) (v:=.int (u.length:Int)) rfl ?_
 walk_at "stp"
 refine ⟨pd,_,rfl,kd,?_⟩
 rw [a2s]
 walk_at "stp"
 refine iteB (fun e=>absurd e (by simp)) (fun e=>?_)
 walk_at "stp"
 refine a0k (SqT.of k6) (v:=.ref pr) rfl ?_
 walk_at "stp"
 refine ⟨ns,_,SqL.of r6,d6,hS,by omega,fun H7 s7=>?_⟩
 have s07:=s06.trans s7
 have k7:=s7 _ _ k6
 have r7:=s7 _ _ r6
 have d7:=d6.mono s7
 have kd7:=s7 _ _ kd
 walk_at "stp"
 refine iteF ?_
 walk_at "stp"
 refine a0k (SqT.of k7) (v:=.ref pr) rfl ?_
 walk_at "stp"
 generalize hpre:(taL (ix u) ks 0 ks.length []).map rwK = pre
 have htl:∃ tl,b1d u ks (ordL ks []).length ub.length gs = pre ++ tl/\tl = if gs = [] then [a7e] else a3y (ix u) true (ordL ks []).length ub.length gs (a3g true gs):=⟨_,by unfold b1d; rw [hpre],rfl⟩
 obtain ⟨tl,htl,etl⟩:=htl
 have htag:∀ i (h:i < pre.length),∃ tag els,pre[i] = .inr tag :: els/\tag ∈ a4u:=fun i h=>by
  have hm:∀ ks' ∈ pre,∃ tag els,ks' = .inr tag :: els/\tag ∈ a4u:=fun ks' hk=>by
   rw [<- hpre] at hk
   obtain ⟨r,_,rfl⟩:=List.mem_map.mp hk
   exact rw_tag r
  exact hm _ (List.getElem_mem h)
 have hnext:∃ tag els,(pre ++ tl)[pre.length]? = some (.inr tag :: els)/\tag ∉ a4u:=by
  rw [List.getElem?_append_right (Nat.le_refl _),Nat.sub_self,etl]
  by_cases hg:gs = []
  ·rw [if_pos hg]; exact ⟨_,_,rfl,by decide +kernel⟩
  ·rw [if_neg hg]; exact ⟨_,_,rfl,by decide +kernel⟩
 rw [htl] at d7 hnl hL
 rw [List.length_append] at hnl hL
 refine a8a (fun c σ' J=>∃ (i:Nat),σ' = [some (.int n),some v,some (.ref pg),some (.ref pf),some (.ref pd),some (.ref pr),some (.int (i:Int))]/\i<=pre.length/\c = pre.length - i/\Same H7 J) pre.length ⟨0,rfl,Nat.zero_le _,rfl,Same.refl _⟩ (fun c σ' J R hP kT kF=>?_)
 obtain ⟨i,rfl,hi,ec,sJ⟩:=hP
 have dJ:=d7.mono sJ
 have rJ:=sJ _ _ r7
 obtain ⟨tag,els,eks,htg⟩:∃ tag els,(pre ++ tl)[i]? = some (.inr tag :: els)/\decide (tag ∈ a4u) = decide (i < pre.length):=by
  rcases Nat.lt_or_ge i pre.length with z | z
  ·obtain ⟨tag,els,e,h⟩:=htag i z
   exact ⟨tag,els,by rw [List.getElem?_append_left z,List.getElem?_eq_getElem z,e],by rw [decide_eq_true h,decide_eq_true z]⟩
  ·have z:i = pre.length:=by omega
   subst z
   obtain ⟨tag,els,e,h⟩:=hnext
   exact ⟨tag,els,e,by rw [decide_eq_false h,decide_eq_false (by omega)]⟩
 obtain ⟨ar,atr,ltr,sqr⟩:=b2b dJ eks
 walk_at "stp"
 refine a4h (SqL.of rJ) ?_
 walk_at "stp"
 refine iteB (fun e=>?_) (fun e=>absurd (of_decide_eq_false e) (by omega))
 walk_at "stp"
 refine a1p (SqL.of rJ) atr ?_
 walk_at "stp"
 refine a0k sqr (a5v tag els) ?_
 walk_at "stp"
 refine ⟨ln (by show 4<=100000; decide),fun q1 hq1=>?_⟩
 have sq1:Same J (upd J q1 (.tup [.str (Str.ofString "slot"),.str (Str.ofString "same"),.str (Str.ofString "num"),.str (Str.ofString "app")])):=a0f hq1 _
 have kq1:(upd J q1 (.tup [.str (Str.ofString "slot"),.str (Str.ofString "same"),.str (Str.ofString "num"),.str (Str.ofString "app")])) q1 = some (.tup [.str (Str.ofString "slot"),.str (Str.ofString "same"),.str (Str.ofString "num"),.str (Str.ofString "app")]):=a0d
 generalize upd J q1 (.tup [.str (Str.ofString "slot"),.str (Str.ofString "same"),.str (Str.ofString "num"),.str (Str.ofString "app")]) = J1 at sq1 kq1 ⊢
 walk_at "stp"
 refine a8x a4u (.inr (SqT.of kq1)) ?_
 rw [htg]
 have sJ1:=sJ.trans sq1
 rcases Nat.lt_or_ge i pre.length with z | z
 ·rw [decide_eq_true z]
  refine kT J1 (fun D' e3 e4 hnx hct=>?_)
  walk_at "stp"
  exact hnx _ _ (pre.length - (i + 1)) (by omega) ⟨i + 1,rfl,z,rfl,sJ1⟩
 have z:i = pre.length:=by omega
 subst z
 rw [decide_eq_false (by omega)]
 refine kF J1 ?_
 have s08:=s07.trans sJ1
 have d8:=d7.mono sJ1
 have r8:=sJ1 _ _ r7
 have kd8:=sJ1 _ _ kd7
 walk_at "stp"
 refine a4h (SqL.of (s08 _ _ hpg)) ?_
 walk_at "stp"
 by_cases hg:gs = []
 ·refine iteB (fun e=>?_) (fun e=>absurd (of_decide_eq_false (by simpa using e)) (by rw [hg] at hgl; simp at hgl; simp [hgl]))
  walk_at "stp"
  refine ⟨pr,ns,rfl,SqL.of r8,fun p9 hp9=>?_⟩
  rw [b0p ns pre.length (by omega)]
  have s9:=a0f hp9 (.lst (ns.drop pre.length))
  have k9:(upd J1 p9 (.lst (ns.drop pre.length))) p9 = some (.lst (ns.drop pre.length)):=a0d
  generalize upd J1 p9 (.lst (ns.drop pre.length)) = J9 at s9 k9 ⊢
  have dE:DenL K J1 (ns.drop pre.length) ([a7e].map rowD):=by
   have:=d8.drop pre.length
   rw [List.map_append] at this
   have e:List.drop pre.length (List.map rowD pre ++ List.map rowD tl) = List.map rowD tl:=List.drop_left' (by rw [List.length_map])
   rw [e,etl,if_pos hg] at this
   exact this
  walk_at "stp"
  refine ⟨ln (by show 1<=100000; decide),fun q7 hq7=>?_⟩
  have sq7:Same J9 (upd J9 q7 (.tup [.str (Str.ofString "back")])):=a0f hq7 _
  have kq7:(upd J9 q7 (.tup [.str (Str.ofString "back")])) q7 = some (.tup [.str (Str.ofString "back")]):=a0d
  generalize upd J9 q7 (.tup [.str (Str.ofString "back")]) = J10 at sq7 kq7 ⊢
  walk_at "stp"
  refine ⟨ln (by show 1<=100000; decide),fun q8 hq8=>?_⟩
  have sq8:Same J10 (upd J10 q8 (.lst [.ref q7])):=a0f hq8 _
  have kq8:(upd J10 q8 (.lst [.ref q7])) q8 = some (.lst [.ref q7]):=a0d
  generalize upd J10 q8 (.lst [.ref q7]) = J11 at sq8 kq8 ⊢
  have s78:=sq7.trans sq8
  refine ⟨p9,q8,_,_,[rowD a7e],rfl,rfl,.inr ⟨SqL.of (s78 _ _ k9),SqL.of kq8⟩,dE.mono (s9.trans s78),.cons (b2a (ks:=a7e) (SqT.of (sq8 _ _ kq7))) .nil,by simp [rowD,a7e,keyD,PyData.depthAll,PyData.depth],?_⟩
  exact q _ (s08.trans (s9.trans s78))
 ·have hug:ug ≠ []:=fun z=>hg (List.eq_nil_of_length_eq_zero (by rw [<- hgl,z]; rfl))
  refine iteB (fun e=>absurd (of_decide_eq_true (by simpa using e)) hug) (fun e=>?_)
  rw [etl,if_neg hg] at d8
  walk_at "stp"
  refine ⟨ln (by show 1<=100000; decide),fun q7 hq7=>?_⟩
  have sq7:Same J1 (upd J1 q7 (.lst [v])):=a0f hq7 _
  have kq7:(upd J1 q7 (.lst [v])) q7 = some (.lst [v]):=a0d
  generalize upd J1 q7 (.lst [v]) = J9 at sq7 kq7 ⊢
  walk_at "stp"
  refine ⟨[v],[.app wd ks],SqL.of kq7,.cons (hv.mono (s08.trans sq7)) .nil,by simp only [Trm.sizeL,Trm.size]; omega,fun pe J10 s10 ke=>?_⟩
  have s9A:=sq7.trans s10
  refine ⟨pe,_,rfl,ke,?_⟩
  rw [a2s,ha0]
  walk_at "stp"
  refine ⟨ns,pre,ug,gs,u,(ordL ks []).length,ub.length,s9A _ _ r8,d8.mono s9A,rfl,s9A _ _ (s08 _ _ hpg),hdg.mono (s08.trans s9A),s9A _ _ kd8,rfl,hln,by omega,hg6,fun g hg'=>fits_of (hfit g hg') (hgv g hg'),by omega,fun _=>hg,fun J12 s12=>?_⟩
  exact q _ (s08.trans (s9A.trans s12))
theorem b2u (T:Txt K mg t) (G_question_code:FnOk P w K mg base CX0 66 t.a_question_code t.d_question_code ["goals"] (a5n K)) (G_l_slots:FnOk P w K mg base CX0 1 t.a_l_slots t.d_l_slots ["_law_terms"] (a8k K)) (G_l_body_right:FnOk P w K mg base CX0 64 t.a_l_body_right t.d_l_body_right ["_law_rows","_law_at","_law_goals","_law_slots_here","_law_head_slots","_law_is_rule"] (a4r K)) (G_l_rows_are:FnOk P w K mg base CX0 4 t.a_l_rows_are t.d_l_rows_are ["_law_rows"] (a5s K)) (G_l_whole:FnOk P w K mg base CX0 1 t.a_l_whole t.d_l_whole ["_law_found"] (a5h)):FnOk P w K mg base CX0 67 t.a_l_question_right t.d_l_question_right ["_law_goals"] (a4l K):=by
 refine T.F_l_question_right.ok a4k (fun vs H Q E h=>?_) (fun cdv A outer s H vs Q E hr h=>?_)
 ·unfold a4l at h
  split at h
  ·rfl
  ·exact h.elim
 unfold a4l at h
 split at h
 rotate_left
 ·exact h.elim
 refine ⟨_,(a0e (a0r (i:=1) (hs:=a1x) a4k.nd rfl (by walk_at "or1") (a3e (b6x K rfl) rfl T.n_list boot_list (a0a (mv 0) a0c))) (a0e (a0r (i:=2) (hs:=a1x) a4k.nd rfl (by walk_at "or1") (a0u G_question_code (hr.mono (by walk_at "rm1")) rfl T.m_question_code T.F_question_code.kp T.b_question_code .nil a0s (a0a (mv 1) a0c))) (a0e (a0r (i:=3) (hs:=a1x) a4k.nd rfl (by walk_at "or1") (a0u G_l_slots (hr.mono (by walk_at "rm1")) rfl T.m_l_slots T.F_l_slots.kp T.b_l_slots .nil a0s (a0a (mv 0) a0c))) (a0e (a1b (PW.pt (a2v (a2w (a2j K rfl (a0t (b0s K rfl) rfl T.n_isinstance boot_isinstance (a0a (mv 2) (a0a (a9e rfl T.n_tuple boot_tuple) a0c))))) (a2v (a0q a9r (a0t (a1r K rfl) rfl T.n_len PySem.boot_len (a0a (mv 2) a0c)) a0b (a0o _)) (a2v (a2w (a2j K rfl (a0u G_l_whole (hr.mono (by walk_at "rm1")) rfl T.m_l_whole T.F_l_whole.kp T.b_l_whole .nil a0s (a0a (a0l (a0h K rfl) (mv 2) a0b (fun _ _=>rfl)) a0c)))) (a4m (a2w (a2j K rfl (a0u G_l_whole (hr.mono (by walk_at "rm1")) rfl T.m_l_whole T.F_l_whole.kp T.b_l_whole .nil a0s (a0a (a0l (a0h K rfl) (mv 2) a0b (fun _ _=>rfl)) a0c))))))))) (a0g (a0p a3r)) a0x) (a0e (a1b (PW.pt (a2v (a0q (b6a K rfl (a7z hr)) (mv 1) (mv 0) (a0o _)) (a2v (a0q a9r (a0l (a0h K rfl) (mv 2) a0b (fun _ _=>rfl)) a0b (a0o _)) (a4m (a0q a9r (a0l (a0h K rfl) (mv 2) a0b (fun _ _=>rfl)) (a0t a5b rfl T.n_len PySem.boot_len (a0a (mv 3) a0c)) (a0o _)))))) (a0g (a0p a3r)) a0x) (a0e (a1b (a2w (a2j K rfl (a0u G_l_rows_are (hr.mono (by walk_at "rm1")) rfl T.m_l_rows_are T.F_l_rows_are.kp T.b_l_rows_are .nil a0s (a0a (a0l (a0h K rfl) (mv 2) a0b (fun _ _=>rfl)) a0c)))) (a0g (a0p a3r)) a0x) (a0g (a0p (a0u G_l_body_right (hr.mono (by walk_at "rm1")) rfl T.m_l_body_right T.F_l_body_right.kp T.b_l_body_right .nil a0s (a0a (a0l (a0h K rfl) (mv 2) a0b (fun _ _=>rfl)) (a0a a0b (a0a (mv 0) (a0a (mv 3) (a0a a0b (a0a a3r a0c))))))))))))))),?_⟩
 rename_i pg
 obtain ⟨ug,gs,xs,hpg,hdg,hg6,hfit,hx6,q⟩:=h
 have hgl:=a1y hdg
 rw [a3l] at hgl
 have hok:∀ g ∈ gs,g.ok/\g.trm.size<=30:=fun g hg=>⟨(hfit g hg).1,(hfit g hg).2.1⟩
 have zg:=b0o (n:=30) (trms gs) fun t ht=>by
  obtain ⟨g,hg,rfl⟩:=List.mem_map.mp ht
  exact (hok g hg).2
 rw [a3l] at zg
 have hu6:=ord6 hx6 (b6p hfit)
 have hgv:=c2v (gs:=gs) (u:=ordL (trms gs) []) (fun x hx=>b0k hx)
 have hrd:=c9x gs
 generalize hu:ordL (trms gs) [] = u at hu6 hgv hrd
 walk_at "stp"
 refine ⟨pg,ug,rfl,.inl (SqL.of hpg),fun p1 hp1=>?_⟩
 have sp1:=a0f hp1 (.lst ug)
 have kp1:(upd H p1 (.lst ug)) p1 = some (.lst ug):=a0d
 generalize upd H p1 (.lst ug) = H1 at sp1 kp1 ⊢
 walk_at "stp"
 refine ⟨ug,gs,SqL.of kp1,hdg.mono sp1,hg6,hok,fun pf pr ns H3 s3 k3 kr d3=>?_⟩
 rw [hu] at k3 d3
 rw [hrd] at d3
 have s03:=sp1.trans s3
 have hS:∀ ks' ∈ a3y (ix u) false 0 u.length gs (a3g false gs),a4x ks':=c2r (c1g false gs)
 have hL:=c2u (ix u) false 0 u.length gs hok
 have hnl:=d3.length
 rw [List.length_map] at hnl
 walk_at "stp"
 refine ⟨ug,trms gs,SqL.of (s03 _ _ hpg),hdg.mono s03,by omega,fun pd H6 s6 kd=>?_⟩
 rw [hu] at kd
 have s06:=s03.trans s6
 have k6:=s6 _ _ k3
 have r6:=s6 _ _ kr
 have d6:=d3.mono s6
 walk_at "stp"
 refine b9y (SqT.of k6) ?_
 walk_at "stp"
 refine iteF ?_
 walk_at "stp"
 refine a4y (SqT.of k6) ?_
 walk_at "stp"
 refine iteB (fun e=>absurd e (by simp)) (fun e=>?_)
 walk_at "stp"
 refine a0k (SqT.of k6) (v:=.int 0) rfl ?_
 walk_at "stp"
 refine iteF ?_
 walk_at "stp"
 refine a0k (SqT.of k6) (v:=.int (u.length:Int)) rfl ?_
 walk_at "stp"
 refine iteF ?_
 walk_at "stp"
 refine ⟨p1,pg,ug,ug,_,rfl,rfl,.inr ⟨SqL.of ((s3.trans s6) _ _ kp1),SqL.of (s06 _ _ hpg)⟩,hdg.mono s06,hdg.mono s06,by have:=b3o (trms gs) (fun t ht=>by obtain ⟨g,hg,rfl⟩:=List.mem_map.mp ht; have:=(hok g hg).2; omega); omega,?_⟩
 walk_at "stp"
 refine iteF ?_
 walk_at "stp"
 refine a0k (SqT.of k6) (v:=.int 0) rfl ?_
 walk_at "stp"
 refine iteB (fun e=>absurd e (by simp)) (fun e=>?_)
 walk_at "stp"
 refine a0k (SqT.of k6) (v:=.int (u.length:Int)) rfl ?_
 walk_at "stp"
 refine ⟨pd,_,rfl,kd,?_⟩
 rw [a2s]
 walk_at "stp"
 refine iteB (fun e=>absurd e (by simp)) (fun e=>?_)
 walk_at "stp"
 refine a0k (SqT.of k6) (v:=.ref pr) rfl ?_
 walk_at "stp"
 refine ⟨ns,_,SqL.of r6,d6,hS,by omega,fun H7 s7=>?_⟩
 have s07:=s06.trans s7
 have k7:=s7 _ _ k6
 have r7:=s7 _ _ r6
 have d7:=d6.mono s7
 have kd7:=s7 _ _ kd
 walk_at "stp"
 refine iteF ?_
 walk_at "stp"
 refine a0k (SqT.of k7) (v:=.ref pr) rfl ?_
 walk_at "stp"
 refine ⟨ns,[],ug,gs,u,0,u.length,r7,d7,rfl,s07 _ _ hpg,hdg.mono s07,kd7,rfl,by omega,by omega,hg6,fun g hg'=>fits_of (hfit g hg') (hgv g hg'),by omega,(fun z=>by cases z),fun J12 s12=>?_⟩
 exact q _ (s07.trans s12)
end
section
variable {P:Program} {w:World} {K:W.Frag} {mg:Str->Option Value} {base:Heap} {t:Ad}
theorem cut_1 (xs:List V):cutV xs (some 1) none = xs.drop 1:=by
 cases xs with
 | nil=>rfl
 | cons x r=>exact b0p (x :: r) 1 (by simp)
theorem cut_t1 (xs:List V):cutV xs none (some 1) = xs.take 1:=by
 cases xs with
 | nil=>rfl
 | cons x r=>
  unfold cutV HT.sIx
  simp
theorem c4e (ts:List Trm) (n:Nat):Trm.dataL (ts.drop n) = (Trm.dataL ts).drop n:=by rw [Trm.dataL_map,Trm.dataL_map,List.map_drop]
theorem c4f (ts:List Trm) (n:Nat):Trm.dataL (ts.take n) = (Trm.dataL ts).take n:=by rw [Trm.dataL_map,Trm.dataL_map,List.map_take]
theorem c7o (gs:List Go) (n:Nat):Trm.dataL (trms (gs.drop n)) = (Trm.dataL (trms gs)).drop n:=by rw [<- c4e]; unfold trms; rw [List.map_drop]
theorem c7p (gs:List Go) (n:Nat):Trm.dataL (trms (gs.take n)) = (Trm.dataL (trms gs)).take n:=by rw [<- c4f]; unfold trms; rw [List.map_take]
theorem ok_law (T:Txt K mg t) (G_l_cells:FnOk P w K mg base CX0 1 t.a_l_cells t.d_l_cells ["_law_script","_law_many"] (a8f K)) (G_l_words:FnOk P w K mg base CX0 2 t.a_l_words t.d_l_words ["_law_cell","_law_at"] (a9x)) (G_l_names:FnOk P w K mg base CX0 2 t.a_l_names t.d_l_names ["_law_cell"] (a9y)) (G_l_kids:FnOk P w K mg base CX0 89 t.a_l_kids t.d_l_kids ["_law_left","_law_many","_law_room","_law_words_here"] (a6q K 23)) (G_l_rule_right:FnOk P w K mg base CX0 67 t.a_l_rule_right t.d_l_rule_right ["_law_number_here","_law_head","_law_goals"] (a5w K)) (G_l_question_right:FnOk P w K mg base CX0 67 t.a_l_question_right t.d_l_question_right ["_law_goals"] (a4l K)) (G_l_goal:FnOk P w K mg base CX0 91 t.a_l_goal t.d_l_goal ["_law_left","_law_words_here"] (b1b K)):FnOk P w K mg base CX0 95 t.a_law t.d_law ["_law_script"] (b2c K):=by
 refine T.F_law.ok a9k (fun vs H Q E h=>?_) (fun cdv A outer s H vs Q E hr h=>?_)
 ·unfold b2c at h
  split at h
  ·rfl
  ·exact h.elim
 unfold b2c at h
 split at h
 rotate_left
 ·exact h.elim
 refine ⟨_,(a0e (a0r (i:=1) (hs:=a1x) a9k.nd rfl (by walk_at "or1") (a0u G_l_cells (hr.mono (by walk_at "rm1")) rfl T.m_l_cells T.F_l_cells.kp T.b_l_cells .nil a0s (a0a (mv 0) (a0a a0b a0c)))) (a0e (a0r (i:=2) (hs:=b3g) a9k.nd rfl (by walk_at "or1") (a2x (a0a (a0u G_l_words (hr.mono (by walk_at "rm1")) rfl T.m_l_words T.F_l_words.kp T.b_l_words .nil a0s (a0a (a0l (a0h K rfl) (mv 1) a0b (fun _ _=>rfl)) (a0a (a0l (a0h K rfl) (mv 1) a0b (fun _ _=>rfl)) a0c))) (a0a (a0u G_l_names (hr.mono (by walk_at "rm1")) rfl T.m_l_names T.F_l_names.kp T.b_l_names .nil a0s (a0a (a0l (a0h K rfl) (mv 1) a0b (fun _ _=>rfl)) a0c)) a0c)))) (a0e (c2e (i:=3) a9k.nd rfl (by walk_at "or1") rfl (a4n rfl T.n_range (a0a a0b a0c)) (a8t (a0j b0v) ["_law_script","_law_cells_here","_law_words_here","_law_left","_law_goals","_law_k","_law_head","_law_number_here"] ["_law_script","_law_cells_here","_law_words_here","_law_left","_law_goals","%_law_k","_law_head","_law_number_here"] rfl rfl (by decide +kernel)) (fun _ _ _ _ _=>a8s) (fun _ _ _ _ _=>(a0l (a0h K rfl) (mv 2) (a0m a5p a0b (mv 0)) (fun _ _=>rfl)))) (a0e (a0r (i:=4) (hs:=b3g) a9k.nd rfl (by walk_at "or1") (a2x a0c)) (a0e (a3n PassesOwn.never rfl (a4n rfl T.n_range (a0a (a0m a1l (a0l (a0h K rfl) (mv 1) a0b (fun _ _=>rfl)) a0b) a0c)) (a2d (i:=5) a9k.nd rfl (by walk_at "or1")) (a0g (a1e (a9s K rfl F.plainAttrs_list F.slot_list_append F.type_list_append a7x (mv 4) (a0a (a0u G_l_goal (hr.mono (by walk_at "rm1")) rfl T.m_l_goal T.F_l_goal.kp T.b_l_goal .nil a0s (a0a (mv 3) (a0a (mv 2) a0c))) a0c))))) (a0e (a0r (i:=6) (hs:=c5v) a9k.nd rfl (by walk_at "or1") (a0z (a0a a0i (a0a (a0l (a0h K rfl) (a0l (a0h K rfl) (mv 2) a0b (fun _ _=>rfl)) a0b (fun _ _=>rfl)) (a0a (a0u G_l_kids (hr.mono (by walk_at "rm1")) rfl T.m_l_kids T.F_l_kids.kp T.b_l_kids .nil a0s (a0a (mv 3) (a0a (a0m a1l (a0l (a0h K rfl) (mv 1) a0b (fun _ _=>rfl)) a0b) (a0a (a0m (a1d K rfl) a0b (a0m a6y (a0m a1l (a0m a2q (a0l (a0h K rfl) (mv 1) a0b (fun _ _=>rfl)) a0b) a0b) a0b)) (a0a (mv 2) a0c))))) a0c))))) (a0e (a0r (i:=7) (hs:=a2o) a9k.nd rfl (by walk_at "or1") (a0m (a1d K rfl) a0b (a0m a1l (a0m a2q (a0l (a0h K rfl) (mv 1) a0b (fun _ _=>rfl)) a0b) a0b))) (a0e (a1b (PW.pt (a2v (a2w (a2j K rfl (a0u G_l_rule_right (hr.mono (by walk_at "rm1")) rfl T.m_l_rule_right T.F_l_rule_right.kp T.b_l_rule_right .nil a0s (a0a (mv 7) (a0a (mv 6) (a0a (mv 4) a0c)))))) (a4m (a2w (a2j K rfl (a0u G_l_question_right (hr.mono (by walk_at "rm1")) rfl T.m_l_question_right T.F_l_question_right.kp T.b_l_question_right .nil a0s (a0a (mv 4) a0c))))))) (a0g (a0p a3r)) a0x) (a0g (a0p (a6c (a0u G_l_rule_right (hr.mono (by walk_at "rm1")) rfl T.m_l_rule_right T.F_l_rule_right.kp T.b_l_rule_right .nil a0s (a0a (mv 7) (a0a (mv 6) (a0a (a6b (a8u K rfl) (mv 4) (a7w a0b) a7v) a0c)))) (a6c (a0u G_l_question_right (hr.mono (by walk_at "rm1")) rfl T.m_l_question_right T.F_l_question_right.kp T.b_l_question_right .nil a0s (a0a (a6b (a8u K rfl) (mv 4) a7v (a7w a0b)) a0c)) (a5z (a0u G_l_question_right (hr.mono (by walk_at "rm1")) rfl T.m_l_question_right T.F_l_question_right.kp T.b_l_question_right .nil a0s (a0a (a2x a0c) a0c))))))))))))))),?_⟩
 rename_i a
 obtain ⟨ns,hS,hn,q⟩:=h
 walk_at "stp"
 refine ⟨ns,hS,hn,by decide,by decide,fun pc cs H1 hl s1 hc=>?_⟩
 have hcl:cs.length = 110:=hl
 have cx:∀ j:Int,0<=j->j < 110->∃ x:Int,atI (cs.map V.int) j = some (.int x):=fun j h0 h1=>c9m h0 (by rw [hcl]; exact h1)
 obtain ⟨c0,hc0⟩:=cx 0 (by decide) (by decide)
 obtain ⟨c1,hc1⟩:=cx 1 (by decide) (by decide)
 obtain ⟨c2,hc2⟩:=cx 2 (by decide) (by decide)
 obtain ⟨c3,hc3⟩:=cx 3 (by decide) (by decide)
 obtain ⟨c4,hc4⟩:=cx 4 (by decide) (by decide)
 walk_at "stp"
 refine a1p (SqL.of hc) hc0 ?_
 walk_at "stp"
 refine a1p (SqL.of hc) hc1 ?_
 walk_at "stp"
 refine fun pw ws H2 hwl hwo s2 hw=>?_
 have hcB:=s2 _ _ hc
 walk_at "stp"
 refine a1p (SqL.of hcB) hc4 ?_
 walk_at "stp"
 refine fun pn xs H3 hxl s3 hx=>?_
 walk_at "stp"
 refine ⟨ln (by show 2<=100000; decide),fun pq hpq=>?_⟩
 have spq:Same H3 (upd H3 pq (.lst [.ref pw,.ref pn])):=a0f hpq _
 have kpq:(upd H3 pq (.lst [.ref pw,.ref pn])) pq = some (.lst [.ref pw,.ref pn]):=a0d
 generalize upd H3 pq (.lst [.ref pw,.ref pn]) = H4 at spq kpq ⊢
 walk_at "stp"
 have wd:Wd H4 pq pw pn ws xs:=⟨kpq,spq _ _ (s3 _ _ hw),spq _ _ hx,hwl,hxl⟩
 have hcC:=spq _ _ (s3 _ _ hcB)
 refine ⟨105,rfl,by decide,by decide,fun D hD=>?_⟩
 refine a7h (a3p 0 (105:Int).toNat) (fun i ys H'=>Same H4 H'/\(∃ zs:List Int,ys = zs.map V.int)/\H' D = some (.lst ys)) (ln (by decide)) ⟨a0f hD _,⟨[],rfl⟩,a0d⟩ (fun _ _ _ _=>trivial) (fun i ys H' Q' hi' hl' hP k=>?_) (fun ys H5 hl' hP=>?_)
 ·obtain ⟨g1,⟨zs,g2⟩,g3⟩:=hP
  have hi':i < 105:=hi'
  walk_at "stp"
  obtain ⟨x,hx'⟩:=cx (109 - (0 + (i:Int))) (by omega) (by omega)
  refine a1p (SqL.of (g1 _ _ hcC)) hx' ?_
  exact k _ _ g3 ⟨a2k g1 hD,⟨zs ++ [x],by rw [g2,List.map_append]; rfl⟩,a0d⟩
 obtain ⟨g1,⟨zs,rfl⟩,g3⟩:=hP
 have wd5:=wd.same g1
 have hc5:=g1 _ _ hcC
 have nDc:D ≠ pc:=fun z=>by subst z; rw [hcC] at hD; cases hD
 walk_at "stp"
 refine ⟨ln (by show 0<=100000; decide),fun pg hpg=>?_⟩
 have s7:=a0f hpg (.lst [])
 have k7:(upd H5 pg (.lst [])) pg = some (.lst []):=a0d
 have n1:pg ≠ D:=fun z=>by subst z; rw [g3] at hpg; cases hpg
 have n2:pg ≠ pc:=fun z=>by subst z; rw [hc5] at hpg; cases hpg
 have n3:pg ≠ pq:=fun z=>by subst z; rw [wd5.l] at hpg; cases hpg
 have n4:pg ≠ pw:=fun z=>by subst z; rw [wd5.w] at hpg; cases hpg
 have n5:pg ≠ pn:=fun z=>by subst z; rw [wd5.x] at hpg; cases hpg
 generalize upd H5 pg (.lst []) = H7 at s7 k7 ⊢
 walk_at "stp"
 refine a1p (SqL.of (s7 _ _ hc5)) hc2 ?_
 walk_at "stp"
 have b5:=Int.emod_nonneg c2 (show (7:Int) ≠ 0 by decide)
 have b6:=Int.emod_lt_of_pos c2 (show (0:Int) < 7 by decide)
 refine ⟨c2 % 7,rfl,by omega,by omega,?_⟩
 refine a4f (a3p 0 (c2 % 7).toNat) (fun i σ' J=>∃ (o5:Option V) (us:List V) (gs:List Go) (ns':List Int),σ' = [some (.ref a),some (.ref pc),some (.ref pq),some (.ref D),some (.ref pg),o5,none,none]/\J pg = some (.lst us)/\DenL K J us (Trm.dataL (trms gs))/\gs.length = i/\(∀ g ∈ gs,g.fit xs)/\J D = some (.lst (ns'.map V.int))/\J pc = some (.lst (cs.map V.int))/\Wd J pq pw pn ws xs) ⟨none,[],[],zs,rfl,k7,.nil,rfl,fun t ht=>by simp at ht,s7 _ _ g3,s7 _ _ hc5,wd5.same s7⟩ (fun _ _ _ _=>trivial) (fun i σ' J hi hP=>?_) (fun σ' J hP=>?_)
 ·obtain ⟨o5,us,gs,ns',rfl,j1,j2,j3,j4,j5,j6,j7⟩:=hP
  have hgl:=a1y j2
  rw [a3l] at hgl
  walk_at "stp"
  refine ⟨.inl ⟨rfl,_,SqL.of j1⟩,?_⟩
  walk_at "stp"
  refine ⟨ns',pw,pn,ws,xs,j7,j5,hwo,fun r J2 g ns2 B2 F2 k2 d2 fit=>?_⟩
  have jg:=B2 _ _ n1 j1
  walk_at "stp"
  refine a7y jg (ln1 (by omega)) ?_
  have bb:=a3d (p:=pg) (H:=J2) (o:=.lst (us ++ [.ref r]))
  have w2:=j7.but j5 B2
  refine ⟨_,us ++ [.ref r],gs ++ [g],ns2,rfl,a0d,?_,by rw [List.length_append,j3]; rfl,fun t ht=>?_,bb _ _ (Ne.symm n1) k2,bb _ _ (Ne.symm n2) (B2 _ _ (Ne.symm nDc) j6),⟨bb _ _ (Ne.symm n3) w2.l,bb _ _ (Ne.symm n4) w2.w,bb _ _ (Ne.symm n5) w2.x,w2.wl,w2.xl⟩⟩
  ·rw [trms,List.map_append,a6o]
   exact ((B2.denL j5 j2).append (.cons d2 .nil)).lst jg
  ·rcases List.mem_append.mp ht with z | z
   ·exact j4 t z
   ·rw [List.mem_singleton.mp z]; exact fit
 obtain ⟨o5,us,gs,ns',rfl,j1,j2,j3,j4,j5,j6,j7⟩:=hP
 have hgl:=a1y j2
 rw [a3l] at hgl
 have hg6:gs.length<=6:=by omega
 have b1:=Int.emod_nonneg c3 (show (5:Int) ≠ 0 by decide)
 have b2:=Int.emod_lt_of_pos c3 (show (0:Int) < 5 by decide)
 have b3:=Int.emod_nonneg (c3 / 5) (show (4:Int) ≠ 0 by decide)
 have b4:=Int.emod_lt_of_pos (c3 / 5) (show (0:Int) < 4 by decide)
 have hw1:atI (ws.map V.str) 1 = some (.str ws[1]):=by
  have:=b1j (us:=ws.map V.str) (i:=1) (by rw [List.length_map]; omega)
  rw [List.getElem_map] at this
  exact this
 walk_at "stp"
 refine a1p (SqL.of j7.l) (v:=.ref pw) rfl ?_
 walk_at "stp"
 refine a1p (SqL.of j7.w) hw1 ?_
 walk_at "stp"
 refine a1p (SqL.of j6) hc3 ?_
 walk_at "stp"
 refine a1p (SqL.of j6) hc3 ?_
 walk_at "stp"
 refine a6e (a4d (by decide)) ?_
 walk_at "stp"
 refine ⟨ns',pw,pn,ws,xs,j7,j5,b1,by omega,by omega,by omega,by omega,fun r us2 J2 ks ns2 B2 F2 k2 kr d2 l2 z2 a2 v2=>?_⟩
 walk_at "stp"
 refine ⟨ln (by show 3<=100000; decide),fun ph hph=>?_⟩
 have sph:Same J2 (upd J2 ph (.tup [.str (Str.ofString "app"),.str ws[1],.ref r])):=a0f hph _
 have kph:(upd J2 ph (.tup [.str (Str.ofString "app"),.str ws[1],.ref r])) ph = some (.tup [.str (Str.ofString "app"),.str ws[1],.ref r]):=a0d
 generalize upd J2 ph (.tup [.str (Str.ofString "app"),.str ws[1],.ref r]) = J3 at sph kph ⊢
 walk_at "stp"
 have dh:Den K J3 (.ref ph) (Trm.app ws[1] ks).data:=a8b (SqT.of kph) (SqT.of (sph _ _ kr)) (d2.mono sph)
 have hg3:=sph _ _ (B2 _ _ n1 j1)
 have dg3:DenL K J3 us (Trm.dataL (trms gs)):=(B2.denL j5 j2).mono sph
 have hc3':=sph _ _ (B2 _ _ (Ne.symm nDc) j6)
 walk_at "stp"
 refine a1p (SqL.of hc3') hc3 ?_
 walk_at "stp"
 refine ⟨ws[1],ks,us,gs,xs,dh,by omega,v2,hg3,dg3,hg6,j4,hxl,fun J4 s4=>?_⟩
 walk_at "stp"
 refine iteF ?_
 walk_at "stp"
 refine ⟨us,gs,xs,s4 _ _ hg3,dg3.mono s4,hg6,j4,hxl,fun J5 s5=>?_⟩
 have s05:=s4.trans s5
 walk_at "stp"
 refine iteF ?_
 walk_at "stp"
 refine ⟨pg,us,rfl,SqL.of (s05 _ _ hg3),fun p6 hp6=>?_⟩
 rw [cut_1]
 have s6:=a0f hp6 (.lst (us.drop 1))
 have k6:(upd J5 p6 (.lst (us.drop 1))) p6 = some (.lst (us.drop 1)):=a0d
 generalize upd J5 p6 (.lst (us.drop 1)) = J6 at s6 k6 ⊢
 have s06:=s05.trans s6
 walk_at "stp"
 refine ⟨ws[1],ks,us.drop 1,gs.drop 1,xs,dh.mono s06,by omega,v2,k6,by rw [c7o]; exact (dg3.mono s06).drop 1,by rw [List.length_drop]; omega,fun g hg=>j4 g (List.mem_of_mem_drop hg),hxl,fun J7 s7=>?_⟩
 have s07:=s06.trans s7
 walk_at "stp"
 refine iteT ?_
 walk_at "stp"
 refine ⟨pg,us,rfl,SqL.of (s07 _ _ hg3),fun p8 hp8=>?_⟩
 rw [cut_t1]
 have s8:=a0f hp8 (.lst (us.take 1))
 have k8:(upd J7 p8 (.lst (us.take 1))) p8 = some (.lst (us.take 1)):=a0d
 generalize upd J7 p8 (.lst (us.take 1)) = J8 at s8 k8 ⊢
 have s08:=s07.trans s8
 walk_at "stp"
 refine ⟨us.take 1,gs.take 1,xs,k8,by rw [c7p]; exact (dg3.mono s08).take 1,by rw [List.length_take]; omega,fun g hg=>j4 g (List.mem_of_mem_take hg),hxl,fun J9 s9=>?_⟩
 walk_at "stp"
 refine iteT ?_
 walk_at "stp"
 refine ⟨ln (by show 0<=100000; decide),fun p9 hp9=>?_⟩
 walk_at "stp"
 refine ⟨[],[],xs,a0d,.nil,by decide,fun g hg=>by simp at hg,hxl,fun JA sA=>?_⟩
 exact q _
end
section
variable {P:Program} {w:World} {K:W.Frag} {mg:Str->Option Value} {base:Heap} {t:Ad}
theorem ok_all (T:Txt K mg t) (D:KD P w K t.c_MARK_ROWS (a8h t)):FnOk P w K mg base CX0 95 t.a_law t.d_law ["_law_script"] (b2c K):=by
 have h_Writing_write:=b5a (P:=P) (w:=w) (base:=base) T
 have h_Writing_give_cells:=b1r (P:=P) (w:=w) (base:=base) T
 have h_is_inner:=c1s (P:=P) (w:=w) (base:=base) T
 have h_unknowns_of:=b7f (P:=P) (w:=w) (base:=base) T
 have h_l_whole:=c3v (P:=P) (w:=w) (base:=base) T
 have h_l_cells:=c3w (P:=P) (w:=w) (base:=base) T
 have h_l_next:=c6u (P:=P) (w:=w) (base:=base) T
 have h_l_word:=c6x (P:=P) (w:=w) (base:=base) T
 have h_l_number:=c1u (P:=P) (w:=w) (base:=base) T
 have h_l_name:=c6y (P:=P) (w:=w) (base:=base) T
 have h_l_mark:=c6v (P:=P) (w:=w) (base:=base) T
 have h_l_slots:=c4b (P:=P) (w:=w) (base:=base) T
 have h_l_taken:=c4d (P:=P) (w:=w) (base:=base) T
 have h_l_is_named:=b8m (P:=P) (w:=w) (base:=base) T
 have h_Writing_init:=b6j T h_unknowns_of
 have h_Writing_write_frame:=b1h T h_Writing_write
 have h_is_called:=c0r T h_is_inner
 have h_l_words:=c3z T h_l_word
 have h_l_names:=c4a T h_l_name
 have h_l_sign:=c6w T h_l_mark
 have h_l_brought:=c1d T h_l_taken
 have h_l_done:=c7f T h_l_taken
 have h_is_word:=c3s T h_is_called
 have h_is_named:=c1t T h_is_word
 have h_l_rows_are:=b8l T h_l_whole
 have h_l_parts:=c3y (P:=P) (w:=w) (base:=base) T  41
 have h_Writing_take_apart:=b1u T h_Writing_write h_Writing_give_cells 60
 have h_Writing_bring:=b5d T h_Writing_write h_Writing_give_cells 60
 have h_l_by_slots:=b8k (P:=P) (w:=w) (base:=base) T  60
 have h_Writing_write_head:=b1v T h_Writing_give_cells h_Writing_take_apart
 have h_Writing_write_goal:=b1w T D h_is_named h_Writing_bring h_Writing_write
 have h_l_body_right:=b6n T h_l_is_named h_l_brought h_l_done h_l_by_slots
 have h_rule_code:=c0w T h_Writing_init h_Writing_write_head h_Writing_write_frame h_Writing_write_goal h_Writing_write h_is_named
 have h_question_code:=b5e T h_Writing_init h_Writing_write_frame h_Writing_write h_Writing_write_goal
 have h_l_rule_right:=b6q T h_rule_code h_l_slots h_l_body_right h_l_whole h_l_rows_are
 have h_l_question_right:=b2u T h_question_code h_l_slots h_l_body_right h_l_rows_are h_l_whole
 have hm:=ok_mut T h_l_parts h_l_next h_l_number h_l_sign 23
 have h_l_term:=hm.1
 have h_l_kids:=hm.2
 have h_l_goal:=c7a T h_l_next h_l_kids
 exact ok_law T h_l_cells h_l_words h_l_names h_l_kids h_l_rule_right h_l_question_right h_l_goal
end
theorem txt_mk {w0:World} {K:W.Frag} {h:Heap} {mg:Str->Option Value} (X:K.In h) (G:h.Ns mainGlobals mg)
  {k_Writing:Addr}
  {t_NOT:Tok}
  {t_KEEP:Tok}
  {c_MARK_ROWS:Addr}
  {nd_MARK_ROWS:Nat} {tk_MARK_ROWS_0 tw_MARK_ROWS_0:Tok} {tk_MARK_ROWS_1 tw_MARK_ROWS_1:Tok} {tk_MARK_ROWS_2 tw_MARK_ROWS_2:Tok} {tk_MARK_ROWS_3 tw_MARK_ROWS_3:Tok}
  {t_SMALL:Tok}
  {t_GREAT:Tok}
  {t_FIGURES:Tok}
  {t_MOST_LETTERS:Tok}
  (ac_Writing:W.nsIn K mainGlobals "Writing" = some (some (.ref k_Writing)))
  (pg_Writing:W.plainGet K k_Writing Str.empty = true)
  (hd_Writing:W.hasDictIn K k_Writing = true)
  (po_Writing:W.plainOver K k_Writing = true)
  (sa_Writing:W.findIn K (.ref k_Writing) "__setattr__" = some (some (.builtin "object.__setattr__")))
  (na_Writing_slots:W.findIn K (.ref k_Writing) "slots" = some none)
  (na_Writing_met:W.findIn K (.ref k_Writing) "met" = some none)
  (na_Writing_cells:W.findIn K (.ref k_Writing) "cells" = some none)
  (na_Writing_rows:W.findIn K (.ref k_Writing) "rows" = some none)
  (mk_Writing:W.makesIn K k_Writing = true)
  (in_Writing:W.findIn K (.ref k_Writing) "__init__" = some (some (.ref f0)))
  (kc_Writing:W.keepIn K (.ref k_Writing) = true)
  (am_Writing_write:W.findIn K (.ref k_Writing) "write" = some (some (.ref f1)))
  (am_Writing_give_cells:W.findIn K (.ref k_Writing) "give_cells" = some (some (.ref f2)))
  (am_Writing_write_head:W.findIn K (.ref k_Writing) "write_head" = some (some (.ref f3)))
  (am_Writing_take_apart:W.findIn K (.ref k_Writing) "take_apart" = some (some (.ref f4)))
  (am_Writing_write_frame:W.findIn K (.ref k_Writing) "write_frame" = some (some (.ref f5)))
  (am_Writing_bring:W.findIn K (.ref k_Writing) "bring" = some (some (.ref f6)))
  (am_Writing_write_goal:W.findIn K (.ref k_Writing) "write_goal" = some (some (.ref f7)))
  (l0:K.lookup f0 = some ⟨oc0,od0,.func (W.fnOf "__init__" "Writing.__init__" (a0w a3i) (a0v a3i) (a0j a3i) .none kV0 dc0 pm0 an0 cd0 ct0),sl0⟩)
  (c0:W.codeIn K cd0 "Writing.__init__" = true)
  (k0:W.keepIn K (.ref f0) = true)
  (fn0:W.typeIn K (.ref f0) = some (.type "function"))
  (l1:K.lookup f1 = some ⟨oc1,od1,.func (W.fnOf "write" "Writing.write" (a0w a2z) (a0v a2z) (a0j a2z) .none kV1 dc1 pm1 an1 cd1 ct1),sl1⟩)
  (c1:W.codeIn K cd1 "Writing.write" = true)
  (k1:W.keepIn K (.ref f1) = true)
  (fn1:W.typeIn K (.ref f1) = some (.type "function"))
  (l2:K.lookup f2 = some ⟨oc2,od2,.func (W.fnOf "give_cells" "Writing.give_cells" (a0w a1z) (a0v a1z) (a0j a1z) .none kV2 dc2 pm2 an2 cd2 ct2),sl2⟩)
  (c2:W.codeIn K cd2 "Writing.give_cells" = true)
  (k2:W.keepIn K (.ref f2) = true)
  (fn2:W.typeIn K (.ref f2) = some (.type "function"))
  (l3:K.lookup f3 = some ⟨oc3,od3,.func (W.fnOf "write_head" "Writing.write_head" (a0w a2a) (a0v a2a) (a0j a2a) .none kV3 dc3 pm3 an3 cd3 ct3),sl3⟩)
  (c3:W.codeIn K cd3 "Writing.write_head" = true)
  (k3:W.keepIn K (.ref f3) = true)
  (fn3:W.typeIn K (.ref f3) = some (.type "function"))
  (l4:K.lookup f4 = some ⟨oc4,od4,.func (W.fnOf "take_apart" "Writing.take_apart" (a0w a2b) (a0v a2b) (a0j a2b) .none kV4 dc4 pm4 an4 cd4 ct4),sl4⟩)
  (c4:W.codeIn K cd4 "Writing.take_apart" = true)
  (k4:W.keepIn K (.ref f4) = true)
  (fn4:W.typeIn K (.ref f4) = some (.type "function"))
  (l5:K.lookup f5 = some ⟨oc5,od5,.func (W.fnOf "write_frame" "Writing.write_frame" (a0w a1v) (a0v a1v) (a0j a1v) .none kV5 dc5 pm5 an5 cd5 ct5),sl5⟩)
  (c5:W.codeIn K cd5 "Writing.write_frame" = true)
  (k5:W.keepIn K (.ref f5) = true)
  (fn5:W.typeIn K (.ref f5) = some (.type "function"))
  (l6:K.lookup f6 = some ⟨oc6,od6,.func (W.fnOf "bring" "Writing.bring" (a0w a3a) (a0v a3a) (a0j a3a) .none kV6 dc6 pm6 an6 cd6 ct6),sl6⟩)
  (c6:W.codeIn K cd6 "Writing.bring" = true)
  (k6:W.keepIn K (.ref f6) = true)
  (fn6:W.typeIn K (.ref f6) = some (.type "function"))
  (l7:K.lookup f7 = some ⟨oc7,od7,.func (W.fnOf "write_goal" "Writing.write_goal" (a0w a2c) (a0v a2c) (a0j a2c) .none kV7 dc7 pm7 an7 cd7 ct7),sl7⟩)
  (c7:W.codeIn K cd7 "Writing.write_goal" = true)
  (k7:W.keepIn K (.ref f7) = true)
  (fn7:W.typeIn K (.ref f7) = some (.type "function"))
  (a8:W.nsIn K mainGlobals "is_inner" = some (some (.ref f8)))
  (l8:K.lookup f8 = some ⟨oc8,od8,.func (W.fnOf "is_inner" "is_inner" (a0w a5i) (a0v a5i) (a0j a5i) .none kV8 dc8 pm8 an8 cd8 ct8),sl8⟩)
  (c8:W.codeIn K cd8 "is_inner" = true)
  (k8:W.keepIn K (.ref f8) = true)
  (a9:W.nsIn K mainGlobals "is_called" = some (some (.ref f9)))
  (l9:K.lookup f9 = some ⟨oc9,od9,.func (W.fnOf "is_called" "is_called" (a0w a4e) (a0v a4e) (a0j a4e) .none kV9 dc9 pm9 an9 cd9 ct9),sl9⟩)
  (c9:W.codeIn K cd9 "is_called" = true)
  (k9:W.keepIn K (.ref f9) = true)
  (a10:W.nsIn K mainGlobals "is_word" = some (some (.ref f10)))
  (l10:K.lookup f10 = some ⟨oc10,od10,.func (W.fnOf "is_word" "is_word" (a0w a6i) (a0v a6i) (a0j a6i) .none kV10 dc10 pm10 an10 cd10 ct10),sl10⟩)
  (c10:W.codeIn K cd10 "is_word" = true)
  (k10:W.keepIn K (.ref f10) = true)
  (a11:W.nsIn K mainGlobals "unknowns_of" = some (some (.ref f11)))
  (l11:K.lookup f11 = some ⟨oc11,od11,.func (W.fnOf "unknowns_of" "unknowns_of" (a0w a3z) (a0v a3z) (a0j a3z) .none kV11 dc11 pm11 an11 cd11 ct11),sl11⟩)
  (c11:W.codeIn K cd11 "unknowns_of" = true)
  (k11:W.keepIn K (.ref f11) = true)
  (a12:W.nsIn K mainGlobals "is_named" = some (some (.ref f12)))
  (l12:K.lookup f12 = some ⟨oc12,od12,.func (W.fnOf "is_named" "is_named" (a0w a5j) (a0v a5j) (a0j a5j) .none kV12 dc12 pm12 an12 cd12 ct12),sl12⟩)
  (c12:W.codeIn K cd12 "is_named" = true)
  (k12:W.keepIn K (.ref f12) = true)
  (a13:W.nsIn K mainGlobals "rule_code" = some (some (.ref f13)))
  (l13:K.lookup f13 = some ⟨oc13,od13,.func (W.fnOf "rule_code" "rule_code" (a0w a4s) (a0v a4s) (a0j a4s) .none kV13 dc13 pm13 an13 cd13 ct13),sl13⟩)
  (c13:W.codeIn K cd13 "rule_code" = true)
  (k13:W.keepIn K (.ref f13) = true)
  (a14:W.nsIn K mainGlobals "question_code" = some (some (.ref f14)))
  (l14:K.lookup f14 = some ⟨oc14,od14,.func (W.fnOf "question_code" "question_code" (a0w a3b) (a0v a3b) (a0j a3b) .none kV14 dc14 pm14 an14 cd14 ct14),sl14⟩)
  (c14:W.codeIn K cd14 "question_code" = true)
  (k14:W.keepIn K (.ref f14) = true)
  (a15:W.nsIn K mainGlobals "_law_whole" = some (some (.ref f15)))
  (l15:K.lookup f15 = some ⟨oc15,od15,.func (W.fnOf "_law_whole" "_law_whole" (a0w a6j) (a0v a6j) (a0j a6j) .none kV15 dc15 pm15 an15 cd15 ct15),sl15⟩)
  (c15:W.codeIn K cd15 "_law_whole" = true)
  (k15:W.keepIn K (.ref f15) = true)
  (a16:W.nsIn K mainGlobals "_law_cells" = some (some (.ref f16)))
  (l16:K.lookup f16 = some ⟨oc16,od16,.func (W.fnOf "_law_cells" "_law_cells" (a0w a6k) (a0v a6k) (a0j a6k) .none kV16 dc16 pm16 an16 cd16 ct16),sl16⟩)
  (c16:W.codeIn K cd16 "_law_cells" = true)
  (k16:W.keepIn K (.ref f16) = true)
  (a17:W.nsIn K mainGlobals "_law_next" = some (some (.ref f17)))
  (l17:K.lookup f17 = some ⟨oc17,od17,.func (W.fnOf "_law_next" "_law_next" (a0w a7k) (a0v a7k) (a0j a7k) .none kV17 dc17 pm17 an17 cd17 ct17),sl17⟩)
  (c17:W.codeIn K cd17 "_law_next" = true)
  (k17:W.keepIn K (.ref f17) = true)
  (a18:W.nsIn K mainGlobals "_law_word" = some (some (.ref f18)))
  (l18:K.lookup f18 = some ⟨oc18,od18,.func (W.fnOf "_law_word" "_law_word" (a0w a7l) (a0v a7l) (a0j a7l) .none kV18 dc18 pm18 an18 cd18 ct18),sl18⟩)
  (c18:W.codeIn K cd18 "_law_word" = true)
  (k18:W.keepIn K (.ref f18) = true)
  (a19:W.nsIn K mainGlobals "_law_words" = some (some (.ref f19)))
  (l19:K.lookup f19 = some ⟨oc19,od19,.func (W.fnOf "_law_words" "_law_words" (a0w a5c) (a0v a5c) (a0j a5c) .none kV19 dc19 pm19 an19 cd19 ct19),sl19⟩)
  (c19:W.codeIn K cd19 "_law_words" = true)
  (k19:W.keepIn K (.ref f19) = true)
  (a20:W.nsIn K mainGlobals "_law_number" = some (some (.ref f20)))
  (l20:K.lookup f20 = some ⟨oc20,od20,.func (W.fnOf "_law_number" "_law_number" (a0w a5k) (a0v a5k) (a0j a5k) .none kV20 dc20 pm20 an20 cd20 ct20),sl20⟩)
  (c20:W.codeIn K cd20 "_law_number" = true)
  (k20:W.keepIn K (.ref f20) = true)
  (a21:W.nsIn K mainGlobals "_law_parts" = some (some (.ref f21)))
  (l21:K.lookup f21 = some ⟨oc21,od21,.func (W.fnOf "_law_parts" "_law_parts" (a0w a5d) (a0v a5d) (a0j a5d) .none kV21 dc21 pm21 an21 cd21 ct21),sl21⟩)
  (c21:W.codeIn K cd21 "_law_parts" = true)
  (k21:W.keepIn K (.ref f21) = true)
  (a22:W.nsIn K mainGlobals "_law_name" = some (some (.ref f22)))
  (l22:K.lookup f22 = some ⟨oc22,od22,.func (W.fnOf "_law_name" "_law_name" (a0w a7m) (a0v a7m) (a0j a7m) .none kV22 dc22 pm22 an22 cd22 ct22),sl22⟩)
  (c22:W.codeIn K cd22 "_law_name" = true)
  (k22:W.keepIn K (.ref f22) = true)
  (a23:W.nsIn K mainGlobals "_law_names" = some (some (.ref f23)))
  (l23:K.lookup f23 = some ⟨oc23,od23,.func (W.fnOf "_law_names" "_law_names" (a0w a5e) (a0v a5e) (a0j a5e) .none kV23 dc23 pm23 an23 cd23 ct23),sl23⟩)
  (c23:W.codeIn K cd23 "_law_names" = true)
  (k23:W.keepIn K (.ref f23) = true)
  (a24:W.nsIn K mainGlobals "_law_mark" = some (some (.ref f24)))
  (l24:K.lookup f24 = some ⟨oc24,od24,.func (W.fnOf "_law_mark" "_law_mark" (a0w a7n) (a0v a7n) (a0j a7n) .none kV24 dc24 pm24 an24 cd24 ct24),sl24⟩)
  (c24:W.codeIn K cd24 "_law_mark" = true)
  (k24:W.keepIn K (.ref f24) = true)
  (a25:W.nsIn K mainGlobals "_law_sign" = some (some (.ref f25)))
  (l25:K.lookup f25 = some ⟨oc25,od25,.func (W.fnOf "_law_sign" "_law_sign" (a0w a7o) (a0v a7o) (a0j a7o) .none kV25 dc25 pm25 an25 cd25 ct25),sl25⟩)
  (c25:W.codeIn K cd25 "_law_sign" = true)
  (k25:W.keepIn K (.ref f25) = true)
  (a26:W.nsIn K mainGlobals "_law_kids" = some (some (.ref f26)))
  (l26:K.lookup f26 = some ⟨oc26,od26,.func (W.fnOf "_law_kids" "_law_kids" (a0w a7p) (a0v a7p) (a0j a7p) .none kV26 dc26 pm26 an26 cd26 ct26),sl26⟩)
  (c26:W.codeIn K cd26 "_law_kids" = true)
  (k26:W.keepIn K (.ref f26) = true)
  (a27:W.nsIn K mainGlobals "_law_term" = some (some (.ref f27)))
  (l27:K.lookup f27 = some ⟨oc27,od27,.func (W.fnOf "_law_term" "_law_term" (a0w a7q) (a0v a7q) (a0j a7q) .none kV27 dc27 pm27 an27 cd27 ct27),sl27⟩)
  (c27:W.codeIn K cd27 "_law_term" = true)
  (k27:W.keepIn K (.ref f27) = true)
  (a28:W.nsIn K mainGlobals "_law_goal" = some (some (.ref f28)))
  (l28:K.lookup f28 = some ⟨oc28,od28,.func (W.fnOf "_law_goal" "_law_goal" (a0w a7r) (a0v a7r) (a0j a7r) .none kV28 dc28 pm28 an28 cd28 ct28),sl28⟩)
  (c28:W.codeIn K cd28 "_law_goal" = true)
  (k28:W.keepIn K (.ref f28) = true)
  (a29:W.nsIn K mainGlobals "_law_slots" = some (some (.ref f29)))
  (l29:K.lookup f29 = some ⟨oc29,od29,.func (W.fnOf "_law_slots" "_law_slots" (a0w a5f) (a0v a5f) (a0j a5f) .none kV29 dc29 pm29 an29 cd29 ct29),sl29⟩)
  (c29:W.codeIn K cd29 "_law_slots" = true)
  (k29:W.keepIn K (.ref f29) = true)
  (a30:W.nsIn K mainGlobals "_law_by_slots" = some (some (.ref f30)))
  (l30:K.lookup f30 = some ⟨oc30,od30,.func (W.fnOf "_law_by_slots" "_law_by_slots" (a0w a3q) (a0v a3q) (a0j a3q) .none kV30 dc30 pm30 an30 cd30 ct30),sl30⟩)
  (c30:W.codeIn K cd30 "_law_by_slots" = true)
  (k30:W.keepIn K (.ref f30) = true)
  (a31:W.nsIn K mainGlobals "_law_rows_are" = some (some (.ref f31)))
  (l31:K.lookup f31 = some ⟨oc31,od31,.func (W.fnOf "_law_rows_are" "_law_rows_are" (a0w a4i) (a0v a4i) (a0j a4i) .none kV31 dc31 pm31 an31 cd31 ct31),sl31⟩)
  (c31:W.codeIn K cd31 "_law_rows_are" = true)
  (k31:W.keepIn K (.ref f31) = true)
  (a32:W.nsIn K mainGlobals "_law_taken" = some (some (.ref f32)))
  (l32:K.lookup f32 = some ⟨oc32,od32,.func (W.fnOf "_law_taken" "_law_taken" (a0w a6l) (a0v a6l) (a0j a6l) .none kV32 dc32 pm32 an32 cd32 ct32),sl32⟩)
  (c32:W.codeIn K cd32 "_law_taken" = true)
  (k32:W.keepIn K (.ref f32) = true)
  (a33:W.nsIn K mainGlobals "_law_brought" = some (some (.ref f33)))
  (l33:K.lookup f33 = some ⟨oc33,od33,.func (W.fnOf "_law_brought" "_law_brought" (a0w a4t) (a0v a4t) (a0j a4t) .none kV33 dc33 pm33 an33 cd33 ct33),sl33⟩)
  (c33:W.codeIn K cd33 "_law_brought" = true)
  (k33:W.keepIn K (.ref f33) = true)
  (a34:W.nsIn K mainGlobals "_law_done" = some (some (.ref f34)))
  (l34:K.lookup f34 = some ⟨oc34,od34,.func (W.fnOf "_law_done" "_law_done" (a0w a7s) (a0v a7s) (a0j a7s) .none kV34 dc34 pm34 an34 cd34 ct34),sl34⟩)
  (c34:W.codeIn K cd34 "_law_done" = true)
  (k34:W.keepIn K (.ref f34) = true)
  (a35:W.nsIn K mainGlobals "_law_is_named" = some (some (.ref f35)))
  (l35:K.lookup f35 = some ⟨oc35,od35,.func (W.fnOf "_law_is_named" "_law_is_named" (a0w a4j) (a0v a4j) (a0j a4j) .none kV35 dc35 pm35 an35 cd35 ct35),sl35⟩)
  (c35:W.codeIn K cd35 "_law_is_named" = true)
  (k35:W.keepIn K (.ref f35) = true)
  (a36:W.nsIn K mainGlobals "_law_body_right" = some (some (.ref f36)))
  (l36:K.lookup f36 = some ⟨oc36,od36,.func (W.fnOf "_law_body_right" "_law_body_right" (a0w a3j) (a0v a3j) (a0j a3j) .none kV36 dc36 pm36 an36 cd36 ct36),sl36⟩)
  (c36:W.codeIn K cd36 "_law_body_right" = true)
  (k36:W.keepIn K (.ref f36) = true)
  (a37:W.nsIn K mainGlobals "_law_rule_right" = some (some (.ref f37)))
  (l37:K.lookup f37 = some ⟨oc37,od37,.func (W.fnOf "_law_rule_right" "_law_rule_right" (a0w a3k) (a0v a3k) (a0j a3k) .none kV37 dc37 pm37 an37 cd37 ct37),sl37⟩)
  (c37:W.codeIn K cd37 "_law_rule_right" = true)
  (k37:W.keepIn K (.ref f37) = true)
  (a38:W.nsIn K mainGlobals "_law_question_right" = some (some (.ref f38)))
  (l38:K.lookup f38 = some ⟨oc38,od38,.func (W.fnOf "_law_question_right" "_law_question_right" (a0w a2l) (a0v a2l) (a0j a2l) .none kV38 dc38 pm38 an38 cd38 ct38),sl38⟩)
  (c38:W.codeIn K cd38 "_law_question_right" = true)
  (k38:W.keepIn K (.ref f38) = true)
  (a39:W.nsIn K mainGlobals "law" = some (some (.ref f39)))
  (l39:K.lookup f39 = some ⟨oc39,od39,.func (W.fnOf "law" "law" (a0w b0v) (a0v b0v) (a0j b0v) .none kV39 dc39 pm39 an39 cd39 ct39),sl39⟩)
  (c39:W.codeIn K cd39 "law" = true)
  (k39:W.keepIn K (.ref f39) = true)
  (z0:W.nsIn K mainGlobals "all" = some none)
  (z1:W.nsIn K mainGlobals "bool" = some none)
  (z2:W.nsIn K mainGlobals "enumerate" = some none)
  (z3:W.nsIn K mainGlobals "int" = some none)
  (z4:W.nsIn K mainGlobals "isinstance" = some none)
  (z5:W.nsIn K mainGlobals "len" = some none)
  (z6:W.nsIn K mainGlobals "list" = some none)
  (z7:W.nsIn K mainGlobals "min" = some none)
  (z8:W.nsIn K mainGlobals "range" = some none)
  (z9:W.nsIn K mainGlobals "reversed" = some none)
  (z10:W.nsIn K mainGlobals "sorted" = some none)
  (z11:W.nsIn K mainGlobals "str" = some none)
  (z12:W.nsIn K mainGlobals "sum" = some none)
  (z13:W.nsIn K mainGlobals "tuple" = some none)
  (y0:W.nsIn K mainGlobals "NOT" = some (some (.str (PySem.Str.ofString "not") t_NOT)))
  (y1:W.nsIn K mainGlobals "KEEP" = some (some (.str (PySem.Str.ofString "keep") t_KEEP)))
  (y2:W.nsIn K mainGlobals "MARK_ROWS" = some (some (.ref c_MARK_ROWS)))
  (dd_MARK_ROWS:K.lookup c_MARK_ROWS = some ⟨.type "dict",none,.dict (List.toArray [⟨PyData.keyHash w0.params (PySem.Str.ofString "="),.str (PySem.Str.ofString "=") tk_MARK_ROWS_0,.str (PySem.Str.ofString "equal") tw_MARK_ROWS_0⟩,⟨PyData.keyHash w0.params (PySem.Str.ofString ":="),.str (PySem.Str.ofString ":=") tk_MARK_ROWS_1,.str (PySem.Str.ofString "reckon") tw_MARK_ROWS_1⟩,⟨PyData.keyHash w0.params (PySem.Str.ofString "<"),.str (PySem.Str.ofString "<") tk_MARK_ROWS_2,.str (PySem.Str.ofString "less") tw_MARK_ROWS_2⟩,⟨PyData.keyHash w0.params (PySem.Str.ofString "<="),.str (PySem.Str.ofString "<=") tk_MARK_ROWS_3,.str (PySem.Str.ofString "atmost") tw_MARK_ROWS_3⟩]) nd_MARK_ROWS,#[]⟩)
  (ee_MARK_ROWS:(c_MARK_ROWS == sysModules) = false)
  (y3:W.nsIn K mainGlobals "SMALL" = some (some (.str (PySem.Str.ofString "abcdefghijklmnopqrstuvwxyz") t_SMALL)))
  (y4:W.nsIn K mainGlobals "GREAT" = some (some (.str (PySem.Str.ofString "ABCDEFGHIJKLMNOPQRSTUVWXYZ") t_GREAT)))
  (y5:W.nsIn K mainGlobals "FIGURES" = some (some (.str (PySem.Str.ofString "0123456789") t_FIGURES)))
  (y6:W.nsIn K mainGlobals "MOST_LETTERS" = some (some (.int 12 t_MOST_LETTERS)))
  : ∃ t:Ad,Txt K mg t/\(∀ P:Program,KD P w0 K t.c_MARK_ROWS (a8h t))/\∀ (s:Shared) (u:Value),BindsTo s t.d_law ⟨[u],[]⟩ [("_law_script",u)]:=by
 have F0:=a1c (st:=a3i) l0 c0 k0
 have F1:=a1c (st:=a2z) l1 c1 k1
 have F2:=a1c (st:=a1z) l2 c2 k2
 have F3:=a1c (st:=a2a) l3 c3 k3
 have F4:=a1c (st:=a2b) l4 c4 k4
 have F5:=a1c (st:=a1v) l5 c5 k5
 have F6:=a1c (st:=a3a) l6 c6 k6
 have F7:=a1c (st:=a2c) l7 c7 k7
 have F8:=a1c (st:=a5i) l8 c8 k8
 have F9:=a1c (st:=a4e) l9 c9 k9
 have F10:=a1c (st:=a6i) l10 c10 k10
 have F11:=a1c (st:=a3z) l11 c11 k11
 have F12:=a1c (st:=a5j) l12 c12 k12
 have F13:=a1c (st:=a4s) l13 c13 k13
 have F14:=a1c (st:=a3b) l14 c14 k14
 have F15:=a1c (st:=a6j) l15 c15 k15
 have F16:=a1c (st:=a6k) l16 c16 k16
 have F17:=a1c (st:=a7k) l17 c17 k17
 have F18:=a1c (st:=a7l) l18 c18 k18
 have F19:=a1c (st:=a5c) l19 c19 k19
 have F20:=a1c (st:=a5k) l20 c20 k20
 have F21:=a1c (st:=a5d) l21 c21 k21
 have F22:=a1c (st:=a7m) l22 c22 k22
 have F23:=a1c (st:=a5e) l23 c23 k23
 have F24:=a1c (st:=a7n) l24 c24 k24
 have F25:=a1c (st:=a7o) l25 c25 k25
 have F26:=a1c (st:=a7p) l26 c26 k26
 have F27:=a1c (st:=a7q) l27 c27 k27
 have F28:=a1c (st:=a7r) l28 c28 k28
 have F29:=a1c (st:=a5f) l29 c29 k29
 have F30:=a1c (st:=a3q) l30 c30 k30
 have F31:=a1c (st:=a4i) l31 c31 k31
 have F32:=a1c (st:=a6l) l32 c32 k32
 have F33:=a1c (st:=a4t) l33 c33 k33
 have F34:=a1c (st:=a7s) l34 c34 k34
 have F35:=a1c (st:=a4j) l35 c35 k35
 have F36:=a1c (st:=a3j) l36 c36 k36
 have F37:=a1c (st:=a3k) l37 c37 k37
 have F38:=a1c (st:=a2l) l38 c38 k38
 have F39:=a1c (st:=b0v) l39 c39 k39
 exact ⟨⟨k_Writing,f0,_,f1,_,f2,_,f3,_,f4,_,f5,_,f6,_,f7,_,f8,_,f9,_,f10,_,f11,_,f12,_,f13,_,f14,_,f15,_,f16,_,f17,_,f18,_,f19,_,f20,_,f21,_,f22,_,f23,_,f24,_,f25,_,f26,_,f27,_,f28,_,f29,_,f30,_,f31,_,f32,_,f33,_,f34,_,f35,_,f36,_,f37,_,f38,_,f39,_,t_NOT,t_KEEP,c_MARK_ROWS,t_SMALL,t_GREAT,t_FIGURES,t_MOST_LETTERS⟩,⟨W.mg_of X G ac_Writing,
  ⟨pg_Writing,hd_Writing,po_Writing,sa_Writing⟩,
  na_Writing_slots,
  na_Writing_met,
  na_Writing_cells,
  na_Writing_rows,
  ⟨mk_Writing,in_Writing,beq_iff_eq.mpr fn0,kc_Writing⟩,
  ⟨am_Writing_write,beq_iff_eq.mpr fn1,k1⟩,
  ⟨am_Writing_give_cells,beq_iff_eq.mpr fn2,k2⟩,
  ⟨am_Writing_write_head,beq_iff_eq.mpr fn3,k3⟩,
  ⟨am_Writing_take_apart,beq_iff_eq.mpr fn4,k4⟩,
  ⟨am_Writing_write_frame,beq_iff_eq.mpr fn5,k5⟩,
  ⟨am_Writing_bring,beq_iff_eq.mpr fn6,k6⟩,
  ⟨am_Writing_write_goal,beq_iff_eq.mpr fn7,k7⟩,
  F0,
  F0.binds (ps:=["self","terms"]) (fun _ _ _ _ _ _ us hl=>L2.us2 (P:=fun us=>bindArgs _ ⟨us,[]⟩ = pure ((["self","terms"]:List Str).zip us)) hl fun _ _=>rfl),
  F1,
  F1.binds (ps:=["self","row"]) (fun _ _ _ _ _ _ us hl=>L2.us2 (P:=fun us=>bindArgs _ ⟨us,[]⟩ = pure ((["self","row"]:List Str).zip us)) hl fun _ _=>rfl),
  F2,
  F2.binds (ps:=["self","many"]) (fun _ _ _ _ _ _ us hl=>L2.us2 (P:=fun us=>bindArgs _ ⟨us,[]⟩ = pure ((["self","many"]:List Str).zip us)) hl fun _ _=>rfl),
  F3,
  F3.binds (ps:=["self","head"]) (fun _ _ _ _ _ _ us hl=>L2.us2 (P:=fun us=>bindArgs _ ⟨us,[]⟩ = pure ((["self","head"]:List Str).zip us)) hl fun _ _=>rfl),
  F4,
  F4.binds (ps:=["self","cell","term"]) (fun _ _ _ _ _ _ us hl=>L2.us3 (P:=fun us=>bindArgs _ ⟨us,[]⟩ = pure ((["self","cell","term"]:List Str).zip us)) hl fun _ _ _=>rfl),
  F5,
  F5.binds (ps:=["self"]) (fun _ _ _ _ _ _ us hl=>L2.us1 (P:=fun us=>bindArgs _ ⟨us,[]⟩ = pure ((["self"]:List Str).zip us)) hl fun _=>rfl),
  F6,
  F6.binds (ps:=["self","cell","term"]) (fun _ _ _ _ _ _ us hl=>L2.us3 (P:=fun us=>bindArgs _ ⟨us,[]⟩ = pure ((["self","cell","term"]:List Str).zip us)) hl fun _ _ _=>rfl),
  F7,
  F7.binds (ps:=["self","goal","call"]) (fun _ _ _ _ _ _ us hl=>L2.us3 (P:=fun us=>bindArgs _ ⟨us,[]⟩ = pure ((["self","goal","call"]:List Str).zip us)) hl fun _ _ _=>rfl),
  F8,
  F8.binds (ps:=["sign"]) (fun _ _ _ _ _ _ us hl=>L2.us1 (P:=fun us=>bindArgs _ ⟨us,[]⟩ = pure ((["sign"]:List Str).zip us)) hl fun _=>rfl),
  W.mg_of X G a8,
  F9,
  F9.binds (ps:=["text","firsts"]) (fun _ _ _ _ _ _ us hl=>L2.us2 (P:=fun us=>bindArgs _ ⟨us,[]⟩ = pure ((["text","firsts"]:List Str).zip us)) hl fun _ _=>rfl),
  W.mg_of X G a9,
  F10,
  F10.binds (ps:=["text"]) (fun _ _ _ _ _ _ us hl=>L2.us1 (P:=fun us=>bindArgs _ ⟨us,[]⟩ = pure ((["text"]:List Str).zip us)) hl fun _=>rfl),
  W.mg_of X G a10,
  F11,
  F11.binds (ps:=["terms"]) (fun _ _ _ _ _ _ us hl=>L2.us1 (P:=fun us=>bindArgs _ ⟨us,[]⟩ = pure ((["terms"]:List Str).zip us)) hl fun _=>rfl),
  W.mg_of X G a11,
  F12,
  F12.binds (ps:=["term"]) (fun _ _ _ _ _ _ us hl=>L2.us1 (P:=fun us=>bindArgs _ ⟨us,[]⟩ = pure ((["term"]:List Str).zip us)) hl fun _=>rfl),
  W.mg_of X G a12,
  F13,
  F13.binds (ps:=["number","rule"]) (fun _ _ _ _ _ _ us hl=>L2.us2 (P:=fun us=>bindArgs _ ⟨us,[]⟩ = pure ((["number","rule"]:List Str).zip us)) hl fun _ _=>rfl),
  W.mg_of X G a13,
  F14,
  F14.binds (ps:=["goals"]) (fun _ _ _ _ _ _ us hl=>L2.us1 (P:=fun us=>bindArgs _ ⟨us,[]⟩ = pure ((["goals"]:List Str).zip us)) hl fun _=>rfl),
  W.mg_of X G a14,
  F15,
  F15.binds (ps:=["_law_found"]) (fun _ _ _ _ _ _ us hl=>L2.us1 (P:=fun us=>bindArgs _ ⟨us,[]⟩ = pure ((["_law_found"]:List Str).zip us)) hl fun _=>rfl),
  W.mg_of X G a15,
  F16,
  F16.binds (ps:=["_law_script","_law_many"]) (fun _ _ _ _ _ _ us hl=>L2.us2 (P:=fun us=>bindArgs _ ⟨us,[]⟩ = pure ((["_law_script","_law_many"]:List Str).zip us)) hl fun _ _=>rfl),
  W.mg_of X G a16,
  F17,
  F17.binds (ps:=["_law_left"]) (fun _ _ _ _ _ _ us hl=>L2.us1 (P:=fun us=>bindArgs _ ⟨us,[]⟩ = pure ((["_law_left"]:List Str).zip us)) hl fun _=>rfl),
  W.mg_of X G a17,
  F18,
  F18.binds (ps:=["_law_cell","_law_at","_law_k"]) (fun _ _ _ _ _ _ us hl=>L2.us3 (P:=fun us=>bindArgs _ ⟨us,[]⟩ = pure ((["_law_cell","_law_at","_law_k"]:List Str).zip us)) hl fun _ _ _=>rfl),
  W.mg_of X G a18,
  F19,
  F19.binds (ps:=["_law_cell","_law_at"]) (fun _ _ _ _ _ _ us hl=>L2.us2 (P:=fun us=>bindArgs _ ⟨us,[]⟩ = pure ((["_law_cell","_law_at"]:List Str).zip us)) hl fun _ _=>rfl),
  W.mg_of X G a19,
  F20,
  F20.binds (ps:=["_law_cell"]) (fun _ _ _ _ _ _ us hl=>L2.us1 (P:=fun us=>bindArgs _ ⟨us,[]⟩ = pure ((["_law_cell"]:List Str).zip us)) hl fun _=>rfl),
  W.mg_of X G a20,
  F21,
  F21.binds (ps:=["_law_term_here"]) (fun _ _ _ _ _ _ us hl=>L2.us1 (P:=fun us=>bindArgs _ ⟨us,[]⟩ = pure ((["_law_term_here"]:List Str).zip us)) hl fun _=>rfl),
  W.mg_of X G a21,
  F22,
  F22.binds (ps:=["_law_cell","_law_k"]) (fun _ _ _ _ _ _ us hl=>L2.us2 (P:=fun us=>bindArgs _ ⟨us,[]⟩ = pure ((["_law_cell","_law_k"]:List Str).zip us)) hl fun _ _=>rfl),
  W.mg_of X G a22,
  F23,
  F23.binds (ps:=["_law_cell"]) (fun _ _ _ _ _ _ us hl=>L2.us1 (P:=fun us=>bindArgs _ ⟨us,[]⟩ = pure ((["_law_cell"]:List Str).zip us)) hl fun _=>rfl),
  W.mg_of X G a23,
  F24,
  F24.binds (ps:=["_law_cell"]) (fun _ _ _ _ _ _ us hl=>L2.us1 (P:=fun us=>bindArgs _ ⟨us,[]⟩ = pure ((["_law_cell"]:List Str).zip us)) hl fun _=>rfl),
  W.mg_of X G a24,
  F25,
  F25.binds (ps:=["_law_cell","_law_many","_law_words_here"]) (fun _ _ _ _ _ _ us hl=>L2.us3 (P:=fun us=>bindArgs _ ⟨us,[]⟩ = pure ((["_law_cell","_law_many","_law_words_here"]:List Str).zip us)) hl fun _ _ _=>rfl),
  W.mg_of X G a25,
  F26,
  F26.binds (ps:=["_law_left","_law_many","_law_room","_law_words_here"]) (fun _ _ _ _ _ _ us hl=>L2.us4 (P:=fun us=>bindArgs _ ⟨us,[]⟩ = pure ((["_law_left","_law_many","_law_room","_law_words_here"]:List Str).zip us)) hl fun _ _ _ _=>rfl),
  W.mg_of X G a26,
  F27,
  F27.binds (ps:=["_law_left","_law_room","_law_words_here"]) (fun _ _ _ _ _ _ us hl=>L2.us3 (P:=fun us=>bindArgs _ ⟨us,[]⟩ = pure ((["_law_left","_law_room","_law_words_here"]:List Str).zip us)) hl fun _ _ _=>rfl),
  W.mg_of X G a27,
  F28,
  F28.binds (ps:=["_law_left","_law_words_here"]) (fun _ _ _ _ _ _ us hl=>L2.us2 (P:=fun us=>bindArgs _ ⟨us,[]⟩ = pure ((["_law_left","_law_words_here"]:List Str).zip us)) hl fun _ _=>rfl),
  W.mg_of X G a28,
  F29,
  F29.binds (ps:=["_law_terms"]) (fun _ _ _ _ _ _ us hl=>L2.us1 (P:=fun us=>bindArgs _ ⟨us,[]⟩ = pure ((["_law_terms"]:List Str).zip us)) hl fun _=>rfl),
  W.mg_of X G a29,
  F30,
  F30.binds (ps:=["_law_term_here","_law_slots_here"]) (fun _ _ _ _ _ _ us hl=>L2.us2 (P:=fun us=>bindArgs _ ⟨us,[]⟩ = pure ((["_law_term_here","_law_slots_here"]:List Str).zip us)) hl fun _ _=>rfl),
  W.mg_of X G a30,
  F31,
  F31.binds (ps:=["_law_rows"]) (fun _ _ _ _ _ _ us hl=>L2.us1 (P:=fun us=>bindArgs _ ⟨us,[]⟩ = pure ((["_law_rows"]:List Str).zip us)) hl fun _=>rfl),
  W.mg_of X G a31,
  F32,
  F32.binds (ps:=["_law_cells_here","_law_first","_law_many"]) (fun _ _ _ _ _ _ us hl=>L2.us3 (P:=fun us=>bindArgs _ ⟨us,[]⟩ = pure ((["_law_cells_here","_law_first","_law_many"]:List Str).zip us)) hl fun _ _ _=>rfl),
  W.mg_of X G a32,
  F33,
  F33.binds (ps:=["_law_rows","_law_at","_law_cells_here"]) (fun _ _ _ _ _ _ us hl=>L2.us3 (P:=fun us=>bindArgs _ ⟨us,[]⟩ = pure ((["_law_rows","_law_at","_law_cells_here"]:List Str).zip us)) hl fun _ _ _=>rfl),
  W.mg_of X G a33,
  F34,
  F34.binds (ps:=["_law_row","_law_cells_here"]) (fun _ _ _ _ _ _ us hl=>L2.us2 (P:=fun us=>bindArgs _ ⟨us,[]⟩ = pure ((["_law_row","_law_cells_here"]:List Str).zip us)) hl fun _ _=>rfl),
  W.mg_of X G a34,
  F35,
  F35.binds (ps:=["_law_goal_here"]) (fun _ _ _ _ _ _ us hl=>L2.us1 (P:=fun us=>bindArgs _ ⟨us,[]⟩ = pure ((["_law_goal_here"]:List Str).zip us)) hl fun _=>rfl),
  W.mg_of X G a35,
  F36,
  F36.binds (ps:=["_law_rows","_law_at","_law_goals","_law_slots_here","_law_head_slots","_law_is_rule"]) (fun _ _ _ _ _ _ us hl=>L2.us6 (P:=fun us=>bindArgs _ ⟨us,[]⟩ = pure ((["_law_rows","_law_at","_law_goals","_law_slots_here","_law_head_slots","_law_is_rule"]:List Str).zip us)) hl fun _ _ _ _ _ _=>rfl),
  W.mg_of X G a36,
  F37,
  F37.binds (ps:=["_law_number_here","_law_head","_law_goals"]) (fun _ _ _ _ _ _ us hl=>L2.us3 (P:=fun us=>bindArgs _ ⟨us,[]⟩ = pure ((["_law_number_here","_law_head","_law_goals"]:List Str).zip us)) hl fun _ _ _=>rfl),
  W.mg_of X G a37,
  F38,
  F38.binds (ps:=["_law_goals"]) (fun _ _ _ _ _ _ us hl=>L2.us1 (P:=fun us=>bindArgs _ ⟨us,[]⟩ = pure ((["_law_goals"]:List Str).zip us)) hl fun _=>rfl),
  W.mg_of X G a38,
  F39,
  F39.binds (ps:=["_law_script"]) (fun _ _ _ _ _ _ us hl=>L2.us1 (P:=fun us=>bindArgs _ ⟨us,[]⟩ = pure ((["_law_script"]:List Str).zip us)) hl fun _=>rfl),
  W.mg_of X G a39,
  W.mg_none_of X G z0,
  W.mg_none_of X G z1,
  W.mg_none_of X G z2,
  W.mg_none_of X G z3,
  W.mg_none_of X G z4,
  W.mg_none_of X G z5,
  W.mg_none_of X G z6,
  W.mg_none_of X G z7,
  W.mg_none_of X G z8,
  W.mg_none_of X G z9,
  W.mg_none_of X G z10,
  W.mg_none_of X G z11,
  W.mg_none_of X G z12,
  W.mg_none_of X G z13,
  W.mg_of X G y0,
  W.mg_of X G y1,
  W.mg_of X G y2,
  ee_MARK_ROWS,
  W.mg_of X G y3,
  W.mg_of X G y4,
  W.mg_of X G y5,
  W.mg_of X G y6⟩,fun P=>kd_of dd_MARK_ROWS (.cons ⟨_,rfl⟩ (.cons ⟨_,rfl⟩ (.cons ⟨_,rfl⟩ (.cons ⟨_,rfl⟩ .nil)))) b8h,fun s u=>.of_eq rfl⟩
noncomputable def cO (n q:Str) (a b c:Tok) (l m f:Int) (r:Addr) (x:Int) (s:Addr) (v w:Value) (u:Addr) (y:Int) (d:Tok):Obj:=.mk (.type "code") none (.fields (List.toArray ((.str n a) :: (.str q b) :: (.str "/claim/cut.py" c) :: (.int l 0) :: (.int m 0) :: (.int 0 0) :: (.int 0 0) :: (.int f 0) :: (.ref r) :: (.bool true) :: (.int x 0) :: (.ref s) :: .none :: v :: w :: (.ref u) :: (.int y 0) :: (.int l 0) :: (.str "/claim/cut.py" d) :: []))) #[]
noncomputable def fO (n q:Str) (s:Stmt) (m:Value) (c:Addr):Obj:=.mk (.type "function") none (.func (W.fnOf n q (a0w s) (a0v s) (a0j s) .none .none .none m none (.ref c) .none)) #[]
noncomputable def k2 (P:Params):Obj:=.mk .none none (.dict #[] 0) #[]
noncomputable def k3 (P:Params):Obj:=.mk (.type "dict") none (.dict (List.toArray ((.mk (PyData.keyHash P "__name__") (.str "__name__" 165) (.str "law_goaltrail_k44_goals_read_back" 380)) :: (.mk (PyData.keyHash P "__doc__") (.str "__doc__" 166) .none) :: (.mk (PyData.keyHash P "__package__") (.str "__package__" 167) .none) :: (.mk (PyData.keyHash P "__loader__") (.str "__loader__" 168) (.builtin "__main__.__loader__#opaque")) :: (.mk (PyData.keyHash P "__spec__") (.str "__spec__" 169) .none) :: (.mk (PyData.keyHash P "__annotations__") (.str "__annotations__" 170) (.ref 6)) :: (.mk (PyData.keyHash P "__builtins__") (.str "__builtins__" 171) (.ref 4)) :: (.mk (PyData.keyHash P "__file__") (.str "__file__" 173) (.str "/claim/cut.py" 172)) :: (.mk (PyData.keyHash P "__cached__") (.str "__cached__" 174) .none) :: (.mk (PyData.keyHash P "SMALL") (.str "SMALL" 190) (.str "abcdefghijklmnopqrstuvwxyz" 189)) :: (.mk (PyData.keyHash P "GREAT") (.str "GREAT" 192) (.str "ABCDEFGHIJKLMNOPQRSTUVWXYZ" 191)) :: (.mk (PyData.keyHash P "FIGURES") (.str "FIGURES" 194) (.str "0123456789" 193)) :: (.mk (PyData.keyHash P "MOST_LETTERS") (.str "MOST_LETTERS" 196) (.int 12 195)) :: (.mk (PyData.keyHash P "is_inner") (.str "is_inner" 203) (.ref 21)) :: (.mk (PyData.keyHash P "is_called") (.str "is_called" 209) (.ref 26)) :: (.mk (PyData.keyHash P "is_word") (.str "is_word" 216) (.ref 33)) :: (.mk (PyData.keyHash P "unknowns_of") (.str "unknowns_of" 228) (.ref 40)) :: (.mk (PyData.keyHash P "KEEP") (.str "KEEP" 232) (.str "keep" 231)) :: (.mk (PyData.keyHash P "NOT") (.str "NOT" 234) (.str "not" 233)) :: (.mk (PyData.keyHash P "is_named") (.str "is_named" 241) (.ref 47)) :: (.mk (PyData.keyHash P "MARK_ROWS") (.str "MARK_ROWS" 256) (.ref 48)) :: (.mk (PyData.keyHash P "Writing") (.str "Writing" 360) (.ref 114)) :: (.mk (PyData.keyHash P "rule_code") (.str "rule_code" 370) (.ref 125)) :: (.mk (PyData.keyHash P "question_code") (.str "question_code" 379) (.ref 132)) :: (.mk (PyData.keyHash P "_law_whole") (.str "_law_whole" 388) (.ref 139)) :: (.mk (PyData.keyHash P "_law_cells") (.str "_law_cells" 398) (.ref 146)) :: (.mk (PyData.keyHash P "_law_next") (.str "_law_next" 405) (.ref 153)) :: (.mk (PyData.keyHash P "_law_word") (.str "_law_word" 419) (.ref 160)) :: (.mk (PyData.keyHash P "_law_words") (.str "_law_words" 425) (.ref 165)) :: (.mk (PyData.keyHash P "_law_number") (.str "_law_number" 432) (.ref 172)) :: (.mk (PyData.keyHash P "_law_parts") (.str "_law_parts" 438) (.ref 177)) :: (.mk (PyData.keyHash P "_law_name") (.str "_law_name" 453) (.ref 184)) :: (.mk (PyData.keyHash P "_law_names") (.str "_law_names" 459) (.ref 189)) :: (.mk (PyData.keyHash P "_law_mark") (.str "_law_mark" 469) (.ref 196)) :: (.mk (PyData.keyHash P "_law_sign") (.str "_law_sign" 478) (.ref 203)) :: (.mk (PyData.keyHash P "_law_kids") (.str "_law_kids" 491) (.ref 210)) :: (.mk (PyData.keyHash P "_law_term") (.str "_law_term" 503) (.ref 217)) :: (.mk (PyData.keyHash P "_law_goal") (.str "_law_goal" 515) (.ref 224)) :: (.mk (PyData.keyHash P "_law_slots") (.str "_law_slots" 521) (.ref 229)) :: (.mk (PyData.keyHash P "_law_by_slots") (.str "_law_by_slots" 527) (.ref 234)) :: (.mk (PyData.keyHash P "_law_rows_are") (.str "_law_rows_are" 538) (.ref 241)) :: (.mk (PyData.keyHash P "_law_taken") (.str "_law_taken" 549) (.ref 248)) :: (.mk (PyData.keyHash P "_law_brought") (.str "_law_brought" 560) (.ref 255)) :: (.mk (PyData.keyHash P "_law_done") (.str "_law_done" 570) (.ref 262)) :: (.mk (PyData.keyHash P "_law_is_named") (.str "_law_is_named" 577) (.ref 269)) :: (.mk (PyData.keyHash P "_law_body_right") (.str "_law_body_right" 593) (.ref 276)) :: (.mk (PyData.keyHash P "_law_rule_right") (.str "_law_rule_right" 606) (.ref 283)) :: (.mk (PyData.keyHash P "_law_question_right") (.str "_law_question_right" 616) (.ref 290)) :: (.mk (PyData.keyHash P "law") (.str "law" 622) (.ref 295)) :: [])) 49) #[]
noncomputable def k20 (P:Params):Obj:=cO "is_inner" "is_inner" 197 198 199 6 1 3 15 181 16 (.ref 17) (.ref 18) 19 201 202
noncomputable def k21 (P:Params):Obj:=fO "is_inner" "is_inner" a5i (.str "goaltrail.terms" 187) 20
noncomputable def k25 (P:Params):Obj:=cO "is_called" "is_called" 204 205 206 8 2 3 22 181 23 .none .none 24 207 208
noncomputable def k26 (P:Params):Obj:=fO "is_called" "is_called" a4e (.str "goaltrail.terms" 187) 25
noncomputable def k32 (P:Params):Obj:=cO "is_word" "is_word" 210 211 212 12 1 3 27 181 28 (.ref 29) (.ref 30) 31 214 215
noncomputable def k33 (P:Params):Obj:=fO "is_word" "is_word" a6i (.str "goaltrail.terms" 187) 32
noncomputable def k39 (P:Params):Obj:=cO "unknowns_of" "unknowns_of" 219 220 221 15 1 3 34 181 35 (.ref 36) (.ref 37) 38 226 227
noncomputable def k40 (P:Params):Obj:=fO "unknowns_of" "unknowns_of" a3z (.str "goaltrail.names" 217) 39
noncomputable def k46 (P:Params):Obj:=cO "is_named" "is_named" 235 236 237 28 1 3 41 181 42 (.ref 43) (.ref 44) 45 239 240
noncomputable def k47 (P:Params):Obj:=fO "is_named" "is_named" a5j (.str "goaltrail.rules" 229) 46
noncomputable def k48 (P:Params):Obj:=.mk (.type "dict") none (.dict #[(.mk (PyData.keyHash P "=") (.str "=" 244) (.str "equal" 245)),(.mk (PyData.keyHash P ":=") (.str ":=" 246) (.str "reckon" 247)),(.mk (PyData.keyHash P "<") (.str "<" 248) (.str "less" 249)),(.mk (PyData.keyHash P "<=") (.str "<=" 250) (.str "atmost" 251))] 4) #[]
noncomputable def k61 (P:Params):Obj:=cO "__init__" "Writing.__init__" 269 270 271 34 2 3 56 181 57 (.ref 58) (.ref 59) 60 275 276
noncomputable def k62 (P:Params):Obj:=fO "__init__" "Writing.__init__" a3i (.str "goaltrail.maker" 242) 61
noncomputable def k68 (P:Params):Obj:=cO "write" "Writing.write" 278 279 280 42 2 3 63 181 64 (.ref 65) (.ref 66) 67 283 284
noncomputable def k69 (P:Params):Obj:=fO "write" "Writing.write" a2z (.str "goaltrail.maker" 242) 68
noncomputable def k75 (P:Params):Obj:=cO "give_cells" "Writing.give_cells" 286 287 288 45 2 3 70 181 71 (.ref 72) (.ref 73) 74 292 293
noncomputable def k76 (P:Params):Obj:=fO "give_cells" "Writing.give_cells" a1z (.str "goaltrail.maker" 242) 75
noncomputable def k82 (P:Params):Obj:=cO "write_head" "Writing.write_head" 295 296 297 50 2 3 77 181 78 (.ref 79) (.ref 80) 81 302 303
noncomputable def k83 (P:Params):Obj:=fO "write_head" "Writing.write_head" a2a (.str "goaltrail.maker" 242) 82
noncomputable def k89 (P:Params):Obj:=cO "take_apart" "Writing.take_apart" 305 306 307 55 3 3 84 181 85 (.ref 86) (.ref 87) 88 314 315
noncomputable def k90 (P:Params):Obj:=fO "take_apart" "Writing.take_apart" a2b (.str "goaltrail.maker" 242) 89
noncomputable def k96 (P:Params):Obj:=cO "write_frame" "Writing.write_frame" 317 318 319 67 1 3 91 181 92 (.ref 93) (.ref 94) 95 322 323
noncomputable def k97 (P:Params):Obj:=fO "write_frame" "Writing.write_frame" a1v (.str "goaltrail.maker" 242) 96
noncomputable def k103 (P:Params):Obj:=cO "bring" "Writing.bring" 325 326 327 73 3 3 98 181 99 (.ref 100) (.ref 101) 102 334 335
noncomputable def k104 (P:Params):Obj:=fO "bring" "Writing.bring" a3a (.str "goaltrail.maker" 242) 103
noncomputable def k110 (P:Params):Obj:=cO "write_goal" "Writing.write_goal" 337 338 339 84 3 3 105 181 106 (.ref 107) (.ref 108) 109 346 347
noncomputable def k111 (P:Params):Obj:=fO "write_goal" "Writing.write_goal" a2c (.str "goaltrail.maker" 242) 110
noncomputable def k113 (P:Params):Obj:=.mk (.type "dict") none (.dict (List.toArray ((.mk (PyData.keyHash P "__module__") (.str "__module__" 264) (.str "goaltrail.maker" 242)) :: (.mk (PyData.keyHash P "__firstlineno__") (.str "__firstlineno__" 268) (.int 32 267)) :: (.mk (PyData.keyHash P "__init__") (.str "__init__" 277) (.ref 62)) :: (.mk (PyData.keyHash P "write") (.str "write" 285) (.ref 69)) :: (.mk (PyData.keyHash P "give_cells") (.str "give_cells" 294) (.ref 76)) :: (.mk (PyData.keyHash P "write_head") (.str "write_head" 304) (.ref 83)) :: (.mk (PyData.keyHash P "take_apart") (.str "take_apart" 316) (.ref 90)) :: (.mk (PyData.keyHash P "write_frame") (.str "write_frame" 324) (.ref 97)) :: (.mk (PyData.keyHash P "bring") (.str "bring" 336) (.ref 104)) :: (.mk (PyData.keyHash P "write_goal") (.str "write_goal" 348) (.ref 111)) :: (.mk (PyData.keyHash P "__static_attributes__") (.str "__static_attributes__" 353) (.ref 112)) :: (.mk (PyData.keyHash P "__dict__") (.str "__dict__" 355) (.ref 115)) :: (.mk (PyData.keyHash P "__weakref__") (.str "__weakref__" 357) (.ref 116)) :: (.mk (PyData.keyHash P "__doc__") (.str "__doc__" 358) .none) :: [])) 4) #[]
noncomputable def k114 (P:Params):Obj:=.mk (.type "type") none (.cls (.mk "Writing" [(.type "object")] [(.ref 114),(.type "object")] 113 "Writing" Bool.true [] [] Bool.false none Bool.false)) (List.toArray (none :: none :: (some (.str "Writing" 257)) :: (some (.str "Writing" 265)) :: (some (.builtin "object.__new__")) :: (some (.bool true)) :: []))
noncomputable def k124 (P:Params):Obj:=cO "rule_code" "rule_code" 361 362 363 97 2 3 119 181 120 (.ref 121) (.ref 122) 123 368 369
noncomputable def k125 (P:Params):Obj:=fO "rule_code" "rule_code" a4s (.str "goaltrail.maker" 242) 124
noncomputable def k131 (P:Params):Obj:=cO "question_code" "question_code" 371 372 373 108 1 3 126 181 127 (.ref 128) (.ref 129) 130 377 378
noncomputable def k132 (P:Params):Obj:=fO "question_code" "question_code" a3b (.str "goaltrail.maker" 242) 131
noncomputable def k138 (P:Params):Obj:=cO "_law_whole" "_law_whole" 382 383 384 116 1 3 133 181 134 (.ref 135) (.ref 136) 137 386 387
noncomputable def k139 (P:Params):Obj:=fO "_law_whole" "_law_whole" a6j (.str "law_goaltrail_k44_goals_read_back" 380) 138
noncomputable def k145 (P:Params):Obj:=cO "_law_cells" "_law_cells" 389 390 391 118 2 3 140 181 141 (.ref 142) (.ref 143) 144 396 397
noncomputable def k146 (P:Params):Obj:=fO "_law_cells" "_law_cells" a6k (.str "law_goaltrail_k44_goals_read_back" 380) 145
noncomputable def k152 (P:Params):Obj:=cO "_law_next" "_law_next" 399 400 401 127 1 3 147 181 148 (.ref 149) (.ref 150) 151 403 404
noncomputable def k153 (P:Params):Obj:=fO "_law_next" "_law_next" a7k (.str "law_goaltrail_k44_goals_read_back" 380) 152
noncomputable def k159 (P:Params):Obj:=cO "_law_word" "_law_word" 406 407 408 131 3 3 154 181 155 (.ref 156) (.ref 157) 158 417 418
noncomputable def k160 (P:Params):Obj:=fO "_law_word" "_law_word" a7l (.str "law_goaltrail_k44_goals_read_back" 380) 159
noncomputable def k164 (P:Params):Obj:=cO "_law_words" "_law_words" 420 421 422 141 2 3 161 181 162 .none .none 163 423 424
noncomputable def k165 (P:Params):Obj:=fO "_law_words" "_law_words" a5c (.str "law_goaltrail_k44_goals_read_back" 380) 164
noncomputable def k171 (P:Params):Obj:=cO "_law_number" "_law_number" 426 427 428 143 1 3 166 181 167 (.ref 168) (.ref 169) 170 430 431
noncomputable def k172 (P:Params):Obj:=fO "_law_number" "_law_number" a5k (.str "law_goaltrail_k44_goals_read_back" 380) 171
noncomputable def k176 (P:Params):Obj:=cO "_law_parts" "_law_parts" 433 434 435 147 1 3 173 181 174 .none .none 175 436 437
noncomputable def k177 (P:Params):Obj:=fO "_law_parts" "_law_parts" a5d (.str "law_goaltrail_k44_goals_read_back" 380) 176
noncomputable def k183 (P:Params):Obj:=cO "_law_name" "_law_name" 439 440 441 151 2 3 178 181 179 (.ref 180) (.ref 181) 182 451 452
noncomputable def k184 (P:Params):Obj:=fO "_law_name" "_law_name" a7m (.str "law_goaltrail_k44_goals_read_back" 380) 183
noncomputable def k188 (P:Params):Obj:=cO "_law_names" "_law_names" 454 455 456 161 1 3 185 181 186 .none .none 187 457 458
noncomputable def k189 (P:Params):Obj:=fO "_law_names" "_law_names" a5e (.str "law_goaltrail_k44_goals_read_back" 380) 188
noncomputable def k195 (P:Params):Obj:=cO "_law_mark" "_law_mark" 460 461 462 165 1 3 190 181 191 (.ref 192) (.ref 193) 194 467 468
noncomputable def k196 (P:Params):Obj:=fO "_law_mark" "_law_mark" a7n (.str "law_goaltrail_k44_goals_read_back" 380) 195
noncomputable def k202 (P:Params):Obj:=cO "_law_sign" "_law_sign" 470 471 472 173 3 3 197 181 198 (.ref 199) (.ref 200) 201 476 477
noncomputable def k203 (P:Params):Obj:=fO "_law_sign" "_law_sign" a7o (.str "law_goaltrail_k44_goals_read_back" 380) 202
noncomputable def k209 (P:Params):Obj:=cO "_law_kids" "_law_kids" 479 480 481 179 4 3 204 181 205 (.ref 206) (.ref 207) 208 489 490
noncomputable def k210 (P:Params):Obj:=fO "_law_kids" "_law_kids" a7p (.str "law_goaltrail_k44_goals_read_back" 380) 209
noncomputable def k216 (P:Params):Obj:=cO "_law_term" "_law_term" 492 493 494 186 3 3 211 181 212 (.ref 213) (.ref 214) 215 501 502
noncomputable def k217 (P:Params):Obj:=fO "_law_term" "_law_term" a7q (.str "law_goaltrail_k44_goals_read_back" 380) 216
noncomputable def k223 (P:Params):Obj:=cO "_law_goal" "_law_goal" 504 505 506 198 2 3 218 181 219 (.ref 220) (.ref 221) 222 513 514
noncomputable def k224 (P:Params):Obj:=fO "_law_goal" "_law_goal" a7r (.str "law_goaltrail_k44_goals_read_back" 380) 223
noncomputable def k228 (P:Params):Obj:=cO "_law_slots" "_law_slots" 516 517 518 210 1 3 225 181 226 .none .none 227 519 520
noncomputable def k229 (P:Params):Obj:=fO "_law_slots" "_law_slots" a5f (.str "law_goaltrail_k44_goals_read_back" 380) 228
noncomputable def k233 (P:Params):Obj:=cO "_law_by_slots" "_law_by_slots" 522 523 524 220 2 3 230 181 231 .none .none 232 525 526
noncomputable def k234 (P:Params):Obj:=fO "_law_by_slots" "_law_by_slots" a3q (.str "law_goaltrail_k44_goals_read_back" 380) 233
noncomputable def k240 (P:Params):Obj:=cO "_law_rows_are" "_law_rows_are" 528 529 530 226 1 3 235 181 236 (.ref 237) (.ref 238) 239 536 537
noncomputable def k241 (P:Params):Obj:=fO "_law_rows_are" "_law_rows_are" a4i (.str "law_goaltrail_k44_goals_read_back" 380) 240
noncomputable def k247 (P:Params):Obj:=cO "_law_taken" "_law_taken" 539 540 541 240 3 3 242 181 243 (.ref 244) (.ref 245) 246 547 548
noncomputable def k248 (P:Params):Obj:=fO "_law_taken" "_law_taken" a6l (.str "law_goaltrail_k44_goals_read_back" 380) 247
noncomputable def k254 (P:Params):Obj:=cO "_law_brought" "_law_brought" 550 551 552 247 3 3 249 181 250 (.ref 251) (.ref 252) 253 558 559
noncomputable def k255 (P:Params):Obj:=fO "_law_brought" "_law_brought" a4t (.str "law_goaltrail_k44_goals_read_back" 380) 254
noncomputable def k261 (P:Params):Obj:=cO "_law_done" "_law_done" 561 562 563 265 2 3 256 181 257 (.ref 258) (.ref 259) 260 568 569
noncomputable def k262 (P:Params):Obj:=fO "_law_done" "_law_done" a7s (.str "law_goaltrail_k44_goals_read_back" 380) 261
noncomputable def k268 (P:Params):Obj:=cO "_law_is_named" "_law_is_named" 571 572 573 282 1 3 263 181 264 (.ref 265) (.ref 266) 267 575 576
noncomputable def k269 (P:Params):Obj:=fO "_law_is_named" "_law_is_named" a4j (.str "law_goaltrail_k44_goals_read_back" 380) 268
noncomputable def k275 (P:Params):Obj:=cO "_law_body_right" "_law_body_right" 578 579 580 284 6 3 270 181 271 (.ref 272) (.ref 273) 274 591 592
noncomputable def k276 (P:Params):Obj:=fO "_law_body_right" "_law_body_right" a3j (.str "law_goaltrail_k44_goals_read_back" 380) 275
noncomputable def k282 (P:Params):Obj:=cO "_law_rule_right" "_law_rule_right" 594 595 596 310 3 3 277 181 278 (.ref 279) (.ref 280) 281 604 605
noncomputable def k283 (P:Params):Obj:=fO "_law_rule_right" "_law_rule_right" a3k (.str "law_goaltrail_k44_goals_read_back" 380) 282
noncomputable def k289 (P:Params):Obj:=cO "_law_question_right" "_law_question_right" 607 608 609 324 1 3 284 181 285 (.ref 286) (.ref 287) 288 614 615
noncomputable def k290 (P:Params):Obj:=fO "_law_question_right" "_law_question_right" a2l (.str "law_goaltrail_k44_goals_read_back" 380) 289
noncomputable def k294 (P:Params):Obj:=cO "law" "law" 617 618 619 335 1 3 291 181 292 .none .none 293 620 621
noncomputable def k295 (P:Params):Obj:=fO "law" "law" b0v (.str "law_goaltrail_k44_goals_read_back" 380) 294
noncomputable def KK:Params->W.Frag:=fun P=>(nat_lit 2,k2 P) :: (nat_lit 3,k3 P) :: (nat_lit 20,k20 P) :: (nat_lit 21,k21 P) :: (nat_lit 25,k25 P) :: (nat_lit 26,k26 P) :: (nat_lit 32,k32 P) :: (nat_lit 33,k33 P) :: (nat_lit 39,k39 P) :: (nat_lit 40,k40 P) :: (nat_lit 46,k46 P) :: (nat_lit 47,k47 P) :: (nat_lit 48,k48 P) :: (nat_lit 61,k61 P) :: (nat_lit 62,k62 P) :: (nat_lit 68,k68 P) :: (nat_lit 69,k69 P) :: (nat_lit 75,k75 P) :: (nat_lit 76,k76 P) :: (nat_lit 82,k82 P) :: (nat_lit 83,k83 P) :: (nat_lit 89,k89 P) :: (nat_lit 90,k90 P) :: (nat_lit 96,k96 P) :: (nat_lit 97,k97 P) :: (nat_lit 103,k103 P) :: (nat_lit 104,k104 P) :: (nat_lit 110,k110 P) :: (nat_lit 111,k111 P) :: (nat_lit 113,k113 P) :: (nat_lit 114,k114 P) :: (nat_lit 124,k124 P) :: (nat_lit 125,k125 P) :: (nat_lit 131,k131 P) :: (nat_lit 132,k132 P) :: (nat_lit 138,k138 P) :: (nat_lit 139,k139 P) :: (nat_lit 145,k145 P) :: (nat_lit 146,k146 P) :: (nat_lit 152,k152 P) :: (nat_lit 153,k153 P) :: (nat_lit 159,k159 P) :: (nat_lit 160,k160 P) :: (nat_lit 164,k164 P) :: (nat_lit 165,k165 P) :: (nat_lit 171,k171 P) :: (nat_lit 172,k172 P) :: (nat_lit 176,k176 P) :: (nat_lit 177,k177 P) :: (nat_lit 183,k183 P) :: (nat_lit 184,k184 P) :: (nat_lit 188,k188 P) :: (nat_lit 189,k189 P) :: (nat_lit 195,k195 P) :: (nat_lit 196,k196 P) :: (nat_lit 202,k202 P) :: (nat_lit 203,k203 P) :: (nat_lit 209,k209 P) :: (nat_lit 210,k210 P) :: (nat_lit 216,k216 P) :: (nat_lit 217,k217 P) :: (nat_lit 223,k223 P) :: (nat_lit 224,k224 P) :: (nat_lit 228,k228 P) :: (nat_lit 229,k229 P) :: (nat_lit 233,k233 P) :: (nat_lit 234,k234 P) :: (nat_lit 240,k240 P) :: (nat_lit 241,k241 P) :: (nat_lit 247,k247 P) :: (nat_lit 248,k248 P) :: (nat_lit 254,k254 P) :: (nat_lit 255,k255 P) :: (nat_lit 261,k261 P) :: (nat_lit 262,k262 P) :: (nat_lit 268,k268 P) :: (nat_lit 269,k269 P) :: (nat_lit 275,k275 P) :: (nat_lit 276,k276 P) :: (nat_lit 282,k282 P) :: (nat_lit 283,k283 P) :: (nat_lit 289,k289 P) :: (nat_lit 290,k290 P) :: (nat_lit 294,k294 P) :: (nat_lit 295,k295 P) :: []
noncomputable def prog:Program:=PySem.Challenge.pw_goaltrail_k44_goals_read_back
noncomputable def Q:Program:=W.view prog [1,2,3,4,5,6,7,9,11,12,13,15,16,17,18,20,21,22,23,24,25,26,27,28,29,30,31,32,33,34,35,36,37,38,39,40,41,42,43,44]
noncomputable def loose:List Str:=["MARK_ROWS"]
noncomputable def Xt (s:Shared):Bool:=W.xlAt Q [] s && W.recOk [] s
lay_quick prog Q loose Xt KK
noncomputable def ads:List Addr:=[2,3,20,21,25,26,32,33,39,40,46,47,48,61,62,68,69,75,76,82,83,89,90,96,97,103,104,110,111,113,114,124,125,131,132,138,139,145,146,152,153,159,160,164,165,171,172,176,177,183,184,188,189,195,196,202,203,209,210,216,217,223,224,228,229,233,234,240,241,247,248,254,255,261,262,268,269,275,276,282,283,289,290,294,295]
theorem run1:∀ w:World,(fun os=>(W.segRunT treeTable prog w 11 (some (.ref 6)) 0 1654 (bootS w os) (W.topStub prog)).map fun r=>looks prog Q loose Xt (fun s=>ads.map s.heap.get?) true (W.boot_heap w.params) r.2.1.abs) = fun _=>some (true,W.openGood Q loose,(KK w.params).map fun p=>some p.2):=
 W.byRow2 "special-get-raises" (P:=fun w=>(fun os=>(W.segRunT treeTable prog w 11 (some (.ref 6)) 0 1654 (bootS w os) (W.topStub prog)).map fun r=>looks prog Q loose Xt (fun s=>ads.map s.heap.get?) true (W.boot_heap w.params) r.2.1.abs) = fun _=>some (true,W.openGood Q loose,(KK w.params).map fun p=>some p.2)) (fun w=>by
  rw [W.Fast.te10110043849684766642,W.Fast.te14364793385576792824,W.Fast.te2530740449226627131,W.Fast.te3486900944545009338,W.Fast.te10845986317416049621,W.Fast.te5655336392911312201,W.Fast.te2269092192922489660,W.Fast.te11443658404787768991,W.Fast.te8497152684455178732,W.Fast.te18048671565189718596,W.Fast.te6894247980046229166]
  kernel_rfl) (fun w=>by
  rw [W.Fast.te10110043849684766642,W.Fast.te14364793385576792824,W.Fast.te2530740449226627131,W.Fast.te3486900944545009338,W.Fast.te10845986317416049621,W.Fast.te5655336392911312201,W.Fast.te2269092192922489660,W.Fast.te11443658404787768991,W.Fast.te8497152684455178732,W.Fast.te18048671565189718596,W.Fast.te6894247980046229166]
  kernel_rfl)
theorem left1:W.LeftO prog Q loose Xt (fun s=>ads.map s.heap.get?) (fun w=>(KK w.params).map fun p=>some p.2) 1654:=left_of (by kernel_rfl) (by decide) (fun _=>by kernel_rfl) c5b (by decide) run1
theorem walk {l:W.OpenLaw} {q:Program} {loose:List Str} {XP:(Str->Option Value)->Heap->Prop} {YP:World->Heap->Prop} {d:DefRec} {K:Params->W.Frag} (hn:l.most = some 63) (hdf:d.params.defaults = [])
  (hY:∀ (w:World) (h:Heap),YP w h->(K w.params).In h)
  (F:∀ (w:World) (mg:Str->Option Value) (fa:Addr) (h:Heap),(K w.params).In h->h.Ns mainGlobals mg->mg d.name = some (.ref fa) ->
   ∃ fd:FuncData,(∀ (s:Shared) (u:Value),BindsTo s fd ⟨[u],[]⟩ [("_law_script",u)])/\∀ base:Heap,(K w.params).In base->base.Ns mainGlobals mg->FnOk l.prog w (K w.params) mg base CX0 95 fa fd ["_law_script"] (b2c (K w.params))) :
  W.WalkO q loose XP YP l.row.toRowW d [] (fun f vs=>PySem.call f vs):=
 L2.walk_of (n:=63) (k:=95) (x:="_law_script") (CX:=fun _=>CX0) (sp:=fun w=>b2c (K w.params)) hn (by decide) hdf ⟨rfl,by decide,by decide⟩ hY F (fun _ _ a ns hl hO hS=>⟨ns,hS,hl,fun _=>rfl⟩) fun _ _ _ _ _ z=>z
end My
open PySem PySem.W PyProof.Rows
set_option maxRecDepth 100000 in
set_option maxHeartbeats 0 in
theorem PySem.Challenge.cw_goaltrail_k44_goals_read_back_holds : PySem.Challenge.rw_goaltrail_k44_goals_read_back.Holds := by
 w_on; o_law
 refine W.holds_open (q:=My.Q) (loose:=My.loose) (Xt:=My.Xt) (XP:=W.XL My.Q []) (Yf:=fun s=>My.ads.map s.heap.get?) (Ya:=fun w=>(My.KK w.params).map fun (p:Addr × Obj)=>some p.2) (YP:=W.InK My.KK) (N:=1654) My.left1 (W.InK.of (fun _=>by kernel_rfl)) W.InK.keeps (fun s e=>W.xl_of s (Bool.and_eq_true_iff.mp e).1) W.XL.keeps (by rfl) (by rfl) (by rfl) (fun s e=>W.recFacts_of (Bool.and_eq_true_iff.mp e).2) (by rfl) (by assumption) (by decide +kernel) ⟨rfl,rfl,rfl,rfl,rfl,by decide +kernel⟩ ?hw ?hc
 (case hw=>w_witness2)
 k_fill
 refine My.walk (l:=PySem.Challenge.rw_goaltrail_k44_goals_read_back) rfl rfl (fun w h Y=>Y) ?F
 case F=>
  intro w mg fa h KX G hmg
  have TT:∃ t:My.Ad,My.Txt (L2.KOf KX) mg t/\(∀ P:Program,L2.KD P w (L2.KOf KX) t.c_MARK_ROWS (My.a8h t))/\∀ (s:Shared) (u:Value),BindsTo s t.d_law ⟨[u],[]⟩ [("_law_script",u)]:=by
   dsimp only [L2.KOf]
   refine' My.txt_mk (w0:=w) KX G ?ac_Writing ?pg_Writing ?hd_Writing ?po_Writing ?sa_Writing ?na_Writing_slots ?na_Writing_met ?na_Writing_cells ?na_Writing_rows ?mk_Writing ?in_Writing ?kc_Writing ?am_Writing_write ?am_Writing_give_cells ?am_Writing_write_head ?am_Writing_take_apart ?am_Writing_write_frame ?am_Writing_bring ?am_Writing_write_goal ?l0 ?c0 ?k0 ?fn0 ?l1 ?c1 ?k1 ?fn1 ?l2 ?c2 ?k2 ?fn2 ?l3 ?c3 ?k3 ?fn3 ?l4 ?c4 ?k4 ?fn4 ?l5 ?c5 ?k5 ?fn5 ?l6 ?c6 ?k6 ?fn6 ?l7 ?c7 ?k7 ?fn7 ?a8 ?l8 ?c8 ?k8 ?a9 ?l9 ?c9 ?k9 ?a10 ?l10 ?c10 ?k10 ?a11 ?l11 ?c11 ?k11 ?a12 ?l12 ?c12 ?k12 ?a13 ?l13 ?c13 ?k13 ?a14 ?l14 ?c14 ?k14 ?a15 ?l15 ?c15 ?k15 ?a16 ?l16 ?c16 ?k16 ?a17 ?l17 ?c17 ?k17 ?a18 ?l18 ?c18 ?k18 ?a19 ?l19 ?c19 ?k19 ?a20 ?l20 ?c20 ?k20 ?a21 ?l21 ?c21 ?k21 ?a22 ?l22 ?c22 ?k22 ?a23 ?l23 ?c23 ?k23 ?a24 ?l24 ?c24 ?k24 ?a25 ?l25 ?c25 ?k25 ?a26 ?l26 ?c26 ?k26 ?a27 ?l27 ?c27 ?k27 ?a28 ?l28 ?c28 ?k28 ?a29 ?l29 ?c29 ?k29 ?a30 ?l30 ?c30 ?k30 ?a31 ?l31 ?c31 ?k31 ?a32 ?l32 ?c32 ?k32 ?a33 ?l33 ?c33 ?k33 ?a34 ?l34 ?c34 ?k34 ?a35 ?l35 ?c35 ?k35 ?a36 ?l36 ?c36 ?k36 ?a37 ?l37 ?c37 ?k37 ?a38 ?l38 ?c38 ?k38 ?a39 ?l39 ?c39 ?k39 ?z0 ?z1 ?z2 ?z3 ?z4 ?z5 ?z6 ?z7 ?z8 ?z9 ?z10 ?z11 ?z12 ?z13 ?y0 ?y1 ?y2 ?dd_MARK_ROWS ?ee_MARK_ROWS ?y3 ?y4 ?y5 ?y6
   all_goals try (first | k_is | rfl)
  obtain ⟨t,T,D_MARK_ROWS,e1⟩:=TT
  have e0:=hmg.symm.trans T.m_law
  cases e0
  exact ⟨t.d_law,e1,fun base kb nb=>My.ok_all T (D_MARK_ROWS _)⟩
