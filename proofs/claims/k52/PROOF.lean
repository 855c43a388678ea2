import PyProof.Rows.All
import PyProof.StrBlock2
import PyProof.Rows.StrIntSpec
import KE.KItemsList
import KE.KDictLaws
import PyProof.SumWalkG
import KE.KRevIter
import PyProof.ListRange
import PyProof.Rows.SortWalk
import KE.KSortedM
import PyProof.Rows.SortStr
import Wide.All
import OpenK.AllK
import Wide.FinOn
import Lean
import PyProof.EqAt
import PyProof.EqKinds
import PyProof.TupleCall
import PyProof.NeKinds
import PyProof.DictUpdate
import KE.KDictList
import KE.KEqDict
import PyProof.Draws
import PyProof.Rows.EnumRows
import PyProof.StationsW
import PyProof.ExcClass3
import PyProof.RulesAs
import PyProof.ExcBaseAll.ValueError
import PyProof.InstStoreFacts
import PyProof.ExcArgsOwn
import PyProof.NsDelKeeps
import KE.RegKIsAll
import PyProof.Rows.LoopZipPat
import PyProof.StrLawsRepr
import KE.KDictOf
import PyProof.WalksS
import PyProof.AttrMissHeap
import PySem.Challenge.RW_goaltrail_k52_taken_back
set_option Elab.async false
set_option linter.all false
set_option maxRecDepth 100000
set_option genSizeOf false
set_option compiler.extract_closed false
namespace L2
open PySem PySem.Spec PyProof.Rows
theorem us0 {us : List Value} {P : List Value → Prop} (hl : us.length = 0) (h : P []) : P us := by cases us with | nil => exact h | cons a r => cases hl
theorem us1 {us : List Value} {P : List Value → Prop} (hl : us.length = 1) (h : ∀ a, P [a]) : P us := by cases us with | nil => cases hl | cons a r => exact us0 (P := fun r => P (a :: r)) (Nat.succ.inj hl) (h a)
theorem us2 {us : List Value} {P : List Value → Prop} (hl : us.length = 2) (h : ∀ a b, P [a, b]) : P us := by cases us with | nil => cases hl | cons a r => exact us1 (P := fun r => P (a :: r)) (Nat.succ.inj hl) (h a)
theorem us3 {us : List Value} {P : List Value → Prop} (hl : us.length = 3) (h : ∀ a b c, P [a, b, c]) : P us := by cases us with | nil => cases hl | cons a r => exact us2 (P := fun r => P (a :: r)) (Nat.succ.inj hl) (h a)
theorem us4 {us : List Value} {P : List Value → Prop} (hl : us.length = 4) (h : ∀ a b c d, P [a, b, c, d]) : P us := by cases us with | nil => cases hl | cons a r => exact us3 (P := fun r => P (a :: r)) (Nat.succ.inj hl) (h a)
theorem us5 {us : List Value} {P : List Value → Prop} (hl : us.length = 5) (h : ∀ a b c d e, P [a, b, c, d, e]) : P us := by cases us with | nil => cases hl | cons a r => exact us4 (P := fun r => P (a :: r)) (Nat.succ.inj hl) (h a)
theorem us6 {us : List Value} {P : List Value → Prop} (hl : us.length = 6) (h : ∀ a b c d e f, P [a, b, c, d, e, f]) : P us := by cases us with | nil => cases hl | cons a r => exact us5 (P := fun r => P (a :: r)) (Nat.succ.inj hl) (h a)
theorem ex1 {us : List Value} (hl : us.length = 1) : ∃ a, us = [a] := us1 (P := fun us => ∃ a', us = [a']) hl fun a => ⟨a, rfl⟩
theorem ex2 {us : List Value} (hl : us.length = 2) : ∃ a b, us = [a, b] := us2 (P := fun us => ∃ a' b', us = [a', b']) hl fun a b => ⟨a, b, rfl⟩
theorem ex3 {us : List Value} (hl : us.length = 3) : ∃ a b c, us = [a, b, c] := us3 (P := fun us => ∃ a' b' c', us = [a', b', c']) hl fun a b c => ⟨a, b, c, rfl⟩
theorem ex4 {us : List Value} (hl : us.length = 4) : ∃ a b c d, us = [a, b, c, d] := us4 (P := fun us => ∃ a' b' c' d', us = [a', b', c', d']) hl fun a b c d => ⟨a, b, c, d, rfl⟩
theorem ex5 {us : List Value} (hl : us.length = 5) : ∃ a b c d e, us = [a, b, c, d, e] := us5 (P := fun us => ∃ a' b' c' d' e', us = [a', b', c', d', e']) hl fun a b c d e => ⟨a, b, c, d, e, rfl⟩
theorem ex6 {us : List Value} (hl : us.length = 6) : ∃ a b c d e f, us = [a, b, c, d, e, f] := us6 (P := fun us => ∃ a' b' c' d' e' f', us = [a', b', c', d', e', f']) hl fun a b c d e f => ⟨a, b, c, d, e, f, rfl⟩
noncomputable abbrev Key := Sum Int Str
noncomputable def keyIs : Key → Value → Bool
  | .inl k, v => Value.isInt k v
  | .inr x, v => Value.isStrOf x v
noncomputable def keyH (w : World) : Key → Int
  | .inl k => hashInt k
  | .inr x => hashStr w x
theorem keyIs_shape : ∀ {k : Key} {v : Value}, keyIs k v = true → (∃ i t, k = Sum.inl i ∧ v = Value.int i t) ∨ (∃ x t, k = Sum.inr x ∧ v = Value.str x t)
  | .inl i, v, h => by
    obtain ⟨t, e⟩ := Value.isInt_shape (k := i) (v := v) h
    exact .inl ⟨i, t, rfl, e⟩
  | .inr x, v, h => by
    obtain ⟨t, e⟩ := Value.isStrOf_shape (x := x) (v := v) h
    exact .inr ⟨x, t, rfl, e⟩
theorem keyIs_int (i : Int) (t : Tok) : keyIs (.inl i) (.int i t) = true := by simp [keyIs, Value.isInt]
theorem keyIs_str (x : Str) (t : Tok) : keyIs (.inr x) (.str x t) = true := by simp [keyIs, Value.isStrOf]
theorem key_ll (a b : Int) : decide ((Sum.inl a : Key) = Sum.inl b) = (a == b) := by
  by_cases e : a = b
  · subst e; simp
  · have h : ¬ (Sum.inl a : Key) = Sum.inl b := fun q => e (Sum.inl.inj q)
    rw [decide_eq_false h]
    exact (beq_eq_false_iff_ne.mpr e).symm
theorem key_rr (a b : Str) : decide ((Sum.inr a : Key) = Sum.inr b) = decide (a = b) := by
  by_cases e : a = b
  · subst e; simp
  · have h : ¬ (Sum.inr a : Key) = Sum.inr b := fun q => e (Sum.inr.inj q)
    rw [decide_eq_false h, decide_eq_false e]
theorem key_lr (a : Int) (b : Str) : decide ((Sum.inl a : Key) = Sum.inr b) = false := decide_eq_false (fun q => nomatch q)
theorem key_rl (a : Str) (b : Int) : decide ((Sum.inr a : Key) = Sum.inl b) = false := decide_eq_false (fun q => nomatch q)
noncomputable def mixKind (prog : Program) (w : World) : PySem.KeyKind prog w Key where
  is := keyIs
  hash := keyH w
  inj := fun v a b ha hb => by
    rcases keyIs_shape ha with ⟨i, t, rfl, rfl⟩ | ⟨x, t, rfl, rfl⟩
    · rcases keyIs_shape hb with ⟨j, u, rfl, e⟩ | ⟨y, u, rfl, e⟩
      · injection e with e1 _; rw [e1]
      · exact nomatch e
    · rcases keyIs_shape hb with ⟨j, u, rfl, e⟩ | ⟨y, u, rfl, e⟩
      · exact nomatch e
      · injection e with e1 _; rw [e1]
  byValue := fun k v h => by
    rcases keyIs_shape h with ⟨i, t, rfl, rfl⟩ | ⟨x, t, rfl, rfl⟩ <;> rfl
  pyHash := fun hv h => by
    rcases keyIs_shape hv with ⟨i, t, rfl, rfl⟩ | ⟨x, t, rfl, rfl⟩
    · exact wpAny_pyHash_int h
    · exact wpAny_pyHash_str h
  eqBool := fun hu hv h => by
    rcases keyIs_shape hu with ⟨i, t, rfl, rfl⟩ | ⟨x, t, rfl, rfl⟩
    · rcases keyIs_shape hv with ⟨j, u, rfl, rfl⟩ | ⟨y, u, rfl, rfl⟩
      · rw [key_ll] at h; exact wpAny_eqBool_int h
      · rw [key_lr] at h; exact SeqAt.EqAt.int_str i t y u _ _ _ _ h
    · rcases keyIs_shape hv with ⟨j, u, rfl, rfl⟩ | ⟨y, u, rfl, rfl⟩
      · rw [key_rl] at h; exact SeqAt.EqAt.str_int x t j u _ _ _ _ h
      · rw [key_rr] at h; exact wpAny_eqBool_str h
  «strs» := fun k x t v h => by
    rcases keyIs_shape h with ⟨i, u, rfl, e⟩ | ⟨y, u, rfl, e⟩
    · exact nomatch e
    · injection e with e1 _
      subst e1
      cases v <;> rfl
theorem mixKind_int (prog : Program) (w : World) (i : Int) (t : Tok) : (mixKind prog w).is (.inl i) (.int i t) = true := keyIs_int i t
theorem mixKind_str (prog : Program) (w : World) (x : Str) (t : Tok) : (mixKind prog w).is (.inr x) (.str x t) = true := keyIs_str x t
end L2
namespace L2
open PySem PySem.Spec PyProof.Rows
inductive V where
  | non | bl (b : Bool) | int (i : Int) | str (x : Str) | byt (b : Array UInt8) | flt (b : UInt64) | ref (a : Addr) | ty (n : String)
  deriving DecidableEq
noncomputable def RelV : V → Value → Prop
  | .non, u => u = Value.none
  | .bl b, u => u = Value.bool b
  | .int i, u => ∃ t, u = Value.int i t
  | .str x, u => ∃ t, u = Value.str x t
  | .byt b, u => ∃ t, u = Value.bytes b t
  | .flt b, u => ∃ t, u = Value.float b t
  | .ref a, u => u = Value.ref a
  | .ty n, u => u = Value.type n
noncomputable abbrev Vals : List V → List Value → Prop := Paired RelV
theorem Vals.length {xs : List V} {us : List Value} (r : Vals xs us) : xs.length = us.length := Paired.length r
theorem Vals.get : ∀ {xs : List V} {us : List Value} {i : Nat} {x : V}, Vals xs us → xs[i]? = some x → ∃ u, us[i]? = some u ∧ RelV x u
  | _, _, _, _, .nil, e => by simp at e
  | _, _, 0, _, .cons r _, e => by simp at e; subst e; exact ⟨_, rfl, r⟩
  | _, _, i + 1, x, .cons _ t, e => by
    obtain ⟨u, h1, h2⟩ := Vals.get (i := i) (x := x) t (by simpa using e)
    exact ⟨u, by simpa using h1, h2⟩
theorem Vals.set {x : V} {u : Value} (r : RelV x u) : ∀ {xs : List V} {us : List Value} (i : Nat), Vals xs us → Vals (xs.set i x) (us.set i u)
  | _, _, _, .nil => .nil
  | _, _, 0, .cons _ t => .cons r t
  | _, _, i + 1, .cons q t => .cons q (Vals.set r i t)
theorem Vals.append : ∀ {xs ys : List V} {us ws : List Value}, Vals xs us → Vals ys ws → Vals (xs ++ ys) (us ++ ws)
  | _, _, _, _, .nil, s => s
  | _, _, _, _, .cons r t, s => .cons r (Vals.append t s)
theorem Vals.take : ∀ {xs : List V} {us : List Value} (n : Nat), Vals xs us → Vals (xs.take n) (us.take n)
  | _, _, 0, _ => .nil
  | _, _, _ + 1, .nil => .nil
  | _, _, n + 1, .cons r t => .cons r (Vals.take n t)
theorem Vals.drop : ∀ {xs : List V} {us : List Value} (n : Nat), Vals xs us → Vals (xs.drop n) (us.drop n)
  | _, _, 0, r => r
  | _, _, _ + 1, .nil => .nil
  | _, _, n + 1, .cons _ t => Vals.drop n t
theorem Vals.none_of : ∀ {xs : List V} {us : List Value} {i : Nat}, Vals xs us → xs[i]? = none → us[i]? = none := fun {xs us i} r e => by
  have h1 := r.length
  have h2 : xs.length ≤ i := List.getElem?_eq_none_iff.mp e
  exact List.getElem?_eq_none_iff.mpr (by omega)
noncomputable def RelO : Option V → Option Value → Prop
  | some v, some u => RelV v u
  | none, none => True
  | _, _ => False
noncomputable def KV {κ : Type} : List (κ × V) → List (κ × Value) → Prop := Paired fun (p : κ × V) (q : κ × Value) => p.1 = q.1 ∧ RelV p.2 q.2
noncomputable def kV : Key → V
  | .inl i => .int i
  | .inr x => .str x
inductive HO where
  | lst (xs : List V)
  | tup (xs : List V)
  | dK (kvs : List (Key × V)) | dT (kvs : List (List Key × V))
  | set (S : Int → Bool) (n : Nat)
  | ins (C dx : Addr) (fs : List (Str × V))
  | own (x : Addr)
  | xd (fs : List (Str × V))
  | met (f x : Addr)
  | rng (lo hi : Int)
  | frz (o : Obj) (u : HO)
  | tbl (ps : Array Value)
  | ext (φ : Heap → Prop)
noncomputable abbrev Hp := Addr → Option HO
noncomputable def upd (H : Hp) (a : Addr) (o : HO) : Hp := fun b => if b = a then some o else H b
theorem upd_same {H : Hp} {a : Addr} {o : HO} : upd H a o a = some o := by unfold upd; rw [if_pos rfl]
theorem upd_ne {H : Hp} {a b : Addr} {o : HO} (h : b ≠ a) : upd H a o b = H b := by unfold upd; rw [if_neg h]
theorem ne_of {H : Hp} {a b : Addr} {o u : HO} (h : H a = some o) (h' : H b = some u) (d : o ≠ u) : a ≠ b := by
  intro e; subst e; rw [h] at h'; exact d (Option.some.inj h')
theorem ne_of_none {H : Hp} {a b : Addr} {o : HO} (h : H a = some o) (h' : H b = none) : a ≠ b := by
  intro e; subst e; rw [h] at h'; cases h'
section
variable (P : Program) (w : World)
noncomputable def ObjOk (H : Hp) (h : Heap) (a : Addr) : HO → Prop
  | .lst xs => xs.length ≤ sizeLine ∧ ∃ (its : List Value) (n : Nat), Vals xs its ∧ h.get? a = some { cls := .type "list", data := .seq its.toArray n }
  | .tup xs => xs.length ≤ sizeLine ∧ ∃ its : List Value, Vals xs its ∧ IsTup h a its.toArray
  | .dK kvs => kvs.length ≤ sizeLine ∧ (a == sysModules) = false ∧ ∃ vs, KV kvs vs ∧ h.DictOf (mixKind P w) a vs
  | .dT kvs => kvs.length ≤ sizeLine ∧ (a == sysModules) = false ∧ ∃ xs : List (List Key × Addr × Value),
      Paired (fun (p : List Key × V) (q : List Key × Addr × Value) => p.1 = q.1 ∧ H q.2.1 = some (.tup (p.1.map kV)) ∧ RelV p.2 q.2.2) kvs xs ∧
      ∃ o es ep, h.get? a = some o ∧ o.ExactDict ∧ o.data = .dict es ep ∧ es.toList = xs.map (entryOfKey (tupleKind (mixKind P w))) ∧ (xs.map (·.1)).Nodup
  | .set S n => h.SetOf (intKind P w) a S n
  | .ins C dx fs => H dx = some (.own a) ∧ fs.length ≤ 1000 ∧ dx ≠ a ∧ h.get? a = some (PySem.W.instObj C dx) ∧
      ∃ mA, h.Ns1 dx mA ∧ (∀ f, RelO (fs.lookup f) (mA f)) ∧ PySem.Within mA (fs.map (·.1))
  | .own _ => ∃ o, h.get? a = some o
  | .xd fs => ∃ mA, h.Ns1 a mA ∧ ∀ f, RelO (fs.lookup f) (mA f)
  | .rng lo hi => ∃ t u v, h.get? a = some { cls := .type "range", data := .fields #[.int lo t, .int hi u, .int 1 v] }
  | .frz o u => h.get? a = some o ∧ ObjOk H h a u
  | .tbl ps => h.get? a = some { cls := .none, data := .fields ps }
  | .met f x => h.get? a = some (PySem.W.methodObj (.ref f) (.ref x))
  | .ext φ => φ h ∧ (∃ o, h.get? a = some o) ∧ ∀ h1 h2 : Heap, φ h1 → (∀ o, h1.get? a = some o → h2.get? a = some o) → φ h2
noncomputable def HOk (H : Hp) (h : Heap) : Prop := ∀ a o, H a = some o → ObjOk P w H h a o
end
section
variable {P : Program} {w : World} {H H' : Hp} {h h' : Heap} {a : Addr} {o : HO}
theorem ObjOk.lt (x : ObjOk P w H h a o) : a < h.objs.size := by
  cases o with
  | lst xs => obtain ⟨_, _, _, _, e⟩ := x; exact Heap.lt_size e
  | tup xs => obtain ⟨_, _, _, p⟩ := x; exact p.lt
  | dK kvs => obtain ⟨_, _, _, _, o, _, _, e, _⟩ := x; exact Heap.lt_size e
  | dT kvs => obtain ⟨_, _, _, _, o, _, _, e, _⟩ := x; exact Heap.lt_size e
  | set S n => obtain ⟨o, _, _, _, e, _⟩ := x; exact Heap.lt_size e
  | ins C dx fs => obtain ⟨_, _, _, e, _⟩ := x; exact Heap.lt_size e
  | own y => obtain ⟨_, e⟩ := x; exact Heap.lt_size e
  | xd fs => obtain ⟨_, ⟨_, _, _, e, _⟩, _⟩ := x; exact Heap.lt_size e
  | rng lo hi => obtain ⟨_, _, _, e⟩ := x; exact Heap.lt_size e
  | frz ob u => obtain ⟨e, _⟩ := x; exact Heap.lt_size e
  | tbl ps => exact Heap.lt_size (show h.get? a = some _ from x)
  | met f y => exact Heap.lt_size (show h.get? a = some _ from x)
  | ext φ => obtain ⟨_, ⟨_, e⟩, _⟩ := x; exact Heap.lt_size e
theorem Paired.mapP {α β : Type} {F G : α → β → Prop} : ∀ {l₁ : List α} {l₂ : List β}, Paired F l₁ l₂ → (∀ a b, F a b → G a b) → Paired G l₁ l₂
  | _, _, .nil, _ => .nil
  | _, _, .cons r t, f => .cons (f _ _ r) (Paired.mapP t f)
theorem ObjOk.stay (x : ObjOk P w H h a o) (k : ∀ b u, (b = a ∨ H b = some (.own a)) → h.get? b = some u → h'.get? b = some u)
    (ho : ∀ b, H b = some (.own a) → H' b = some (.own a)) (ht : ∀ b xs, H b = some (.tup xs) → H' b = some (.tup xs)) : ObjOk P w H' h' a o := by
  induction o with
  | lst xs => obtain ⟨z, its, n, r, e⟩ := x; exact ⟨z, its, n, r, k _ _ (.inl rfl) e⟩
  | tup xs => obtain ⟨z, its, r, ob, e, c⟩ := x; exact ⟨z, its, r, ob, k _ _ (.inl rfl) e, c⟩
  | dK kvs => obtain ⟨z, y, vs, r, ob, es, ep, e, c⟩ := x; exact ⟨z, y, vs, r, ob, es, ep, k _ _ (.inl rfl) e, c⟩
  | dT kvs =>
    obtain ⟨z, y, xs, r, ob, es, ep, e, c⟩ := x
    exact ⟨z, y, xs, Paired.mapP r fun p q z => ⟨z.1, ht _ _ z.2.1, z.2.2⟩, ob, es, ep, k _ _ (.inl rfl) e, c⟩
  | set S n => obtain ⟨ob, es, ep, t, e, c⟩ := x; exact ⟨ob, es, ep, t, k _ _ (.inl rfl) e, c⟩
  | ins C dx fs =>
    obtain ⟨d, z, ne, e, mA, ⟨od, es, ep, e2, c⟩, r⟩ := x
    exact ⟨ho _ d, z, ne, k _ _ (.inl rfl) e, mA, ⟨od, es, ep, k _ _ (.inr d) e2, c⟩, r⟩
  | own y => obtain ⟨ob, e⟩ := x; exact ⟨ob, k _ _ (.inl rfl) e⟩
  | xd fs => obtain ⟨mA, ⟨od, es, ep, e, c⟩, r⟩ := x; exact ⟨mA, ⟨od, es, ep, k _ _ (.inl rfl) e, c⟩, r⟩
  | rng lo hi => obtain ⟨t, u, v, e⟩ := x; exact ⟨t, u, v, k _ _ (.inl rfl) e⟩
  | frz ob u ih => obtain ⟨e, q⟩ := x; exact ⟨k _ _ (.inl rfl) e, ih q⟩
  | tbl ps =>
    have e : h.get? a = some { cls := .none, data := .fields ps } := x
    show h'.get? a = some { cls := .none, data := .fields ps }
    exact k a _ (.inl rfl) e
  | met f y =>
    have e : h.get? a = some (PySem.W.methodObj (.ref f) (.ref y)) := x
    show h'.get? a = some (PySem.W.methodObj (.ref f) (.ref y))
    exact k a _ (.inl rfl) e
  | ext φ => obtain ⟨p, ⟨o, e⟩, st⟩ := x; exact ⟨st _ _ p fun o q => k _ _ (.inl rfl) q, ⟨o, k _ _ (.inl rfl) e⟩, st⟩
theorem HOk.lt (x : HOk P w H h) (e : H a = some o) : a < h.objs.size := (x a o e).lt
theorem HOk.fresh (x : HOk P w H h) (e : h.objs.size ≤ a) : H a = none := by
  cases q : H a with
  | none => rfl
  | some u => exact absurd (Nat.lt_of_lt_of_le (x.lt q) e) (Nat.lt_irrefl _)
theorem HOk.kept (x : HOk P w H h) (k : ∀ b u, h.get? b = some u → h'.get? b = some u) : HOk P w H h' := fun a o e =>
  (x a o e).stay (fun b u _ q => k b u q) (fun _ q => q) fun _ _ q => q
theorem HOk.laid (x : HOk P w H h) (k : ∀ b u, h.get? b = some u → h'.get? b = some u) (hp : h.objs.size ≤ a) (new : ObjOk P w (upd H a o) h' a o) : HOk P w (upd H a o) h' := fun b u e => by
  have hn := x.fresh hp
  by_cases hb : b = a
  · subst hb; rw [upd_same] at e; cases e; exact new
  · rw [upd_ne hb] at e
    exact (x b u e).stay (fun c v _ q => k c v q) (fun c q => by rw [upd_ne (ne_of_none q hn)]; exact q) fun c xs q => by rw [upd_ne (ne_of_none q hn)]; exact q
end
noncomputable def Rd (H : Hp) (a : Addr) (u : HO) : Prop := H a = some u ∨ ∃ o, H a = some (.frz o u)
theorem Rd.of {H : Hp} {a : Addr} {u : HO} (h : H a = some u) : Rd H a u := .inl h
theorem Rd.ok {P : Program} {w : World} {H : Hp} {h : Heap} {a : Addr} {u : HO} (r : Rd H a u) (x : HOk P w H h) : ObjOk P w H h a u := by
  rcases r with r | ⟨o, r⟩
  · exact x a u r
  · obtain ⟨_, q⟩ := x a _ r
    exact q
noncomputable def Mut : Option HO → Prop
  | some (.lst _) => True
  | some (.dK _) => True
  | some (.dT _) => True
  | some (.set _ _) => True
  | some (.ins _ _ _) => True
  | some (.ext _) => True
  | _ => False
section
variable {P : Program} {w : World} {H : Hp} {h h' : Heap} {x e : Addr} {o' : HO}
theorem HOk.write (ok : HOk P w H h) (mu : Mut (H x)) (he : e = x ∨ H e = some (.own x)) (k : ∀ b u, b ≠ e → h.get? b = some u → h'.get? b = some u) (heo : ∃ u, h'.get? e = some u)
    (new : ObjOk P w (upd H x o') h' x o') : HOk P w (upd H x o') h' := fun b u q => by
  have nown : ∀ c y, H c = some (.own y) → c ≠ x := fun c y r z => by subst z; rw [r] at mu; exact mu
  have ntup : ∀ c xs, H c = some (.tup xs) → c ≠ x := fun c xs r z => by subst z; rw [r] at mu; exact mu
  by_cases hb : b = x
  · subst hb; rw [upd_same] at q; cases q; exact new
  · rw [upd_ne hb] at q
    by_cases hbe : b = e
    · have q' : H b = some (.own x) := by
        rcases he with z | z
        · exact absurd (hbe.trans z) hb
        · rw [hbe]; exact z
      rw [q] at q'; cases q'
      obtain ⟨v, hv⟩ := heo
      exact ⟨v, by rw [hbe]; exact hv⟩
    · refine (ok b u q).stay (fun c v hc r => k c v ?_ r) (fun c r => by rw [upd_ne (nown c b r)]; exact r) fun c xs r => by rw [upd_ne (ntup c xs r)]; exact r
      rcases hc with rfl | hc
      · exact hbe
      · rintro rfl
        rcases he with z | z
        · exact nown c b hc z
        · rw [hc] at z; cases z; exact hb rfl
end
structure Un (fs ex : List Addr) (H H' : Hp) (h h' : Heap) : Prop where
  keep : ∀ b o, h.get? b = some o → H b = none → b ∉ fs → b ∉ ex → h'.get? b = some o
  slot : ∀ b o, h.get? b = some o → H b = none → b ∈ fs → b ∉ ex → ∃ sl, h'.get? b = some { o with slots := sl }
  free : ∀ b o, h.get? b = some o → H b = none → b ∉ ex → H' b = none
  there : ∀ b o, h.get? b = some o → b ∉ ex → ∃ o', h'.get? b = some o'
  tups : ∀ b xs, H b = some (.tup xs) → H' b = some (.tup xs)
  frzs : ∀ b o u, H b = some (.frz o u) → H' b = some (.frz o u)
  tbls : ∀ b ps, H b = some (.tbl ps) → ∃ more, H' b = some (.tbl (ps ++ more))
section
variable {fs fs' ex ex' : List Addr} {H H1 H2 : Hp} {h h1 h2 h' : Heap} {a x e : Addr} {o : HO}
theorem Un.any (u : Un fs ex H H1 h h1) {b : Addr} {ob : Obj} (q : h.get? b = some ob) (n : H b = none) (hx : b ∉ ex) : ∃ sl, h1.get? b = some { ob with slots := sl } := by
  by_cases hb : b ∈ fs
  · exact u.slot b ob q n hb hx
  · exact ⟨ob.slots, u.keep b ob q n hb hx⟩
theorem Un.trans (a : Un fs ex H H1 h h1) (b : Un fs ex H1 H2 h1 h2) : Un fs ex H H2 h h2 where
  keep := fun c ob q n hc hx => b.keep c ob (a.keep c ob q n hc hx) (a.free c ob q n hx) hc hx
  slot := fun c ob q n hc hx => by
    obtain ⟨sl, e1⟩ := a.slot c ob q n hc hx
    obtain ⟨sl', e2⟩ := b.slot c _ e1 (a.free c ob q n hx) hc hx
    exact ⟨sl', e2⟩
  free := fun c ob q n hx => by
    obtain ⟨o', e1⟩ := a.there c ob q hx
    exact b.free c o' e1 (a.free c ob q n hx) hx
  there := fun c ob q hx => by
    obtain ⟨o', e1⟩ := a.there c ob q hx
    exact b.there c o' e1 hx
  tups := fun c xs q => b.tups c xs (a.tups c xs q)
  frzs := fun c ob xs q => b.frzs c ob xs (a.frzs c ob xs q)
  tbls := fun c ps q => by
    obtain ⟨m1, e1⟩ := a.tbls c ps q
    obtain ⟨m2, e2⟩ := b.tbls c _ e1
    exact ⟨m1 ++ m2, by rw [e2, Array.append_assoc]⟩
theorem Un.kept (k : ∀ b u, h.get? b = some u → h'.get? b = some u) : Un fs ex H H h h' :=
  ⟨fun b ob q _ _ _ => k b ob q, fun b ob q _ _ _ => ⟨ob.slots, k b ob q⟩, fun _ _ _ n _ => n, fun b ob q _ => ⟨ob, k b ob q⟩, fun _ _ q => q, fun _ _ _ q => q, fun _ ps q => ⟨#[], by rw [q]; simp⟩⟩
theorem Un.refl : Un fs ex H H h h := Un.kept fun _ _ q => q
theorem Un.laid (k : ∀ b u, h.get? b = some u → h'.get? b = some u) (hp : h.objs.size ≤ a) (hn : H a = none) : Un fs ex H (upd H a o) h h' where
  keep := fun b u q _ _ _ => k b u q
  slot := fun b u q _ _ _ => ⟨u.slots, k b u q⟩
  free := fun b u q n _ => by rw [upd_ne (Nat.ne_of_lt (Nat.lt_of_lt_of_le (Heap.lt_size q) hp))]; exact n
  there := fun b u q _ => ⟨u, k b u q⟩
  tups := fun b xs q => by rw [upd_ne (ne_of_none q hn)]; exact q
  frzs := fun b u xs q => by rw [upd_ne (ne_of_none q hn)]; exact q
  tbls := fun b ps q => ⟨#[], by rw [upd_ne (ne_of_none q hn), q]; simp⟩
theorem Un.write (mu : Mut (H x)) (he : e = x ∨ H e = some (.own x)) (k : ∀ b u, b ≠ e → h.get? b = some u → h'.get? b = some u) (heo : ∃ u, h'.get? e = some u) : Un fs ex H (upd H x o) h h' := by
  have hx : ∀ b, H b = none → b ≠ x := fun b n z => by subst z; rw [n] at mu; exact mu
  have hb : ∀ b, H b = none → b ≠ e := fun b n z => by
    subst z
    rcases he with r | r
    · exact hx b n r
    · rw [n] at r; cases r
  have hm : ∀ b u, H b = some u → ¬ Mut (some u) → b ≠ x := fun b u q nm z => by subst z; rw [q] at mu; exact nm mu
  refine ⟨fun b u q n _ _ => k b u (hb b n) q, fun b u q n _ _ => ⟨u.slots, k b u (hb b n) q⟩, fun b u q n _ => by rw [upd_ne (hx b n)]; exact n, fun b u q _ => ?_,
    fun b xs q => by rw [upd_ne (hm b _ q fun z => z)]; exact q, fun b u xs q => by rw [upd_ne (hm b _ q fun z => z)]; exact q, fun b ps q => ⟨#[], by rw [upd_ne (hm b _ q fun z => z), q]; simp⟩⟩
  by_cases hbe : b = e
  · subst hbe; exact heo
  · exact ⟨u, k b u hbe q⟩
theorem Un.mono (u : Un fs ex H H1 h h1) (hs : ∀ b ∈ fs, b ∈ fs') (hx : ∀ b ∈ ex, b ∈ ex') : Un fs' ex' H H1 h h1 :=
  ⟨fun b ob q n hb he => u.keep b ob q n (fun z => hb (hs b z)) fun z => he (hx b z), fun _ _ q n _ he => u.any q n fun z => he (hx _ z), fun b ob q n he => u.free b ob q n fun z => he (hx b z), fun b ob q he => u.there b ob q fun z => he (hx b z), u.tups, u.frzs, u.tbls⟩
end
noncomputable def trk (h : Heap) (H : Hp) : List Addr := (List.range h.objs.size).filter fun a => (H a).isSome
noncomputable def hidT (h : Heap) (H : Hp) : Heap := PySem.W.hideAll h (trk h H)
theorem hidT_size (h : Heap) (H : Hp) : (hidT h H).objs.size = h.objs.size := PySem.W.hideAll_size _ _
theorem hidT_get {h : Heap} {H : Hp} {b : Addr} {o : Obj} (e : h.get? b = some o) (n : H b = none) : (hidT h H).get? b = some o :=
  PySem.W.hideAll_get _ e fun hm => by
    have q : (H b).isSome = true := (List.mem_filter.mp hm).2
    rw [n] at q; simp at q
theorem of_hidT {h : Heap} {H : Hp} {b : Addr} {o : Obj} (e : (hidT h H).get? b = some o) : h.get? b = some o ∧ H b = none := by
  have e' : h.get? b = some o := PySem.W.of_hideAll (trk h H) e
  refine ⟨e', ?_⟩
  cases q : H b with
  | none => rfl
  | some x =>
    have hm : b ∈ trk h H := List.mem_filter.mpr ⟨List.mem_range.mpr (Heap.lt_size e'), by simp [q]⟩
    have z : (hidT h H).get? b = none := PySem.W.hideAll_none (trk h H) hm
    rw [z] at e; cases e
noncomputable def allNews (g h : Heap) (L : Addr) : List (Addr × Obj) := (List.range h.objs.size).filterMap fun a => if a = L ∨ (g.get? a).isSome = true then none else (h.get? a).map fun o => (a, o)
noncomputable def rest (g h : Heap) (L d : Addr) : List (Addr × Obj) := (allNews g h L).filter fun p => decide (p.1 ≠ d)
end L2
namespace L2
open PySem PySem.Spec PyProof.Rows
structure Mod (K : PySem.W.Frag) (mg : Str → Option Value) (base : Heap) : Prop where
  kin : K.In base
  glob : base.Ns mainGlobals mg
  blt : ∃ mb, base.Ns builtinsNs mb ∧ ∀ x : Str, x ≠ "__name__" → mb x = bootBuiltins x
  nolimit : base.NoLimit
structure Cx where
  prog : Program
  w : World
  K : PySem.W.Frag
  mg : Str → Option Value
  base : Heap
  A : Around
  N : List Str
  s₀ : Shared
  H₀ : Hp
  env : Env
  outer : List Env
  stack : List Env
  ex : List Addr
  fn : Str → Bool
  calm : Bool
  pn : List (Addr × Obj)
  xe : Value → Shared → Prop
noncomputable def frs (l : List Env) : List Addr := l.filterMap (·.frame)
noncomputable abbrev Cx.fs (X : Cx) : List Addr := frs X.outer
noncomputable def Vis (sc : Scope) (x : Str) : Prop := sc.names.lookup x = some .local ∨ sc.names.lookup x = some .cell ∨ sc.names.lookup x = some .free
noncomputable def Loc (sc : Scope) (x : Str) : Prop := sc.names.lookup x = some .local ∨ sc.names.lookup x = some .cell
noncomputable def Look (env : Env) (h : Heap) (m : Str → Option Value) (x : Str) (u : Value) : Prop :=
  (env.kindOf x = some .local ∧ m x = some u) ∨ ((env.kindOf x = some .cell ∨ env.kindOf x = some .free) ∧ ∃ c, env.cells.lookup x = some c ∧ h.IsCell c (some u))
structure Cx.Ok (X : Cx) : Prop where
  mod : Mod X.K X.mg X.base
  kind : X.env.scope.kind = .function
  glob : X.env.globals = mainGlobals
  blt : X.env.builtins = builtinsNs
  above : X.s₀.heap.objs.size ≤ X.env.locals
  inj : ∀ x y c, X.env.cells.lookup x = some c → X.env.cells.lookup y = some c → x = y
  has : ∀ x, (X.env.kindOf x = some .cell ∨ X.env.kindOf x = some .free) → ∃ c, X.env.cells.lookup x = some c
  cab : ∀ x c, X.fn x = true → X.env.cells.lookup x = some c → X.s₀.heap.objs.size ≤ c
  hd : X.calm = true → X.A.handled = none
  frames : X.A.frames = some X.stack
  stk : X.stack = X.outer ∨ (X.stack = X.env :: X.outer ∧ X.env.frame = some X.env.locals)
  exf : ∀ b ∈ X.ex, b ≠ X.env.locals ∧ ∀ x c, X.env.cells.lookup x = some c → c ≠ b
  bs : ∀ b o, X.base.get? b = some o → X.s₀.heap.get? b = some o ∧ X.H₀ b = none
  bsz : X.base.objs.size ≤ X.s₀.heap.objs.size
  noex : ∀ b o, X.base.get? b = some o → b ∉ X.ex
  exfs : ∀ b ∈ X.ex, b ∉ X.fs
  funs : X.s₀.heap.FunFrames X.base X.outer
  frf : ∀ b ∈ X.fs, X.H₀ b = none
structure Inv (X : Cx) (pins : List (Addr × Obj)) (σ : List (Option V)) (H : Hp) (s : Shared) : Prop where
  ok : X.Ok
  os : s.os = X.s₀.os
  bare : AllBare s.gens
  base : Un X.fs X.ex X.H₀ H X.s₀.heap s.heap
  loc : ∃ m, s.heap.Ns X.env.locals m ∧ ∀ (i : Nat) (x : Str) (v : V), X.N[i]? = some x → σ[i]? = some (some v) → Vis X.env.scope x → ∃ u, RelV v u ∧ Look X.env s.heap m x u
  cell : ∀ x c, X.env.cells.lookup x = some c → ∃ v, s.heap.IsCell c v
  free : H X.env.locals = none
  freeC : ∀ x c, X.env.cells.lookup x = some c → H c = none
  pin : ∀ p ∈ X.pn ++ pins, s.heap.get? p.1 = some p.2 ∧ H p.1 = none ∧ p.1 ≠ X.env.locals ∧ p.1 ∉ X.fs ∧ ∀ v, p.2.data ≠ .cell v
  hok : HOk X.prog X.w H s.heap
  len : σ.length = X.N.length
section
variable {X : Cx} {pins : List (Addr × Obj)} {σ : List (Option V)} {H H' : Hp} {s : Shared} {h' : Heap}
theorem Cx.Ok.nofr (ok : X.Ok) {b : Addr} {o : Obj} (e : X.base.get? b = some o) : b ∉ X.fs := fun hb => by
  have := (ok.funs.mem hb).1
  rw [e] at this; cases this
theorem Inv.bs (I : Inv X pins σ H s) : ∀ b o, X.base.get? b = some o → s.heap.get? b = some o ∧ H b = none := fun b o e =>
  ⟨I.base.keep b o (I.ok.bs b o e).1 (I.ok.bs b o e).2 (I.ok.nofr e) (I.ok.noex b o e), I.base.free b o (I.ok.bs b o e).1 (I.ok.bs b o e).2 (I.ok.noex b o e)⟩
theorem Inv.bk (I : Inv X pins σ H s) : ∀ b o, X.base.get? b = some o → s.heap.get? b = some o := fun b o e => (I.bs b o e).1
theorem Inv.mod (I : Inv X pins σ H s) : Mod X.K X.mg X.base := I.ok.mod
theorem Inv.kIn (I : Inv X pins σ H s) : X.K.In s.heap := I.ok.mod.kin.keeps I.bk
theorem Inv.nolimit (I : Inv X pins σ H s) : s.heap.NoLimit := I.ok.mod.nolimit.keeps I.bk
theorem Inv.fr (I : Inv X pins σ H s) : ∃ m, Fr X.base X.env.locals s.heap m :=
  let ⟨m, hn, _⟩ := I.loc
  ⟨m, hn, I.bk, Nat.le_trans I.ok.bsz I.ok.above⟩
theorem Inv.lt (I : Inv X pins σ H s) : X.env.locals < s.heap.objs.size := let ⟨_, hn, _⟩ := I.loc; hn.lt
theorem Inv.sz (I : Inv X pins σ H s) : X.s₀.heap.objs.size ≤ s.heap.objs.size := Nat.le_trans I.ok.above (Nat.le_of_lt I.lt)
theorem Inv.nofs (I : Inv X pins σ H s) {a : Addr} (h : s.heap.objs.size ≤ a) : a ∉ X.fs := fun hb => by
  obtain ⟨_, o, ho, _⟩ := I.ok.funs.mem hb
  exact absurd (Nat.lt_of_lt_of_le (Heap.lt_size ho) (Nat.le_trans I.sz h)) (Nat.lt_irrefl _)
theorem Inv.cne (I : Inv X pins σ H s) : ∀ x c, X.env.cells.lookup x = some c → c ≠ X.env.locals := fun x c e z => by
  obtain ⟨v, o, ho, hd⟩ := I.cell x c e
  obtain ⟨m, ⟨o', es, ep, ho', hd', _⟩, _⟩ := I.loc
  rw [z, ho'] at ho; cases ho; rw [hd'] at hd; cases hd
theorem Inv.funs (I : Inv X pins σ H s) : s.heap.FunFrames X.base X.outer := by
  have all : ∀ (l : List Env), (∀ b ∈ frs l, b ∈ X.fs) → X.s₀.heap.FunFrames X.base l → s.heap.FunFrames X.base l := by
    intro l
    induction l with
    | nil => intro _ _; trivial
    | cons env r ih =>
      intro hs hl
      obtain ⟨hk, ⟨L, o, hf, hn, ho, hd⟩, hr⟩ := hl
      have hL : L ∈ X.fs := hs L (by unfold frs; rw [List.filterMap_cons, hf]; exact List.mem_cons_self)
      obtain ⟨sl, e⟩ := I.base.slot L o ho (I.ok.frf L hL) hL fun z => I.ok.exfs L z hL
      exact ⟨hk, ⟨L, _, hf, hn, e, hd⟩, ih (fun b hb => hs b (by unfold frs; rw [List.filterMap_cons, hf]; exact List.mem_cons_of_mem _ hb)) hr⟩
  exact all X.outer (fun _ hb => hb) I.ok.funs
theorem Inv.stack (I : Inv X pins σ H s) : s.heap.FunFrames X.base X.stack := by
  rcases I.ok.stk with e | ⟨e, hf⟩
  · rw [e]; exact I.funs
  · rw [e]
    obtain ⟨m, hn, _⟩ := I.loc
    refine .cons (by rw [I.ok.kind]; decide) hf hn ?_ I.funs
    exact Heap.get?_none_of_le (Nat.le_trans I.ok.bsz I.ok.above)
theorem Inv.stkSub (I : Inv X pins σ H s) : ∀ b ∈ frs X.stack, b ∈ X.env.locals :: X.fs := fun b hb => by
  rcases I.ok.stk with e | ⟨e, hf⟩
  · rw [e] at hb; exact List.mem_cons_of_mem _ hb
  · rw [e] at hb
    unfold frs at hb
    rw [List.filterMap_cons, hf] at hb
    exact hb
theorem Inv.stkFree (I : Inv X pins σ H s) : ∀ b ∈ frs X.stack, H b = none := fun b hb => by
  rcases List.mem_cons.mp (I.stkSub b hb) with e | hb
  · rw [e]; exact I.free
  · obtain ⟨_, o, ho, _⟩ := I.ok.funs.mem hb
    exact I.base.free b o ho (I.ok.frf b hb) fun z => I.ok.exfs b z hb
theorem Inv.step {g' : Array GenState} {t' : Nat} {d' : Drawn} {ch : List Addr} (I : Inv X pins σ H s)
    (hch : ∀ b ∈ ch, (b ∈ X.ex ∨ X.s₀.heap.objs.size ≤ b) ∧ b ≠ X.env.locals ∧ (∀ x c, X.env.cells.lookup x = some c → c ≠ b) ∧ ∀ p ∈ X.pn ++ pins, p.1 ≠ b)
    (keep : ∀ b o, b ≠ X.env.locals → b ∉ X.fs → b ∉ ch → s.heap.get? b = some o → H b = none → h'.get? b = some o)
    (slot : ∀ b o, b ≠ X.env.locals → b ∈ X.fs → b ∉ ch → s.heap.get? b = some o → H b = none → ∃ sl, h'.get? b = some { o with slots := sl }) (free : ∀ b o, b ∉ ch → s.heap.get? b = some o → H b = none → H' b = none)
    (there : ∀ b o, b ∉ ch → s.heap.get? b = some o → ∃ o', h'.get? b = some o')
    (tups : ∀ b xs, H b = some (.tup xs) → H' b = some (.tup xs)) (frzs : ∀ b o u, H b = some (.frz o u) → H' b = some (.frz o u)) (tbls : ∀ b ps, H b = some (.tbl ps) → ∃ more, H' b = some (.tbl (ps ++ more)))
    (ns : ∀ m, s.heap.Ns X.env.locals m → h'.Ns X.env.locals m) (hok : HOk X.prog X.w H' h') (hg : AllBare g') :
    Inv X pins σ H' { s with heap := h', gens := g', drawn := d', toks := t' } := by
  have neL : ∀ b o, X.s₀.heap.get? b = some o → b ≠ X.env.locals := fun b o e => Nat.ne_of_lt (Nat.lt_of_lt_of_le (Heap.lt_size e) I.ok.above)
  have neC : ∀ b o, X.s₀.heap.get? b = some o → b ∉ X.ex → b ∉ ch := fun b o e hx hb => by
    rcases (hch b hb).1 with z | z
    · exact hx z
    · exact absurd (Nat.lt_of_lt_of_le (Heap.lt_size e) z) (Nat.lt_irrefl _)
  have cellK : ∀ x c, X.env.cells.lookup x = some c → ∀ v, s.heap.IsCell c v → h'.IsCell c v := fun x c e v ⟨o, ho, hd⟩ => by
    have nch : c ∉ ch := fun z => (hch c z).2.2.1 x c e rfl
    by_cases hc : c ∈ X.fs
    · obtain ⟨sl, q⟩ := slot c o (I.cne x c e) hc nch ho (I.freeC x c e)
      exact ⟨_, q, hd⟩
    · exact ⟨o, keep c o (I.cne x c e) hc nch ho (I.freeC x c e), hd⟩
  refine ⟨I.ok, I.os, hg, ⟨fun b o e n hb hx => ?_, fun b o e n hb hx => ?_, fun b o e n hx => ?_, fun b o e hx => ?_, fun b xs e => tups b xs (I.base.tups b xs e), fun b o xs e => frzs b o xs (I.base.frzs b o xs e), fun b ps e => ?_⟩, ?_, fun x c e => ?_, ?_, fun x c e => ?_, fun p hp => ?_, hok, I.len⟩
  · exact keep b o (neL b o e) hb (neC b o e hx) (I.base.keep b o e n hb hx) (I.base.free b o e n hx)
  · obtain ⟨sl, e1⟩ := I.base.slot b o e n hb hx
    obtain ⟨sl', e2⟩ := slot b _ (neL b o e) hb (neC b o e hx) e1 (I.base.free b o e n hx)
    exact ⟨sl', e2⟩
  · obtain ⟨o', e1⟩ := I.base.there b o e hx
    exact free b o' (neC b o e hx) e1 (I.base.free b o e n hx)
  · obtain ⟨o', e1⟩ := I.base.there b o e hx
    exact there b o' (neC b o e hx) e1
  · obtain ⟨m1, e1⟩ := I.base.tbls b ps e
    obtain ⟨m2, e2⟩ := tbls b _ e1
    exact ⟨m1 ++ m2, by rw [e2, Array.append_assoc]⟩
  · obtain ⟨m, hn, hl⟩ := I.loc
    refine ⟨m, ns m hn, fun i x v e1 e2 e3 => ?_⟩
    obtain ⟨u, r, l⟩ := hl i x v e1 e2 e3
    refine ⟨u, r, ?_⟩
    rcases l with l | ⟨k, c, e, z⟩
    · exact .inl l
    · exact .inr ⟨k, c, e, cellK x c e _ z⟩
  · obtain ⟨v, z⟩ := I.cell x c e
    exact ⟨v, cellK x c e v z⟩
  · obtain ⟨m, ⟨o, _, _, ho, _⟩, _⟩ := I.loc
    exact free _ o (fun z => (hch _ z).2.1 rfl) ho I.free
  · obtain ⟨v, o, ho, hd⟩ := I.cell x c e
    exact free c o (fun z => (hch c z).2.2.1 x c e rfl) ho (I.freeC x c e)
  · obtain ⟨e, n, ne, nf, d⟩ := I.pin p hp
    have nch : p.1 ∉ ch := fun z => (hch p.1 z).2.2.2 p hp rfl
    exact ⟨keep p.1 p.2 ne nf nch e n, free p.1 p.2 nch e n, ne, nf, d⟩
theorem Inv.un {t' : Nat} (I : Inv X pins σ H s) (u : Un X.fs [] H H' s.heap h') (hok : HOk X.prog X.w H' h') : Inv X pins σ H' { s with heap := h', toks := t' } := by
  obtain ⟨m, ⟨o, es, ep, ho, r⟩, _⟩ := id I.loc
  obtain ⟨sl, hL⟩ := u.any ho I.free (by simp)
  exact I.step (g' := s.gens) (d' := s.drawn) (ch := []) (fun _ z => nomatch z) (fun b o _ hb _ e n => u.keep b o e n hb (by simp)) (fun b o _ hb _ e n => u.slot b o e n hb (by simp)) (fun b o _ e n => u.free b o e n (by simp)) (fun b o _ e => u.there b o e (by simp)) u.tups u.frzs u.tbls (fun m' hm => by
    obtain ⟨o', es', ep', ho', r'⟩ := hm
    rw [ho] at ho'; cases ho'
    exact ⟨_, es', ep', hL, r'⟩) hok I.bare
theorem Inv.call {g' : Array GenState} {t' : Nat} {d' : Drawn} {ch : List Addr} (I : Inv X pins σ H s) (u : Un (frs X.stack) ch H H' s.heap h') (hok : HOk X.prog X.w H' h') (hg : AllBare g')
    (hch : ∀ b ∈ ch, (b ∈ X.ex ∨ X.s₀.heap.objs.size ≤ b) ∧ b ≠ X.env.locals ∧ (∀ x c, X.env.cells.lookup x = some c → c ≠ b) ∧ ∀ p ∈ X.pn ++ pins, p.1 ≠ b) :
    Inv X pins σ H' { s with heap := h', gens := g', drawn := d', toks := t' } := by
  obtain ⟨m, ⟨o, es, ep, ho, r⟩, _⟩ := id I.loc
  obtain ⟨sl, hL⟩ := u.any ho I.free fun z => (hch _ z).2.1 rfl
  exact I.step (ch := ch) hch (fun b o hL hb hc e n => u.keep b o e n (fun z => (List.mem_cons.mp (I.stkSub b z)).elim hL hb) hc) (fun b o _ _ hc e n => u.any e n hc) (fun b o hc e n => u.free b o e n hc) (fun b o hc e => u.there b o e hc) u.tups u.frzs u.tbls (fun m' hm => by
    obtain ⟨o', es', ep', ho', r'⟩ := hm
    rw [ho] at ho'; cases ho'
    exact ⟨_, es', ep', hL, r'⟩) hok hg
theorem Inv.turned {t' : Nat} {it : Addr} (I : Inv X pins σ H s) (k : ∀ b o, b ≠ it → s.heap.get? b = some o → h'.get? b = some o) (hn : H it = none) (hL : it ≠ X.env.locals)
    (h1 : it ∈ X.ex ∨ X.s₀.heap.objs.size ≤ it) (h2 : ∀ x c, X.env.cells.lookup x = some c → c ≠ it) (h3 : ∀ p ∈ X.pn ++ pins, p.1 ≠ it) : Inv X pins σ H { s with heap := h', toks := t' } := by
  have nit : ∀ b u, H b = some u → b ≠ it := fun b u e z => by rw [z, hn] at e; cases e
  refine I.step (g' := s.gens) (d' := s.drawn) (ch := [it]) (fun b hb => ?_) (fun b o _ _ hc e _ => k b o (fun z => hc (by simp [z])) e) (fun b o _ _ hc e _ => ⟨o.slots, k b o (fun z => hc (by simp [z])) e⟩) (fun _ _ _ _ n => n)
    (fun b o hc e => ⟨o, k b o (fun z => hc (by simp [z])) e⟩) (fun _ _ e => e) (fun _ _ _ e => e) (fun b ps e => ⟨#[], by rw [e]; simp⟩) (fun m hm => ?_) (fun b u e => ?_) I.bare
  · have e : b = it := by simpa using hb
    subst e
    exact ⟨h1, hL, h2, h3⟩
  · obtain ⟨o, es, ep, ho, r⟩ := hm
    exact ⟨o, es, ep, k _ o (Ne.symm hL) ho, r⟩
  · refine (I.hok b u e).stay (fun c v hc q => k c v ?_ q) (fun _ q => q) fun _ _ q => q
    rcases hc with z | z
    · rw [z]; exact nit b u e
    · exact nit c _ z
theorem Inv.tok (I : Inv X pins σ H s) (t : Nat) : Inv X pins σ H { s with toks := t } := I.un (h' := s.heap) (t' := t) Un.refl I.hok
theorem Inv.kept {t' : Nat} (I : Inv X pins σ H s) (k : ∀ b u, s.heap.get? b = some u → h'.get? b = some u) : Inv X pins σ H { s with heap := h', toks := t' } := I.un (Un.kept k) (I.hok.kept k)
theorem Inv.laid {a : Addr} {o : HO} {t' : Nat} (I : Inv X pins σ H s) (k : ∀ b u, s.heap.get? b = some u → h'.get? b = some u) (hp : s.heap.objs.size ≤ a) (new : ObjOk X.prog X.w (upd H a o) h' a o) :
    Inv X pins σ (upd H a o) { s with heap := h', toks := t' } := I.un (Un.laid k hp (I.hok.fresh hp)) (I.hok.laid k hp new)
theorem Inv.write {x e : Addr} {o : HO} {t' : Nat} (I : Inv X pins σ H s) (mu : Mut (H x)) (he : e = x ∨ H e = some (.own x)) (k : ∀ b u, b ≠ e → s.heap.get? b = some u → h'.get? b = some u) (heo : ∃ u, h'.get? e = some u)
    (new : ObjOk X.prog X.w (upd H x o) h' x o) : Inv X pins σ (upd H x o) { s with heap := h', toks := t' } := I.un (Un.write mu he k heo) (I.hok.write mu he k heo new)
theorem Inv.pins_of {pins' : List (Addr × Obj)} (I : Inv X pins σ H s) (h : ∀ p ∈ pins', s.heap.get? p.1 = some p.2 ∧ H p.1 = none ∧ p.1 ≠ X.env.locals ∧ p.1 ∉ X.fs ∧ ∀ v, p.2.data ≠ .cell v) : Inv X pins' σ H s :=
  ⟨I.ok, I.os, I.bare, I.base, I.loc, I.cell, I.free, I.freeC, fun p hp => (List.mem_append.mp hp).elim (fun z => I.pin p (List.mem_append_left _ z)) (h p), I.hok, I.len⟩
theorem nodup_ix {N : List Str} (hN : N.Nodup) {i j : Nat} {x : Str} (a : N[i]? = some x) (b : N[j]? = some x) : i = j := by
  obtain ⟨h1, e1⟩ := List.getElem?_eq_some_iff.mp a
  obtain ⟨h2, e2⟩ := List.getElem?_eq_some_iff.mp b
  exact (List.getElem_inj hN).mp (e1.trans e2.symm)
theorem store_ok2 {M : Model} {A : Around} {E : Value → Shared → Prop} {i : Nat} {x : Str} {v : V} {u : Value} {Q : Unit → Shared → Prop} (I : Inv X pins σ H s) (hN : X.N.Nodup) (hi : X.N[i]? = some x) (hx : Loc X.env.scope x) (r : RelV v u)
    (h : ∀ s', Inv X pins (σ.set i (some v)) H s' → (∃ a, Heap.SameBut a s.heap s'.heap ∧ (a = X.env.locals ∨ X.env.cells.lookup x = some a)) → Q () s') (hf : X.fn x = true ∨ X.env.scope.names.lookup x = some .local := by first | exact .inl rfl | exact .inr rfl | assumption) : wpAny M A (storeName X.env x u) Q E s := by
  obtain ⟨m, hn, hl⟩ := id I.loc
  have hcls : (X.env.scope.kind == .class || (X.env.scope.kind == .module && X.env.locals != X.env.globals)) = false := by rw [I.ok.kind]; rfl
  have hiσ : i < σ.length := by rw [I.len]; exact (List.getElem?_eq_some_iff.mp hi).1
  have cne := I.cne
  have tracked : ∀ {a : Addr} {h' : Heap}, (∃ o, s.heap.get? a = some o ∧ H a = none) → Heap.SameBut a s.heap h' → HOk X.prog X.w H h' := fun {a h'} ha hs b ob e => by
    obtain ⟨_, _, hfree⟩ := ha
    refine (I.hok b ob e).stay (fun c w' hc q => (hs.2 c ?_).trans q) (fun _ q => q) fun _ _ q => q
    rintro rfl
    rcases hc with rfl | hc
    · rw [hfree] at e; cases e
    · rw [hfree] at hc; cases hc
  rcases hx with hk | hk
  · refine wpAny_storeName_local hk hn (fun h' hn' hs => ?_) hcls
    obtain ⟨oL, _, _, hoL, _⟩ := id hn
    refine h _ ⟨I.ok, I.os, I.bare, ⟨fun b o e n hb hx => ?_, fun b o e n hb hx => ?_, I.base.free, fun b o e hx => ?_, I.base.tups, I.base.frzs, I.base.tbls⟩, ⟨_, hn', fun j y v' e1 e2 e3 => ?_⟩, fun y c e => ?_, I.free, I.freeC, fun p hp => ?_, tracked ⟨oL, hoL, I.free⟩ hs, by simpa using I.len⟩ ⟨_, hs, .inl rfl⟩
    · exact (hs.2 b (Nat.ne_of_lt (Nat.lt_of_lt_of_le (Heap.lt_size e) I.ok.above))).trans (I.base.keep b o e n hb hx)
    · obtain ⟨sl, e1⟩ := I.base.slot b o e n hb hx
      exact ⟨sl, (hs.2 b (Nat.ne_of_lt (Nat.lt_of_lt_of_le (Heap.lt_size e) I.ok.above))).trans e1⟩
    · obtain ⟨o', e1⟩ := I.base.there b o e hx
      exact ⟨o', (hs.2 b (Nat.ne_of_lt (Nat.lt_of_lt_of_le (Heap.lt_size e) I.ok.above))).trans e1⟩
    · by_cases hj : j = i
      · subst hj
        rw [hi] at e1; cases e1
        rw [List.getElem?_set_self hiσ] at e2
        cases e2
        exact ⟨u, r, .inl ⟨hk, by simp⟩⟩
      · rw [List.getElem?_set_ne (Ne.symm hj)] at e2
        obtain ⟨u', r', q⟩ := hl j y v' e1 e2 e3
        refine ⟨u', r', ?_⟩
        rcases q with ⟨k, e⟩ | ⟨k, c, e, z⟩
        · refine .inl ⟨k, ?_⟩
          have : y ≠ x := fun e => hj (nodup_ix hN e1 (e ▸ hi))
          simp [this, e]
        · exact .inr ⟨k, c, e, z.sameBut hs (cne y c e)⟩
    · obtain ⟨w', z⟩ := I.cell y c e
      exact ⟨w', z.sameBut hs (cne y c e)⟩
    · obtain ⟨e, n, ne, nf, d⟩ := I.pin p hp
      exact ⟨(hs.2 p.1 ne).trans e, n, ne, nf, d⟩
  · have hfn : X.fn x = true := by
      rcases hf with z | z
      · exact z
      · rw [z] at hk; cases hk
    obtain ⟨c, hc⟩ := I.ok.has x (.inl hk)
    obtain ⟨w', z⟩ := I.cell x c hc
    refine wpAny_storeName_cell I.ok.kind hk hc z (fun h' hc' hs => ?_)
    obtain ⟨oc, hoc, hocd⟩ := id z
    refine h { s with heap := h' } ⟨I.ok, I.os, I.bare, ⟨fun b o e n hb hx => ?_, fun b o e n hb hx => ?_, I.base.free, fun b o e hx => ?_, I.base.tups, I.base.frzs, I.base.tbls⟩, ⟨m, hn.sameBut hs (Ne.symm (cne x c hc)), fun j y v' e1 e2 e3 => ?_⟩, fun y c' e => ?_, I.free, I.freeC, fun p hp => ?_, tracked ⟨oc, hoc, I.freeC x c hc⟩ hs, by simpa using I.len⟩ ⟨c, hs, .inr hc⟩
    · exact (hs.2 b (Nat.ne_of_lt (Nat.lt_of_lt_of_le (Heap.lt_size e) (I.ok.cab x c hfn hc)))).trans (I.base.keep b o e n hb hx)
    · obtain ⟨sl, e1⟩ := I.base.slot b o e n hb hx
      exact ⟨sl, (hs.2 b (Nat.ne_of_lt (Nat.lt_of_lt_of_le (Heap.lt_size e) (I.ok.cab x c hfn hc)))).trans e1⟩
    · obtain ⟨o', e1⟩ := I.base.there b o e hx
      exact ⟨o', (hs.2 b (Nat.ne_of_lt (Nat.lt_of_lt_of_le (Heap.lt_size e) (I.ok.cab x c hfn hc)))).trans e1⟩
    · by_cases hj : j = i
      · subst hj
        rw [hi] at e1; cases e1
        rw [List.getElem?_set_self hiσ] at e2
        cases e2
        exact ⟨u, r, .inr ⟨.inl hk, c, hc, hc'⟩⟩
      · rw [List.getElem?_set_ne (Ne.symm hj)] at e2
        obtain ⟨u', r', q⟩ := hl j y v' e1 e2 e3
        refine ⟨u', r', ?_⟩
        rcases q with q | ⟨k, c', e, z'⟩
        · exact .inl q
        · refine .inr ⟨k, c', e, z'.sameBut hs ?_⟩
          rintro rfl
          exact hj (nodup_ix hN e1 (I.ok.inj _ _ _ e hc ▸ hi))
    · by_cases hcc : c' = c
      · subst hcc; exact ⟨_, hc'⟩
      · obtain ⟨w2, z2⟩ := I.cell y c' e
        exact ⟨w2, z2.sameBut hs hcc⟩
    · obtain ⟨e, n, ne, nf, d⟩ := I.pin p hp
      refine ⟨(hs.2 p.1 ?_).trans e, n, ne, nf, d⟩
      intro q
      rw [q, hoc] at e
      have q' : oc = p.2 := Option.some.inj e
      exact d w' (by rw [← q']; exact hocd)
theorem store_ok {M : Model} {A : Around} {E : Value → Shared → Prop} {i : Nat} {x : Str} {v : V} {u : Value} {Q : Unit → Shared → Prop} (I : Inv X pins σ H s) (hN : X.N.Nodup) (hi : X.N[i]? = some x) (hx : Loc X.env.scope x) (r : RelV v u)
    (h : ∀ s', Inv X pins (σ.set i (some v)) H s' → Q () s') (hf : X.fn x = true ∨ X.env.scope.names.lookup x = some .local := by first | exact .inl rfl | exact .inr rfl | assumption) : wpAny M A (storeName X.env x u) Q E s :=
  store_ok2 I hN hi hx r (fun s' I' _ => h s' I') hf
theorem Inv.call' {s' : Shared} {ch : List Addr} (I : Inv X pins σ H s) (ho : s'.os = s.os) (u : Un (frs X.stack) ch H H' s.heap s'.heap) (hok : HOk X.prog X.w H' s'.heap) (hg : AllBare s'.gens)
    (hch : ∀ b ∈ ch, (b ∈ X.ex ∨ X.s₀.heap.objs.size ≤ b) ∧ b ≠ X.env.locals ∧ (∀ x c, X.env.cells.lookup x = some c → c ≠ b) ∧ ∀ p ∈ X.pn ++ pins, p.1 ≠ b) : Inv X pins σ H' s' := by
  obtain ⟨h', g', d', t', o'⟩ := s'
  have e : o' = s.os := ho
  subst e
  exact I.call (g' := g') (t' := t') (d' := d') u hok hg hch
end
noncomputable abbrev XK := Value → Option Addr → Hp → Prop
noncomputable abbrev St := List (Option V)
noncomputable abbrev VK := V → Hp → Prop
noncomputable abbrev TE := St → Hp → VK → Prop
noncomputable abbrev TT := St → Hp → (Bool → Hp → Prop) → Prop
noncomputable abbrev TA := St → Hp → (List V → Hp → Prop) → Prop
structure Ends where
  nx : St → Hp → Prop
  rt : VK
  bk : St → Hp → Prop := fun _ _ => False
  ct : St → Hp → Prop := fun _ _ => False
noncomputable abbrev TS := Ends → St → Hp → Prop
noncomputable def EP (X : Cx) (pins : List (Addr × Obj)) (σ : St) (Q : VK) (u : Value) (s' : Shared) : Prop := ∃ v H', Inv X pins σ H' s' ∧ RelV v u ∧ Q v H'
noncomputable def TP (X : Cx) (pins : List (Addr × Obj)) (σ : St) (Q : Bool → Hp → Prop) (b : Bool) (s' : Shared) : Prop := ∃ H', Inv X pins σ H' s' ∧ Q b H'
noncomputable def AP (X : Cx) (pins : List (Addr × Obj)) (σ : St) (Q : List V → Hp → Prop) (us : List Value) (s' : Shared) : Prop := ∃ vs H', Inv X pins σ H' s' ∧ Vals vs us ∧ Q vs H'
noncomputable def SP (X : Cx) (pins : List (Addr × Obj)) (D : Ends) (f : Flow) (s' : Shared) : Prop :=
  match f with
  | .next => ∃ σ' H', Inv X pins σ' H' s' ∧ D.nx σ' H'
  | .brk => ∃ σ' H', Inv X pins σ' H' s' ∧ D.bk σ' H'
  | .cont => ∃ σ' H', Inv X pins σ' H' s' ∧ D.ct σ' H'
  | .ret u => ∃ v σ' H', Inv X pins σ' H' s' ∧ RelV v u ∧ D.rt v H'
noncomputable def PE (X : Cx) (e : Expr) (t : TE) : Prop :=
  ∀ (pins : List (Addr × Obj)) (s : Shared) (σ : St) (H : Hp) (Q : VK), Inv X pins σ H s → t σ H Q → wpAny (model X.prog X.w) X.A (eval e X.env) (EP X pins σ Q) X.xe s
noncomputable def PT (X : Cx) (e : Expr) (t : TT) : Prop :=
  ∀ (pins : List (Addr × Obj)) (s : Shared) (σ : St) (H : Hp) (Q : Bool → Hp → Prop), Inv X pins σ H s → t σ H Q → wpAny (model X.prog X.w) X.A (isTrue e X.env (eval e X.env)) (TP X pins σ Q) X.xe s
noncomputable def PW (X : Cx) (e : Expr) (t : TT) : Prop :=
  ∀ (whole : Sem Value) (pins : List (Addr × Obj)) (s : Shared) (σ : St) (H : Hp) (Q : Bool → Hp → Prop), Inv X pins σ H s → t σ H Q → wpAny (model X.prog X.w) X.A (isTrue e X.env whole) (TP X pins σ Q) X.xe s
theorem PW.pt {X : Cx} {e : Expr} {t : TT} (h : PW X e t) : PT X e t := h _
noncomputable def PA (X : Cx) (es : List Expr) (t : TA) : Prop :=
  ∀ (pos : Pos) (pins : List (Addr × Obj)) (s : Shared) (σ : St) (H : Hp) (Q : List V → Hp → Prop), Inv X pins σ H s → t σ H Q → wpAny (model X.prog X.w) X.A (spliced (backTo pos (starEach es X.env))) (AP X pins σ Q) X.xe s
noncomputable def PS (X : Cx) (st : Stmt) (t : TS) : Prop :=
  ∀ (pins : List (Addr × Obj)) (s : Shared) (σ : St) (H : Hp) (D : Ends), Inv X pins σ H s → t D σ H → wpAny (model X.prog X.w) X.A (exec st X.env) (SP X pins D) X.xe s
noncomputable def PSs (X : Cx) (st : List Stmt) (t : TS) : Prop :=
  ∀ (pins : List (Addr × Obj)) (s : Shared) (σ : St) (H : Hp) (D : Ends), Inv X pins σ H s → t D σ H → wpAny (model X.prog X.w) X.A (execs st X.env) (SP X pins D) X.xe s
theorem thn {α : Type} {t : Sem α} {Q Q' : α → Shared → Prop} {M : Model} {A : Around} {E : Value → Shared → Prop} {s : Shared} (h : wpAny M A t Q E s) (hQ : ∀ a s, Q a s → Q' a s) : wpAny M A t Q' E s := wpAny_mono h hQ fun _ _ x => x
end L2
namespace L2
open PySem PySem.Spec PyProof.Rows
section
variable {X : Cx}
noncomputable def tVar (i : Nat) : TE := fun σ H Q => ∃ v, σ[i]? = some (some v) ∧ Q v H
noncomputable def tC (v : V) : TE := fun _ H Q => Q v H
theorem pe_var {i : Nat} {x : Str} {pos : Pos} (hN : X.N[i]? = some x) (hv : Vis X.env.scope x) (hd : (x == ("__debug__" : Str)) = false := by decide) (hcd : (x == ("__classdict__" : Str)) = false := by decide) : PE X (.Name x pos) (tVar i) := by
  intro pins s σ H Q I h
  obtain ⟨v, e, h⟩ := h
  obtain ⟨m, hn, hl⟩ := I.loc
  obtain ⟨u, r, l⟩ := hl i x v hN e hv
  have fin : EP X pins σ Q u s := ⟨v, H, I, r, h⟩
  rcases l with ⟨hk, hm⟩ | ⟨hk, c, hc, hcell⟩
  · exact wpAny_Name (wpAny_loadName_local I.ok.kind hk hn hm fin) hd
  · rcases hk with hk | hk
    · exact wpAny_Name (wpAny_loadName_cell I.ok.kind hk hc hcell fin) hd
    · exact wpAny_Name (wpAny_loadName_free I.ok.kind hk hc hcell fin hcd) hd
theorem pe_int {i j pos} : PE X (.Constant (.int i) j pos) (tC (.int i)) := fun _ _ _ H _ I h => wpAny_Constant_int ⟨.int i, H, I.tok _, ⟨_, rfl⟩, h⟩
theorem pe_bl {b j pos} : PE X (.Constant (.bool b) j pos) (tC (.bl b)) := fun _ _ _ H _ I h => Constant_bool ⟨.bl b, H, I, rfl, h⟩
theorem pe_non {j pos} : PE X (.Constant .none j pos) (tC .non) := fun _ _ _ H _ I h => Constant_none ⟨.non, H, I, rfl, h⟩
theorem pe_str {x j pos} : PE X (.Constant (.str x) j pos) (tC (.str x)) := fun _ _ _ H _ I h => Calls.Constant_str ⟨.str x, H, I.tok _, ⟨_, rfl⟩, h⟩
noncomputable def Gl (X : Cx) (x : Str) : Prop := X.env.kindOf x = some .globalImplicit
theorem ld_glob {E : Value → Shared → Prop} {pins : List (Addr × Obj)} {s : Shared} {σ : St} {H : Hp} {x : Str} {u : Value} {pos : Pos} {Q : Value → Shared → Prop} (I : Inv X pins σ H s) (hg : Gl X x) (hm : X.mg x = some u) (h : Q u s)
    (hd : (x == ("__debug__" : Str)) = false := by decide) : wpAny (model X.prog X.w) X.A (eval (.Name x pos) X.env) Q E s :=
  Calls.Name_function_global I.ok.kind hg (Calls.loadGlobal_global (by rw [I.ok.glob]; exact I.mod.glob.keeps I.bk) hm h) hd
theorem ld_blt {E : Value → Shared → Prop} {pins : List (Addr × Obj)} {s : Shared} {σ : St} {H : Hp} {x : Str} {u : Value} {pos : Pos} {Q : Value → Shared → Prop} (I : Inv X pins σ H s) (hg : Gl X x) (hm : X.mg x = none) (hv : bootBuiltins x = some u) (h : Q u s)
    (hn : x ≠ "__name__" := by decide) (hd : (x == ("__debug__" : Str)) = false := by decide) : wpAny (model X.prog X.w) X.A (eval (.Name x pos) X.env) Q E s := by
  obtain ⟨mb, h1, h2⟩ := I.mod.blt
  exact Calls.Name_function_global I.ok.kind hg (Calls.loadGlobal_builtin (by rw [I.ok.glob]; exact I.mod.glob.keeps I.bk) hm (by rw [I.ok.blt]; exact h1.keeps I.bk) ((h2 x hn).trans hv) h) hd
theorem pe_glob {x : Str} {v : V} {u : Value} {pos : Pos} (hg : Gl X x) (hm : X.mg x = some u) (r : RelV v u) (hd : (x == ("__debug__" : Str)) = false := by decide) : PE X (.Name x pos) (tC v) :=
  fun _ _ _ H _ I h => ld_glob I hg hm ⟨v, H, I, r, h⟩ hd
theorem pe_bltn {x : Str} {v : V} {u : Value} {pos : Pos} (hg : Gl X x) (hm : X.mg x = none) (hv : bootBuiltins x = some u) (r : RelV v u) (hn : x ≠ "__name__" := by decide) (hd : (x == ("__debug__" : Str)) = false := by decide) : PE X (.Name x pos) (tC v) :=
  fun _ _ _ H _ I h => ld_blt I hg hm hv ⟨v, H, I, r, h⟩ hn hd
variable {a b : Expr} {ta tb : TE} {pos : Pos}
variable {tA tB' : TT} {rest : List Expr}
noncomputable def tAnd (t u : TT) : TT := fun σ H Q => t σ H fun c H1 => if c = true then u σ H1 Q else Q false H1
noncomputable def tOr (t u : TT) : TT := fun σ H Q => t σ H fun c H1 => if c = true then Q true H1 else u σ H1 Q
noncomputable def tNot (t : TT) : TT := fun σ H Q => t σ H fun c H1 => Q (!c) H1
theorem pw_and1 (ha : PT X a tA) : PW X (.BoolOp .And [a] pos) tA := by
  intro wh pins s σ H Q I h
  refine isTrue_and (thn (ha pins s σ H Q I h) fun c s1 e => ?_)
  cases c with
  | true => exact isTrue_and_nil e
  | false => exact e
theorem pw_or1 (ha : PT X a tA) : PW X (.BoolOp .Or [a] pos) tA := by
  intro wh pins s σ H Q I h
  refine isTrue_or (thn (ha pins s σ H Q I h) fun c s1 e => ?_)
  cases c with
  | false => exact isTrue_or_nil e
  | true => exact e
theorem pw_and (ha : PT X a tA) (hb : PW X (.BoolOp .And (b :: rest) pos) tB') : PW X (.BoolOp .And (a :: b :: rest) pos) (tAnd tA tB') := by
  intro wh pins s σ H Q I h
  refine isTrue_and (thn (ha pins s σ H _ I h) fun c s1 ⟨H1, I1, q1⟩ => ?_)
  cases c with
  | true => exact hb wh pins s1 σ H1 Q I1 q1
  | false => exact ⟨H1, I1, q1⟩
theorem pw_or (ha : PT X a tA) (hb : PW X (.BoolOp .Or (b :: rest) pos) tB') : PW X (.BoolOp .Or (a :: b :: rest) pos) (tOr tA tB') := by
  intro wh pins s σ H Q I h
  refine isTrue_or (thn (ha pins s σ H _ I h) fun c s1 ⟨H1, I1, q1⟩ => ?_)
  cases c with
  | true => exact ⟨H1, I1, q1⟩
  | false => exact hb wh pins s1 σ H1 Q I1 q1
theorem pt_not (ha : PT X a tA) : PT X (.UnaryOp .Not a pos) (tNot tA) := by
  intro pins s σ H Q I h
  exact isTrue_not (ha pins s σ H (fun c H1 => Q (!c) H1) I h)
noncomputable def tIf (t : TT) (ta tb : TE) : TE := fun σ H Q => t σ H fun c H1 => if c = true then ta σ H1 Q else tb σ H1 Q
theorem pe_ifExp {c : Expr} (hc : PT X c tA) (ha : PE X a ta) (hb : PE X b tb) : PE X (.IfExp c a b pos) (tIf tA ta tb) := by
  intro pins s σ H Q I h
  refine wpAny_IfExp (thn (hc pins s σ H _ I h) fun d s1 ⟨H1, I1, q1⟩ => ?_)
  cases d with
  | true => exact ha pins s1 σ H1 Q I1 q1
  | false => exact hb pins s1 σ H1 Q I1 q1
end
end L2
namespace L2
open PySem PySem.Spec PyProof.Rows
noncomputable def SqL (K : PySem.W.Frag) (H : Hp) (a : Addr) (xs : List V) : Prop :=
  Rd H a (.lst xs) ∨
    ∃ (o : Obj) (its : Array Value) (n : Nat), K.lookup a = some o ∧ o.cls = .type "list" ∧ o.dict = none ∧ o.data = .seq its n ∧ its.size ≤ sizeLine ∧ Vals xs its.toList
noncomputable def SqT (K : PySem.W.Frag) (H : Hp) (a : Addr) (xs : List V) : Prop :=
  Rd H a (.tup xs) ∨
    ∃ (o : Obj) (its : Array Value) (n : Nat), K.lookup a = some o ∧ o.cls = .type "tuple" ∧ o.data = .seq its n ∧ its.size ≤ sizeLine ∧ Vals xs its.toList
noncomputable def absV : Value → Option V
  | .none => some .non
  | .bool b => some (.bl b)
  | .int i _ => some (.int i)
  | .str x _ => some (.str x)
  | .bytes b _ => some (.byt b)
  | .float b _ => some (.flt b)
  | .ref a => some (.ref a)
  | .type n => some (.ty n)
  | _ => none
theorem RelV.abs {x : V} {u : Value} (r : RelV x u) : absV u = some x := by
  cases x with
  | non => cases r; rfl
  | bl _ => cases r; rfl
  | int _ => obtain ⟨t, rfl⟩ := r; rfl
  | str _ => obtain ⟨t, rfl⟩ := r; rfl
  | byt _ => obtain ⟨t, rfl⟩ := r; rfl
  | flt _ => obtain ⟨t, rfl⟩ := r; rfl
  | ref _ => cases r; rfl
  | ty _ => cases r; rfl
theorem RelV.inj {x y : V} {u : Value} (r : RelV x u) (q : RelV y u) : x = y := Option.some.inj (r.abs.symm.trans q.abs)
theorem Vals.inj : ∀ {xs ys : List V} {us : List Value}, Vals xs us → Vals ys us → xs = ys
  | _, _, _, .nil, .nil => rfl
  | _, _, _, .cons r t, .cons r' t' => by rw [r.inj r', Vals.inj t t']
section
variable {X : Cx} {pins : List (Addr × Obj)} {σ : St} {H : Hp} {s : Shared} {a : Addr} {xs ys : List V}
theorem SqL.of {K : PySem.W.Frag} (h : H a = some (.lst xs)) : SqL K H a xs := .inl (.inl h)
theorem SqT.of {K : PySem.W.Frag} (h : H a = some (.tup xs)) : SqT K H a xs := .inl (.inl h)
theorem Inv.list (I : Inv X pins σ H s) (h : SqL X.K H a xs) : ∃ its : List Value, Vals xs its ∧ PlainL s.heap a its.toArray ∧ xs.length ≤ sizeLine := by
  rcases h with h | ⟨o, its, n, hk, hc, hd, hs, hz, r⟩
  · obtain ⟨z, its, n, r, e⟩ := h.ok I.hok
    exact ⟨its, r, ⟨_, n, e, rfl, rfl, rfl⟩, z⟩
  · refine ⟨its.toList, r, ⟨o, n, I.kIn a o hk, hc, hd, by simpa using hs⟩, ?_⟩
    have e := r.length
    simp only [Array.length_toList] at e
    omega
theorem Inv.tuple (I : Inv X pins σ H s) (h : SqT X.K H a xs) : ∃ its : List Value, Vals xs its ∧ IsTup s.heap a its.toArray ∧ xs.length ≤ sizeLine := by
  rcases h with h | ⟨o, its, n, hk, hc, hs, hz, r⟩
  · obtain ⟨z, its, r, p⟩ := h.ok I.hok
    exact ⟨its, r, p, z⟩
  · refine ⟨its.toList, r, ⟨o, I.kIn a o hk, hc, n, by simpa using hs⟩, ?_⟩
    have e := r.length
    simp only [Array.length_toList] at e
    omega
theorem Inv.list_inj (I : Inv X pins σ H s) (h : SqL X.K H a xs) (h' : SqL X.K H a ys) : xs = ys := by
  obtain ⟨its, r, ⟨o, n, e, _, _, d⟩, _⟩ := I.list h
  obtain ⟨its', r', ⟨o', n', e', _, _, d'⟩, _⟩ := I.list h'
  rw [e] at e'; cases e'
  rw [d] at d'
  injection d' with d1 _
  have : its = its' := by simpa using congrArg Array.toList d1
  subst this
  exact r.inj r'
end
noncomputable abbrev Cx.wish (X : Cx) (E : Value → Shared → Prop) : Cx := { X with xe := E }
noncomputable abbrev Cx.nox (X : Cx) : Cx := X.wish fun _ _ => False
theorem Cx.Ok.wish {X : Cx} (ok : X.Ok) (E : Value → Shared → Prop) : (X.wish E).Ok :=
  ⟨ok.mod, ok.kind, ok.glob, ok.blt, ok.above, ok.inj, ok.has, ok.cab, ok.hd, ok.frames, ok.stk, ok.exf, ok.bs, ok.bsz, ok.noex, ok.exfs, ok.funs, ok.frf⟩
theorem Cx.Ok.unwish {X : Cx} {E : Value → Shared → Prop} (ok : (X.wish E).Ok) : X.Ok :=
  ⟨ok.mod, ok.kind, ok.glob, ok.blt, ok.above, ok.inj, ok.has, ok.cab, ok.hd, ok.frames, ok.stk, ok.exf, ok.bs, ok.bsz, ok.noex, ok.exfs, ok.funs, ok.frf⟩
section
variable {X : Cx} {pins : List (Addr × Obj)} {σ : St} {H : Hp} {s : Shared} {E : Value → Shared → Prop}
theorem Inv.wish (I : Inv X pins σ H s) (E : Value → Shared → Prop) : Inv (X.wish E) pins σ H s := ⟨I.ok.wish E, I.os, I.bare, I.base, I.loc, I.cell, I.free, I.freeC, I.pin, I.hok, I.len⟩
theorem Inv.unwish (I : Inv (X.wish E) pins σ H s) : Inv X pins σ H s := ⟨I.ok.unwish, I.os, I.bare, I.base, I.loc, I.cell, I.free, I.freeC, I.pin, I.hok, I.len⟩
theorem SP.unwish {D : Ends} {f : Flow} {s' : Shared} (h : SP (X.wish E) pins D f s') : SP X pins D f s' := by
  cases f with
  | next => obtain ⟨σ', H', I, q⟩ := h; exact ⟨σ', H', I.unwish, q⟩
  | brk => obtain ⟨σ', H', I, q⟩ := h; exact ⟨σ', H', I.unwish, q⟩
  | cont => obtain ⟨σ', H', I, q⟩ := h; exact ⟨σ', H', I.unwish, q⟩
  | ret u => obtain ⟨v, σ', H', I, r, q⟩ := h; exact ⟨v, σ', H', I.unwish, r, q⟩
theorem PE.nox {e : Expr} {t : TE} (h : PE X.nox e t) : PE X e t := fun pins s σ H Q I hw =>
  wpAny_mono (h pins s σ H Q (I.wish _) hw) (fun _ _ ⟨v, H', I', r, q⟩ => ⟨v, H', I'.unwish, r, q⟩) fun _ _ z => False.elim z
theorem PT.nox {e : Expr} {t : TT} (h : PT X.nox e t) : PT X e t := fun pins s σ H Q I hw =>
  wpAny_mono (h pins s σ H Q (I.wish _) hw) (fun _ _ ⟨H', I', q⟩ => ⟨H', I'.unwish, q⟩) fun _ _ z => False.elim z
theorem PSs.nox {st : List Stmt} {t : TS} (h : PSs X.nox st t) : PSs X st t := fun pins s σ H D I hw =>
  wpAny_mono (h pins s σ H D (I.wish _) hw) (fun _ _ q => q.unwish) fun _ _ z => False.elim z
end
section
variable {X : Cx} {st : Stmt} {rest : List Stmt} {t u : TS} {e : Expr} {te : TE} {pos : Pos}
noncomputable def tNext : TS := fun D σ H => D.nx σ H
noncomputable def tSeq (t u : TS) : TS := fun D σ H => t { D with nx := u D } σ H
theorem pss_nil : PSs X [] tNext := fun _ _ σ H _ I h => wpAny_execs_nil ⟨σ, H, I, h⟩
theorem pss_cons (h1 : PS X st t) (h2 : PSs X rest u) : PSs X (st :: rest) (tSeq t u) := by
  intro pins s σ H D I h
  refine wpAny_execs_cons (thn (h1 pins s σ H { D with nx := u D } I h) fun f s1 q => ?_)
  cases f with
  | next =>
    obtain ⟨σ', H', I', q⟩ := q
    exact h2 pins s1 σ' H' D I' q
  | ret v => exact q
  | brk => exact q
  | cont => exact q
theorem pss_one (h1 : PS X st t) : PSs X [st] t := by
  intro pins s σ H D I h
  refine wpAny_execs_cons (thn (h1 pins s σ H D I h) fun f s1 q => ?_)
  cases f with
  | next => exact wpAny_execs_nil q
  | ret v => exact q
  | brk => exact q
  | cont => exact q
theorem Inv.quiet {pins : List (Addr × Obj)} {σ : St} {H : Hp} {s : Shared} (I : Inv X pins σ H s) : interactive X.env = false := by simp [interactive, I.ok.kind]
noncomputable def tDrop (te : TE) : TS := fun D σ H => te σ H fun _ H1 => D.nx σ H1
theorem ps_expr (he : PE X e te) (hs : swapsWith e none pos.line X.env = pure false := by rfl) : PS X (.Expr e pos) (tDrop te) := by
  intro pins s σ H D I h
  exact wpAny_Expr_any (thn (he pins s σ H _ I h) fun v s1 ⟨x, H1, I1, r1, q1⟩ => ⟨σ, H1, I1, q1⟩) I.quiet hs
noncomputable def tRet (te : TE) : TS := fun D σ H => te σ H D.rt
theorem ps_ret (he : PE X e te) : PS X (.Return (some e) pos) (tRet te) := by
  intro pins s σ H D I h
  exact wpAny_Return_some (thn (he pins s σ H _ I h) fun v s1 ⟨x, H1, I1, r1, q1⟩ => ⟨x, σ, H1, I1, r1, q1⟩)
noncomputable def tIfS (c : TT) (t u : TS) : TS := fun D σ H => c σ H fun b H1 => if b = true then t D σ H1 else u D σ H1
theorem ps_if {c : Expr} {a b : List Stmt} {tc : TT} (hc : PT X c tc) (ha : PSs X a t) (hb : PSs X b u) : PS X (.If c a b pos) (tIfS tc t u) := by
  intro pins s σ H D I h
  refine wpAny_If (thn (hc pins s σ H _ I h) fun d s1 ⟨H1, I1, q1⟩ => ?_)
  cases d with
  | true => exact ha pins s1 σ H1 D I1 q1
  | false => exact hb pins s1 σ H1 D I1 q1
end
noncomputable abbrev TG := V → St → Hp → (St → Hp → Prop) → Prop
noncomputable abbrev TGs := List V → St → Hp → (St → Hp → Prop) → Prop
noncomputable def PG (X : Cx) (target : Expr) (t : TG) : Prop :=
  ∀ (pins : List (Addr × Obj)) (s : Shared) (σ : St) (H : Hp) (v : V) (u : Value) (Q : St → Hp → Prop), Inv X pins σ H s → RelV v u → t v σ H Q →
    wpAny (model X.prog X.w) X.A (assign target X.env u) (fun _ s' => ∃ σ' H', Inv X pins σ' H' s' ∧ Q σ' H') X.xe s
noncomputable def PGs (X : Cx) (ts : List Expr) (t : TGs) : Prop :=
  ∀ (pins : List (Addr × Obj)) (s : Shared) (σ : St) (H : Hp) (vs : List V) (us : List Value) (Q : St → Hp → Prop), Inv X pins σ H s → Vals vs us → t vs σ H Q →
    wpAny (model X.prog X.w) X.A (assignInOrder ((assignEach ts X.env).map (·.2)) us) (fun _ s' => ∃ σ' H', Inv X pins σ' H' s' ∧ Q σ' H') X.xe s
noncomputable abbrev TSet := V → V → V → Hp → (Hp → Prop) → Prop
noncomputable def PSet (X : Cx) (t : TSet) : Prop :=
  ∀ (pins : List (Addr × Obj)) (s : Shared) (σ : St) (H : Hp) (o i v : V) (ov iv u : Value) (Q : Hp → Prop), Inv X pins σ H s → RelV o ov → RelV i iv → RelV v u → t o i v H Q →
    wpAny (model X.prog X.w) X.A (setItem ov iv u) (fun _ s' => ∃ H', Inv X pins σ H' s' ∧ Q H') X.xe s
noncomputable abbrev TIp := V → V → Hp → VK → Prop
section
variable {X : Cx} {pos : Pos}
noncomputable def gName (i : Nat) : TG := fun v σ H Q => Q (σ.set i (some v)) H
theorem pg_name {i : Nat} {x : Str} (hN : X.N.Nodup) (hi : X.N[i]? = some x) (hx : Loc X.env.scope x) (hf : X.fn x = true ∨ X.env.scope.names.lookup x = some .local := by first | exact .inl rfl | exact .inr rfl | assumption) : PG X (.Name x pos) (gName i) := by
  intro pins s σ H v u Q I r h
  exact wpAny_assign_Name (store_ok I hN hi hx r (fun s' I' => ⟨_, H, I', h⟩) hf)
noncomputable def gNil : TGs := fun vs σ H Q => vs = [] ∧ Q σ H
noncomputable def gCons (t : TG) (u : TGs) : TGs := fun vs σ H Q => ∃ v r, vs = v :: r ∧ t v σ H fun σ' H' => u r σ' H' Q
theorem pgs_nil : PGs X [] gNil := by
  intro pins s σ H vs us Q I r h
  obtain ⟨e, h⟩ := h
  subst e
  cases r
  exact assignInOrder_nil ⟨σ, H, I, h⟩
theorem pgs_cons {e : Expr} {es : List Expr} {t : TG} {u : TGs} (h1 : PG X e t) (h2 : PGs X es u)
    (hs : (assignEach (e :: es) X.env).map (·.2) = assign e X.env :: (assignEach es X.env).map (·.2) := by rfl) : PGs X (e :: es) (gCons t u) := by
  intro pins s σ H vs us Q I r h
  obtain ⟨v, vr, e1, h⟩ := h
  subst e1
  cases r with
  | cons r rr =>
    rw [hs]
    refine assignInOrder_cons (thn (h1 pins s σ H _ _ _ I r h) fun _ s1 ⟨σ1, H1, I1, q1⟩ => ?_)
    exact h2 pins s1 σ1 H1 _ _ Q I1 rr q1
noncomputable def gTup (K : PySem.W.Frag) (n : Nat) (t : TGs) : TG := fun v σ H Q => ∃ a xs, v = .ref a ∧ SqT K H a xs ∧ xs.length = n ∧ t xs σ H Q
theorem pg_tup {es : List Expr} {k : Nat} {t : TGs} {n : Nat} (hc : X.calm = true) (h : PGs X es t)
    (hn : (assignEach es X.env).length = n := by rfl) (hst : (assignEach es X.env).findIdx? (·.1) = none := by rfl) : PG X (.Tuple es k pos) (gTup X.K n t) := by
  intro pins s σ H v u Q I r hw
  obtain ⟨a, xs, e1, hq, hl, hw⟩ := hw
  subst e1
  cases r
  obtain ⟨its, rv, ht, hz⟩ := I.tuple hq
  refine assign_Tuple_tuple (I.ok.hd hc) ht (by simp [hn, ← hl, rv.length]) hst fun h' hx => ?_
  have I1 : Inv X pins σ H { s with heap := h' } := I.kept (t' := s.toks) fun b o e => hx b o (Nat.ne_of_lt (Heap.lt_size e)) e
  exact h pins _ σ H xs _ Q I1 (by simpa using rv) hw
noncomputable def gSub (to ti : TE) (t : TSet) : TG := fun v σ H Q => to σ H fun o H1 => ti σ H1 fun i H2 => t o i v H2 fun H3 => Q σ H3
theorem pg_sub {o i : Expr} {to ti : TE} {t : TSet} (ho : PE X o to) (hi : PE X i ti) (hs : PSet X t)
    (ha : ∀ v, assign (.Subscript o i pos) X.env v = (do
      let ov ← holding [v] (eval o X.env)
      let iv ← holding [v, ov] (eval i X.env)
      standAt pos
      holding [v, ov, iv] (setItem ov iv v)
      release [v, ov, iv] []) := by intro _; rfl) : PG X (.Subscript o i pos) (gSub to ti t) := by
  intro pins s σ H v u Q I r h
  rw [ha]
  refine wpAny_bind (wpAny_holding (thn (ho pins s σ H _ I h) fun ov s1 ⟨x, H1, I1, r1, q1⟩ => ?_))
  refine wpAny_bind (wpAny_holding (thn (hi pins s1 σ H1 _ I1 q1) fun iv s2 ⟨y, H2, I2, r2, q2⟩ => ?_))
  refine wpAny_bind (wpAny_standAt (wpAny_bind (wpAny_holding (thn (hs pins s2 σ H2 x y v ov iv u _ I2 r1 r2 r q2) fun _ s3 ⟨H3, I3, q3⟩ => ?_))))
  exact wpAny_release ⟨σ, H3, I3, q3⟩
noncomputable def tAsg (te : TE) (g : TG) : TS := fun D σ H => te σ H fun x H1 => g x σ H1 D.nx
theorem ps_asg {tg e : Expr} {te : TE} {g : TG} (he : PE X e te) (hg : PG X tg g) (hs : swapsWithSole [tg] e pos.line X.env = pure false := by rfl) (hw : swappedStores [tg] e X.env = pure none := by rfl)
    (h1 : (assignEach [tg] X.env).map (·.2) = [assign tg X.env] := by rfl) : PS X (.Assign [tg] e pos) (tAsg te g) := by
  intro pins s σ H D I h
  refine wpAny_Assign_stores (thn (he pins s σ H _ I h) fun v s1 ⟨x, H1, I1, r1, q1⟩ => ?_) hs hw
  rw [h1]
  exact thn (hg pins s1 σ H1 x v _ I1 r1 q1) fun _ s2 q => q
theorem ps_set {i : Nat} {x : Str} {e : Expr} {te : TE} {pos' : Pos} (hN : X.N.Nodup) (hi : X.N[i]? = some x) (hx : Loc X.env.scope x) (he : PE X e te) (hs : swapsWith e (some (.Name x pos')) pos.line X.env = pure false := by rfl) (hf : X.fn x = true ∨ X.env.scope.names.lookup x = some .local := by first | exact .inl rfl | exact .inr rfl | assumption) :
    PS X (.Assign [.Name x pos'] e pos) (tAsg te (gName i)) := by
  intro pins s σ H D I h
  refine wpAny_Assign_Name (thn (he pins s σ H _ I h) fun v s1 ⟨y, H1, I1, r1, q1⟩ => ?_) hs
  exact store_ok I1 hN hi hx r1 (fun s2 I2 => ⟨_, H1, I2, q1⟩) hf
noncomputable def tPar (i j : Nat) (ta : TA) : TS := fun D σ H => ta σ H fun vs H1 => ∃ v w, vs = [v, w] ∧ D.nx ((σ.set i (some v)).set j (some w)) H1
theorem ps_par {i j : Nat} {x y : Str} {a b : Expr} {ta : TA} {px py pt : Pos} {kt k2 pt2} (hc : X.calm = true) (hN : X.N.Nodup) (hi : X.N[i]? = some x) (hj : X.N[j]? = some y) (hij : i ≠ j)
    (hx : X.env.scope.names.lookup x = some .local) (hy : X.env.scope.names.lookup y = some .local) (ha : PA X [a, b] ta)
    (hw : swappedStores [.Tuple [.Name x px, .Name y py] kt pt] (.Tuple [a, b] k2 pt2) X.env = pure (some [x, y]))
    (hs : swapsWithSole [.Tuple [.Name x px, .Name y py] kt pt] (.Tuple [a, b] k2 pt2) pos.line X.env = pure false := by rfl) :
    PS X (.Assign [.Tuple [.Name x px, .Name y py] kt pt] (.Tuple [a, b] k2 pt2) pos) (tPar i j ta) := by
  intro pins s σ H D I h
  rw [exec_Assign_arm]
  refine wpAny_bind (wpAny_standAt ?_)
  rw [hs]
  refine wpAny_bind (wpAny_pure ?_)
  rw [if_neg (by decide)]
  refine wpAny_bind (Tuple_ (thn (ha _ pins s σ H _ I h) fun us s1 ⟨vs, H1, I1, r1, q1⟩ => ?_))
  obtain ⟨v, w, e1, q1⟩ := q1
  subst e1
  obtain ⟨u1, u2, rfl, rv, rw'⟩ : ∃ u1 u2, us = [u1, u2] ∧ RelV v u1 ∧ RelV w u2 := by
    cases r1 with
    | cons p q =>
      cases q with
      | cons p' q' =>
        cases q'
        exact ⟨_, _, rfl, p, p'⟩
  refine wpAny_newObj_type ?_ (by show 2 ≤ sizeLine; decide)
  have I2 : Inv X pins σ H1 { s1 with heap := s1.heap.push { cls := .type "tuple", data := .seq [u1, u2].toArray } } := I1.kept (t' := s1.toks) fun b o e => Heap.get?_push_of_some _ e
  rw [hw]
  refine wpAny_bind (wpAny_pure ?_)
  show wpAny (model X.prog X.w) X.A (do rule "assign.swapped-stores"; let items ← unpackItems (.ref s1.heap.objs.size) 2 none; assignInOrder [fun v => bindName X.env y v, fun v => bindName X.env x v] items.reverse; pure Flow.next) _ _ _
  refine wpAny_bind (wpAny_rule (wpAny_bind (unpackItems_tuple (items := #[u1, u2]) (I.ok.hd hc) (IsTup.new s1.heap _) fun h' hx' => ?_)))
  have I3 := I2.kept (h' := h') (t' := s1.toks) fun b o e => hx' b o (Nat.ne_of_lt (Heap.lt_size e)) e
  show wpAny _ _ (assignInOrder [fun v => bindName X.env y v, fun v => bindName X.env x v] [u2, u1] >>= fun _ => pure Flow.next) _ _ _
  refine wpAny_bind (assignInOrder_cons (wpAny_bindName (store_ok I3 hN hj (.inl hy) rw' (fun s2 I4 => ?_) (.inr hy))))
  refine assignInOrder_cons (wpAny_bindName (store_ok I4 hN hi (.inl hx) rv (fun s3 I5 => assignInOrder_nil (wpAny_pure ?_)) (.inr hx)))
  rw [List.set_comm _ _ (Ne.symm hij)] at I5
  exact ⟨_, H1, I5, q1⟩
end
section
variable {X : Cx} {pos : Pos}
noncomputable def tWhile (c : TT) (tb : TS) : TS := fun D σ H => ∃ W : Nat → St → Hp → Prop, (∃ m, W m σ H) ∧ ∀ m σ H, W m σ H →
  c σ H fun b H1 => if b = true then ∃ N : St → Hp → Prop, (∀ σ' H', N σ' H' → ∃ m', m' < m ∧ W m' σ' H') ∧ tb { D with nx := N, ct := N, bk := D.nx } σ H1 else D.nx σ H1
theorem ps_while {c : Expr} {body : List Stmt} {tc : TT} {tb : TS} (hp : PassesOwn (model X.prog X.w) X.A X.env X.xe) (hc : PT X c tc) (hb : PSs X body tb) : PS X (.While c body [] pos) (tWhile tc tb) := by
  intro pins s σ H D I h
  obtain ⟨W, ⟨m0, w0⟩, turn⟩ := h
  refine wpAny_While (codeAny_whileLoop (fun n s' => ∃ σ' H', Inv X pins σ' H' s' ∧ W n σ' H') ?_ m0 ⟨σ, H, I, w0⟩)
  rintro n s1 ⟨σ1, H1, I1, w1⟩
  refine wpAny_passesOwn hp (thn (hc pins s1 σ1 H1 _ I1 (turn n σ1 H1 w1)) fun b s2 ⟨H2, I2, q2⟩ => ?_)
  cases b with
  | true =>
    obtain ⟨N, hN, q2⟩ := q2
    rw [if_pos rfl]
    refine wpAny_passesOwn hp (thn (hb pins s2 σ1 H2 _ I2 q2) fun f s3 q3 => ?_)
    cases f with
    | next =>
      obtain ⟨σ3, H3, I3, n3⟩ := q3
      obtain ⟨m', hm, w3⟩ := hN σ3 H3 n3
      exact ⟨m', hm, σ3, H3, I3, w3⟩
    | cont =>
      obtain ⟨σ3, H3, I3, n3⟩ := q3
      obtain ⟨m', hm, w3⟩ := hN σ3 H3 n3
      exact ⟨m', hm, σ3, H3, I3, w3⟩
    | brk => exact q3
    | ret v => exact q3
  | false =>
    rw [if_neg Bool.false_ne_true]
    exact wpAny_execs_nil ⟨σ1, H2, I2, q2⟩
end
structure It where
  go : Nat → Hp → Prop
  yld : Nat → Hp → V → Hp → Prop
  stop : Nat → Hp → Prop
noncomputable def FpOk (X : Cx) (pins : List (Addr × Obj)) (H : Hp) (b : Addr) : Prop :=
  H b = none ∧ b ≠ X.env.locals ∧ b ∉ X.fs ∧ (b ∈ X.ex ∨ X.s₀.heap.objs.size ≤ b) ∧ (∀ x c, X.env.cells.lookup x = some c → c ≠ b) ∧ ∀ p ∈ X.pn ++ pins, p.1 ≠ b
theorem Inv.fpOk {X : Cx} {pins : List (Addr × Obj)} {σ : St} {H H' : Hp} {s : Shared} {b : Addr} (I : Inv X pins σ H s) (hb : s.heap.objs.size ≤ b) (hn : H' b = none) : FpOk X pins H' b := by
  refine ⟨hn, Nat.ne_of_gt (Nat.lt_of_lt_of_le I.lt hb), I.nofs hb, .inr (Nat.le_trans I.sz hb), fun x c e z => ?_, fun p hp z => ?_⟩
  · obtain ⟨v, q⟩ := I.cell x c e
    exact absurd (Nat.lt_of_lt_of_le q.lt (by rw [z]; exact hb)) (Nat.lt_irrefl _)
  · exact absurd (Nat.lt_of_lt_of_le (Heap.lt_size (I.pin p hp).1) (by rw [z]; exact hb)) (Nat.lt_irrefl _)
structure Turn (P : Program) (w : World) (K : PySem.W.Frag) (tg : Expr) (J : It) (fp : List Addr) (it : Addr) (tn : Nat → Heap → Prop) : Prop where
  mem : it ∈ fp
  obj : ∀ i h, tn i h → ∀ b ∈ fp, ∃ o, h.get? b = some o ∧ ∀ v, o.data ≠ .cell v
  keep : ∀ i h h', tn i h → (∀ b ∈ fp, ∀ o, h.get? b = some o → h'.get? b = some o) → tn i h'
  item : ∀ (X : Cx), X.prog = P → X.w = w → X.K = K → X.calm = true → ∀ (i : Nat) (pins : List (Addr × Obj)) (s : Shared) (σ : St) (H : Hp) (E : Value → Shared → Prop), Inv X pins σ H s → (∀ b ∈ fp, FpOk X pins H b) → tn i s.heap → J.go i H →
    wpAny (model P w) X.A (pyNext (.ref it)) (fun r s1 => ∃ u, r = some u ∧
      wpAny (model P w) X.A (letOwnedTupleGo tg (.ref it) u) (fun _ s2 => ∃ x H', Inv X pins σ H' s2 ∧ RelV x u ∧ J.yld i H x H' ∧ tn (i + 1) s2.heap ∧ ∀ b ∈ fp, H' b = none) E s1) E s
  done : ∀ (X : Cx), X.prog = P → X.w = w → X.K = K → X.calm = true → ∀ (i : Nat) (pins : List (Addr × Obj)) (s : Shared) (σ : St) (H : Hp) (E : Value → Shared → Prop), Inv X pins σ H s → (∀ b ∈ fp, FpOk X pins H b) → tn i s.heap → J.stop i H →
    wpAny (model P w) X.A (pyNext (.ref it)) (fun r s1 => r = none ∧ Inv X pins σ H s1) E s
  self : ∀ (A : Around) (i : Nat) (s : Shared) (Q : Value → Shared → Prop) (E : Value → Shared → Prop), tn i s.heap → Q (.ref it) s → wpAny (model P w) A (pyIter (.ref it)) Q E s
noncomputable abbrev TI := St → Hp → (It → Hp → Prop) → Prop
noncomputable def PIE (X : Cx) (pins : List (Addr × Obj)) (σ : St) (tg : Expr) (R : It → Hp → Prop) (itv : Value) (s2 : Shared) : Prop :=
  ∃ (it : Addr) (fp : List Addr) (tn : Nat → Heap → Prop) (J : It) (H' : Hp), itv = .ref it ∧ Inv X pins σ H' s2 ∧ Turn X.prog X.w X.K tg J fp it tn ∧ tn 0 s2.heap ∧ (∀ b ∈ fp, FpOk X pins H' b) ∧ R J H'
noncomputable def PI (X : Cx) (tg iter : Expr) (wi : TI) : Prop :=
  ∀ (pins : List (Addr × Obj)) (s : Shared) (σ : St) (H : Hp) (R : It → Hp → Prop), Inv X pins σ H s → wi σ H R →
    wpAny (model X.prog X.w) X.A (eval iter X.env) (fun v s1 => wpAny (model X.prog X.w) X.A (pyIter v) (PIE X pins σ tg R) X.xe s1) X.xe s
theorem go_of {M : Model} {A : Around} {E : Value → Shared → Prop} {s : Shared} {tg : Expr} {it : Addr} {u : Value} {o : Obj} {n : String} {vs : Array Value} {Q : Unit → Shared → Prop} (ho : s.heap.get? it = some o) (hc : o.cls = .type n) (hd : o.data = .fields vs)
    (hn : ["enumerate", "zip", "dict_itemiterator", "dict_reverseitemiterator", "odict_iterator", "itertools.zip_longest", "itertools.pairwise"].contains n = false) (hQ : Q () s) : wpAny M A (letOwnedTupleGo tg (.ref it) u) Q E s := by
  unfold letOwnedTupleGo
  cases tg <;> first
    | exact wpAny_pure hQ
    | (cases u <;> first
        | exact wpAny_pure hQ
        | (refine wpAny_bind (wpAny_load ho ?_)
           rw [hc, hd]
           show wpAny M A (if (["enumerate", "zip", "dict_itemiterator", "dict_reverseitemiterator", "odict_iterator", "itertools.zip_longest", "itertools.pairwise"].contains n && vs[0]? == some (rawInt _)) = true then _ else _) Q E s
           rw [if_neg (by intro h; rw [hn, Bool.false_and] at h; cases h)]
           exact wpAny_pure hQ))
noncomputable def Itl (K : PySem.W.Frag) (a : Addr) : It :=
  ⟨fun i H => ∃ xs x, SqL K H a xs ∧ xs[i]? = some x, fun i H x H' => H' = H ∧ ∀ xs, SqL K H a xs → xs[i]? = some x, fun i H => ∃ xs, SqL K H a xs ∧ xs.length ≤ i⟩
noncomputable def Itt (K : PySem.W.Frag) (a : Addr) : It :=
  ⟨fun i H => ∃ xs x, SqT K H a xs ∧ xs[i]? = some x, fun i H x H' => H' = H ∧ ∀ xs, SqT K H a xs → xs[i]? = some x, fun i H => ∃ xs, SqT K H a xs ∧ xs.length ≤ i⟩
noncomputable def Itr (lo : Int) (n : Nat) : It := ⟨fun i _ => i < n, fun i H x H' => H' = H ∧ x = .int (lo + i), fun i _ => n ≤ i⟩
theorem turn_list {P : Program} {w : World} {K : PySem.W.Frag} {tg : Expr} (a it : Addr) : Turn P w K tg (Itl K a) [it] it (fun i h => h.IsListIter it a i) where
  mem := by simp
  obj := fun i h st b hb => by
    have e : b = it := by simpa using hb
    subst e
    obtain ⟨o, e, c, d⟩ := st
    exact ⟨o, e, fun v z => by rw [d] at z; cases z⟩
  keep := fun i h h' st k => st.at fun o e => k it (by simp) o e
  item := by
    intro X hP hw hK hc i pins s σ H E I hf st hg
    subst hP hw hK
    obtain ⟨xs, x, hq, hx⟩ := hg
    obtain ⟨its, rv, p, hz⟩ := I.list hq
    obtain ⟨u, hu, ru⟩ := rv.get hx
    obtain ⟨f0, f1, f2, f3, f4, f5⟩ := hf it (by simp)
    refine wpAny_pyNext_list_item st p.isList (x := u) (by simpa using hu) fun h' st' sb => ?_
    have I1 : Inv X pins σ H { s with heap := h' } := I.turned (t' := s.toks) (fun b o hb e => (sb.2 b hb).trans e) f0 f1 f3 f4 f5
    obtain ⟨o, e, c, d⟩ := id st'
    exact ⟨u, rfl, go_of (s := { s with heap := h' }) e c d (by decide) ⟨x, H, I1, ru, ⟨rfl, fun ys hy => by rw [I.list_inj hy hq]; exact hx⟩, st', fun b hb => (hf b hb).1⟩⟩
  done := by
    intro X hP hw hK hc i pins s σ H E I hf st hg
    subst hP hw hK
    obtain ⟨xs, hq, hx⟩ := hg
    obtain ⟨its, rv, p, hz⟩ := I.list hq
    obtain ⟨f0, f1, f2, f3, f4, f5⟩ := hf it (by simp)
    have hl := rv.length
    exact wpAny_pyNext_list_end (I.ok.hd hc) st p.isList (by simp; omega) fun h' eb => ⟨rfl, I.turned (t' := s.toks) (fun b o hb e => eb b o hb e) f0 f1 f3 f4 f5⟩
  self := fun _ _ _ _ _ st h => wpAny_pyIter_listiter st h
theorem turn_range {P : Program} {w : World} {K : PySem.W.Frag} {tg : Expr} (it : Addr) (lo : Int) (n : Nat) : Turn P w K tg (Itr lo n) [it] it (fun i h => IsRangeIter h it (lo + (i : Nat) * 1) ((n : Int) - (i : Nat)) 1) where
  mem := by simp
  obj := fun i h st b hb => by
    have e : b = it := by simpa using hb
    subst e
    exact ⟨_, st, fun v z => by
      have z' : Data.fields _ = Data.cell v := z
      cases z'⟩
  keep := fun i h h' st k => k it (by simp) _ st
  item := by
    intro X hP hw hK hc i pins s σ H E I hf st hg
    subst hP hw hK
    obtain ⟨f0, f1, f2, f3, f4, f5⟩ := hf it (by simp)
    have W := Walks.range (prog := X.prog) (w := X.w) (I.ok.hd hc) it lo 1 n
    refine W.item i s _ _ hg st fun v h' tk hv st' kk => ?_
    obtain ⟨t, rfl⟩ := hv
    have I1 : Inv X pins σ H { s with heap := h', toks := tk } := I.turned (fun b o hb e => kk b o (by simpa using hb) e) f0 f1 f3 f4 f5
    refine ⟨_, rfl, go_of (s := { s with heap := h', toks := tk }) (n := "range_iterator") st' rfl rfl (by decide) ⟨.int (lo + i), H, I1, ⟨t, ?_⟩, ⟨rfl, rfl⟩, st', fun b hb => (hf b hb).1⟩⟩
    rw [Int.mul_one]
  done := by
    intro X hP hw hK hc i pins s σ H E I hf st hg
    subst hP hw hK
    obtain ⟨f0, f1, f2, f3, f4, f5⟩ := hf it (by simp)
    exact wpAny_pyNext_range_end (I.ok.hd hc) st (by have : n ≤ i := hg; omega) fun h' eb => ⟨rfl, I.turned (t' := s.toks) (fun b o hb e => eb b o hb e) f0 f1 f3 f4 f5⟩
  self := fun _ _ _ _ _ st h => wpAny_pyIter_rangeiter st h
end L2
namespace L2
open PySem PySem.Spec PyProof.Rows
section
variable {X : Cx} {tg : Expr}
noncomputable def iList (K : PySem.W.Frag) (tl : TE) : TI := fun σ H R => tl σ H fun x H1 => ∃ a, x = .ref a ∧ (∃ xs, SqL K H1 a xs) ∧ R (Itl K a) H1
noncomputable def iTup (K : PySem.W.Frag) (tl : TE) : TI := fun σ H R => tl σ H fun x H1 => ∃ a, x = .ref a ∧ (∃ xs, SqT K H1 a xs) ∧ R (Itt K a) H1
theorem pi_list {l : Expr} {tl : TE} (hl : PE X l tl) : PI X tg l (iList X.K tl) := by
  intro pins s σ H R I h
  refine thn (hl pins s σ H _ I h) fun v s1 ⟨x, H1, I1, r1, q1⟩ => ?_
  obtain ⟨a, e, ⟨xs, hq⟩, q⟩ := q1
  subst e
  cases r1
  obtain ⟨its, rv, p, hz⟩ := I1.list hq
  refine wpAny_pyIter_list p.isList ?_
  refine ⟨s1.heap.objs.size, [s1.heap.objs.size], _, _, H1, rfl, I1.kept (t' := s1.toks) fun b o e => Heap.get?_push_of_some _ e, turn_list a _, ⟨_, Heap.get?_push_size _ rfl, rfl, rfl⟩, fun b hb => ?_, q⟩
  have e : b = s1.heap.objs.size := by simpa using hb
  subst e
  exact I1.fpOk (Nat.le_refl _) (I1.hok.fresh (Nat.le_refl _))
theorem range_it {pins : List (Addr × Obj)} {σ : St} {H : Hp} {s : Shared} {R : It → Hp → Prop} {E : Value → Shared → Prop} {lo hi : Int} {t u v : Tok} {tk : Nat} (I : Inv X pins σ H s) (h1 : -(2 ^ 62) ≤ lo) (h2 : lo < 2 ^ 62) (h3 : -(2 ^ 62) ≤ hi) (h4 : hi < 2 ^ 62)
    (q : R (Itr lo (hi - lo).toNat) H) : wpAny (model X.prog X.w) X.A (pyIter (.ref s.heap.objs.size)) (PIE X pins σ tg R) E { s with heap := s.heap.push { cls := .type "range", data := .fields #[.int lo t, .int hi u, .int 1 v] }, toks := tk } := by
  refine wpAny_pyIter_range (IsRange.new ..) (small_one h1 h2 h3 h4) ?_
  have I1 : Inv X pins σ H { s with heap := s.heap.push { cls := .type "range", data := .fields #[.int lo t, .int hi u, .int 1 v] }, toks := tk } := I.kept fun b o e => Heap.get?_push_of_some _ e
  refine ⟨(s.heap.push { cls := .type "range", data := .fields #[.int lo t, .int hi u, .int 1 v] }).objs.size, [(s.heap.push { cls := .type "range", data := .fields #[.int lo t, .int hi u, .int 1 v] }).objs.size], _, _, H, rfl,
    I1.kept (t' := tk) fun b o e => Heap.get?_push_of_some _ e, turn_range _ lo (hi - lo).toNat, ?_, fun b hb => ?_, q⟩
  · have e1 : lo + ((0 : Nat) : Int) * 1 = lo := by simp
    have e2 : (((hi - lo).toNat : Nat) : Int) - ((0 : Nat) : Int) = Builtin.Range.rangeSize lo hi 1 := by rw [rangeSize_one]; split <;> omega
    show IsRangeIter _ _ (lo + ((0 : Nat) : Int) * 1) ((((hi - lo).toNat : Nat) : Int) - ((0 : Nat) : Int)) 1
    rw [e1, e2]
    exact Heap.get?_push_size _ rfl
  · have e : b = (s.heap.push { cls := .type "range", data := .fields #[.int lo t, .int hi u, .int 1 v] }).objs.size := by simpa using hb
    subst e
    exact I1.fpOk (Nat.le_refl _) (I1.hok.fresh (Nat.le_refl _))
noncomputable def iRng1 (ta : TA) : TI := fun σ H R => ta σ H fun vs H1 => ∃ j : Int, vs = [.int j] ∧ -(2 ^ 62) ≤ j ∧ j < 2 ^ 62 ∧ R (Itr 0 j.toNat) H1
noncomputable def iRng2 (ta : TA) : TI := fun σ H R => ta σ H fun vs H1 => ∃ i j : Int, vs = [.int i, .int j] ∧ (-(2 ^ 62) ≤ i ∧ i < 2 ^ 62 ∧ -(2 ^ 62) ≤ j ∧ j < 2 ^ 62) ∧ R (Itr i (j - i).toNat) H1
theorem pi_range1 {a : Expr} {ta : TA} {p pos : Pos} (hg : Gl X "range") (hm : X.mg "range" = none) (ha : PA X [a] ta) (hs : starEach [a] X.env = [(false, eval a X.env)] := by rfl) : PI X tg (.Call (.Name "range" p) [a] [] pos) (iRng1 ta) := by
  intro pins s σ H R I h
  refine Call_ (ld_blt I hg hm boot_range (PyProof.Rows.callWith_type1 (thn (ha pos pins s σ H _ I h) fun us s1 ⟨vs, H1, I1, r1, q1⟩ => ?_) hs rfl))
  obtain ⟨j, e, q1, q2, q⟩ := q1
  subst e
  cases r1 with
  | cons r rr =>
    cases rr
    obtain ⟨t, rfl⟩ := r
    exact call_range_1 (range_it I1 (by omega) (by omega) q1 q2 (by simpa using q))
noncomputable def tFor (wi : TI) (g : TG) (tb : TS) : TS := fun D σ H => wi σ H fun J H1 => ∃ W : Nat → Nat → St → Hp → Prop, (∃ m, W 0 m σ H1) ∧ ∀ i m σ H, W i m σ H →
  (J.stop i H ∧ D.nx σ H) ∨ (J.go i H ∧ ∃ N : St → Hp → Prop, (∀ σ' H', N σ' H' → ∃ m', m' < m ∧ W (i + 1) m' σ' H') ∧ ∀ x H', J.yld i H x H' → g x σ H' fun σ2 H2 => tb { D with nx := N, ct := N, bk := D.nx } σ2 H2)
noncomputable def pinsAt (fp : List Addr) (h : Heap) : List (Addr × Obj) := fp.filterMap fun b => (h.get? b).map fun o => (b, o)
theorem mem_pinsAt {fp : List Addr} {h : Heap} {b : Addr} {o : Obj} (hb : b ∈ fp) (e : h.get? b = some o) : (b, o) ∈ pinsAt fp h := List.mem_filterMap.mpr ⟨b, hb, by rw [e]; rfl⟩
theorem of_pinsAt {fp : List Addr} {h : Heap} {p : Addr × Obj} (hp : p ∈ pinsAt fp h) : p.1 ∈ fp ∧ h.get? p.1 = some p.2 := by
  obtain ⟨b, hb, e⟩ := List.mem_filterMap.mp hp
  cases q : h.get? b with
  | none => rw [q] at e; cases e
  | some o =>
    rw [q] at e
    have e' : (b, o) = p := Option.some.inj e
    subst e'
    exact ⟨hb, q⟩
theorem Inv.pinned {pins : List (Addr × Obj)} {σ : St} {H : Hp} {s : Shared} {fp : List Addr} (I : Inv X pins σ H s) (hf : ∀ b ∈ fp, FpOk X pins H b) (ho : ∀ b ∈ fp, ∃ o, s.heap.get? b = some o ∧ ∀ v, o.data ≠ .cell v) : Inv X (pins ++ pinsAt fp s.heap) σ H s :=
  I.pins_of fun p hp => (List.mem_append.mp hp).elim (fun z => I.pin p (List.mem_append_right _ z)) fun z => by
    obtain ⟨hb, e⟩ := of_pinsAt z
    obtain ⟨f0, f1, f2, _⟩ := hf p.1 hb
    obtain ⟨o, e', d⟩ := ho p.1 hb
    rw [e] at e'; cases e'
    exact ⟨e, f0, f1, f2, d⟩
theorem Inv.unpinned {pins pl : List (Addr × Obj)} {σ : St} {H : Hp} {s : Shared} (I : Inv X (pins ++ pl) σ H s) : Inv X pins σ H s := I.pins_of fun p hp => I.pin p (List.mem_append_right _ (List.mem_append_left _ hp))
theorem ps_for {iter : Expr} {body : List Stmt} {wi : TI} {g : TG} {tb : TS} {pos : Pos} (hp : PassesOwn (model X.prog X.w) X.A X.env X.xe) (hc : X.calm = true) (hi : PI X tg iter wi) (hg : PG X tg g) (hb : PSs X body tb)
    (hs : ∀ x, foldedSetIterable iter X.env x = pure x := by intro _; rfl) : PS X (.For tg iter body [] pos) (tFor wi g tb) := by
  intro pins s σ H D I h
  refine wpAny_For (thn (hi pins s σ H _ I h) fun v s1 h1 => thn h1 fun itv s2 h2 => ?_) hs
  obtain ⟨it, fp, tn, J, H2, e, I2, T, st2, f2, W, ⟨m0, w0⟩, turn⟩ := h2
  subst e
  have stat : ∀ {H' : Hp}, (∀ b ∈ fp, H' b = none) → ∀ b ∈ fp, FpOk X pins H' b := fun hn b hb => ⟨hn b hb, (f2 b hb).2⟩
  refine codeAny_forLoop_any (fun n s' => ∃ i σ' H', Inv X pins σ' H' s' ∧ tn i s'.heap ∧ (∀ b ∈ fp, H' b = none) ∧ W i n σ' H') ?_ m0 ⟨0, σ, H2, I2, st2, fun b hb => (f2 b hb).1, w0⟩
  rintro n s3 ⟨i, σ3, H3, I3, st3, fr3, w3⟩
  rcases turn i n σ3 H3 w3 with ⟨stop, qn⟩ | ⟨go, N, hN, step⟩
  · refine wpAny_passesOwn hp (thn (T.done X rfl rfl rfl hc i pins s3 σ3 H3 X.xe I3 (stat fr3) st3 stop) fun r s4 ⟨hr, I4⟩ => ?_)
    subst hr
    exact wpAny_execs_nil ⟨σ3, H3, I4, qn⟩
  · refine wpAny_passesOwn hp (thn (T.item X rfl rfl rfl hc i pins s3 σ3 H3 X.xe I3 (stat fr3) st3 go) fun r s4 ⟨u, hr, h4⟩ => ?_)
    subst hr
    refine wpAny_passesOwn hp (thn h4 fun _ s5 ⟨x, H5, I5, r5, y5, st5, fr5⟩ => ?_)
    have I5' := I5.pinned (stat fr5) (T.obj _ _ st5)
    refine wpAny_passesOwn hp (thn (hg _ s5 σ3 H5 x u _ I5' r5 (step x H5 y5)) fun _ s6 ⟨σ6, H6, I6, q6⟩ => ?_)
    refine wpAny_passesOwn hp (thn (hb _ s6 σ6 H6 _ I6 q6) fun f s7 q7 => ?_)
    have again : ∀ {σ7 : St} {H7 : Hp}, Inv X (pins ++ pinsAt fp s5.heap) σ7 H7 s7 → N σ7 H7 → ∃ m, m < n ∧ ∃ i σ' H', Inv X pins σ' H' s7 ∧ tn i s7.heap ∧ (∀ b ∈ fp, H' b = none) ∧ W i m σ' H' := fun {σ7 H7} I7 n7 => by
      obtain ⟨m', hm, w7⟩ := hN σ7 H7 n7
      refine ⟨m', hm, i + 1, σ7, H7, I7.unpinned, T.keep _ _ _ st5 fun b hb o e => (I7.pin (b, o) (List.mem_append_right _ (List.mem_append_right _ (mem_pinsAt hb e)))).1, fun b hb => ?_, w7⟩
      obtain ⟨o, e, d⟩ := T.obj _ _ st5 b hb
      exact (I7.pin (b, o) (List.mem_append_right _ (List.mem_append_right _ (mem_pinsAt hb e)))).2.1
    cases f with
    | next => obtain ⟨σ7, H7, I7, n7⟩ := q7; exact again I7 n7
    | cont => obtain ⟨σ7, H7, I7, n7⟩ := q7; exact again I7 n7
    | brk => obtain ⟨σ7, H7, I7, q7⟩ := q7; exact ⟨σ7, H7, I7.unpinned, q7⟩
    | ret v => obtain ⟨x7, σ7, H7, I7, r7, q7⟩ := q7; exact ⟨x7, σ7, H7, I7.unpinned, r7, q7⟩
end
end L2
namespace L2
open PySem PySem.Spec PyProof.Rows
noncomputable abbrev R2 := V → V → Hp → VK → Prop
noncomputable def OpR (X : Cx) (f : Value → Value → Sem Value) (r : R2) : Prop :=
  ∀ (pins : List (Addr × Obj)) (s : Shared) (σ : St) (H : Hp) (x y : V) (v u : Value) (Q : VK), Inv X pins σ H s → RelV x v → RelV y u → r x y H Q →
    wpAny (model X.prog X.w) X.A (f v u) (EP X pins σ Q) X.xe s
noncomputable def UnR (X : Cx) (f : Value → Sem Value) (r : V → Hp → VK → Prop) : Prop :=
  ∀ (pins : List (Addr × Obj)) (s : Shared) (σ : St) (H : Hp) (x : V) (v : Value) (Q : VK), Inv X pins σ H s → RelV x v → r x H Q →
    wpAny (model X.prog X.w) X.A (f v) (EP X pins σ Q) X.xe s
noncomputable def CallR (X : Cx) (f : Value) (r : List V → Hp → VK → Prop) : Prop :=
  ∀ (pins : List (Addr × Obj)) (s : Shared) (σ : St) (H : Hp) (xs : List V) (us : List Value) (Q : VK), Inv X pins σ H s → Vals xs us → r xs H Q →
    wpAny (model X.prog X.w) X.A (call f us) (EP X pins σ Q) X.xe s
noncomputable def TruR (X : Cx) (r : V → Hp → (Bool → Hp → Prop) → Prop) : Prop :=
  ∀ (pins : List (Addr × Obj)) (s : Shared) (σ : St) (H : Hp) (x : V) (v : Value) (Q : Bool → Hp → Prop), Inv X pins σ H s → RelV x v → r x H Q →
    wpAny (model X.prog X.w) X.A (truthy v) (TP X pins σ Q) X.xe s
noncomputable def tOp (r : R2) (ta tb : TE) : TE := fun σ H Q => ta σ H fun x H1 => tb σ H1 fun y H2 => r x y H2 Q
noncomputable def tUn (r : V → Hp → VK → Prop) (ta : TE) : TE := fun σ H Q => ta σ H fun x H1 => r x H1 Q
noncomputable def rI (C : Int → Int → Prop) (g : Int → Int → V) : R2 := fun x y H Q => ∃ i j, x = .int i ∧ y = .int j ∧ C i j ∧ Q (g i j) H
noncomputable def rI0 (g : Int → Int → V) : R2 := fun x y H Q => ∃ i j, x = .int i ∧ y = .int j ∧ Q (g i j) H
noncomputable def rU (g : Int → V) : V → Hp → VK → Prop := fun x H Q => ∃ i, x = .int i ∧ Q (g i) H
section
variable {X : Cx} {a b c : Expr} {ta tb tc : TE} {pos : Pos}
theorem binT (ha : PE X a ta) (hb : PE X b tb) {pins : List (Addr × Obj)} {s : Shared} {σ : St} {H : Hp} {R : V → V → Hp → Prop} (I : Inv X pins σ H s)
    (h : ta σ H fun x H1 => tb σ H1 fun y H2 => R x y H2) {Q : Value → Shared → Prop} {f : Value → Value → Sem Value}
    (hf : ∀ v u s2 x y H2, Inv X pins σ H2 s2 → RelV x v → RelV y u → R x y H2 → wpAny (model X.prog X.w) X.A (f v u) Q X.xe s2) :
    wpAny (model X.prog X.w) X.A (eval a X.env) (fun v s₁ => wpAny (model X.prog X.w) X.A (eval b X.env) (fun u s₂ => wpAny (model X.prog X.w) X.A (f v u) Q X.xe s₂) X.xe s₁) X.xe s := by
  refine thn (ha pins s σ H _ I h) fun v s1 ⟨x, H1, I1, r1, q1⟩ => ?_
  refine thn (hb pins s1 σ H1 _ I1 q1) fun u s2 ⟨y, H2, I2, r2, q2⟩ => ?_
  exact hf v u s2 x y H2 I2 r1 r2 q2
theorem pe_op {op : Operator} {r : R2} (ho : OpR X (binaryOp op) r) (ha : PE X a ta) (hb : PE X b tb) : PE X (.BinOp a op b pos) (tOp r ta tb) := by
  intro pins s σ H Q I h
  exact wpAny_BinOp (binT ha hb I h fun v u s2 x y H2 I2 rx ry q => ho pins s2 σ H2 x y v u Q I2 rx ry q)
theorem pe_un {op : UnaryOp} {r : V → Hp → VK → Prop} (ho : UnR X (unaryOp op) r) (ha : PE X a ta) : PE X (.UnaryOp op a pos) (tUn r ta) := by
  intro pins s σ H Q I h
  exact UnaryOp_ (thn (ha pins s σ H _ I h) fun v s1 ⟨x, H1, I1, r1, q1⟩ => ho pins s1 σ H1 x v Q I1 r1 q1)
theorem opI {f : Value → Value → Sem Value} {C : Int → Int → Prop} {g : Int → Int → Int}
    (rule : ∀ (i j : Int) (t u : Tok) (s : Shared) (Q : Value → Shared → Prop) (E : Value → Shared → Prop), C i j → Q (.int (g i j) s.toks) { s with toks := s.toks + 1 } → wpAny (model X.prog X.w) X.A (f (.int i t) (.int j u)) Q E s) :
    OpR X f (rI C fun i j => .int (g i j)) := by
  intro pins s σ H x y v u Q I rx ry h
  obtain ⟨i, j, rfl, rfl, hc, q⟩ := h
  obtain ⟨t, rfl⟩ := rx
  obtain ⟨t', rfl⟩ := ry
  exact rule i j t t' s _ _ hc ⟨.int (g i j), H, I.tok _, ⟨_, rfl⟩, q⟩
theorem opI0 {f : Value → Value → Sem Value} {g : Int → Int → Int}
    (rule : ∀ (i j : Int) (t u : Tok) (s : Shared) (Q : Value → Shared → Prop) (E : Value → Shared → Prop), Q (.int (g i j) s.toks) { s with toks := s.toks + 1 } → wpAny (model X.prog X.w) X.A (f (.int i t) (.int j u)) Q E s) :
    OpR X f (rI0 fun i j => .int (g i j)) := by
  intro pins s σ H x y v u Q I rx ry h
  obtain ⟨i, j, rfl, rfl, q⟩ := h
  obtain ⟨t, rfl⟩ := rx
  obtain ⟨t', rfl⟩ := ry
  exact rule i j t t' s _ _ ⟨.int (g i j), H, I.tok _, ⟨_, rfl⟩, q⟩
theorem opB0 {f : Value → Value → Sem Value} {g : Int → Int → Bool}
    (rule : ∀ (i j : Int) (t u : Tok) (s : Shared) (Q : Value → Shared → Prop) (E : Value → Shared → Prop), Q (.bool (g i j)) s → wpAny (model X.prog X.w) X.A (f (.int i t) (.int j u)) Q E s) :
    OpR X f (rI0 fun i j => .bl (g i j)) := by
  intro pins s σ H x y v u Q I rx ry h
  obtain ⟨i, j, rfl, rfl, q⟩ := h
  obtain ⟨t, rfl⟩ := rx
  obtain ⟨t', rfl⟩ := ry
  exact rule i j t t' s _ _ ⟨.bl (g i j), H, I, rfl, q⟩
noncomputable def CDiv (i j : Int) : Prop := 0 < j ∧ j < 1073741824
noncomputable def CPow (i j : Int) : Prop := 0 ≤ j ∧ j ≤ 1000000 ∧ i.natAbs < 2 ^ 64
noncomputable def CMul (i j : Int) : Prop := (-(2 ^ 64) < i ∧ i < 2 ^ 64) ∨ (-(2 ^ 64) < j ∧ j < 2 ^ 64)
theorem CMul.ok {i j : Int} (h : CMul i j) : IntMulOk i j := by
  rcases h with ⟨h1, h2⟩ | ⟨h1, h2⟩
  · exact .of_left (intBits_le_64 h1 h2)
  · exact .of_right (intBits_le_64 h1 h2)
theorem op_add : OpR X (binaryOp .Add) (rI0 fun i j => .int (i + j)) := opI0 fun _ _ _ _ _ _ _ q => add_int q
theorem op_sub : OpR X (binaryOp .Sub) (rI0 fun i j => .int (i - j)) := opI0 fun _ _ _ _ _ _ _ q => sub_int q
theorem op_fdiv : OpR X (binaryOp .FloorDiv) (rI CDiv fun i j => .int (i / j)) := opI fun i j _ _ _ _ _ hc q => by
  have h1 : (0 : Int) < j := hc.1
  have h2 : j < 1073741824 := hc.2
  exact floordiv_int (by omega) (by rw [Int.fdiv_eq_ediv_of_nonneg i (by omega)]; exact q) (.inl (PyProof.noPylong_small (by omega)))
theorem op_mod : OpR X (binaryOp .Mod) (rI (fun _ j => 0 < j) fun i j => .int (i % j)) := opI fun i j _ _ _ _ _ hc q => by
  have h1 : (0 : Int) < j := hc
  exact mod_int' (by omega) (by rw [Int.fmod_eq_emod_of_nonneg i (by omega)]; exact q)
theorem op_pow : OpR X (binaryOp .Pow) (rI CPow fun i j => .int (i ^ j.toNat)) := opI fun _ _ _ _ _ _ _ hc q => pow_int_small hc.1 hc.2.1 hc.2.2 q
theorem unI {f : Value → Sem Value} {g : Int → Int}
    (rule : ∀ (i : Int) (t : Tok) (s : Shared) (Q : Value → Shared → Prop) (E : Value → Shared → Prop), Q (.int (g i) s.toks) { s with toks := s.toks + 1 } → wpAny (model X.prog X.w) X.A (f (.int i t)) Q E s) :
    UnR X f (rU fun i => .int (g i)) := by
  intro pins s σ H x v Q I rx h
  obtain ⟨i, rfl, q⟩ := h
  obtain ⟨t, rfl⟩ := rx
  exact rule i t s _ _ ⟨.int (g i), H, I.tok _, ⟨_, rfl⟩, q⟩
theorem un_neg : UnR X (unaryOp .USub) (rU fun i => .int (-i)) := unI fun _ _ _ _ _ q => neg_int q
end
noncomputable def scal : V → V → Bool
  | .non, .non => true | .non, .int _ => true | .int _, .non => true | .non, .bl _ => true | .bl _, .non => true | .non, .str _ => true | .str _, .non => true
  | .int _, .int _ => true | .bl _, .bl _ => true | .str _, .str _ => true | .byt _, .byt _ => true
  | .int _, .str _ => true | .str _, .int _ => true | .bl _, .str _ => true | .str _, .bl _ => true
  | _, _ => false
noncomputable def rEq : R2 := fun x y H Q => scal x y = true ∧ Q (.bl (decide (x = y))) H
noncomputable def rNe : R2 := fun x y H Q => scal x y = true ∧ Q (.bl (!decide (x = y))) H
theorem dec_int {i j : Int} : decide (V.int i = V.int j) = (i == j) := by
  rw [Bool.eq_iff_iff]
  simp
theorem dec_bl {i j : Bool} : decide (V.bl i = V.bl j) = (i == j) := by
  rw [Bool.eq_iff_iff]
  simp
theorem dec_str {i j : Str} : decide (V.str i = V.str j) = (i == j) := by
  rw [Bool.eq_iff_iff]
  simp
theorem dec_byt {i j : Array UInt8} : decide (V.byt i = V.byt j) = (i.toList == j.toList) := by
  rw [Bool.eq_iff_iff]
  cases i
  cases j
  simp
section
variable {X : Cx} {a b c : Expr} {ta tb tc : TE} {pos : Pos}
theorem fin_bl {pins : List (Addr × Obj)} {σ : St} {H : Hp} {s : Shared} {Q : VK} {k k' : Bool} (I : Inv X pins σ H s) (q : Q (.bl k) H) (e : k = k') : EP X pins σ Q (.bool k') s := by
  subst e
  exact ⟨.bl k, H, I, rfl, q⟩
theorem op_eq : OpR X (compareOp .Eq) rEq := by
  intro pins s σ H x y v u Q I rx ry h
  obtain ⟨hs, q⟩ := h
  cases x with
  | non =>
    cases rx
    cases y with
    | non => cases ry; exact PySem.EqNone.eq_none_none (fin_bl I q (by simp))
    | bl j => cases ry; exact PySem.EqNone.eq_none_bool (fin_bl I q (by simp))
    | int j => obtain ⟨t', rfl⟩ := ry; exact PySem.EqNone.eq_none_int (fin_bl I q (by simp))
    | str j => obtain ⟨t', rfl⟩ := ry; exact PySem.EqNone.eq_none_str (fin_bl I q (by simp))
    | _ => exact absurd (show false = true from hs) Bool.false_ne_true
  | bl i =>
    cases rx
    cases y with
    | non => cases ry; exact PySem.EqNone.eq_bool_none (fin_bl I q (by simp))
    | bl j => cases ry; exact eq_bool (fin_bl I q dec_bl)
    | str j => obtain ⟨t', rfl⟩ := ry; exact PySem.EqMixed.eq_bool_str (fin_bl I q (by simp))
    | _ => exact absurd (show false = true from hs) Bool.false_ne_true
  | int i =>
    obtain ⟨t, rfl⟩ := rx
    cases y with
    | non => cases ry; exact PySem.EqNone.eq_int_none (fin_bl I q (by simp))
    | int j => obtain ⟨t', rfl⟩ := ry; exact eq_int (fin_bl I q dec_int)
    | str j => obtain ⟨t', rfl⟩ := ry; exact PySem.EqMixed.eq_int_str (fin_bl I q (by simp))
    | _ => exact absurd (show false = true from hs) Bool.false_ne_true
  | str i =>
    obtain ⟨t, rfl⟩ := rx
    cases y with
    | non => cases ry; exact PySem.EqNone.eq_str_none (fin_bl I q (by simp))
    | bl j => cases ry; exact PySem.EqMixed.eq_str_bool (fin_bl I q (by simp))
    | int j => obtain ⟨t', rfl⟩ := ry; exact PySem.EqMixed.eq_str_int (fin_bl I q (by simp))
    | str j => obtain ⟨t', rfl⟩ := ry; exact eq_str (fin_bl I q dec_str)
    | _ => exact absurd (show false = true from hs) Bool.false_ne_true
  | byt i =>
    obtain ⟨t, rfl⟩ := rx
    cases y with
    | byt j => obtain ⟨t', rfl⟩ := ry; exact PySem.W.eq_bytes (fin_bl I q dec_byt)
    | _ => exact absurd (show false = true from hs) Bool.false_ne_true
  | _ => cases y <;> exact absurd (show false = true from hs) Bool.false_ne_true
theorem op_ne : OpR X (compareOp .NotEq) rNe := by
  intro pins s σ H x y v u Q I rx ry h
  obtain ⟨hs, q⟩ := h
  cases x with
  | non =>
    cases rx
    cases y with
    | non => cases ry; exact PySem.EqNone.ne_none_none (fin_bl I q (by simp))
    | bl j => cases ry; exact PySem.EqNone.ne_none_bool (fin_bl I q (by simp))
    | int j => obtain ⟨t', rfl⟩ := ry; exact PySem.EqNone.ne_none_int (fin_bl I q (by simp))
    | str j => obtain ⟨t', rfl⟩ := ry; exact PySem.EqNone.ne_none_str (fin_bl I q (by simp))
    | _ => exact absurd (show false = true from hs) Bool.false_ne_true
  | bl i =>
    cases rx
    cases y with
    | non => cases ry; exact PySem.EqNone.ne_bool_none (fin_bl I q (by simp))
    | bl j => cases ry; exact ne_bool (fin_bl I q (congrArg not dec_bl))
    | str j => obtain ⟨t', rfl⟩ := ry; exact PySem.EqMixed.ne_bool_str (fin_bl I q (by simp))
    | _ => exact absurd (show false = true from hs) Bool.false_ne_true
  | int i =>
    obtain ⟨t, rfl⟩ := rx
    cases y with
    | non => cases ry; exact PySem.EqNone.ne_int_none (fin_bl I q (by simp))
    | int j => obtain ⟨t', rfl⟩ := ry; exact ne_int (fin_bl I q (congrArg not dec_int))
    | str j => obtain ⟨t', rfl⟩ := ry; exact PySem.EqMixed.ne_int_str (fin_bl I q (by simp))
    | _ => exact absurd (show false = true from hs) Bool.false_ne_true
  | str i =>
    obtain ⟨t, rfl⟩ := rx
    cases y with
    | non => cases ry; exact PySem.EqNone.ne_str_none (fin_bl I q (by simp))
    | bl j => cases ry; exact PySem.EqMixed.ne_str_bool (fin_bl I q (by simp))
    | int j => obtain ⟨t', rfl⟩ := ry; exact PySem.EqMixed.ne_str_int (fin_bl I q (by simp))
    | str j => obtain ⟨t', rfl⟩ := ry; exact ne_str (fin_bl I q (congrArg not dec_str))
    | _ => exact absurd (show false = true from hs) Bool.false_ne_true
  | byt i =>
    obtain ⟨t, rfl⟩ := rx
    cases y with
    | byt j => obtain ⟨t', rfl⟩ := ry; exact PySem.W.ne_bytes (fin_bl I q (congrArg not dec_byt))
    | _ => exact absurd (show false = true from hs) Bool.false_ne_true
  | _ => cases y <;> exact absurd (show false = true from hs) Bool.false_ne_true
theorem op_lt : OpR X (compareOp .Lt) (rI0 fun i j => .bl (decide (i < j))) := opB0 fun _ _ _ _ _ _ _ q => lt_int q
theorem op_gt : OpR X (compareOp .Gt) (rI0 fun i j => .bl (decide (j < i))) := opB0 fun _ _ _ _ _ _ _ q => gt_int q
theorem op_isN : OpR X (compareOp .Is) (fun x y H Q => y = .non ∧ Q (.bl (decide (x = .non))) H) := by
  intro pins s σ H x y v u Q I rx ry h
  obtain ⟨rfl, q⟩ := h
  cases ry
  refine is_none_gen (fin_bl I q ?_)
  cases x <;> first
    | (cases rx; rfl)
    | (obtain ⟨t, rfl⟩ := rx; rfl)
theorem OpR.or {f : Value → Value → Sem Value} {r r' : R2} (h : OpR X f r) (h' : OpR X f r') : OpR X f (fun x y H Q => r x y H Q ∨ r' x y H Q) := by
  intro pins s σ H x y v u Q I rx ry q
  rcases q with q | q
  · exact h pins s σ H x y v u Q I rx ry q
  · exact h' pins s σ H x y v u Q I rx ry q
theorem nomark (b : Expr) {op : CmpOp} (h : op ≠ .In := by decide) (h2 : op ≠ .NotIn := by decide) : behindInMarks op b = false := by
  have e1 : (op == CmpOp.In) = false := by cases op <;> first | rfl | exact absurd rfl h
  have e2 : (op == CmpOp.NotIn) = false := by cases op <;> first | rfl | exact absurd rfl h2
  cases b <;> simp [behindInMarks, e1, e2]
noncomputable def tTest (t : TE) : TT := fun σ H Q => t σ H fun x H' => ∃ k, x = .bl k ∧ Q k H'
theorem pt_cmpR {op : CmpOp} {r : R2} (ho : OpR X (compareOp op) r) (ha : PE X a ta) (hb : PE X b tb) (hm : behindInMarks op b = false) : PT X (.Compare a [op] [b] pos) (tTest (tOp r ta tb)) := by
  intro pins s σ H Q I h
  refine wpAny_isTrue_Compare1 (thn (ha pins s σ H _ I h) fun v s1 ⟨x, H1, I1, r1, q1⟩ => thn (hb pins s1 σ H1 _ I1 q1) fun u s2 ⟨y, H2, I2, r2, q2⟩ =>
    thn (ho pins s2 σ H2 x y v u _ I2 r1 r2 q2) fun c s3 ⟨z, H3, I3, r3, k, e, q3⟩ => ?_) hm
  subst e
  cases r3
  exact wpAny_truthy_bool ⟨H3, I3, q3⟩
noncomputable def TruV (K : PySem.W.Frag) (x : V) (H : Hp) (k : Bool) : Prop :=
  match x with
  | .non => k = false
  | .bl b => k = b
  | .int i => k = (i != 0)
  | .str y => y.length ≤ sizeLine ∧ k = ((y.length : Int) != 0)
  | .byt y => y.size ≤ sizeLine ∧ k = ((y.size : Int) != 0)
  | .ref p => (∃ xs, SqL K H p xs ∧ k = !xs.isEmpty) ∨ (∃ xs, SqT K H p xs ∧ k = !xs.isEmpty) ∨ ∃ kvs, H p = some (.dK kvs) ∧ k = !kvs.isEmpty
  | _ => False
theorem isEmpty_kv {κ : Type} {kvs : List (κ × V)} {vs : List (κ × Value)} (r : KV kvs vs) : (!vs.isEmpty) = !kvs.isEmpty := by
  cases r <;> rfl
theorem isEmpty_of {xs : List V} {its : List Value} (r : Vals xs its) : (!its.toArray.isEmpty) = !xs.isEmpty := by
  cases r <;> simp
theorem line63 : (sizeLine : Nat) < 2 ^ 63 := by rw [sizeLine_eq]; decide
theorem tru_ok : TruR X (fun x H Q => ∃ k, TruV X.K x H k ∧ Q k H) := by
  intro pins s σ H x v Q I rx h
  obtain ⟨k, e, q⟩ := h
  have hl := line63
  have hs : sizeLine = 16777216 := sizeLine_eq
  cases x with
  | non =>
    cases rx
    have e' : k = false := e
    subst e'
    exact truthy_none ⟨H, I, q⟩
  | bl b =>
    cases rx
    have e' : k = b := e
    subst e'
    exact wpAny_truthy_bool ⟨H, I, q⟩
  | int i =>
    obtain ⟨t, rfl⟩ := rx
    have e' : k = (i != 0) := e
    subst e'
    exact PySem.P.truthy_int ⟨H, I, q⟩
  | str y =>
    obtain ⟨t, rfl⟩ := rx
    obtain ⟨hy, e'⟩ : y.length ≤ sizeLine ∧ k = ((y.length : Int) != 0) := e
    subst e'
    exact PySem.P.truthy_str (by omega) ⟨H, I.tok _, q⟩
  | byt y =>
    obtain ⟨t, rfl⟩ := rx
    obtain ⟨hy, e'⟩ : y.size ≤ sizeLine ∧ k = ((y.size : Int) != 0) := e
    subst e'
    exact PySem.W.truthy_bytes (by omega) ⟨H, I.tok _, q⟩
  | ref p =>
    cases rx
    have e' : (∃ xs, SqL X.K H p xs ∧ k = !xs.isEmpty) ∨ (∃ xs, SqT X.K H p xs ∧ k = !xs.isEmpty) ∨ ∃ kvs, H p = some (.dK kvs) ∧ k = !kvs.isEmpty := e
    rcases e' with ⟨xs, hx, e'⟩ | ⟨xs, hx, e'⟩ | ⟨kvs, hx, e'⟩
    · subst e'
      obtain ⟨its, r, pl, hz⟩ := I.list hx
      have hlen := r.length
      exact wpAny_truthy_list pl.isList (by simp only [List.size_toArray]; omega) ⟨H, I.tok _, by rw [isEmpty_of r]; exact q⟩
    · subst e'
      obtain ⟨its, r, pl, hz⟩ := I.tuple hx
      have hlen := r.length
      exact truthy_tuple pl (by simp only [List.size_toArray]; omega) ⟨H, I.tok _, by rw [isEmpty_of r]; exact q⟩
    · subst e'
      obtain ⟨hz, hS, vs, r, m⟩ : kvs.length ≤ sizeLine ∧ (p == sysModules) = false ∧ ∃ vs, KV kvs vs ∧ s.heap.DictOf (mixKind X.prog X.w) p vs := I.hok p _ hx
      have hlen : kvs.length = vs.length := Paired.length r
      exact wpAny_truthy_dict hS m (by omega) ⟨H, I.tok _, by rw [isEmpty_kv r]; exact q⟩
  | _ => exact (show False from e).elim
theorem op_add_str : OpR X (binaryOp .Add) (fun x y H Q => ∃ i j, x = .str i ∧ y = .str j ∧ i.length + j.length ≤ sizeLine ∧ Q (.str (i ++ j)) H) := by
  intro pins s σ H x y v u Q I rx ry h
  obtain ⟨i, j, rfl, rfl, hz, q⟩ := h
  obtain ⟨t, rfl⟩ := rx
  obtain ⟨t', rfl⟩ := ry
  exact add_str (fun t' tk => ⟨.str (i ++ j), H, I.tok _, ⟨_, rfl⟩, q⟩) hz
theorem vals1 {x : V} {us : List Value} (r : Vals [x] us) : ∃ u, us = [u] ∧ RelV x u := by
  cases r with
  | cons r1 r2 => cases r2; exact ⟨_, rfl, r1⟩
theorem vals2 {x y : V} {us : List Value} (r : Vals [x, y] us) : ∃ u w', us = [u, w'] ∧ RelV x u ∧ RelV y w' := by
  cases r with
  | cons r1 r2 =>
    cases r2 with
    | cons r3 r4 => cases r4; exact ⟨_, _, rfl, r1, r3⟩
noncomputable def LenV (K : PySem.W.Frag) (x : V) (H : Hp) (n : Nat) : Prop :=
  match x with
  | .str y => y.length ≤ sizeLine ∧ n = y.length
  | .byt y => y.size ≤ sizeLine ∧ n = y.size
  | .ref p => (∃ xs, SqL K H p xs ∧ n = xs.length) ∨ ∃ xs, SqT K H p xs ∧ n = xs.length
  | _ => False
theorem call_len : CallR X (.builtin "len") (fun xs H Q => ∃ x n, xs = [x] ∧ LenV X.K x H n ∧ Q (.int n) H) := by
  intro pins s σ H xs us Q I r h
  obtain ⟨x, n, rfl, e, q⟩ := h
  obtain ⟨u, rfl, rx⟩ := vals1 r
  have hl := line63
  have hs : sizeLine = 16777216 := sizeLine_eq
  cases x with
  | str y =>
    obtain ⟨t, rfl⟩ := rx
    obtain ⟨hy, e'⟩ : y.length ≤ sizeLine ∧ n = y.length := e
    subst e'
    exact len_str (by omega) ⟨.int _, H, I.tok _, ⟨_, rfl⟩, q⟩
  | byt y =>
    obtain ⟨t, rfl⟩ := rx
    obtain ⟨hy, e'⟩ : y.size ≤ sizeLine ∧ n = y.size := e
    subst e'
    exact PySem.W.len_bytes (by omega) ⟨.int _, H, I.tok _, ⟨_, rfl⟩, q⟩
  | ref p =>
    cases rx
    have e' : (∃ xs, SqL X.K H p xs ∧ n = xs.length) ∨ ∃ xs, SqT X.K H p xs ∧ n = xs.length := e
    rcases e' with ⟨xs, hx, e'⟩ | ⟨xs, hx, e'⟩
    · subst e'
      obtain ⟨its, r', pl, hz⟩ := I.list hx
      have hlen := r'.length
      exact Calls.call_len_list pl.isList (by simp only [List.size_toArray]; omega) ⟨.int xs.length, H, I.tok _, ⟨_, by simp only [List.size_toArray]; rw [hlen]⟩, q⟩
    · subst e'
      obtain ⟨its, r', pl, hz⟩ := I.tuple hx
      have hlen := r'.length
      exact len_tuple pl (by simp only [List.size_toArray]; omega) ⟨.int xs.length, H, I.tok _, ⟨_, by simp only [List.size_toArray]; rw [hlen]⟩, q⟩
  | _ => exact (show False from e).elim
end
end L2
namespace L2
open PySem PySem.Spec PyProof.Rows
structure ObjM (h : Heap) (x dx C : Addr) (mA : Str → Option Value) : Prop where
  obj : h.get? x = some (PySem.W.instObj C dx)
  ns : h.Ns1 dx mA
  ne : dx ≠ x
theorem lookIn_ns {h : Heap} {dx : Addr} {mA : Str → Option Value} (n : h.Ns1 dx mA) : ∃ od, h.get? dx = some od ∧ ∀ name, PySem.W.lookIn name od = some (mA name) := by
  obtain ⟨o, es, ep, ho, hd, hk, _, hm⟩ := n
  refine ⟨o, ho, fun name => ?_⟩
  have e := hm name
  unfold nsFind findBy at e
  rw [← Array.find?_toList] at e
  unfold PySem.W.lookIn
  rw [hd]
  dsimp only
  split
  · rename_i y q
    rw [q] at e
    exact congrArg some e
  · rename_i q
    rw [q] at e
    have a : es.toList.any (·.refKey) = false := by
      rw [List.any_eq_false]
      intro y hy
      obtain ⟨z, t, hkey⟩ := hk y (Array.mem_toList_iff.mp hy)
      simp [DictEntry.refKey, hkey]
    have a' : ¬ es.toList.any (·.refKey) = true := by rw [a]; exact Bool.false_ne_true
    rw [if_neg a']
    exact congrArg some e
theorem ObjM.look {h : Heap} {x dx C : Addr} {mA : Str → Option Value} (I : ObjM h x dx C mA) : ∃ od, PySem.W.InstAt h x (PySem.W.instObj C dx) C (some od) ∧ ∀ name, PySem.W.lookIn name od = some (mA name) :=
  let ⟨od, ho, hl⟩ := lookIn_ns I.ns
  ⟨od, ⟨I.obj, rfl, rfl, ho⟩, hl⟩
section
variable {prog : Program} {w : World} {A : Around} {E : Value → Shared → Prop} {s : Shared} {K : PySem.W.Frag} {x dx C f : Addr} {mA : Str → Option Value} {name : Str} {v : Value}
theorem get_map {expr : Bool} {Q : Value → Shared → Prop} (X : K.In s.heap) (I : ObjM s.heap x dx C mA) (hg : PySem.W.plainGet K C name = true) (hh : PySem.W.hasDictIn K C = true)
    (ha : PySem.W.findIn K (.ref C) name = some none) (hv : mA name = some v) (hv' : PySem.W.handedIn v = true) (h : Q v { s with toks := s.toks + 1 }) :
    wpAny (model prog w) A (getAttr (.ref x) name expr) Q E s := by
  obtain ⟨od, J, hl⟩ := I.look
  exact PySem.W.get_value X J (PySem.W.plainGet_of hg).1 (PySem.W.findObj_own hh ha rfl (by rw [hl, hv])) hv' h
theorem get_meth {pl : Sem Bool} {Q : Value × List Value → Shared → Prop} (X : K.In s.heap) (I : ObjM s.heap x dx C mA) (hg : PySem.W.plainGet K C name = true)
    (hf : PySem.W.findIn K (.ref C) name = some (some (.ref f))) (ht : PySem.W.isFn K (.ref f) = true) (hv : mA name = none) (h : Q (.ref f, [.ref x]) s) :
    wpAny (model prog w) A (getMethod (.ref x) name pl) Q E s := by
  obtain ⟨od, J, hl⟩ := I.look
  exact PySem.W.method_fn X J (PySem.W.plainGet_of hg).1 (PySem.W.plainGet_of hg).2 hf (beq_iff_eq.mp ht) (by show (PySem.W.lookIn name od).map (·.isSome) = some false; rw [hl, hv]; rfl) h
theorem set_map {ns : List Str} {Q : Unit → Shared → Prop} (X : K.In s.heap) (I : ObjM s.heap x dx C mA)
    (hs : PySem.W.findIn K (.ref C) "__setattr__" = some (some (.builtin "object.__setattr__"))) (hp : PySem.W.plainOver K C = true) (ht : PySem.W.takerIn K C name = some none) (hh : PySem.W.hasDictIn K C = true)
    (hw : PySem.Within mA ns) (hsz : ns.length ≤ sizeLine)
    (h : ∀ h', ObjM h' x dx C (fun y => if y = name then some v else mA y) → Heap.SameBut dx s.heap h' → Q () { s with heap := h', toks := s.toks + 2 }) :
    wpAny (model prog w) A (setAttr (.ref x) name v) Q E s := by
  obtain ⟨od, J, hl⟩ := I.look
  refine PySem.W.set_plain X J hs (PySem.W.osa_open (s := { s with toks := s.toks + 1 }) (r := none) X J hp ht fun b => ?_)
  obtain ⟨cd, hc, hd'⟩ := PySem.W.any_some hh
  have hx : s.heap.get? x = some ⟨.ref C, some dx, .plain, #[]⟩ := I.obj
  refine wpAny_bind (wpAny_pure (wpAny_bind (wpAny_bind (wpAny_loadPart hx (wpAny_bind (PySem.W.Looks.here (s := { s with toks := s.toks + 1 }) (PySem.W.looks_clsIn X hc) ?_))))))
  rw [hd']
  refine wpAny_pure (a := some dx) (wpAny_bind (wpAny_pure (wpAny_bind ?_)))
  refine wpAny_nsSet1 (s := { s with toks := s.toks + 1 }) I.ns fun h' hn2 hs2 => ?_
  obtain ⟨oD, esD, epD, hoD, hdD, hcD⟩ := hn2.count (PySem.Within.cons name v hw)
  refine wpAny_bind (wpAny_lookBehind hoD (by rw [hdD]; exact pastItsLine_dict (Nat.le_trans hcD (by rw [List.length_cons]; omega))) ?_)
  exact wpAny_pure (h _ ⟨(hs2.2 _ (Ne.symm I.ne)).trans I.obj, hn2, I.ne⟩ hs2)
theorem make_map {R : Result → Shared → Prop} {vs : List Value} {kw : List (Str × Value)} (X : K.In s.heap) (hm : PySem.W.makesIn K C = true)
    (hi : PySem.W.findIn K (.ref C) "__init__" = some (some (.ref f))) (hf : PySem.W.typeIn K (.ref f) = some (.type "function"))
    (h : codeAny (model prog w) (A.under (.builtin "type.__call__" ⟨.ref C :: vs, kw⟩)) (.call (.ref f) ⟨.ref (s.heap.objs.size + 1) :: vs, kw⟩) (PySem.W.InitBack (s.heap.objs.size + 1) R)
      { s with heap := (s.heap.push PySem.W.emptyDict).push (PySem.W.instObj C s.heap.objs.size) }) :
    codeAny (model prog w) A (.call (.ref C) ⟨vs, kw⟩) R s := by
  obtain ⟨hh, g, d, t, os⟩ := s
  exact PySem.W.make_core (PySem.W.makes_of X hm) (PySem.W.looks_findIn X hi) (fun self => PySem.W.bind_fn X self hf) (.inl rfl) h
end
noncomputable def putF (f : Str) (v : V) : List (Str × V) → List (Str × V)
  | [] => [(f, v)]
  | (g, x) :: r => if g = f then (g, v) :: r else (g, x) :: putF f v r
theorem lookup_putF (f g : Str) (v : V) : ∀ fs : List (Str × V), (putF f v fs).lookup g = if g = f then some v else fs.lookup g
  | [] => by
    show List.lookup g [(f, v)] = _
    by_cases h : g = f
    · have hb : (g == f) = true := beq_iff_eq.mpr h
      simp only [List.lookup, hb, if_pos h]
    · have hb : (g == f) = false := beq_eq_false_iff_ne.mpr h
      simp only [List.lookup, hb, if_neg h]
  | (k, x) :: r => by
    have ih := lookup_putF f g v r
    rw [show putF f v ((k, x) :: r) = (if k = f then (k, v) :: r else (k, x) :: putF f v r) from rfl]
    by_cases hk : k = f
    · rw [if_pos hk]
      by_cases h : g = k
      · have hb : (g == k) = true := beq_iff_eq.mpr h
        simp only [List.lookup, hb, if_pos (h.trans hk)]
      · have hb : (g == k) = false := beq_eq_false_iff_ne.mpr h
        simp only [List.lookup, hb, if_neg (fun e : g = f => h (e.trans hk.symm))]
    · rw [if_neg hk]
      by_cases h : g = k
      · have hb : (g == k) = true := beq_iff_eq.mpr h
        simp only [List.lookup, hb, if_neg (fun e : g = f => hk (h.symm.trans e))]
      · have hb : (g == k) = false := beq_eq_false_iff_ne.mpr h
        simp only [List.lookup, hb]
        exact ih
theorem keys_putF (f : Str) (v : V) : ∀ fs : List (Str × V), f ∈ (putF f v fs).map (·.1) ∧ ∀ g, g ∈ fs.map (·.1) → g ∈ (putF f v fs).map (·.1)
  | [] => ⟨by simp [putF], fun g h => by simp at h⟩
  | (k, x) :: r => by
    obtain ⟨i1, i2⟩ := keys_putF f v r
    rw [show putF f v ((k, x) :: r) = (if k = f then (k, v) :: r else (k, x) :: putF f v r) from rfl]
    by_cases hk : k = f
    · rw [if_pos hk]
      subst hk
      exact ⟨by simp, fun g h => by simpa using h⟩
    · rw [if_neg hk]
      refine ⟨?_, fun g h => ?_⟩
      · rw [List.map_cons]
        exact List.mem_cons_of_mem _ i1
      · rw [List.map_cons] at h ⊢
        rcases List.mem_cons.mp h with e | e
        · exact List.mem_cons.mpr (.inl e)
        · exact List.mem_cons_of_mem _ (i2 g e)
theorem length_putF (f : Str) (v : V) : ∀ fs : List (Str × V), (putF f v fs).length ≤ fs.length + 1
  | [] => by simp [putF]
  | (k, x) :: r => by
    have ih := length_putF f v r
    rw [show putF f v ((k, x) :: r) = (if k = f then (k, v) :: r else (k, x) :: putF f v r) from rfl]
    by_cases hk : k = f
    · rw [if_pos hk, List.length_cons, List.length_cons]; omega
    · rw [if_neg hk, List.length_cons, List.length_cons]; omega
theorem RelO.some_of {v : V} {o : Option Value} (r : RelO (some v) o) : ∃ u, o = some u ∧ RelV v u := by
  cases o with
  | none => exact (show False from r).elim
  | some u => exact ⟨u, rfl, r⟩
theorem RelO.none_of {o : Option Value} (r : RelO none o) : o = none := by
  cases o with
  | none => rfl
  | some u => exact (show False from r).elim
theorem handed_of {v : V} {u : Value} (r : RelV v u) : PySem.W.handedIn u = true := by
  cases v with
  | non => cases (show u = Value.none from r); rfl
  | bl b => cases (show u = Value.bool b from r); rfl
  | int i => obtain ⟨t, e⟩ := (show ∃ t, u = Value.int i t from r); cases e; rfl
  | str x => obtain ⟨t, e⟩ := (show ∃ t, u = Value.str x t from r); cases e; rfl
  | byt b => obtain ⟨t, e⟩ := (show ∃ t, u = Value.bytes b t from r); cases e; rfl
  | flt b => obtain ⟨t, e⟩ := (show ∃ t, u = Value.float b t from r); cases e; rfl
  | ref a => cases (show u = Value.ref a from r); rfl
  | ty n => cases (show u = Value.type n from r); rfl
section
variable {P : Program} {w : World} {H H' : Hp} {h h' : Heap} {a C dx : Addr} {fs fs' : List (Str × V)}
theorem ins_get (hok : HOk P w H h) (e : H a = some (.ins C dx fs)) : ∃ mA, ObjM h a dx C mA ∧ (∀ f, RelO (fs.lookup f) (mA f)) ∧ PySem.Within mA (fs.map (·.1)) ∧ fs.length ≤ 1000 ∧ H dx = some (.own a) := by
  obtain ⟨d, z, ne, ob, mA, n, r, q⟩ := (show ObjOk P w H h a (.ins C dx fs) from hok a _ e)
  exact ⟨mA, ⟨ob, n, ne⟩, r, q, z, d⟩
end
structure Cls (K : PySem.W.Frag) (C : Addr) : Prop where
  pg : PySem.W.plainGet K C Str.empty = true
  hd : PySem.W.hasDictIn K C = true
  po : PySem.W.plainOver K C = true
  sa : PySem.W.findIn K (.ref C) "__setattr__" = some (some (.builtin "object.__setattr__"))
theorem Cls.get {K : PySem.W.Frag} {C : Addr} (c : Cls K C) (f : Str) : PySem.W.plainGet K C f = true := c.pg
noncomputable def NoAttr (K : PySem.W.Frag) (C : Addr) (f : Str) : Prop := PySem.W.findIn K (.ref C) f = some none
theorem NoAttr.taker {K : PySem.W.Frag} {C : Addr} {f : Str} (n : NoAttr K C f) : PySem.W.takerIn K C f = some none := by
  unfold PySem.W.takerIn
  rw [show PySem.W.findIn K (.ref C) f = some none from n]
  rfl
structure Meth (K : PySem.W.Frag) (C : Addr) (m : Str) (f : Addr) : Prop where
  at_ : PySem.W.findIn K (.ref C) m = some (some (.ref f))
  fn : PySem.W.isFn K (.ref f) = true
  kp : PySem.W.keepIn K (.ref f) = true
section
variable {X : Cx} {pins : List (Addr × Obj)} {σ : St} {H : Hp} {s : Shared} {a C dx : Addr} {fs : List (Str × V)} {f : Str} {v : V} {A : Around} {E : Value → Shared → Prop}
theorem getattr_ok {b : Bool} {Q : Value → Shared → Prop} (I : Inv X pins σ H s) (e : H a = some (.ins C dx fs)) (c : Cls X.K C) (n : NoAttr X.K C f) (l : fs.lookup f = some v)
    (h : ∀ u s', Inv X pins σ H s' → RelV v u → Q u s') : wpAny (model X.prog X.w) A (getAttr (.ref a) f b) Q E s := by
  obtain ⟨mA, O, r, _, _, _⟩ := ins_get I.hok e
  obtain ⟨u, hu, ru⟩ := RelO.some_of (v := v) (o := mA f) (by rw [← l]; exact r f)
  exact get_map I.kIn O (c.get f) c.hd n hu (handed_of ru) (h u _ (I.tok _) ru)
theorem getmeth_ok {m : Str} {g : Addr} {pl : Sem Bool} {Q : Value × List Value → Shared → Prop} (I : Inv X pins σ H s) (e : H a = some (.ins C dx fs)) (c : Cls X.K C) (k : Meth X.K C m g) (l : fs.lookup m = none)
    (h : Q (.ref g, [.ref a]) s) : wpAny (model X.prog X.w) A (getMethod (.ref a) m pl) Q E s := by
  obtain ⟨mA, O, r, _, _, _⟩ := ins_get I.hok e
  have hn : mA m = none := RelO.none_of (by rw [← l]; exact r m)
  exact get_meth I.kIn O (c.get m) k.at_ k.fn hn h
theorem setattr_ok {y : V} {u : Value} {Q : Unit → Shared → Prop} (I : Inv X pins σ H s) (e : H a = some (.ins C dx fs)) (c : Cls X.K C) (n : NoAttr X.K C f) (hl : fs.length < 1000) (ry : RelV y u)
    (h : ∀ s', Inv X pins σ (upd H a (.ins C dx (putF f y fs))) s' → Q () s') : wpAny (model X.prog X.w) A (setAttr (.ref a) f u) Q E s := by
  obtain ⟨mA, O, r, wi, _, ho⟩ := ins_get I.hok e
  have hz : (fs.map (·.1)).length ≤ sizeLine := by rw [List.length_map, sizeLine_eq]; omega
  refine set_map I.kIn O c.sa c.po n.taker c.hd wi hz fun h' O' sb => h _ ?_
  have hd : ∃ o, h'.get? dx = some o := let ⟨o, _, _, e', _⟩ := O'.ns; ⟨o, e'⟩
  refine I.write (x := a) (e := dx) (by rw [e]; exact True.intro) (.inr ho) (fun b q hb z => (sb.2 b hb).trans z) hd ?_
  refine ⟨by rw [upd_ne O.ne]; exact ho, ?_, O.ne, O'.obj, _, O'.ns, fun g => ?_, fun g hg => ?_⟩
  · have := length_putF f y fs; omega
  · show RelO ((putF f y fs).lookup g) (if g = f then some u else mA g)
    rw [lookup_putF]
    by_cases q : g = f
    · rw [if_pos q, if_pos q]; exact ry
    · rw [if_neg q, if_neg q]; exact r g
  · by_cases q : g = f
    · rw [q]; exact (keys_putF f y fs).1
    · refine (keys_putF f y fs).2 g (wi g fun z => hg ?_)
      show (if g = f then some u else mA g) = none
      rw [if_neg q]; exact z
theorem Inv.made (I : Inv X pins σ H s) : Inv X pins σ (upd (upd H s.heap.objs.size (.own (s.heap.objs.size + 1))) (s.heap.objs.size + 1) (.ins C s.heap.objs.size []))
    { s with heap := (s.heap.push PySem.W.emptyDict).push (PySem.W.instObj C s.heap.objs.size) } := by
  have e1 : (s.heap.push PySem.W.emptyDict).get? s.heap.objs.size = some PySem.W.emptyDict := Heap.get?_push_size s.heap rfl
  have e2 : ((s.heap.push PySem.W.emptyDict).push (PySem.W.instObj C s.heap.objs.size)).get? (s.heap.objs.size + 1) = some (PySem.W.instObj C s.heap.objs.size) := by
    have := Heap.get?_push_size (s.heap.push PySem.W.emptyDict) (o := PySem.W.instObj C s.heap.objs.size) rfl
    rwa [Heap.size_push] at this
  have e3 : (s.heap.push PySem.W.emptyDict).Ns s.heap.objs.size (fun _ => none) := ⟨PySem.W.emptyDict, #[], _, e1, rfl, (fun e he => absurd he (by simp)), fun _ => rfl⟩
  have I1 := I.laid (a := s.heap.objs.size) (o := .own (s.heap.objs.size + 1)) (h' := s.heap.push PySem.W.emptyDict) (t' := s.toks) (fun b u q => Heap.get?_push_of_some _ q) (Nat.le_refl _) ⟨_, e1⟩
  refine I1.laid (a := s.heap.objs.size + 1) (o := .ins C s.heap.objs.size []) (t' := s.toks) (fun b u q => Heap.get?_push_of_some _ q) (Nat.le_of_eq (Heap.size_push _ _)) ?_
  have ne : s.heap.objs.size ≠ s.heap.objs.size + 1 := Nat.ne_of_lt (Nat.lt_succ_self _)
  refine ⟨by rw [upd_ne ne, upd_same], Nat.zero_le _, ne, e2, fun _ => none, (Heap.Ns1.of_empty e3).at fun o q => Heap.get?_push_of_some _ q, fun _ => True.intro, fun y hy => absurd rfl hy⟩
theorem attr_of {prog : Program} {w : World} {env : Env} {e : Expr} {f : Str} {pos : Pos} {s : Shared} {Q : Value → Shared → Prop} (hb : attributeBase e f env (eval e env) = eval e env)
    (h : wpAny (model prog w) A (eval e env) (fun o s₁ => wpAny (model prog w) A (getAttr o f true) Q E s₁) E s) : wpAny (model prog w) A (eval (.Attribute e f pos) env) Q E s :=
  Attribute_any_ h (by rw [arm_eval_Attribute, hb])
end
noncomputable def tFld (K : PySem.W.Frag) (ta : TE) (f : Str) : TE := fun σ H Q => ta σ H fun x H1 => ∃ a C dx fs v, x = .ref a ∧ H1 a = some (.ins C dx fs) ∧ Cls K C ∧ NoAttr K C f ∧ fs.lookup f = some v ∧ Q v H1
noncomputable def sFld (K : PySem.W.Frag) (ta tv : TE) (f : Str) : TS := fun D σ H => tv σ H fun y H1 => ta σ H1 fun x H2 => ∃ a C dx fs, x = .ref a ∧ H2 a = some (.ins C dx fs) ∧ Cls K C ∧ NoAttr K C f ∧ fs.length < 1000 ∧
  D.nx σ (upd H2 a (.ins C dx (putF f y fs)))
section
variable {X : Cx} {o e value : Expr} {f : Str} {pos pos' tpos : Pos} {ta tv : TE}
theorem pe_fld (he : PE X e ta) (hb : attributeBase e f X.env (eval e X.env) = eval e X.env) : PE X (.Attribute e f pos) (tFld X.K ta f) := by
  intro pins s σ H Q I h
  refine attr_of hb (thn (he pins s σ H _ I h) fun u s1 ⟨x, H1, I1, rx, a, C, dx, fs, v, ex, ea, c, n, l, q⟩ => ?_)
  subst ex
  obtain rfl : u = Value.ref a := rx
  exact getattr_ok I1 ea c n l fun u' s2 I2 ru => ⟨v, H1, I2, ru, q⟩
theorem ps_fld (ha : PE X o ta) (hv : PE X value tv) (hs : swapsWith value (some (.Attribute o f pos')) pos.line X.env = pure false) : PS X (.Assign [.Attribute o f pos'] value pos) (sFld X.K ta tv f) := by
  intro pins s σ H D I h
  refine plainObj_wpAny_Assign_Attribute (thn (hv pins s σ H _ I h) fun u s1 ⟨y, H1, I1, ry, q⟩ => thn (ha pins s1 σ H1 _ I1 q) fun ov s2 ⟨x, H2, I2, rx, a, C, dx, fs, ex, ea, c, n, l, q2⟩ => ?_) hs
  subst ex
  obtain rfl : ov = Value.ref a := rx
  exact setattr_ok I2 ea c n l ry fun s3 I3 => ⟨σ, _, I3, q2⟩
end
section
variable {X : Cx} {pins : List (Addr × Obj)} {σ : St} {H : Hp} {s : Shared} {A : Around} {E : Value → Shared → Prop} {Q : Value → Shared → Prop} {c : Value} {b : Bool}
inductive TyOf (K : PySem.W.Frag) (H : Hp) : V → Value → Prop where
  | non : TyOf K H .non (.type "NoneType")
  | bl (x : Bool) : TyOf K H (.bl x) (.type "bool")
  | int (i : Int) : TyOf K H (.int i) (.type "int")
  | str (x : Str) : TyOf K H (.str x) (.type "str")
  | flt (x : UInt64) : TyOf K H (.flt x) (.type "float")
  | lst {a : Addr} {xs : List V} (e : H a = some (.lst xs)) : TyOf K H (.ref a) (.type "list")
  | frz {a : Addr} {o : Obj} {xs : List V} (e : H a = some (.frz o (.lst xs))) : TyOf K H (.ref a) (.type "list")
  | tup {a : Addr} {xs : List V} (e : H a = some (.tup xs)) : TyOf K H (.ref a) (.type "tuple")
  | dK {a : Addr} {kvs : List (Key × V)} (e : H a = some (.dK kvs)) : TyOf K H (.ref a) (.type "dict")
  | dT {a : Addr} {kvs : List (List Key × V)} (e : H a = some (.dT kvs)) : TyOf K H (.ref a) (.type "dict")
  | ins {a C dx : Addr} {fs : List (Str × V)} (e : H a = some (.ins C dx fs)) (cl : Cls K C) (ha : PySem.W.findIn K (.ref C) "__class__" = some (some (.builtin "object.__class__")))
      (hn : PySem.W.specialIn K (.builtin "object.__class__") "__get__" = some (some (.builtin "getset_descriptor.__get__"))) (htk : PySem.W.takesIn K (.builtin "object.__class__") = some true)
      (hm : PySem.W.mroIn K C (.type "object") = some true) : TyOf K H (.ref a) (.ref C)
theorem isinst_ok {x : V} {u t : Value} (I : Inv X pins σ H s) (rx : RelV x u) (ty : TyOf X.K H x t) (e : PySem.W.kitOne X.K t c = some b) (h : ∀ tk, Q (.bool b) { s with toks := tk }) :
    wpAny (model X.prog X.w) A (call (.builtin "isinstance") [u, c]) Q E s := by
  cases ty with
  | non => cases (show u = Value.none from rx); exact PySem.W.kia_one PySem.W.kitx_none I.kIn True.intro e (fun z => nomatch z) h
  | bl y => cases (show u = Value.bool y from rx); exact PySem.W.kia_one PySem.W.kitx_bool I.kIn True.intro e (fun z => nomatch z) h
  | int i => obtain ⟨t, q⟩ := (show ∃ t, u = Value.int i t from rx); cases q; exact PySem.W.kia_one PySem.W.kitx_int I.kIn True.intro e (fun z => nomatch z) h
  | str y => obtain ⟨t, q⟩ := (show ∃ t, u = Value.str y t from rx); cases q; exact PySem.W.kia_one PySem.W.kitx_str I.kIn True.intro e (fun z => nomatch z) h
  | flt y => obtain ⟨t, q⟩ := (show ∃ t, u = Value.float y t from rx); cases q; exact PySem.W.kia_one PySem.W.kitx_float I.kIn True.intro e (fun z => nomatch z) h
  | @lst a xs ea =>
    cases (show u = Value.ref a from rx)
    obtain ⟨_, _, n, _, h1⟩ := (show ObjOk X.prog X.w H s.heap a (.lst xs) from I.hok a _ ea)
    exact PySem.W.kia_one PySem.W.kitx_list I.kIn ⟨_, h1, rfl⟩ e (fun z => nomatch z) h
  | @frz a ob xs ea =>
    cases (show u = Value.ref a from rx)
    obtain ⟨_, _, _, n, _, h1⟩ := (show ObjOk X.prog X.w H s.heap a (.frz ob (.lst xs)) from I.hok a _ ea)
    exact PySem.W.kia_one PySem.W.kitx_list I.kIn ⟨_, h1, rfl⟩ e (fun z => nomatch z) h
  | @tup a xs ea =>
    cases (show u = Value.ref a from rx)
    obtain ⟨_, _, _, p⟩ := (show ObjOk X.prog X.w H s.heap a (.tup xs) from I.hok a _ ea)
    obtain ⟨o, h1, h2, _⟩ := p
    exact PySem.W.kia_one PySem.W.kitx_tuple I.kIn ⟨o, h1, h2⟩ e (fun z => nomatch z) h
  | @dK a kvs ea =>
    cases (show u = Value.ref a from rx)
    obtain ⟨_, _, vs, _, p⟩ := (show ObjOk X.prog X.w H s.heap a (.dK kvs) from I.hok a _ ea)
    obtain ⟨o, es, ep, h1, h2, _⟩ := p
    exact PySem.W.kia_one PySem.W.kitx_dict I.kIn ⟨o, h1, h2.1⟩ e (fun z => nomatch z) h
  | @dT a kvs ea =>
    cases (show u = Value.ref a from rx)
    obtain ⟨_, _, xs, _, o, es, ep, h1, h2, _⟩ := (show ObjOk X.prog X.w H s.heap a (.dT kvs) from I.hok a _ ea)
    exact PySem.W.kia_one PySem.W.kitx_dict I.kIn ⟨o, h1, h2.1⟩ e (fun z => nomatch z) h
  | @ins a C dx fs ea cl ha hn htk hm =>
    cases (show u = Value.ref a from rx)
    obtain ⟨mA, O, _⟩ := ins_get I.hok ea
    obtain ⟨od, J, _⟩ := O.look
    exact PySem.W.kia_one (PySem.W.kitx_own (cl.get _) cl.hd ha hn htk hm) I.kIn J e (fun z => nomatch z) h
end
end L2
namespace L2
open PySem PySem.Spec PyProof.Rows
structure Room (k : Nat) (A : Around) : Prop where
  hd : A.handled = none
  dp : A.depth + 3 * k + 5 < recursionLimit
  un : A.units + 16 * k + 200 < cLine
theorem Room.mono {j k : Nat} {A : Around} (r : Room k A) (h : j ≤ k) : Room j A := ⟨r.hd, by have := r.dp; omega, by have := r.un; omega⟩
theorem Room.deeper {k : Nat} {A : Around} (r : Room (k + 1) A) (env : Env) : Room k (A.deeper env) :=
  ⟨r.hd, by have := r.dp; show A.depth + 1 + 3 * k + 5 < _; omega, by have := r.un; show A.units + 3 + 16 * k + 200 < _; omega⟩
theorem Room.in1 {k : Nat} {A : Around} (r : Room (k + 1) A) : Room k A.in1 :=
  ⟨r.hd, by have := r.dp; show A.depth + 3 * k + 5 < _; omega, by have := r.un; show A.units + 1 + 16 * k + 200 < _; omega⟩
theorem make_depth {A : Around} {C : Addr} {us : List Value} {kw : List (Str × Value)} : (A.under (.builtin "type.__call__" ⟨.ref C :: us, kw⟩)).depth = A.depth + 1 := by
  first | rfl | simp [Around.under, Code.weight, Code.isCreation, Code.isGuard, Code.isCaller, Code.frames, Code.isFrame, guardIds]
theorem make_units {A : Around} {C : Addr} {us : List Value} {kw : List (Str × Value)} : (A.under (.builtin "type.__call__" ⟨.ref C :: us, kw⟩)).units = A.units + 1 := by
  first | rfl | simp [Around.under, Code.cUnits, Code.frames, Code.isFrame]
theorem Room.make {k : Nat} {A : Around} (r : Room (k + 1) A) (C : Addr) (us : List Value) (kw : List (Str × Value)) : Room k (A.under (.builtin "type.__call__" ⟨.ref C :: us, kw⟩)) :=
  ⟨r.hd, by have := r.dp; rw [make_depth]; omega, by have := r.un; rw [make_units]; omega⟩
theorem Room.depth {k : Nat} {A : Around} (r : Room k A) : A.depth < recursionLimit := by have := r.dp; omega
theorem Room.units {k : Nat} {A : Around} (r : Room k A) : A.units + 64 < cLine := by have := r.un; omega
noncomputable def tNil : TA := fun _ H Q => Q [] H
noncomputable def tCons (ta : TE) (tr : TA) : TA := fun σ H Q => ta σ H fun x H1 => tr σ H1 fun xs H2 => Q (x :: xs) H2
section
variable {X : Cx} {e : Expr} {es : List Expr} {te : TE} {t : TA} {pos : Pos}
theorem pa_nil : PA X [] tNil := fun _ _ _ _ H Q I h => Calls.spliced_nil ⟨[], H, I, .nil, h⟩
theorem pa_cons (ha : PE X e te) (hr : PA X es t) (hs : starEach (e :: es) X.env = (false, eval e X.env) :: starEach es X.env := by rfl) : PA X (e :: es) (tCons te t) := by
  intro pos pins s σ H Q I h
  rw [hs]
  show wpAny _ _ (spliced ((false, eval e X.env) :: backTo pos (starEach es X.env))) _ _ s
  refine Calls.spliced_cons (thn (ha pins s σ H _ I h) fun u s1 ⟨x, H1, I1, r1, q1⟩ => ?_)
  exact thn (hr pos pins s1 σ H1 _ I1 q1) fun us s2 ⟨xs, H2, I2, r2, q2⟩ => ⟨x :: xs, H2, I2, .cons r1 r2, q2⟩
noncomputable def tTup (t : TA) : TE := fun σ H Q => t σ H fun xs H1 => xs.length ≤ sizeLine ∧ ∀ p, H1 p = none → Q (.ref p) (upd H1 p (.tup xs))
noncomputable def tLst (t : TA) : TE := fun σ H Q => t σ H fun xs H1 => xs.length ≤ sizeLine ∧ ∀ p, H1 p = none → Q (.ref p) (upd H1 p (.lst xs))
theorem pe_tup {x1} (h : PA X es t) : PE X (.Tuple es x1 pos) (tTup t) := by
  intro pins s σ H Q I hq
  refine wpAny_Tuple_spliced (thn (h pos pins s σ H _ I hq) fun us s1 ⟨xs, H1, I1, r, z, q⟩ => ⟨by rw [← r.length]; exact z, ?_⟩)
  have hf : H1 s1.heap.objs.size = none := I1.hok.fresh (Nat.le_refl _)
  refine ⟨.ref s1.heap.objs.size, upd H1 s1.heap.objs.size (.tup xs), I1.laid (t' := s1.toks) (fun b u e => Heap.get?_push_of_some _ e) (Nat.le_refl _) ?_, rfl, q _ hf⟩
  exact ⟨z, us, r, ⟨_, Heap.get?_push_size _ rfl, rfl, _, rfl⟩⟩
theorem pe_lst (h : PA X es t) : PE X (.List es pos) (tLst t) := by
  intro pins s σ H Q I hq
  refine wpAny_List_spliced (thn (h pos pins s σ H _ I hq) fun us s1 ⟨xs, H1, I1, r, z, q⟩ => ⟨by rw [← r.length]; exact z, ?_⟩)
  have hf : H1 s1.heap.objs.size = none := I1.hok.fresh (Nat.le_refl _)
  refine ⟨.ref s1.heap.objs.size, upd H1 s1.heap.objs.size (.lst xs), I1.laid (t' := s1.toks) (fun b u e => Heap.get?_push_of_some _ e) (Nat.le_refl _) ?_, rfl, q _ hf⟩
  exact ⟨z, us, 0, r, Heap.get?_push_size _ rfl⟩
end
noncomputable abbrev Sp := List V → Hp → VK → XK → Prop
noncomputable abbrev CXT := List Env → Hp → Shared → XK → Value → Shared → Prop
structure Env0 (P : Program) (w : World) (K : PySem.W.Frag) (mg : Str → Option Value) (base : Heap) (A : Around) (outer : List Env) (s : Shared) (H : Hp) : Prop where
  frames : A.frames = some outer
  mod : Mod K mg base
  bs : ∀ b o, base.get? b = some o → s.heap.get? b = some o ∧ H b = none
  bsz : base.objs.size ≤ s.heap.objs.size
  funs : s.heap.FunFrames base outer
  frf : ∀ b ∈ frs outer, H b = none
  hok : HOk P w H s.heap
  bare : AllBare s.gens
noncomputable def CE (outer : List Env) (P : Program) (w : World) (H : Hp) (s : Shared) (Q : VK) (u : Value) (s' : Shared) : Prop :=
  ∃ v H', s'.os = s.os ∧ AllBare s'.gens ∧ Un (frs outer) [] H H' s.heap s'.heap ∧ HOk P w H' s'.heap ∧ RelV v u ∧ Q v H'
noncomputable def CR (CX : CXT) (outer : List Env) (P : Program) (w : World) (H : Hp) (s : Shared) (Q : VK) (E : XK) (r : Result) (s' : Shared) : Prop :=
  match r with
  | .ok (.ret u) => CE outer P w H s Q u s'
  | .ok _ => False
  | .error e => CX outer H s E e s'
structure FnOk (P : Program) (w : World) (K : PySem.W.Frag) (mg : Str → Option Value) (base : Heap) (CX : CXT) (k : Nat) (f : Addr) (fd : FuncData) (ps : List Str) (sp : Sp) : Prop where
  len : ∀ vs H Q E, sp vs H Q E → vs.length = ps.length
  run : ∀ (A : Around) (outer : List Env) (s : Shared) (H : Hp) (args : Args) (us : List Value) (vs : List V) (Q : VK) (E : XK), Room k A → Env0 P w K mg base A outer s H → BindsTo s fd args (ps.zip us) → Vals vs us → sp vs H Q E →
    codeAny (model P w) A (.call (.ref f) args) (CR CX outer P w H s Q E) s
theorem FnOk.mono {P : Program} {w : World} {K : PySem.W.Frag} {mg : Str → Option Value} {base : Heap} {CX : CXT} {j k : Nat} {f : Addr} {fd : FuncData} {ps : List Str} {sp : Sp} (F : FnOk P w K mg base CX j f fd ps sp) (h : j ≤ k) :
    FnOk P w K mg base CX k f fd ps sp := ⟨F.len, fun A outer s H args us vs Q E hr => F.run A outer s H args us vs Q E (hr.mono h)⟩
theorem FnOk.imp {P : Program} {w : World} {K : PySem.W.Frag} {mg : Str → Option Value} {base : Heap} {CX : CXT} {k : Nat} {f : Addr} {fd : FuncData} {ps : List Str} {sp sp' : Sp} (F : FnOk P w K mg base CX k f fd ps sp)
    (h : ∀ vs H Q E, sp' vs H Q E → sp vs H Q E) : FnOk P w K mg base CX k f fd ps sp' :=
  ⟨fun vs H Q E q => F.len vs H Q E (h _ _ _ _ q), fun A outer s H args us vs Q E hr he hb hv hs => F.run A outer s H args us vs Q E hr he hb hv (h _ _ _ _ hs)⟩
theorem Env0.make {P : Program} {w : World} {K : PySem.W.Frag} {mg : Str → Option Value} {base : Heap} {A : Around} {outer : List Env} {s : Shared} {H : Hp} (e : Env0 P w K mg base A outer s H) (C : Addr) (us : List Value) (kw : List (Str × Value)) :
    Env0 P w K mg base (A.under (.builtin "type.__call__" ⟨.ref C :: us, kw⟩)) outer s H := ⟨by first | exact e.frames | (simpa [Around.under, Code.envs, Code.isFrame, pushEnvs] using e.frames), e.mod, e.bs, e.bsz, e.funs, e.frf, e.hok, e.bare⟩
theorem Env0.in1 {P : Program} {w : World} {K : PySem.W.Frag} {mg : Str → Option Value} {base : Heap} {A : Around} {outer : List Env} {s : Shared} {H : Hp} (e : Env0 P w K mg base A outer s H) :
    Env0 P w K mg base A.in1 outer s H := ⟨e.frames, e.mod, e.bs, e.bsz, e.funs, e.frf, e.hok, e.bare⟩
section
variable {X : Cx} {pins : List (Addr × Obj)} {σ : St} {H : Hp} {s s' : Shared}
theorem Inv.env0 (I : Inv X pins σ H s) : Env0 X.prog X.w X.K X.mg X.base X.A X.stack s H :=
  ⟨I.ok.frames, I.ok.mod, I.bs, Nat.le_trans I.ok.bsz I.sz, I.stack, I.stkFree, I.hok, I.bare⟩
theorem Inv.after {Q : VK} {u : Value} (I : Inv X pins σ H s) (h : CE X.stack X.prog X.w H s Q u s') : EP X pins σ Q u s' := by
  obtain ⟨v, H', os, bare, un, hok, r, q⟩ := h
  obtain ⟨hh, g, d, t, os'⟩ := s'
  obtain rfl : os' = s.os := os
  exact ⟨v, H', I.call (h' := hh) (g' := g) (d' := d) (t' := t) (ch := []) un hok bare (fun b z => absurd z (by simp)), r, q⟩
end
noncomputable def tCall (sp : Sp) (dvs : List V) (E : XK) (t : TA) : TE := fun σ H Q => t σ H fun vs H1 => sp (vs ++ dvs) H1 Q E
noncomputable def tMeth (C : Addr) (m : Str) (sp : Sp) (dvs : List V) (E : XK) (ta : TE) (t : TA) : TE := fun σ H Q => ta σ H fun x H1 => ∃ a dx fs, x = .ref a ∧ H1 a = some (.ins C dx fs) ∧ fs.lookup m = none ∧
  t σ H1 fun vs H2 => sp (x :: (vs ++ dvs)) H2 Q E
noncomputable def tMake (C : Addr) (sp : Sp) (dvs : List V) (E : XK) (t : TA) : TE := fun σ H Q => t σ H fun vs H1 => ∀ x dx, H1 x = none → H1 dx = none → dx ≠ x →
  sp (.ref x :: (vs ++ dvs)) (upd (upd H1 dx (.own x)) x (.ins C dx [])) (fun v H2 => v = .non ∧ Q (.ref x) H2) E
noncomputable def Binds (K : PySem.W.Frag) (fd : FuncData) (ps : List Str) (ds : List Value) : Prop :=
  ∀ (s : Shared) (us : List Value), K.In s.heap → (us ++ ds).length = ps.length → BindsTo s fd ⟨us, []⟩ (ps.zip (us ++ ds))
theorem Binds.all {K : PySem.W.Frag} {fd : FuncData} {ps : List Str} (h : ∀ us : List Value, us.length = ps.length → bindArgs fd ⟨us, []⟩ = pure (ps.zip us)) : Binds K fd ps [] := fun s us _ hl => by
  rw [List.append_nil] at hl ⊢
  exact .of_eq (h us hl)
noncomputable def Passes (CX : CXT) (X : Cx) (E : XK) : Prop := ∀ (pins : List (Addr × Obj)) (σ : St) (H : Hp) (s : Shared) (e : Value) (s' : Shared), Inv X pins σ H s → CX X.stack H s E e s' → X.xe e s'
section
variable {X : Cx} {CX : CXT} {k : Nat} {f C : Addr} {fd : FuncData} {ps : List Str} {sp : Sp} {dvs : List V} {ds : List Value} {E : XK} {x m : Str} {p pos apos : Pos} {e o : Expr} {es : List Expr} {ta : TE} {t : TA}
theorem run_fn {pins : List (Addr × Obj)} {σ : St} {H : Hp} {s : Shared} {Q : VK} {us : List Value} {vs : List V} (F : FnOk X.prog X.w X.K X.mg X.base CX k f fd ps sp) (hr : Room k X.A) (hb : Binds X.K fd ps ds) (hd : Vals dvs ds) (hx : Passes CX X E)
    (I : Inv X pins σ H s) (r : Vals vs us) (h : sp (vs ++ dvs) H Q E) : wpAny (model X.prog X.w) X.A (call (.ref f) us) (EP X pins σ Q) X.xe s := by
  have r2 : Vals (vs ++ dvs) (us ++ ds) := r.append hd
  have hl : (us ++ ds).length = ps.length := by rw [← r2.length]; exact F.len _ _ _ _ h
  refine wpAny_call (codeAny_mono (F.run X.A X.stack s H ⟨us, []⟩ (us ++ ds) (vs ++ dvs) Q E hr I.env0 (hb s us I.kIn hl) r2 h) fun r s' hq => ?_)
  cases r with
  | error e => exact hx pins σ H s e s' I hq
  | ok fl =>
    cases fl with
    | ret u => exact I.after hq
    | next => exact False.elim hq
    | brk => exact False.elim hq
    | cont => exact False.elim hq
theorem pe_call (F : FnOk X.prog X.w X.K X.mg X.base CX k f fd ps sp) (hr : Room k X.A) (hg : Gl X x) (hm : X.mg x = some (.ref f)) (hk : PySem.W.keepIn X.K (.ref f) = true) (hb : Binds X.K fd ps ds) (hd : Vals dvs ds) (hx : Passes CX X E)
    (ha : PA X (e :: es) t) (hdb : (x == ("__debug__" : Str)) = false := by decide) (he : starEach (e :: es) X.env = (false, eval e X.env) :: starEach es X.env := by rfl) (hpl : (backTo pos (starEach es X.env)).any (·.1) = false := by rfl) :
    PE X (.Call (.Name x p) (e :: es) [] pos) (tCall sp dvs E t) := by
  intro pins s σ H Q I h
  refine wpAny_Call_Name_kw (ld_glob I hg hm ?_ hdb)
  refine PySem.W.callWith_K (h₀ := X.base) I.ok.mod.kin hk (thn (ha pos pins s σ H _ I h) fun us s1 ⟨vs, H1, I1, r, q⟩ => ⟨I1.kIn, ?_⟩) he hpl
  exact run_fn F hr hb hd hx I1 r q
theorem pe_meth {pl : Sem Bool} (he : PE X o ta) (c : Cls X.K C) (hm : Meth X.K C m f) (F : FnOk X.prog X.w X.K X.mg X.base CX k f fd ps sp) (hr : Room k X.A) (hb : Binds X.K fd ps ds) (hd : Vals dvs ds) (hx : Passes CX X E) (ha : PA X (e :: es) t)
    (hst : starEach (e :: es) X.env = (false, eval e X.env) :: starEach es X.env := by rfl) (hpl : (backTo pos (starEach es X.env)).any (·.1) = false := by rfl)
    (ht : eval (.Call (.Attribute o m apos) (e :: es) [] pos) X.env = (do
      let ov ← eval o X.env
      standAt apos.atName
      let (f, first) ← holding [ov] (getMethod ov m pl)
      callWith pos f first (backTo pos (starEach (e :: es) X.env)) (backToKw pos (keywordEach [] X.env))) := by rfl) :
    PE X (.Call (.Attribute o m apos) (e :: es) [] pos) (tMeth C m sp dvs E ta t) := by
  intro pins s σ H Q I h
  refine PySem.W.methodCall_KW (pl := pl) (thn (he pins s σ H _ I h) fun u s1 ⟨x, H1, I1, rx, a, dx, fs, ex, ea, l, q⟩ => ?_) ht
  subst ex
  obtain rfl : u = Value.ref a := rx
  refine getmeth_ok I1 ea c hm l ?_
  refine PySem.W.callWith_K (first := [.ref a]) (h₀ := X.base) I.ok.mod.kin hm.kp (thn (ha pos pins s1 σ H1 _ I1 q) fun us s2 ⟨vs, H2, I2, r, q2⟩ => ⟨I2.kIn, ?_⟩) hst hpl
  exact run_fn (us := .ref a :: us) (vs := .ref a :: vs) F hr hb hd hx I2 (.cons rfl r) q2
theorem pe_meth0 {pl : Sem Bool} (he : PE X o ta) (c : Cls X.K C) (hm : Meth X.K C m f) (F : FnOk X.prog X.w X.K X.mg X.base CX k f fd ps sp) (hr : Room k X.A) (hb : Binds X.K fd ps ds) (hd : Vals dvs ds) (hx : Passes CX X E)
    (ht : eval (.Call (.Attribute o m apos) [] [] pos) X.env = (do
      let ov ← eval o X.env
      standAt apos.atName
      let (f, first) ← holding [ov] (getMethod ov m pl)
      callWith pos f first (backTo pos (starEach [] X.env)) (backToKw pos (keywordEach [] X.env))) := by rfl) :
    PE X (.Call (.Attribute o m apos) [] [] pos) (tMeth C m sp dvs E ta tNil) := by
  intro pins s σ H Q I h
  refine PySem.W.methodCall_KW (pl := pl) (thn (he pins s σ H _ I h) fun u s1 ⟨x, H1, I1, rx, a, dx, fs, ex, ea, l, q⟩ => ?_) ht
  subst ex
  obtain rfl : u = Value.ref a := rx
  refine getmeth_ok I1 ea c hm l ?_
  exact PySem.W.callWith_K0 (first := [.ref a]) I1.kIn hm.kp (run_fn (us := [.ref a]) (vs := [.ref a]) F hr hb hd hx I1 (.cons rfl .nil) q)
structure Mk (K : PySem.W.Frag) (C f : Addr) : Prop where
  makes : PySem.W.makesIn K C = true
  init : PySem.W.findIn K (.ref C) "__init__" = some (some (.ref f))
  fn : PySem.W.isFn K (.ref f) = true
  kp : PySem.W.keepIn K (.ref C) = true
theorem run_make {pins : List (Addr × Obj)} {σ : St} {H : Hp} {s : Shared} {Q : VK} {us : List Value} {vs : List V} (M : Mk X.K C f) (F : FnOk X.prog X.w X.K X.mg X.base CX k f fd ps sp) (hr : Room (k + 1) X.A) (hb : Binds X.K fd ps ds) (hd : Vals dvs ds)
    (hx : Passes CX X E) (I : Inv X pins σ H s) (r : Vals vs us)
    (h : ∀ x dx, H x = none → H dx = none → dx ≠ x → sp (.ref x :: (vs ++ dvs)) (upd (upd H dx (.own x)) x (.ins C dx [])) (fun v H2 => v = .non ∧ Q (.ref x) H2) E) :
    wpAny (model X.prog X.w) X.A (call (.ref C) us) (EP X pins σ Q) X.xe s := by
  have hq := h (s.heap.objs.size + 1) s.heap.objs.size (I.hok.fresh (Nat.le_succ _)) (I.hok.fresh (Nat.le_refl _)) (Nat.ne_of_lt (Nat.lt_succ_self _))
  have I2 := Inv.made (C := C) I
  have r2 : Vals (V.ref (s.heap.objs.size + 1) :: (vs ++ dvs)) (Value.ref (s.heap.objs.size + 1) :: (us ++ ds)) := .cons rfl (r.append hd)
  have hl : (Value.ref (s.heap.objs.size + 1) :: us ++ ds).length = ps.length := by
    have e := r2.length
    rw [F.len _ _ _ _ hq] at e
    exact e.symm
  refine wpAny_call (make_map (f := f) I.kIn M.makes M.init (beq_iff_eq.mp M.fn) (codeAny_mono (F.run _ X.stack _ _ ⟨Value.ref (s.heap.objs.size + 1) :: us, []⟩ (Value.ref (s.heap.objs.size + 1) :: (us ++ ds)) _ _ E (hr.make C us [])
    (I2.env0.make C us []) (hb _ (Value.ref (s.heap.objs.size + 1) :: us) I2.kIn hl) r2 hq) fun r s' hq' => ?_))
  cases r with
  | error e => exact hx pins σ _ _ e s' I2 hq'
  | ok fl =>
    cases fl with
    | ret u =>
      obtain ⟨v, H', I3, rv, ev, q3⟩ := I2.after hq'
      subst ev
      exact ⟨rv, ⟨V.ref (s.heap.objs.size + 1), H', I3, rfl, q3⟩⟩
    | next => exact False.elim hq'
    | brk => exact False.elim hq'
    | cont => exact False.elim hq'
theorem pe_make0 (M : Mk X.K C f) (F : FnOk X.prog X.w X.K X.mg X.base CX k f fd ps sp) (hr : Room (k + 1) X.A) (hg : Gl X x) (hm : X.mg x = some (.ref C)) (hb : Binds X.K fd ps ds) (hd : Vals dvs ds) (hx : Passes CX X E)
    (hdb : (x == ("__debug__" : Str)) = false := by decide) : PE X (.Call (.Name x p) [] [] pos) (tMake C sp dvs E tNil) := by
  intro pins s σ H Q I h
  refine wpAny_Call_Name_kw (ld_glob I hg hm ?_ hdb)
  exact PySem.W.callWith_K0 I.kIn M.kp (run_make (us := []) M F hr hb hd hx I .nil h)
end
section
variable {X : Cx} {CX : CXT} {k : Nat} {f C : Addr} {fd : FuncData} {ps ks : List Str} {sp : Sp} {E : XK} {x m : Str} {p pos apos kpos : Pos} {e o : Expr} {es : List Expr} {kws : List Keyword} {te ta : TE} {t tk : TA} {nm : Option Str}
variable {g : List Value → List Value → List Value} {gV : List V → List V → List V}
end
structure FnScope (N P : List Str) (sc : Scope) : Prop where
  kind : sc.kind = .function
  co : sc.isCoroutine = false
  gen : sc.isGenerator = false
  nd : N.Nodup
  pre : N.take P.length = P
  par : ∀ x ∈ P, sc.names.lookup x = some .local ∨ sc.names.lookup x = some .cell
  nofree : ∀ y ∈ sc.names, y.2 ≠ .free
theorem bindL_out {kindOf : Str → Option NameKind} {x : Str} : ∀ {binds : List (Str × Value)} {m : Str → Option Value}, (∀ v, (x, v) ∉ binds) → bindL kindOf binds m x = m x
  | [], _, _ => rfl
  | (n, v) :: r, m, h => by
    unfold bindL
    rw [bindL_out fun w hw => h w (List.mem_cons_of_mem _ hw)]
    split
    · have : x ≠ n := by rintro rfl; exact h v List.mem_cons_self
      simp [this]
    · rfl
theorem bindC_out {kindOf : Str → Option NameKind} {x : Str} : ∀ {binds : List (Str × Value)} {m : Str → Option Value}, (∀ v, (x, v) ∉ binds) → bindC kindOf binds m x = m x
  | [], _, _ => rfl
  | (n, v) :: r, m, h => by
    unfold bindC
    rw [bindC_out fun w hw => h w (List.mem_cons_of_mem _ hw)]
    split
    · rfl
    · have : x ≠ n := by rintro rfl; exact h v List.mem_cons_self
      simp [this]
theorem bindL_get {kindOf : Str → Option NameKind} {x : Str} {v : Value} : ∀ {P : List Str} {vs : List Value} {i : Nat} {m : Str → Option Value}, P.Nodup → P[i]? = some x → vs[i]? = some v → kindOf x = some .local →
    bindL kindOf (P.zip vs) m x = some v
  | [], _, _, _, _, h, _, _ => by simp at h
  | _ :: _, [], _, _, _, _, h, _ => by simp at h
  | p :: P, w :: vs, 0, m, nd, h1, h2, hk => by
    simp at h1 h2; subst h1; subst h2
    show bindL kindOf ((p, w) :: P.zip vs) m p = _
    unfold bindL
    rw [bindL_out fun v hv => (List.nodup_cons.mp nd).1 (List.of_mem_zip hv).1, if_pos hk]
    simp
  | p :: P, w :: vs, i + 1, m, nd, h1, h2, hk => by
    show bindL kindOf ((p, w) :: P.zip vs) m x = _
    unfold bindL
    exact bindL_get (i := i) (List.nodup_cons.mp nd).2 (by simpa using h1) (by simpa using h2) hk
theorem bindC_get {kindOf : Str → Option NameKind} {x : Str} {v : Value} : ∀ {P : List Str} {vs : List Value} {i : Nat} {m : Str → Option Value}, P.Nodup → P[i]? = some x → vs[i]? = some v → kindOf x ≠ some .local →
    bindC kindOf (P.zip vs) m x = some v
  | [], _, _, _, _, h, _, _ => by simp at h
  | _ :: _, [], _, _, _, _, h, _ => by simp at h
  | p :: P, w :: vs, 0, m, nd, h1, h2, hk => by
    simp at h1 h2; subst h1; subst h2
    show bindC kindOf ((p, w) :: P.zip vs) m p = _
    unfold bindC
    rw [bindC_out fun v hv => (List.nodup_cons.mp nd).1 (List.of_mem_zip hv).1, if_neg hk]
    simp
  | p :: P, w :: vs, i + 1, m, nd, h1, h2, hk => by
    show bindC kindOf ((p, w) :: P.zip vs) m x = _
    unfold bindC
    exact bindC_get (i := i) (List.nodup_cons.mp nd).2 (by simpa using h1) (by simpa using h2) hk
noncomputable def start (N : List Str) (vs : List V) : St := vs.map some ++ List.replicate (N.length - vs.length) none
noncomputable def cxOf (CX : CXT) (P : Program) (w : World) (K : PySem.W.Frag) (mg : Str → Option Value) (base : Heap) (N : List Str) (qual : Str) (scope : Scope) (f : Addr) (cd : Value) (A : Around) (outer : List Env) (s : Shared) (H : Hp) (E : XK) : Cx where
  prog := P
  w := w
  K := K
  mg := mg
  base := base
  A := A.deeper (envOfC qual scope s.heap.objs.size f cd)
  N := N
  s₀ := s
  H₀ := H
  env := envOfC qual scope s.heap.objs.size f cd
  outer := outer
  stack := envOfC qual scope s.heap.objs.size f cd :: outer
  ex := []
  calm := true
  fn := fun _ => true
  pn := []
  xe := fun e s' => wpAny (model P w) (A.deeper (envOfC qual scope s.heap.objs.size f cd)) (leaving (envOfC qual scope s.heap.objs.size f cd) e) (fun _ s'' => CX outer H s E e s'') (fun e' s'' => CX outer H s E e' s'') s'
theorem cell_has {sc : Scope} {n : Nat} {x : Str} (h : sc.names.lookup x = some .cell) : ∃ c, (cellsFrom n sc.names []).lookup x = some c := by
  have q := PySem.W.cellsFrom_some sc.names n [] (.inl h)
  exact Option.isSome_iff_exists.mp q
theorem inv_start {CX : CXT} {P : Program} {w : World} {K : PySem.W.Frag} {mg : Str → Option Value} {base : Heap} {N ps : List Str} {qual : Str} {scope : Scope} {f : Addr} {cd : Value} {A : Around} {outer : List Env} {s s1 : Shared} {H : Hp} {E : XK} {us : List Value} {vs : List V}
    (S : FnScope N ps scope) (hd : A.handled = none) (e0 : Env0 P w K mg base A outer s H) (hl : vs.length = ps.length) (r : Vals vs us)
    (x : InCallC s s.heap.objs.size (bindL (envOfC qual scope s.heap.objs.size f cd).kindOf (ps.zip us) fun _ => none) (cellsFrom (s.heap.objs.size + 1) scope.names []) (bindC (envOfC qual scope s.heap.objs.size f cd).kindOf (ps.zip us) fun _ => none) s1) :
    Inv (cxOf CX P w K mg base N qual scope f cd A outer s H E) [] (start N vs) H s1 := by
  have hpl : ps.length ≤ N.length := by have := congrArg List.length S.pre; rw [List.length_take] at this; omega
  obtain ⟨h1, tk, rfl, hk⟩ := x.done
  have noA : ∀ b : Addr, b ∉ (cxOf CX P w K mg base N qual scope f cd A outer s H E).ex := fun b z => absurd (show b ∈ ([] : List Addr) from z) (by simp)
  refine ⟨⟨e0.mod, S.kind, rfl, rfl, Nat.le_refl _, fun y z c h1 h2 => ?_, fun y hy => ?_, fun y c _ h => ?_, fun _ => hd, Around.frames_deeper e0.frames, .inr ⟨rfl, rfl⟩, fun b z => absurd z (noA b), e0.bs, e0.bsz, fun b _ _ => noA b, fun b z => absurd z (noA b), e0.funs, e0.frf⟩,
    rfl, e0.bare, Un.kept hk, ⟨_, x.toInCall.ns, fun i y v h1 h2 h3 => ?_⟩, fun y c h => ⟨_, x.cell y c h⟩, e0.hok.fresh (Nat.le_refl _), fun y c h => ?_, fun p hp => absurd (show p ∈ ([] : List (Addr × Obj)) from hp) (by simp), e0.hok.kept hk, ?_⟩
  · exact name_of_addr x.apart (PySem.mem_of_lookup h1) (PySem.mem_of_lookup h2)
  · have hy : scope.names.lookup y = some .cell ∨ scope.names.lookup y = some .free := hy
    rcases hy with hy | hy
    · exact cell_has hy
    · exact absurd rfl (S.nofree _ (PySem.mem_of_lookup hy))
  · exact Nat.le_of_lt (x.above y c (PySem.mem_of_lookup h))
  · have hi : i < vs.length := by
      unfold start at h2
      by_cases hi : i < vs.length
      · exact hi
      · rw [List.getElem?_append_right (by simpa using hi)] at h2
        rw [List.getElem?_replicate] at h2
        split at h2 <;> cases h2
    have ha : vs[i]? = some v := by
      unfold start at h2
      rw [List.getElem?_append_left (by simpa using hi), List.getElem?_map] at h2
      cases e : vs[i]? with
      | none => rw [e] at h2; cases h2
      | some a => rw [e] at h2; cases h2; rfl
    obtain ⟨u, hu, rv⟩ := r.get ha
    have hp : ps[i]? = some y := by
      rw [← S.pre, List.getElem?_take_of_lt (by omega)]; exact h1
    have ndP : ps.Nodup := by rw [← S.pre]; exact S.nd.sublist (List.take_sublist _ _)
    refine ⟨u, rv, ?_⟩
    rcases S.par y (List.mem_of_getElem? hp) with k | k
    · exact .inl ⟨k, bindL_get ndP hp hu k⟩
    · obtain ⟨c, e⟩ := cell_has (n := s.heap.objs.size + 1) k
      refine .inr ⟨.inl k, c, e, ?_⟩
      have q := x.cell y c e
      rw [bindC_get ndP hp hu (by show scope.names.lookup y ≠ _; rw [k]; decide)] at q
      exact q
  · exact e0.hok.fresh (Nat.le_of_lt (x.above y c (PySem.mem_of_lookup h)))
  · unfold start
    show _ = N.length
    rw [List.length_append, List.length_map, List.length_replicate]
    omega
theorem fn_of {CX : CXT} {P : Program} {w : World} {K : PySem.W.Frag} {mg : Str → Option Value} {base : Heap} {k : Nat} {f : Addr} {name qual : Str} {params : Arguments} {body : List Stmt} {scope : Scope} {dV kV doc pm cdv ct oc : Value} {an od : Option Addr}
    {osl : Array (Option Value)} {N ps : List Str} {sp : Sp} (lk : K.lookup f = some ⟨oc, od, .func (PySem.W.fnOf name qual params body scope dV kV doc pm an cdv ct), osl⟩) (hcd : PySem.W.codeIn K cdv qual = true) (S : FnScope N ps scope)
    (len : ∀ vs H Q E, sp vs H Q E → vs.length = ps.length)
    (hbody : ∀ (A : Around) (outer : List Env) (s : Shared) (H : Hp) (vs : List V) (Q : VK) (E : XK), Room k (A.deeper (envOfC qual scope s.heap.objs.size f cdv)) → sp vs H Q E →
      ∃ t, PSs (cxOf CX P w K mg base N qual scope f cdv A outer s H E) body t ∧ t { nx := fun _ H' => Q .non H', rt := Q } (start N vs) H) :
    FnOk P w K mg base CX (k + 1) f (PySem.W.fnOf name qual params body scope dV kV doc pm an cdv ct) ps sp := by
  refine ⟨len, fun A outer s H args us vs Q E hr e0 hb r hsp => ?_⟩
  have hl := len _ _ _ _ hsp
  have KX : K.In s.heap := e0.mod.kin.keeps fun b o e => (e0.bs b o e).1
  have lim : s.heap.NoLimit := e0.mod.nolimit.keeps fun b o e => (e0.bs b o e).1
  have hkind : ∀ y ∈ ps.zip us, scope.names.lookup y.1 = some .local ∨ (scope.names.lookup y.1 = some .cell ∧ ((cellsFrom (s.heap.objs.size + 1) scope.names []).lookup y.1).isSome = true) := fun ⟨n, v⟩ hy => by
    rcases S.par n (List.of_mem_zip hy).1 with q | q
    · exact .inl q
    · exact .inr ⟨q, PySem.W.cellsFrom_some _ _ _ (.inl q)⟩
  refine codeAny_call_function hr.depth (KX _ _ lk) rfl S.co S.gen rfl (PySem.W.codeRec_of KX hcd) (hb _ _ _ _ ?_)
  refine wpAny_newFunctionEnv_cells S.kind hkind fun env he s1 x => ?_
  subst he
  refine ⟨lim.keeps x.toInCall.keep, codeAny_func ?_⟩
  obtain ⟨t, ht, hq⟩ := hbody A outer s H vs Q E (hr.deeper _) hsp
  have I : Inv (cxOf CX P w K mg base N qual scope f cdv A outer s H E) [] (start N vs) H s1 := inv_start S hr.hd e0 hl r x
  refine wpAny_mono (ht [] s1 (start N vs) H _ I hq) (fun fl s' hs => ?_) fun e s' hs => hs
  have fin : ∀ {σ' : St} {H' : Hp} {v : V} {u : Value}, Inv (cxOf CX P w K mg base N qual scope f cdv A outer s H E) [] σ' H' s' → RelV v u → Q v H' → CE outer P w H s Q u s' :=
    fun {σ' H' v u} J rv q => ⟨v, H', J.os, J.bare, J.base, J.hok, rv, q⟩
  cases fl with
  | ret u =>
    obtain ⟨v, σ', H', J, rv, q⟩ := hs
    exact fin J rv q
  | next =>
    obtain ⟨σ', H', J, q⟩ := hs
    exact fin (v := V.non) (u := Value.none) J rfl q
  | brk =>
    obtain ⟨_, _, _, q⟩ := hs
    exact False.elim q
  | cont =>
    obtain ⟨_, _, _, q⟩ := hs
    exact False.elim q
end L2
namespace L2
open PySem PySem.Spec PyProof.Rows
section
variable {X : Cx} {x : Str} {p pos : Pos} {e : Expr} {es : List Expr} {t : TA} {id T : String} {r : List V → Hp → VK → Prop}
noncomputable def tCB (r : List V → Hp → VK → Prop) (t : TA) : TE := fun σ H Q => t σ H fun vs H1 => r vs H1 Q
theorem pe_callB (hc : CallR X (.builtin id) r) (hg : Gl X x) (hm : X.mg x = none) (hv : bootBuiltins x = some (.builtin id)) (ha : PA X (e :: es) t) (hn : x ≠ "__name__" := by decide) (hdb : (x == ("__debug__" : Str)) = false := by decide)
    (he : starEach (e :: es) X.env = (false, eval e X.env) :: starEach es X.env := by rfl) (hpl : (backTo pos (starEach es X.env)).any (·.1) = false := by rfl) : PE X (.Call (.Name x p) (e :: es) [] pos) (tCB r t) := by
  intro pins s σ H Q I h
  refine wpAny_Call_Name_kw (ld_blt I hg hm hv ?_ hn hdb)
  exact PyProof.Rows.callWith_builtin1 (thn (ha pos pins s σ H _ I h) fun us s1 ⟨vs, H1, I1, r1, q1⟩ => hc pins s1 σ H1 vs us Q I1 r1 q1) he hpl
theorem pe_callTy (hc : CallR X (.type T) r) (hg : Gl X x) (hm : X.mg x = none) (hv : bootBuiltins x = some (.type T)) (ha : PA X (e :: es) t) (hn : x ≠ "__name__" := by decide) (hdb : (x == ("__debug__" : Str)) = false := by decide)
    (he : starEach (e :: es) X.env = (false, eval e X.env) :: starEach es X.env := by rfl) (hpl : (backTo pos (starEach es X.env)).any (·.1) = false := by rfl) : PE X (.Call (.Name x p) (e :: es) [] pos) (tCB r t) := by
  intro pins s σ H Q I h
  refine wpAny_Call_Name_kw (ld_blt I hg hm hv ?_ hn hdb)
  exact PyProof.Rows.callWith_type1 (thn (ha pos pins s σ H _ I h) fun us s1 ⟨vs, H1, I1, r1, q1⟩ => hc pins s1 σ H1 vs us Q I1 r1 q1) he hpl
end
end L2
namespace HT
open PySem PyProof.Rows
section
open PySem.SeqAt
open PySem.AutoSeq1 (wpAny_loadPart')
open PySem.MeetsSeq PySem.MeetsSeq2 PySem.MeetsSeq3
end
section
variable {prog : Program} {w : World} {A : Around} {E : Value → Shared → Prop} {s : Shared}
theorem cat_tup {t b : Addr} {vs ws : List Value} {Q : Value → Shared → Prop} (ht : IsTup s.heap t vs.toArray) (hb : IsTup s.heap b ws.toArray) (hv : vs ≠ [])
    (h1 : ws = [] → Q (.ref t) s) (h2 : ws ≠ [] → Q (.ref s.heap.objs.size) { s with heap := s.heap.push { cls := .type "tuple", data := .seq (vs ++ ws).toArray } })
    (hsz : vs.length + ws.length ≤ sizeLine) : wpAny (model prog w) A (binaryOp .Add (.ref t) (.ref b)) Q E s := by
  obtain ⟨⟨cls, dd, data, sl⟩, ho, hc, n, hd⟩ := id ht
  obtain ⟨⟨cls2, dd2, data2, sl2⟩, ho2, hc2, n2, hd2⟩ := id hb
  simp only at hc hd hc2 hd2
  subst hc hd hc2 hd2
  have e : vs.toArray ++ ws.toArray = (vs ++ ws).toArray := by simp
  by_cases hw : ws = []
  · exact concat_meets ⟨_, ho, rfl⟩ ⟨_, ho2, rfl⟩ noFill_tuple_add seq_tuple_add PySem.F.slot_tuple_add PySem.F.entry_tuple_add (PySem.F.args_tuple_add_2 _ _)
      (tuple_addW1 t b vs.toArray ws.toArray n n2 dd dd2 sl sl2 (by simpa using hv) (by simp [hw])) ⟨ho, ho2, h1 hw⟩
  · refine concat_meets ⟨_, ho, rfl⟩ ⟨_, ho2, rfl⟩ noFill_tuple_add seq_tuple_add PySem.F.slot_tuple_add PySem.F.entry_tuple_add (PySem.F.args_tuple_add_2 _ _)
      (tuple_addW2 t b vs.toArray ws.toArray n n2 dd dd2 sl sl2 (by simpa using hv) (by simpa using hw) (by rw [List.size_toArray, List.size_toArray]; exact hsz)) ⟨ho, ho2, ?_⟩
    rw [e]
    exact h2 hw
noncomputable def sIx (n d : Nat) : Option Int → Nat
  | none => d
  | some v => if v < 0 then (v + (n : Int)).toNat else min v.toNat n
theorem sIx_le (n d : Nat) (hd : d ≤ n) (o : Option Int) : sIx n d o ≤ n := by
  cases o with
  | none => exact hd
  | some v =>
    show (if v < 0 then (v + (n : Int)).toNat else min v.toNat n) ≤ n
    by_cases hv : v < 0
    · rw [if_pos hv]; omega
    · rw [if_neg hv]; exact Nat.min_le_right _ _
theorem clip_eq (v : Int) (n d : Nat) : (if v < 0 then max (v + (n : Int)) 0 else min v (n : Int)) = ((sIx n d (some v) : Nat) : Int) := by
  show (if v < 0 then max (v + (n : Int)) 0 else min v (n : Int)) = (((if v < 0 then (v + (n : Int)).toNat else min v.toNat n) : Nat) : Int)
  by_cases hv : v < 0
  · simp only [if_pos hv]; omega
  · simp only [if_neg hv]; omega
theorem adjust_gen (lo hi : Option Int) (n : Nat) : Builtin.Slice.sliceAdjust lo hi 1 (n : Int) = (((sIx n 0 lo : Nat) : Int), ((sIx n n hi : Nat) : Int)) := by
  have h1 : ¬ ((1 : Int) < 0) := by omega
  unfold Builtin.Slice.sliceAdjust
  simp only [h1, if_false]
  refine Prod.ext ?_ ?_
  · cases lo with
    | none => rfl
    | some v => exact clip_eq v n 0
  · cases hi with
    | none => rfl
    | some v => exact clip_eq v n n
theorem places_gen (i j : Nat) : Builtin.Slice.slicePlaces (i : Int) (j : Int) 1 = j - i := by
  unfold Builtin.Slice.slicePlaces
  have h1 : (1 : Int) > 0 := by omega
  simp only [h1, if_true, Int.ediv_one]
  split <;> omega
theorem slicePart_ {v : Value} {o : Option Int} {Q : Option Int → Shared → Prop} (p : IsPart v o) (h : Q o s) : wpAny (model prog w) A (Builtin.Slice.slicePartIndex v) Q E s := by
  cases p with
  | none => exact slicePart_none h
  | int i t => exact slicePart_int h
theorem sliceApplied_gen {sl : Addr} {vl vu : Value} {lo hi : Option Int} {n : Nat} {Q : Int × Int × Nat → Shared → Prop} (hs : s.heap.IsSliceOf sl vl vu .none) (pl : IsPart vl lo) (pu : IsPart vu hi)
    (h : Q (((sIx n 0 lo : Nat) : Int), 1, sIx n n hi - sIx n 0 lo) s) : wpAny (model prog w) A (Builtin.Slice.sliceApplied (.ref sl) (pure (n : Int))) Q E s := by
  obtain ⟨os, hos, hcs, hds⟩ := id hs
  unfold Builtin.Slice.sliceApplied Builtin.Slice.sliceFields
  refine wpAny_bind (wpAny_bind (wpAny_field hos hds (x := vl) rfl (wpAny_bind (wpAny_field hos hds (x := vu) rfl (wpAny_bind (wpAny_field hos hds (x := .none) rfl (wpAny_pure ?_)))))))
  refine wpAny_bind (slicePart_none ?_)
  show wpAny _ _ (if ((1 : Int) == 0) = true then _ else _) _ _ s
  rw [if_neg (by decide)]
  refine wpAny_bind (slicePart_ pl (wpAny_bind (slicePart_ pu (wpAny_bind (wpAny_pure ?_)))))
  show wpAny _ _ (match Builtin.Slice.sliceAdjust lo hi 1 (n : Int) with | (lo, hi) => pure (lo, (1 : Int), Builtin.Slice.slicePlaces lo hi 1)) _ _ s
  rw [adjust_gen lo hi n]
  show wpAny _ _ (pure (((sIx n 0 lo : Nat) : Int), (1 : Int), Builtin.Slice.slicePlaces ((sIx n 0 lo : Nat) : Int) ((sIx n n hi : Nat) : Int) 1)) _ _ s
  rw [places_gen]
  exact wpAny_pure h
theorem pick_gen (xs : Array Value) (i k : Nat) : ((List.range k).filterMap fun (m : Nat) => xs[((i : Int) + (m : Int) * 1).toNat]?).toArray = ((xs.toList.drop i).take k).toArray := by
  have e : (fun (m : Nat) => xs[((i : Int) + (m : Int) * 1).toNat]?) = fun m => xs[i + m]? := by
    funext m
    have : ((i : Int) + (m : Int) * 1).toNat = i + m := by omega
    rw [this]
  rw [e]
  have := pick_run xs i k
  rw [List.filterMap_map] at this
  have e2 : ((fun x => xs[x]?) ∘ fun x => i + x) = fun m => xs[i + m]? := rfl
  rw [e2] at this
  rw [this]
theorem getItem_tuple_cut {t sl : Addr} {items : Array Value} {vl vu : Value} {lo hi : Option Int} {Q : Value → Shared → Prop} (ht : IsTup s.heap t items) (hs : s.heap.IsSliceOf sl vl vu .none) (pl : IsPart vl lo) (pu : IsPart vu hi)
    (hw : ¬ (sIx items.size 0 lo = 0 ∧ sIx items.size items.size hi = items.size))
    (h : Q (.ref s.heap.objs.size) { s with heap := s.heap.push { cls := .type "tuple", data := .seq ((items.toList.drop (sIx items.size 0 lo)).take (sIx items.size items.size hi - sIx items.size 0 lo)).toArray } })
    (hsz : items.size ≤ sizeLine) : wpAny (model prog w) A (getItem (.ref t) (.ref sl)) Q E s := by
  have htake : sizeOk (.seq ((items.toList.drop (sIx items.size 0 lo)).take (sIx items.size items.size hi - sIx items.size 0 lo)).toArray) := by
    show ((items.toList.drop (sIx items.size 0 lo)).take (sIx items.size items.size hi - sIx items.size 0 lo)).toArray.size ≤ sizeLine
    rw [List.size_toArray, List.length_take, List.length_drop, Array.length_toList]
    omega
  have hj : sIx items.size items.size hi ≤ items.size := sIx_le _ _ (Nat.le_refl _) hi
  obtain ⟨os, hos, hcs, hds⟩ := id hs
  have hTs : s.TypeIs (.ref sl) "slice" := ⟨os, hos, hcs⟩
  unfold getItem
  try with_reducible refine wpAny_holding ?_
  first | refine wpAny_bind (wpAny_pure ?_) | skip
  refine wpAny_bind (wpAny_sequenceKey ht.typeIs (by decide) ?_)
  refine wpAny_bind (wpAny_callSpecial?_slot (name := Str.ofString "__getitem__") ht.typeIs PyProof.Rows.slot_tuple_getitem
    (wpAny_call_entry PyProof.Rows.slot_tuple_getitem ht.typeIs entry_tuple_getitem ?_ (args_tuple_getitem _ _)))
  show wpAny _ _ (Builtin.Tuple.tupleItemsOf (.ref t) >>= _) _ _ s
  refine wpAny_bind (tupleItemsOf_ ht ?_)
  refine wpAny_bind (wpAny_typeOf hTs ?_)
  rw [if_pos (by decide)]
  refine wpAny_bind (sliceApplied_gen hs pl pu ?_)
  have hno : ¬ ((((sIx items.size 0 lo : Nat) : Int) == 0 && (1 : Int) == 1 && (sIx items.size items.size hi - sIx items.size 0 lo) == items.size) = true) := by
    intro q
    rw [Bool.and_eq_true, Bool.and_eq_true] at q
    have q1 : ((sIx items.size 0 lo : Nat) : Int) = 0 := eq_of_beq q.1.1
    have q2 : sIx items.size items.size hi - sIx items.size 0 lo = items.size := eq_of_beq q.2
    exact hw ⟨by omega, by omega⟩
  show wpAny _ _ (if (((sIx items.size 0 lo : Nat) : Int) == 0 && (1 : Int) == 1 && (sIx items.size items.size hi - sIx items.size 0 lo) == items.size) = true then _ else _) _ _ s
  rw [if_neg hno, pick_gen]
  first
    | exact wpAny_bind (m := Builtin.Tuple.tupleExact _) (wpAny_newObj_type (wpAny_pure ⟨_, rfl, wpAny_pure h⟩) htake)
    | exact wpAny_bind (m := Builtin.Tuple.tupleExact _) (wpAny_newObj_type (wpAny_bind (wpAny_pure (wpAny_pure ⟨_, rfl, wpAny_pure h⟩))) htake)
    | exact wpAny_bind (wpAny_bind (m := Builtin.Tuple.tupleExact _) (wpAny_newObj_type (wpAny_pure (wpAny_pure ⟨_, rfl, wpAny_pure h⟩)) htake))
    | exact wpAny_bind (wpAny_bind (m := Builtin.Tuple.tupleExact _) (wpAny_newObj_type (wpAny_pure ⟨_, rfl, wpAny_pure h⟩) htake))
end
end HT
namespace L2
open PySem PySem.Spec PyProof.Rows
noncomputable abbrev TO := St → Hp → (Option Int → Hp → Prop) → Prop
noncomputable def PO (X : Cx) (e : Option Expr) (t : TO) : Prop :=
  ∀ (pins : List (Addr × Obj)) (s : Shared) (σ : St) (H : Hp) (Q : Option Int → Hp → Prop), Inv X pins σ H s → t σ H Q →
    wpAny (model X.prog X.w) X.A (evalPart e X.env) (fun u s' => ∃ o H', Inv X pins σ H' s' ∧ IsPart u o ∧ Q o H') X.xe s
noncomputable def tNoPart : TO := fun _ H Q => Q none H
noncomputable def tPart (t : TE) : TO := fun σ H Q => t σ H fun x H1 => ∃ i, x = .int i ∧ Q (some i) H1
section
variable {X : Cx} {e : Expr} {te : TE} {lo hi : Option Expr} {tl th : TO} {pos p2 : Pos}
theorem po_none : PO X none tNoPart := by
  intro pins s σ H Q I h
  rw [evalPart_none]
  exact wpAny_pure ⟨none, H, I, .none, h⟩
theorem po_some (h : PE X e te) : PO X (some e) (tPart te) := by
  intro pins s σ H Q I hw
  rw [evalPart_some]
  refine thn (h pins s σ H _ I hw) fun u s1 ⟨x, H1, I1, r1, q1⟩ => ?_
  obtain ⟨i, rfl, q⟩ := q1
  obtain ⟨t, rfl⟩ := r1
  exact ⟨some i, H1, I1, .int i t, q⟩
noncomputable def SlR (X : Cx) (r : V → Option Int → Option Int → Hp → VK → Prop) : Prop :=
  ∀ (pins : List (Addr × Obj)) (s : Shared) (σ : St) (H : Hp) (x : V) (v vl vu : Value) (lo hi : Option Int) (sl : Addr) (Q : VK), Inv X pins σ H s → RelV x v → s.heap.IsSliceOf sl vl vu .none → IsPart vl lo → IsPart vu hi → r x lo hi H Q →
    ∃ T id, typeLookup (.type T) "__getitem__" = pure (some (.builtin id)) ∧ s.TypeIs v T ∧ wpAny (model X.prog X.w) X.A (getItem v (.ref sl)) (EP X pins σ Q) X.xe s
theorem SlR.or {r r' : V → Option Int → Option Int → Hp → VK → Prop} (h : SlR X r) (h' : SlR X r') : SlR X (fun x lo hi H Q => r x lo hi H Q ∨ r' x lo hi H Q) := by
  intro pins s σ H x v vl vu lo hi sl Q I rx hs pl pu q
  rcases q with q | q
  · exact h pins s σ H x v vl vu lo hi sl Q I rx hs pl pu q
  · exact h' pins s σ H x v vl vu lo hi sl Q I rx hs pl pu q
noncomputable def tSl (r : V → Option Int → Option Int → Hp → VK → Prop) (te : TE) (tl th : TO) : TE := fun σ H Q => te σ H fun x H1 => tl σ H1 fun l H2 => th σ H2 fun u H3 => r x l u H3 Q
theorem pe_slice {r : V → Option Int → Option Int → Hp → VK → Prop} (hr : SlR X r) (he : PE X e te) (hl : PO X lo tl) (hu : PO X hi th) : PE X (.Subscript e (.Slice lo hi none p2) pos) (tSl r te tl th) := by
  intro pins s σ H Q I h
  refine Subscript_ (thn (he pins s σ H _ I h) fun v s1 ⟨x, H1, I1, r1, q1⟩ => ?_)
  refine wpAny_Slice (thn (hl pins s1 σ H1 _ I1 q1) fun vl s2 ⟨l, H2, I2, pl, q2⟩ => thn (hu pins s2 σ H2 _ I2 q2) fun vu s3 ⟨u, H3, I3, pu, q3⟩ => ?_)
  rw [evalPart_none]
  refine wpAny_pure ?_
  have I4 : Inv X pins σ H3 { s3 with heap := s3.heap.push { cls := .type "slice", data := .fields #[vl, vu, .none] } } := I3.kept (t' := s3.toks) fun b ob q => Heap.get?_push_of_some _ q
  obtain ⟨T, id, hT, ht, hg⟩ := hr pins { s3 with heap := s3.heap.push { cls := .type "slice", data := .fields #[vl, vu, .none] } } σ H3 x v vl vu l u s3.heap.objs.size Q I4 r1 (Heap.IsSliceOf.new ..) pl pu q3
  show wpAny (model X.prog X.w) X.A (subscriptTail e (.Slice lo hi none p2) v (.ref s3.heap.objs.size)) (EP X pins σ Q) X.xe { s3 with heap := s3.heap.push { cls := .type "slice", data := .fields #[vl, vu, .none] } }
  exact tail_any (ops := [.ref s3.heap.objs.size, v]) ht hT hg (by with_unfolding_all rfl)
noncomputable def cutV (xs : List V) (lo hi : Option Int) : List V := (xs.drop (HT.sIx xs.length 0 lo)).take (HT.sIx xs.length xs.length hi - HT.sIx xs.length 0 lo)
theorem cutV_length (xs : List V) (lo hi : Option Int) : (cutV xs lo hi).length ≤ xs.length := by
  unfold cutV
  rw [List.length_take, List.length_drop]
  omega
noncomputable def rSlT (K : PySem.W.Frag) : V → Option Int → Option Int → Hp → VK → Prop := fun x lo hi H Q => ∃ a xs, x = .ref a ∧ SqT K H a xs ∧
  ¬ (HT.sIx xs.length 0 lo = 0 ∧ HT.sIx xs.length xs.length hi = xs.length) ∧ ∀ p, H p = none → Q (.ref p) (upd H p (.tup (cutV xs lo hi)))
theorem sl_tup : SlR X (rSlT X.K) := by
  intro pins s σ H x v vl vu lo hi sl Q I rx hs pl pu h
  obtain ⟨a, xs, rfl, hx, hw, q⟩ := h
  cases rx
  obtain ⟨its, r, ht, hz⟩ := I.tuple hx
  have hlen : its.toArray.size = xs.length := by rw [List.size_toArray]; exact r.length.symm
  refine ⟨"tuple", _, PyProof.Rows.slot_tuple_getitem.lookup, ht.typeIs, ?_⟩
  refine HT.getItem_tuple_cut ht hs pl pu (by rw [hlen]; exact hw) ?_ (by rw [hlen]; exact hz)
  rw [hlen]
  refine ⟨.ref s.heap.objs.size, _, I.laid (t' := s.toks) (o := .tup (cutV xs lo hi)) (fun b ob q => Heap.get?_push_of_some _ q) (Nat.le_refl _) ?_, rfl, q _ (I.hok.fresh (Nat.le_refl _))⟩
  exact ⟨Nat.le_trans (cutV_length xs lo hi) hz, _, (r.drop (HT.sIx xs.length 0 lo)).take (HT.sIx xs.length xs.length hi - HT.sIx xs.length 0 lo), IsTup.new _ _⟩
noncomputable def rCatT (K : PySem.W.Frag) : R2 := fun x y H Q => ∃ a b xs ys, x = .ref a ∧ y = .ref b ∧ SqT K H a xs ∧ SqT K H b ys ∧ xs ≠ [] ∧ xs.length + ys.length ≤ sizeLine ∧
  (ys = [] → Q (.ref a) H) ∧ (ys ≠ [] → ∀ p, H p = none → Q (.ref p) (upd H p (.tup (xs ++ ys))))
theorem Vals.nil_iff {xs : List V} {us : List Value} (r : Vals xs us) : us = [] ↔ xs = [] := by
  cases r with
  | nil => simp
  | cons _ _ => simp
theorem op_catT : OpR X (binaryOp .Add) (rCatT X.K) := by
  intro pins s σ H x y v u Q I rx ry h
  obtain ⟨a, b, xs, ys, rfl, rfl, ha, hb, hx, hz, q1, q2⟩ := h
  cases rx
  cases ry
  obtain ⟨its, r1, p1, _⟩ := I.tuple ha
  obtain ⟨its2, r2, p2, _⟩ := I.tuple hb
  refine HT.cat_tup p1 p2 (fun z => hx (r1.nil_iff.mp z)) (fun z => ⟨.ref a, H, I, rfl, q1 (r2.nil_iff.mp z)⟩) (fun z => ?_) (by rw [← r1.length, ← r2.length]; exact hz)
  refine ⟨.ref s.heap.objs.size, _, I.laid (t' := s.toks) (o := .tup (xs ++ ys)) (fun b ob q => Heap.get?_push_of_some _ q) (Nat.le_refl _) ?_, rfl, q2 (fun w => z (r2.nil_iff.mpr w)) _ (I.hok.fresh (Nat.le_refl _))⟩
  exact ⟨by rw [List.length_append]; exact hz, _, r1.append r2, IsTup.new _ _⟩
end
end L2
namespace L2
open PySem PySem.Spec PyProof.Rows
noncomputable def ixN (n : Nat) (i : Int) : Option Nat := if 0 ≤ i then (if i < n then some i.toNat else none) else if -(n : Int) ≤ i then some (i + n).toNat else none
noncomputable def atI {α : Type} (xs : List α) (i : Int) : Option α := (ixN xs.length i).bind fun j => xs[j]?
theorem ixN_seq {n : Nat} {i : Int} {j : Nat} (h : ixN n i = some j) : seqIndex? i n = some j ∧ j < n ∧ -(n : Int) ≤ i ∧ i < n := by
  unfold ixN at h
  by_cases h0 : 0 ≤ i
  · rw [if_pos h0] at h
    by_cases h1 : i < n
    · rw [if_pos h1] at h
      have e : i.toNat = j := Option.some.inj h
      exact ⟨by rw [seqIndex_of h0 h1, e], by omega, by omega, h1⟩
    · rw [if_neg h1] at h; cases h
  · rw [if_neg h0] at h
    by_cases h1 : -(n : Int) ≤ i
    · rw [if_pos h1] at h
      have e : (i + n).toNat = j := Option.some.inj h
      exact ⟨by rw [seqIndex_neg (by omega) h1, e], by omega, h1, by omega⟩
    · rw [if_neg h1] at h; cases h
theorem atI_get {α : Type} {xs : List α} {i : Int} {v : α} (h : atI xs i = some v) : ∃ j, seqIndex? i xs.length = some j ∧ xs[j]? = some v ∧ j < xs.length ∧ -(xs.length : Int) ≤ i ∧ i < xs.length := by
  unfold atI at h
  cases e : ixN xs.length i with
  | none => rw [e] at h; cases h
  | some j =>
    rw [e] at h
    obtain ⟨h1, h2, h3, h4⟩ := ixN_seq e
    exact ⟨j, h1, h, h2, h3, h4⟩
theorem atI_nat {α : Type} {xs : List α} {j : Nat} {v : α} (h : xs[j]? = some v) : atI xs (j : Int) = some v := by
  have hj : j < xs.length := (List.getElem?_eq_some_iff.mp h).1
  have e : ixN xs.length (j : Int) = some j := by
    unfold ixN
    rw [if_pos (by omega), if_pos (by omega)]; simp
  unfold atI; rw [e]; exact h
noncomputable def PlainIx (b : Expr) : Prop := ∀ o i, subscripted b false o i = operate [o, i] (getItem o i)
noncomputable def IxR (X : Cx) (r : R2) : Prop :=
  ∀ (value slice : Expr) (pins : List (Addr × Obj)) (s : Shared) (σ : St) (H : Hp) (x y : V) (v u : Value) (Q : VK), Inv X pins σ H s → RelV x v → RelV y u → r x y H Q →
    subscripted slice false v u = operate [v, u] (getItem v u) → wpAny (model X.prog X.w) X.A (subscriptTail value slice v u) (EP X pins σ Q) X.xe s
noncomputable def MtR (X : Cx) (id : String) (r : V → List V → Hp → VK → Prop) : Prop :=
  ∀ (pins : List (Addr × Obj)) (s : Shared) (σ : St) (H : Hp) (x : V) (xs : List V) (v : Value) (us : List Value) (Q : VK), Inv X pins σ H s → RelV x v → Vals xs us → r x xs H Q →
    wpAny (model X.prog X.w) X.A (call (.builtin id) (v :: us)) (EP X pins σ Q) X.xe s
section
variable {X : Cx} {a b : Expr} {ta tb : TE} {pos : Pos}
theorem IxR.or {r r' : R2} (h : IxR X r) (h' : IxR X r') : IxR X (fun x y H Q => r x y H Q ∨ r' x y H Q) := by
  intro value slice pins s σ H x y v u Q I rx ry q hs
  rcases q with q | q
  · exact h value slice pins s σ H x y v u Q I rx ry q hs
  · exact h' value slice pins s σ H x y v u Q I rx ry q hs
theorem MtR.or {id : String} {r r' : V → List V → Hp → VK → Prop} (h : MtR X id r) (h' : MtR X id r') : MtR X id (fun x xs H Q => r x xs H Q ∨ r' x xs H Q) := by
  intro pins s σ H x xs v us Q I rx rs q
  rcases q with q | q
  · exact h pins s σ H x xs v us Q I rx rs q
  · exact h' pins s σ H x xs v us Q I rx rs q
theorem pe_ix {r : R2} (hr : IxR X r) (ha : PE X a ta) (hb : PE X b tb) (hs : PlainIx b) : PE X (.Subscript a b pos) (tOp r ta tb) := by
  intro pins s σ H Q I h
  exact Subscript_ (binT ha hb I h fun v u s2 x y H2 I2 rx ry q => hr a b pins s2 σ H2 x y v u Q I2 rx ry q (hs _ _))
noncomputable def rIxL (K : PySem.W.Frag) : R2 := fun x y H Q => ∃ p xs i v, x = .ref p ∧ y = .int i ∧ SqL K H p xs ∧ atI xs i = some v ∧ Q v H
noncomputable def rIxT (K : PySem.W.Frag) : R2 := fun x y H Q => ∃ p xs i v, x = .ref p ∧ y = .int i ∧ SqT K H p xs ∧ atI xs i = some v ∧ Q v H
noncomputable def rIxS : R2 := fun x y H Q => ∃ z i c, x = .str z ∧ y = .int i ∧ z.length ≤ sizeLine ∧ atI z.cps.toList i = some c ∧ Q (.str ⟨#[c]⟩) H
theorem ix_list : IxR X (rIxL X.K) := by
  intro value slice pins s σ H x y v u Q I rx ry h hs
  obtain ⟨p, xs, i, z, rfl, rfl, hq, he, q⟩ := h
  cases rx
  obtain ⟨t, rfl⟩ := ry
  obtain ⟨its, r, pl, hz⟩ := I.list hq
  obtain ⟨j, h1, h2, h3, h4, h5⟩ := atI_get he
  obtain ⟨w, ew, rw'⟩ := r.get h2
  have hl := r.length
  have hn := line63
  have fin : EP X pins σ Q w s := ⟨z, H, I, rw', q⟩
  by_cases h0 : 0 ≤ i
  · have hj : i.toNat = j := by
      rw [seqIndex_of h0 h5] at h1
      exact Option.some.inj h1
    exact item_listR pl.isList h0 (by omega) (by rw [hj]; simpa using ew) fin hs
  · have hj : (i + (its.toArray.size : Int)).toNat = j := by
      rw [seqIndex_neg (by omega) h4] at h1
      rw [List.size_toArray, ← hl]
      exact Option.some.inj h1
    exact subscriptTail_builtinR (x := w) pl.isList.typeIs slot_list_getitem.lookup
      (wpAny_getItem_list_neg (Q := fun r s' => r = w ∧ EP X pins σ Q r s') pl.isList (by omega) (by rw [List.size_toArray] <;> omega) (by omega) (by rw [hj]; simpa using ew) ⟨rfl, fin⟩) hs
theorem ix_tup : IxR X (rIxT X.K) := by
  intro value slice pins s σ H x y v u Q I rx ry h hs
  obtain ⟨p, xs, i, z, rfl, rfl, hq, he, q⟩ := h
  cases rx
  obtain ⟨t, rfl⟩ := ry
  obtain ⟨its, r, pl, hz⟩ := I.tuple hq
  obtain ⟨j, h1, h2, h3, h4, h5⟩ := atI_get he
  obtain ⟨w, ew, rw'⟩ := r.get h2
  have hl := r.length
  have hn := line63
  have fin : EP X pins σ Q w s := ⟨z, H, I, rw', q⟩
  exact subscriptTail_builtinR (x := w) pl.typeIs slot_tuple_getitem.lookup
    (getItem_tuple (j := j) (Q := fun r s' => r = w ∧ EP X pins σ Q r s') pl (by omega) (by omega) (by rw [List.size_toArray, ← hl]; exact h1) (by simpa using ew) ⟨rfl, fin⟩) hs
theorem ix_str : IxR X rIxS := by
  intro value slice pins s σ H x y v u Q I rx ry h hs
  obtain ⟨z, i, c, rfl, rfl, hz, he, q⟩ := h
  obtain ⟨t, rfl⟩ := rx
  obtain ⟨t', rfl⟩ := ry
  obtain ⟨j, h1, h2, h3, h4, h5⟩ := atI_get he
  have hl : z.cps.toList.length = z.length := by simp [Str.length]
  rw [hl] at h1 h4 h5
  have hn := line63
  exact tail_any (typeIs_str s z t) slot_str_getitem.lookup (getItem_str (c := c) (by
    have e1 : decide (i < -(2 ^ 63 : Int)) = false := decide_eq_false (by omega)
    have e2 : decide (i ≥ 2 ^ 63) = false := decide_eq_false (by omega)
    rw [e1, e2, Bool.or_false]) (by rw [h1]; simpa using h2) ⟨.str ⟨#[c]⟩, H, I.tok _, ⟨_, rfl⟩, q⟩) hs
noncomputable def rIx (K : PySem.W.Frag) : R2 := fun x y H Q => rIxL K x y H Q ∨ rIxT K x y H Q ∨ rIxS x y H Q
theorem ix_seq : IxR X (rIx X.K) := ix_list.or (ix_tup.or ix_str)
theorem mapSeq_set (its : List Value) (n j : Nat) (u : Value) : Obj.mapSeq (·.setIfInBounds j u) { cls := .type "list", data := .seq its.toArray n } = { cls := .type "list", data := .seq (its.set j u).toArray n } := by
  simp [Obj.mapSeq]
theorem Inv.lst {pins : List (Addr × Obj)} {σ : St} {H : Hp} {s : Shared} {p : Addr} {xs : List V} (I : Inv X pins σ H s) (h : H p = some (.lst xs)) :
    ∃ (its : List Value) (n : Nat), Vals xs its ∧ s.heap.get? p = some { cls := .type "list", data := .seq its.toArray n } ∧ xs.length ≤ sizeLine := by
  obtain ⟨z, its, n, r, e⟩ := I.hok p _ h
  exact ⟨its, n, r, e, z⟩
theorem Inv.lstUpd {pins : List (Addr × Obj)} {σ : St} {H : Hp} {s : Shared} {p : Addr} {xs ys : List V} {its its' : List Value} {n n' : Nat} {f : Obj → Obj} (I : Inv X pins σ H s) (h : H p = some (.lst xs))
    (ho : s.heap.get? p = some { cls := .type "list", data := .seq its.toArray n }) (hf : f { cls := .type "list", data := .seq its.toArray n } = { cls := .type "list", data := .seq its'.toArray n' }) (r : Vals ys its') (hz : ys.length ≤ sizeLine) (t : Nat) :
    Inv X pins σ (upd H p (.lst ys)) { s with heap := s.heap.update p f, toks := t } := by
  have e : (s.heap.update p f).get? p = some { cls := .type "list", data := .seq its'.toArray n' } := by
    rw [Heap.get?_update_self f ho (by rw [hf] <;> rfl), hf]
  refine I.write (x := p) (e := p) (by rw [h]; trivial) (.inl rfl) (fun b u hb q => (Heap.get?_update_other _ _ (Ne.symm hb)).trans q) ⟨_, e⟩ ?_
  exact ⟨hz, its', n', r, e⟩
noncomputable def rSetL : V → V → V → Hp → (Hp → Prop) → Prop := fun o i v H Q => ∃ p xs k j, o = .ref p ∧ i = .int k ∧ H p = some (.lst xs) ∧ ixN xs.length k = some j ∧ Q (upd H p (.lst (xs.set j v)))
theorem set_list : PSet X rSetL := by
  intro pins s σ H o i v ov iv u Q I ro ri rv h
  obtain ⟨p, xs, k, j, rfl, rfl, hp, hj, q⟩ := h
  cases ro
  obtain ⟨t, rfl⟩ := ri
  obtain ⟨its, n, r, ho, hz⟩ := I.lst hp
  obtain ⟨h1, h2, h3, h4⟩ := ixN_seq hj
  have hl := r.length
  have hn := line63
  have I' : Inv X pins σ (upd H p (.lst (xs.set j v))) { s with heap := s.heap.update p (Obj.mapSeq (·.setIfInBounds j u)) } :=
    I.lstUpd hp ho (mapSeq_set its n j u) (r.set rv j) (by rw [List.length_set]; exact hz) s.toks
  by_cases h0 : 0 ≤ k
  · have hk : k.toNat = j := by
      rw [seqIndex_of h0 h4] at h1
      exact Option.some.inj h1
    exact PySem.W.ki_setAt ho h0 (by omega) (by rw [List.size_toArray, ← hl]; exact h4) (by rw [hk]; exact ⟨_, I', q⟩)
  · have hk : (k + (its.toArray.size : Int)).toNat = j := by
      rw [seqIndex_neg (by omega) h3] at h1
      rw [List.size_toArray, ← hl]
      exact Option.some.inj h1
    exact PySem.W.ki_setBack ho (by omega) (by rw [List.size_toArray, ← hl]; exact h3) (by omega) (by rw [hk]; exact ⟨_, I', q⟩)
theorem slice_bounds (lo hi : Option Int) (n : Nat) : (sliceBounds lo hi none n).1 = ((HT.sIx n 0 lo : Nat) : Int) ∧ (sliceBounds lo hi none n).2.1 = ((HT.sIx n n hi : Nat) : Int) ∧ (sliceBounds lo hi none n).2.2 = 1 := by
  refine ⟨?_, ?_, rfl⟩
  · cases lo with
    | none => simp [sliceBounds, HT.sIx]
    | some i =>
      simp only [sliceBounds, HT.sIx, Option.getD_none, show (1 : Int) > 0 by decide, if_true]
      by_cases h : i < 0
      · simp only [h, if_true] <;> omega
      · simp only [h, if_false] <;> omega
  · cases hi with
    | none => simp [sliceBounds, HT.sIx]
    | some i =>
      simp only [sliceBounds, HT.sIx, Option.getD_none, show (1 : Int) > 0 by decide, if_true]
      by_cases h : i < 0
      · simp only [h, if_true] <;> omega
      · simp only [h, if_false] <;> omega
theorem slicePick_cut (its : List Value) (lo hi : Option Int) : slicePick its.toArray lo hi none = ((its.drop (HT.sIx its.length 0 lo)).take (HT.sIx its.length its.length hi - HT.sIx its.length 0 lo)).toArray := by
  obtain ⟨h1, h2, h3⟩ := slice_bounds lo hi its.toArray.size
  unfold slicePick
  rw [h1, h2, h3]
  simp only [sliceRange_one, pick_run, List.size_toArray] <;> rfl
noncomputable def rSlL (K : PySem.W.Frag) : V → Option Int → Option Int → Hp → VK → Prop := fun x lo hi H Q => ∃ a xs, x = .ref a ∧ SqL K H a xs ∧ ∀ p, H p = none → Q (.ref p) (upd H p (.lst (cutV xs lo hi)))
theorem sl_list : SlR X (rSlL X.K) := by
  intro pins s σ H x v vl vu lo hi sl Q I rx hs pl pu h
  obtain ⟨a, xs, rfl, hx, q⟩ := h
  cases rx
  obtain ⟨its, r, ht, hz⟩ := I.list hx
  have hlen := r.length
  refine ⟨"list", _, slot_list_getitem.lookup, ht.isList.typeIs, ?_⟩
  refine wpAny_getItem_list_slice ht.isList hs pl pu .none (by simp) ?_ (by rw [List.size_toArray] <;> omega)
  rw [slicePick_cut, ← hlen]
  refine ⟨.ref s.heap.objs.size, _, I.laid (t' := s.toks) (o := .lst (cutV xs lo hi)) (fun b ob q => Heap.get?_push_of_some _ q) (Nat.le_refl _) ?_, rfl, q _ (I.hok.fresh (Nat.le_refl _))⟩
  exact ⟨Nat.le_trans (cutV_length xs lo hi) hz, _, 0, (r.drop (HT.sIx xs.length 0 lo)).take (HT.sIx xs.length xs.length hi - HT.sIx xs.length 0 lo), Heap.get?_push_size _ rfl⟩
theorem CallR.or {f : Value} {r r' : List V → Hp → VK → Prop} (h : CallR X f r) (h' : CallR X f r') : CallR X f (fun xs H Q => r xs H Q ∨ r' xs H Q) := by
  intro pins s σ H xs us Q I rs q
  rcases q with q | q
  · exact h pins s σ H xs us Q I rs q
  · exact h' pins s σ H xs us Q I rs q
theorem call_list_of : CallR X (.type "list") (fun xs H Q => ∃ p ys, xs = [.ref p] ∧ (SqL X.K H p ys ∨ SqT X.K H p ys) ∧ ∀ l, H l = none → Q (.ref l) (upd H l (.lst ys))) := by
  intro pins s σ H xs us Q I r h
  obtain ⟨p, ys, rfl, hq, q⟩ := h
  obtain ⟨u, rfl, rx⟩ := vals1 r
  cases rx
  have fin : ∀ (its : List Value), Vals ys its → ys.length ≤ sizeLine → ∀ (h' : Heap) (c' : Nat), (∀ b o', s.heap.get? b = some o' → h'.get? b = some o') →
      h'.get? s.heap.objs.size = some { cls := .type "list", dict := none, data := .seq its.toArray c', slots := #[] } → EP X pins σ Q (.ref s.heap.objs.size) { s with heap := h' } := fun its r' hz h' c' kp e =>
    ⟨.ref s.heap.objs.size, _, I.laid (t' := s.toks) kp (Nat.le_refl _) (show ObjOk X.prog X.w _ h' _ (.lst ys) from ⟨hz, its, c', r', e⟩), rfl, q _ (I.hok.fresh (Nat.le_refl _))⟩
  rcases hq with hq | hq
  · obtain ⟨its, r', pl, hz⟩ := I.list hq
    have hlen := r'.length
    obtain ⟨o, ho, hc, n, hd⟩ := pl.isList
    exact call_list_seq p (.inl rfl) ho hc hd (fun h' c' kp e => fin its r' hz h' c' kp e) (by simp only [List.size_toArray] <;> omega)
  · obtain ⟨its, r', pl, hz⟩ := I.tuple hq
    have hlen := r'.length
    obtain ⟨o, ho, hc, n, hd⟩ := pl
    exact call_list_seq p (.inr rfl) ho hc hd (fun h' c' kp e => fin its r' hz h' c' kp e) (by simp only [List.size_toArray] <;> omega)
theorem call_tuple_of : CallR X (.type "tuple") (fun xs H Q => ∃ p ys, xs = [.ref p] ∧ ((SqL X.K H p ys ∧ ∀ l, H l = none → Q (.ref l) (upd H l (.tup ys))) ∨ (SqT X.K H p ys ∧ Q (.ref p) H))) := by
  intro pins s σ H xs us Q I r h
  obtain ⟨p, ys, rfl, h⟩ := h
  obtain ⟨u, rfl, rx⟩ := vals1 r
  cases rx
  rcases h with ⟨hq, q⟩ | ⟨hq, q⟩
  · obtain ⟨its, r', pl, hz⟩ := I.list hq
    have hlen := r'.length
    refine call_tuple_list pl.isList (fun h' kp => ?_) (by simp only [List.size_toArray] <;> omega)
    have I1 : Inv X pins σ H { s with heap := h' } := I.kept (t' := s.toks) kp
    have I2 : Inv X pins σ (upd H h'.objs.size (.tup ys)) { s with heap := h'.push { cls := .type "tuple", data := .seq its.toArray } } :=
      I1.laid (t' := s.toks) (fun b o e => Heap.get?_push_of_some _ e) (Nat.le_refl _) (show ObjOk X.prog X.w _ _ _ (.tup ys) from ⟨hz, its, r', IsTup.new _ _⟩)
    exact ⟨.ref h'.objs.size, _, I2, rfl, q _ (I1.hok.fresh (Nat.le_refl _))⟩
  · obtain ⟨its, r', pl, hz⟩ := I.tuple hq
    exact call_tuple_same pl ⟨.ref p, H, I, rfl, q⟩
noncomputable def tyV (K : PySem.W.Frag) (T : String) (x : V) (H : Hp) : Prop := match x with
  | .str _ => T = "str"
  | .int _ => T = "int"
  | .ref p => (T = "list" ∧ ∃ xs, SqL K H p xs) ∨ (T = "tuple" ∧ ∃ o, K.lookup p = some o ∧ o.cls = .type "tuple" ∧ o.dict = none) ∨
      (T = "dict" ∧ ((∃ kvs, H p = some (.dK kvs)) ∨ ∃ kvs, H p = some (.dT kvs))) ∨ (T = "set" ∧ ∃ S n, H p = some (.set S n))
  | _ => False
theorem tyV_is {pins : List (Addr × Obj)} {σ : St} {H : Hp} {s : Shared} {T : String} {x : V} {v : Value} (I : Inv X pins σ H s) (r : RelV x v) (ty : tyV X.K T x H) :
    s.TypeIs v T ∧ ∀ a, v = .ref a → ∃ ob, s.heap.get? a = some ob ∧ ob.dict = none := by
  cases x with
  | str z =>
    obtain ⟨t, rfl⟩ := r
    cases (show T = "str" from ty)
    exact ⟨typeIs_str s z t, fun _ e => nomatch e⟩
  | int i =>
    obtain ⟨t, rfl⟩ := r
    cases (show T = "int" from ty)
    exact ⟨typeIs_int s i t, fun _ e => nomatch e⟩
  | ref p =>
    cases r
    rcases ty with ⟨rfl, xs, hq⟩ | ⟨rfl, o, hk, hc, hd⟩ | ⟨rfl, hk⟩ | ⟨rfl, S, n, hk⟩
    · obtain ⟨its, _, pl, _⟩ := I.list hq
      refine ⟨pl.isList.typeIs, fun a e => ?_⟩
      cases e
      obtain ⟨o, n, e, c, hd, _⟩ := pl
      exact ⟨o, e, hd⟩
    · refine ⟨⟨o, I.kIn p o hk, hc⟩, fun a e => ?_⟩
      cases e
      exact ⟨o, I.kIn _ o hk, hd⟩
    · have z : ∃ o, s.heap.get? p = some o ∧ o.ExactDict := by
        rcases hk with ⟨kvs, hk⟩ | ⟨kvs, hk⟩
        · obtain ⟨_, _, _, _, o, _, _, e, ex, _⟩ := I.hok p _ hk
          exact ⟨o, e, ex⟩
        · obtain ⟨_, _, _, _, o, _, _, e, ex, _⟩ := I.hok p _ hk
          exact ⟨o, e, ex⟩
      obtain ⟨o, e, ex⟩ := z
      refine ⟨⟨o, e, ex.1⟩, fun a e2 => ?_⟩
      cases e2
      exact ⟨o, e, ex.2.1⟩
    · obtain ⟨o, _, _, _, e, ex, _⟩ := I.hok p _ hk
      refine ⟨⟨o, e, ex.1⟩, fun a e2 => ?_⟩
      cases e2
      exact ⟨o, e, ex.2.1⟩
  | _ => exact False.elim ty
noncomputable def tBM0 (K : PySem.W.Frag) (T : String) (r : V → List V → Hp → VK → Prop) (to : TE) : TE := fun σ H Q => to σ H fun x H1 => tyV K T x H1 ∧ r x [] H1 Q
noncomputable def tBM (K : PySem.W.Frag) (T : String) (r : V → List V → Hp → VK → Prop) (to : TE) (t : TA) : TE := fun σ H Q => to σ H fun x H1 => tyV K T x H1 ∧ t σ H1 fun xs H2 => r x xs H2 Q
variable {o e : Expr} {es : List Expr} {to : TE} {t : TA} {name : Str} {apos cpos : Pos} {T id : String} {r : V → List V → Hp → VK → Prop}
theorem pe_bm0 (pa : PlainAttrs T) (slot : Slot T name id) (hty : typeOf (.builtin id) = pure (.type "method_descriptor")) (hm : MtR X id r) (ho : PE X o to)
    (hbase : attributeBase o name X.env (eval o X.env) = eval o X.env := by rfl) (hline : (apos.endLine == cpos.line) = true := by rfl) : PE X (.Call (.Attribute o name apos) [] [] cpos) (tBM0 X.K T r to) := by
  intro pins s σ H Q I h
  refine wpAny_Call_method0_late hbase hline (thn (ho pins s σ H _ I h) fun v s1 ⟨x, H1, I1, r1, ty, q1⟩ => ?_)
  obtain ⟨h1, h2⟩ := tyV_is I1 r1 ty
  exact ⟨T, id, pa, slot, hty, h1, h2, Calls.callWith_builtin rfl (PySem.evalArgs_none (hm pins s1 σ H1 x [] v [] Q I1 r1 .nil q1))⟩
theorem pe_bm (pa : PlainAttrs T) (slot : Slot T name id) (hty : typeOf (.builtin id) = pure (.type "method_descriptor")) (hm : MtR X id r) (ho : PE X o to) (ha : PA X (e :: es) t)
    (hbase : attributeBase o name X.env (eval o X.env) = eval o X.env := by rfl)
    (hfew : ((backTo cpos (starEach (e :: es) X.env)).all (fun x => !x.1) && (backToKw cpos (keywordEach [] X.env)).all (fun x => x.1.isSome)
      && decide ((e :: es).length + ([] : List Keyword).length + (if ([] : List Keyword).isEmpty then 0 else 1) < 30)) = true := by rfl)
    (hline : (apos.endLine == cpos.line) = true := by rfl) (hs : starEach (e :: es) X.env = (false, eval e X.env) :: starEach es X.env := by rfl) (hplain : (backTo cpos (starEach es X.env)).any (·.1) = false := by rfl) :
    PE X (.Call (.Attribute o name apos) (e :: es) [] cpos) (tBM X.K T r to t) := by
  intro pins s σ H Q I h
  refine wpAny_Call_method_late hbase hfew hline rfl (thn (ho pins s σ H _ I h) fun v s1 ⟨x, H1, I1, r1, ty, q1⟩ => ?_)
  obtain ⟨h1, h2⟩ := tyV_is I1 r1 ty
  refine ⟨T, id, pa, slot, hty, h1, h2, ?_⟩
  have hA := ha cpos pins s1 σ H1 _ I1 q1
  rw [hs] at hA ⊢
  refine Calls.callWith_builtin (by show (false || (backTo cpos (starEach es X.env)).any (·.1)) = false; rw [hplain] <;> rfl) (Calls.evalArgs_plain ?_)
  exact thn hA fun us s2 ⟨vs, H2, I2, r2, q2⟩ => hm pins s2 σ H2 x vs v us Q I2 r1 r2 q2
end
end L2
namespace L2
open PySem PySem.Spec PyProof.Rows
noncomputable def MtM (X : Cx) (id : String) (r : V → List V → Hp → VK → Prop) : Prop :=
  ∀ (pins : List (Addr × Obj)) (s : Shared) (σ : St) (H : Hp) (x : V) (xs : List V) (v : Value) (us : List Value) (Q : VK), Inv X pins σ H s → RelV x v → Vals xs us → r x xs H Q →
    wpAny (model X.prog X.w) X.A (call (.builtin id) (v :: us)) (EP X pins σ Q) X.xe s
theorem Vals.one : ∀ {x : V} {us : List Value}, Vals [x] us → ∃ u, us = [u] ∧ RelV x u
  | _, _, .cons r .nil => ⟨_, rfl, r⟩
theorem Vals.zero : ∀ {us : List Value}, Vals [] us → us = []
  | _, .nil => rfl
theorem Vals.dropLast {xs : List V} {us : List Value} (h : Vals xs us) : Vals xs.dropLast us.dropLast := by
  induction h with
  | nil => exact .nil
  | cons r t ih =>
    cases t with
    | nil => exact .nil
    | cons q t' => exact .cons r ih
theorem Vals.eraseIdx : ∀ {xs : List V} {us : List Value} (i : Nat), Vals xs us → Vals (xs.eraseIdx i) (us.eraseIdx i)
  | _, _, _, .nil => .nil
  | _, _, 0, .cons _ t => t
  | _, _, i + 1, .cons r t => .cons r (Vals.eraseIdx i t)
theorem Vals.reverse {xs : List V} {us : List Value} (h : Vals xs us) : Vals xs.reverse us.reverse := by
  induction h with
  | nil => exact .nil
  | cons r t ih => rw [List.reverse_cons, List.reverse_cons]; exact Vals.append ih (.cons r .nil)
theorem Vals.rep {xs : List V} {us : List Value} (h : Vals xs us) : ∀ k : Nat, Vals (List.replicate k xs).flatten (List.replicate k us).flatten
  | 0 => .nil
  | k + 1 => by
    rw [List.replicate_succ, List.replicate_succ, List.flatten_cons, List.flatten_cons]
    exact Vals.append h (Vals.rep h k)
theorem erase_last {α : Type} (l : List α) : l.eraseIdx (l.length - 1) = l.dropLast := by
  induction l with
  | nil => rfl
  | cons a r ih =>
    cases r with
    | nil => rfl
    | cons b r =>
      have e : (a :: b :: r).length - 1 = ((b :: r).length - 1) + 1 := by
        have h1 : (a :: b :: r).length = r.length + 2 := rfl
        have h2 : (b :: r).length = r.length + 1 := rfl
        omega
      rw [e, List.eraseIdx_cons_succ, ih]
      all_goals rfl
theorem foldl_rep (its : List Value) : ∀ (k : Nat) (acc : List Value),
    List.foldl (fun x1 x2 => x1 ++ x2) acc.toArray (List.replicate k its.toArray) = (acc ++ (List.replicate k its).flatten).toArray
  | 0, acc => by simp
  | k + 1, acc => by
    have e : acc.toArray ++ its.toArray = (acc ++ its).toArray := by simp
    have e2 : (acc ++ its) ++ (List.replicate k its).flatten = acc ++ (List.replicate (k + 1) its).flatten := by
      rw [List.replicate_succ, List.flatten_cons, List.append_assoc]
    rw [← e2, ← foldl_rep its k (acc ++ its), ← e, List.replicate_succ, List.foldl_cons]
section
variable {X : Cx} {pins : List (Addr × Obj)} {σ : St} {H : Hp} {s : Shared} {l b : Addr} {xs ys zs : List V}
theorem Inv.lset {its its' : List Value} {n : Nat} {f : Array Value → Array Value} {t' : Nat} (I : Inv X pins σ H s) (hH : H l = some (.lst xs))
    (e : s.heap.get? l = some { cls := .type "list", data := .seq its.toArray n }) (hf : f its.toArray = its'.toArray) (hv : Vals ys its') (hz : ys.length ≤ sizeLine) :
    Inv X pins σ (upd H l (.lst ys)) { s with heap := s.heap.update l (Obj.mapSeq f), toks := t' } := by
  have q := PySem.IsL.update e f
  rw [hf] at q
  refine I.write (x := l) (e := l) (by rw [hH]; exact trivial) (.inl rfl) (fun b' u hb hu => (Heap.get?_update_other s.heap (Obj.mapSeq f) (Ne.symm hb)).trans hu) ⟨_, q⟩ ?_
  exact ⟨hz, its', _, hv, q⟩
theorem Inv.lnew {its : List Value} {t' : Nat} (I : Inv X pins σ H s) (hv : Vals ys its) (hz : ys.length ≤ sizeLine) :
    Inv X pins σ (upd H s.heap.objs.size (.lst ys)) { s with heap := s.heap.push { cls := .type "list", data := .seq its.toArray }, toks := t' } :=
  I.laid (fun _ _ q => Heap.get?_push_of_some _ q) (Nat.le_refl _) ⟨hz, its, 0, hv, Heap.get?_push_size _ rfl⟩
theorem Inv.fresh (I : Inv X pins σ H s) : H s.heap.objs.size = none := I.hok.fresh (Nat.le_refl _)
theorem Inv.lstM (I : Inv X pins σ H s) (hH : H l = some (.lst xs)) : xs.length ≤ sizeLine ∧ ∃ (its : List Value) (n : Nat), Vals xs its ∧ xs.length = its.length ∧ s.heap.get? l = some { cls := .type "list", data := .seq its.toArray n } := by
  obtain ⟨z, its, n, r, e⟩ := I.hok l _ hH
  exact ⟨z, its, n, r, r.length, e⟩
theorem notLongL {n : Nat} (h : n ≤ sizeLine) : Builtin.List.listTooLong n = false := by
  unfold Builtin.List.listTooLong
  exact decide_eq_false (by omega)
end
section
variable {X : Cx}
noncomputable def rAppend : V → List V → Hp → VK → Prop := fun x vs H Q => ∃ l xs y, x = .ref l ∧ vs = [y] ∧ H l = some (.lst xs) ∧ xs.length < sizeLine ∧ Q .non (upd H l (.lst (xs ++ [y])))
theorem mt_append : MtM X "list.append" rAppend := by
  intro pins s σ H x vs v us Q I rx rv h
  obtain ⟨l, xs, y, rfl, rfl, hH, hz, q⟩ := h
  cases rx
  obtain ⟨u, rfl, ru⟩ := rv.one
  obtain ⟨z, its, n, r, hl, e⟩ := I.lstM hH
  refine call_meets F.slot_list_append ⟨_, e, rfl⟩ F.entry_list_append (F.args_list_append_2 _ _) (PySem.list_append l its.toArray n u (by rw [List.size_toArray]; omega)) ⟨e, ?_⟩
  refine ⟨.non, _, I.lset (its' := its ++ [u]) hH e (by simp) (r.append (.cons ru .nil)) ?_, rfl, q⟩
  rw [List.length_append, List.length_singleton]
  omega
noncomputable def rExtend : V → List V → Hp → VK → Prop := fun x vs H Q => ∃ l b xs zs, x = .ref l ∧ vs = [.ref b] ∧ H l = some (.lst xs) ∧ H b = some (.lst zs) ∧ xs.length + zs.length ≤ sizeLine ∧ Q .non (upd H l (.lst (xs ++ zs)))
theorem mt_extend : MtM X "list.extend" rExtend := by
  intro pins s σ H x vs v us Q I rx rv h
  obtain ⟨l, b, xs, zs, rfl, rfl, hH, hB, hz, q⟩ := h
  cases rx
  obtain ⟨u, rfl, ru⟩ := rv.one
  cases ru
  obtain ⟨z, its, n, r, hl, e⟩ := I.lstM hH
  obtain ⟨z2, its2, n2, r2, hl2, e2⟩ := I.lstM hB
  have hsz : its.toArray.size + its2.toArray.size ≤ sizeLine := by rw [List.size_toArray, List.size_toArray]; omega
  have hlong : ¬ (!its.toArray.isEmpty && Builtin.List.listTooLong (its.toArray.size + its2.toArray.size)) = true := by
    rw [notLongL hsz, Bool.and_false]
    exact Bool.false_ne_true
  refine call_meets F.slot_list_extend ⟨_, e, rfl⟩ F.entry_list_extend (F.args_list_extend_2 _ _)
    (AutoSeq1.list_extend_list_list_0 l its.toArray n b its2.toArray n2 hlong (by rw [List.size_toArray]; omega) (by omega)) ⟨e, e2, ?_⟩
  refine ⟨.non, _, I.lset (its' := its ++ its2) hH e (by simp) (r.append r2) ?_, rfl, q⟩
  rw [List.length_append]
  omega
noncomputable def rPop : V → List V → Hp → VK → Prop := fun x vs H Q => ∃ l xs y, x = .ref l ∧ vs = [] ∧ H l = some (.lst xs) ∧ xs[xs.length - 1]? = some y ∧ Q y (upd H l (.lst xs.dropLast))
theorem mt_pop : MtM X "list.pop" rPop := by
  intro pins s σ H x vs v us Q I rx rv h
  obtain ⟨l, xs, y, rfl, rfl, hH, hy, q⟩ := h
  cases rx
  have hus := rv.zero
  subst hus
  obtain ⟨z, its, n, r, hl, e⟩ := I.lstM hH
  obtain ⟨u, hu, ru⟩ := r.get hy
  have hy' : its.toArray[its.toArray.size - 1]? = some u := by
    show its.toArray[its.length - 1]? = some u
    rw [← Array.getElem?_toList, ← hl]
    exact hu
  refine call_meets F.slot_list_pop ⟨_, e, rfl⟩ F.entry_list_pop (F.args_list_pop_1 _) (MeetsSeq.list_pop_last l its.toArray n u hy' (by rw [List.size_toArray]; omega)) ⟨e, ?_⟩
  refine ⟨y, _, I.lset (its' := its.dropLast) hH e ?_ r.dropLast ?_, ru, q⟩
  · show its.toArray.eraseIdxIfInBounds (its.toArray.size - 1) = its.dropLast.toArray
    rw [List.size_toArray, List.eraseIdxIfInBounds_toArray, erase_last]
  · rw [List.length_dropLast]
    omega
noncomputable def rCat : R2 := fun x y H Q => ∃ l b xs zs, x = .ref l ∧ y = .ref b ∧ H l = some (.lst xs) ∧ H b = some (.lst zs) ∧ xs.length + zs.length ≤ sizeLine ∧ ∀ p, H p = none → Q (.ref p) (upd H p (.lst (xs ++ zs)))
theorem op_cat : OpR X (binaryOp .Add) rCat := by
  intro pins s σ H x y v u Q I rx ry h
  obtain ⟨l, b, xs, zs, rfl, rfl, hH, hB, hz, q⟩ := h
  cases rx
  cases ry
  obtain ⟨z, its, n, r, hl, e⟩ := I.lstM hH
  obtain ⟨z2, its2, n2, r2, hl2, e2⟩ := I.lstM hB
  refine PySem.P.add_list e e2 ?_ (by rw [List.size_toArray, List.size_toArray]; omega)
  have ea : its.toArray ++ its2.toArray = (its ++ its2).toArray := by simp
  rw [ea]
  exact ⟨.ref _, _, I.lnew (t' := s.toks) (r.append r2) (by rw [List.length_append]; omega), rfl, q _ I.fresh⟩
noncomputable def rRep : R2 := fun x y H Q => ∃ l k xs, x = .ref l ∧ y = .int k ∧ H l = some (.lst xs) ∧ -(2 ^ 63) ≤ k ∧ k < 2 ^ 63 ∧ xs.length * k.toNat ≤ sizeLine ∧
  ∀ p, H p = none → Q (.ref p) (upd H p (.lst (List.replicate k.toNat xs).flatten))
theorem len_rep {α : Type} (xs : List α) (k : Nat) : (List.replicate k xs).flatten.length = k * xs.length := by
  induction k with
  | zero => simp
  | succ k ih => rw [List.replicate_succ, List.flatten_cons, List.length_append, ih, Nat.succ_mul, Nat.add_comm]
theorem op_rep : OpR X (binaryOp .Mult) rRep := by
  intro pins s σ H x y v u Q I rx ry h
  obtain ⟨l, k, xs, rfl, rfl, hH, h1, h2, hz, q⟩ := h
  cases rx
  obtain ⟨t, rfl⟩ := ry
  obtain ⟨z, its, n, r, hl, e⟩ := I.lstM hH
  have hlen : its.toArray.size * k.toNat ≤ sizeLine := by rw [List.size_toArray, ← hl]; exact hz
  have hcap : ¬ its.toArray.size * k.toNat > (2 ^ 63 - 1) / 8 := by
    have : (sizeLine : Nat) ≤ (2 ^ 63 - 1) / 8 := by decide
    omega
  have hfit : ¬ (!Builtin.List.listFitsIndex k) = true := by
    rw [fitsIndex_both h1 h2]
    exact Bool.false_ne_true
  have hlong : ¬ Builtin.List.listTooLong (its.toArray.size * k.toNat) = true := by
    rw [notLongL hlen]
    exact Bool.false_ne_true
  have hnew : List.foldl (fun x1 x2 => x1 ++ x2) #[] (List.replicate (if its.toArray.isEmpty = true then 0 else k.toNat) its.toArray) = (List.replicate k.toNat its).flatten.toArray := by
    have f0 : ∀ m : Nat, List.foldl (fun x1 x2 => x1 ++ x2) #[] (List.replicate m its.toArray) = (List.replicate m its).flatten.toArray := fun m => by
      have := foldl_rep its m []
      rw [List.nil_append] at this
      exact this
    rw [f0]
    cases its with
    | nil => simp
    | cons a r' => rw [if_neg (by simp)]
  refine wpAny_binaryOp_repeat_ref (T := "list") (U := "int") (by decide) ⟨_, e, rfl⟩ (fun s' => typeIs_int s' k t) noFill_list_mul F.fills_int_mul F.slot_int_rmul repeat_list F.slot_int_index.lookup
    (call_meets F.slot_int_rmul (typeIs_int s k t) F.entry_int_rmul (F.args_int_rmul_2 _ _) (int___rmul___int_list k t l its.toArray n)
      ⟨e, rfl, ⟨_, e, rfl⟩, call_meets F.slot_list_mul ⟨_, e, rfl⟩ F.entry_list_mul (F.args_list_mul_2 _ _) (AutoListH.list___mul___list_int_3 l its.toArray n k t hfit hcap hlong) ⟨e, ?_⟩⟩)
  rw [hnew]
  exact ⟨.ref _, _, I.lnew (t' := s.toks) (r.rep k.toNat) (by rw [len_rep, Nat.mul_comm]; exact hz), rfl, q _ I.fresh⟩
end
section
variable {prog : Program} {w : World} {A : Around} {E : Value → Shared → Prop} {s : Shared}
end
section
variable {X : Cx}
end
end L2
namespace L2
open PySem PySem.Spec PyProof.Rows
section
variable {κ : Type} [DecidableEq κ]
noncomputable def valV (kvs : List (κ × V)) (k : κ) : Option V := (kvs.find? fun kv => decide (kv.1 = k)).map (·.2)
noncomputable def putK (kvs : List (κ × V)) (k : κ) (v : V) : List (κ × V) :=
  if (kvs.any fun kv => decide (kv.1 = k)) = true then kvs.map (fun kv => if kv.1 = k then (kv.1, v) else kv) else kvs ++ [(k, v)]
noncomputable def dropK (kvs : List (κ × V)) (k : κ) : List (κ × V) := kvs.filter fun kv => decide (kv.1 ≠ k)
theorem valV_pos {p : κ × V} {r : List (κ × V)} {k : κ} (e : p.1 = k) : valV (p :: r) k = some p.2 := by simp [valV, List.find?_cons, e]
theorem valV_neg {p : κ × V} {r : List (κ × V)} {k : κ} (e : ¬ p.1 = k) : valV (p :: r) k = valV r k := by simp [valV, List.find?_cons, e]
theorem valV_any (k : κ) : ∀ kvs : List (κ × V), (kvs.any fun kv => decide (kv.1 = k)) = (valV kvs k).isSome
  | [] => rfl
  | p :: r => by
    rw [List.any_cons]
    by_cases e : p.1 = k
    · simp only [valV_pos e, decide_eq_true e, Bool.true_or, Option.isSome_some]
    · rw [valV_neg e, decide_eq_false e, Bool.false_or]; exact valV_any k r
theorem valV_map (k j : κ) (y : V) : ∀ kvs : List (κ × V), valV (kvs.map fun kv => if kv.1 = k then (kv.1, y) else kv) j = (valV kvs j).map fun x => if j = k then y else x
  | [] => rfl
  | p :: r => by
    have ih := valV_map k j y r
    rw [List.map_cons]
    by_cases h : p.1 = k
    · rw [if_pos h]
      by_cases e : p.1 = j
      · rw [valV_pos (p := (p.1, y)) e, valV_pos e, Option.map_some, if_pos (e.symm.trans h)]
      · rw [valV_neg (p := (p.1, y)) e, valV_neg e, ih]
    · rw [if_neg h]
      by_cases e : p.1 = j
      · rw [valV_pos (p := p) e, valV_pos e, Option.map_some, if_neg (fun z => h (e.trans z))]
      · rw [valV_neg (p := p) e, valV_neg e, ih]
theorem valV_snoc (k j : κ) (y : V) : ∀ kvs : List (κ × V), valV kvs k = none → valV (kvs ++ [(k, y)]) j = if j = k then some y else valV kvs j
  | [], _ => by
    by_cases e : k = j
    · rw [if_pos e.symm]; exact valV_pos (p := (k, y)) e
    · rw [if_neg (fun z => e z.symm)]; exact valV_neg (p := (k, y)) e
  | p :: r, hn => by
    rw [List.cons_append]
    have hk : ¬ p.1 = k := fun z => by rw [valV_pos z] at hn; cases hn
    rw [valV_neg hk] at hn
    have ih := valV_snoc k j y r hn
    by_cases e : p.1 = j
    · rw [valV_pos e, valV_pos e, if_neg (fun z => hk (e.trans z))]
    · rw [valV_neg e, valV_neg e, ih]
theorem valV_put (kvs : List (κ × V)) (k j : κ) (y : V) : valV (putK kvs k y) j = if j = k then some y else valV kvs j := by
  unfold putK
  by_cases a : (kvs.any fun kv => decide (kv.1 = k)) = true
  · rw [if_pos a, valV_map]
    rw [valV_any] at a
    by_cases e : j = k
    · obtain ⟨x, hx⟩ := Option.isSome_iff_exists.mp a
      rw [if_pos e, e, hx, Option.map_some, if_pos rfl]
    · rw [if_neg e]
      cases valV kvs j with
      | none => rfl
      | some x => rw [Option.map_some, if_neg e]
  · rw [if_neg a]
    refine valV_snoc k j y kvs ?_
    rw [valV_any] at a
    cases q : valV kvs k with
    | none => rfl
    | some x => rw [q] at a; exact (a rfl).elim
theorem length_putK (kvs : List (κ × V)) (k : κ) (v : V) : (putK kvs k v).length ≤ kvs.length + 1 := by
  unfold putK
  split
  · rw [List.length_map]; omega
  · rw [List.length_append, List.length_cons, List.length_nil]; omega
theorem putK_new {kvs : List (κ × V)} {k : κ} (v : V) (h : valV kvs k = none) : putK kvs k v = kvs ++ [(k, v)] := by
  unfold putK
  rw [valV_any, h]
  exact if_neg (by decide)
theorem RelO.isSome_eq {o : Option V} {u : Option Value} (r : RelO o u) : o.isSome = u.isSome := by
  cases o with
  | none => cases u with
    | none => rfl
    | some _ => exact (show False from r).elim
  | some _ => cases u with
    | none => exact (show False from r).elim
    | some _ => rfl
theorem RelO.getD {o : Option V} {u : Option Value} {d : V} {d' : Value} (r : RelO o u) (rd : RelV d d') : RelV (o.getD d) (u.getD d') := by
  cases o with
  | none => cases u with
    | none => exact rd
    | some _ => exact (show False from r).elim
  | some _ => cases u with
    | none => exact (show False from r).elim
    | some _ => exact r
theorem KV.val {kvs : List (κ × V)} {vs : List (κ × Value)} (r : KV kvs vs) (k : κ) : RelO (valV kvs k) (valueAt vs k) := by
  unfold KV at r
  induction r with
  | nil => exact True.intro
  | @cons p q ps qs h t ih =>
    obtain ⟨h1, h2⟩ := h
    by_cases e : p.1 = k
    · have e' : q.1 = k := h1.symm.trans e
      have b : valueAt (q :: qs) k = some q.2 := by simp [valueAt, List.find?_cons, e']
      rw [valV_pos e, b]; exact h2
    · have e' : ¬ q.1 = k := fun z => e (h1.trans z)
      have b : valueAt (q :: qs) k = valueAt qs k := by simp [valueAt, List.find?_cons, e']
      rw [valV_neg e, b]; exact ih
theorem KV.any {kvs : List (κ × V)} {vs : List (κ × Value)} (r : KV kvs vs) (k : κ) : (kvs.any fun kv => decide (kv.1 = k)) = vs.any fun kv => decide (kv.1 = k) := by
  unfold KV at r
  induction r with
  | nil => rfl
  | cons h t ih => rw [List.any_cons, List.any_cons, ih, h.1]
theorem KV.repl {kvs : List (κ × V)} {vs : List (κ × Value)} (r : KV kvs vs) (k : κ) {y : V} {u : Value} (ry : RelV y u) :
    KV (kvs.map fun kv => if kv.1 = k then (kv.1, y) else kv) (vs.map fun kv => if kv.1 = k then (kv.1, u) else kv) := by
  unfold KV at r ⊢
  induction r with
  | nil => exact .nil
  | @cons p q ps qs h t ih =>
    rw [List.map_cons, List.map_cons]
    refine .cons ?_ ih
    obtain ⟨h1, h2⟩ := h
    by_cases e : p.1 = k
    · rw [if_pos e, if_pos (h1.symm.trans e)]; exact ⟨h1, ry⟩
    · rw [if_neg e, if_neg (fun z => e (h1.trans z))]; exact ⟨h1, h2⟩
theorem KV.put {kvs : List (κ × V)} {vs : List (κ × Value)} (r : KV kvs vs) (k : κ) {y : V} {u : Value} (ry : RelV y u) : KV (putK kvs k y) (stored vs k u) := by
  unfold putK stored
  rw [r.any k]
  by_cases e : (vs.any fun kv => decide (kv.1 = k)) = true
  · rw [if_pos e, if_pos e]; exact r.repl k ry
  · rw [if_neg e, if_neg e]; exact Paired.snoc r ⟨rfl, ry⟩
theorem KV.drop {kvs : List (κ × V)} {vs : List (κ × Value)} (r : KV kvs vs) (k : κ) : KV (dropK kvs k) (without vs k) := by
  unfold KV at r ⊢
  unfold dropK without
  induction r with
  | nil => exact .nil
  | @cons p q ps qs h t ih =>
    obtain ⟨h1, h2⟩ := h
    rw [List.filter_cons, List.filter_cons]
    by_cases e : p.1 = k
    · have a : ¬ decide (p.1 ≠ k) = true := by simp [e]
      have b : ¬ decide (q.1 ≠ k) = true := by simp [h1.symm.trans e]
      rw [if_neg a, if_neg b]; exact ih
    · have e' : ¬ q.1 = k := fun z => e (h1.trans z)
      have a : decide (p.1 ≠ k) = true := by simp [e]
      have b : decide (q.1 ≠ k) = true := by simp [e']
      rw [if_pos a, if_pos b]; exact .cons ⟨h1, h2⟩ ih
theorem KV.length {kvs : List (κ × V)} {vs : List (κ × Value)} (r : KV kvs vs) : kvs.length = vs.length := Paired.length r
end
theorem kV_is {P : Program} {w : World} {k : Key} {u : Value} (r : RelV (kV k) u) : (mixKind P w).is k u = true := by
  cases k with
  | inl i => obtain ⟨t, e⟩ := (show ∃ t, u = Value.int i t from r); subst e; exact mixKind_int P w i t
  | inr x => obtain ⟨t, e⟩ := (show ∃ t, u = Value.str x t from r); subst e; exact mixKind_str P w x t
theorem items_are {P : Program} {w : World} : ∀ {ks : List Key} {us : List Value}, Vals (ks.map kV) us → ItemsAre (mixKind P w) ks us
  | [], _, r => by rw [List.map_nil] at r; cases r; exact .nil
  | k :: ks, _, r => by
    rw [List.map_cons] at r
    cases r with
    | cons h t => exact .cons (kV_is h) (items_are t)
noncomputable abbrev KT (H : Hp) : List (List Key × V) → List (List Key × Addr × Value) → Prop := Paired fun p q => p.1 = q.1 ∧ H q.2.1 = some (.tup (p.1.map kV)) ∧ RelV p.2 q.2.2
theorem KT.val {H : Hp} {kvs : List (List Key × V)} {xs : List (List Key × Addr × Value)} (r : KT H kvs xs) (k : List Key) : RelO (valV kvs k) ((atKey xs k).map (·.2)) := by
  induction r with
  | nil => exact True.intro
  | @cons p q ps qs h t ih =>
    obtain ⟨h1, _, h2⟩ := h
    by_cases e : p.1 = k
    · have e' : q.1 = k := h1.symm.trans e
      have b : atKey (q :: qs) k = some q.2 := by simp [atKey, List.find?_cons, e']
      rw [valV_pos e, b]; exact h2
    · have e' : ¬ q.1 = k := fun z => e (h1.trans z)
      have b : atKey (q :: qs) k = atKey qs k := by simp [atKey, List.find?_cons, e']
      rw [valV_neg e, b]; exact ih
theorem KT.repl {H : Hp} {kvs : List (List Key × V)} {xs : List (List Key × Addr × Value)} (r : KT H kvs xs) (k : List Key) {y : V} {u : Value} (ry : RelV y u) :
    KT H (kvs.map fun kv => if kv.1 = k then (kv.1, y) else kv) (xs.map (putAt k u)) := by
  induction r with
  | nil => exact .nil
  | @cons p q ps qs h t ih =>
    rw [List.map_cons, List.map_cons]
    refine .cons ?_ ih
    obtain ⟨h1, h2, h3⟩ := h
    unfold putAt
    by_cases e : p.1 = k
    · rw [if_pos e, if_pos (h1.symm.trans e)]; exact ⟨h1, h2, ry⟩
    · rw [if_neg e, if_neg (fun z => e (h1.trans z))]; exact ⟨h1, h2, h3⟩
theorem KT.put {H : Hp} {kvs : List (List Key × V)} {xs : List (List Key × Addr × Value)} (r : KT H kvs xs) (k : List Key) {b : Addr} {y : V} {u : Value} (hb : H b = some (.tup (k.map kV))) (ry : RelV y u) :
    KT H (putK kvs k y) (storedH xs k b u) := by
  have e : (kvs.any fun kv => decide (kv.1 = k)) = (atKey xs k).isSome := by
    rw [valV_any, (r.val k).isSome_eq, Option.isSome_map]
  unfold putK storedH
  rw [e]
  by_cases q : (atKey xs k).isSome = true
  · rw [if_pos q, if_pos q]; exact r.repl k ry
  · rw [if_neg q, if_neg q]; exact Paired.snoc r ⟨rfl, hb, ry⟩
theorem KT.keeps {H H' : Hp} {kvs : List (List Key × V)} {xs : List (List Key × Addr × Value)} (r : KT H kvs xs) (ht : ∀ b ys, H b = some (.tup ys) → H' b = some (.tup ys)) : KT H' kvs xs :=
  Paired.mapP r fun _ _ z => ⟨z.1, ht _ _ z.2.1, z.2.2⟩
section
variable {P : Program} {w : World} {H : Hp} {h : Heap} {a : Addr}
theorem rd_of {u : HO} (ok : HOk P w H h) (e : Rd H a u) : ObjOk P w H h a u := e.ok ok
theorem dk_rd {kvs : List (Key × V)} (ok : HOk P w H h) (e : Rd H a (.dK kvs)) : kvs.length ≤ sizeLine ∧ (a == sysModules) = false ∧ ∃ vs, KV kvs vs ∧ h.DictOf (mixKind P w) a vs :=
  show ObjOk P w H h a (.dK kvs) from rd_of ok e
theorem dk_of {kvs : List (Key × V)} (ok : HOk P w H h) (e : H a = some (.dK kvs)) : kvs.length ≤ sizeLine ∧ (a == sysModules) = false ∧ ∃ vs, KV kvs vs ∧ h.DictOf (mixKind P w) a vs := dk_rd ok (.inl e)
theorem key_of {ks : List Key} (ok : HOk P w H h) (e : H a = some (.tup (ks.map kV))) : (tupleKind (mixKind P w)).is h ks a := by
  obtain ⟨_, its, r, o, h1, h2, n, h3⟩ := (show ObjOk P w H h a (.tup (ks.map kV)) from ok a _ e)
  exact ⟨o, its.toArray, n, h1, h2, h3, by simpa using items_are r⟩
theorem dt_rd {kvs : List (List Key × V)} (ok : HOk P w H h) (e : Rd H a (.dT kvs)) : kvs.length ≤ sizeLine ∧ (a == sysModules) = false ∧
    ∃ xs, KT H kvs xs ∧ h.DictOfH (tupleKind (mixKind P w)) a xs := by
  obtain ⟨z, y, xs, r, o, es, ep, h1, h2, h3, h4, h5⟩ := (show ObjOk P w H h a (.dT kvs) from rd_of ok e)
  refine ⟨z, y, xs, r, o, es, ep, h1, h2, h3, h4, fun x hx => ?_, h5⟩
  have all : ∀ {l : List (List Key × V)} {m : List (List Key × Addr × Value)}, KT H l m → ∀ x ∈ m, (tupleKind (mixKind P w)).is h x.1 x.2.1 := by
    intro l m q
    induction q with
    | nil => intro x hx; exact nomatch hx
    | @cons p q ps qs hq t ih =>
      intro x hx
      rcases List.mem_cons.mp hx with e | hx
      · subst e
        exact key_of ok (by rw [← hq.1]; exact hq.2.1)
      · exact ih x hx
  exact all r x hx
theorem dt_of {kvs : List (List Key × V)} (ok : HOk P w H h) (e : H a = some (.dT kvs)) : kvs.length ≤ sizeLine ∧ (a == sysModules) = false ∧
    ∃ xs, KT H kvs xs ∧ h.DictOfH (tupleKind (mixKind P w)) a xs := dt_rd ok (.inl e)
end
noncomputable def DGet (H : Hp) (a : Addr) (y : V) (r : Option V) : Prop :=
  (∃ kvs k, Rd H a (.dK kvs) ∧ y = kV k ∧ r = valV kvs k) ∨ ∃ kvs k b, Rd H a (.dT kvs) ∧ y = .ref b ∧ H b = some (.tup (k.map kV)) ∧ r = valV kvs k
noncomputable def DPut (H : Hp) (a : Addr) (y v : V) (H' : Hp) : Prop :=
  (∃ kvs k, H a = some (.dK kvs) ∧ y = kV k ∧ kvs.length < sizeLine ∧ H' = upd H a (.dK (putK kvs k v))) ∨
  ∃ kvs k b, H a = some (.dT kvs) ∧ y = .ref b ∧ H b = some (.tup (k.map kV)) ∧ kvs.length < sizeLine ∧ H' = upd H a (.dT (putK kvs k v))
theorem DGet.k {H : Hp} {a : Addr} {kvs : List (Key × V)} {k : Key} (e : H a = some (.dK kvs)) : DGet H a (kV k) (valV kvs k) := .inl ⟨kvs, k, .inl e, rfl, rfl⟩
theorem DGet.t {H : Hp} {a b : Addr} {kvs : List (List Key × V)} {k : List Key} (e : H a = some (.dT kvs)) (eb : H b = some (.tup (k.map kV))) : DGet H a (.ref b) (valV kvs k) := .inr ⟨kvs, k, b, .inl e, rfl, eb, rfl⟩
theorem DPut.k {H : Hp} {a : Addr} {kvs : List (Key × V)} {k : Key} {v : V} (e : H a = some (.dK kvs)) (hl : kvs.length < sizeLine) : DPut H a (kV k) v (upd H a (.dK (putK kvs k v))) := .inl ⟨kvs, k, e, rfl, hl, rfl⟩
theorem DPut.t {H : Hp} {a b : Addr} {kvs : List (List Key × V)} {k : List Key} {v : V} (e : H a = some (.dT kvs)) (eb : H b = some (.tup (k.map kV))) (hl : kvs.length < sizeLine) :
    DPut H a (.ref b) v (upd H a (.dT (putK kvs k v))) := .inr ⟨kvs, k, b, e, rfl, eb, hl, rfl⟩
section
variable {X : Cx} {pins : List (Addr × Obj)} {σ : St} {H : Hp} {s : Shared} {a : Addr} {y v : V} {u r : Value} {o : Option V} {A : Around} {E : Value → Shared → Prop}
theorem Inv.big (I : Inv X pins σ H s) : sysModules < s.heap.objs.size := by
  have h : mainGlobals < s.heap.objs.size := (I.mod.glob.keeps I.bk).lt
  exact Nat.lt_trans (by decide) h
theorem d_notIn {Q : Value → Shared → Prop} (hu : A.units + 1 < cLine) (I : Inv X pins σ H s) (g : DGet H a y o) (ry : RelV y u) (h : ∀ s', Inv X pins σ H s' → Q (.bool (!o.isSome)) s') :
    wpAny (model X.prog X.w) A (compareOp .NotIn u (.ref a)) Q E s := by
  rcases g with ⟨kvs, k, e, ey, l⟩ | ⟨kvs, k, b, e, ey, eb, l⟩
  · subst ey
    obtain ⟨z, hd, vs, rel, dd⟩ := dk_rd I.hok e
    refine wpAny_notIn_of (kV_is ry) hd dd.mapOf ?_
    rw [← (rel.val k).isSome_eq, ← l]
    exact h _ (I.tok _)
  · subst ey
    cases (show u = Value.ref b from ry)
    obtain ⟨z, hd, xs, rel, dd⟩ := dt_rd I.hok e
    refine wpAny_notIn_heap (tupleKind_room_in1 hu) (key_of I.hok eb) hd dd ?_
    have q := (rel.val k).isSome_eq
    rw [Option.isSome_map] at q
    rw [← q, ← l]
    exact h _ (I.tok _)
theorem d_write {h' : Heap} {t' : Nat} {ob : HO} (I : Inv X pins σ H s) (mu : Mut (H a)) (hs : Heap.SameBut a s.heap h') (he : ∃ q, h'.get? a = some q) (new : ObjOk X.prog X.w (upd H a ob) h' a ob) :
    Inv X pins σ (upd H a ob) { s with heap := h', toks := t' } :=
  I.write (x := a) (e := a) mu (.inl rfl) (fun b q hb z => (hs.2 b hb).trans z) he new
theorem dk_new {P : Program} {w : World} {H' : Hp} {h' : Heap} {kvs : List (Key × V)} {vs : List (Key × Value)} (z : kvs.length ≤ sizeLine) (hd : (a == sysModules) = false) (rel : KV kvs vs) (dd : h'.DictOf (mixKind P w) a vs) :
    ObjOk P w H' h' a (.dK kvs) := ⟨z, hd, vs, rel, dd⟩
theorem d_setItem {H' : Hp} {Q : Unit → Shared → Prop} (hu : A.units + 1 < cLine) (I : Inv X pins σ H s) (g : DPut H a y v H') (ry : RelV y u) (rv : RelV v r) (h : ∀ s', Inv X pins σ H' s' → Q () s') :
    wpAny (model X.prog X.w) A (setItem (.ref a) u r) Q E s := by
  rcases g with ⟨kvs, k, e, ey, l, eH⟩ | ⟨kvs, k, b, e, ey, eb, l, eH⟩
  · subst ey eH
    obtain ⟨z, hd, vs, rel, dd⟩ := dk_of I.hok e
    have hz : vs.length ≤ sizeLine := by rw [← rel.length]; exact z
    have hl : (putK kvs k v).length ≤ sizeLine := by have := length_putK kvs k v; omega
    refine wpAny_setItem_pairs (hsz := hz) (kV_is ry) dd fun h' dd' hs => h _ ?_
    have he : ∃ q, h'.get? a = some q := let ⟨q, _, _, hq, _⟩ := dd'; ⟨q, hq⟩
    exact d_write I (by rw [e]; exact True.intro) hs he (dk_new hl hd (rel.put k rv) dd')
  · subst ey eH
    cases (show u = Value.ref b from ry)
    obtain ⟨z, hd, xs, rel, dd⟩ := dt_of I.hok e
    have hz : xs.length ≤ sizeLine := by rw [← Paired.length rel]; exact z
    have hl : (putK kvs k v).length ≤ sizeLine := by have := length_putK kvs k v; omega
    refine wpAny_setItem_heap (hsz := hz) (tupleKind_room_in1 hu) (key_of I.hok eb) dd fun h' dd' hs => h _ ?_
    obtain ⟨q, es, ep, hq, h2, h3, h4, _, h5⟩ := dd'
    refine d_write I (by rw [e]; exact True.intro) hs ⟨q, hq⟩ ⟨hl, hd, _, (rel.put k eb rv).keeps fun c ys ec => ?_, q, es, ep, hq, h2, h3, h4, h5⟩
    rw [upd_ne (ne_of ec e (fun z => nomatch z))]
    exact ec
end
section
variable {X : Cx} {pins : List (Addr × Obj)} {σ : St} {H : Hp} {s : Shared} {a : Addr} {kvs : List (Key × V)} {k : Key} {u : Value} {A : Around} {E : Value → Shared → Prop}
end
noncomputable def tDGet (td ty : TE) : TE := fun σ H Q => td σ H fun x H1 => ty σ H1 fun y H2 => ∃ a v, x = .ref a ∧ DGet H2 a y (some v) ∧ Q v H2
noncomputable def sDPut (td ty tv : TE) : TS := fun D σ H => tv σ H fun v H1 => td σ H1 fun x H2 => ty σ H2 fun y H3 => ∃ a H4, x = .ref a ∧ DPut H3 a y v H4 ∧ D.nx σ H4
section
variable {X : Cx} {o i e value : Expr} {pos pos' tpos : Pos} {td ty tv : TE}
theorem ps_dput (hu : X.A.units + 1 < cLine) (ho : PE X o td) (hi : PE X i ty) (hv : PE X value tv) (hs : swapsWith value (some (.Subscript o i pos')) pos.line X.env = pure false) :
    PS X (.Assign [.Subscript o i pos'] value pos) (sDPut td ty tv) := by
  intro pins s σ H D I h
  refine wpAny_Assign_Subscript (thn (hv pins s σ H _ I h) fun r s1 ⟨v, H1, I1, rv, q1⟩ => thn (ho pins s1 σ H1 _ I1 q1) fun u s2 ⟨x, H2, I2, rx, q2⟩ => thn (hi pins s2 σ H2 _ I2 q2) fun iv s3 ⟨y, H3, I3, ry, a, H4, ex, g, q3⟩ => ?_) hs
  subst ex
  obtain rfl : u = Value.ref a := rx
  exact d_setItem hu I3 g ry rv fun s4 I4 => ⟨σ, H4, I4, q3⟩
end
theorem dk_empty {P : Program} {w : World} {H : Hp} (h : Heap) (hb : sysModules < h.objs.size) : ObjOk P w H (h.push { cls := .type "dict", data := .dict #[] }) h.objs.size (.dK []) :=
  ⟨Nat.zero_le _, beq_eq_false_iff_ne.mpr (Ne.symm (Nat.ne_of_lt hb)), [], .nil, Heap.DictOf.new h⟩
theorem dt_empty {P : Program} {w : World} {H : Hp} (h : Heap) (hb : sysModules < h.objs.size) : ObjOk P w H (h.push { cls := .type "dict", data := .dict #[] }) h.objs.size (.dT []) :=
  ⟨Nat.zero_le _, beq_eq_false_iff_ne.mpr (Ne.symm (Nat.ne_of_lt hb)), [], .nil, _, #[], 0, Heap.get?_push_size _ rfl, ⟨rfl, rfl, rfl⟩, rfl, rfl, List.nodup_nil⟩
noncomputable def tDNewK : TE := fun _ H Q => ∀ p, H p = none → Q (.ref p) (upd H p (.dK []))
noncomputable def tDNewT : TE := fun _ H Q => ∀ p, H p = none → Q (.ref p) (upd H p (.dT []))
section
variable {X : Cx} {pos : Pos}
theorem pe_dnewK : PE X (.Dict [] [] pos) tDNewK := fun pins s σ H Q I h =>
  wpAny_Dict_empty ⟨.ref s.heap.objs.size, _, I.laid (a := s.heap.objs.size) (o := .dK []) (t' := s.toks) (fun _ _ q => Heap.get?_push_of_some _ q) (Nat.le_refl _) (dk_empty s.heap I.big), rfl, h _ (I.hok.fresh (Nat.le_refl _))⟩
theorem pe_dnewT : PE X (.Dict [] [] pos) tDNewT := fun pins s σ H Q I h =>
  wpAny_Dict_empty ⟨.ref s.heap.objs.size, _, I.laid (a := s.heap.objs.size) (o := .dT []) (t' := s.toks) (fun _ _ q => Heap.get?_push_of_some _ q) (Nat.le_refl _) (dt_empty s.heap I.big), rfl, h _ (I.hok.fresh (Nat.le_refl _))⟩
end
noncomputable def tPairs : List (TE × TE) → St → Hp → (List (V × V) → Hp → Prop) → Prop
  | [], _, H, Q => Q [] H
  | (tk, tv) :: r, σ, H, Q => tk σ H fun x H1 => tv σ H1 fun y H2 => tPairs r σ H2 fun ps H3 => Q ((x, y) :: ps) H3
noncomputable def mergeK (kvs more : List (Key × V)) : List (Key × V) := more.foldl (fun acc kv => putK acc kv.1 kv.2) kvs
noncomputable def tDisp (trs : List (TE × TE)) : TE := fun σ H Q => ∀ p, H p = none → tPairs trs σ (upd H p (.dK [])) fun ps H2 => H2 p = some (.dK []) ∧ ∃ kvs : List (Key × V), ps = kvs.map (fun kv => (kV kv.1, kv.2)) ∧ kvs.length ≤ 15 ∧ Q (.ref p) (upd H2 p (.dK (mergeK [] kvs)))
noncomputable def IsD (H : Hp) (a : Addr) : Prop := (∃ kvs, Rd H a (.dK kvs)) ∨ ∃ kvs, Rd H a (.dT kvs)
section
variable {X : Cx} {pins : List (Addr × Obj)} {σ : St} {H : Hp} {s : Shared} {a : Addr} {y d : V} {u r : Value} {o : Option V} {A : Around} {E : Value → Shared → Prop}
end
noncomputable def tDGet2 (td ty tx : TE) : TE := fun σ H Q => td σ H fun x H1 => ∃ a, x = .ref a ∧ IsD H1 a ∧ ty σ H1 fun y H2 => tx σ H2 fun z H3 => ∃ o, DGet H3 a y o ∧ Q (o.getD z) H3
section
variable {X : Cx} {o e f : Expr} {apos cpos : Pos} {td ty tx : TE}
end
section
variable {X : Cx} {pins : List (Addr × Obj)} {σ : St} {H : Hp} {s : Shared} {a : Addr} {kvs : List (Key × V)} {A : Around} {E : Value → Shared → Prop}
end
section
variable {X : Cx} {pins : List (Addr × Obj)} {σ : St} {H : Hp} {s : Shared} {a : Addr} {y : V} {u : Value} {A : Around} {E : Value → Shared → Prop}
end
end L2
namespace Att
open PySem PySem.W PySem.Calls PyProof.Rows
theorem ints_of_wellAll {P : Params} {h : Heap} : ∀ (ns : List Int) (vs : List Value), WellAll P h vs (ns.map WData.int) → IntsAre vs ns := by
  intro ns
  induction ns with
  | nil =>
    intro vs w
    rw [List.map_nil] at w
    cases w
    exact .nil
  | cons n ns ih =>
    intro vs w
    rw [List.map_cons] at w
    cases w with
    | cons a b =>
      cases a
      exact .cons _ _ (ih _ b)
theorem script_of {l : OpenLaw} {n : Nat} (hn : l.most = some n) {P : Params} {h : Heap} {args : List WData} {vals : List Value}
    (hpre : l.row.toRowW.claim.pre args = true) (hwl : WellAll P h vals args) :
    ∃ a vs ns, vals = [Value.ref a] ∧ args = [WData.list (ns.map WData.int)] ∧ h.get? a = some { cls := .type "list", data := .seq vs.toArray } ∧ IntsAre vs ns ∧ ns.length ≤ n := by
  have hsh : WShape.hasAll [] args [.list .int] = true := (pre_splitW hpre).1
  have hc : l.pre.holds [] { args := args } = true := (pre_splitW hpre).2
  obtain ⟨d, r, rfl, h1, h2⟩ := hasAllW_cons hsh
  obtain rfl := hasAllW_nil h2
  obtain ⟨xs, rfl, h3⟩ := hasW_list h1
  obtain ⟨ns, rfl⟩ := items_int h3
  have hlen : ns.length ≤ n := by
    unfold OpenLaw.pre at hc
    have h4 : (WTm.not (.lt (.lit (.int (n : Int))) (.len (.arg 0)))).holds [] { args := [.list (ns.map .int)] } = true := by
      have h4 := (holds_andW hc).1
      rw [hn] at h4
      exact h4
    have h5 := condW_of h4 (w_not (w_lt w_lit (w_len_list (w_arg rfl))))
    rw [List.length_map] at h5
    refine Nat.le_of_not_lt fun q => ?_
    have q' : (n : Int) < ((ns.length : Nat) : Int) := by omega
    first
      | (rw [decide_eq_true q'] at h5; exact absurd h5 (by decide))
      | (simp at h5; omega)
  cases hwl with
  | cons w1 w2 =>
    cases w2
    cases w1 with
    | list ho hall => exact ⟨_, _, ns, rfl, rfl, ho, ints_of_wellAll ns _ hall, hlen⟩
theorem post_true (l : OpenLaw) (args : List WData) : l.row.toRowW.claim.post args (.bool true) args = true :=
  postW_of (r := l.row.toRowW) (X := (true == true))
    (show WShape.has [] (.bool true) .bool = true by first | rfl | decide | simp [WShape.has, WShape.arms, WShape.armsAll])
    (show (WTm.eq .res (.lit (.bool true))).value [] { args := args, res := some (.bool true), after := args } = some (.bool (true == true)) from w_eq_bool (w_res rfl) w_lit) rfl
theorem attach_call {l : OpenLaw} {n : Nat} {q : Program} {loose : List Str} {XP : (Str → Option Value) → Heap → Prop} {YP : World → Heap → Prop} {d : DefRec}
    (hn : l.most = some n) (hdf : d.params.defaults = [])
    (call : ∀ (w : World) (s₀ s₁ : Shared) (mg mb : Str → Option Value) (fa : Addr) (o : Obj) (pm cd doc : Value) (a : Addr) (vs : List Value) (ns : List Int),
      Ground q loose [] XP w s₀ mg mb s₁.heap → YP w s₁.heap →
      s₁.heap.get? fa = some o → o.data = .func (docDef d.name d.params d.body d.scope pm cd doc) → s₁.heap.CodeRec cd d.name → mg d.name = some (.ref fa) →
      s₁.heap.get? a = some { cls := .type "list", data := .seq vs.toArray } → IntsAre vs ns → ns.length ≤ n → s₁.gens = #[] →
      codeAny (model l.prog w) callerA (.call (.ref fa) ⟨[.ref a], []⟩) (fun r s' => r = .ok (.ret (.bool true)) ∧ OldK s₁.heap s'.heap ∧ s'.os = s₁.os ∧ AllBare s'.gens) s₁) :
    WalkO q loose XP YP l.row.toRowW d [] (fun f vs => PySem.call f vs) := by
  intro w s₀ s₁ mg mb G Y fa o pm cd doc dV kV ho hd hcd hD hmg hg args vals as hpre hlay hrd hwl hlo
  obtain rfl : dV = .none := Dflts.none hD hdf
  obtain rfl : kV = .none := Dflts.noKw hD
  obtain ⟨a, vs, ns, rfl, rfl, hobj, hints, hlen⟩ := script_of hn hpre hwl
  refine enter_call (codeAny_mono (call w s₀ s₁ mg mb fa o pm cd doc a vs ns G Y ho (fd_plain hd) hcd hmg hobj hints hlen hg) fun r s' hq => ?_)
  obtain ⟨rfl, h2, h3, h4⟩ := hq
  exact ⟨.inl ⟨.bool true, .bool true, [], rfl, fun _ => rfl, .bool true, post_true l _, fun _ => ⟨List.Pairwise.nil, fun _ hm => (nomatch hm)⟩⟩, h2, h3, h4⟩
section
variable {prog : Program} {w : World} {A : Around} {E : Value → Shared → Prop} {s : Shared} {K : Frag}
end
end Att
namespace L2
open PySem PySem.Spec PyProof.Rows
theorem vals_ints : ∀ {vs : List Value} {ns : List Int}, IntsAre vs ns → Vals (ns.map V.int) vs
  | _, _, .nil => .nil
  | _, _, .cons n t h => .cons ⟨t, rfl⟩ (vals_ints h)
noncomputable def Only (H : Hp) : Prop := ∀ b, H b = none ∨ ∃ o xs, H b = some (.frz o (.lst xs))
theorem law_call {P : Program} {w : World} {K : PySem.W.Frag} {mg mb : Str → Option Value} {CX : CXT} {k : Nat} {fa a : Addr} {fd : FuncData} {x : Str} {sp : Sp} {s₁ : Shared} {vs : List Value} {ns : List Int}
    (KX : K.In s₁.heap) (hns : s₁.heap.Ns mainGlobals mg) (hb : s₁.heap.Ns builtinsNs mb) (hbb : ∀ x : Str, x ≠ "__name__" → mb x = bootBuiltins x) (hlim : s₁.heap.NoLimit) (hg : s₁.gens = #[])
    (ha : s₁.heap.get? a = some { cls := .type "list", data := .seq vs.toArray }) (hi : IntsAre vs ns) (hl : ns.length ≤ sizeLine) (hr : Room k callerA)
    (F : ∀ base : Heap, K.In base → base.Ns mainGlobals mg → FnOk P w K mg base CX k fa fd [x] sp) (hbind : ∀ (s : Shared) (u : Value), BindsTo s fd ⟨[u], []⟩ [(x, u)])
    (hsp : ∀ H : Hp, Only H → SqL K H a (ns.map V.int) → sp [.ref a] H (fun v _ => v = .bl true) fun _ _ _ => False)
    (hCX : ∀ H e s', CX [] H s₁ (fun _ _ _ => False) e s' → False) :
    codeAny (model P w) callerA (.call (.ref fa) ⟨[.ref a], []⟩) (fun r s' => r = .ok (.ret (.bool true)) ∧ OldK s₁.heap s'.heap ∧ s'.os = s₁.os ∧ AllBare s'.gens) s₁ := by
  have rv := vals_ints hi
  have lenV := hi.length
  have core : ∀ H : Hp, Only H → SqL K H a (ns.map V.int) → HOk P w H s₁.heap → (∀ b, H b ≠ none → b = a) → (H a ≠ none → K.lookup a = none) →
      codeAny (model P w) callerA (.call (.ref fa) ⟨[.ref a], []⟩) (fun r s' => r = .ok (.ret (.bool true)) ∧ OldK s₁.heap s'.heap ∧ s'.os = s₁.os ∧ AllBare s'.gens) s₁ := by
    intro H hO hS hok hA hK
    have base_of : ∀ {b : Addr} {o : Obj}, s₁.heap.get? b = some o → H b = none → (hidT s₁.heap H).get? b = some o := fun e n => hidT_get e n
    have noA : ∀ {b : Addr} {o : Obj} {es : Array DictEntry} {ep : Nat}, s₁.heap.get? b = some o → o.data = .dict es ep → H b = none := fun {b o es ep} e d => by
      cases q : H b with
      | none => rfl
      | some u =>
        have e' : b = a := hA b (by rw [q]; simp)
        subst e'
        rw [ha] at e; cases e
        have d' : Data.seq vs.toArray _ = Data.dict es ep := d
        cases d'
    have nsK : ∀ {b : Addr} {m : Str → Option Value}, s₁.heap.Ns b m → (hidT s₁.heap H).Ns b m := fun {b m} ⟨o, es, ep, e, d, r⟩ => ⟨o, es, ep, base_of e (noA e d), d, r⟩
    have hKb : K.In (hidT s₁.heap H) := fun b o e => base_of (KX b o e) (by
      cases q : H b with
      | none => rfl
      | some u =>
        have e' : b = a := hA b (by rw [q]; simp)
        subst e'
        rw [hK (by rw [q]; simp)] at e; cases e)
    have hM : Mod K mg (hidT s₁.heap H) := ⟨hKb, nsK hns, ⟨mb, nsK hb, hbb⟩, let ⟨mc, h1, h2⟩ := hlim; ⟨mc, nsK h1, h2⟩⟩
    have e0 : Env0 P w K mg (hidT s₁.heap H) callerA [] s₁ H := ⟨rfl, hM, fun b o e => of_hidT e, Nat.le_of_eq (hidT_size _ _), trivial, fun b hb => absurd (show b ∈ ([] : List Addr) from hb) (by simp), hok, .of_eq hg⟩
    refine codeAny_mono ((F _ hKb (nsK hns)).run callerA [] s₁ H ⟨[.ref a], []⟩ [.ref a] [.ref a] _ _ hr e0 (hbind s₁ (.ref a)) (.cons rfl .nil) (hsp H hO hS)) fun r s' h => ?_
    cases r with
    | error e => exact (hCX H e s' h).elim
    | ok fl =>
      cases fl with
      | next => exact False.elim h
      | brk => exact False.elim h
      | cont => exact False.elim h
      | ret u =>
        obtain ⟨v, H', os, bare, un, hok', r', q⟩ := h
        have q' : v = .bl true := q
        subst q'
        obtain rfl : u = Value.bool true := r'
        refine ⟨rfl, OldK.of_keep fun b o e => ?_, os, bare⟩
        cases q : H b with
        | none => exact un.keep b o e q (by intro z; exact absurd (show b ∈ ([] : List Addr) from z) (by simp)) (by simp)
        | some u =>
          rcases hO b with z | ⟨ob, xs, z⟩
          · rw [q] at z; cases z
          · have z2 := un.frzs b ob _ z
            obtain ⟨e1, _⟩ := hok b _ z
            obtain ⟨e2, _⟩ := hok' b _ z2
            rw [e] at e1; cases e1
            exact e2
  cases hk : K.lookup a with
  | some o =>
    have e := KX a o hk
    rw [ha] at e
    cases e
    refine core (fun _ => none) (fun _ => .inl rfl) (.inr ⟨_, vs.toArray, _, hk, rfl, rfl, rfl, by rw [List.size_toArray, lenV]; exact hl, by simpa using rv⟩) (fun b u z => by have z' : (none : Option HO) = some u := z; cases z') (fun b z => absurd rfl z) fun z => absurd rfl z
  | none =>
    refine core (fun b => if b = a then some (.frz { cls := .type "list", data := .seq vs.toArray } (.lst (ns.map V.int))) else none) (fun b => ?_) (.inl (.inr ⟨{ cls := .type "list", data := .seq vs.toArray }, if_pos rfl⟩)) (fun b u z => ?_) (fun b z => ?_) fun _ => hk
    · by_cases hb : b = a
      · exact .inr ⟨_, _, if_pos hb⟩
      · exact .inl (if_neg hb)
    · by_cases hb : b = a
      · have z' := (if_pos hb).symm.trans z
        cases z'
        subst hb
        exact ⟨ha, by rw [List.length_map]; exact hl, vs, _, rv, ha⟩
      · have z' := (if_neg hb).symm.trans z
        cases z'
    · by_cases hb : b = a
      · exact hb
      · exact absurd (if_neg hb) z
end L2
namespace L2
open PySem PySem.Spec PyProof.Rows
noncomputable abbrev KOf {K : PySem.W.Frag} {h : Heap} (_ : K.In h) : PySem.W.Frag := K
theorem walk_of {l : PySem.W.OpenLaw} {n k : Nat} {q : Program} {loose : List Str} {XP : (Str → Option Value) → Heap → Prop} {YP : World → Heap → Prop} {d : DefRec} {K : Params → PySem.W.Frag} {CX : World → CXT} {sp : World → Sp} {x : Str}
    (hn : l.most = some n) (hn2 : n ≤ sizeLine) (hdf : d.params.defaults = []) (hr : Room k callerA)
    (hY : ∀ (w : World) (h : Heap), YP w h → (K w.params).In h)
    (F : ∀ (w : World) (mg : Str → Option Value) (fa : Addr) (h : Heap), (K w.params).In h → h.Ns mainGlobals mg → mg d.name = some (.ref fa) →
      ∃ fd : FuncData, (∀ (s : Shared) (u : Value), BindsTo s fd ⟨[u], []⟩ [(x, u)]) ∧
        ∀ base : Heap, (K w.params).In base → base.Ns mainGlobals mg → FnOk l.prog w (K w.params) mg base (CX w) k fa fd [x] (sp w))
    (hsp : ∀ (w : World) (H : Hp) (a : Addr) (ns : List Int), ns.length ≤ n → Only H → SqL (K w.params) H a (ns.map V.int) → sp w [.ref a] H (fun v _ => v = .bl true) fun _ _ _ => False)
    (hCX : ∀ (w : World) (H : Hp) (s : Shared) (e : Value) (s' : Shared), CX w [] H s (fun _ _ _ => False) e s' → False) :
    PySem.W.WalkO q loose XP YP l.row.toRowW d [] (fun f vs => PySem.call f vs) := by
  refine Att.attach_call hn hdf fun w s₀ s₁ mg mb fa o pm cd doc a vs ns G Y ho hd hcd hmg hobj hints hlen hg => ?_
  have KX := hY w _ Y
  obtain ⟨fd, hb, hF⟩ := F w mg fa _ KX G.T.g hmg
  exact law_call KX G.T.g G.T.b G.T.builtins G.T.nolimit hg hobj hints (Nat.le_trans hlen hn2) hr hF hb (fun H hO hS => hsp w H a ns hlen hO hS) fun H e s' => hCX w H s₁ e s'
end L2
namespace L2
open PySem PySem.Spec PyProof.Rows
noncomputable def inClass (s : Stmt) (j : Nat) : Stmt := match s with
  | .ClassDef _ _ _ body _ _ _ _ _ _ _ => body.getD j (.Pass ⟨0, 0, 0, 0⟩)
  | _ => .Pass ⟨0, 0, 0, 0⟩
noncomputable def defArgs (s : Stmt) : Arguments := match s with
  | .FunctionDef _ a _ _ _ _ _ _ _ _ => a
  | _ => { posonlyargs := [], args := [], vararg := none, kwonlyargs := [], kw_defaults := [], kwarg := none, defaults := [] }
noncomputable def defBody (s : Stmt) : List Stmt := match s with
  | .FunctionDef _ _ b _ _ _ _ _ _ _ => b
  | _ => []
noncomputable def defScope (s : Stmt) : Scope := match s with
  | .FunctionDef _ _ _ _ _ _ sc _ _ _ => sc
  | _ => { kind := .function, names := [], isGenerator := false, isCoroutine := false }
noncomputable abbrev CX0 : CXT := fun _ _ _ _ _ _ => False
noncomputable abbrev E0 : XK := fun _ _ _ => False
theorem pass0 {X : Cx} : Passes CX0 X E0 := fun _ _ _ _ _ _ _ h => h.elim
structure Fun (K : PySem.W.Frag) (x qual : Str) (st : Stmt) (f : Addr) (fd : FuncData) : Prop where
  ex : ∃ (oc : Value) (od : Option Addr) (kV doc pm : Value) (an : Option Addr) (cdv ct : Value) (osl : Array (Option Value)),
    fd = PySem.W.fnOf x qual (defArgs st) (defBody st) (defScope st) .none kV doc pm an cdv ct ∧ K.lookup f = some ⟨oc, od, .func fd, osl⟩ ∧ PySem.W.codeIn K cdv qual = true
  kp : PySem.W.keepIn K (.ref f) = true
section
variable {P : Program} {w : World} {K : PySem.W.Frag} {mg : Str → Option Value} {base : Heap}
theorem Fun.ok {x qual : Str} {st : Stmt} {f : Addr} {fd : FuncData} {N ps : List Str} {k : Nat} {sp : Sp} (F : Fun K x qual st f fd) (S : FnScope N ps (defScope st)) (len : ∀ vs H Q E, sp vs H Q E → vs.length = ps.length)
    (hbody : ∀ (cdv : Value) (A : Around) (outer : List Env) (s : Shared) (H : Hp) (vs : List V) (Q : VK) (E : XK), Room k (A.deeper (envOfC qual (defScope st) s.heap.objs.size f cdv)) → sp vs H Q E →
      ∃ t, PSs (cxOf CX0 P w K mg base N qual (defScope st) f cdv A outer s H E).nox (defBody st) t ∧ t { nx := fun _ H' => Q .non H', rt := Q } (start N vs) H) : FnOk P w K mg base CX0 (k + 1) f fd ps sp := by
  obtain ⟨oc, od, kV, doc, pm, an, cdv, ct, osl, rfl, lk, hcd⟩ := F.ex
  refine fn_of lk hcd S len fun A outer s H vs Q E hr hsp => ?_
  obtain ⟨t, h, q⟩ := hbody cdv A outer s H vs Q E hr hsp
  exact ⟨t, h.nox, q⟩
theorem Fun.binds {x qual : Str} {st : Stmt} {f : Addr} {fd : FuncData} {ps : List Str} (F : Fun K x qual st f fd)
    (h : ∀ (kV doc pm : Value) (an : Option Addr) (cdv ct : Value) (us : List Value), us.length = ps.length → bindArgs (PySem.W.fnOf x qual (defArgs st) (defBody st) (defScope st) .none kV doc pm an cdv ct) ⟨us, []⟩ = pure (ps.zip us)) : Binds K fd ps [] := by
  obtain ⟨oc, od, kV, doc, pm, an, cdv, ct, osl, rfl, lk, hcd⟩ := F.ex
  exact .all (h kV doc pm an cdv ct)
theorem fun_mk {x qual : Str} {st : Stmt} {f : Addr} {oc : Value} {od an : Option Addr} {osl : Array (Option Value)} {kV doc pm cdv ct : Value} (l : K.lookup f = some ⟨oc, od, .func (PySem.W.fnOf x qual (defArgs st) (defBody st) (defScope st) .none kV doc pm an cdv ct), osl⟩)
    (c : PySem.W.codeIn K cdv qual = true) (k : PySem.W.keepIn K (.ref f) = true) : Fun K x qual st f (PySem.W.fnOf x qual (defArgs st) (defBody st) (defScope st) .none kV doc pm an cdv ct) := ⟨⟨oc, od, kV, doc, pm, an, cdv, ct, osl, rfl, l, c⟩, k⟩
end
theorem hu_of {A : Around} {k : Nat} (hr : Room k A) : A.units + 1 < cLine := Nat.lt_of_le_of_lt (Nat.add_le_add_left (by decide : 1 ≤ 64) _) hr.units
section
variable {X : Cx}
end
theorem iteF {A B : Prop} (h : B) : if false = true then A else B := by
  rw [if_neg Bool.false_ne_true]
  exact h
theorem iteT {A B : Prop} (h : A) : if true = true then A else B := by
  rw [if_pos rfl]
  exact h
noncomputable def Same (H H' : Hp) : Prop := ∀ b o, H b = some o → H' b = some o
theorem Same.refl (H : Hp) : Same H H := fun _ _ h => h
theorem Same.trans {H H1 H2 : Hp} (a : Same H H1) (b : Same H1 H2) : Same H H2 := fun c o h => b c o (a c o h)
theorem Same.free {H H' : Hp} (e : Same H H') {l : Addr} (h : H' l = Option.none) : H l = Option.none := by
  cases q : H l with
  | none => rfl
  | some o =>
    rw [e l o q] at h
    cases h
theorem Same.seq {K : PySem.W.Frag} {H H' : Hp} {a : Addr} {xs : List V} (e : Same H H') (h : SqL K H a xs) : SqL K H' a xs := by
  rcases h with (h | ⟨o, h⟩) | h
  · exact .inl (.inl (e _ _ h))
  · exact .inl (.inr ⟨o, e _ _ h⟩)
  · exact .inr h
section
variable {X : Cx}
end
section
variable {κ : Type} [DecidableEq κ]
end
end L2
set_option Elab.async false
set_option linter.all false
set_option maxRecDepth 100000
set_option maxHeartbeats 4000000
namespace My
open PySem PySem.W PySem.Calls PyProof.Rows
theorem top_of_seg {tb : String → Option Builtin} {p : Program} {w : World} {n₀ : Nat} {ann : Option Value} : ∀ {n : Nat} {s s' : Shared} {t : Thread} {f : Flow} {c : Code} {q : Pos}, segRun tb p w n₀ ann 0 n s t = some (f, s', c, q) → topRun tb p w n₀ ann n s t = some s'
  | 0, _, _, _, _, _, _, h => by cases h
  | n + 1, s, s', t, f, c, q, h => by
    unfold segRun at h
    unfold topRun
    cases he : endAt 0 t with
    | some x =>
      rw [he] at h
      cases h
      have : through t = true := by
        unfold endAt at he
        unfold through
        obtain ⟨cur, code, pos, st⟩ := t
        cases st with
        | nil => split at he <;> simp_all
        | cons a b => simp at he
      rw [this]
    | none =>
      have : through t = false := by
        unfold endAt at he
        unfold through
        obtain ⟨cur, code, pos, st⟩ := t
        cases st with
        | nil =>
          dsimp only at he ⊢
          split at he
          · cases he
          · rename_i h1
            simp only [List.isEmpty_nil, Bool.true_and]
            split
            · exact (h1 _ rfl rfl).elim
            · rfl
        | cons a b => rfl
      rw [he] at h
      rw [this]
      cases hk : stepOk n₀ ann t with
      | false => rw [hk] at h; cases h
      | true =>
        rw [hk] at h
        cases hs : step (denote tb) p w s t with
        | halt o x => rw [hs] at h; cases h
        | go s₂ t₂ => rw [hs] at h; exact top_of_seg h
noncomputable def bootT (P : Params) : BT := .node (boot_o_0 P) (.node (boot_o_1 P) (.node (boot_o_3 P) (.node (boot_o_7 P) .nil .nil) .nil) (.node (boot_o_5 P) (.node (boot_o_9 P) .nil .nil) .nil)) (.node (boot_o_2 P) (.node (boot_o_4 P) (.node (boot_o_8 P) .nil .nil) .nil) (.node (boot_o_6 P) (.node (boot_o_10 P) .nil .nil) .nil))
theorem boot_abs (P : Params) : absHeap (bootT P) 11 {} = boot_heap P := by kernel_rfl
noncomputable def bootS (w : World) (os : OsState) : SharedT := ⟨bootT w.params, 11, {}, #[], boot_drawn, boot_toks, os⟩
noncomputable def looks {α : Type} (p q : Program) (loose : List Str) (Xt : Shared → Bool) (Yf : Shared → α) (g0 : Bool) (h₀ : Heap) (s : Shared) :=
  ((staticsOk (importedModules p.main.body) h₀ s.heap && namesBound p s.heap && gensDone s && laidKept h₀ s.heap), openSeen q loose (importedModules p.main.body) Xt g0 s, Yf s)
theorem left_of {p q : Program} {loose : List Str} {Xt : Shared → Bool} {α : Type} {Yf : Shared → α} {Ya : World → α} {N M : Nat} {g0 : Bool}
    (e : opening p = plainProg p.main.scope.names) (hN : Nat.ble 600 N = true) (f : ∀ s, fenceModules? p s = some s)
    (size : ∀ w : World, ((boot_heap w.params).isNs mainGlobals, (boot_heap w.params).nsMap mainGlobals "__annotations__") = (true, some (.ref 6)))
    (le : Nat.ble M N = true)
    (run : ∀ w : World, (fun os => (segRunT treeTable p w 11 (some (.ref 6)) 0 M (bootS w os) (topStub p)).map fun r => looks p q loose Xt Yf g0 (boot_heap w.params) r.2.1.abs) = fun _ => some (true, openGood q loose, Ya w)) :
    LeftO p q loose Xt Yf Ya N g0 := fun w => by
  obtain ⟨⟨h, gs, d, k, os⟩, e1, e2⟩ := Option.map_eq_some_iff.mp (boot_open e hN f w)
  obtain ⟨rfl, rfl, rfl, rfl⟩ : h = boot_heap w.params ∧ gs = #[] ∧ d = boot_drawn ∧ k = boot_toks := by simpa using e2
  obtain ⟨z1, z3⟩ : _ ∧ _ := by simpa only [Prod.mk.injEq] using size w
  obtain ⟨⟨fl, s, c, ps⟩, r1, r2⟩ := Option.map_eq_some_iff.mp (congrFun (run w) os)
  obtain ⟨l1, l2, l3⟩ : _ ∧ _ ∧ _ := by simpa only [looks, Prod.mk.injEq] using r2
  have r := topRun_mono (N - M) _ _ _ _ (top_of_seg (segRun_of r1))
  rw [show M + (N - M) = N by have := Nat.le_of_ble_eq_true le; omega] at r
  have t : topFrom treeTable p w N ⟨boot_heap w.params, #[], boot_drawn, boot_toks, os⟩ = some s.abs := by
    unfold topFrom
    dsimp only
    rw [z1]
    show (topRun treeTable p w 11 _ N ⟨boot_heap w.params, #[], boot_drawn, boot_toks, os⟩ (topStub p)).bind _ = _
    rw [z3]
    have r' : topRun treeTable p w 11 (some (.ref 6)) N ⟨boot_heap w.params, #[], boot_drawn, boot_toks, os⟩ (topStub p) = some s.abs := by
      rw [← boot_abs]; exact r
    rw [r']
    show (match staticsOk (importedModules p.main.body) (boot_heap w.params) s.abs.heap && namesBound p s.abs.heap && gensDone s.abs && laidKept (boot_heap w.params) s.abs.heap with | true => some s.abs | false => none) = some s.abs
    rw [l1]
  unfold openEnds
  rw [e1]
  show ((topFrom treeTable p w N ⟨boot_heap w.params, #[], boot_drawn, boot_toks, os⟩).map _) = _
  rw [t]
  exact congrArg some (by dsimp only; rw [l2, l3])
theorem boot_size (w : World) : ((boot_heap w.params).isNs mainGlobals, (boot_heap w.params).nsMap mainGlobals "__annotations__") = (true, some (.ref 6)) := by kernel_rfl
end My
lay_quick PySem.W.topStub PySem.W.openGood PySem.W.SharedT.abs PySem.W.xlAt PySem.W.recOk PySem.W.view My.looks
set_option Elab.async false
set_option linter.all false
set_option maxRecDepth 100000
set_option maxHeartbeats 4000000
namespace L2
open PySem PySem.Spec PyProof.Rows
noncomputable def clOf (env : Env) : List (Str × NameKind) → List (Str × Addr) → List (Str × Addr)
  | [], acc => acc
  | (n, k) :: r, acc => if k = .free then clOf env r ((n, (env.cells.lookup n).getD 0) :: acc) else clOf env r acc
theorem forIn_cl {env : Env} (f : (Str × NameKind) → List (Str × Addr) → Sem (ForInStep (List (Str × Addr))))
    (h1 : ∀ n r c, env.cells.lookup n = some c → f (n, .free) r = pure (.yield ((n, c) :: r))) (h2 : ∀ n k r, k ≠ .free → f (n, k) r = pure (.yield r)) :
    ∀ (l : List (Str × NameKind)) (acc : List (Str × Addr)), (∀ y ∈ l, y.2 = .free → ∃ c, env.cells.lookup y.1 = some c) → forIn l acc f = pure (clOf env l acc)
  | [], acc, _ => by rw [List.forIn_nil]; rfl
  | (n, k) :: r, acc, h => by
    have hr : ∀ y ∈ r, y.2 = .free → ∃ c, env.cells.lookup y.1 = some c := fun y hy => h y (List.mem_cons_of_mem _ hy)
    rw [List.forIn_cons]
    by_cases hk : k = .free
    · subst hk
      obtain ⟨c, hc⟩ := h _ List.mem_cons_self rfl
      have hc : env.cells.lookup n = some c := hc
      rw [h1 n acc c hc]
      have ih := forIn_cl f h1 h2 r ((n, c) :: acc) hr
      show (forIn r ((n, c) :: acc) f) = _
      rw [ih]
      unfold clOf
      rw [if_pos rfl, hc]
      rw [← clOf.eq_def]
      rfl
    · rw [h2 n k acc hk]
      have ih := forIn_cl f h1 h2 r acc hr
      show (forIn r acc f) = _
      rw [ih]
      conv => rhs; unfold clOf
      rw [if_neg hk]
theorem closure_of {scope : Scope} {env : Env} (h : ∀ y ∈ scope.names, y.2 = .free → ∃ c, env.cells.lookup y.1 = some c) : closureFor scope env = pure (clOf env scope.names []) := by
  unfold closureFor
  have e := forIn_cl (env := env) (fun x r => if x.2 == NameKind.free then do let c ← cellOf env x.1; pure (ForInStep.yield ((x.1, c) :: r)) else pure (ForInStep.yield r))
    (fun n r c hc => by
      have e : cellOf env n = pure c := by unfold cellOf; rw [hc]
      show (if (NameKind.free == NameKind.free) = true then _ else _) = _
      rw [if_pos (by decide), e]
      rfl)
    (fun n k r hk => by
      show (if (k == NameKind.free) = true then _ else _) = _
      rw [if_neg (by intro z; exact hk (eq_of_beq z))]) scope.names [] h
  exact (congrArg (fun m => m >>= fun cs => (pure cs : Sem (List (Str × Addr)))) e)
theorem clOf_mem {env : Env} : ∀ (l : List (Str × NameKind)) (acc : List (Str × Addr)) (y : Str) (c : Addr), (∀ y ∈ l, y.2 = .free → ∃ c, env.cells.lookup y.1 = some c) → (∀ y c, acc.lookup y = some c → env.cells.lookup y = some c) →
    (clOf env l acc).lookup y = some c → env.cells.lookup y = some c
  | [], acc, y, c, _, ha, e => ha y c e
  | (n, k) :: r, acc, y, c, h, ha, e => by
    have hr : ∀ y ∈ r, y.2 = .free → ∃ c, env.cells.lookup y.1 = some c := fun y hy => h y (List.mem_cons_of_mem _ hy)
    unfold clOf at e
    by_cases hk : k = .free
    · rw [if_pos hk] at e
      refine clOf_mem r _ y c hr (fun z d q => ?_) e
      rw [List.lookup_cons] at q
      cases hz : z == n with
      | true =>
        rw [hz] at q
        have q' : (env.cells.lookup n).getD 0 = d := Option.some.inj q
        obtain ⟨c', hc'⟩ := h _ List.mem_cons_self hk
        have hc' : env.cells.lookup n = some c' := hc'
        rw [hc'] at q'
        have q' : c' = d := q'
        rw [eq_of_beq hz, hc', q']
      | false =>
        rw [hz] at q
        exact ha z d q
    · rw [if_neg hk] at e
      exact clOf_mem r acc y c hr ha e
theorem clOf_acc {env : Env} : ∀ (l : List (Str × NameKind)) (acc : List (Str × Addr)) (y : Str), (∃ c, acc.lookup y = some c) → ∃ c, (clOf env l acc).lookup y = some c
  | [], _, _, h => h
  | (n, k) :: r, acc, y, h => by
    unfold clOf
    by_cases hk : k = .free
    · rw [if_pos hk]
      refine clOf_acc r _ y ?_
      rw [List.lookup_cons]
      cases hz : y == n with
      | true => exact ⟨_, rfl⟩
      | false => exact h
    · rw [if_neg hk]
      exact clOf_acc r acc y h
theorem clOf_has {env : Env} : ∀ (l : List (Str × NameKind)) (acc : List (Str × Addr)) (y : Str), (y, NameKind.free) ∈ l → ∃ c, (clOf env l acc).lookup y = some c
  | [], _, _, h => by simp at h
  | (n, k) :: r, acc, y, h => by
    unfold clOf
    by_cases hk : k = .free
    · rw [if_pos hk]
      rcases List.mem_cons.mp h with e | e
      · refine clOf_acc r _ y ?_
        have e1 : y = n := congrArg Prod.fst e
        rw [List.lookup_cons, e1]
        simp
      · exact clOf_has r _ y e
    · rw [if_neg hk]
      rcases List.mem_cons.mp h with e | e
      · exact absurd (congrArg Prod.snd e).symm hk
      · exact clOf_has r acc y e
theorem relabel_lookup (scope : Scope) (env : Env) (y : Str) : (relabel scope env).names.lookup y = (scope.names.lookup y).map fun k => if (k == NameKind.free && env.scope.kind == .function && env.kindOf y == some .cell) = true then .cell else k := by
  show (scope.names.map _).lookup y = _
  induction scope.names with
  | nil => rfl
  | cons p r ih =>
    obtain ⟨n, k⟩ := p
    rw [List.map_cons, List.lookup_cons (a := y) (k := n) (b := k)]
    cases hz : y == n with
    | true =>
      have e : y = n := eq_of_beq hz
      subst e
      show List.lookup y ((if (k == NameKind.free && env.scope.kind == .function && env.kindOf y == some .cell) = true then (y, NameKind.cell) else (y, k)) :: _) = some (if _ then _ else _)
      by_cases hc : (k == NameKind.free && env.scope.kind == .function && env.kindOf y == some .cell) = true
      · rw [if_pos hc, if_pos hc]; simp
      · rw [if_neg hc, if_neg hc]; simp
    | false =>
      show List.lookup y ((if (k == NameKind.free && env.scope.kind == .function && env.kindOf n == some .cell) = true then (n, NameKind.cell) else (n, k)) :: _) = _
      by_cases hc : (k == NameKind.free && env.scope.kind == .function && env.kindOf n == some .cell) = true
      · rw [if_pos hc, List.lookup_cons, hz]; exact ih
      · rw [if_neg hc, List.lookup_cons, hz]; exact ih
noncomputable def cxComp (X : Cx) (scope : Scope) (x : Str) (N' : List Str) (C : Addr) (s : Shared) (H : Hp) (fp : List Addr) (pn : List (Addr × Obj)) : Cx where
  prog := X.prog
  w := X.w
  K := X.K
  mg := X.mg
  base := X.base
  A := X.A
  N := x :: N'
  s₀ := s
  H₀ := H
  env := compEnvC scope (clOf X.env scope.names []) C X.env
  outer := X.stack
  stack := X.stack
  ex := fp
  fn := fun _ => false
  calm := X.calm
  pn := pn
  xe := fun _ _ => False
section
variable {X : Cx} {pins : List (Addr × Obj)} {σ : St} {H : Hp} {s : Shared}
structure CompSc (X : Cx) (scope : Scope) (x : Str) (N' : List Str) : Prop where
  loc : scope.names.lookup x = some .local
  nocell : ∀ y ∈ scope.names, y.2 ≠ .cell
  kind : scope.kind = .function
  names : ∀ y ∈ scope.names, y.2 = .local → scope.names.lookup y.1 = some .local
  free : ∀ y ∈ scope.names, y.2 = .free → X.env.kindOf y.1 = some .cell ∨ X.env.kindOf y.1 = some .free
  nin : x ∉ N'
  nd : N'.Nodup
  len : N'.length = X.N.length
  sub : ∀ (i : Nat) (y : Str), N'[i]? = some y → X.N[i]? = some y ∨ scope.names.lookup y = none
  only : ∀ y ∈ scope.names, y.2 = .local → y.1 = x ∨ y.1 ∉ N'
theorem Inv.compIn {scope : Scope} {x : Str} {N' : List Str} {fp : List Addr} {h1 : Heap} {tk : Nat} {m : Str → Option Value} (S : CompSc X scope x N') (I : Inv X pins σ H s) (hf : ∀ b ∈ fp, FpOk X pins H b) (hfl : ∀ b ∈ fp, b < s.heap.objs.size)
    (hn : h1.Ns s.heap.objs.size m) (hsb : ∀ b o, s.heap.get? b = some o → h1.get? b = some o) :
    Inv (cxComp X scope x N' s.heap.objs.size s H fp (X.pn ++ pins)) [] (none :: σ) H { s with heap := h1, toks := tk } := by
  have hcells : ∀ y ∈ scope.names, y.2 = .free → ∃ c, X.env.cells.lookup y.1 = some c := fun y hy hk => I.ok.has y.1 (S.free y hy hk)
  have sub : ∀ y c, (clOf X.env scope.names []).lookup y = some c → X.env.cells.lookup y = some c := fun y c e => clOf_mem _ _ y c hcells (fun z d q => by simp at q) e
  have lk : ∀ (y : Str) (k : NameKind), (relabel scope X.env).names.lookup y = some k → k = .cell ∨ k = .free → scope.names.lookup y = some .free := fun y k e hk => by
    rw [relabel_lookup] at e
    cases q : scope.names.lookup y with
    | none => rw [q] at e; cases e
    | some k0 =>
      rw [q] at e
      have e' : (if (k0 == NameKind.free && X.env.scope.kind == .function && X.env.kindOf y == some .cell) = true then NameKind.cell else k0) = k := Option.some.inj e
      by_cases hc : (k0 == NameKind.free && X.env.scope.kind == .function && X.env.kindOf y == some .cell) = true
      · simp only [Bool.and_eq_true] at hc
        rw [eq_of_beq hc.1.1]
      · rw [if_neg hc] at e'
        subst e'
        rcases hk with hk | hk
        · exact absurd hk (S.nocell _ (PySem.mem_of_lookup q))
        · rw [hk]
  have lt : ∀ {b : Addr} {o : Obj}, s.heap.get? b = some o → b ≠ s.heap.objs.size := fun e => Nat.ne_of_lt (Heap.lt_size e)
  refine ⟨⟨I.ok.mod, by show (relabel scope X.env).kind = _; exact S.kind, I.ok.glob, I.ok.blt, Nat.le_refl _, fun y z c e1 e2 => I.ok.inj y z c (sub y c e1) (sub z c e2), fun y hy => ?_, fun y c hz => (by cases hz), I.ok.hd, I.ok.frames, .inl rfl,
    fun b hb => ⟨Nat.ne_of_lt (hfl b hb), fun y c e => (hf b hb).2.2.2.2.1 y c (sub y c e)⟩, I.bs, Nat.le_trans I.ok.bsz I.sz, fun b o e hb => ?_, fun b hb hz => ?_, I.stack, I.stkFree⟩,
    rfl, I.bare, Un.kept hsb, ⟨m, hn, fun i y v h1 h2 h3 => ?_⟩, fun y c e => ?_, I.hok.fresh (Nat.le_refl _), fun y c e => I.freeC y c (sub y c e), fun p hp => ?_, I.hok.kept hsb, ?_⟩
  · have hy : (relabel scope X.env).names.lookup y = some .cell ∨ (relabel scope X.env).names.lookup y = some .free := hy
    have q : scope.names.lookup y = some .free := hy.elim (fun z => lk y _ z (.inl rfl)) fun z => lk y _ z (.inr rfl)
    exact clOf_has _ _ y (PySem.mem_of_lookup q)
  · obtain ⟨_, _, _, f3, _, _⟩ := hf b hb
    rcases f3 with f3 | f3
    · exact I.ok.noex b o e f3
    · exact absurd (Nat.lt_of_lt_of_le (Heap.lt_size e) (Nat.le_trans I.ok.bsz f3)) (Nat.lt_irrefl _)
  · have hz : b ∈ frs X.stack := hz
    obtain ⟨_, f1, f2, _⟩ := hf b hb
    rcases List.mem_cons.mp (I.stkSub b hz) with z | z
    · exact f1 z
    · exact f2 z
  · cases i with
    | zero => simp at h2
    | succ i =>
      have h1 : N'[i]? = some y := by simpa [cxComp] using h1
      have h2 : σ[i]? = some (some v) := by simpa using h2
      have hne : N'[i]? ≠ some x := fun z => S.nin (List.mem_of_getElem? z)
      have h3 : Vis (relabel scope X.env) y := h3
      obtain ⟨m', hn', hl'⟩ := I.loc
      have q : scope.names.lookup y = some .free := by
        rcases h3 with z | z | z
        · exfalso
          rw [relabel_lookup] at z
          cases q : scope.names.lookup y with
          | none => rw [q] at z; cases z
          | some k0 =>
            rw [q] at z
            have e' : (if (k0 == NameKind.free && X.env.scope.kind == .function && X.env.kindOf y == some .cell) = true then NameKind.cell else k0) = .local := Option.some.inj z
            by_cases hc : (k0 == NameKind.free && X.env.scope.kind == .function && X.env.kindOf y == some .cell) = true
            · rw [if_pos hc] at e'; cases e'
            · rw [if_neg hc] at e'
              subst e'
              rcases S.only _ (PySem.mem_of_lookup q) rfl with w | w
              · exact hne (by rw [h1]; exact congrArg some w)
              · exact w (List.mem_of_getElem? h1)
        · exact lk y _ z (.inl rfl)
        · exact lk y _ z (.inr rfl)
      obtain ⟨c, hc⟩ := clOf_has (env := X.env) scope.names [] y (PySem.mem_of_lookup q)
      have hk : X.env.kindOf y = some .cell ∨ X.env.kindOf y = some .free := S.free _ (PySem.mem_of_lookup q) rfl
      have h1' : X.N[i]? = some y := (S.sub i y h1).resolve_right fun z => by rw [q] at z; cases z
      obtain ⟨u, r, l⟩ := hl' i y v h1' h2 (.inr hk)
      refine ⟨u, r, ?_⟩
      have kd : (compEnvC scope (clOf X.env scope.names []) s.heap.objs.size X.env).kindOf y = some .cell ∨ (compEnvC scope (clOf X.env scope.names []) s.heap.objs.size X.env).kindOf y = some .free := by
        rcases h3 with z | z | z
        · exfalso
          rw [relabel_lookup, q] at z
          have e' : (if (NameKind.free == NameKind.free && X.env.scope.kind == .function && X.env.kindOf y == some .cell) = true then NameKind.cell else NameKind.free) = .local := Option.some.inj z
          by_cases hc : (NameKind.free == NameKind.free && X.env.scope.kind == .function && X.env.kindOf y == some .cell) = true
          · rw [if_pos hc] at e'; cases e'
          · rw [if_neg hc] at e'; cases e'
        · exact .inl z
        · exact .inr z
      rcases l with ⟨a, _⟩ | ⟨_, c', hc', ic⟩
      · rcases hk with k | k <;> (rw [k] at a; cases a)
      · have e : X.env.cells.lookup y = some c := sub y c hc
        rw [e] at hc'
        cases hc'
        obtain ⟨o, ho, hd⟩ := ic
        exact .inr ⟨kd, c, hc, ⟨o, hsb _ _ ho, hd⟩⟩
  · obtain ⟨v, o, ho, hd⟩ := I.cell y c (sub y c e)
    exact ⟨v, o, hsb _ _ ho, hd⟩
  · have hp : p ∈ X.pn ++ pins := by
      have hp : p ∈ (X.pn ++ pins) ++ [] := hp
      rwa [List.append_nil] at hp
    obtain ⟨e, n, ne, nf, d⟩ := I.pin p hp
    refine ⟨hsb _ _ e, n, lt e, fun hz => ?_, d⟩
    have hz : p.1 ∈ frs X.stack := hz
    rcases List.mem_cons.mp (I.stkSub _ hz) with z | z
    · exact ne z
    · exact nf z
  · show (none :: σ).length = (x :: N').length
    rw [List.length_cons, List.length_cons, I.len, S.len]
noncomputable def PTs (X : Cx) (ifs : List Expr) (t : TT) : Prop :=
  ∀ (pins : List (Addr × Obj)) (s : Shared) (σ : St) (H : Hp) (Q : Bool → Hp → Prop) (E : Value → Shared → Prop), Inv X pins σ H s → t σ H Q →
    wpAny (model X.prog X.w) X.A (forIn ifs true fun c r => if r = true then do let ok ← isTrue c X.env (eval c X.env); pure (ForInStep.yield ok) else pure (ForInStep.yield r)) (TP X pins σ Q) E s
noncomputable def tYes : TT := fun _ H Q => Q true H
theorem pts_nil : PTs X [] tYes := fun _ _ _ H _ _ I h => wpAny_tests_nil ⟨H, I, h⟩
theorem pts_one {c : Expr} {t : TT} (h : PT X c t) (hx : ∀ e s, X.xe e s → False) : PTs X [c] t := fun pins s σ H Q _ I hw =>
  wpAny_tests_one (wpAny_mono (h pins s σ H Q I hw) (fun _ _ q => q) fun e s' z => (hx e s' z).elim)
theorem comp_loop {prog : Program} {w : World} {A : Around} {R : Result → Shared → Prop} {s : Shared} {elt target iter : Expr} {ifs : List Expr} {scope : Scope} {pos : Pos} {it acc : Value} {env : Env} (J : Nat → Shared → Prop)
    (turn : ∀ n s, J n s → wpAny (model prog w) A (pyNext it) (fun r s1 => match r with
      | none => R (.ok .next) s1
      | some v => wpAny (model prog w) A (letOwnedTupleGo target it v) (fun _ s2 => wpAny (model prog w) A (assign target env v) (fun _ s3 =>
          wpAny (model prog w) A (forIn ifs true fun c r => if r = true then do let ok ← isTrue c env (eval c env); pure (ForInStep.yield ok) else pure (ForInStep.yield r)) (fun ok s4 =>
            if ok = true then wpAny (model prog w) A (eval elt env) (fun y s5 => wpAny (model prog w) A (call (.builtin "list.append") [acc, y]) (fun _ s6 => ∃ m, m < n ∧ J m s6) (fun _ _ => False) s5) (fun _ _ => False) s4
            else ∃ m, m < n ∧ J m s4) (fun _ _ => False) s3) (fun _ _ => False) s2) (fun _ _ => False) s1) (fun _ _ => False) s)
    (n : Nat) (h : J n s) : codeAny (model prog w) A (.compLoop (.ListComp elt [⟨target, iter, ifs, 0⟩] scope pos) 0 it acc env) R s := by
  have no : ∀ {α : Type} {t : Sem α} {Q : α → Shared → Prop} {E : Value → Shared → Prop} {s : Shared}, wpAny (model prog w) A t Q (fun _ _ => False) s → wpAny (model prog w) A t Q E s :=
    fun q => wpAny_mono q (fun _ _ z => z) fun _ _ z => z.elim
  refine codeAny_loop rfl J (fun n s hJ => ?_) n h
  refine wpAny_noted (m := compTurn (.ListComp elt [⟨target, iter, ifs, 0⟩] scope pos) 0 it acc env) ?_
  rw [compTurn_list]
  refine wpAny_bind (wpAny_standAt (wpAny_bind (no (thn (turn n s hJ) fun r s1 q1 => ?_))))
  cases r with
  | none => exact wpAny_pure q1
  | some v =>
    refine no ?_
    refine wpAny_bind (thn q1 fun _ s2 q2 => wpAny_bind (thn q2 fun _ s3 q3 => wpAny_bind (thn q3 fun ok s4 q4 => ?_)))
    cases ok with
    | false => exact wpAny_pure ⟨rfl, q4⟩
    | true => exact wpAny_bind (wpAny_bind (thn q4 fun y s5 q5 => wpAny_bind (thn q5 fun _ s6 q6 => wpAny_pure (wpAny_pure ⟨rfl, q6⟩))))
noncomputable def CompW (J : It) (tt : TT) (te : TE) (σ : St) (Q : VK) (D : Addr) (H1 : Hp) : Prop := ∃ W : Nat → Nat → List V → Hp → Prop, (∃ m, W 0 m [] (upd H1 D (.lst []))) ∧
  ∀ i m ys H', W i m ys H' → (J.stop i H' ∧ Q (.ref D) H') ∨ (J.go i H' ∧ ∀ v H2, J.yld i H' v H2 → tt (some v :: σ) H2 fun b H3 =>
    if b = true then te (some v :: σ) H3 fun y H4 => H4 D = some (.lst ys) ∧ ys.length < sizeLine ∧ ∃ m', m' < m ∧ W (i + 1) m' (ys ++ [y]) (upd H4 D (.lst (ys ++ [y])))
    else ∃ m', m' < m ∧ W (i + 1) m' ys H3)
noncomputable def tComp (wi : TI) (tt : TT) (te : TE) : TE := fun σ H Q => wi σ H fun J H1 => ∀ D, H1 D = none → CompW J tt te σ Q D H1
theorem comp_core {elt iter : Expr} {x : Str} {N' : List Str} {px : Pos} {ifs : List Expr} {scope : Scope} {pos : Pos} {tt : TT} {te : TE} (hc : X.calm = true) (S : CompSc X scope x N')
    (ht : ∀ C s H fp pn, PTs (cxComp X scope x N' C s H fp pn) ifs tt) (he : ∀ C s H fp pn, PE (cxComp X scope x N' C s H fp pn) elt te) {Q : VK} {itv : Value} {s2 : Shared} {RR : Value → Addr → Result → Shared → Prop}
    (h2 : PIE X pins σ (.Name x px) (fun J H1 => ∀ D, H1 D = none → CompW J tt te σ Q D H1) itv s2)
    (hend : ∀ (D C : Addr) (H6 : Hp) (s7 : Shared) (m7 : Str → Option Value), Inv X pins σ H6 s7 → s7.heap.Ns C m7 → FpOk X pins H6 C → Q (.ref D) H6 → RR (.ref D) C (.ok .next) s7) :
    wpAny (model X.prog X.w) X.A (newList []) (fun acc s3 => wpAny (model X.prog X.w) X.A (newFunctionEnv scope X.env.globals (clOf X.env scope.names []) [] X.env.qual none .none (some X.env)) (fun cenv s4 =>
      codeAny (model X.prog X.w) X.A (.compStart (.ListComp elt [⟨.Name x px, iter, ifs, 0⟩] scope pos) 0 itv acc { cenv with scope := relabel scope X.env }) (RR acc cenv.locals) s4) X.xe s3) X.xe s2 := by
  obtain ⟨it, fp, tn, J, H2, e, I2, T, st2, f2, hW⟩ := h2
  subst e
  have hlt : ∀ b ∈ fp, b < s2.heap.objs.size := fun b hb => by
    obtain ⟨o, ho, _⟩ := T.obj _ _ st2 b hb
    exact Heap.lt_size ho
  obtain ⟨W, ⟨m0, w0⟩, hturn⟩ := hW s2.heap.objs.size (I2.hok.fresh (Nat.le_refl _))
  refine wpAny_newObj_type ?_ (by show 0 ≤ sizeLine; exact Nat.zero_le _)
  have I3 : Inv X pins σ (upd H2 s2.heap.objs.size (.lst [])) { s2 with heap := s2.heap.push { cls := .type "list", data := .seq ([] : List Value).toArray } } := I2.lnew (t' := s2.toks) .nil (Nat.zero_le _)
  have f3 : ∀ b ∈ fp, FpOk X pins (upd H2 s2.heap.objs.size (.lst [])) b := fun b hb => by
    obtain ⟨g0, g⟩ := f2 b hb
    exact ⟨by rw [upd_ne (Nat.ne_of_lt (hlt b hb))]; exact g0, g⟩
  have st3 : tn 0 (s2.heap.push { cls := .type "list", data := .seq ([] : List Value).toArray }) := T.keep _ _ _ st2 fun b _ o e => Heap.get?_push_of_some _ e
  have hlt3 : ∀ b ∈ fp, b < (s2.heap.push { cls := .type "list", data := .seq ([] : List Value).toArray }).objs.size := fun b hb => by rw [Heap.size_push]; exact Nat.lt_succ_of_lt (hlt b hb)
  generalize hs3 : ({ s2 with heap := s2.heap.push { cls := .type "list", data := .seq ([] : List Value).toArray } } : Shared) = s3 at I3
  have eh : s3.heap = s2.heap.push { cls := .type "list", data := .seq ([] : List Value).toArray } := by rw [← hs3]
  rw [← eh] at st3 hlt3
  show wpAny _ _ (newFunctionEnv scope X.env.globals (clOf X.env scope.names []) [] X.env.qual none .none (some X.env)) _ _ _
  refine wpAny_newFunctionEnv S.nocell (by intro y hy; simp at hy) (fun h4 hns4 hsb4 => ?_) S.kind
  have hk4 : ∀ b o, s3.heap.get? b = some o → h4.get? b = some o := fun b o e => (hsb4.2 b (Nat.ne_of_lt (Heap.lt_size e))).trans (Heap.get?_push_of_some _ e)
  have I4 := Inv.compIn (tk := s3.toks + ([] : List (Str × Value)).length) S I3 f3 hlt3 hns4 hk4
  have st4 : tn 0 h4 := T.keep _ _ _ st3 fun b _ o e => hk4 b o e
  have fx : ∀ {H' : Hp}, (∀ b ∈ fp, H' b = none) → ∀ b ∈ fp, FpOk (cxComp X scope x N' s3.heap.objs.size s3 (upd H2 s2.heap.objs.size (.lst [])) fp (X.pn ++ pins)) [] H' b := fun {H'} hn b hb => by
    obtain ⟨_, g1, g2, g3, g4, g5⟩ := f3 b hb
    refine ⟨hn b hb, Nat.ne_of_lt (hlt3 b hb), I4.ok.exfs b hb, .inl hb, fun y c e => (I4.ok.exf b hb).2 y c e, fun p hp => g5 p ?_⟩
    have hp : p ∈ (X.pn ++ pins) ++ [] := hp
    rwa [List.append_nil] at hp
  have loop : ∀ s5 : Shared, (∃ (i n : Nat) (o : Option V) (ys : List V) (H5 : Hp), Inv (cxComp X scope x N' s3.heap.objs.size s3 (upd H2 s2.heap.objs.size (.lst [])) fp (X.pn ++ pins)) [] (o :: σ) H5 s5 ∧ tn i s5.heap ∧ (∀ b ∈ fp, H5 b = none) ∧ W i n ys H5) →
      codeAny (model X.prog X.w) X.A (.compLoop (.ListComp elt [⟨.Name x px, iter, ifs, 0⟩] scope pos) 0 (.ref it) (.ref s2.heap.objs.size) (compEnvC scope (clOf X.env scope.names []) s3.heap.objs.size X.env))
        (RR (.ref s2.heap.objs.size) s3.heap.objs.size) s5 := by
    rintro s5 ⟨i5, n5, o5, ys5, H5, I5, st5, fr5, w5⟩
    refine comp_loop (fun n s' => ∃ (i : Nat) (o : Option V) (ys : List V) (H5 : Hp), Inv (cxComp X scope x N' s3.heap.objs.size s3 (upd H2 s2.heap.objs.size (.lst [])) fp (X.pn ++ pins)) [] (o :: σ) H5 s' ∧ tn i s'.heap ∧ (∀ b ∈ fp, H5 b = none) ∧ W i n ys H5) ?_ n5 ⟨i5, o5, ys5, H5, I5, st5, fr5, w5⟩
    rintro n s6 ⟨i, o, ys, H6, I6, st6, fr6, w6⟩
    rcases hturn i n ys H6 w6 with ⟨stop, qn⟩ | ⟨go, step⟩
    · refine thn (T.done (cxComp X scope x N' s3.heap.objs.size s3 (upd H2 s2.heap.objs.size (.lst [])) fp (X.pn ++ pins)) rfl rfl rfl hc i [] s6 _ H6 _ I6 (fx fr6) st6 stop) fun r s7 ⟨hr, I7⟩ => ?_
      subst hr
      obtain ⟨m7, hn7, _⟩ := id I7.loc
      have I8 : Inv X pins σ H6 s7 := I3.call' I7.os I7.base I7.hok I7.bare fun b hb => by
        obtain ⟨_, g1, g2, g3, g4, g5⟩ := f3 b hb
        exact ⟨g3, g1, g4, g5⟩
      have f8 : FpOk X pins H6 s3.heap.objs.size := I3.fpOk (Nat.le_refl _) I7.free
      exact hend _ _ H6 s7 m7 I8 hn7 f8 qn
    · refine thn (T.item (cxComp X scope x N' s3.heap.objs.size s3 (upd H2 s2.heap.objs.size (.lst [])) fp (X.pn ++ pins)) rfl rfl rfl hc i [] s6 _ H6 _ I6 (fx fr6) st6 go) fun r s7 ⟨u, hr, h7⟩ => ?_
      subst hr
      refine thn h7 fun _ s8 ⟨v, H8, I8, r8, y8, st8, fr8⟩ => ?_
      have I8' := I8.pinned (fx fr8) (T.obj _ _ st8)
      refine wpAny_assign_Name (store_ok I8' (i := 0) (List.nodup_cons.mpr ⟨S.nin, S.nd⟩) rfl (.inl (lookup_relabel_local S.loc)) r8 (fun s9 I9 => ?_) (.inr (lookup_relabel_local S.loc)))
      have I9 : Inv (cxComp X scope x N' s3.heap.objs.size s3 (upd H2 s2.heap.objs.size (.lst [])) fp (X.pn ++ pins)) ([] ++ pinsAt fp s8.heap) (some v :: σ) H8 s9 := I9
      refine thn (ht _ _ _ _ _ _ s9 (some v :: σ) H8 _ _ I9 (step v H8 y8)) fun b s10 ⟨H10, I10, q10⟩ => ?_
      have back : ∀ {s' : Shared} {H' : Hp} {ys' : List V} {m' : Nat}, Inv (cxComp X scope x N' s3.heap.objs.size s3 (upd H2 s2.heap.objs.size (.lst [])) fp (X.pn ++ pins)) ([] ++ pinsAt fp s8.heap) (some v :: σ) H' s' → W (i + 1) m' ys' H' →
          ∃ (i : Nat) (o : Option V) (ys : List V) (H5 : Hp), Inv (cxComp X scope x N' s3.heap.objs.size s3 (upd H2 s2.heap.objs.size (.lst [])) fp (X.pn ++ pins)) [] (o :: σ) H5 s' ∧ tn i s'.heap ∧ (∀ b ∈ fp, H5 b = none) ∧ W i m' ys H5 := fun {s' H' ys' m'} I' w' => by
        refine ⟨i + 1, some v, ys', H', I'.unpinned, T.keep _ _ _ st8 fun b hb o e => (I'.pin (b, o) (List.mem_append_right _ (List.mem_append_right _ (mem_pinsAt hb e)))).1, fun b hb => ?_, w'⟩
        obtain ⟨o, e, d⟩ := T.obj _ _ st8 b hb
        exact (I'.pin (b, o) (List.mem_append_right _ (List.mem_append_right _ (mem_pinsAt hb e)))).2.1
      cases b with
      | false =>
        rw [if_neg Bool.false_ne_true] at q10 ⊢
        obtain ⟨m', hm, w'⟩ := q10
        exact ⟨m', hm, back I10 w'⟩
      | true =>
        rw [if_pos rfl] at q10 ⊢
        refine thn (he _ _ _ _ _ _ s10 (some v :: σ) H10 _ I10 q10) fun y s11 ⟨yv, H11, I11, r11, hD, hz, m', hm, w'⟩ => ?_
        have ap := mt_append (X := cxComp X scope x N' s3.heap.objs.size s3 (upd H2 s2.heap.objs.size (.lst [])) fp (X.pn ++ pins)) _ s11 (some v :: σ) H11 (.ref s2.heap.objs.size) [yv] (.ref s2.heap.objs.size) [y] (fun _ H' => W (i + 1) m' (ys ++ [yv]) H') I11 rfl (.cons r11 .nil) ⟨_, ys, yv, rfl, rfl, hD, hz, w'⟩
        exact thn ap fun _ s12 ⟨_, H12, I12, _, w12⟩ => ⟨m', hm, back I12 w12⟩
  have l4 := loop { s3 with heap := h4, toks := s3.toks + ([] : List (Str × Value)).length } ⟨0, m0, none, [], _, I4, st4, fun b hb => (f3 b hb).1, w0⟩
  exact codeAny_compStart_list l4 (T.self _ _ _ _ _ st4 l4)
theorem pe_comp {elt iter : Expr} {x : Str} {N' : List Str} {px : Pos} {ifs : List Expr} {scope : Scope} {pos : Pos} {wi : TI} {tt : TT} {te : TE} (hc : X.calm = true) (hi : PI X (.Name x px) iter wi) (S : CompSc X scope x N')
    (ht : ∀ C s H fp pn, PTs (cxComp X scope x N' C s H fp pn) ifs tt) (he : ∀ C s H fp pn, PE (cxComp X scope x N' C s H fp pn) elt te) (hs : ∀ x, foldedSetIterable iter X.env x = pure x := by intro _; rfl) :
    PE X (.ListComp elt [⟨.Name x px, iter, ifs, 0⟩] scope pos) (tComp wi tt te) := by
  intro pins s σ H Q I h
  have hcells : ∀ y ∈ scope.names, y.2 = .free → ∃ c, X.env.cells.lookup y.1 = some c := fun y hy hk => I.ok.has y.1 (S.free y hy hk)
  rw [eval_ListComp]
  refine wpAny_comprehension_free (use := none) rfl hs (closure_of hcells) S.kind S.names (thn (hi pins s σ H _ I h) fun xv s1 h1 => thn h1 fun itv s2 h2 => ?_)
  refine comp_core (RR := fun acc C => compPost (model X.prog X.w) X.A X.xe none (EP X pins σ Q) acc C) hc S ht he h2 fun D C H6 s7 m7 I8 hn7 f8 qn => ?_
  refine ⟨m7, hn7, fun h' hs' => ?_⟩
  obtain ⟨g0, g1, g2, g3, g4, g5⟩ := f8
  exact ⟨.ref D, H6, I8.turned (t' := s7.toks) (fun b o hb e => (hs'.2 b hb).trans e) g0 g1 g3 g4 g5, rfl, qn⟩
theorem ps_comp {elt iter : Expr} {x y : Str} {N' : List Str} {i : Nat} {px py : Pos} {ifs : List Expr} {scope : Scope} {pos spos : Pos} {wi : TI} {tt : TT} {te : TE} (hN : X.N.Nodup) (hiy : X.N[i]? = some y) (hy : Loc X.env.scope y) (hc : X.calm = true) (hi : PI X (.Name x px) iter wi) (S : CompSc X scope x N')
    (ht : ∀ C s H fp pn, PTs (cxComp X scope x N' C s H fp pn) ifs tt) (he : ∀ C s H fp pn, PE (cxComp X scope x N' C s H fp pn) elt te)
    (hsw : swapsWith (.ListComp elt [⟨.Name x px, iter, ifs, 0⟩] scope pos) (some (.Name y py)) spos.line X.env = pure true := by rfl) (hs : ∀ x, foldedSetIterable iter X.env x = pure x := by intro _; rfl)
    (hf : X.fn y = true ∨ X.env.scope.names.lookup y = some .local := by first | exact .inl rfl | exact .inr rfl | assumption) :
    PS X (.Assign [.Name y py] (.ListComp elt [⟨.Name x px, iter, ifs, 0⟩] scope pos) spos) (tAsg (tComp wi tt te) (gName i)) := by
  intro pins s σ H D I h
  have hcells : ∀ y ∈ scope.names, y.2 = .free → ∃ c, X.env.cells.lookup y.1 = some c := fun y hy hk => I.ok.has y.1 (S.free y hy hk)
  rw [exec_Assign_Name_used _ _ _ _ hsw]
  refine wpAny_bind (wpAny_standAt (wpAny_bind ?_))
  show wpAny _ X.A (do let _ ← comprehension (.ListComp elt [⟨.Name x px, iter, ifs, 0⟩] scope pos) scope X.env _ (newList []) false (eval iter X.env) (some (assign (.Name y py) X.env))) _ _ s
  refine wpAny_bind (thn (wpAny_comprehension_free (use := some (assign (.Name y py) X.env)) (Q := fun _ s' => SP X pins D .next s') rfl hs (closure_of hcells) S.kind S.names
    (thn (hi pins s σ H _ I h) fun xv s1 h1 => thn h1 fun itv s2 h2 => ?_)) fun _ s' hq => wpAny_pure (wpAny_pure hq))
  refine comp_core (RR := fun acc C => compPost (model X.prog X.w) X.A X.xe (some (assign (.Name y py) X.env)) (fun _ s' => SP X pins D .next s') acc C) hc S ht he h2 fun L C H6 s7 m7 I8 hn7 f8 qn => ?_
  obtain ⟨g0, g1, g2, g3, g4, g5⟩ := f8
  show wpAny _ X.A (assign (.Name y py) X.env (.ref L)) _ _ _
  refine wpAny_assign_Name (store_ok2 I8 hN hiy hy (v := .ref L) (u := .ref L) rfl (fun s8 I9 hch => ?_) hf)
  obtain ⟨a, hsb, ha⟩ := hch
  have hCa : C ≠ a := by
    rcases ha with z | z
    · rw [z]; exact g1
    · exact fun w => g4 _ _ z w.symm
  refine ⟨m7, hn7.sameBut hsb hCa, fun h' hs' => ?_⟩
  exact ⟨_, H6, I9.turned (t' := s8.toks) (fun b o hb e => (hs'.2 b hb).trans e) g0 g1 g3 g4 g5, qn⟩
end
end L2
set_option Elab.async false
set_option linter.all false
set_option maxRecDepth 100000
set_option maxHeartbeats 4000000
namespace L2
open PySem PySem.Spec PyProof.Rows
noncomputable def compOk (sc scope : Scope) (N N' : List Str) (x : Str) : Bool :=
  decide (scope.names.lookup x = some .local) && scope.names.all (fun y => decide (y.2 ≠ .cell)) && decide (scope.kind = .function) && scope.names.all (fun y => decide (y.2 = .local → scope.names.lookup y.1 = some .local)) &&
  scope.names.all (fun y => decide (y.2 = .free → sc.names.lookup y.1 = some .cell ∨ sc.names.lookup y.1 = some .free)) && decide (x ∉ N') && decide N'.Nodup && decide (N'.length = N.length) &&
  (List.range N'.length).all (fun i => match N'[i]? with | some y => decide (N[i]? = some y ∨ scope.names.lookup y = none) | none => true) && scope.names.all (fun y => decide (y.2 = .local → y.1 = x ∨ y.1 ∉ N'))
theorem comp_sc {X : Cx} {scope : Scope} {x : Str} (sc : Scope) (N N' : List Str) (hsc : X.env.scope = sc) (hN : X.N = N) (h : compOk sc scope N N' x = true) : CompSc X scope x N' := by
  subst hsc hN
  unfold compOk at h
  simp only [Bool.and_eq_true, List.all_eq_true, decide_eq_true_eq] at h
  obtain ⟨⟨⟨⟨⟨⟨⟨⟨⟨h1, h2⟩, h3⟩, h4⟩, h5⟩, h6⟩, h7⟩, h7'⟩, h8'⟩, h8⟩ := h
  refine ⟨h1, h2, h3, h4, h5, h6, h7, h7', fun i y e => ?_, h8⟩
  have hi : i < N'.length := (List.getElem?_eq_some_iff.mp e).1
  have z := h8' i (List.mem_range.mpr hi)
  rw [e] at z
  exact of_decide_eq_true z
noncomputable def Its (x : Str) : It := ⟨fun i _ => i < x.cps.size, fun i H v H' => H' = H ∧ ∃ c, x.cps[i]? = some c ∧ v = .str ⟨#[c]⟩, fun i _ => x.cps.size = i⟩
section
variable {X : Cx} {tg : Expr}
noncomputable def iStr (tl : TE) : TI := fun σ H R => tl σ H fun v H1 => ∃ x, v = .str x ∧ R (Its x) H1
end
structure Row (J : It) (n : Nat) (vs : Nat → V) (Ok : Hp → Prop) : Prop where
  go : ∀ i H, i < n → Ok H → J.go i H
  yld : ∀ i H v H', i < n → Ok H → J.yld i H v H' → H' = H ∧ v = vs i
  stop : ∀ H, Ok H → J.stop n H
theorem row_range (lo : Int) (n : Nat) : Row (Itr lo n) n (fun i => .int (lo + i)) (fun _ => True) := ⟨fun i H h _ => h, fun i H v H' _ _ h => h, fun H _ => Nat.le_refl n⟩
theorem row_list {K : PySem.W.Frag} {a : Addr} {xs : List V} : Row (Itl K a) xs.length (fun i => xs.getD i .non) (fun H => SqL K H a xs) := ⟨fun i H h q => ⟨xs, xs[i], q, by simp [h]⟩, fun i H v H' hi q h => by
  obtain ⟨e, y⟩ := h
  refine ⟨e, ?_⟩
  have := y xs q
  rw [List.getD_eq_getElem?_getD, this]; rfl, fun H q => ⟨xs, q, Nat.le_refl _⟩⟩
noncomputable def ForW (J : It) (g : TG) (tb : TS) (D : Ends) (σ : St) (H : Hp) : Prop := ∃ W : Nat → Nat → St → Hp → Prop, (∃ m, W 0 m σ H) ∧ ∀ i m σ H, W i m σ H →
      (J.stop i H ∧ D.nx σ H) ∨ (J.go i H ∧ ∃ N : St → Hp → Prop, (∀ σ' H', N σ' H' → ∃ m', m' < m ∧ W (i + 1) m' σ' H') ∧ ∀ x H', J.yld i H x H' → g x σ H' fun σ2 H2 => tb { D with nx := N, ct := N, bk := D.nx } σ2 H2)
theorem for_row {J : It} {n : Nat} {vs : Nat → V} {Ok : Hp → Prop} (R : Row J n vs Ok) {g : TG} {tb : TS} {D : Ends} {σ : St} {H : Hp} (Pv : Nat → St → Hp → Prop) (h0 : Pv 0 σ H) (hok : ∀ i σ H, Pv i σ H → Ok H)
    (hs : ∀ i σ H, i < n → Pv i σ H → g (vs i) σ H fun σ2 H2 => tb { D with nx := Pv (i + 1), ct := Pv (i + 1), bk := D.nx } σ2 H2) (hd : ∀ σ H, Pv n σ H → D.nx σ H) :
    ForW J g tb D σ H := by
  refine ⟨fun i m σ H => m = n - i ∧ i ≤ n ∧ Pv i σ H, ⟨n, by simp, Nat.zero_le _, h0⟩, ?_⟩
  rintro i m σ H ⟨rfl, hi, p⟩
  by_cases hlt : i < n
  · refine .inr ⟨R.go i H hlt (hok i σ H p), Pv (i + 1), fun σ' H' p' => ⟨n - (i + 1), by omega, rfl, hlt, p'⟩, fun x H' y => ?_⟩
    obtain ⟨e1, e2⟩ := R.yld i H x H' hlt (hok i σ H p) y
    subst e1 e2
    exact hs i σ _ hlt p
  · have e : i = n := by omega
    subst e
    exact .inl ⟨R.stop H (hok i σ H p), hd σ H p⟩
theorem comp_row {J : It} {n : Nat} {vs : Nat → V} {Ok : Hp → Prop} (R : Row J n vs Ok) {te : TE} {Q : VK} {σ : St} {H1 : Hp} {D : Addr} (Pv : Nat → List V → Hp → Prop) (hn : n ≤ sizeLine) (h0 : Pv 0 [] (upd H1 D (.lst []))) (hok : ∀ i ys H, Pv i ys H → Ok H)
    (hs : ∀ i ys H (Q' : VK), i < n → ys.length = i → Pv i ys H → (∀ y H4, H4 D = some (.lst ys) → Pv (i + 1) (ys ++ [y]) (upd H4 D (.lst (ys ++ [y]))) → Q' y H4) → te (some (vs i) :: σ) H Q')
    (hd : ∀ ys H, ys.length = n → Pv n ys H → Q (.ref D) H) :
    CompW J tYes te σ Q D H1 := by
  refine ⟨fun i m ys H => m = n - i ∧ i ≤ n ∧ ys.length = i ∧ Pv i ys H, ⟨n, by simp, Nat.zero_le _, rfl, h0⟩, ?_⟩
  rintro i m ys H ⟨rfl, hi, hl, p⟩
  by_cases hlt : i < n
  · refine .inr ⟨R.go i H hlt (hok i ys H p), fun v H2 y => ?_⟩
    obtain ⟨e1, e2⟩ := R.yld i H v H2 hlt (hok i ys H p) y
    subst e1 e2
    exact hs i ys _ _ hlt hl p fun v H4 q1 q2 => ⟨q1, by omega, n - (i + 1), by omega, rfl, hlt, by simp [hl], q2⟩
  · have e : i = n := by omega
    subst e
    exact .inl ⟨R.stop H (hok _ ys H p), hd ys H hl p⟩
end L2
set_option Elab.async false
set_option linter.all false
set_option maxRecDepth 100000
set_option maxHeartbeats 4000000
namespace L2
open PySem PySem.Spec PyProof.Rows
noncomputable def mVar (i : Nat) : TE := fun σ H Q => match σ[i]? with | some (some v) => Q v H | _ => False
noncomputable def mB (Q : Bool → Hp → Prop) : VK := fun z H' => match z with | .bl k => Q k H' | _ => False
theorem mB_eq (Q : Bool → Hp → Prop) : mB Q = fun z H' => ∃ k, z = .bl k ∧ Q k H' := by
  funext z H'
  cases z <;> simp [mB]
section
variable {X : Cx} {a b c e : Expr} {ta tb tc te : TE} {pos : Pos}
theorem mv (i : Nat) {x : Str} {pos : Pos} (hN : X.N[i]? = some x := by rfl) (hv : Vis X.env.scope x := by first | exact Or.inl rfl | exact Or.inr (Or.inl rfl) | exact Or.inr (Or.inr rfl)) (hd : (x == ("__debug__" : Str)) = false := by decide)
    (hcd : (x == ("__classdict__" : Str)) = false := by decide) : PE X (.Name x pos) (mVar i) := by
  intro pins s σ H Q I h
  refine pe_var hN hv hd hcd pins s σ H Q I ?_
  unfold mVar at h
  split at h
  · rename_i v q; exact ⟨v, q, h⟩
  · exact h.elim
noncomputable def m2 (C : Int → Int → Prop) (g : Int → Int → V) : R2 := fun x y H Q => match x, y with
  | .int i, .int j => C i j ∧ Q (g i j) H
  | _, _ => False
noncomputable def m20 (g : Int → Int → V) : R2 := fun x y H Q => match x, y with
  | .int i, .int j => Q (g i j) H
  | _, _ => False
theorem m2_to {C : Int → Int → Prop} {g : Int → Int → V} {x y : V} {H : Hp} {Q : VK} (h : m2 C g x y H Q) : rI C g x y H Q := by
  cases x <;> cases y <;> first | exact (show False from h).elim | exact ⟨_, _, rfl, rfl, h⟩
theorem m20_to {g : Int → Int → V} {x y : V} {H : Hp} {Q : VK} (h : m20 g x y H Q) : rI0 g x y H Q := by
  cases x <;> cases y <;> first | exact (show False from h).elim | exact ⟨_, _, rfl, rfl, h⟩
theorem OpR.imp {f : Value → Value → Sem Value} {r r' : R2} (h : OpR X f r) (k : ∀ x y H Q, r' x y H Q → r x y H Q) : OpR X f r' := fun pins s σ H x y v u Q I rx ry q => h pins s σ H x y v u Q I rx ry (k x y H Q q)
noncomputable def mAdd (K : PySem.W.Frag) : R2 := fun x y H Q => match x, y with
  | .int i, .int j => Q (.int (i + j)) H
  | .str i, .str j => i.length + j.length ≤ sizeLine ∧ Q (.str (i ++ j)) H
  | .ref p, .ref q => (∃ xs ys, H p = some (.lst xs) ∧ H q = some (.lst ys) ∧ xs.length + ys.length ≤ sizeLine ∧ ∀ d, H d = none → Q (.ref d) (upd H d (.lst (xs ++ ys)))) ∨
      ∃ xs ys, SqT K H p xs ∧ SqT K H q ys ∧ xs ≠ [] ∧ xs.length + ys.length ≤ sizeLine ∧ (ys = [] → Q (.ref p) H) ∧ (ys ≠ [] → ∀ d, H d = none → Q (.ref d) (upd H d (.tup (xs ++ ys))))
  | _, _ => False
theorem mo_add : OpR X (binaryOp .Add) (mAdd X.K) := by
  refine (op_add.or (op_add_str.or (op_cat.or op_catT))).imp fun x y H Q h => ?_
  cases x <;> cases y <;> first
    | exact (show False from h).elim
    | exact .inl ⟨_, _, rfl, rfl, h⟩
    | exact .inr (.inl ⟨_, _, rfl, rfl, h⟩)
    | (rcases h with ⟨xs, ys, h1, h2, h3, h4⟩ | ⟨xs, ys, h1, h2, h3, h4, h5⟩
       · exact .inr (.inr (.inl ⟨_, _, xs, ys, rfl, rfl, h1, h2, h3, h4⟩))
       · exact .inr (.inr (.inr ⟨_, _, xs, ys, rfl, rfl, h1, h2, h3, h4, h5⟩)))
theorem mo_sub : OpR X (binaryOp .Sub) (m20 fun i j => .int (i - j)) := op_sub.imp fun _ _ _ _ h => m20_to h
noncomputable def mMul : R2 := fun x y H Q => match x, y with
  | .int i, .int j => IntMulOk i j ∧ Q (.int (i * j)) H
  | .ref l, .int k => ∃ xs, H l = some (.lst xs) ∧ -(2 ^ 63) ≤ k ∧ k < 2 ^ 63 ∧ xs.length * k.toNat ≤ sizeLine ∧ ∀ p, H p = none → Q (.ref p) (upd H p (.lst (List.replicate k.toNat xs).flatten))
  | _, _ => False
theorem op_mulW : OpR X (binaryOp .Mult) (rI (fun i j => IntMulOk i j) fun i j => .int (i * j)) := opI fun _ _ _ _ _ _ _ hc q => mul_int q hc
theorem mo_mul : OpR X (binaryOp .Mult) mMul := by
  refine (op_mulW.or op_rep).imp fun x y H Q h => ?_
  cases x <;> cases y <;> first
    | exact (show False from h).elim
    | exact .inl ⟨_, _, rfl, rfl, h⟩
    | (obtain ⟨xs, h1, h2, h3, h4, h5⟩ := h; exact .inr ⟨_, _, xs, rfl, rfl, h1, h2, h3, h4, h5⟩)
theorem mo_fdiv : OpR X (binaryOp .FloorDiv) (m2 CDiv fun i j => .int (i / j)) := op_fdiv.imp fun _ _ _ _ h => m2_to h
theorem mo_mod : OpR X (binaryOp .Mod) (m2 (fun _ j => 0 < j) fun i j => .int (i % j)) := op_mod.imp fun _ _ _ _ h => m2_to h
theorem mo_pow : OpR X (binaryOp .Pow) (m2 CPow fun i j => .int (i ^ j.toNat)) := op_pow.imp fun _ _ _ _ h => m2_to h
theorem mo_lt : OpR X (compareOp .Lt) (m20 fun i j => .bl (decide (i < j))) := op_lt.imp fun _ _ _ _ h => m20_to h
theorem mo_gt : OpR X (compareOp .Gt) (m20 fun i j => .bl (decide (j < i))) := op_gt.imp fun _ _ _ _ h => m20_to h
noncomputable def mEq (n : Bool) : R2 := fun x y H Q => match x, y with
  | .int i, .int j => Q (.bl (n ^^ decide (i = j))) H
  | .str i, .str j => Q (.bl (n ^^ decide (i = j))) H
  | .bl i, .bl j => Q (.bl (n ^^ decide (i = j))) H
  | .non, .non => Q (.bl (n ^^ true)) H
  | .non, .int _ => Q (.bl n) H
  | .non, .str _ => Q (.bl n) H
  | .non, .bl _ => Q (.bl n) H
  | .int _, .non => Q (.bl n) H
  | .str _, .non => Q (.bl n) H
  | .bl _, .non => Q (.bl n) H
  | .int _, .str _ => Q (.bl n) H
  | .str _, .int _ => Q (.bl n) H
  | .bl _, .str _ => Q (.bl n) H
  | .str _, .bl _ => Q (.bl n) H
  | _, _ => False
theorem mo_eq : OpR X (compareOp .Eq) (mEq false) := by
  refine op_eq.imp fun x y H Q h => ?_
  cases x <;> cases y <;> first
    | exact (show False from h).elim
    | exact ⟨rfl, by simpa [mEq] using h⟩
theorem mo_ne : OpR X (compareOp .NotEq) (mEq true) := by
  refine op_ne.imp fun x y H Q h => ?_
  cases x <;> cases y <;> first
    | exact (show False from h).elim
    | exact ⟨rfl, by simpa [mEq] using h⟩
noncomputable def mTest (t : TE) : TT := fun σ H Q => t σ H (mB Q)
theorem mTest_eq (t : TE) : mTest t = tTest t := by
  funext σ H Q
  show t σ H (mB Q) = t σ H _
  rw [mB_eq]
theorem mt_cmp {op : CmpOp} {r : R2} (ho : OpR X (compareOp op) r) (ha : PE X a ta) (hb : PE X b tb) (hm : behindInMarks op b = false) : PT X (.Compare a [op] [b] pos) (mTest (tOp r ta tb)) := by
  rw [mTest_eq]; exact pt_cmpR ho ha hb hm
noncomputable def mChain (r r' : R2) (ta tb tc : TE) : TE := fun σ H Q => ta σ H fun x H1 => tb σ H1 fun y H2 => r x y H2 (mB fun k H3 => if k = true then tc σ H3 fun w' H4 => r' y w' H4 Q else Q (.bl false) H3)
noncomputable def mTru (K : PySem.W.Frag) (Q : Bool → Hp → Prop) : VK := fun x H => match x with
  | .non => Q false H
  | .bl b => Q b H
  | .int i => Q (decide (i ≠ 0)) H
  | .str y => y.length ≤ sizeLine ∧ Q (decide (y.length ≠ 0)) H
  | .ref p => (∃ xs, SqL K H p xs ∧ Q (!xs.isEmpty) H) ∨ (∃ xs, SqT K H p xs ∧ Q (!xs.isEmpty) H) ∨ ∃ kvs, H p = some (.dK kvs) ∧ Q (!kvs.isEmpty) H
  | _ => False
theorem mTru_to {K : PySem.W.Frag} {Q : Bool → Hp → Prop} {x : V} {H : Hp} (h : mTru K Q x H) : ∃ k, TruV K x H k ∧ Q k H := by
  cases x with
  | non => exact ⟨_, rfl, h⟩
  | bl b => exact ⟨_, rfl, h⟩
  | int i =>
    have h : Q (decide (i ≠ 0)) H := h
    refine ⟨i != 0, rfl, ?_⟩
    have e : (i != 0) = decide (i ≠ 0) := by
      rw [Bool.eq_iff_iff]; simp
    rw [e]; exact h
  | str y =>
    obtain ⟨h1, h⟩ : y.length ≤ sizeLine ∧ Q (decide (y.length ≠ 0)) H := h
    refine ⟨((y.length : Int) != 0), ⟨h1, rfl⟩, ?_⟩
    have e : ((y.length : Int) != 0) = decide (y.length ≠ 0) := by
      rw [Bool.eq_iff_iff]; simp
    rw [e]; exact h
  | ref p =>
    rcases h with ⟨xs, h1, h2⟩ | ⟨xs, h1, h2⟩ | ⟨xs, h1, h2⟩
    · exact ⟨_, .inl ⟨xs, h1, rfl⟩, h2⟩
    · exact ⟨_, .inr (.inl ⟨xs, h1, rfl⟩), h2⟩
    · exact ⟨_, .inr (.inr ⟨xs, h1, rfl⟩), h2⟩
  | _ => exact (show False from h).elim
noncomputable def mTrue (K : PySem.W.Frag) (ta : TE) : TT := fun σ H Q => ta σ H (mTru K Q)
theorem mt_tru (ha : PE X a ta) (he : ∀ whole, isTrue a X.env whole = (do let v ← whole; standAt a.pos; holding [v] (truthy v)) := by intro _; rfl) : PT X a (mTrue X.K ta) := by
  intro pins s σ H Q I h
  exact isTrue_plain (thn (ha pins s σ H _ I h) fun v s1 ⟨x, H1, I1, r1, q1⟩ => tru_ok pins s1 σ H1 x v Q I1 r1 (mTru_to q1)) (he _)
noncomputable def mAndV (ta tb : TE) : TE := fun σ H Q => ta σ H (mB fun c H1 => if c = true then tb σ H1 Q else Q (.bl false) H1)
noncomputable def mOrV (ta tb : TE) : TE := fun σ H Q => ta σ H (mB fun c H1 => if c = true then Q (.bl true) H1 else tb σ H1 Q)
variable {rest : List Expr}
noncomputable def mIx (K : PySem.W.Frag) : R2 := fun x y H Q => match x, y with
  | .ref p, .int i => (∃ xs v, SqL K H p xs ∧ atI xs i = some v ∧ Q v H) ∨ ∃ xs v, SqT K H p xs ∧ atI xs i = some v ∧ Q v H
  | .str z, .int i => z.length ≤ sizeLine ∧ ∃ c, atI z.cps.toList i = some c ∧ Q (.str ⟨#[c]⟩) H
  | _, _ => False
theorem mi_seq : IxR X (mIx X.K) := by
  intro value slice pins s σ H x y v u Q I rx ry h hs
  refine ix_seq value slice pins s σ H x y v u Q I rx ry ?_ hs
  cases x <;> cases y <;> first
    | exact (show False from h).elim
    | (rcases h with ⟨xs, v, h1, h2, h3⟩ | ⟨xs, v, h1, h2, h3⟩
       · exact .inl ⟨_, xs, _, v, rfl, rfl, h1, h2, h3⟩
       · exact .inr (.inl ⟨_, xs, _, v, rfl, rfl, h1, h2, h3⟩))
    | (obtain ⟨h1, c, h2, h3⟩ := h; exact .inr (.inr ⟨_, _, c, rfl, rfl, h1, h2, h3⟩))
noncomputable def inS (i j : Str) : Bool := !(Builtin.Str.occurrences j i 0 j.length 1).isEmpty
noncomputable def mInS (n : Bool) : R2 := fun x y H Q => match x, y with
  | .str i, .str j => Q (.bl (n ^^ inS i j)) H
  | _, _ => False
noncomputable def mI (R : Option Int → Hp → Prop) : VK := fun x H1 => match x with | .int i => R (some i) H1 | _ => False
noncomputable def mPart (t : TE) : TO := fun σ H Q => t σ H (mI Q)
theorem mp_some (h : PE X e te) : PO X (some e) (mPart te) := by
  have q : mPart te = tPart te := by
    funext σ H Q
    unfold mPart tPart
    congr 1
    funext x H1
    cases x <;> simp [mI]
  rw [q]; exact po_some h
noncomputable def mLen (K : PySem.W.Frag) : List V → Hp → VK → Prop := fun vs H Q => match vs with
  | [.str y] => y.length ≤ sizeLine ∧ Q (.int y.length) H
  | [.ref p] => (∃ xs, SqL K H p xs ∧ Q (.int xs.length) H) ∨ ∃ xs, SqT K H p xs ∧ Q (.int xs.length) H
  | _ => False
theorem mc_len : CallR X (.builtin "len") (mLen X.K) := by
  intro pins s σ H xs us Q I r h
  refine call_len pins s σ H xs us Q I r ?_
  unfold mLen at h
  split at h
  · exact ⟨_, _, rfl, ⟨h.1, rfl⟩, h.2⟩
  · rcases h with ⟨ys, h1, h2⟩ | ⟨ys, h1, h2⟩
    · exact ⟨_, _, rfl, .inl ⟨ys, h1, rfl⟩, h2⟩
    · exact ⟨_, _, rfl, .inr ⟨ys, h1, rfl⟩, h2⟩
  · exact h.elim
theorem kit_same (K : PySem.W.Frag) (t : Value) : PySem.W.kitOne K t t = some true := by
  unfold PySem.W.kitOne
  rw [if_pos (by simp)]
end
end L2
set_option Elab.async false
set_option linter.all false
set_option maxRecDepth 100000
set_option maxHeartbeats 4000000
namespace L2
open PySem PySem.Spec PyProof.Rows
section
variable {X : Cx} {a b c e : Expr} {ta tb tc te : TE} {pos : Pos}
noncomputable def mNotV (K : PySem.W.Frag) (ta : TE) : TE := fun σ H Q => ta σ H (mTru K fun b H' => Q (.bl (!b)) H')
noncomputable def mAppend : V → List V → Hp → VK → Prop := fun x vs H Q => match x, vs with
  | .ref l, [y] => ∃ xs, H l = some (.lst xs) ∧ xs.length < sizeLine ∧ Q .non (upd H l (.lst (xs ++ [y])))
  | _, _ => False
theorem mm_append : MtR X "list.append" mAppend := by
  intro pins s σ H x xs v us Q I rx rs h
  refine mt_append pins s σ H x xs v us Q I rx rs ?_
  unfold mAppend at h
  split at h
  · obtain ⟨ys, h1, h2, h3⟩ := h
    exact ⟨_, ys, _, rfl, rfl, h1, h2, h3⟩
  · exact h.elim
noncomputable def mPop : V → List V → Hp → VK → Prop := fun x vs H Q => match x, vs with
  | .ref l, [] => ∃ xs y, H l = some (.lst (xs ++ [y])) ∧ Q y (upd H l (.lst xs))
  | _, _ => False
theorem mm_pop : MtR X "list.pop" mPop := by
  intro pins s σ H x xs v us Q I rx rs h
  refine mt_pop pins s σ H x xs v us Q I rx rs ?_
  unfold mPop at h
  split at h
  · obtain ⟨ys, y, h1, h2⟩ := h
    exact ⟨_, _, y, rfl, rfl, h1, by simp, by rw [List.dropLast_concat]; exact h2⟩
  · exact h.elim
noncomputable def mUn (g : Int → Int) : V → Hp → VK → Prop := fun x H Q => match x with | .int i => Q (.int (g i)) H | _ => False
theorem mu_neg : UnR X (unaryOp .USub) (mUn fun i => -i) := by
  intro pins s σ H x v Q I rx h
  refine un_neg pins s σ H x v Q I rx ?_
  cases x <;> first | exact (show False from h).elim | exact ⟨_, rfl, h⟩
end
section
variable {X : Cx}
end
section
variable {X : Cx} {a b c e o : Expr} {es : List Expr} {ta tb tc te to : TE} {t : TA} {pos : Pos} {tg l : Expr} {tl : TE}
theorem pe_bty {x : Str} {n : String} {pos : Pos} (hg : Gl X x) (hm : X.mg x = none) (hv : bootBuiltins x = some (.type n)) (hn : x ≠ "__name__" := by decide) (hd : (x == ("__debug__" : Str)) = false := by decide) : PE X (.Name x pos) (tC (.ty n)) := pe_bltn hg hm hv rfl hn hd
theorem ko_add (K : PySem.W.Frag) (h : X.K = K) : OpR X (binaryOp .Add) (mAdd K) := h ▸ mo_add
theorem kt_tru (K : PySem.W.Frag) (h : X.K = K) (ha : PE X a ta) (he : ∀ whole, isTrue a X.env whole = (do let v ← whole; standAt a.pos; holding [v] (truthy v)) := by intro _; rfl) : PT X a (mTrue K ta) := h ▸ mt_tru ha he
theorem ki_seq (K : PySem.W.Frag) (h : X.K = K) : IxR X (mIx K) := h ▸ mi_seq
theorem kc_len (K : PySem.W.Frag) (h : X.K = K) : CallR X (.builtin "len") (mLen K) := h ▸ mc_len
theorem kpi_list (K : PySem.W.Frag) (h : X.K = K) (hl : PE X l tl) : PI X tg l (iList K tl) := h ▸ pi_list hl
theorem ke_bm0 (K : PySem.W.Frag) (h : X.K = K) {name : Str} {apos cpos : Pos} {T id : String} {r : V → List V → Hp → VK → Prop} (pa : PlainAttrs T) (slot : Slot T name id) (hty : typeOf (.builtin id) = pure (.type "method_descriptor")) (hm : MtR X id r) (ho : PE X o to)
    (hbase : attributeBase o name X.env (eval o X.env) = eval o X.env := by rfl) (hline : (apos.endLine == cpos.line) = true := by rfl) : PE X (.Call (.Attribute o name apos) [] [] cpos) (tBM0 K T r to) := h ▸ pe_bm0 pa slot hty hm ho hbase hline
theorem ke_bm (K : PySem.W.Frag) (h : X.K = K) {name : Str} {apos cpos : Pos} {T id : String} {r : V → List V → Hp → VK → Prop} (pa : PlainAttrs T) (slot : Slot T name id) (hty : typeOf (.builtin id) = pure (.type "method_descriptor")) (hm : MtR X id r) (ho : PE X o to) (ha : PA X (e :: es) t)
    (hbase : attributeBase o name X.env (eval o X.env) = eval o X.env := by rfl)
    (hfew : ((backTo cpos (starEach (e :: es) X.env)).all (fun x => !x.1) && (backToKw cpos (keywordEach [] X.env)).all (fun x => x.1.isSome)
      && decide ((e :: es).length + ([] : List Keyword).length + (if ([] : List Keyword).isEmpty then 0 else 1) < 30)) = true := by rfl)
    (hline : (apos.endLine == cpos.line) = true := by rfl) (hs : starEach (e :: es) X.env = (false, eval e X.env) :: starEach es X.env := by rfl) (hplain : (backTo cpos (starEach es X.env)).any (·.1) = false := by rfl) :
    PE X (.Call (.Attribute o name apos) (e :: es) [] cpos) (tBM K T r to t) := h ▸ pe_bm pa slot hty hm ho ha hbase hfew hline hs hplain
end
theorem atI_lt {α : Type} {xs : List α} {i : Int} (h0 : 0 ≤ i) (h1 : i < (xs.length : Int)) : ∃ v, atI xs i = some v ∧ xs[i.toNat]? = some v := by
  have hk : i.toNat < xs.length := by omega
  have ek : i = ((i.toNat : Nat) : Int) := by omega
  have q : xs[i.toNat]? = some xs[i.toNat] := List.getElem?_eq_getElem hk
  refine ⟨xs[i.toNat], ?_, q⟩
  have := atI_nat q
  rw [← ek] at this
  exact this
theorem same_new {H : Hp} {p : Addr} (h : H p = none) (o : HO) : Same H (upd H p o) := fun b u q => by rw [upd_ne (ne_of_none q h)]; exact q
theorem same_upd {H H' : Hp} {p : Addr} {o : HO} (e : Same H H') (h : H p = none) : Same H (upd H' p o) := fun b u q => by rw [upd_ne (ne_of_none q h)]; exact e b u q
theorem Same.tup {K : PySem.W.Frag} {H H' : Hp} {a : Addr} {xs : List V} (e : Same H H') (h : SqT K H a xs) : SqT K H' a xs := by
  rcases h with (h | ⟨o, h⟩) | h
  · exact .inl (.inl (e _ _ h))
  · exact .inl (.inr ⟨o, e _ _ h⟩)
  · exact .inr h
theorem cdiv_i {i j : Int} (h1 : 0 < j) (h2 : j < 1073741824) : CDiv i j := ⟨h1, h2⟩
theorem mulOk_right {i j : Int} (h : -(2 ^ 64) < j ∧ j < 2 ^ 64) : IntMulOk i j := CMul.ok (.inr h)
theorem mulOk_left {i j : Int} (h : -(2 ^ 64) < i ∧ i < 2 ^ 64) : IntMulOk i j := CMul.ok (.inl h)
section
variable {K : PySem.W.Frag} {σ : St} {H : Hp} {Q : VK} {D : Ends} {ta tb tc te : TE} {t u : TS} {A B : TT} {P : Bool → Hp → Prop} {v x y : V} {i j : Int} {n : Nat} {b : Bool} {p q : Str}
theorem mVar_i (h : σ[n]? = some (some v)) (k : Q v H) : mVar n σ H Q := by unfold mVar; rw [h]; exact k
theorem tC_i (k : Q v H) : tC v σ H Q := k
theorem tOp_i {r : R2} (k : ta σ H fun x H1 => tb σ H1 fun y H2 => r x y H2 Q) : tOp r ta tb σ H Q := k
theorem tUn_i {r : V → Hp → VK → Prop} (k : ta σ H fun x H1 => r x H1 Q) : tUn r ta σ H Q := k
theorem mUn_i {g : Int → Int} (k : Q (.int (g i)) H) : mUn g (.int i) H Q := k
theorem m20_i {g : Int → Int → V} (k : Q (g i j) H) : m20 g (.int i) (.int j) H Q := k
theorem m2_i {C : Int → Int → Prop} {g : Int → Int → V} (c : C i j) (k : Q (g i j) H) : m2 C g (.int i) (.int j) H Q := ⟨c, k⟩
theorem mAdd_i (k : Q (.int (i + j)) H) : mAdd K (.int i) (.int j) H Q := k
theorem mMul_i (c : IntMulOk i j) (k : Q (.int (i * j)) H) : mMul (.int i) (.int j) H Q := ⟨c, k⟩
theorem mEq_i (k : Q (.bl (b ^^ decide (i = j))) H) : mEq b (.int i) (.int j) H Q := k
theorem mEq_s (k : Q (.bl (b ^^ decide (p = q))) H) : mEq b (.str p) (.str q) H Q := k
theorem mEq_b {c d : Bool} (k : Q (.bl (b ^^ decide (c = d))) H) : mEq b (.bl c) (.bl d) H Q := k
theorem mInS_i (k : Q (.bl (b ^^ inS p q)) H) : mInS b (.str p) (.str q) H Q := k
theorem mB_i (k : P b H) : mB P (.bl b) H := k
theorem mTest_i (k : ta σ H (mB P)) : mTest ta σ H P := k
theorem mTrue_i (k : ta σ H (mTru K P)) : mTrue K ta σ H P := k
theorem mTru_b (k : P b H) : mTru K P (.bl b) H := k
theorem mChain_i {r r' : R2} (k : ta σ H fun x H1 => tb σ H1 fun y H2 => r x y H2 (mB fun k H3 => if k = true then tc σ H3 fun w' H4 => r' y w' H4 Q else Q (.bl false) H3)) : mChain r r' ta tb tc σ H Q := k
theorem mAndV_i (k : ta σ H (mB fun c H1 => if c = true then tb σ H1 Q else Q (.bl false) H1)) : mAndV ta tb σ H Q := k
theorem mOrV_i (k : ta σ H (mB fun c H1 => if c = true then Q (.bl true) H1 else tb σ H1 Q)) : mOrV ta tb σ H Q := k
theorem mNotV_i (k : ta σ H (mTru K fun b H' => Q (.bl (!b)) H')) : mNotV K ta σ H Q := k
theorem tIf_i (k : A σ H fun c H1 => if c = true then ta σ H1 Q else tb σ H1 Q) : tIf A ta tb σ H Q := k
theorem tAnd_i (k : A σ H fun c H1 => if c = true then B σ H1 P else P false H1) : tAnd A B σ H P := k
theorem tOr_i (k : A σ H fun c H1 => if c = true then P true H1 else B σ H1 P) : tOr A B σ H P := k
theorem tNot_i (k : A σ H fun c H1 => P (!c) H1) : tNot A σ H P := k
theorem tSeq_i (k : t { D with nx := u D } σ H) : tSeq t u D σ H := k
theorem tNext_i (k : D.nx σ H) : tNext D σ H := k
theorem tRet_i (k : te σ H D.rt) : tRet te D σ H := k
theorem tIfS_i (k : A σ H fun b H1 => if b = true then t D σ H1 else u D σ H1) : tIfS A t u D σ H := k
theorem tAsg_i {g : TG} (k : te σ H fun x H1 => g x σ H1 D.nx) : tAsg te g D σ H := k
theorem tDrop_i (k : te σ H fun _ H1 => D.nx σ H1) : tDrop te D σ H := k
theorem gName_i {N : St → Hp → Prop} (k : N (σ.set n (some v)) H) : gName n v σ H N := k
theorem tCB_i {r : List V → Hp → VK → Prop} {a : TA} (k : a σ H fun vs H1 => r vs H1 Q) : tCB r a σ H Q := k
theorem tCons_i {a : TA} {R : List V → Hp → Prop} (k : ta σ H fun x H1 => a σ H1 fun xs H2 => R (x :: xs) H2) : tCons ta a σ H R := k
theorem tNil_i {R : List V → Hp → Prop} (k : R [] H) : tNil σ H R := k
theorem tBM_i {T : String} {r : V → List V → Hp → VK → Prop} {a : TA} (k : ta σ H fun x H1 => tyV K T x H1 ∧ a σ H1 fun xs H2 => r x xs H2 Q) : tBM K T r ta a σ H Q := k
theorem tBM0_i {T : String} {r : V → List V → Hp → VK → Prop} (k : ta σ H fun x H1 => tyV K T x H1 ∧ r x [] H1 Q) : tBM0 K T r ta σ H Q := k
theorem tTup_i {a : TA} (k : a σ H fun xs H1 => xs.length ≤ sizeLine ∧ ∀ p, H1 p = none → Q (.ref p) (upd H1 p (.tup xs))) : tTup a σ H Q := k
theorem tLst_i {a : TA} (k : a σ H fun xs H1 => xs.length ≤ sizeLine ∧ ∀ p, H1 p = none → Q (.ref p) (upd H1 p (.lst xs))) : tLst a σ H Q := k
theorem tSl_i {r : V → Option Int → Option Int → Hp → VK → Prop} {tl th : TO} (k : te σ H fun x H1 => tl σ H1 fun l H2 => th σ H2 fun u H3 => r x l u H3 Q) : tSl r te tl th σ H Q := k
theorem tNoPart_i {R : Option Int → Hp → Prop} (k : R none H) : tNoPart σ H R := k
theorem mPart_i {R : Option Int → Hp → Prop} (k : te σ H (mI R)) : mPart te σ H R := k
theorem mI_i {R : Option Int → Hp → Prop} (k : R (some i) H) : mI R (.int i) H := k
theorem mLen_l {a : Addr} {xs : List V} (c : SqL K H a xs) (k : Q (.int xs.length) H) : mLen K [.ref a] H Q := .inl ⟨xs, c, k⟩
theorem mLen_t {a : Addr} {xs : List V} (c : SqT K H a xs) (k : Q (.int xs.length) H) : mLen K [.ref a] H Q := .inr ⟨xs, c, k⟩
theorem mIx_l {a : Addr} {xs : List V} (c : SqL K H a xs) (e : atI xs i = some v) (k : Q v H) : mIx K (.ref a) (.int i) H Q := .inl ⟨xs, v, c, e, k⟩
theorem mIx_t {a : Addr} {xs : List V} (c : SqT K H a xs) (e : atI xs i = some v) (k : Q v H) : mIx K (.ref a) (.int i) H Q := .inr ⟨xs, v, c, e, k⟩
theorem mAppend_i {a : Addr} {xs : List V} (e : H a = some (.lst xs)) (c : xs.length < sizeLine) (k : Q .non (upd H a (.lst (xs ++ [v])))) : mAppend (.ref a) [v] H Q := ⟨xs, e, c, k⟩
theorem iteB {c d : Prop} (h1 : b = true → c) (h2 : b = false → d) : if b = true then c else d := by
  cases b with
  | true => exact h1 rfl
  | false => exact h2 rfl
theorem tCall0_i {sp : Sp} {E : XK} {a : TA} (k : a σ H fun vs H1 => sp vs H1 Q E) : tCall sp [] E a σ H Q := by
  unfold tCall
  have e : (fun (vs : List V) (H1 : Hp) => sp (vs ++ []) H1 Q E) = fun vs H1 => sp vs H1 Q E := by funext vs H1; rw [List.append_nil]
  rw [e]; exact k
theorem tFor_i {wi : TI} {g : TG} (k : wi σ H fun J H1 => ForW J g t D σ H1) : tFor wi g t D σ H := k
theorem iStr_i {R : It → Hp → Prop} (k : ta σ H fun v H1 => ∃ x, v = .str x ∧ R (Its x) H1) : iStr ta σ H R := k
theorem iList_i {R : It → Hp → Prop} (k : ta σ H fun x H1 => ∃ a, x = .ref a ∧ (∃ xs, SqL K H1 a xs) ∧ R (Itl K a) H1) : iList K ta σ H R := k
theorem iTup_i {R : It → Hp → Prop} (k : ta σ H fun x H1 => ∃ a, x = .ref a ∧ (∃ xs, SqT K H1 a xs) ∧ R (Itt K a) H1) : iTup K ta σ H R := k
theorem iRng1_i {a : TA} {R : It → Hp → Prop} (k : a σ H fun vs H1 => ∃ j : Int, vs = [.int j] ∧ -(2 ^ 62) ≤ j ∧ j < 2 ^ 62 ∧ R (Itr 0 j.toNat) H1) : iRng1 a σ H R := k
theorem tComp_i {wi : TI} {tt : TT} (k : wi σ H fun J H1 => ∀ D, H1 D = none → CompW J tt te σ Q D H1) : tComp wi tt te σ H Q := k
theorem seq_rest (Post : St → Hp → Prop) (h1 : ∀ σ' H', Post σ' H' → u D σ' H') (h2 : (∀ σ' H', Post σ' H' → u D σ' H') → t { D with nx := u D } σ H) : tSeq t u D σ H := h2 h1
end
end L2
set_option Elab.async false
set_option linter.all false
set_option maxRecDepth 100000
set_option maxHeartbeats 4000000
namespace L2
open PySem PySem.Spec PyProof.Rows
mutual
inductive Den (K : PySem.W.Frag) (H : Hp) : V → PyData → Prop
  | non : Den K H .non .none
  | bl (b : Bool) : Den K H (.bl b) (.bool b)
  | int (i : Int) : Den K H (.int i) (.int i)
  | str (x : Str) : Den K H (.str x) (.str x)
  | tup {a : Addr} {us : List V} {ds : List PyData} : SqT K H a us → DenL K H us ds → Den K H (.ref a) (.tuple ds)
inductive DenL (K : PySem.W.Frag) (H : Hp) : List V → List PyData → Prop
  | nil : DenL K H [] []
  | cons {u : V} {us : List V} {d : PyData} {ds : List PyData} : Den K H u d → DenL K H us ds → DenL K H (u :: us) (d :: ds)
end
mutual
theorem Den.monoT {K : PySem.W.Frag} {H H' : Hp} (e : ∀ a xs, SqT K H a xs → SqT K H' a xs) : ∀ {v : V} {d : PyData}, Den K H v d → Den K H' v d
  | _, _, .non => .non
  | _, _, .bl b => .bl b
  | _, _, .int i => .int i
  | _, _, .str x => .str x
  | _, _, .tup h l => .tup (e _ _ h) (DenL.monoT e l)
theorem DenL.monoT {K : PySem.W.Frag} {H H' : Hp} (e : ∀ a xs, SqT K H a xs → SqT K H' a xs) : ∀ {v : List V} {d : List PyData}, DenL K H v d → DenL K H' v d
  | _, _, .nil => .nil
  | _, _, .cons h l => .cons (Den.monoT e h) (DenL.monoT e l)
end
theorem Den.mono {K : PySem.W.Frag} {H H' : Hp} (e : Same H H') {v : V} {d : PyData} (h : Den K H v d) : Den K H' v d := h.monoT fun _ _ q => e.tup q
theorem DenL.mono {K : PySem.W.Frag} {H H' : Hp} (e : Same H H') {v : List V} {d : List PyData} (h : DenL K H v d) : DenL K H' v d := h.monoT fun _ _ q => e.tup q
theorem tup_lst {K : PySem.W.Frag} {H : Hp} {p : Addr} {ys : List V} {o : HO} (h : H p = some (.lst ys)) : ∀ a xs, SqT K H a xs → SqT K (upd H p o) a xs := fun a xs q => by
  rcases q with (q | ⟨o', q⟩) | q
  · exact .inl (.inl (by rw [upd_ne (ne_of q h (fun z => by cases z))]; exact q))
  · exact .inl (.inr ⟨o', by rw [upd_ne (ne_of q h (fun z => by cases z))]; exact q⟩)
  · exact .inr q
theorem Den.lst {K : PySem.W.Frag} {H : Hp} {p : Addr} {ys : List V} {o : HO} (h : H p = some (.lst ys)) {v : V} {d : PyData} (q : Den K H v d) : Den K (upd H p o) v d := q.monoT (tup_lst h)
theorem DenL.lst {K : PySem.W.Frag} {H : Hp} {p : Addr} {ys : List V} {o : HO} (h : H p = some (.lst ys)) {v : List V} {d : List PyData} (q : DenL K H v d) : DenL K (upd H p o) v d := q.monoT (tup_lst h)
section
variable {K : PySem.W.Frag} {H : Hp}
theorem DenL.length : ∀ {us : List V} {ds : List PyData}, DenL K H us ds → us.length = ds.length
  | _, _, .nil => rfl
  | _, _, .cons _ l => by rw [List.length_cons, List.length_cons, DenL.length l]
theorem DenL.get : ∀ {us : List V} {ds : List PyData} {i : Nat} {u : V}, DenL K H us ds → us[i]? = some u → ∃ d, ds[i]? = some d ∧ Den K H u d
  | _, _, _, _, .nil, e => by simp at e
  | _, _, 0, _, .cons h _, e => by simp at e; subst e; exact ⟨_, rfl, h⟩
  | _, _, i + 1, u, .cons _ l, e => by
    obtain ⟨d, h1, h2⟩ := DenL.get (i := i) (u := u) l (by simpa using e)
    exact ⟨d, by simpa using h1, h2⟩
theorem DenL.append : ∀ {us vs : List V} {ds es : List PyData}, DenL K H us ds → DenL K H vs es → DenL K H (us ++ vs) (ds ++ es)
  | _, _, _, _, .nil, l => l
  | _, _, _, _, .cons h t, l => .cons h (DenL.append t l)
theorem DenL.take : ∀ {us : List V} {ds : List PyData} (n : Nat), DenL K H us ds → DenL K H (us.take n) (ds.take n)
  | _, _, 0, _ => .nil
  | _, _, _ + 1, .nil => .nil
  | _, _, n + 1, .cons h t => .cons h (DenL.take n t)
theorem DenL.drop : ∀ {us : List V} {ds : List PyData} (n : Nat), DenL K H us ds → DenL K H (us.drop n) (ds.drop n)
  | _, _, 0, l => l
  | _, _, _ + 1, .nil => .nil
  | _, _, n + 1, .cons _ t => DenL.drop n t
end
section
variable {X : Cx} {pins : List (Addr × Obj)} {σ : St} {H : Hp} {s : Shared}
theorem depthAll_get : ∀ {ds : List PyData} {i : Nat} {d : PyData}, ds[i]? = some d → d.depth ≤ PyData.depthAll ds
  | [], _, _, e => by simp at e
  | x :: r, 0, d, e => by simp at e; subst e; unfold PyData.depthAll; omega
  | x :: r, i + 1, d, e => by
    have := depthAll_get (ds := r) (i := i) (d := d) (by simpa using e)
    unfold PyData.depthAll; omega
theorem eq_same (I : Inv X pins σ H s) : ∀ (n : Nat) (A : Around) (d : PyData) (v v' : V) (u u' : Value), d.depth ≤ n → A.units + n < cLine → Den X.K H v d → Den X.K H v' d → RelV v u → RelV v' u' → SeqAt.EqAt A s u u' true := by
  intro n
  induction n with
  | zero =>
    intro A d v v' u u' hd hu h h' r r'
    cases h with
    | non => cases h'; cases r; cases r'; exact SeqAt.EqAt.same _
    | bl b => cases h'; cases r; cases r'; exact SeqAt.EqAt.same _
    | int i =>
      cases h'
      obtain ⟨t, rfl⟩ := r
      obtain ⟨t', rfl⟩ := r'
      have := SeqAt.EqAt.int_int (A := A) (s := s) i t i t'
      simpa using this
    | str x =>
      cases h'
      obtain ⟨t, rfl⟩ := r
      obtain ⟨t', rfl⟩ := r'
      have := SeqAt.EqAt.str_str (A := A) (s := s) x t x t'
      simpa using this
    | tup _ _ => simp [PyData.depth] at hd
  | succ n ih =>
    intro A d v v' u u' hd hu h h' r r'
    cases h with
    | non => cases h'; cases r; cases r'; exact SeqAt.EqAt.same _
    | bl b => cases h'; cases r; cases r'; exact SeqAt.EqAt.same _
    | int i =>
      cases h'
      obtain ⟨t, rfl⟩ := r
      obtain ⟨t', rfl⟩ := r'
      have := SeqAt.EqAt.int_int (A := A) (s := s) i t i t'
      simpa using this
    | str x =>
      cases h'
      obtain ⟨t, rfl⟩ := r
      obtain ⟨t', rfl⟩ := r'
      have := SeqAt.EqAt.str_str (A := A) (s := s) x t x t'
      simpa using this
    | @tup a us ds hs hl =>
      cases h' with
      | @tup b us' _ hs' hl' =>
        cases r
        cases r'
        by_cases e : a = b
        · subst e; exact SeqAt.EqAt.same _
        · obtain ⟨its, rv, p, _⟩ := I.tuple hs
          obtain ⟨its', rv', p', _⟩ := I.tuple hs'
          have l1 := rv.length
          have l2 := rv'.length
          have l3 := hl.length
          have l4 := hl'.length
          have hd' : PyData.depthAll ds ≤ n := by simp only [PyData.depth] at hd; omega
          have key := SeqAt.RcAt.tuples (A := A) (e := fun _ => true) (show s.heap.IsTuple a its.toArray from p) (show s.heap.IsTuple b its'.toArray from p') (by omega) (fun j h1 h2 => by
            have h1 : j < its.length := by simpa using h1
            have h2 : j < its'.length := by simpa using h2
            have x1 : us[j]? = some us[j] := List.getElem?_eq_getElem (by omega)
            have x2 : us'[j]? = some us'[j] := List.getElem?_eq_getElem (by omega)
            obtain ⟨d, e1, d1⟩ := hl.get x1
            obtain ⟨d', e2, d2⟩ := hl'.get x2
            rw [e1] at e2; cases e2
            obtain ⟨w1, y1, z1⟩ := rv.get x1
            obtain ⟨w2, y2, z2⟩ := rv'.get x2
            have q1 : its.toArray[j] = w1 := by
              have := List.getElem?_eq_getElem h1
              rw [y1] at this
              simpa using (Option.some.inj this).symm
            have q2 : its'.toArray[j] = w2 := by
              have := List.getElem?_eq_getElem h2
              rw [y2] at this
              simpa using (Option.some.inj this).symm
            rw [q1, q2]
            exact ih A.in1 d _ _ _ _ (Nat.le_trans (depthAll_get e1) hd') (by show A.units + 1 + n < cLine; omega) d1 d2 z1 z2)
          have e3 : its.toArray.size = its'.toArray.size := by simp only [List.size_toArray]; omega
          rw [e3] at key
          have e4 : ((List.range (min its'.toArray.size its'.toArray.size)).all (fun _ => true) && its'.toArray.size == its'.toArray.size) = true := by simp
          rw [e4] at key
          exact SeqAt.EqAt.of_refs e key
end
section
variable {X : Cx} {a b c e : Expr} {ta tb tc te : TE} {pos : Pos} {tg l : Expr} {tl : TE}
noncomputable def dEq (K : PySem.W.Frag) (n : Bool) : R2 := fun x y H Q => ∃ (p q : Addr) (us us' : List V) (ds : List PyData), x = .ref p ∧ y = .ref q ∧ ((SqT K H p us ∧ SqT K H q us') ∨ (SqL K H p us ∧ SqL K H q us')) ∧ DenL K H us ds ∧ DenL K H us' ds ∧ PyData.depthAll ds ≤ 149 ∧ Q (.bl (!n)) H
theorem items_eq {pins : List (Addr × Obj)} {σ : St} {H : Hp} {s : Shared} (I : Inv X pins σ H s) {A : Around} {us us' : List V} {ds : List PyData} {its its' : List Value} (hl : DenL X.K H us ds) (hl' : DenL X.K H us' ds) (rv : Vals us its) (rv' : Vals us' its') (hd : PyData.depthAll ds ≤ 149) (hu : A.units + 150 < cLine) :
    ∀ j (h1 : j < its.toArray.size) (h2 : j < its'.toArray.size), SeqAt.EqAt A.in1 s its.toArray[j] its'.toArray[j] true := fun j h1 h2 => by
  have l1 := rv.length
  have l2 := rv'.length
  have l3 := hl.length
  have l4 := hl'.length
  have h1 : j < its.length := by simpa using h1
  have h2 : j < its'.length := by simpa using h2
  have x1 : us[j]? = some us[j] := List.getElem?_eq_getElem (by omega)
  have x2 : us'[j]? = some us'[j] := List.getElem?_eq_getElem (by omega)
  obtain ⟨d, e1, d1⟩ := hl.get x1
  obtain ⟨d', e2, d2⟩ := hl'.get x2
  rw [e1] at e2; cases e2
  obtain ⟨w1, y1, z1⟩ := rv.get x1
  obtain ⟨w2, y2, z2⟩ := rv'.get x2
  have q1 : its.toArray[j] = w1 := by
    have := List.getElem?_eq_getElem h1
    rw [y1] at this
    simpa using (Option.some.inj this).symm
  have q2 : its'.toArray[j] = w2 := by
    have := List.getElem?_eq_getElem h2
    rw [y2] at this
    simpa using (Option.some.inj this).symm
  rw [q1, q2]
  exact eq_same I 149 A.in1 d _ _ _ _ (Nat.le_trans (depthAll_get e1) hd) (by show A.units + 1 + 149 < cLine; omega) d1 d2 z1 z2
theorem ko_neD (K : PySem.W.Frag) (hK : X.K = K) (hu : X.A.units + 150 < cLine) : OpR X (compareOp .NotEq) (dEq K true) := by
  subst hK
  intro pins s σ H x y v u Q I rx ry h
  obtain ⟨p, q, us, us', ds, rfl, rfl, h, hl, hl', hd, k⟩ := h
  cases rx
  cases ry
  rcases h with ⟨hs, hs'⟩ | ⟨hs, hs'⟩
  · obtain ⟨its, rv, p1, _⟩ := I.tuple hs
    obtain ⟨its', rv', p2, _⟩ := I.tuple hs'
    have e3 : its.toArray.size = its'.toArray.size := by simp only [List.size_toArray]; rw [← rv.length, ← rv'.length, hl.length, hl'.length]
    refine SeqAt.RcNeAt.tuples (e := fun _ => true) (show s.heap.IsTuple p its.toArray from p1) (show s.heap.IsTuple q its'.toArray from p2) (by omega) (items_eq I hl hl' rv rv' hd hu) X.prog X.w _ _ ?_
    rw [e3]
    exact ⟨.bl false, H, I, by simp [RelV], k⟩
  · obtain ⟨its, rv, p1, _⟩ := I.list hs
    obtain ⟨its', rv', p2, _⟩ := I.list hs'
    have e3 : its.toArray.size = its'.toArray.size := by simp only [List.size_toArray]; rw [← rv.length, ← rv'.length, hl.length, hl'.length]
    refine SeqAt.RcNeAt.lists (e := fun _ => true) p1.isList p2.isList e3 (by omega) (items_eq I hl hl' rv rv' hd hu) X.prog X.w _ _ ?_
    exact ⟨.bl false, H, I, by simp [RelV], k⟩
theorem room150 {k : Nat} {A : Around} (hr : Room k A) : A.units + 150 < cLine := by have := hr.un; omega
noncomputable def mSlL (K : PySem.W.Frag) : V → Option Int → Option Int → Hp → VK → Prop := fun x lo hi H Q => ∃ a xs, x = .ref a ∧ SqL K H a xs ∧ ∀ p, H p = none → Q (.ref p) (upd H p (.lst (cutV xs lo hi)))
theorem ks_list (K : PySem.W.Frag) (h : X.K = K) : SlR X (mSlL K) := h ▸ sl_list
noncomputable def mTup (K : PySem.W.Frag) : List V → Hp → VK → Prop := fun vs H Q => ∃ p ys, vs = [.ref p] ∧ ((SqL K H p ys ∧ ∀ l, H l = none → Q (.ref l) (upd H l (.tup ys))) ∨ (SqT K H p ys ∧ Q (.ref p) H))
theorem kc_tuple (K : PySem.W.Frag) (h : X.K = K) : CallR X (.type "tuple") (mTup K) := h ▸ call_tuple_of
noncomputable def mLst (K : PySem.W.Frag) : List V → Hp → VK → Prop := fun vs H Q => ∃ p ys, vs = [.ref p] ∧ (SqL K H p ys ∨ SqT K H p ys) ∧ ∀ l, H l = none → Q (.ref l) (upd H l (.lst ys))
theorem kc_list (K : PySem.W.Frag) (h : X.K = K) : CallR X (.type "list") (mLst K) := h ▸ call_list_of
noncomputable def mMin : List V → Hp → VK → Prop := fun vs H Q => ∃ i j, vs = [.int i, .int j] ∧ Q (.int (if j < i then j else i)) H
noncomputable def mMax : List V → Hp → VK → Prop := fun vs H Q => ∃ i j, vs = [.int i, .int j] ∧ Q (.int (if j > i then j else i)) H
end
open PySem.AutoSeq1 in
open PySem.MeetsSeq PySem.MeetsSeq2 PySem.MeetsSeq3 in
theorem extend_tup (l : Addr) (items : Array Value) (n : Nat) (b : Addr) (items2 : Array Value) (n2 : Nat) (dd : Option Addr) (sl : Array (Option Value)) (hs0 : ¬(!items.isEmpty && Builtin.List.listTooLong (items.size + items2.size)) = true) (hs1 : items.size ≤ sizeLine) (hs2 : items.size + items2.size ≤ sizeLine + 1) :
    Meets (Builtin.«list.extend» ⟨[.ref l, .ref b], []⟩) (fun _ R s => s.heap.get? l = some { cls := .type "list", dict := none, data := .seq items n, slots := #[] } ∧ s.heap.get? b = some { cls := .type "tuple", dict := dd, data := .seq items2 n2, slots := sl } ∧
      R (.ok (.ret Value.none)) { s with heap := s.heap.update l (Obj.mapSeq fun x => x ++ items2), toks := s.toks }) :=
  .of_wp fun prog w A R s h => by
    obtain ⟨hp, g, d, tk, os⟩ := s
    obtain ⟨hl, hb, h⟩ := h
    have f1 := idx_int
    have f2 := PySem.AutoSeq1.sub_tuple_tuple
    have f3 := PySem.AutoSeq1.sub_list_list
    have f4 := PySem.AutoSeq1.sub_tuple_list
    have f5 := PySem.AutoSeq1.sub_list_tuple
    have hz' : (items ++ items2).size ≤ sizeLine + 1 := by rw [Array.size_append]; exact hs2
    wp_walk using (wpAny_updateSeq hl rfl (hz := hs1) (_hz' := hz')), wpAny_loadPart' hl, wpAny_loadPart' hb
    exact ⟨_, rfl, h⟩
section
variable {X : Cx}
noncomputable def mExt (K : PySem.W.Frag) : V → List V → Hp → VK → Prop := fun x vs H Q => ∃ l b xs zs, x = .ref l ∧ vs = [.ref b] ∧ H l = some (.lst xs) ∧ (H b = some (.lst zs) ∨ SqT K H b zs) ∧ xs.length + zs.length ≤ sizeLine ∧ Q .non (upd H l (.lst (xs ++ zs)))
theorem km_extend (K : PySem.W.Frag) (hK : X.K = K) : MtR X "list.extend" (mExt K) := by
  subst hK
  intro pins s σ H x vs v us Q I rx rv h
  obtain ⟨l, b, xs, zs, e1, e2, hH, hB, hz, q⟩ := h
  rcases hB with hB | hB
  · exact mt_extend pins s σ H x vs v us Q I rx rv ⟨l, b, xs, zs, e1, e2, hH, hB, hz, q⟩
  · subst e1 e2
    cases rx
    obtain ⟨u, rfl, ru⟩ := rv.one
    cases ru
    obtain ⟨z, its, n, r, hl, e⟩ := I.lstM hH
    obtain ⟨its2, r2, pl, z2⟩ := I.tuple hB
    obtain ⟨⟨cls, dd, data, sl⟩, ho, hc, n2, hd⟩ := pl
    simp only at hc hd
    subst hc hd
    have hl2 := r2.length
    have hsz : its.toArray.size + its2.toArray.size ≤ sizeLine := by rw [List.size_toArray, List.size_toArray]; omega
    have hlong : ¬ (!its.toArray.isEmpty && Builtin.List.listTooLong (its.toArray.size + its2.toArray.size)) = true := by
      rw [notLongL hsz, Bool.and_false]
      exact Bool.false_ne_true
    refine call_meets F.slot_list_extend ⟨_, e, rfl⟩ F.entry_list_extend (F.args_list_extend_2 _ _) (extend_tup l its.toArray n b its2.toArray n2 dd sl hlong (by rw [List.size_toArray]; omega) (by omega)) ⟨e, ho, ?_⟩
    refine ⟨.non, _, I.lset (its' := its ++ its2) hH e (by simp) (r.append r2) ?_, rfl, q⟩
    rw [List.length_append]
    omega
end
section
variable {prog : Program} {w : World} {A : Around} {E : Value → Shared → Prop} {s : Shared}
theorem getItem_tuple_all {t sl : Addr} {items : Array Value} {vl vu : Value} {lo hi : Option Int} {Q : Value → Shared → Prop} (ht : IsTup s.heap t items) (hs : s.heap.IsSliceOf sl vl vu .none) (pl : IsPart vl lo) (pu : IsPart vu hi)
    (hw : HT.sIx items.size 0 lo = 0 ∧ HT.sIx items.size items.size hi = items.size) (h : Q (.ref t) s) : wpAny (model prog w) A (getItem (.ref t) (.ref sl)) Q E s := by
  obtain ⟨os, hos, hcs, hds⟩ := id hs
  have hTs : s.TypeIs (.ref sl) "slice" := ⟨os, hos, hcs⟩
  unfold getItem
  try with_reducible refine wpAny_holding ?_
  first | refine wpAny_bind (wpAny_pure ?_) | skip
  refine wpAny_bind (wpAny_sequenceKey ht.typeIs (by decide) ?_)
  refine wpAny_bind (wpAny_callSpecial?_slot (name := Str.ofString "__getitem__") ht.typeIs PyProof.Rows.slot_tuple_getitem
    (wpAny_call_entry PyProof.Rows.slot_tuple_getitem ht.typeIs entry_tuple_getitem ?_ (args_tuple_getitem _ _)))
  show wpAny _ _ (Builtin.Tuple.tupleItemsOf (.ref t) >>= _) _ _ s
  refine wpAny_bind (tupleItemsOf_ ht ?_)
  refine wpAny_bind (wpAny_typeOf hTs ?_)
  rw [if_pos (by decide)]
  refine wpAny_bind (HT.sliceApplied_gen hs pl pu ?_)
  show wpAny _ _ (if (((HT.sIx items.size 0 lo : Nat) : Int) == 0 && (1 : Int) == 1 && (HT.sIx items.size items.size hi - HT.sIx items.size 0 lo) == items.size) = true then _ else _) _ _ s
  rw [if_pos (by rw [hw.1, hw.2]; simp)]
  refine wpAny_bind ?_
  unfold Builtin.Tuple.tupleIsExact
  refine wpAny_bind (wpAny_typeOf ht.typeIs (wpAny_pure ?_))
  rw [if_pos (by decide)]
  exact wpAny_bind (wpAny_rule (wpAny_pure ⟨_, rfl, wpAny_pure h⟩))
end
section
variable {X : Cx}
noncomputable def wholeT (xs : List V) (lo hi : Option Int) : Prop := HT.sIx xs.length 0 lo = 0 ∧ HT.sIx xs.length xs.length hi = xs.length
noncomputable def mSlT (K : PySem.W.Frag) : V → Option Int → Option Int → Hp → VK → Prop := fun x lo hi H Q => ∃ a xs, x = .ref a ∧ SqT K H a xs ∧ (wholeT xs lo hi → Q (.ref a) H) ∧ (¬ wholeT xs lo hi → ∀ p, H p = none → Q (.ref p) (upd H p (.tup (cutV xs lo hi))))
theorem ks_tup (K : PySem.W.Frag) (hK : X.K = K) : SlR X (mSlT K) := by
  subst hK
  intro pins s σ H x v vl vu lo hi sl Q I rx hs pl pu h
  obtain ⟨a, xs, rfl, hx, h1, h2⟩ := h
  by_cases hw : wholeT xs lo hi
  · cases rx
    obtain ⟨its, r, ht, hz⟩ := I.tuple hx
    have hlen : its.toArray.size = xs.length := by rw [List.size_toArray]; exact r.length.symm
    exact ⟨"tuple", _, PyProof.Rows.slot_tuple_getitem.lookup, ht.typeIs, getItem_tuple_all ht hs pl pu (by rw [hlen]; exact hw) ⟨.ref a, H, I, rfl, h1 hw⟩⟩
  · exact sl_tup pins s σ H _ v vl vu lo hi sl Q I rx hs pl pu ⟨a, xs, rfl, hx, hw, h2 hw⟩
end
section
variable {σ : St} {H : Hp} {D : Ends} {t : TS} {c : TT}
noncomputable def WhileW (c : TT) (t : TS) (D : Ends) (σ : St) (H : Hp) : Prop := tWhile c t D σ H
theorem tWhile_i (k : WhileW c t D σ H) : tWhile c t D σ H := k
theorem while_row (Pv : Nat → St → Hp → Prop) (n : Nat) (h0 : Pv n σ H)
    (hs : ∀ n σ H (R : Bool → Hp → Prop), Pv n σ H → (∀ H1, (∀ (D' : Ends), D'.rt = D.rt → D'.bk = D.nx → (∀ σ' H' m, m < n → Pv m σ' H' → D'.nx σ' H') → (∀ σ' H' m, m < n → Pv m σ' H' → D'.ct σ' H') → t D' σ H1) → R true H1) → (∀ H1, D.nx σ H1 → R false H1) → c σ H R) : WhileW c t D σ H := by
  refine ⟨Pv, ⟨n, h0⟩, fun m σ H p => ?_⟩
  refine hs m σ H _ p (fun H1 k => ?_) (fun H1 k => k)
  exact ⟨fun σ' H' => ∃ m', m' < m ∧ Pv m' σ' H', fun _ _ h => h, k _ rfl rfl (fun _ _ m' hm hp => ⟨m', hm, hp⟩) (fun _ _ m' hm hp => ⟨m', hm, hp⟩)⟩
end
end L2
set_option Elab.async false
set_option linter.all false
set_option maxRecDepth 100000
set_option maxHeartbeats 4000000
namespace L2
open PySem PySem.Spec PyProof.Rows
theorem kit_ty {K : PySem.W.Frag} {T n : String} {b : Bool} (h : (if (Value.type T == Value.type n) = true then some true else if PySem.W.kitMeta n = true then (fastBuiltinMro T).map (·.contains (.type n)) else none) = some b) : PySem.W.kitOne K (.type T) (.type n) = some b := h
section
variable {X : Cx} {a : Expr} {ta : TE}
noncomputable def tyN (K : PySem.W.Frag) (H : Hp) : V → String → Prop
  | .non, T => T = "NoneType"
  | .bl _, T => T = "bool"
  | .int _, T => T = "int"
  | .str _, T => T = "str"
  | .ref p, T => (T = "list" ∧ ∃ xs, SqL K H p xs) ∨ (T = "tuple" ∧ ∃ xs, SqT K H p xs) ∨ (T = "dict" ∧ ∃ kvs, H p = some (.dK kvs))
  | _, _ => False
noncomputable def mIs (K : PySem.W.Frag) : List V → Hp → VK → Prop := fun vs H Q => ∃ x n T b, vs = [x, .ty n] ∧ tyN K H x T ∧ (∀ K' : PySem.W.Frag, PySem.W.kitOne K' (.type T) (.type n) = some b) ∧ Q (.bl b) H
theorem kc_is (K : PySem.W.Frag) (hK : X.K = K) : CallR X (.builtin "isinstance") (mIs K) := by
  subst hK
  intro pins s σ H xs us Q I r h
  obtain ⟨x, n, T, b, rfl, ht, hk, q⟩ := h
  obtain ⟨u, w', rfl, r1, r2⟩ := vals2 r
  cases r2
  have fin : ∀ tk, EP X pins σ Q (.bool b) { s with toks := tk } := fun tk => ⟨.bl b, H, I.tok _, rfl, q⟩
  cases x with
  | non => cases ht; exact isinst_ok I r1 .non (hk _) fin
  | bl y => cases ht; exact isinst_ok I r1 (.bl y) (hk _) fin
  | int i => cases ht; exact isinst_ok I r1 (.int i) (hk _) fin
  | str z => cases ht; exact isinst_ok I r1 (.str z) (hk _) fin
  | ref p =>
    cases r1
    rcases ht with ⟨rfl, xs, hs⟩ | ⟨rfl, xs, hs⟩ | ⟨rfl, kvs, hs⟩
    · obtain ⟨its, _, ⟨o, n', h1, h2, _⟩, _⟩ := I.list hs
      exact PySem.W.kia_one PySem.W.kitx_list I.kIn ⟨o, h1, h2⟩ (hk _) (fun z => nomatch z) fin
    · obtain ⟨its, _, ⟨o, h1, h2, _⟩, _⟩ := I.tuple hs
      exact PySem.W.kia_one PySem.W.kitx_tuple I.kIn ⟨o, h1, h2⟩ (hk _) (fun z => nomatch z) fin
    · exact isinst_ok (x := .ref p) I rfl (.dK hs) (hk _) fin
  | _ => exact (show False from ht).elim
end
section
variable {K : PySem.W.Frag} {H : Hp} {Q : VK} {i : Int} {p : Str} {b : Bool} {a : Addr} {xs : List V}
theorem is_str (k : Q (.bl true) H) : mIs K [.str p, .ty "str"] H Q := ⟨_, _, _, true, rfl, rfl, fun _ => kit_same _ _, k⟩
theorem is_int (k : Q (.bl true) H) : mIs K [.int i, .ty "int"] H Q := ⟨_, _, _, true, rfl, rfl, fun _ => kit_same _ _, k⟩
theorem is_bool (k : Q (.bl true) H) : mIs K [.bl b, .ty "bool"] H Q := ⟨_, _, _, true, rfl, rfl, fun _ => kit_same _ _, k⟩
theorem is_int_bool (k : Q (.bl false) H) : mIs K [.int i, .ty "bool"] H Q := ⟨_, _, _, false, rfl, rfl, fun _ => kit_ty (by decide +kernel), k⟩
theorem mSlL_i {lo hi : Option Int} (c : SqL K H a xs) (k : ∀ p, H p = none → Q (.ref p) (upd H p (.lst (cutV xs lo hi)))) : mSlL K (.ref a) lo hi H Q := ⟨a, xs, rfl, c, k⟩
theorem mTup_l (c : SqL K H a xs) (k : ∀ l, H l = none → Q (.ref l) (upd H l (.tup xs))) : mTup K [.ref a] H Q := ⟨a, xs, rfl, .inl ⟨c, k⟩⟩
theorem mLst_l (c : SqL K H a xs) (k : ∀ l, H l = none → Q (.ref l) (upd H l (.lst xs))) : mLst K [.ref a] H Q := ⟨a, xs, rfl, .inl c, k⟩
theorem mMin_i {j : Int} (k : Q (.int (if j < i then j else i)) H) : mMin [.int i, .int j] H Q := ⟨i, j, rfl, k⟩
theorem mExt_t {zs : List V} {l : Addr} (e : H l = some (.lst xs)) (c : SqT K H a zs) (z : xs.length + zs.length ≤ sizeLine) (k : Q .non (upd H l (.lst (xs ++ zs)))) : mExt K (.ref l) [.ref a] H Q := ⟨l, a, xs, zs, rfl, rfl, e, .inr c, z, k⟩
theorem mExt_l {zs : List V} {l : Addr} (e : H l = some (.lst xs)) (c : H a = some (.lst zs)) (z : xs.length + zs.length ≤ sizeLine) (k : Q .non (upd H l (.lst (xs ++ zs)))) : mExt K (.ref l) [.ref a] H Q := ⟨l, a, xs, zs, rfl, rfl, e, .inl c, z, k⟩
theorem mPop_i {l : Addr} {v : V} (e : H l = some (.lst (xs ++ [v]))) (k : Q v (upd H l (.lst xs))) : mPop (.ref l) [] H Q := ⟨xs, v, e, k⟩
theorem mAdd_l {q : Addr} {ys : List V} (e1 : H a = some (.lst xs)) (e2 : H q = some (.lst ys)) (z : xs.length + ys.length ≤ sizeLine) (k : ∀ d, H d = none → Q (.ref d) (upd H d (.lst (xs ++ ys)))) : mAdd K (.ref a) (.ref q) H Q := .inl ⟨xs, ys, e1, e2, z, k⟩
theorem iRng2_i {σ : St} {ta : TA} {R : It → Hp → Prop} (k : ta σ H fun vs H1 => ∃ i j : Int, vs = [.int i, .int j] ∧ (-(2 ^ 62) ≤ i ∧ i < 2 ^ 62 ∧ -(2 ^ 62) ≤ j ∧ j < 2 ^ 62) ∧ R (Itr i (j - i).toNat) H1) : iRng2 ta σ H R := k
end
end L2
set_option Elab.async false
set_option linter.all false
set_option maxRecDepth 100000
set_option maxHeartbeats 4000000
namespace L2
open PySem PySem.Spec PyProof.Rows
section
variable {X : Cx}
end
noncomputable abbrev one (c : Nat) : Str := ⟨#[c]⟩
theorem ln {n : Nat} (h : n ≤ 100000) : n ≤ sizeLine := by rw [sizeLine_eq]; omega
theorem ln1 {n : Nat} (h : n < 100000) : n < sizeLine := by rw [sizeLine_eq]; omega
end L2
set_option Elab.async false
set_option linter.all false
set_option maxRecDepth 100000
set_option maxHeartbeats 4000000
namespace L2
open PySem PySem.Spec PyProof.Rows
section
variable {X : Cx} {e : Expr} {te : TE} {pos : Pos}
noncomputable def mAug (i : Nat) (te : TE) (ti : TIp) : TS := fun D σ H => ∃ x, σ[i]? = some (some x) ∧ te σ H fun y H1 => ti x y H1 fun z H2 => D.nx (σ.set i (some z)) H2
noncomputable def mIAdd : TIp := fun x y H Q => match x, y with
  | .int i, .int j => Q (.int (i + j)) H
  | .str i, .str j => i.length + j.length ≤ sizeLine ∧ Q (.str (i ++ j)) H
  | _, _ => False
end
section
variable {σ : St} {H : Hp} {Q : VK} {D : Ends} {te : TE} {n : Nat} {v : V} {i j : Int}
theorem mAug_i {ti : TIp} (h : σ[n]? = some (some v)) (k : te σ H fun y H1 => ti v y H1 fun z H2 => D.nx (σ.set n (some z)) H2) : mAug n te ti D σ H := ⟨v, h, k⟩
theorem mIAdd_i (k : Q (.int (i + j)) H) : mIAdd (.int i) (.int j) H Q := k
end
inductive Trm where
  | num (n : Int)
  | any (x : Str)
  | app (sg : Str) (ks : List Trm)
noncomputable abbrev numS : Str := Str.ofString "num"
noncomputable abbrev anyS : Str := Str.ofString "any"
noncomputable abbrev appS : Str := Str.ofString "app"
mutual
noncomputable def Trm.data : Trm → PyData
  | .num n => .tuple [.str numS, .int n]
  | .any x => .tuple [.str anyS, .str x]
  | .app sg ks => .tuple [.str appS, .str sg, .tuple (Trm.dataL ks)]
noncomputable def Trm.dataL : List Trm → List PyData
  | [] => []
  | t :: r => t.data :: Trm.dataL r
end
mutual
noncomputable def Trm.size : Trm → Nat
  | .num _ => 1
  | .any _ => 1
  | .app _ ks => 1 + Trm.sizeL ks
noncomputable def Trm.sizeL : List Trm → Nat
  | [] => 0
  | t :: r => t.size + Trm.sizeL r
end
section
variable {K : PySem.W.Frag} {H : Hp} {v : V}
theorem DenL.snoc {us : List V} {ds : List PyData} {d : PyData} (h : DenL K H us (ds ++ [d])) : ∃ us' u, us = us' ++ [u] ∧ DenL K H us' ds ∧ Den K H u d := by
  induction ds generalizing us with
  | nil =>
    cases h with
    | cons h1 h2 =>
      cases h2
      exact ⟨[], _, rfl, .nil, h1⟩
  | cons x r ih =>
    cases h with
    | cons h1 h2 =>
      obtain ⟨us', u, rfl, a, b⟩ := ih h2
      exact ⟨_ :: us', u, rfl, .cons h1 a, b⟩
theorem DenL.at {us : List V} {ds : List PyData} {i : Int} {d : PyData} (h : DenL K H us ds) (e : atI ds i = some d) : ∃ u, atI us i = some u ∧ Den K H u d := by
  obtain ⟨j, h1, h2, h3, h4, h5⟩ := atI_get e
  have hl := h.length
  have hj : j < us.length := by omega
  obtain ⟨d', e1, e2⟩ := h.get (List.getElem?_eq_getElem hj)
  rw [h2] at e1
  cases e1
  refine ⟨us[j], ?_, e2⟩
  unfold atI at e ⊢
  rw [hl]
  cases q : ixN ds.length i with
  | none => rw [q] at e; cases e
  | some k =>
    rw [q] at e
    have := (ixN_seq q).1
    rw [h1] at this
    cases this
    exact List.getElem?_eq_getElem hj
end
end L2
set_option Elab.async false
set_option linter.all false
set_option maxRecDepth 100000
set_option maxHeartbeats 4000000
namespace L2
open PySem PySem.Spec PyProof.Rows
noncomputable def Itv (K : PySem.W.Frag) (a : Addr) (n : Nat) : It := ⟨fun i H => ∃ xs, SqL K H a xs ∧ xs.length = n ∧ i < n, fun i H x H' => H' = H ∧ ∀ xs, SqL K H a xs → xs[n - 1 - i]? = some x, fun i _ => i = n⟩
section
variable {X : Cx} {tg : Expr}
noncomputable def iRev (K : PySem.W.Frag) (ta : TA) : TI := fun σ H R => ta σ H fun vs H1 => ∃ a xs, vs = [.ref a] ∧ SqL K H1 a xs ∧ R (Itv K a xs.length) H1
end
theorem iRev_i {K : PySem.W.Frag} {σ : St} {H : Hp} {ta : TA} {R : It → Hp → Prop} (k : ta σ H fun vs H1 => ∃ a xs, vs = [.ref a] ∧ SqL K H1 a xs ∧ R (Itv K a xs.length) H1) : iRev K ta σ H R := k
end L2
set_option Elab.async false
set_option linter.all false
set_option maxRecDepth 100000
set_option maxHeartbeats 4000000
namespace L2
open PySem PySem.Spec PyProof.Rows
section
variable {X : Cx}
theorem mMax_i {i j : Int} {H : Hp} {Q : VK} (k : Q (.int (if j > i then j else i)) H) : mMax [.int i, .int j] H Q := ⟨i, j, rfl, k⟩
end
end L2
set_option Elab.async false
set_option linter.all false
set_option maxRecDepth 100000
set_option maxHeartbeats 4000000
namespace L2
open PySem PySem.Spec PyProof.Rows
section
variable {X : Cx}
end
end L2
namespace L2
open PySem PySem.Spec PyProof.Rows
section
variable {X : Cx}
noncomputable def rDIn (n : Bool) : R2 := fun x y H Q => ∃ a o, y = .ref a ∧ DGet H a x o ∧ Q (.bl (n ^^ o.isSome)) H
theorem ko_ninD (hu : X.A.units + 1 < cLine) : OpR X (compareOp .NotIn) (rDIn true) := by
  intro pins s σ H x y v u Q I rx ry h
  obtain ⟨a, o, rfl, g, q⟩ := h
  cases ry
  exact d_notIn hu I g rx fun s3 I3 => ⟨.bl _, H, I3, rfl, by simpa using q⟩
end
section
variable {σ : St} {H : Hp} {Q : VK} {D : Ends} {td ty tx tv : TE}
theorem tDGet_i (k : td σ H fun x H1 => ty σ H1 fun y H2 => ∃ a v, x = .ref a ∧ DGet H2 a y (some v) ∧ Q v H2) : tDGet td ty σ H Q := k
theorem tDGet2_i (k : td σ H fun x H1 => ∃ a, x = .ref a ∧ IsD H1 a ∧ ty σ H1 fun y H2 => tx σ H2 fun z H3 => ∃ o, DGet H3 a y o ∧ Q (o.getD z) H3) : tDGet2 td ty tx σ H Q := k
theorem sDPut_i (k : tv σ H fun v H1 => td σ H1 fun x H2 => ty σ H2 fun y H3 => ∃ a H4, x = .ref a ∧ DPut H3 a y v H4 ∧ D.nx σ H4) : sDPut td ty tv D σ H := k
theorem tDisp_i {trs : List (TE × TE)} (k : ∀ p, H p = none → tPairs trs σ (upd H p (.dK [])) fun ps H2 => H2 p = some (.dK []) ∧ ∃ kvs : List (Key × V), ps = kvs.map (fun kv => (kV kv.1, kv.2)) ∧ kvs.length ≤ 15 ∧ Q (.ref p) (upd H2 p (.dK (mergeK [] kvs)))) : tDisp trs σ H Q := k
theorem tPairs_c {tk tv : TE} {r : List (TE × TE)} {R : List (V × V) → Hp → Prop} (k : tk σ H fun x H1 => tv σ H1 fun y H2 => tPairs r σ H2 fun ps H3 => R ((x, y) :: ps) H3) : tPairs ((tk, tv) :: r) σ H R := k
theorem tPairs_n {R : List (V × V) → Hp → Prop} (k : R [] H) : tPairs [] σ H R := k
end
end L2
set_option Elab.async false
set_option linter.all false
set_option maxRecDepth 100000
set_option maxHeartbeats 4000000
namespace L2
open PySem PySem.Spec PyProof.Rows
section
variable {X : Cx}
noncomputable def mIsN (n : Bool) : R2 := fun x y H Q => y = .non ∧ Q (.bl (n ^^ decide (x = .non))) H
theorem mo_isN : OpR X (compareOp .Is) (mIsN false) := op_isN.imp fun _ _ _ _ h => ⟨h.1, by have := h.2; rwa [Bool.false_xor] at this⟩
theorem isN_non {n : Bool} {H : Hp} {Q : VK} (k : Q (.bl (!n)) H) : mIsN n .non .non H Q := ⟨rfl, by rw [decide_eq_true rfl, Bool.xor_true]; exact k⟩
theorem isN_ref {n : Bool} {a : Addr} {H : Hp} {Q : VK} (k : Q (.bl n) H) : mIsN n (.ref a) .non H Q := ⟨rfl, by rw [decide_eq_false (fun z => by cases z), Bool.xor_false]; exact k⟩
noncomputable def mInt : List V → Hp → VK → Prop := fun vs H Q => match vs with
  | [.int i] => Q (.int i) H
  | [.bl b] => Q (.int (if b then 1 else 0)) H
  | _ => False
theorem mInt_b {b : Bool} {H : Hp} {Q : VK} (k : Q (.int (if b then 1 else 0)) H) : mInt [.bl b] H Q := k
end
noncomputable def But (p : Addr) (H H' : Hp) : Prop := ∀ b o, b ≠ p → H b = some o → H' b = some o
theorem But.refl (p : Addr) (H : Hp) : But p H H := fun _ _ _ h => h
theorem Same.but {p : Addr} {H H' : Hp} (s : Same H H') : But p H H' := fun b o _ h => s b o h
theorem But.trans {p : Addr} {H H1 H2 : Hp} (a : But p H H1) (b : But p H1 H2) : But p H H2 := fun c o n h => b c o n (a c o n h)
theorem but_upd {p : Addr} {H : Hp} (o : HO) : But p H (upd H p o) := fun b u n h => by rw [upd_ne n]; exact h
theorem But.tup {K : PySem.W.Frag} {p : Addr} {H H' : Hp} {ys : List V} (e : But p H H') (hp : H p = some (.lst ys)) {a : Addr} {xs : List V} (h : SqT K H a xs) : SqT K H' a xs := by
  rcases h with (h | ⟨o, h⟩) | h
  · exact .inl (.inl (e _ _ (fun z => by subst z; rw [hp] at h; cases h) h))
  · exact .inl (.inr ⟨o, e _ _ (fun z => by subst z; rw [hp] at h; cases h) h⟩)
  · exact .inr h
theorem But.den {K : PySem.W.Frag} {p : Addr} {H H' : Hp} {ys : List V} (e : But p H H') (hp : H p = some (.lst ys)) {v : V} {d : PyData} (h : Den K H v d) : Den K H' v d := h.monoT fun _ _ q => e.tup hp q
theorem But.denL {K : PySem.W.Frag} {p : Addr} {H H' : Hp} {ys : List V} (e : But p H H') (hp : H p = some (.lst ys)) {v : List V} {d : List PyData} (h : DenL K H v d) : DenL K H' v d := h.monoT fun _ _ q => e.tup hp q
theorem cutV_map {α : Type} (f : α → V) (xs : List α) (lo hi : Option Int) : cutV (xs.map f) lo hi = ((xs.drop (HT.sIx xs.length 0 lo)).take (HT.sIx xs.length xs.length hi - HT.sIx xs.length 0 lo)).map f := by
  unfold cutV
  rw [List.length_map, ← List.map_drop, ← List.map_take]
theorem sIx_to (n : Nat) (m : Int) (h : 0 ≤ m) : HT.sIx n n (some m) = min m.toNat n := by
  unfold HT.sIx
  have e : ¬ (m < 0) := by omega
  simp only [e, if_false]
end L2
set_option Elab.async false
set_option linter.all false
set_option maxRecDepth 100000
set_option maxHeartbeats 4000000
namespace L2
open PySem PySem.Spec PyProof.Rows
section
variable {X : Cx} {pins : List (Addr × Obj)} {σ : St} {H : Hp} {s : Shared} {h' : Heap}
theorem Inv.turnedLaid {t' : Nat} {ch : List Addr} {T : Addr} {o : HO} (I : Inv X pins σ H s) (hf : ∀ b ∈ ch, FpOk X pins H b) (k : ∀ b u, b ∉ ch → s.heap.get? b = some u → h'.get? b = some u) (hT : s.heap.objs.size ≤ T)
    (new : ObjOk X.prog X.w (upd H T o) h' T o) : Inv X pins σ (upd H T o) { s with heap := h', toks := t' } := by
  have hn : H T = none := I.hok.fresh hT
  have nin : ∀ b u, H b = some u → b ∉ ch := fun b u e hb => by rw [(hf b hb).1] at e; cases e
  have neT : ∀ b u, s.heap.get? b = some u → b ≠ T := fun b u e => Nat.ne_of_lt (Nat.lt_of_lt_of_le (Heap.lt_size e) hT)
  refine I.step (g' := s.gens) (d' := s.drawn) (ch := ch) (fun b hb => ⟨(hf b hb).2.2.2.1, (hf b hb).2.1, (hf b hb).2.2.2.2.1, (hf b hb).2.2.2.2.2⟩) (fun b u _ _ hc e _ => k b u hc e) (fun b u _ _ hc e _ => ⟨u.slots, k b u hc e⟩)
    (fun b u hc e n => by rw [upd_ne (neT b u e)]; exact n) (fun b u hc e => ⟨u, k b u hc e⟩) (fun b xs q => by rw [upd_ne (ne_of_none q hn)]; exact q) (fun b u xs q => by rw [upd_ne (ne_of_none q hn)]; exact q) (fun b ps q => ⟨#[], by rw [upd_ne (ne_of_none q hn), q]; simp⟩) (fun m hm => ?_) (fun b u e => ?_) I.bare
  · obtain ⟨q, es, ep, ho, r⟩ := hm
    exact ⟨q, es, ep, k _ q (fun hb => (hf _ hb).2.1 rfl) ho, r⟩
  · by_cases hb : b = T
    · subst hb; rw [upd_same] at e; cases e; exact new
    · rw [upd_ne hb] at e
      refine (I.hok b u e).stay (fun c v hc q => k c v ?_ q) (fun c q => by rw [upd_ne (ne_of_none q hn)]; exact q) fun c xs q => by rw [upd_ne (ne_of_none q hn)]; exact q
      rcases hc with z | z
      · rw [z]; exact nin b u e
      · exact nin c _ z
end
noncomputable def Ite (K : PySem.W.Frag) (a : Addr) (n : Nat) : It := ⟨fun i H => i < n ∧ ∃ xs, SqL K H a xs ∧ xs.length = n, fun i H v H' => ∃ T x, H T = none ∧ v = .ref T ∧ H' = upd H T (.tup [.int i, x]) ∧ ∀ xs, SqL K H a xs → xs[i]? = some x, fun i H => i = n ∧ ∃ xs, SqL K H a xs ∧ xs.length = n⟩
section
variable {X : Cx}
noncomputable def iEnum (K : PySem.W.Frag) (ta : TA) : TI := fun σ H R => ta σ H fun vs H1 => ∃ a xs, vs = [.ref a] ∧ SqL K H1 a xs ∧ R (Ite K a xs.length) H1
end
theorem iEnum_i {K : PySem.W.Frag} {σ : St} {H : Hp} {ta : TA} {R : It → Hp → Prop} (k : ta σ H fun vs H1 => ∃ a xs, vs = [.ref a] ∧ SqL K H1 a xs ∧ R (Ite K a xs.length) H1) : iEnum K ta σ H R := k
end L2
set_option Elab.async false
set_option linter.all false
set_option maxRecDepth 100000
set_option maxHeartbeats 4000000
namespace L2
open PySem PySem.Spec PyProof.Rows PySem.W
noncomputable def RawD (h : Heap) (a : Addr) (es : Array DictEntry) (ep : Nat) : Prop := ∃ o, h.get? a = some o ∧ o.ExactDict ∧ o.data = .dict es ep
theorem RawD.lt {h : Heap} {a : Addr} {es : Array DictEntry} {ep : Nat} (x : RawD h a es ep) : a < h.objs.size := let ⟨_, p, _⟩ := x; Heap.lt_size p
theorem RawD.ty {s : Shared} {a : Addr} {es : Array DictEntry} {ep : Nat} (x : RawD s.heap a es ep) : s.TypeIs (.ref a) "dict" := let ⟨o, p, c, _⟩ := x; ⟨o, p, c.1⟩
section
variable {prog : Program} {w : World} {A : Around} {E : Value → Shared → Prop} {s : Shared} {d : Addr} {es : Array DictEntry} {ep : Nat}
end
end L2
set_option Elab.async false
set_option linter.all false
set_option maxRecDepth 100000
set_option maxHeartbeats 4000000
namespace L2
open PySem PySem.Spec PyProof.Rows PySem.W
section
variable {X : Cx}
end
end L2
set_option Elab.async false
set_option linter.all false
set_option maxRecDepth 100000
set_option maxHeartbeats 4000000
namespace L2
open PySem PySem.Spec PyProof.Rows PySem.W
open PySem.AutoSeq1 (wpAny_loadPart')
noncomputable def EqIn (prog : Program) (w : World) (A : Around) (s : Shared) (y x : Value) : Prop := ∀ (E : Value → Shared → Prop) (Q : Bool → Shared → Prop), Q true s → wpAny (model prog w) A (eqBool y x) Q E s
section
variable {prog : Program} {w : World} {A : Around} {E : Value → Shared → Prop} {s : Shared}
theorem EqIn.at {y x : Value} (h : SeqAt.EqAt A s y x true) : EqIn prog w A s y x := fun E Q q => h prog w E Q q
variable {K : Type} [DecidableEq K] {knd : HeapKind prog w K}
end
section
variable {X : Cx}
end
end L2
set_option Elab.async false
set_option linter.all false
set_option maxRecDepth 100000
set_option maxHeartbeats 4000000
namespace L2
open PySem PySem.Spec PyProof.Rows PySem.W
section
variable {X : Cx}
theorem kpg_tup (K : PySem.W.Frag) (hK : X.K = K) {pos : Pos} {es : List Expr} {k : Nat} {t : TGs} {n : Nat} (hc : X.calm = true) (h : PGs X es t)
    (hn : (assignEach es X.env).length = n := by rfl) (hst : (assignEach es X.env).findIdx? (·.1) = none := by rfl) : PG X (.Tuple es k pos) (gTup K n t) := hK ▸ pg_tup hc h hn hst
end
section
variable {K : PySem.W.Frag} {σ : St} {H : Hp} {Q : VK} {D : Ends} {a : Addr} {xs : List V} {n : Nat}
theorem gTup_i {t : TGs} {N : St → Hp → Prop} (hs : SqT K H a xs) (hl : xs.length = n) (k : t xs σ H N) : gTup K n t (.ref a) σ H N := ⟨a, xs, rfl, hs, hl, k⟩
theorem gCons_i {t : TG} {u : TGs} {v : V} {r : List V} {N : St → Hp → Prop} (k : t v σ H fun σ' H' => u r σ' H' N) : gCons t u (v :: r) σ H N := ⟨v, r, rfl, k⟩
theorem gNil_i {N : St → Hp → Prop} (k : N σ H) : gNil [] σ H N := ⟨rfl, k⟩
end
end L2
set_option Elab.async false
set_option linter.all false
set_option maxRecDepth 100000
set_option maxHeartbeats 4000000
namespace L2
open PySem PySem.Spec PyProof.Rows PySem.W
section
variable {X : Cx}
theorem eqAt_kV {A : Around} {s : Shared} {a b : Key} {u v : Value} (ra : RelV (kV a) u) (rb : RelV (kV b) v) : SeqAt.EqAt A s u v (decide (a = b)) := by
  cases a with
  | inl i =>
    obtain ⟨t, rfl⟩ := ra
    cases b with
    | inl j =>
      obtain ⟨t', rfl⟩ := rb
      rw [key_ll]
      have := SeqAt.EqAt.int_int (A := A) (s := s) i t j t'
      simpa [PyData.eqv] using this
    | inr y =>
      obtain ⟨t', rfl⟩ := rb
      rw [key_lr]
      exact SeqAt.EqAt.int_str i t y t'
  | inr x =>
    obtain ⟨t, rfl⟩ := ra
    cases b with
    | inl j =>
      obtain ⟨t', rfl⟩ := rb
      rw [key_rl]
      exact SeqAt.EqAt.str_int x t j t'
    | inr y =>
      obtain ⟨t', rfl⟩ := rb
      rw [key_rr]
      have := SeqAt.EqAt.str_str (A := A) (s := s) x t y t'
      have e : (x == y) = decide (x = y) := by
        by_cases h : x = y
        · subst h; simp
        · rw [decide_eq_false h]; exact beq_eq_false_iff_ne.mpr h
      rw [← e]
      simpa [PyData.eqv] using this
theorem all_eq (k1 k2 : List Key) : ((List.range (min k1.length k2.length)).all (fun j => decide (k1[j]? = k2[j]?)) && (k1.length == k2.length)) = decide (k1 = k2) := by
  by_cases h : k1 = k2
  · subst h
    simp
  · rw [decide_eq_false h]
    cases hl : (k1.length == k2.length) with
    | false => rw [Bool.and_false]
    | true =>
      have hl : k1.length = k2.length := eq_of_beq hl
      rw [Bool.and_true]
      refine Bool.eq_false_iff.mpr fun z => h ?_
      apply List.ext_getElem?
      intro j
      by_cases hj : j < k1.length
      · exact of_decide_eq_true (List.all_eq_true.mp z j (List.mem_range.mpr (by omega)))
      · rw [List.getElem?_eq_none (by omega), List.getElem?_eq_none (by omega)]
end
end L2
set_option Elab.async false
set_option linter.all false
set_option maxRecDepth 100000
set_option maxHeartbeats 4000000
namespace L2
open PySem PySem.Spec PyProof.Rows PySem.W
section
variable {X : Cx} {pos pos' : Pos} {e k v : Expr} {te tk tv : TE} {st : Stmt} {rest : List Stmt} {t u : TS}
end
section
variable {X : Cx} {pos : Pos} {e : Expr} {te : TE}
end
section
variable {X : Cx} {tg : Expr}
noncomputable def iSeq (K : PySem.W.Frag) (tl : TE) : TI := fun σ H R => tl σ H fun x H1 => ∃ a, x = .ref a ∧ ((∃ xs, SqL K H1 a xs ∧ R (Itl K a) H1) ∨ ∃ xs, SqT K H1 a xs ∧ R (Itt K a) H1)
theorem iSeq_i {K : PySem.W.Frag} {σ : St} {H : Hp} {ta : TE} {R : It → Hp → Prop} (k : ta σ H fun x H1 => ∃ a, x = .ref a ∧ ((∃ xs, SqL K H1 a xs ∧ R (Itl K a) H1) ∨ ∃ xs, SqT K H1 a xs ∧ R (Itt K a) H1)) : iSeq K ta σ H R := k
noncomputable def mAbs : List V → Hp → VK → Prop := fun vs H Q => ∃ i, vs = [.int i] ∧ Q (.int (if i < 0 then -i else i)) H
theorem mAbs_i {i : Int} {H : Hp} {Q : VK} (k : Q (.int (if i < 0 then -i else i)) H) : mAbs [.int i] H Q := ⟨i, rfl, k⟩
end
end L2
set_option Elab.async false
set_option linter.all false
set_option maxRecDepth 100000
set_option maxHeartbeats 4000000
namespace L2
open PySem PySem.Spec PyProof.Rows PySem.W
section
variable {M : Model} {A : Around} {E : Value → Shared → Prop}
end
end L2
set_option Elab.async false
set_option linter.all false
set_option maxRecDepth 100000
set_option maxHeartbeats 4000000
namespace L2
open PySem PySem.W
noncomputable abbrev newS : String := "ValueError.__new__"
structure XCls (K : Frag) (C : Addr) (bm : List Value) : Prop where
  obj : ∃ nm q N bs sn sub ab col dd k0 k1 k2 k3 k5, K.lookup C = some (excClassObj nm q C N bs bm true sn sub ab col dd k0 k1 k2 k3 k5 newS)
  hasV : bm.contains (.type "ValueError") = true
  hasB : bm.contains (.type "BaseException") = true
  noA : bm.contains (.type "AttributeError") = false
  noN : bm.contains (.type "NameError") = false
section
variable {prog : Program} {w : World} {A : Around} {E : Value → Shared → Prop} {R : Result → Shared → Prop} {h : Heap} {g : Array GenState} {d : Drawn} {t : Nat} {os : OsState}
variable {nm q : Str} {C N : Addr} {bs bm : List Value} {sn : List Str} {sub : List Value} {ab : Bool} {col : Option Bool} {dd : Option Addr} {k0 k1 k2 k3 k5 : Option Value}
end
end L2
set_option Elab.async false
set_option linter.all false
set_option maxRecDepth 100000
set_option maxHeartbeats 4000000
namespace L2
open PySem PySem.W
section
variable {prog : Program} {w : World} {A : Around} {E : Value → Shared → Prop} {R : Result → Shared → Prop} {h : Heap} {g : Array GenState} {d : Drawn} {t : Nat} {os : OsState} {K : Frag} {C e : Addr} {bm : List Value} {o : Obj} {vs : Array Value}
noncomputable def XUp (bm : List Value) : Prop := ∃ l : List Value, (∀ v ∈ l, ∃ a, v = Value.ref a) ∧ bm = l ++ [.type "ValueError", .type "Exception", .type "BaseException", .type "object"]
end
end L2
set_option Elab.async false
set_option linter.all false
set_option maxRecDepth 100000
set_option maxHeartbeats 4000000
namespace L2
open PySem PySem.Spec PyProof.Rows PySem.W
noncomputable def XFp (e C : Addr) (dx : Option Addr) (fr : Bool) (h : Heap) : Prop := ∃ o vs t0 x, h.get? e = some o ∧ o.cls = .ref C ∧ o.dict = dx ∧ o.data = .fields vs ∧ vs[0]? = some (Value.ref t0) ∧ vs[1]? = some x ∧ (fr = true → x = .none) ∧ vs[2]? = some Value.none
noncomputable def XF (e C : Addr) (dx : Option Addr) (fr : Bool) : HO := .ext (XFp e C dx fr)
section
variable {X : Cx} {pins : List (Addr × Obj)} {σ : St} {H : Hp} {s : Shared}
end
section
variable {P : Program} {w : World} {K : Frag} {mg : Str → Option Value} {base : Heap} {N : List Str} {qual : Str} {scope : Scope} {f : Addr} {cd : Value} {A : Around} {outer : List Env} {s : Shared} {H : Hp} {E : XK}
end
end L2
set_option Elab.async false
set_option linter.all false
set_option maxRecDepth 100000
set_option maxHeartbeats 4000000
namespace L2
open PySem PySem.Spec PyProof.Rows PySem.W
section
variable {X : Cx} {pins : List (Addr × Obj)} {σ : St} {H : Hp} {s : Shared} {pos apos np : Pos} {a b o e value : Expr} {es : List Expr} {t : TA} {te ta tv : TE} {f x : Str}
noncomputable def tBInit (K : Frag) (t : TA) : TE := fun σ H Q => t σ H fun vs H2 => ∃ e C dx fr bm y, vs = [.ref e, y] ∧ H2 e = some (XF e C dx fr) ∧ XCls K C bm ∧ Q .non H2
structure XAttr (K : Frag) (C : Addr) : Prop where
  ga : findIn K (.ref C) "__getattribute__" = some (some (.builtin "BaseException.__getattribute__"))
  gx : findIn K (.ref C) "__getattr__" = some none
  sa : findIn K (.ref C) "__setattr__" = some (some (.builtin "object.__setattr__"))
noncomputable def tXSet (K : Frag) (ta tv : TE) (f : Str) : TS := fun D σ H => tv σ H fun y H1 => ta σ H1 fun x H2 => ∃ e C bm fr, x = .ref e ∧ XCls K C bm ∧ XUp bm ∧ XAttr K C ∧ NoAttr K C f ∧
  ((H2 e = some (XF e C none fr) ∧ ∀ dx, H2 dx = none → dx ≠ e → D.nx σ (upd (upd H2 dx (.xd [(f, y)])) e (XF e C (some dx) fr))) ∨ (∃ dx fs, H2 e = some (XF e C (some dx) fr) ∧ H2 dx = some (.xd fs) ∧ fs.length ≤ 900 ∧ D.nx σ (upd H2 dx (.xd (putF f y fs)))))
noncomputable def tXGet (K : Frag) (ta : TE) (f : Str) : TE := fun σ H Q => ta σ H fun x H1 => ∃ e C bm dx fs fr v, x = .ref e ∧ H1 e = some (XF e C (some dx) fr) ∧ XCls K C bm ∧ XAttr K C ∧ NoAttr K C f ∧ H1 dx = some (.xd fs) ∧ fs.lookup f = some v ∧ Q v H1
end
end L2
set_option Elab.async false
set_option linter.all false
set_option maxRecDepth 100000
set_option maxHeartbeats 4000000
namespace L2
open PySem PySem.Spec PyProof.Rows PySem.W
section
variable {X : Cx} {CX : CXT} {k : Nat} {f C : Addr} {fd : FuncData} {ps : List Str} {sp : Sp} {dvs : List V} {ds : List Value} {E : XK} {x m : Str} {p pos apos np : Pos} {e o : Expr} {es : List Expr} {ta te : TE} {t : TA} {bm : List Value}
noncomputable def tXMake (C : Addr) (sp : Sp) (dvs : List V) (E : XK) (t : TA) : TE := fun σ H Q => t σ H fun vs H1 => vs.length ≤ 1000 ∧ ∀ e, H1 e = none → sp (.ref e :: (vs ++ dvs)) (upd H1 e (XF e C none true)) (fun v H2 => v = .non ∧ Q (.ref e) H2) E
noncomputable def tRaise (EX : XK) (K : Frag) (te : TE) : TS := fun _ σ H => te σ H fun v H1 => ∃ e C dx bm, v = .ref e ∧ XCls K C bm ∧ H1 e = some (XF e C dx true) ∧ EX (.ref C) (some e) (upd H1 e (XF e C dx false))
end
end L2
set_option Elab.async false
set_option linter.all false
set_option maxRecDepth 100000
set_option maxHeartbeats 4000000
namespace L2
open PySem PySem.Spec PyProof.Rows PySem.W
section
variable {X : Cx} {pins : List (Addr × Obj)} {σ : St} {H : Hp} {s : Shared} {ea : Addr}
end
section
variable {X : Cx} {k : Nat} {f C' : Addr} {fd : FuncData} {ps : List Str} {sp : Sp} {dvs : List V} {ds : List Value} {x y nm cx : Str} {p pos apos cp hpos py tpos : Pos} {e : Expr} {es : List Expr} {t : TA} {bm' : List Value} {b0 : Stmt} {suite : List Stmt} {ts : TS} {i n : Nat}
noncomputable def tTry (K : Frag) (C' : Addr) (sp : Sp) (dvs : List V) (t : TA) (ok : Ends → St → V → Hp → Prop) (hd : Ends → St → Addr → Hp → Prop) : TS := fun D σ H => t σ H fun vs H1 => sp (vs ++ dvs) H1 (fun v H2 => ok D σ v H2) (fun c eo H2 => ∀ ea, eo = some ea → ∃ C dx bm, c = .ref C ∧ H2 ea = some (XF ea C dx false) ∧ XCls K C bm ∧ (Value.ref C :: bm).contains (.ref C') = true ∧ hd D σ ea H2)
end
end L2
set_option Elab.async false
set_option linter.all false
set_option maxRecDepth 100000
set_option maxHeartbeats 4000000
namespace L2
open PySem PySem.Spec PyProof.Rows PySem.W
structure FunD (K : Frag) (x qual : Str) (st : Stmt) (f : Addr) (fd : FuncData) (dV : Value) : Prop where
  ex : ∃ (oc : Value) (od : Option Addr) (kV doc pm : Value) (an : Option Addr) (cdv ct : Value) (osl : Array (Option Value)),
    fd = fnOf x qual (defArgs st) (defBody st) (defScope st) dV kV doc pm an cdv ct ∧ K.lookup f = some ⟨oc, od, .func fd, osl⟩ ∧ codeIn K cdv qual = true
  kp : keepIn K (.ref f) = true
section
variable {P : Program} {w : World} {K : Frag} {mg : Str → Option Value} {base : Heap}
theorem FunD.ok {dV : Value} {x qual : Str} {st : Stmt} {f : Addr} {fd : FuncData} {N ps : List Str} {k : Nat} {sp : Sp} (F : FunD K x qual st f fd dV) (S : FnScope N ps (defScope st)) (len : ∀ vs H Q E, sp vs H Q E → vs.length = ps.length)
    (hbody : ∀ (cdv : Value) (A : Around) (outer : List Env) (s : Shared) (H : Hp) (vs : List V) (Q : VK) (E : XK), Room k (A.deeper (envOfC qual (defScope st) s.heap.objs.size f cdv)) → sp vs H Q E →
      ∃ t, PSs (cxOf CX0 P w K mg base N qual (defScope st) f cdv A outer s H E).nox (defBody st) t ∧ t { nx := fun _ H' => Q .non H', rt := Q } (start N vs) H) : FnOk P w K mg base CX0 (k + 1) f fd ps sp := by
  obtain ⟨oc, od, kV, doc, pm, an, cdv, ct, osl, rfl, lk, hcd⟩ := F.ex
  refine fn_of lk hcd S len fun A outer s H vs Q E hr hsp => ?_
  obtain ⟨t, h, q⟩ := hbody cdv A outer s H vs Q E hr hsp
  exact ⟨t, h.nox, q⟩
end
end L2
set_option Elab.async false
set_option linter.all false
set_option maxRecDepth 100000
set_option maxHeartbeats 4000000
namespace Att
open PySem PySem.W PySem.Calls PyProof.Rows
end Att
namespace L2
open PySem PySem.Spec PyProof.Rows
end L2
set_option Elab.async false
set_option linter.all false
set_option maxRecDepth 100000
set_option maxHeartbeats 4000000
namespace L2
open PySem PySem.Spec PyProof.Rows PySem.W
section
variable {X : Cx}
end
section
variable {K : Frag} {σ : St} {H : Hp} {Q : VK} {D : Ends} {t : TA} {te ta tv : TE} {f : Str} {sp : Sp} {dvs : List V} {E EX : XK} {C C' : Addr}
theorem tRaise_i (k : te σ H fun v H1 => ∃ e C dx bm, v = .ref e ∧ XCls K C bm ∧ H1 e = some (XF e C dx true) ∧ EX (.ref C) (some e) (upd H1 e (XF e C dx false))) : tRaise EX K te D σ H := k
theorem tXMake_i (k : t σ H fun vs H1 => vs.length ≤ 1000 ∧ ∀ e, H1 e = none → sp (.ref e :: (vs ++ dvs)) (upd H1 e (XF e C none true)) (fun v H2 => v = .non ∧ Q (.ref e) H2) E) : tXMake C sp dvs E t σ H Q := k
theorem tTry_i {ok : Ends → St → V → Hp → Prop} {hd : Ends → St → Addr → Hp → Prop} (k : t σ H fun vs H1 => sp (vs ++ dvs) H1 (fun v H2 => ok D σ v H2) (fun c eo H2 => ∀ ea, eo = some ea → ∃ C dx bm, c = .ref C ∧ H2 ea = some (XF ea C dx false) ∧ XCls K C bm ∧ (Value.ref C :: bm).contains (.ref C') = true ∧ hd D σ ea H2)) : tTry K C' sp dvs t ok hd D σ H := k
theorem tXGet_i (k : ta σ H fun x H1 => ∃ e C bm dx fs fr v, x = .ref e ∧ H1 e = some (XF e C (some dx) fr) ∧ XCls K C bm ∧ XAttr K C ∧ NoAttr K C f ∧ H1 dx = some (.xd fs) ∧ fs.lookup f = some v ∧ Q v H1) : tXGet K ta f σ H Q := k
theorem tBInit_i (k : t σ H fun vs H2 => ∃ e C dx fr bm y, vs = [.ref e, y] ∧ H2 e = some (XF e C dx fr) ∧ XCls K C bm ∧ Q .non H2) : tBInit K t σ H Q := k
theorem tXSet_i (k : tv σ H fun y H1 => ta σ H1 fun x H2 => ∃ e C bm fr, x = .ref e ∧ XCls K C bm ∧ XUp bm ∧ XAttr K C ∧ NoAttr K C f ∧
  ((H2 e = some (XF e C none fr) ∧ ∀ dx, H2 dx = none → dx ≠ e → D.nx σ (upd (upd H2 dx (.xd [(f, y)])) e (XF e C (some dx) fr))) ∨ (∃ dx fs, H2 e = some (XF e C (some dx) fr) ∧ H2 dx = some (.xd fs) ∧ fs.length ≤ 900 ∧ D.nx σ (upd H2 dx (.xd (putF f y fs)))))) : tXSet K ta tv f D σ H := k
end
noncomputable def rowS : Str := Str.ofString "row"
noncomputable def IsX (H : Hp) (ea C : Addr) (fs : List (Str × V)) : Prop := ∃ dx, H ea = some (XF ea C (some dx) false) ∧ H dx = some (.xd fs)
theorem IsX.mono {H H' : Hp} {ea C : Addr} {fs : List (Str × V)} (h : IsX H ea C fs) (s : Same H H') : IsX H' ea C fs := by
  obtain ⟨dx, a, b⟩ := h
  exact ⟨dx, s _ _ a, s _ _ b⟩
end L2
set_option Elab.async false
set_option linter.all false
set_option maxRecDepth 100000
set_option maxHeartbeats 4000000
namespace L2
open PySem PySem.Spec PyProof.Rows PySem.W
structure RoomN (k : Nat) (A : Around) : Prop where
  dp : A.depth + 3 * k + 5 < recursionLimit
  un : A.units + 16 * k + 200 < cLine
theorem RoomN.mono {j k : Nat} {A : Around} (r : RoomN k A) (h : j ≤ k) : RoomN j A := ⟨by have := r.dp; omega, by have := r.un; omega⟩
theorem RoomN.deeper {k : Nat} {A : Around} (r : RoomN (k + 1) A) (env : Env) : RoomN k (A.deeper env) :=
  ⟨by have := r.dp; show A.depth + 1 + 3 * k + 5 < _; omega, by have := r.un; show A.units + 3 + 16 * k + 200 < _; omega⟩
theorem RoomN.depth {k : Nat} {A : Around} (r : RoomN k A) : A.depth < recursionLimit := by have := r.dp; omega
theorem RoomN.of {k : Nat} {A : Around} (r : Room k A) : RoomN k A := ⟨r.dp, r.un⟩
structure FnOkN (P : Program) (w : World) (K : Frag) (mg : Str → Option Value) (base : Heap) (k : Nat) (f : Addr) (fd : FuncData) (ps : List Str) (sp : Sp) : Prop where
  len : ∀ vs H Q E, sp vs H Q E → vs.length = ps.length
  run : ∀ (A : Around) (outer : List Env) (s : Shared) (H : Hp) (args : Args) (us : List Value) (vs : List V) (Q : VK) (E : XK), RoomN k A → Env0 P w K mg base A outer s H → BindsTo s fd args (ps.zip us) → Vals vs us → sp vs H Q E →
    codeAny (model P w) A (.call (.ref f) args) (CR CX0 outer P w H s Q E) s
theorem FnOkN.fn {P : Program} {w : World} {K : Frag} {mg : Str → Option Value} {base : Heap} {k : Nat} {f : Addr} {fd : FuncData} {ps : List Str} {sp : Sp} (F : FnOkN P w K mg base k f fd ps sp) : FnOk P w K mg base CX0 k f fd ps sp :=
  ⟨F.len, fun A outer s H args us vs Q E hr => F.run A outer s H args us vs Q E (.of hr)⟩
section
variable {P : Program} {w : World} {K : Frag} {mg : Str → Option Value} {base : Heap} {N ps : List Str} {qual : Str} {scope : Scope} {f : Addr} {cd : Value} {A : Around} {outer : List Env} {s s1 : Shared} {H : Hp} {E : XK} {us : List Value} {vs : List V}
end
section
variable {X : Cx} {k : Nat} {f : Addr} {fd : FuncData} {ps : List Str} {sp : Sp} {dvs : List V} {ds : List Value} {x : Str} {p pos : Pos} {e : Expr} {es : List Expr} {t : TA}
end
section
variable {prog : Program} {w : World} {A : Around} {E : Value → Shared → Prop} {s : Shared} {K : Frag} {C e : Addr} {bm : List Value} {ox od : Obj}
end
section
variable {X : Cx}
theorem tPar_i {i j : Nat} {ta : TA} {D : Ends} {σ : St} {H : Hp} (k : ta σ H fun vs H1 => ∃ v w, vs = [v, w] ∧ D.nx ((σ.set i (some v)).set j (some w)) H1) : tPar i j ta D σ H := k
end
end L2
set_option Elab.async false
set_option linter.all false
set_option maxRecDepth 100000
set_option maxHeartbeats 4000000
namespace L2
open PySem PySem.Spec PyProof.Rows
section
variable {X : Cx} {pins : List (Addr × Obj)} {σ : St} {H : Hp} {s : Shared} {h' : Heap}
theorem Inv.turnedMany {t' : Nat} {ch : List Addr} (I : Inv X pins σ H s) (hf : ∀ b ∈ ch, FpOk X pins H b) (k : ∀ b u, b ∉ ch → s.heap.get? b = some u → h'.get? b = some u) : Inv X pins σ H { s with heap := h', toks := t' } := by
  have nin : ∀ b u, H b = some u → b ∉ ch := fun b u e hb => by rw [(hf b hb).1] at e; cases e
  refine I.step (g' := s.gens) (d' := s.drawn) (ch := ch) (fun b hb => ⟨(hf b hb).2.2.2.1, (hf b hb).2.1, (hf b hb).2.2.2.2.1, (hf b hb).2.2.2.2.2⟩) (fun b u _ _ hc e _ => k b u hc e) (fun b u _ _ hc e _ => ⟨u.slots, k b u hc e⟩)
    (fun b u hc e n => n) (fun b u hc e => ⟨u, k b u hc e⟩) (fun b xs q => q) (fun b u xs q => q) (fun b ps q => ⟨#[], by rw [q]; simp⟩) (fun m hm => ?_) (fun b u e => ?_) I.bare
  · obtain ⟨q, es, ep, ho, r⟩ := hm
    exact ⟨q, es, ep, k _ q (fun hb => (hf _ hb).2.1 rfl) ho, r⟩
  · refine (I.hok b u e).stay (fun c v hc q => k c v ?_ q) (fun c q => q) fun c xs q => q
    rcases hc with z | z
    · rw [z]; exact nin b u e
    · exact nin c _ z
end
theorem zip_apart : ∀ n l l' : Nat, l < n → l' < n → ZipApart (n + 4) (n + 2) (n + 3) n (n + 1) l l' := fun n l l' h h' => by constructor <;> (show ¬ ((_ : Nat) = _); omega)
noncomputable def Izp (K : PySem.W.Frag) (a b : Addr) (n m : Nat) : It := ⟨fun i H => i < min n m ∧ ∃ xs ys, SqL K H a xs ∧ SqL K H b ys ∧ xs.length = n ∧ ys.length = m, fun i H v H' => ∃ T x y, H T = none ∧ v = .ref T ∧ H' = upd H T (.tup [x, y]) ∧ (∀ xs, SqL K H a xs → xs[i]? = some x) ∧ (∀ ys, SqL K H b ys → ys[i]? = some y), fun i H => i = min n m ∧ ∃ xs ys, SqL K H a xs ∧ SqL K H b ys ∧ xs.length = n ∧ ys.length = m⟩
section
variable {X : Cx}
noncomputable def iZip (K : PySem.W.Frag) (ta : TA) : TI := fun σ H R => ta σ H fun vs H1 => ∃ a b xs ys, vs = [.ref a, .ref b] ∧ SqL K H1 a xs ∧ SqL K H1 b ys ∧ R (Izp K a b xs.length ys.length) H1
end
theorem iZip_i {K : PySem.W.Frag} {σ : St} {H : Hp} {ta : TA} {R : It → Hp → Prop} (k : ta σ H fun vs H1 => ∃ a b xs ys, vs = [.ref a, .ref b] ∧ SqL K H1 a xs ∧ SqL K H1 b ys ∧ R (Izp K a b xs.length ys.length) H1) : iZip K ta σ H R := k
end L2
set_option Elab.async false
set_option linter.all false
set_option maxRecDepth 100000
set_option maxHeartbeats 4000000
namespace L2
open PySem PySem.Spec PyProof.Rows
section
variable {X : Cx} {pos : Pos} {e : Expr} {te : TE}
noncomputable def tF3i (te : TE) : TE := fun σ H Q => te σ H fun x H1 => ∃ i : Int, x = .int i ∧ i.natAbs.log2 < 1920 ∧ (Str.ofString (toString i)).length ≤ 100 ∧ ∀ z : Str, Q (.str z) H1
theorem tF3i_i {σ : St} {H : Hp} {Q : VK} (k : te σ H fun x H1 => ∃ i : Int, x = .int i ∧ i.natAbs.log2 < 1920 ∧ (Str.ofString (toString i)).length ≤ 100 ∧ ∀ z : Str, Q (.str z) H1) : tF3i te σ H Q := k
end
noncomputable def onX (H : Hp) (C : Addr) (E : XK) : Prop := ∀ ea H', Same H H' → IsX H' ea C [(rowS, .int 0)] → E (.ref C) (some ea) H'
theorem onX.mono {H H1 : Hp} {C : Addr} {E : XK} (h : onX H C E) (s : Same H H1) : onX H1 C E := fun ea H' s' i => h ea H' (s.trans s') i
end L2
set_option Elab.async false
set_option linter.all false
set_option maxRecDepth 100000
set_option maxHeartbeats 4000000
namespace L2
open PySem PySem.Spec PyProof.Rows
section
variable {X : Cx} {es rest : List Expr} {k : Nat} {pos : Pos} {env : Env} {te : TE} {t : TA}
noncomputable def notStar : Expr → Bool
  | .Starred _ _ => false
  | _ => true
theorem star_any {e : Expr} (h : notStar e = true) : starEach (e :: rest) env = (false, eval e env) :: starEach rest env := by
  rw [starEach]
  intro a p z
  rw [z] at h
  cases h
theorem pa_con {e : Expr} (ha : PE X e te) (hr : PA X rest t) (h : notStar e = true := by rfl) : PA X (e :: rest) (tCons te t) := pa_cons ha hr (star_any h)
theorem sw_tup {n : Option Expr} {l : Nat} : swapsWith (.Tuple es k pos) n l env = pure false := rfl
theorem sw_lst {n : Option Expr} {l : Nat} : swapsWith (.List es pos) n l env = pure false := rfl
theorem sw_bin {a b : Expr} {op : Operator} {n : Option Expr} {l : Nat} : swapsWith (.BinOp a op b pos) n l env = pure false := rfl
theorem sw_sub {a b : Expr} {n : Option Expr} {l : Nat} : swapsWith (.Subscript a b pos) n l env = pure false := rfl
theorem sw_call {a : Expr} {kw : List Keyword} {n : Option Expr} {l : Nat} : swapsWith (.Call a es kw pos) n l env = pure false := rfl
end
section
variable {X : Cx} {a b e : Expr} {es rest : List Expr} {k : Nat} {pos pos' : Pos} {te ta tb : TE} {t : TA} {u v : TS} {st : Stmt} {x : Str}
end
end L2
set_option Elab.async false
set_option linter.all false
set_option maxRecDepth 100000
set_option maxHeartbeats 4000000
namespace L2
open PySem PySem.Spec PyProof.Rows PySem.W
theorem comp_rowIf {J : It} {n : Nat} {vs : Nat → V} {Ok : Hp → Prop} (R : Row J n vs Ok) {tt : TT} {te : TE} {Q : VK} {σ : St} {H1 : Hp} {D : Addr} (Pv : Nat → List V → Hp → Prop) (hn : n ≤ sizeLine) (h0 : Pv 0 [] (upd H1 D (.lst []))) (hok : ∀ i ys H, Pv i ys H → Ok H)
    (hs : ∀ i ys H (Q' : Bool → Hp → Prop), i < n → ys.length ≤ i → Pv i ys H → (∀ H3 : Hp, (∀ Q2 : VK, (∀ y H4, H4 D = some (.lst ys) → Pv (i + 1) (ys ++ [y]) (upd H4 D (.lst (ys ++ [y]))) → Q2 y H4) → te (some (vs i) :: σ) H3 Q2) → Q' true H3) → (∀ H3, Pv (i + 1) ys H3 → Q' false H3) → tt (some (vs i) :: σ) H Q')
    (hd : ∀ ys H, ys.length ≤ n → Pv n ys H → Q (.ref D) H) :
    CompW J tt te σ Q D H1 := by
  refine ⟨fun i m ys H => m = n - i ∧ i ≤ n ∧ ys.length ≤ i ∧ Pv i ys H, ⟨n, by simp, Nat.zero_le _, Nat.le_refl _, h0⟩, ?_⟩
  rintro i m ys H ⟨rfl, hi, hl, p⟩
  by_cases hlt : i < n
  · refine .inr ⟨R.go i H hlt (hok i ys H p), fun v H2 y => ?_⟩
    obtain ⟨e1, e2⟩ := R.yld i H v H2 hlt (hok i ys H p) y
    subst e1 e2
    refine hs i ys _ _ hlt hl p (fun H3 k => ?_) (fun H3 k => ?_)
    · rw [if_pos rfl]
      exact k _ fun y H4 q1 q2 => ⟨q1, by omega, n - (i + 1), by omega, rfl, hlt, by simp; omega, q2⟩
    · rw [if_neg Bool.false_ne_true]
      exact ⟨n - (i + 1), by omega, rfl, hlt, by omega, k⟩
  · have e : i = n := by omega
    subst e
    exact .inl ⟨R.stop H (hok _ ys H p), hd ys H hl p⟩
section
variable {X : Cx}
end
section
variable {X : Cx} {pos : Pos} {e : Expr} {te : TE}
noncomputable def tFr (te : TE) : TE := fun σ H Q => te σ H fun x H1 => ∃ y, x = .str y ∧ (∀ c ∈ y.cps.toList, c < 16 ^ 8) ∧ y.length ≤ 5000 ∧ ∀ z : Str, Q (.str z) H1
theorem tFr_i {σ : St} {H : Hp} {Q : VK} (k : te σ H fun x H1 => ∃ y, x = .str y ∧ (∀ c ∈ y.cps.toList, c < 16 ^ 8) ∧ y.length ≤ 5000 ∧ ∀ z : Str, Q (.str z) H1) : tFr te σ H Q := k
noncomputable def tF2 (te : TE) : TE := fun σ H Q => te σ H fun x H1 => ∃ y, x = .str y ∧ y.length ≤ 5000 ∧ ∀ z : Str, Q (.str z) H1
theorem tF2_i {σ : St} {H : Hp} {Q : VK} (k : te σ H fun x H1 => ∃ y, x = .str y ∧ y.length ≤ 5000 ∧ ∀ z : Str, Q (.str z) H1) : tF2 te σ H Q := k
end
end L2
set_option Elab.async false
set_option linter.all false
set_option maxRecDepth 100000
set_option maxHeartbeats 4000000
namespace L2
open PySem PySem.Spec PyProof.Rows PySem.W
namespace FD
end FD
section
variable {prog : Program} {w : World} {A : Around} {R : Result → Shared → Prop}
noncomputable def TupsAt {K : Type} [DecidableEq K] (knd : PySem.KeyKind prog w K) (ts : List Addr) (kvs : List (K × Value)) (h : Heap) : Prop := ∀ (i : Nat) (T : Addr), ts[i]? = some T → ∃ (kk : K) (key val : Value), kvs[i]? = some (kk, val) ∧ knd.is kk key = true ∧ IsTup h T #[key, val]
theorem TupsAt.keep {K : Type} [DecidableEq K] {knd : PySem.KeyKind prog w K} {ts : List Addr} {kvs : List (K × Value)} {h h' : Heap} (x : TupsAt knd ts kvs h) (k : ∀ T ∈ ts, ∀ o, h.get? T = some o → h'.get? T = some o) : TupsAt knd ts kvs h' := fun i T e => by
  obtain ⟨kk, key, val, e1, e2, o, ho, r⟩ := x i T e
  exact ⟨kk, key, val, e1, e2, o, k T (List.mem_of_getElem? e) o ho, r⟩
end
section
variable {X : Cx}
end
end L2
set_option Elab.async false
set_option linter.all false
set_option maxRecDepth 100000
set_option maxHeartbeats 4000000
namespace L2
open PySem PySem.Spec PyProof.Rows PySem.W
section
variable {X : Cx}
end
noncomputable abbrev Rws := List (Str × Trm)
noncomputable def PutsOk (K : Frag) (H : Hp) (kvs : List (Key × V)) (rows : Rws) : Prop := Paired (fun (p : Key × V) (q : Str × Trm) => p.1 = Sum.inr q.1 ∧ Den K H p.2 q.2.data) kvs rows
noncomputable def lookR (rows : Rws) (x : Str) : Option Trm := (rows.find? fun r => decide (r.1 = x)).map (·.2)
noncomputable def putR (rows : Rws) (x : Str) (t : Trm) : Rws := if (rows.any fun r => decide (r.1 = x)) = true then rows.map (fun r => if r.1 = x then (r.1, t) else r) else rows ++ [(x, t)]
section
variable {K : Frag} {H H' : Hp} {kvs : List (Key × V)} {rows : Rws}
theorem PutsOk.mono (h : PutsOk K H kvs rows) (s : Same H H') : PutsOk K H' kvs rows := Paired.mapP h fun _ _ z => ⟨z.1, z.2.mono s⟩
theorem PutsOk.monoT (h : PutsOk K H kvs rows) (e : ∀ a xs, SqT K H a xs → SqT K H' a xs) : PutsOk K H' kvs rows := Paired.mapP h fun _ _ z => ⟨z.1, z.2.monoT e⟩
theorem PutsOk.len (h : PutsOk K H kvs rows) : kvs.length = rows.length := Paired.length h
theorem key_inr (a b : Str) : ((Sum.inr a : Key) = Sum.inr b) ↔ a = b := ⟨fun h => Sum.inr.inj h, fun h => by rw [h]⟩
theorem PutsOk.get : ∀ {kvs : List (Key × V)} {rows : Rws}, PutsOk K H kvs rows → ∀ x : Str, (lookR rows x = none ∧ valV kvs (Sum.inr x) = none) ∨ ∃ t v, lookR rows x = some t ∧ valV kvs (Sum.inr x) = some v ∧ Den K H v t.data
  | [], [], _, x => .inl ⟨rfl, rfl⟩
  | (k, v) :: kr, (y, t) :: rr, .cons h r, x => by
    obtain ⟨e1, e2⟩ := h
    have e1 : k = Sum.inr y := e1
    subst e1
    by_cases hx : y = x
    · subst hx
      refine .inr ⟨t, v, ?_, ?_, e2⟩
      · simp [lookR]
      · simp [valV]
    · have ih := PutsOk.get r x
      have n1 : lookR ((y, t) :: rr) x = lookR rr x := by simp [lookR, hx]
      have n2 : valV ((Sum.inr y, v) :: kr) (Sum.inr x) = valV kr (Sum.inr x) := by simp [valV, hx]
      rw [n1, n2]
      exact ih
theorem PutsOk.any : ∀ {kvs : List (Key × V)} {rows : Rws}, PutsOk K H kvs rows → ∀ x : Str, (kvs.any fun kv => decide (kv.1 = Sum.inr x)) = rows.any fun r => decide (r.1 = x)
  | [], [], _, x => rfl
  | (k, v) :: kr, (y, t) :: rr, .cons h r, x => by
    have e1 : k = Sum.inr y := h.1
    subst e1
    rw [List.any_cons, List.any_cons, PutsOk.any r x]
    congr 1
    exact decide_eq_decide.mpr (key_inr y x)
theorem PutsOk.put (h : PutsOk K H kvs rows) {x : Str} {v : V} {t : Trm} (d : Den K H v t.data) : PutsOk K H (putK kvs (Sum.inr x) v) (putR rows x t) := by
  unfold putK putR
  rw [h.any x]
  split
  · rename_i hz0
    clear hz0
    induction kvs generalizing rows with
    | nil => cases rows with | nil => exact .nil | cons _ _ => cases h
    | cons p r ih =>
      cases rows with
      | nil => cases h
      | cons q m =>
        cases h with
        | cons e f =>
          refine .cons ?_ (ih f)
          dsimp only
          obtain ⟨e1, e2⟩ := e
          by_cases hx : q.1 = x
          · rw [if_pos hx, if_pos (by rw [e1, hx])]
            exact ⟨e1, d⟩
          · rw [if_neg hx, if_neg (by rw [e1]; exact fun z => hx (Sum.inr.inj z))]
            exact ⟨e1, e2⟩
  · rename_i hz0
    clear hz0
    induction kvs generalizing rows with
    | nil => cases rows with | nil => exact .cons ⟨rfl, d⟩ .nil | cons _ _ => cases h
    | cons p r ih =>
      cases rows with
      | nil => cases h
      | cons q m =>
        cases h with
        | cons e f => exact .cons e (ih f)
theorem PutsOk.mem : ∀ {kvs : List (Key × V)} {rows : Rws}, PutsOk K H kvs rows → ∀ {k : Key} {v : V}, (k, v) ∈ kvs → ∃ x t, (x, t) ∈ rows ∧ k = Sum.inr x ∧ Den K H v t.data
  | [], [], _, k, v, hm => by simp at hm
  | p :: kr, q :: rr, .cons h r, k, v, hm => by
    rcases List.mem_cons.mp hm with e | e
    · subst e
      exact ⟨q.1, q.2, by simp, h.1, h.2⟩
    · obtain ⟨x, t, h1, h2, h3⟩ := PutsOk.mem r e
      exact ⟨x, t, List.mem_cons_of_mem _ h1, h2, h3⟩
end
end L2
set_option Elab.async false
set_option linter.all false
set_option maxRecDepth 100000
set_option maxHeartbeats 4000000
namespace L2
open PySem PySem.Spec PyProof.Rows PySem.W
section
variable {X : Cx} {pins : List (Addr × Obj)} {σ : St} {H : Hp} {s : Shared}
end
section
variable {X : Cx}
end
end L2
set_option Elab.async false
set_option linter.all false
set_option maxRecDepth 100000
set_option maxHeartbeats 4000000
namespace L2
open PySem PySem.Spec PyProof.Rows PySem.W
section
variable {prog : Program} {w : World} {A : Around} {E : Value → Shared → Prop} {s : Shared}
theorem nextT_item {it l : Addr} {i : Nat} {items} {x : Value} {Q : Value → Shared → Prop} (hit : s.heap.IsTupleIter it l i)
    (hl : s.heap.IsTuple l items) (hx : items[i]? = some x)
    (hQ : ∀ h', h'.IsTupleIter it l (i + 1) → Heap.SameBut it s.heap h' → Q x { s with heap := h' }) :
    wpAny (model prog w) A (Builtin.SmallTypes.nextOf (.ref it)) Q E s := by
  obtain ⟨o, ho, hc, hd⟩ := id hit
  obtain ⟨ol, hol, _, nl, hdl⟩ := hl
  unfold Builtin.SmallTypes.nextOf
  refine wpAny_bind (wpAny_callSpecial?_slot (name := Str.ofString "__next__") hit.typeIs PySem.F.slot_tuple_iterator_next
    (wpAny_call_entry PySem.F.slot_tuple_iterator_next hit.typeIs PySem.F.entry_tuple_iterator_next ?_ (PySem.F.args_tuple_iterator_next_1 _)))
  show wpAny _ _ (field (.ref it) 0 >>= _) _ _ s
  refine wpAny_bind (wpAny_field ho hd (x := .ref l) rfl ?_)
  show wpAny _ _ (if (Value.ref l == Value.none) = true then _ else _) _ _ s
  rw [if_neg (show ¬ ((Value.ref l == Value.none) = true) from Bool.false_ne_true)]
  show wpAny _ _ (field (.ref it) 1 >>= _) _ _ s
  refine wpAny_bind (wpAny_field ho hd (x := .int i 0) rfl ?_)
  show wpAny _ _ (seqItems? (.ref l) >>= _) _ _ s
  refine wpAny_bind (wpAny_seqItems hol hdl ?_)
  simp only [Int.toNat_natCast, hx]
  refine wpAny_bind (wpAny_setField ho hd (by simp) (wpAny_pure ⟨x, rfl, wpAny_pure (hQ _ ?_ (Heap.SameBut.update ..))⟩))
  exact ⟨_, Heap.get?_update_self _ ho (Obj.isFreed_of_fields (Obj.data_mapFields hd _)), (Obj.cls_mapFields ..).trans hc, by
    rw [Obj.data_mapFields hd]; simp [rawInt]⟩
theorem nextT_end {it l : Addr} {i : Nat} {items} {Q : Value → Shared → Prop} (hh : A.handled = none)
    (hit : s.heap.IsTupleIter it l i) (hl : s.heap.IsTuple l items) (hx : items[i]? = none)
    (hE : ∀ h' e, Heap.ExtBut it s.heap h' → (∃ o, h'.get? e = some o ∧ o.cls = .type "StopIteration") → E (.ref e) { s with heap := h' }) :
    wpAny (model prog w) A (Builtin.SmallTypes.nextOf (.ref it)) Q E s := by
  obtain ⟨o, ho, hc, hd⟩ := id hit
  obtain ⟨ol, hol, _, nl, hdl⟩ := hl
  unfold Builtin.SmallTypes.nextOf
  refine wpAny_bind (wpAny_callSpecial?_slot (name := Str.ofString "__next__") hit.typeIs PySem.F.slot_tuple_iterator_next
    (wpAny_call_entry PySem.F.slot_tuple_iterator_next hit.typeIs PySem.F.entry_tuple_iterator_next ?_ (PySem.F.args_tuple_iterator_next_1 _)))
  show wpAny _ _ (field (.ref it) 0 >>= _) _ _ s
  refine wpAny_bind (wpAny_field ho hd (x := .ref l) rfl ?_)
  show wpAny _ _ (if (Value.ref l == Value.none) = true then _ else _) _ _ s
  rw [if_neg (show ¬ ((Value.ref l == Value.none) = true) from Bool.false_ne_true)]
  show wpAny _ _ (field (.ref it) 1 >>= _) _ _ s
  refine wpAny_bind (wpAny_field ho hd (x := .int i 0) rfl ?_)
  show wpAny _ _ (seqItems? (.ref l) >>= _) _ _ s
  refine wpAny_bind (wpAny_seqItems hol hdl ?_)
  simp only [Int.toNat_natCast, hx]
  refine wpAny_bind (wpAny_rule (wpAny_bind (wpAny_setField ho hd (by simp) ?_)))
  show wpAny _ _ (newExc (.type "StopIteration") [] >>= _) _ _ _
  refine wpAny_bind ?_
  simp only [newExc, newTuple]
  refine wpAny_bind (wpAny_newObj_type ?_ (by size_fits))
  refine wpAny_bind (m := firstArgMember _ _) (wpAny_of_eq (a := Value.none) (by first | rfl | (simp only [firstArgMember]; rfl)) ?_)
  refine wpAny_newObj_type ?_ (by size_fits)
  simp only [raiseNew]
  refine wpAny_bind (wpAny_handled ?_)
  first | rw [show A.in1.handled = none from hh] | rw [hh]
  refine wpAny_bind (wpAny_pure (wpAny_throw ?_))
  exact hE _ _ (((Heap.SameBut.update ..).extBut.push _).push _) ⟨_, Heap.get?_push_size _ rfl, rfl⟩
noncomputable abbrev IsZipF (h : Heap) (z TI TO : Addr) (f0 : Value) (f1 : Bool) : Prop :=
  h.get? z = some { cls := .type "zip", dict := none, data := .fields #[f0, .bool f1, .bool false, .ref TI, .ref TO], slots := #[] }
theorem zipT_free {z TI TO i1 i2 l1 l2 : Addr} {k1 k2 : Nat} {xs ys : Array Value} {x y a b : Value} {Q : Value → Shared → Prop} (D : ZipApart z TI TO i1 i2 l1 l2)
    (hz : IsZip s.heap z TI TO .none) (hTI : IsPair s.heap TI (.ref i1) (.ref i2)) (hTO : IsPair s.heap TO a b)
    (h1 : s.heap.IsTupleIter i1 l1 k1) (h2 : s.heap.IsTupleIter i2 l2 k2) (hl1 : s.heap.IsTuple l1 xs) (hl2 : s.heap.IsTuple l2 ys) (hx : xs[k1]? = some x) (hy : ys[k2]? = some y)
    (hQ : ∀ h', IsZipF h' z TI TO (rawInt s.heap.objs.size) false → IsPair h' TO x y → h'.IsTupleIter i1 l1 (k1 + 1) → h'.IsTupleIter i2 l2 (k2 + 1) → IsPair h' s.heap.objs.size x y → h'.objs.size = s.heap.objs.size + 1 →
      (∀ c o, c ≠ z → c ≠ TO → c ≠ i1 → c ≠ i2 → s.heap.get? c = some o → h'.get? c = some o) → Q (.ref s.heap.objs.size) { s with heap := h' }) :
    wpAny (model prog w) A (Builtin.«zip.__next__» ⟨[.ref z], []⟩) (fun fin s' => ∃ v, fin = .done (.ret v) ∧ Q v s') E s := by
  show wpAny _ _ (field (.ref z) 2 >>= _) _ _ _
  refine wpAny_bind (wpAny_field hz rfl (x := .bool false) rfl ?_)
  show wpAny _ _ (field (.ref z) 3 >>= _) _ _ _
  refine wpAny_bind (wpAny_field hz rfl (x := .ref TI) rfl ?_)
  refine wpAny_bind (wpAny_seqItems hTI rfl ?_)
  show wpAny _ _ (Builtin.SmallTypes.ownedTupleIsFree (.ref z) >>= _) _ _ _
  refine wpAny_bind ?_
  unfold Builtin.SmallTypes.ownedTupleIsFree
  refine wpAny_bind (wpAny_field hz rfl (x := .none) rfl (wpAny_pure ?_))
  simp only [if_true]
  refine wpAny_bind (wpAny_rule ?_)
  refine wpAny_bind (wpAny_field hz rfl (x := .ref TO) rfl ?_)
  refine wpAny_bind (wpAny_setField_rec hz (by simp) fun h₁ hz₁ hs₁ => ?_)
  replace hz₁ : IsZip h₁ z TI TO .ellipsis := hz₁
  refine wpAny_bind ?_
  simp only [List.zipIdx_cons, List.zipIdx_nil, List.forIn_cons, List.forIn_nil]
  refine wpAny_bind (wpAny_bind (wpAny_onRaise ?_))
  show wpAny _ _ (Builtin.SmallTypes.nextOf (.ref i1) >>= _) _ _ _
  refine wpAny_bind (nextT_item (h1.extBut hs₁.extBut D.i1z) (hl1.extBut hs₁.extBut D.l1z) hx fun h₂ h1₂ hs₂ => wpAny_pure ?_)
  have hTO₂ : IsPair h₂ TO a b := hs₂.extBut _ _ D.TOi1 (hs₁.extBut _ _ D.TOz hTO)
  refine wpAny_bind (wpAny_seqItems hTO₂ rfl ?_)
  refine wpAny_bind (wpAny_updateSeq_pair hTO₂ fun h₃ hTO₃ hs₃ => ?_)
  replace hTO₃ : IsPair h₃ TO x b := hTO₃
  refine wpAny_bind (wpAny_letGo (wpAny_pure ?_))
  refine wpAny_bind (wpAny_bind (wpAny_onRaise ?_))
  show wpAny _ _ (Builtin.SmallTypes.nextOf (.ref i2) >>= _) _ _ _
  refine wpAny_bind (nextT_item (((h2.extBut hs₁.extBut D.i2z).extBut hs₂.extBut D.i12.symm).extBut hs₃.extBut D.TOi2.symm)
    (((hl2.extBut hs₁.extBut D.l2z).extBut hs₂.extBut D.l2i1).extBut hs₃.extBut D.l2TO) hy fun h₄ h2₄ hs₄ => wpAny_pure ?_)
  have hTO₄ : IsPair h₄ TO x b := hs₄.extBut _ _ D.TOi2 hTO₃
  refine wpAny_bind (wpAny_seqItems hTO₄ rfl ?_)
  refine wpAny_bind (wpAny_updateSeq_pair hTO₄ fun h₅ hTO₅ hs₅ => ?_)
  replace hTO₅ : IsPair h₅ TO x y := hTO₅
  refine wpAny_bind (wpAny_letGo (wpAny_pure (wpAny_pure ?_)))
  refine wpAny_bind (wpAny_seqItems hTO₅ rfl ?_)
  refine wpAny_bind (wpAny_newTuple ?_)
  have hsz : h₅.objs.size = s.heap.objs.size := by rw [hs₅.1, hs₄.1, hs₃.1, hs₂.1, hs₁.1]
  have hz₅ : IsZip h₅ z TI TO .ellipsis := hs₅.extBut _ _ D.TOz.symm (hs₄.extBut _ _ D.i2z.symm (hs₃.extBut _ _ D.TOz.symm (hs₂.extBut _ _ D.i1z.symm hz₁)))
  have hk₅ : ∀ c o, c ≠ z → c ≠ TO → c ≠ i1 → c ≠ i2 → s.heap.get? c = some o → h₅.get? c = some o := fun c o c1 c2 c3 c4 e =>
    hs₅.extBut _ _ c2 (hs₄.extBut _ _ c4 (hs₃.extBut _ _ c2 (hs₂.extBut _ _ c3 (hs₁.extBut _ _ c1 e))))
  have h1₅ : h₅.IsTupleIter i1 l1 (k1 + 1) := ((h1₂.extBut hs₃.extBut D.TOi1.symm).extBut hs₄.extBut D.i12).extBut hs₅.extBut D.TOi1.symm
  have h2₅ : h₅.IsTupleIter i2 l2 (k2 + 1) := h2₄.extBut hs₅.extBut D.TOi2.symm
  have hzlt : z < h₅.objs.size := Heap.lt_size hz₅
  show wpAny _ _ (Builtin.SmallTypes.ownedTupleHandOut (.ref z) (.ref h₅.objs.size) >>= _) _ _ _
  refine wpAny_bind ?_
  unfold Builtin.SmallTypes.ownedTupleHandOut
  have hz₆ : IsZip (h₅.push { cls := .type "tuple", data := .seq #[x, y] }) z TI TO .ellipsis := Heap.get?_push_of_some _ hz₅
  refine wpAny_bind (wpAny_setField_rec hz₆ (by simp) fun h₇ hz₇ hs₇ => ?_)
  replace hz₇ : IsZip h₇ z TI TO (rawInt h₅.objs.size) := hz₇
  refine wpAny_setField_rec hz₇ (by simp) fun h₈ hz₈ hs₈ => ?_
  replace hz₈ : IsZip h₈ z TI TO (rawInt h₅.objs.size) := hz₈
  have up : ∀ c o, c ≠ z → h₅.get? c = some o → h₈.get? c = some o := fun c o c1 e => hs₈.extBut _ _ c1 (hs₇.extBut _ _ c1 (Heap.get?_push_of_some _ e))
  have hT₈ : IsPair h₈ h₅.objs.size x y := hs₈.extBut _ _ (Nat.ne_of_gt hzlt) (hs₇.extBut _ _ (Nat.ne_of_gt hzlt) (Heap.get?_push_size _ rfl))
  have hz8 : h₈.objs.size = h₅.objs.size + 1 := by rw [hs₈.1, hs₇.1, Heap.size_push]
  rw [hsz] at hz₈ hT₈ hz8
  refine wpAny_pure ⟨_, rfl, ?_⟩
  show Q (.ref h₅.objs.size) _
  rw [hsz]
  exact hQ h₈ hz₈ (up _ _ D.TOz hTO₅) (h1₅.at fun o e => up _ o D.i1z e) (h2₅.at fun o e => up _ o D.i2z e) hT₈ hz8 fun c o c1 c2 c3 c4 e => up c o c1 (hk₅ c o c1 c2 c3 c4 e)
theorem zipT_freeEnd {z TI TO i1 i2 l1 l2 : Addr} {k1 : Nat} {xs : Array Value} {Q : Fin → Shared → Prop} (hh : A.handled = none) (D : ZipApart z TI TO i1 i2 l1 l2)
    (hz : IsZip s.heap z TI TO .none) (hTI : IsPair s.heap TI (.ref i1) (.ref i2))
    (h1 : s.heap.IsTupleIter i1 l1 k1) (hl1 : s.heap.IsTuple l1 xs) (hx : xs[k1]? = none)
    (hE : ∀ h' e, (∀ c o, c ≠ z → c ≠ TO → c ≠ i1 → c ≠ i2 → s.heap.get? c = some o → h'.get? c = some o) → (∃ o, h'.get? e = some o ∧ o.cls = .type "StopIteration") → E (.ref e) { s with heap := h' }) :
    wpAny (model prog w) A (Builtin.«zip.__next__» ⟨[.ref z], []⟩) Q E s := by
  show wpAny _ _ (field (.ref z) 2 >>= _) _ _ _
  refine wpAny_bind (wpAny_field hz rfl (x := .bool false) rfl ?_)
  show wpAny _ _ (field (.ref z) 3 >>= _) _ _ _
  refine wpAny_bind (wpAny_field hz rfl (x := .ref TI) rfl ?_)
  refine wpAny_bind (wpAny_seqItems hTI rfl ?_)
  show wpAny _ _ (Builtin.SmallTypes.ownedTupleIsFree (.ref z) >>= _) _ _ _
  refine wpAny_bind ?_
  unfold Builtin.SmallTypes.ownedTupleIsFree
  refine wpAny_bind (wpAny_field hz rfl (x := .none) rfl (wpAny_pure ?_))
  simp only [if_true]
  refine wpAny_bind (wpAny_rule ?_)
  refine wpAny_bind (wpAny_field hz rfl (x := .ref TO) rfl ?_)
  refine wpAny_bind (wpAny_setField_rec hz (by simp) fun h₁ hz₁ hs₁ => ?_)
  replace hz₁ : IsZip h₁ z TI TO .ellipsis := hz₁
  refine wpAny_bind ?_
  simp only [List.zipIdx_cons, List.zipIdx_nil, List.forIn_cons, List.forIn_nil]
  refine wpAny_bind (wpAny_bind (wpAny_onRaise ?_))
  show wpAny _ _ (Builtin.SmallTypes.nextOf (.ref i1) >>= _) _ _ _
  refine wpAny_bind (nextT_end hh (h1.extBut hs₁.extBut D.i1z) (hl1.extBut hs₁.extBut D.l1z) hx fun h₂ e hs₂ he => ?_)
  obtain ⟨oe, hoe, hce⟩ := he
  have hz₂ : IsZip h₂ z TI TO .ellipsis := hs₂ _ _ D.i1z.symm hz₁
  have hez : e ≠ z := fun x => by subst x; rw [hz₂] at hoe; cases hoe; simp at hce
  refine wpAny_setField_rec hz₂ (by simp) fun h₃ _ hs₃ => hE h₃ e (fun c o c1 _ c3 _ x => hs₃.extBut _ _ c1 (hs₂ _ _ c3 (hs₁.extBut _ _ c1 x))) ⟨oe, hs₃.extBut _ _ hez hoe, hce⟩
theorem zipT_busyHead {z TI TO T : Addr} {f1 : Bool} {o : Obj} {Q : Bool → Shared → Prop} (hz : IsZipF s.heap z TI TO (rawInt T) f1) (hT : s.heap.get? T = some o)
    (hQ : ∀ h', IsZipF h' z TI TO (rawInt T) true → Heap.SameBut z s.heap h' → Q false { s with heap := h' }) : wpAny (model prog w) A (Builtin.SmallTypes.ownedTupleIsFree (.ref z)) Q E s := by
  unfold Builtin.SmallTypes.ownedTupleIsFree
  refine wpAny_bind (wpAny_field hz rfl (x := rawInt T) rfl ?_)
  show wpAny _ _ (loadIfAlive ((T : Int).toNat) >>= _) _ _ _
  rw [Int.toNat_natCast]
  refine wpAny_bind (kdx_alive hT ?_)
  simp only [Option.isNone_some, Bool.false_eq_true, if_false]
  refine wpAny_bind (wpAny_field hz rfl (x := .bool f1) rfl ?_)
  cases f1 with
  | true =>
    rw [if_neg (show ¬ ((Value.bool true != Value.bool true) = true) from Bool.false_ne_true)]
    exact wpAny_pure (hQ _ hz (Heap.SameBut.refl _ _))
  | false =>
    rw [if_pos (show (Value.bool false != Value.bool true) = true from rfl)]
    refine wpAny_bind (wpAny_setField_rec hz (by simp) fun h₃ he₃ hs₃ => ?_)
    exact wpAny_pure (hQ _ he₃ hs₃)
theorem zipT_busy {z TI TO i1 i2 l1 l2 T : Addr} {f1 : Bool} {oT : Obj} {k1 k2 : Nat} {xs ys : Array Value} {x y : Value} {Q : Value → Shared → Prop} (D : ZipApart z TI TO i1 i2 l1 l2)
    (hz : IsZipF s.heap z TI TO (rawInt T) f1) (hT : s.heap.get? T = some oT) (hTI : IsPair s.heap TI (.ref i1) (.ref i2))
    (h1 : s.heap.IsTupleIter i1 l1 k1) (h2 : s.heap.IsTupleIter i2 l2 k2) (hl1 : s.heap.IsTuple l1 xs) (hl2 : s.heap.IsTuple l2 ys) (hx : xs[k1]? = some x) (hy : ys[k2]? = some y)
    (hQ : ∀ h', IsZipF h' z TI TO (rawInt T) true → h'.IsTupleIter i1 l1 (k1 + 1) → h'.IsTupleIter i2 l2 (k2 + 1) → IsPair h' s.heap.objs.size x y → h'.objs.size = s.heap.objs.size + 1 →
      (∀ c o, c ≠ z → c ≠ i1 → c ≠ i2 → s.heap.get? c = some o → h'.get? c = some o) → Q (.ref s.heap.objs.size) { s with heap := h' }) :
    wpAny (model prog w) A (Builtin.«zip.__next__» ⟨[.ref z], []⟩) (fun fin s' => ∃ v, fin = .done (.ret v) ∧ Q v s') E s := by
  show wpAny _ _ (field (.ref z) 2 >>= _) _ _ _
  refine wpAny_bind (wpAny_field hz rfl (x := .bool false) rfl ?_)
  show wpAny _ _ (field (.ref z) 3 >>= _) _ _ _
  refine wpAny_bind (wpAny_field hz rfl (x := .ref TI) rfl ?_)
  refine wpAny_bind (wpAny_seqItems hTI rfl ?_)
  show wpAny _ _ (Builtin.SmallTypes.ownedTupleIsFree (.ref z) >>= _) _ _ _
  refine wpAny_bind (zipT_busyHead hz hT fun h₁ hz₁ hs₁ => ?_)
  simp only [Bool.false_eq_true, if_false]
  refine wpAny_bind ?_
  simp only [List.forIn_toArray, List.forIn_cons, List.forIn_nil]
  refine wpAny_bind (wpAny_bind (wpAny_holding ?_))
  show wpAny _ _ (Builtin.SmallTypes.nextOf (.ref i1) >>= _) _ _ _
  refine wpAny_bind (nextT_item (h1.extBut hs₁.extBut D.i1z) (hl1.extBut hs₁.extBut D.l1z) hx fun h₂ h1₂ hs₂ => wpAny_pure ?_)
  refine wpAny_pure ?_
  refine wpAny_bind (wpAny_bind (wpAny_holding ?_))
  show wpAny _ _ (Builtin.SmallTypes.nextOf (.ref i2) >>= _) _ _ _
  refine wpAny_bind (nextT_item ((h2.extBut hs₁.extBut D.i2z).extBut hs₂.extBut D.i12.symm) ((hl2.extBut hs₁.extBut D.l2z).extBut hs₂.extBut D.l2i1) hy fun h₄ h2₄ hs₄ => wpAny_pure ?_)
  refine wpAny_pure (wpAny_pure ?_)
  refine wpAny_bind (wpAny_newTuple (hsz := by show 2 ≤ sizeLine; rw [sizeLine_eq]; omega) ?_)
  have hsz : h₄.objs.size = s.heap.objs.size := by rw [hs₄.1, hs₂.1, hs₁.1]
  refine wpAny_pure ⟨_, rfl, ?_⟩
  show Q (.ref h₄.objs.size) _
  have hz₄ : IsZipF h₄ z TI TO (rawInt T) true := hs₄.extBut _ _ D.i2z.symm (hs₂.extBut _ _ D.i1z.symm hz₁)
  have e5 : IsPair (h₄.push { cls := .type "tuple", data := .seq #[x, y] }) h₄.objs.size x y := Heap.get?_push_size _ rfl
  rw [hsz] at e5 ⊢
  refine hQ _ (Heap.get?_push_of_some _ hz₄) ((h1₂.extBut hs₄.extBut D.i12).at fun o e => Heap.get?_push_of_some _ e) (h2₄.at fun o e => Heap.get?_push_of_some _ e) e5 (by rw [Heap.size_push, hsz]) fun c o c1 c3 c4 e => Heap.get?_push_of_some _ (hs₄.extBut _ _ c4 (hs₂.extBut _ _ c3 (hs₁.extBut _ _ c1 e)))
theorem zipT_busyEnd {z TI TO i1 i2 l1 l2 T : Addr} {f1 : Bool} {oT : Obj} {k1 : Nat} {xs : Array Value} {Q : Fin → Shared → Prop} (hh : A.handled = none) (D : ZipApart z TI TO i1 i2 l1 l2)
    (hz : IsZipF s.heap z TI TO (rawInt T) f1) (hT : s.heap.get? T = some oT) (hTI : IsPair s.heap TI (.ref i1) (.ref i2))
    (h1 : s.heap.IsTupleIter i1 l1 k1) (hl1 : s.heap.IsTuple l1 xs) (hx : xs[k1]? = none)
    (hE : ∀ h' e, (∀ c o, c ≠ z → c ≠ TO → c ≠ i1 → c ≠ i2 → s.heap.get? c = some o → h'.get? c = some o) → (∃ o, h'.get? e = some o ∧ o.cls = .type "StopIteration") → E (.ref e) { s with heap := h' }) :
    wpAny (model prog w) A (Builtin.«zip.__next__» ⟨[.ref z], []⟩) Q E s := by
  show wpAny _ _ (field (.ref z) 2 >>= _) _ _ _
  refine wpAny_bind (wpAny_field hz rfl (x := .bool false) rfl ?_)
  show wpAny _ _ (field (.ref z) 3 >>= _) _ _ _
  refine wpAny_bind (wpAny_field hz rfl (x := .ref TI) rfl ?_)
  refine wpAny_bind (wpAny_seqItems hTI rfl ?_)
  show wpAny _ _ (Builtin.SmallTypes.ownedTupleIsFree (.ref z) >>= _) _ _ _
  refine wpAny_bind (zipT_busyHead hz hT fun h₁ hz₁ hs₁ => ?_)
  simp only [Bool.false_eq_true, if_false]
  refine wpAny_bind ?_
  simp only [List.forIn_toArray, List.forIn_cons, List.forIn_nil]
  refine wpAny_bind (wpAny_bind (wpAny_holding ?_))
  show wpAny _ _ (Builtin.SmallTypes.nextOf (.ref i1) >>= _) _ _ _
  refine wpAny_bind (nextT_end hh (h1.extBut hs₁.extBut D.i1z) (hl1.extBut hs₁.extBut D.l1z) hx fun h₂ e hs₂ he => ?_)
  exact hE h₂ e (fun c o c1 _ c3 _ x => hs₂ _ _ c3 (hs₁.extBut _ _ c1 x)) he
end
end L2
set_option Elab.async false
set_option linter.all false
set_option maxRecDepth 100000
set_option maxHeartbeats 4000000
namespace L2
open PySem PySem.Spec PyProof.Rows PySem.W
theorem zip_no_len : typeLookup (.type "zip") "__len__" = pure none := by rw [typeLookup_type, builtinLookup_eq_fast]; kernel_rfl
theorem zip_no_hint : typeLookup (.type "zip") "__length_hint__" = pure none := by rw [typeLookup_type, builtinLookup_eq_fast]; kernel_rfl
noncomputable abbrev ztH1 (h : Heap) (l1 : Addr) : Heap := h.push { cls := .type "tuple_iterator", data := .fields #[.ref l1, .int 0 0] }
noncomputable abbrev ztH2 (h : Heap) (l1 l2 : Addr) : Heap := (ztH1 h l1).push { cls := .type "tuple_iterator", data := .fields #[.ref l2, .int 0 0] }
noncomputable abbrev ztH3 (h : Heap) (l1 l2 : Addr) : Heap := (ztH2 h l1 l2).push { cls := .type "tuple", data := .seq #[.ref h.objs.size, .ref (ztH1 h l1).objs.size] }
noncomputable abbrev ztH4 (h : Heap) (l1 l2 : Addr) : Heap := (ztH3 h l1 l2).push { cls := .type "tuple", data := .seq #[.none, .none] }
noncomputable abbrev ztH5 (h : Heap) (l1 l2 : Addr) : Heap := (ztH4 h l1 l2).push { cls := .type "zip", data := .fields #[.none, .bool false, .bool false, .ref (ztH2 h l1 l2).objs.size, .ref (ztH3 h l1 l2).objs.size] }
theorem meets_zipT (l1 l2 : Addr) (xs ys : Array Value) :
    Meets (Builtin.«zip.__new__» ⟨[.type "zip", .ref l1, .ref l2], []⟩) (fun _ R s => s.heap.IsTuple l1 xs ∧ s.heap.IsTuple l2 ys ∧
      R (.ok (.ret (.ref (ztH4 s.heap l1 l2).objs.size))) { s with heap := ztH5 s.heap l1 l2 }) :=
  .of_wp fun prog w A R s h => by
    obtain ⟨hp, g, d, tk, os⟩ := s; obtain ⟨hl1, hl2, h⟩ := h
    have hsub := sub_zip
    have hL1 : Heap.IsTuple (Shared.heap ⟨hp, g, d, tk, os⟩) l1 xs := hl1
    have hL2 : Heap.IsTuple (Shared.heap ⟨hp.push { cls := .type "tuple_iterator", data := .fields #[.ref l1, .int 0 0] }, g, d, tk, os⟩) l2 ys := Heap.IsTuple.push hl2 _
    wp_walk using wpAny_pyIter_tuple hL1, wpAny_pyIter_tuple hL2
    exact ⟨_, rfl, h⟩
section
variable {prog : Program} {w : World} {A : Around} {E : Value → Shared → Prop} {s : Shared}
theorem call_zipT {l1 l2 : Addr} {xs ys : Array Value} {Q : Value → Shared → Prop} (hl1 : s.heap.IsTuple l1 xs) (hl2 : s.heap.IsTuple l2 ys)
    (h : ∀ h', IsZip h' (s.heap.objs.size + 4) (s.heap.objs.size + 2) (s.heap.objs.size + 3) .none → IsPair h' (s.heap.objs.size + 2) (.ref s.heap.objs.size) (.ref (s.heap.objs.size + 1)) →
      IsPair h' (s.heap.objs.size + 3) .none .none → h'.IsTupleIter s.heap.objs.size l1 0 → h'.IsTupleIter (s.heap.objs.size + 1) l2 0 → h'.objs.size = s.heap.objs.size + 5 →
      (∀ c o, s.heap.get? c = some o → h'.get? c = some o) → Q (.ref (s.heap.objs.size + 4)) { s with heap := h' }) :
    wpAny (model prog w) A (call (.type "zip") [.ref l1, .ref l2]) Q E s := by
  refine callType_new PySem.F.called_zip (by decide) (PySem.F.typeCall_zip_2 _ _) (PySem.F.newCall_zip_2 _ _) (fun obj => PySem.F.args_object_init_3 obj _ _) PySem.F.entry_zip_new
    (meets_zipT l1 l2 xs ys) ⟨hl1, hl2, ?_⟩
  have z1 : (ztH1 s.heap l1).objs.size = s.heap.objs.size + 1 := Heap.size_push ..
  have z2 : (ztH2 s.heap l1 l2).objs.size = s.heap.objs.size + 2 := by rw [Heap.size_push, z1]
  have z3 : (ztH3 s.heap l1 l2).objs.size = s.heap.objs.size + 3 := by rw [Heap.size_push, z2]
  have z4 : (ztH4 s.heap l1 l2).objs.size = s.heap.objs.size + 4 := by rw [Heap.size_push, z3]
  have z5 : (ztH5 s.heap l1 l2).objs.size = s.heap.objs.size + 5 := by rw [Heap.size_push, z4]
  have g5 : (ztH5 s.heap l1 l2).get? (ztH4 s.heap l1 l2).objs.size = some _ := Heap.get?_push_size _ rfl
  have g4 : (ztH5 s.heap l1 l2).get? (ztH3 s.heap l1 l2).objs.size = some _ := Heap.get?_push_of_some _ (Heap.get?_push_size _ rfl)
  have g3 : (ztH5 s.heap l1 l2).get? (ztH2 s.heap l1 l2).objs.size = some _ := Heap.get?_push_of_some _ (Heap.get?_push_of_some _ (Heap.get?_push_size _ rfl))
  have g2 : (ztH5 s.heap l1 l2).get? (ztH1 s.heap l1).objs.size = some _ := Heap.get?_push_of_some _ (Heap.get?_push_of_some _ (Heap.get?_push_of_some _ (Heap.get?_push_size _ rfl)))
  have g1 : (ztH5 s.heap l1 l2).get? s.heap.objs.size = some _ := Heap.get?_push_of_some _ (Heap.get?_push_of_some _ (Heap.get?_push_of_some _ (Heap.get?_push_of_some _ (Heap.get?_push_size _ rfl))))
  show _ ∧ _
  rw [z2, z3, z4] at g5
  rw [z1, z2] at g3
  rw [z3] at g4
  rw [z1] at g2
  rw [z4]
  exact ⟨⟨_, g5, rfl⟩, h _ g5 g3 g4 ⟨_, g1, rfl, rfl⟩ ⟨_, g2, rfl, rfl⟩ z5 fun c o x =>
    Heap.get?_push_of_some _ (Heap.get?_push_of_some _ (Heap.get?_push_of_some _ (Heap.get?_push_of_some _ (Heap.get?_push_of_some _ x))))⟩
noncomputable def ZS (h : Heap) (z TI TO i1 i2 t1 t2 S : Addr) (i : Nat) : Prop :=
  ((IsZip h z TI TO .none ∧ ∃ a b, IsPair h TO a b) ∨ ∃ (T : Addr) (f1 : Bool) (o : Obj), IsZipF h z TI TO (rawInt T) f1 ∧ h.get? T = some o ∧ T ≠ z ∧ T ≠ TO ∧ T ≠ i1 ∧ T ≠ i2 ∧ T ≠ S) ∧ IsPair h TI (.ref i1) (.ref i2) ∧ h.IsTupleIter i1 t1 i ∧ h.IsTupleIter i2 t2 i
theorem ZS.keep {h h' : Heap} {z TI TO i1 i2 t1 t2 S : Addr} {i : Nat} (st : ZS h z TI TO i1 i2 t1 t2 S i) (k : ∀ c o, c ≠ S → h.get? c = some o → h'.get? c = some o) (n : S ≠ z ∧ S ≠ TI ∧ S ≠ TO ∧ S ≠ i1 ∧ S ≠ i2) : ZS h' z TI TO i1 i2 t1 t2 S i := by
  obtain ⟨q, hTI, h1, h2⟩ := st
  refine ⟨?_, k _ _ n.2.1.symm hTI, h1.at fun o e => k _ o n.2.2.2.1.symm e, h2.at fun o e => k _ o n.2.2.2.2.symm e⟩
  rcases q with ⟨hz, a, b, hTO⟩ | ⟨T, f1, o, hz, hT, d⟩
  · exact .inl ⟨k _ _ n.1.symm hz, a, b, k _ _ n.2.2.1.symm hTO⟩
  · exact .inr ⟨T, f1, o, k _ _ n.1.symm hz, k _ _ d.2.2.2.2 hT, d⟩
theorem zs_item {z TI TO i1 i2 t1 t2 S : Addr} {i : Nat} {xs ys : Array Value} {x y : Value} {Q : Option Value → Shared → Prop} (D : ZipApart z TI TO i1 i2 t1 t2) (st : ZS s.heap z TI TO i1 i2 t1 t2 S i) (hS : S < s.heap.objs.size)
    (hl1 : s.heap.IsTuple t1 xs) (hl2 : s.heap.IsTuple t2 ys) (hx : xs[i]? = some x) (hy : ys[i]? = some y)
    (hQ : ∀ h', ZS h' z TI TO i1 i2 t1 t2 S (i + 1) → IsPair h' s.heap.objs.size x y → (∀ c o, c ≠ z → c ≠ TO → c ≠ i1 → c ≠ i2 → s.heap.get? c = some o → h'.get? c = some o) → Q (some (.ref s.heap.objs.size)) { s with heap := h' }) :
    wpAny (model prog w) A (pyNext (.ref z)) Q E s := by
  obtain ⟨q, hTI, h1, h2⟩ := st
  have lt : ∀ {c o}, s.heap.get? c = some o → s.heap.objs.size ≠ c := fun e => Nat.ne_of_gt (Heap.lt_size e)
  have n1 : s.heap.objs.size ≠ i1 := by obtain ⟨_, e, _⟩ := h1; exact lt e
  have n2 : s.heap.objs.size ≠ i2 := by obtain ⟨_, e, _⟩ := h2; exact lt e
  rcases q with ⟨hz, a, b, hTO⟩ | ⟨T, f1, o, hz, hT, d⟩
  · have hTy : s.TypeIs (.ref z) "zip" := ⟨_, hz, rfl⟩
    unfold pyNext
    refine wpAny_bind (wpAny_attempt (wpAny_callSpecial?_slot (name := Str.ofString "__next__") hTy PySem.F.slot_zip_next
      (wpAny_call_entry PySem.F.slot_zip_next hTy PySem.F.entry_zip_next
        (zipT_free D hz hTI hTO h1 h2 hl1 hl2 hx hy fun h' a1 a2 a3 a4 a5 a6 a7 => wpAny_pure (hQ h' ⟨.inr ⟨_, false, _, a1, a5, lt hz, lt hTO, n1, n2, Nat.ne_of_gt hS⟩, a7 _ _ D.TIz D.TITO D.TIi1 D.TIi2 hTI, a3, a4⟩ a5 a7)) (PySem.F.args_zip_next_1 _))))
  · have hTy : s.TypeIs (.ref z) "zip" := ⟨_, hz, rfl⟩
    unfold pyNext
    refine wpAny_bind (wpAny_attempt (wpAny_callSpecial?_slot (name := Str.ofString "__next__") hTy PySem.F.slot_zip_next
      (wpAny_call_entry PySem.F.slot_zip_next hTy PySem.F.entry_zip_next
        (zipT_busy D hz hT hTI h1 h2 hl1 hl2 hx hy fun h' a1 a3 a4 a5 a6 a7 => wpAny_pure (hQ h' ⟨.inr ⟨T, true, o, a1, a7 _ _ d.1 d.2.2.1 d.2.2.2.1 hT, d⟩, a7 _ _ D.TIz D.TIi1 D.TIi2 hTI, a3, a4⟩ a5 fun c o c1 _ c3 c4 e => a7 c o c1 c3 c4 e)) (PySem.F.args_zip_next_1 _))))
theorem zs_end {z TI TO i1 i2 t1 t2 S : Addr} {i : Nat} {xs : Array Value} {Q : Option Value → Shared → Prop} (hh : A.handled = none) (D : ZipApart z TI TO i1 i2 t1 t2) (st : ZS s.heap z TI TO i1 i2 t1 t2 S i)
    (hl1 : s.heap.IsTuple t1 xs) (hx : xs[i]? = none)
    (hQ : ∀ h', (∀ c o, c ≠ z → c ≠ TO → c ≠ i1 → c ≠ i2 → s.heap.get? c = some o → h'.get? c = some o) → Q none { s with heap := h' }) :
    wpAny (model prog w) A (pyNext (.ref z)) Q E s := by
  obtain ⟨q, hTI, h1, h2⟩ := st
  rcases q with ⟨hz, a, b, hTO⟩ | ⟨T, f1, o, hz, hT, d⟩
  · have hTy : s.TypeIs (.ref z) "zip" := ⟨_, hz, rfl⟩
    unfold pyNext
    refine wpAny_bind (wpAny_attempt (wpAny_callSpecial?_slot (name := Str.ofString "__next__") hTy PySem.F.slot_zip_next
      (wpAny_call_entry PySem.F.slot_zip_next hTy PySem.F.entry_zip_next (zipT_freeEnd hh D hz hTI h1 hl1 hx fun h' e hk he => ?_) (PySem.F.args_zip_next_1 _))))
    obtain ⟨o, ho, hc⟩ := he
    refine wpAny_bind (wpAny_isInstance (T := "StopIteration") (b := true) ⟨o, ho, hc⟩ isSubtype_stop ?_)
    exact wpAny_pure (hQ _ hk)
  · have hTy : s.TypeIs (.ref z) "zip" := ⟨_, hz, rfl⟩
    unfold pyNext
    refine wpAny_bind (wpAny_attempt (wpAny_callSpecial?_slot (name := Str.ofString "__next__") hTy PySem.F.slot_zip_next
      (wpAny_call_entry PySem.F.slot_zip_next hTy PySem.F.entry_zip_next (zipT_busyEnd hh D hz hT hTI h1 hl1 hx fun h' e hk he => ?_) (PySem.F.args_zip_next_1 _))))
    obtain ⟨o, ho, hc⟩ := he
    refine wpAny_bind (wpAny_isInstance (T := "StopIteration") (b := true) ⟨o, ho, hc⟩ isSubtype_stop ?_)
    exact wpAny_pure (hQ _ hk)
end
noncomputable def PairsOf (H : Hp) (qs : List Addr) (xs ys : List V) : Prop := ∀ (j : Nat) (q : Addr) (x y : V), qs[j]? = some q → xs[j]? = some x → ys[j]? = some y → H q = some (.tup [x, y])
section
variable {X : Cx} {pins : List (Addr × Obj)} {σ : St}
theorem zip_loop {A : Around} {R : Result → Shared → Prop} {z TI TO i1 i2 t1 t2 S : Addr} {xs ys : List V} {H0 : Hp} (hh : A.handled = none) (D : ZipApart z TI TO i1 i2 t1 t2) (ltS : ∀ b ∈ [z, TI, TO, i1, i2], b < S) (hlen : ys.length = xs.length) (h0 : H0 S = none) (res : Value)
    (hR : ∀ s' H' qs, Inv X pins σ H' s' → Same H0 H' → H' S = some (.lst (qs.map V.ref)) → qs.length = xs.length → PairsOf H' qs xs ys → R (.ok (.ret res)) s') :
    ∀ (k i : Nat) (s : Shared) (H : Hp) (qs : List Addr), xs.length - i = k → i ≤ xs.length → Inv X pins σ H s → SqT X.K H t1 xs → SqT X.K H t2 ys → ZS s.heap z TI TO i1 i2 t1 t2 S i → (∀ b ∈ [z, TI, TO, i1, i2], FpOk X pins H b) → Same H0 H → H S = some (.lst (qs.map V.ref)) → qs.length = i → PairsOf H qs xs ys →
      codeAny (model X.prog X.w) A (.builtin "list.extend.loop" ⟨[.ref S, .ref z, res], []⟩) R s := by
  have n : S ≠ z ∧ S ≠ TI ∧ S ≠ TO ∧ S ≠ i1 ∧ S ≠ i2 := ⟨Nat.ne_of_gt (ltS _ (by simp)), Nat.ne_of_gt (ltS _ (by simp)), Nat.ne_of_gt (ltS _ (by simp)), Nat.ne_of_gt (ltS _ (by simp)), Nat.ne_of_gt (ltS _ (by simp))⟩
  intro k
  induction k with
  | zero =>
    intro i s H qs hk hi I hq1 hq2 st hf sm hS hl pr
    have hin : i = xs.length := by omega
    obtain ⟨its, rv, p, hz⟩ := I.tuple hq1
    have hlx := rv.length
    refine codeAny_builtin PySem.F.entry_extend_loop ?_
    rw [Around.under_plainId PySem.F.plain_extend_loop _]
    show wpAny _ A.in1 (pyNext (.ref z) >>= _) _ _ s
    refine wpAny_bind (zs_end (A := A.in1) hh D st (show s.heap.IsTuple t1 its.toArray from p) (by simp; omega) fun h' he => ?_)
    refine wpAny_pure (hR { s with heap := h' } H qs (I.turnedMany (t' := s.toks) (ch := [z, TI, TO, i1, i2]) hf fun c u hc e => he c u (fun q => hc (by simp [q])) (fun q => hc (by simp [q])) (fun q => hc (by simp [q])) (fun q => hc (by simp [q])) e) sm hS (by omega) pr)
  | succ k ih =>
    intro i s H qs hk hi I hq1 hq2 st hf sm hS hl pr
    have hlt : i < xs.length := by omega
    have hlt' : i < ys.length := by omega
    obtain ⟨its, rv, p, hz⟩ := I.tuple hq1
    obtain ⟨its', rv', p', hz'⟩ := I.tuple hq2
    obtain ⟨u, hu, ru⟩ := rv.get (List.getElem?_eq_getElem hlt)
    obtain ⟨u', hu', ru'⟩ := rv'.get (List.getElem?_eq_getElem hlt')
    obtain ⟨zS, it3, n3, r3, l3, e3⟩ := I.lstM hS
    have hSl : S < s.heap.objs.size := Heap.lt_size e3
    refine codeAny_builtin PySem.F.entry_extend_loop ?_
    rw [Around.under_plainId PySem.F.plain_extend_loop _]
    show wpAny _ A.in1 (pyNext (.ref z) >>= _) _ _ s
    refine wpAny_bind (zs_item D st hSl (show s.heap.IsTuple t1 its.toArray from p) (show s.heap.IsTuple t2 its'.toArray from p') (by simpa using hu) (by simpa using hu') fun h' st' hp hkp => ?_)
    have hk' : ∀ b o, b ∉ [z, TI, TO, i1, i2] → s.heap.get? b = some o → h'.get? b = some o := fun c o hc e => hkp c o (fun q => hc (by simp [q])) (fun q => hc (by simp [q])) (fun q => hc (by simp [q])) (fun q => hc (by simp [q])) e
    have fr : H s.heap.objs.size = none := I.hok.fresh (Nat.le_refl _)
    have I1 : Inv X pins σ (upd H s.heap.objs.size (.tup [xs[i], ys[i]])) { s with heap := h' } := I.turnedLaid (t' := s.toks) (ch := [z, TI, TO, i1, i2]) hf hk' (Nat.le_refl _) ⟨by simp [sizeLine_eq], [u, u'], .cons ru (.cons ru' .nil), ⟨_, hp, rfl, _, rfl⟩⟩
    have hST : S ≠ s.heap.objs.size := Nat.ne_of_lt hSl
    have hS1 : upd H s.heap.objs.size (.tup [xs[i], ys[i]]) S = some (.lst (qs.map V.ref)) := by rw [upd_ne hST]; exact hS
    have e4 : h'.get? S = some { cls := .type "list", data := .seq it3.toArray n3 } := hkp S _ n.1 n.2.2.1 n.2.2.2.1 n.2.2.2.2 e3
    have hq : (qs.map V.ref).length = i := by rw [List.length_map]; exact hl
    have I2 := I1.lset (t' := s.toks) (f := (·.push (Value.ref s.heap.objs.size))) (its' := it3 ++ [Value.ref s.heap.objs.size]) (ys := (qs ++ [s.heap.objs.size]).map V.ref) hS1 e4 (by simp) (by rw [List.map_append]; exact r3.append (.cons rfl .nil)) (by rw [List.length_map, List.length_append, List.length_singleton]; omega)
    show wpAny _ A.in1 (updateSeq S (·.push (Value.ref s.heap.objs.size)) >>= _) _ _ _
    refine wpAny_bind ?_
    have b1 : But S H (upd (upd H s.heap.objs.size (.tup [xs[i], ys[i]])) S (.lst ((qs ++ [s.heap.objs.size]).map V.ref))) := fun b o hb e => by
      rw [upd_ne hb, upd_ne (ne_of_none e fr)]
      exact e
    refine wpAny_updateSeq e4 rfl (wpAny_pure ⟨plainId_quiet PySem.F.plain_extend_loop _, ih (i + 1) _ _ (qs ++ [s.heap.objs.size]) (by omega) hlt I2 (b1.tup hS hq1) (b1.tup hS hq2) (st'.keep (fun c o hc e => (Heap.get?_update_other _ _ (Ne.symm hc)).trans e) n) (fun b hb => ?_) (fun b o e => ?_) upd_same (by rw [List.length_append, hl]; rfl) (fun j q x y g1 g2 g3 => ?_)⟩) (by rw [List.size_toArray]; omega) (by show (it3.toArray.push (Value.ref s.heap.objs.size)).size ≤ sizeLine + 1; rw [Array.size_push, List.size_toArray]; omega)
    · have fb := hf b hb
      have nb : b ≠ S := fun q => by rw [q] at fb; rw [fb.1] at hS; cases hS
      have nT : b ≠ s.heap.objs.size := Nat.ne_of_lt (Nat.lt_trans (ltS b hb) hSl)
      refine ⟨?_, fb.2⟩
      rw [upd_ne nb, upd_ne nT]
      exact fb.1
    · exact b1 b o (fun q => by rw [q, h0] at e; cases e) (sm b o e)
    · rcases Nat.lt_trichotomy j qs.length with h1 | h1 | h1
      · rw [List.getElem?_append_left h1] at g1
        have := pr j q x y g1 g2 g3
        exact b1 _ _ (fun e => by rw [e, hS] at this; cases this) this
      · subst h1
        have hb : s.heap.objs.size = q := by simpa using g1
        subst hb
        rw [upd_ne hST.symm, upd_same]
        rw [hl] at g2 g3
        rw [List.getElem?_eq_getElem hlt] at g2
        rw [List.getElem?_eq_getElem hlt'] at g3
        cases g2
        cases g3
        rfl
      · have hnone : (qs ++ [s.heap.objs.size])[j]? = none := List.getElem?_eq_none (by rw [List.length_append, List.length_singleton]; omega)
        rw [hnone] at g1
        cases g1
theorem call_listZip {A : Around} {E : Value → Shared → Prop} {s : Shared} {H : Hp} {Q : Value → Shared → Prop} {z TI TO i1 i2 t1 t2 : Addr} {xs ys : List V} (hh : A.handled = none) (D : ZipApart z TI TO i1 i2 t1 t2) (I : Inv X pins σ H s) (hq1 : SqT X.K H t1 xs) (hq2 : SqT X.K H t2 ys) (hlen : ys.length = xs.length)
    (hz : IsZip s.heap z TI TO .none) (hTI : IsPair s.heap TI (.ref i1) (.ref i2)) (hTO : IsPair s.heap TO .none .none) (h1 : s.heap.IsTupleIter i1 t1 0) (h2 : s.heap.IsTupleIter i2 t2 0) (hf : ∀ b ∈ [z, TI, TO, i1, i2], FpOk X pins H b)
    (h : ∀ s' H' p qs, H p = none → Inv X pins σ H' s' → Same H H' → H' p = some (.lst (qs.map V.ref)) → qs.length = xs.length → PairsOf H' qs xs ys → Q (.ref p) s') :
    wpAny (model X.prog X.w) A (call (.type "list") [.ref z]) Q E s := by
  refine callType_codes (Q₁ := fun obj s₁ => obj = .ref s.heap.objs.size ∧ s₁ = { s with heap := s.heap.push { cls := .type "list", data := .seq #[] } }) PySem.F.called_list (PySem.F.typeCall_list_1 _) PySem.F.entry_list_init
    (code_list_new _ ⟨rfl, rfl⟩) fun obj s₁ h₁ => ?_
  obtain ⟨rfl, rfl⟩ := h₁
  have hS : (s.heap.push { cls := .type "list", data := .seq #[] }).get? s.heap.objs.size = some { cls := .type "list", data := .seq #[] } := Heap.get?_push_size _ rfl
  refine ⟨⟨_, hS, rfl⟩, PySem.F.args_list_init_2 _ _, ?_⟩
  have ltS : ∀ b ∈ [z, TI, TO, i1, i2], b < s.heap.objs.size := fun b hb => by
    obtain ⟨_, e1, _⟩ := h1
    obtain ⟨_, e2, _⟩ := h2
    simp only [List.mem_cons, List.not_mem_nil, or_false] at hb
    rcases hb with rfl | rfl | rfl | rfl | rfl
    · exact Heap.lt_size hz
    · exact Heap.lt_size hTI
    · exact Heap.lt_size hTO
    · exact Heap.lt_size e1
    · exact Heap.lt_size e2
  generalize hSS : s.heap.objs.size = S at hS ltS ⊢
  have fr : H S = none := by rw [← hSS]; exact I.hok.fresh (Nat.le_refl _)
  show wpAny _ _ (do let old ← Builtin.List.listItems (.ref S); Builtin.List.listUpdate (.ref S) (fun _ => #[]); letGo old.toList.reverse; Builtin.List.listExtendWith (.ref S) (.ref z) .none) _ _ _
  refine wpAny_bind ?_
  unfold Builtin.List.listItems
  refine wpAny_bind (wpAny_seqItems hS rfl (wpAny_pure ?_))
  show wpAny _ _ (updateSeq S (fun _ => #[]) >>= fun _ => letGo (#[] : Array Value).toList.reverse >>= fun _ => Builtin.List.listExtendWith (.ref S) (.ref z) .none) _ _ _
  refine wpAny_bind (wpAny_updateSeq hS rfl ?_)
  have hS₁ := Heap.get?_update_self (Obj.mapSeq (fun _ => (#[] : Array Value))) hS rfl
  have k1 : ∀ b o, b ≠ S → s.heap.get? b = some o → ((s.heap.push { cls := .type "list", data := .seq #[] }).update S (Obj.mapSeq (fun _ => (#[] : Array Value)))).get? b = some o :=
    fun b o hb e => (Heap.get?_update_other _ _ (Ne.symm hb)).trans (Heap.get?_push_of_some _ e)
  refine wpAny_bind (wpAny_letGo ?_)
  generalize ((s.heap.push { cls := .type "list", data := .seq #[] }).update S (Obj.mapSeq (fun _ => (#[] : Array Value)))) = hp1 at hS₁ k1 ⊢
  have nz : z ≠ S := Nat.ne_of_lt (ltS z (by simp))
  have hz1 : IsZip hp1 z TI TO .none := k1 _ _ nz hz
  have hT1 : Shared.TypeIs { s with heap := hp1 } (.ref z) "zip" := ⟨_, hz1, rfl⟩
  unfold Builtin.List.listExtendWith
  refine wpAny_bind (wpAny_typeOf hT1 ?_)
  have g1 : Builtin.List.listSameRef (.ref S) (.ref z) = false := by simp [Builtin.List.listSameRef, nz.symm]
  have g2 : (Value.type "zip" == Value.type "list") = false := by decide
  have g3 : (Value.type "zip" == Value.type "tuple") = false := by decide
  simp only [g1, g2, g3, Bool.or_false, Bool.false_eq_true, if_false]
  refine wpAny_bind (wpAny_pyIter_zip hz1 ?_)
  refine wpAny_bind (wpAny_holding ?_)
  unfold Builtin.List.listLengthHint
  refine wpAny_bind (wpAny_specialOf hT1 zip_no_len ?_)
  show wpAny _ _ (specialOf (Value.ref z) (Str.ofString "__length_hint__") >>= _) _ _ _
  refine wpAny_bind (wpAny_specialOf hT1 zip_no_hint ?_)
  refine wpAny_pure ?_
  show wpAny _ _ (rule "list.extend.makes-room" >>= fun _ => Builtin.List.listTouch (.ref S) >>= fun _ =>
    again (.builtin "list.extend.loop" ⟨[.ref S, .ref z, .none], []⟩)) _ _ _
  refine wpAny_bind (wpAny_rule ?_)
  refine wpAny_bind ?_
  show wpAny _ _ (updateSeq S (·.push .none) >>= fun _ => updateSeq S (·.pop)) _ _ _
  refine wpAny_bind (wpAny_updateSeq hS₁ rfl ?_)
  have hS₂ := Heap.get?_update_self (Obj.mapSeq (·.push Value.none)) hS₁ rfl
  refine wpAny_updateSeq (hz := by seq_fits) hS₂ rfl ?_
  have hS₃ := Heap.get?_update_self (Obj.mapSeq (·.pop)) hS₂ rfl
  have k3 : ∀ b o, b ≠ S → s.heap.get? b = some o → ((hp1.update S (Obj.mapSeq (·.push Value.none))).update S (Obj.mapSeq (·.pop))).get? b = some o :=
    fun b o hb e => (Heap.get?_update_other _ _ (Ne.symm hb)).trans ((Heap.get?_update_other _ _ (Ne.symm hb)).trans (k1 b o hb e))
  refine wpAny_pure ⟨plainId_quiet PySem.F.plain_extend_loop _, ?_⟩
  have keepS : ∀ b o, s.heap.get? b = some o → ((hp1.update S (Obj.mapSeq (·.push Value.none))).update S (Obj.mapSeq (·.pop))).get? b = some o := fun b o e => k3 b o (fun q => by have := Heap.lt_size e; rw [q, hSS] at this; exact Nat.lt_irrefl _ this) e
  have I1 : Inv X pins σ (upd H S (.lst [])) { s with heap := ((hp1.update S (Obj.mapSeq (·.push Value.none))).update S (Obj.mapSeq (·.pop))) } := I.laid (t' := s.toks) (a := S) (o := .lst []) keepS (by rw [hSS]; exact Nat.le_refl _) ⟨Nat.zero_le _, [], _, .nil, hS₃⟩
  have sm : Same H (upd H S (.lst [])) := fun b o e => by rw [upd_ne (ne_of_none e fr)]; exact e
  refine zip_loop (A := A.in1) (X := X) (pins := pins) (σ := σ) (H0 := H) (xs := xs) (ys := ys) hh D ltS hlen fr .none (fun s' H' qs I' sm' hS' hl' pr' => ⟨rfl, h s' H' S qs fr I' sm' hS' hl' pr'⟩) xs.length 0 _ _ [] (by omega) (Nat.zero_le _) I1 (sm.tup hq1) (sm.tup hq2) ⟨.inl ⟨k3 _ _ nz hz, _, _, k3 _ _ (Nat.ne_of_lt (ltS TO (by simp))) hTO⟩, k3 _ _ (Nat.ne_of_lt (ltS TI (by simp))) hTI, h1.at fun o e => k3 _ o (Nat.ne_of_lt (ltS i1 (by simp))) e, h2.at fun o e => k3 _ o (Nat.ne_of_lt (ltS i2 (by simp))) e⟩ (fun b hb => ⟨by rw [upd_ne (Nat.ne_of_lt (ltS b hb))]; exact (hf b hb).1, (hf b hb).2⟩) sm upd_same rfl (fun j q x y g _ _ => by simp at g)
end
end L2
set_option Elab.async false
set_option linter.all false
set_option maxRecDepth 100000
set_option maxHeartbeats 4000000
namespace L2
open PySem PySem.Spec PyProof.Rows PySem.W
section
variable {X : Cx}
noncomputable def tListZip (K : PySem.W.Frag) (ta : TA) : TE := fun σ H Q => ta σ H fun vs H1 => ∃ a b xs ys, vs = [.ref a, .ref b] ∧ SqT K H1 a xs ∧ SqT K H1 b ys ∧ ys.length = xs.length ∧ ∀ p H2 qs, H1 p = none → Same H1 H2 → H2 p = some (.lst (qs.map V.ref)) → qs.length = xs.length → PairsOf H2 qs xs ys → Q (.ref p) H2
theorem pe_listZip (K : PySem.W.Frag) (hK : X.K = K) (hc : X.calm = true) {a b : Expr} {ta : TA} {p1 p2 pos1 pos2 : Pos} (hg : Gl X "list") (hm : X.mg "list" = none) (hg2 : Gl X "zip") (hm2 : X.mg "zip" = none) (ha : PA X [a, b] ta)
    (hs : starEach (a :: [b]) X.env = (false, eval a X.env) :: starEach [b] X.env := by rfl) (hpl : (backTo pos2 (starEach [b] X.env)).any (·.1) = false := by rfl)
    (hs1 : starEach [Expr.Call (.Name "zip" p2) [a, b] [] pos2] X.env = [(false, eval (.Call (.Name "zip" p2) [a, b] [] pos2) X.env)] := by rfl) :
    PE X (.Call (.Name "list" p1) [.Call (.Name "zip" p2) [a, b] [] pos2] [] pos1) (tListZip K ta) := by
  subst hK
  intro pins s σ H Q I h
  refine Call_ (ld_blt I hg hm boot_list (PyProof.Rows.callWith_type1 ?_ hs1 rfl))
  rw [hs1]
  show wpAny _ _ (spliced ((false, eval (.Call (.Name "zip" p2) [a, b] [] pos2) X.env) :: backTo pos1 (starEach [] X.env))) _ _ s
  refine Calls.spliced_cons ?_
  refine Call_ (ld_blt I hg2 hm2 (by decide +kernel : bootBuiltins "zip" = some (.type "zip")) (PyProof.Rows.callWith_type1 (thn (ha pos2 pins s σ H _ I h) fun us s1 ⟨vs, H1, I1, r1, q1⟩ => ?_) hs hpl))
  obtain ⟨l, l', xs, ys, e, hq, hq', hlen, q⟩ := q1
  subst e
  obtain ⟨u, u', rfl, r1, r2⟩ := vals2 r1
  cases r1
  cases r2
  obtain ⟨its, rv, pl, hz⟩ := I1.tuple hq
  obtain ⟨its', rv', pl', hz'⟩ := I1.tuple hq'
  have tl : s1.heap.IsTuple l its.toArray := pl
  have tl' : s1.heap.IsTuple l' its'.toArray := pl'
  have hlt : l < s1.heap.objs.size := by obtain ⟨o, ho, _⟩ := tl; exact Heap.lt_size ho
  have hlt' : l' < s1.heap.objs.size := by obtain ⟨o, ho, _⟩ := tl'; exact Heap.lt_size ho
  refine call_zipT tl tl' fun h' he hTI hTO hi1 hi2 hsz hk => ?_
  refine Calls.spliced_nil ?_
  have D : ZipApart (s1.heap.objs.size + 4) (s1.heap.objs.size + 2) (s1.heap.objs.size + 3) s1.heap.objs.size (s1.heap.objs.size + 1) l l' := zip_apart _ _ _ hlt hlt'
  have I2 : Inv X pins σ H1 { s1 with heap := h' } := I1.kept (t' := s1.toks) hk
  refine call_listZip (I1.ok.hd hc) D I2 hq hq' hlen he hTI hTO hi1 hi2 (fun b hb => ?_) fun s' H' p qs fr I' sm hp hl pr => ⟨.ref p, H', I', rfl, q p H' qs fr sm hp hl pr⟩
  have hb : s1.heap.objs.size ≤ b := by
    simp only [List.mem_cons, List.not_mem_nil, or_false] at hb
    rcases hb with rfl | rfl | rfl | rfl | rfl
    · exact Nat.le_add_right _ _
    · exact Nat.le_add_right _ _
    · exact Nat.le_add_right _ _
    · exact Nat.le_refl _
    · exact Nat.le_add_right _ _
  exact I1.fpOk hb (I1.hok.fresh hb)
theorem tListZip_i {K : PySem.W.Frag} {σ : St} {H : Hp} {ta : TA} {Q : VK} (k : ta σ H fun vs H1 => ∃ a b xs ys, vs = [.ref a, .ref b] ∧ SqT K H1 a xs ∧ SqT K H1 b ys ∧ ys.length = xs.length ∧ ∀ p H2 qs, H1 p = none → Same H1 H2 → H2 p = some (.lst (qs.map V.ref)) → qs.length = xs.length → PairsOf H2 qs xs ys → Q (.ref p) H2) : tListZip K ta σ H Q := k
noncomputable def mNeKs (K : PySem.W.Frag) : R2 := fun x y H Q => ∃ (p : Addr) (k1 : List Key), x = .ref p ∧ SqT K H p (k1.map kV) ∧ ((y = .non ∧ Q (.bl true) H) ∨ ∃ (q : Addr) (k2 : List Key), y = .ref q ∧ SqT K H q (k2.map kV) ∧ Q (.bl (!decide (k1 = k2))) H)
theorem ko_neKs (K : PySem.W.Frag) (hK : X.K = K) (hu : X.A.units + 150 < cLine) : OpR X (compareOp .NotEq) (mNeKs K) := by
  subst hK
  intro pins s σ H x y v u Q I rx ry h
  obtain ⟨p, k1, rfl, hp, h⟩ := h
  cases rx
  obtain ⟨its, rv, p1, _⟩ := I.tuple hp
  rcases h with ⟨rfl, k⟩ | ⟨q, k2, rfl, hq, k⟩
  · cases ry
    exact SeqAt.RcNeAt.tuple_none (show s.heap.IsTuple p its.toArray from p1) (by omega) X.prog X.w _ _ ⟨.bl true, H, I, rfl, k⟩
  cases ry
  obtain ⟨its', rv', p2, _⟩ := I.tuple hq
  have l1 := rv.length
  have l2 := rv'.length
  rw [List.length_map] at l1 l2
  refine SeqAt.RcNeAt.tuples (e := fun j => decide (k1[j]? = k2[j]?)) (show s.heap.IsTuple p its.toArray from p1) (show s.heap.IsTuple q its'.toArray from p2) (by omega) (fun j h1 h2 => ?_) X.prog X.w _ _ ?_
  · have g1 : j < its.length := by simpa using h1
    have g2 : j < its'.length := by simpa using h2
    have j1 : j < k1.length := by omega
    have j2 : j < k2.length := by omega
    obtain ⟨w1, y1, z1⟩ := rv.get (show (k1.map kV)[j]? = some (kV k1[j]) by rw [List.getElem?_map, List.getElem?_eq_getElem j1]; rfl)
    obtain ⟨w2, y2, z2⟩ := rv'.get (show (k2.map kV)[j]? = some (kV k2[j]) by rw [List.getElem?_map, List.getElem?_eq_getElem j2]; rfl)
    have q1 : its.toArray[j] = w1 := by
      have := List.getElem?_eq_getElem g1
      rw [y1] at this
      simpa using (Option.some.inj this).symm
    have q2 : its'.toArray[j] = w2 := by
      have := List.getElem?_eq_getElem g2
      rw [y2] at this
      simpa using (Option.some.inj this).symm
    rw [q1, q2]
    have e0 : decide (k1[j]? = k2[j]?) = decide (k1[j] = k2[j]) := by rw [List.getElem?_eq_getElem j1, List.getElem?_eq_getElem j2]; exact decide_eq_decide.mpr ⟨fun h => Option.some.inj h, fun h => by rw [h]⟩
    rw [e0]
    exact eqAt_kV z1 z2
  · rw [List.size_toArray, List.size_toArray, ← l1, ← l2, all_eq]
    exact ⟨.bl _, H, I, rfl, k⟩
end
end L2
set_option Elab.async false
set_option linter.all false
set_option maxRecDepth 100000
set_option maxHeartbeats 4000000
namespace L2
open PySem PySem.Spec PyProof.Rows PySem.W
section
variable {X : Cx} {tg : Expr}
end
end L2
set_option Elab.async false
set_option linter.all false
set_option maxRecDepth 100000
set_option maxHeartbeats 4000000
namespace L2
open PySem PySem.Spec PyProof.Rows PySem.W
section
variable {X : Cx}
end
end L2
set_option Elab.async false
set_option linter.all false
set_option maxRecDepth 100000
set_option maxHeartbeats 4000000
namespace L2
open PySem PySem.Spec PyProof.Rows PySem.W
theorem lri_no_len : typeLookup (.type "list_reverseiterator") "__len__" = pure none := by rw [typeLookup_type, builtinLookup_eq_fast]; kernel_rfl
theorem lri_hint : typeLookup (.type "list_reverseiterator") "__length_hint__" = pure (some (.builtin "list_reverseiterator.__length_hint__")) := by rw [typeLookup_type, builtinLookup_eq_fast]; kernel_rfl
theorem rv_no_len : typeLookup (.type "reversed") "__len__" = pure none := by rw [typeLookup_type, builtinLookup_eq_fast]; kernel_rfl
theorem owner_rv : Manifest.owners.lookup (String.ofList ['d', 'e', 's', 'r', 'e', 'v', 'e', 'r'].reverse) = some Manifest.sig_reversed := by kernel_rfl
theorem slot_rv_next : Slot "reversed" "__next__" "reversed.__next__" :=
  .of (owner := "reversed") (n := "__next__") (by rw [typeLookup_type, builtinLookup_eq_fast]; kernel_rfl) (by decide +kernel) (by decide +kernel) (by decide +kernel)
    (by first | exact .inl (by decide +kernel) | exact .inr (by decide +kernel)) (by rw [isSubtype_type]; kernel_rfl)
theorem entry_rv_next : entryFor table "reversed.__next__" = some Builtin.«reversed.__next__» := entryFor_of_tree (by kernel_rfl)
theorem args_rv_next_1 (a : Value) : argsOk "reversed.__next__" ⟨[a], []⟩ := by
  unfold argsOk; rw [signature?_of (id := "reversed.__next__") (n := ['_', '_', 't', 'x', 'e', 'n', '_', '_']) (o := ['d', 'e', 's', 'r', 'e', 'v', 'e', 'r']) (by kernel_rfl) owner_rv]; kernel_rfl
theorem slot_rv_iter : Slot "reversed" "__iter__" "reversed.__iter__" :=
  .of (owner := "reversed") (n := "__iter__") (by rw [typeLookup_type, builtinLookup_eq_fast]; kernel_rfl) (by decide +kernel) (by decide +kernel) (by decide +kernel)
    (by first | exact .inl (by decide +kernel) | exact .inr (by decide +kernel)) (by rw [isSubtype_type]; kernel_rfl)
theorem args_rv_iter_1 (a : Value) : argsOk "reversed.__iter__" ⟨[a], []⟩ := by
  unfold argsOk; rw [signature?_of (id := "reversed.__iter__") (n := ['_', '_', 'r', 'e', 't', 'i', '_', '_']) (o := ['d', 'e', 's', 'r', 'e', 'v', 'e', 'r']) (by kernel_rfl) owner_rv]; kernel_rfl
theorem entry_rv_iter : entryFor table "reversed.__iter__" = some Builtin.«dict_keyiterator.__iter__» :=
  entryFor_alias (id' := "dict_keyiterator.__iter__") (by kernel_rfl) (by first | rfl | decide +kernel | (unfold String.splitOn; simp +decide [String.splitOnAux])) (by decide +kernel) (by kernel_rfl)
theorem slot_rv_hint : Slot "reversed" "__length_hint__" "reversed.__length_hint__" :=
  .of (owner := "reversed") (n := "__length_hint__") (by rw [typeLookup_type, builtinLookup_eq_fast]; kernel_rfl) (by decide +kernel) (by decide +kernel) (by decide +kernel)
    (by first | exact .inl (by decide +kernel) | exact .inr (by decide +kernel)) (by rw [isSubtype_type]; kernel_rfl)
theorem entry_rv_hint : entryFor table "reversed.__length_hint__" = some Builtin.«reversed.__length_hint__» := entryFor_of_tree (by kernel_rfl)
theorem args_rv_hint_1 (a : Value) : argsOk "reversed.__length_hint__" ⟨[a], []⟩ := by
  unfold argsOk; rw [signature?_of (id := "reversed.__length_hint__") (n := "__length_hint__".toList.reverse) (o := ['d', 'e', 's', 'r', 'e', 'v', 'e', 'r']) (by kernel_rfl) owner_rv]; kernel_rfl
theorem slot_rv_init : Slot "reversed" "__init__" "object.__init__" :=
  .of (owner := "object") (n := "__init__") (by rw [typeLookup_type, builtinLookup_eq_fast]; kernel_rfl) (by decide +kernel) (by decide +kernel) (by decide +kernel)
    (by first | exact .inl (by decide +kernel) | exact .inr (by decide +kernel)) (by rw [isSubtype_type]; kernel_rfl)
theorem called_rv : TypeCalled "reversed" "reversed.__new__" "object.__init__" :=
  ⟨by decide +kernel, by decide +kernel, ⟨_, _, PySem.F.mro_reversed⟩, madeBy_type PySem.F.mro_reversed PySem.F.lookup_reversed_new (by decide +kernel), by decide +kernel, by rw [isSubtype_type]; kernel_rfl, slot_rv_init⟩
theorem tup_no_rev : typeLookup (.type "tuple") "__reversed__" = pure none := by rw [typeLookup_type, builtinLookup_eq_fast]; kernel_rfl
noncomputable def IsRv (h : Heap) (a t : Addr) (i : Int) : Prop := ∃ o, h.get? a = some o ∧ o.cls = .type "reversed" ∧ o.data = .fields #[.ref t, rawInt i]
theorem IsRv.typeIs {s : Shared} {a t : Addr} {i : Int} (x : IsRv s.heap a t i) : s.TypeIs (.ref a) "reversed" := let ⟨o, ho, hc, _⟩ := x; ⟨o, ho, hc⟩
theorem IsRv.at {h h' : Heap} {a l : Addr} {i : Int} (x : IsRv h a l i) (e : ∀ o, h.get? a = some o → h'.get? a = some o) : IsRv h' a l i := let ⟨o, ho, r⟩ := x; ⟨o, e _ ho, r⟩
noncomputable def rvObj (t : Addr) (i : Int) : Obj := { cls := .type "reversed", data := .fields #[.ref t, rawInt i] }
theorem meets_rvT (t : Addr) (items : Array Value) (hn : (items.size : Int) < 2 ^ 63) :
    Meets (Builtin.«reversed.__new__» ⟨[.type "reversed", .ref t], []⟩) (fun _ R s => IsTup s.heap t items ∧ ∀ tk, R (.ok (.ret (.ref s.heap.objs.size))) { s with heap := s.heap.push (rvObj t ((items.size : Int) - 1)), toks := tk }) :=
  .of_wp fun prog w A R s h => by
    obtain ⟨ht, h⟩ := h
    unfold Builtin.«reversed.__new__»
    refine wpAny_bind (wpAny_of_eq (newClass_reversed _) ?_)
    try dsimp only
    refine wpAny_bind (wpAny_of_eq (a := ()) (by first | rfl | kernel_rfl) ?_)
    refine wpAny_bind (wpAny_of_eq (a := ()) (by first | rfl | kernel_rfl) ?_)
    try dsimp only
    refine wpAny_bind (wpAny_specialOf ht.typeIs tup_no_rev ?_)
    try dsimp only
    refine wpAny_bind ?_
    show wpAny _ _ (isInstance (Value.ref t) (.type "dict") >>= _) _ _ _
    refine wpAny_bind (wpAny_isInstance (T := "tuple") (b := false) ht.typeIs (by rw [isSubtype_type]; kernel_rfl) ?_)
    refine wpAny_ite_split (fun hab => absurd hab (by decide)) (fun _ => ?_)
    refine wpAny_bind (wpAny_specialOf ht.typeIs slot_tuple_getitem.lookup ?_)
    refine wpAny_ite_split (fun _ => ?_) (fun hab => absurd (by decide +kernel) hab)
    refine wpAny_pure ?_
    refine wpAny_ite_split (fun hab => absurd hab (by decide)) (fun _ => ?_)
    refine wpAny_bind (len_tuple ht hn ?_)
    refine wpAny_bind (m := asInt? _) (wpAny_pure ?_)
    refine wpAny_bind ?_
    show wpAny _ _ (newObj (.type "reversed") (.fields #[.ref t, rawInt ((items.size : Int) - 1)])) _ _ _
    refine wpAny_newObj_type (wpAny_pure ⟨_, rfl, ?_⟩)
    exact h _
section
variable {prog : Program} {w : World} {A : Around} {E : Value → Shared → Prop} {s : Shared}
theorem call_reversed_tup {t : Addr} {items : Array Value} {Q : Value → Shared → Prop} (ht : IsTup s.heap t items) (hn : (items.size : Int) < 2 ^ 63)
    (h : ∀ tk, Q (.ref s.heap.objs.size) { s with heap := s.heap.push (rvObj t ((items.size : Int) - 1)), toks := tk }) : wpAny (model prog w) A (call (.type "reversed") [.ref t]) Q E s := by
  refine callType_new called_rv (by decide) (PySem.F.typeCall_reversed_1 _) (PySem.F.newCall_reversed_1 _) (fun obj => PySem.F.args_object_init_2 obj _) PySem.F.entry_reversed_new (meets_rvT t items hn) ⟨ht, fun tk => ?_⟩
  exact ⟨⟨_, Heap.get?_push_size _ rfl, rfl⟩, h tk⟩
theorem next_rv_item {it t : Addr} {i : Nat} {items : Array Value} {x : Value} {Q : Option Value → Shared → Prop} (hit : IsRv s.heap it t (i : Int)) (ht : IsTup s.heap t items) (hi : (i : Int) < 2 ^ 63) (hx : items[i]? = some x)
    (hQ : ∀ h' tk, IsRv h' it t ((i : Int) - 1) → Heap.SameBut it s.heap h' → Q (some x) { s with heap := h', toks := tk }) : wpAny (model prog w) A (pyNext (.ref it)) Q E s := by
  obtain ⟨o, ho, hc, hd⟩ := id hit
  unfold pyNext
  refine wpAny_bind (wpAny_attempt (wpAny_callSpecial?_slot (name := Str.ofString "__next__") hit.typeIs slot_rv_next
    (wpAny_call_entry slot_rv_next hit.typeIs entry_rv_next ?_ (args_rv_next_1 _))))
  unfold Builtin.«reversed.__next__»
  refine wpAny_bind (wpAny_of_eq (a := (Value.ref it, [])) rfl ?_)
  try dsimp only
  refine wpAny_bind (wpAny_field ho hd (x := .ref t) rfl ?_)
  refine wpAny_bind (wpAny_field ho hd (x := rawInt (i : Int)) rfl ?_)
  show wpAny _ _ (if (i : Int) < 0 then _ else _) _ _ s
  rw [if_neg (by omega)]
  refine wpAny_bind (wpAny_specialOf ht.typeIs slot_tuple_getitem.lookup ?_)
  refine wpAny_ite_split (fun hab => absurd hab (by decide)) (fun _ => ?_)
  refine wpAny_bind (wpAny_mkInt ?_)
  have hlt : i < items.size := by
    rcases Nat.lt_or_ge i items.size with z | z
    · exact z
    · rw [Array.getElem?_eq_none z] at hx; cases hx
  have hj : seqIndex? (i : Int) items.size = some i := by
    unfold seqIndex?
    simp
    omega
  refine wpAny_bind (wpAny_attempt (getItem_tuple (s := { s with toks := s.toks + 1 }) (j := i) ht (by omega) hi hj hx ?_))
  refine wpAny_bind (wpAny_field ho hd (x := rawInt (i : Int)) rfl ?_)
  show wpAny _ _ (setField (.ref it) 1 (rawInt ((i : Int) - 1)) >>= fun _ => ret x) _ _ _
  refine wpAny_bind (wpAny_setField ho hd (by simp) ?_)
  refine wpAny_pure ⟨x, rfl, wpAny_pure (hQ _ _ ?_ (Heap.SameBut.update ..))⟩
  exact ⟨_, Heap.get?_update_self _ ho (Obj.isFreed_of_fields (Obj.data_mapFields hd _)), (Obj.cls_mapFields ..).trans hc, by
    rw [Obj.data_mapFields hd]; simp⟩
theorem next_rv_end {it t : Addr} {Q : Option Value → Shared → Prop} (hh : A.handled = none) (hit : IsRv s.heap it t (-1))
    (hQ : ∀ h', Heap.ExtBut it s.heap h' → Q none { s with heap := h' }) : wpAny (model prog w) A (pyNext (.ref it)) Q E s := by
  obtain ⟨o, ho, hc, hd⟩ := id hit
  unfold pyNext
  refine wpAny_bind (wpAny_attempt (wpAny_callSpecial?_slot (name := Str.ofString "__next__") hit.typeIs slot_rv_next
    (wpAny_call_entry slot_rv_next hit.typeIs entry_rv_next ?_ (args_rv_next_1 _))))
  unfold Builtin.«reversed.__next__»
  refine wpAny_bind (wpAny_of_eq (a := (Value.ref it, [])) rfl ?_)
  try dsimp only
  refine wpAny_bind (wpAny_field ho hd (x := .ref t) rfl ?_)
  refine wpAny_bind (wpAny_field ho hd (x := rawInt (-1)) rfl ?_)
  show wpAny _ _ (if (-1 : Int) < 0 then _ else _) _ _ s
  rw [if_pos (by decide)]
  refine wpAny_bind (wpAny_rule ?_)
  refine wpAny_bind ?_
  show wpAny _ _ (setField (.ref it) 1 (rawInt (-1)) >>= fun _ => setField (.ref it) 0 .none) _ _ _
  refine wpAny_bind (wpAny_setField ho hd (by simp) ?_)
  have ho1 := Heap.get?_update_self (Obj.mapFields (·.setIfInBounds 1 (rawInt (-1)))) ho (Obj.isFreed_of_fields (Obj.data_mapFields hd _))
  have hd1 : (Obj.mapFields (fun x => x.setIfInBounds 1 (rawInt (-1))) o).data = .fields #[.ref t, rawInt (-1)] := by rw [Obj.data_mapFields hd]; simp
  refine wpAny_setField ho1 hd1 (by simp) ?_
  refine wpAny_bind ?_
  show wpAny _ _ (newExc (.type "StopIteration") [] >>= _) _ _ _
  refine wpAny_bind ?_
  simp only [newExc, newTuple]
  refine wpAny_bind (wpAny_newObj_type ?_ (by size_fits))
  refine wpAny_bind (m := firstArgMember _ _) (wpAny_of_eq (a := Value.none) (by first | rfl | (simp only [firstArgMember]; rfl)) ?_)
  refine wpAny_newObj_type ?_ (by size_fits)
  simp only [raiseNew]
  refine wpAny_bind (wpAny_handled ?_)
  first | rw [show A.in1.handled = none from hh] | rw [hh]
  refine wpAny_bind (wpAny_pure (wpAny_throw ?_))
  refine wpAny_bind (wpAny_isInstance (T := "StopIteration") (b := true) ⟨_, Heap.get?_push_size _ rfl, rfl⟩ isSubtype_stop ?_)
  refine wpAny_pure (hQ _ (fun b u hb e => ?_))
  exact Heap.get?_push_of_some _ (Heap.get?_push_of_some _ ((Heap.get?_update_other _ _ (Ne.symm hb)).trans ((Heap.get?_update_other _ _ (Ne.symm hb)).trans e)))
theorem iter_rv {it t : Addr} {i : Int} {Q : Value → Shared → Prop} (hit : IsRv s.heap it t i) (h : Q (.ref it) s) : wpAny (model prog w) A (pyIter (.ref it)) Q E s := by
  refine wpAny_pyIter_slot hit.typeIs slot_rv_iter (wpAny_call_entry slot_rv_iter hit.typeIs entry_rv_iter ?_ (args_rv_iter_1 _))
  show wpAny _ _ (ret (.ref it)) _ _ s
  exact wpAny_pure ⟨_, rfl, "reversed", _, hit.typeIs, slot_rv_next.lookup, h⟩
theorem hint_lri {r : Addr} {Q : Bool → Shared → Prop} (hT : s.TypeIs (.ref r) "list_reverseiterator") (h : Q false s) : wpAny (model prog w) A (Builtin.List.listLengthHint (.ref r)) Q E s := by
  unfold Builtin.List.listLengthHint
  refine wpAny_bind (wpAny_specialOf hT lri_no_len ?_)
  show wpAny _ _ (specialOf (Value.ref r) (Str.ofString "__length_hint__") >>= _) _ _ _
  refine wpAny_bind (wpAny_specialOf hT lri_hint ?_)
  generalize hid : ("list_reverseiterator.__length_hint__" : String) = id0
  wp_delta
  rw [show splitId id0 = some ("list_reverseiterator", "__length_hint__") from by subst hid; decide +kernel]
  subst hid
  refine wpAny_bind (wpAny_isInstance (T := "list_reverseiterator") (b := true) hT (by rw [isSubtype_type]; kernel_rfl) ?_)
  refine wpAny_ite_split (fun hab => absurd hab (by decide)) (fun _ => ?_)
  refine wpAny_ite_split (fun _ => ?_) (fun hab => absurd (by decide +kernel) hab)
  refine wpAny_ite_split (fun hab => absurd hab (by decide +kernel)) (fun _ => ?_)
  exact wpAny_pure h
theorem hint_rv {r t : Addr} {i : Int} {items : Array Value} {Q : Bool → Shared → Prop} (hit : IsRv s.heap r t i) (ht : IsTup s.heap t items) (hi : i = (items.size : Int) - 1) (hn : items.size ≤ 2 ^ 24) (h : ∀ b tk, Q b { s with toks := tk }) : wpAny (model prog w) A (Builtin.List.listLengthHint (.ref r)) Q E s := by
  have hT := hit.typeIs
  obtain ⟨o, ho, hc, hd⟩ := id hit
  unfold Builtin.List.listLengthHint
  refine wpAny_bind (wpAny_specialOf hT rv_no_len ?_)
  show wpAny _ _ (specialOf (Value.ref r) (Str.ofString "__length_hint__") >>= _) _ _ _
  refine wpAny_bind (wpAny_specialOf hT slot_rv_hint.lookup ?_)
  generalize hid : ("reversed.__length_hint__" : String) = id0
  wp_delta
  rw [show splitId id0 = some ("reversed", "__length_hint__") from by subst hid; decide +kernel]
  subst hid
  refine wpAny_bind (wpAny_isInstance (T := "reversed") (b := true) hT (by rw [isSubtype_type]; kernel_rfl) ?_)
  refine wpAny_ite_split (fun hab => absurd hab (by decide)) (fun _ => ?_)
  refine wpAny_ite_split (fun hab => absurd hab (by decide +kernel)) (fun _ => ?_)
  refine wpAny_bind (wpAny_rule ?_)
  refine wpAny_bind (wpAny_of_eq (slot_rv_hint.bind _) ?_)
  refine wpAny_bind (wpAny_attempt (wpAny_call_entry slot_rv_hint hT entry_rv_hint ?_ (args_rv_hint_1 _)))
  unfold Builtin.«reversed.__length_hint__»
  refine wpAny_bind (wpAny_of_eq (a := Value.ref r) rfl ?_)
  refine wpAny_bind (wpAny_field ho hd (x := .ref t) rfl ?_)
  refine wpAny_ite_split (fun hab => absurd hab Bool.false_ne_true) (fun _ => ?_)
  refine wpAny_bind (len_tuple ht (by omega) ?_)
  refine wpAny_bind (m := asInt? _) (wpAny_pure ?_)
  refine wpAny_bind (wpAny_field ho hd (x := rawInt i) rfl ?_)
  show wpAny _ _ (if (items.size : Int) < i + 1 then _ else _) _ _ _
  rw [if_neg (by omega)]
  refine wpAny_bind (wpAny_mkInt (wpAny_pure ⟨_, rfl, ?_⟩))
  refine wpAny_bind (m := asInt? _) (wpAny_pure ?_)
  have e1 : Builtin.List.listFitsIndex (i + 1) = true := by simp [Builtin.List.listFitsIndex]; omega
  have e2 : Builtin.List.listTooLong (i + 1).toNat = false := by simp [Builtin.List.listTooLong, sizeLine_eq]; omega
  refine wpAny_ite_split (fun hab => absurd hab (by rw [e1]; decide)) (fun _ => ?_)
  refine wpAny_ite_split (fun hab => absurd hab (by omega)) (fun _ => ?_)
  refine wpAny_ite_split (fun hab => absurd hab (by rw [e2]; decide)) (fun _ => ?_)
  exact wpAny_pure (h _ _)
theorem walks_rv (hh : A.handled = none) (I t : Addr) (hne : t ≠ I) (items : Array Value) (hn : items.size ≤ 2 ^ 24) :
    Walks prog w A I [I, t] [I] items.size (fun i v => items[items.size - 1 - i]? = some v) (fun i h => i ≤ items.size ∧ IsRv h I t ((items.size : Int) - 1 - (i : Int)) ∧ IsTup h t items) where
  sub := fun b hb => by simp at hb; simp [hb]
  frame := fun _ _ _ x hk => ⟨x.1, x.2.1.at fun o e => hk I (by simp) o e, let ⟨o, ho, r⟩ := x.2.2; ⟨o, hk t (by simp) o ho, r⟩⟩
  item := fun i s Q E hi x hQ => by
    have e : (items.size : Int) - 1 - (i : Int) = ((items.size - 1 - i : Nat) : Int) := by omega
    have hit := x.2.1
    rw [e] at hit
    have hx : items[items.size - 1 - i]? = some (items[items.size - 1 - i]'(by omega)) := Array.getElem?_eq_getElem (by omega)
    refine next_rv_item hit x.2.2 (by omega) hx fun h' tk hit' hs' => ?_
    have e2 : ((items.size - 1 - i : Nat) : Int) - 1 = (items.size : Int) - 1 - ((i + 1 : Nat) : Int) := by omega
    rw [e2] at hit'
    exact hQ _ h' tk hx ⟨hi, hit', let ⟨o, ho, r⟩ := x.2.2; ⟨o, (hs'.2 t hne).trans ho, r⟩⟩ fun b o hb eo => hs'.extBut b o (fun h => hb (by simp [h])) eo
  done := fun s Q E x hQ => by
    have e : (items.size : Int) - 1 - (items.size : Int) = -1 := by omega
    have hit := x.2.1
    rw [e] at hit
    exact next_rv_end hh hit fun h' he' => hQ h' s.toks fun b o hb eo => he' b o (fun h => hb (by simp [h])) eo
  self := fun _ _ _ _ x hQ => iter_rv x.2.1 hQ
theorem call_list_it {Q : Value → Shared → Prop} {T : String} {I : Addr} {fp wr : List Addr} {n : Nat} {P : Nat → Value → Prop} {St : Nat → Heap → Prop} (W : Walks prog w A.in1.in1 I fp wr n P St) (hn : n ≤ sizeLine)
    (hT : ∀ (s' : Shared), St 0 s'.heap → s'.TypeIs (.ref I) T) (h2 : (Value.type T == Value.type "list") = false) (h3 : (Value.type T == Value.type "tuple") = false)
    (hint : ∀ {A' : Around} {E' : Value → Shared → Prop} (s' : Shared) (Q' : Bool → Shared → Prop), St 0 s'.heap → (∀ b tk, Q' b { s' with toks := tk }) → wpAny (model prog w) A' (Builtin.List.listLengthHint (.ref I)) Q' E' s')
    (hst : St 0 s.heap) (hfp : ∀ b ∈ fp, b < s.heap.objs.size) (hI : I ∈ fp)
    (hQ : ∀ h' tk acc' c', (∀ b o, b ∉ wr → s.heap.get? b = some o → h'.get? b = some o) →
      h'.get? s.heap.objs.size = some { cls := .type "list", dict := none, data := .seq acc' c', slots := #[] } → ItemsOf P acc' n → Q (.ref s.heap.objs.size) { s with heap := h', toks := tk }) :
    wpAny (model prog w) A (call (.type "list") [.ref I]) Q E s := by
  have hSf : s.heap.objs.size ∉ fp := fun hm => Nat.lt_irrefl _ (hfp _ hm)
  have hSI : s.heap.objs.size ≠ I := fun e => hSf (e ▸ hI)
  refine callType_codes (Q₁ := fun obj s₁ => obj = .ref s.heap.objs.size ∧ s₁ = { s with heap := s.heap.push { cls := .type "list", data := .seq #[] } }) PySem.F.called_list (PySem.F.typeCall_list_1 _) PySem.F.entry_list_init
    (code_list_new _ ⟨rfl, rfl⟩) fun obj s₁ h₁ => ?_
  obtain ⟨rfl, rfl⟩ := h₁
  have hS : (s.heap.push { cls := .type "list", data := .seq #[] }).get? s.heap.objs.size = some { cls := .type "list", data := .seq #[] } := Heap.get?_push_size _ rfl
  refine ⟨⟨_, hS, rfl⟩, PySem.F.args_list_init_2 _ _, ?_⟩
  generalize hSS : s.heap.objs.size = S at hS hSf hSI hQ ⊢
  show wpAny _ _ (do let old ← Builtin.List.listItems (.ref S); Builtin.List.listUpdate (.ref S) (fun _ => #[]); letGo old.toList.reverse; Builtin.List.listExtendWith (.ref S) (.ref I) .none) _ _ _
  refine wpAny_bind ?_
  unfold Builtin.List.listItems
  refine wpAny_bind (wpAny_seqItems hS rfl (wpAny_pure ?_))
  show wpAny _ _ (updateSeq S (fun _ => #[]) >>= fun _ => letGo (#[] : Array Value).toList.reverse >>= fun _ => Builtin.List.listExtendWith (.ref S) (.ref I) .none) _ _ _
  refine wpAny_bind (wpAny_updateSeq hS rfl ?_)
  have hS₁ := Heap.get?_update_self (Obj.mapSeq (fun _ => (#[] : Array Value))) hS rfl
  have k1 : ∀ b o, b ≠ S → s.heap.get? b = some o → ((s.heap.push { cls := .type "list", data := .seq #[] }).update S (Obj.mapSeq (fun _ => (#[] : Array Value)))).get? b = some o :=
    fun b o hb e => (Heap.get?_update_other _ _ (Ne.symm hb)).trans (Heap.get?_push_of_some _ e)
  refine wpAny_bind (wpAny_letGo ?_)
  generalize ((s.heap.push { cls := .type "list", data := .seq #[] }).update S (Obj.mapSeq (fun _ => (#[] : Array Value)))) = hp1 at hS₁ k1 ⊢
  have neS : ∀ b ∈ fp, b ≠ S := fun b hb e => hSf (e ▸ hb)
  have st1 : St 0 hp1 := W.frame 0 _ _ hst fun b hb o e => k1 b o (neS b hb) e
  unfold Builtin.List.listExtendWith
  refine wpAny_bind (wpAny_typeOf (hT { s with heap := hp1 } st1) ?_)
  have g1 : Builtin.List.listSameRef (.ref S) (.ref I) = false := by simp [Builtin.List.listSameRef, hSI]
  simp only [g1, h2, h3, Bool.or_false, Bool.false_eq_true, if_false]
  refine wpAny_bind (W.self 0 { s with heap := hp1 } _ _ st1 ?_)
  refine wpAny_bind (wpAny_holding (hint { s with heap := hp1 } _ st1 fun b tk => ?_))
  have key : ∀ (h : Heap) (c₁ : Nat), (∀ b o, b ≠ S → s.heap.get? b = some o → h.get? b = some o) → h.get? S = some { cls := .type "list", data := .seq #[] c₁ } →
      codeAny (model prog w) A.in1 (.builtin "list.extend.loop" ⟨[.ref S, .ref I, .none], []⟩) (wants (fun r s' => r = .none ∧ Q (.ref S) s') E) { s with heap := h, toks := tk } := by
    intro h c₁ hk hS₂
    refine codeAny_extend_loopS W.toS hn S hSf .none n 0 _ #[] c₁ rfl (Nat.zero_le _) (W.frame 0 _ _ hst fun b hb o e => hk b o (neS b hb) e) hS₂ (ItemsOf.nil _) fun s' acc' c' hm hS' hacc => ?_
    rw [Moved.eq_with hm]
    refine ⟨rfl, hQ s'.heap s'.toks acc' c' (fun b o hb e => hm.heap b o (fun hmem => ?_) (hk b o (fun z => ?_) e)) hS' hacc⟩
    · rcases List.mem_cons.mp hmem with e' | hmem
      · have := Heap.lt_size e
        rw [e', hSS] at this
        exact Nat.lt_irrefl _ this
      · exact hb hmem
    · have := Heap.lt_size e
      rw [z, hSS] at this
      exact Nat.lt_irrefl _ this
  refine wpAny_ite_split (fun _ => ?_) (fun _ => wpAny_pure ⟨plainId_quiet PySem.F.plain_extend_loop _, key _ _ k1 hS₁⟩)
  refine wpAny_bind (wpAny_rule ?_)
  refine wpAny_bind ?_
  show wpAny _ _ (updateSeq S (·.push .none) >>= fun _ => updateSeq S (·.pop)) _ _ _
  refine wpAny_bind (wpAny_updateSeq hS₁ rfl ?_)
  have hS₂ := Heap.get?_update_self (Obj.mapSeq (·.push Value.none)) hS₁ rfl
  refine wpAny_updateSeq (hz := by seq_fits) hS₂ rfl ?_
  have hS₃ := Heap.get?_update_self (Obj.mapSeq (·.pop)) hS₂ rfl
  exact wpAny_pure ⟨plainId_quiet PySem.F.plain_extend_loop _, key _ _ (fun b o hb e => (Heap.get?_update_other _ _ (Ne.symm hb)).trans ((Heap.get?_update_other _ _ (Ne.symm hb)).trans (k1 b o hb e))) hS₃⟩
end
end L2
set_option Elab.async false
set_option linter.all false
set_option maxRecDepth 100000
set_option maxHeartbeats 4000000
namespace L2
open PySem PySem.Spec PyProof.Rows PySem.W
theorem items_rev {its : List Value} {acc : Array Value} (h : ItemsOf (fun i v => its.toArray[its.toArray.size - 1 - i]? = some v) acc its.toArray.size) : acc = its.reverse.toArray := by
  obtain ⟨h1, h2⟩ := h
  apply Array.ext'
  rw [List.toList_toArray]
  apply List.ext_getElem?
  intro j
  have hs : acc.toList.length = its.length := by rw [Array.length_toList, h1, List.size_toArray]
  by_cases hj : j < its.length
  · have hj' : j < acc.size := by rw [← Array.length_toList]; omega
    have e := h2 j acc[j] (Array.getElem?_eq_getElem hj')
    rw [List.getElem?_reverse hj, Array.getElem?_toList, Array.getElem?_eq_getElem hj']
    rw [List.size_toArray, List.getElem?_toArray] at e
    exact e.symm
  · rw [List.getElem?_eq_none (by omega), List.getElem?_eq_none (by rw [List.length_reverse]; omega)]
section
variable {X : Cx}
noncomputable def tListRev (K : PySem.W.Frag) (ta : TA) : TE := fun σ H Q => ta σ H fun vs H1 => ∃ a xs, vs = [.ref a] ∧ (SqL K H1 a xs ∨ SqT K H1 a xs) ∧ xs.length ≤ 100000 ∧ ∀ p, H1 p = none → Q (.ref p) (upd H1 p (.lst xs.reverse))
theorem pe_listRev (K : PySem.W.Frag) (hK : X.K = K) (hc : X.calm = true) {a : Expr} {ta : TA} {p1 p2 pos1 pos2 : Pos} (hg : Gl X "list") (hm : X.mg "list" = none) (hg2 : Gl X "reversed") (hm2 : X.mg "reversed" = none) (ha : PA X [a] ta)
    (hs : starEach [a] X.env = [(false, eval a X.env)] := by rfl)
    (hs1 : starEach [Expr.Call (.Name "reversed" p2) [a] [] pos2] X.env = [(false, eval (.Call (.Name "reversed" p2) [a] [] pos2) X.env)] := by rfl) :
    PE X (.Call (.Name "list" p1) [.Call (.Name "reversed" p2) [a] [] pos2] [] pos1) (tListRev K ta) := by
  subst hK
  intro pins s σ H Q I h
  refine Call_ (ld_blt I hg hm boot_list (PyProof.Rows.callWith_type1 ?_ hs1 rfl))
  rw [hs1]
  show wpAny _ _ (spliced ((false, eval (.Call (.Name "reversed" p2) [a] [] pos2) X.env) :: backTo pos1 (starEach [] X.env))) _ _ s
  refine Calls.spliced_cons ?_
  refine Call_ (ld_blt I hg2 hm2 boot_reversed (PyProof.Rows.callWith_type1 (thn (ha pos2 pins s σ H _ I h) fun us s1 ⟨vs, H1, I1, r1, q1⟩ => ?_) hs rfl))
  obtain ⟨l, xs, e, hq, hlen, q⟩ := q1
  subst e
  have fin : ∀ (its : List Value) (h' : Heap) (tk : Nat) (acc' : Array Value) (c' : Nat), Vals xs its → (∀ b o, s1.heap.get? b = some o → h'.get? b = some o) → h'.get? (s1.heap.objs.size + 1) = some { cls := .type "list", dict := none, data := .seq acc' c', slots := #[] } → ItemsOf (fun i v => its.toArray[its.toArray.size - 1 - i]? = some v) acc' its.toArray.size → EP X pins σ Q (.ref (s1.heap.objs.size + 1)) { s1 with heap := h', toks := tk } := by
    intro its h' tk acc' c' rv hk hS hacc
    have ea := items_rev hacc
    subst ea
    have fr : H1 (s1.heap.objs.size + 1) = none := I1.hok.fresh (Nat.le_add_right _ _)
    refine ⟨.ref _, upd H1 (s1.heap.objs.size + 1) (.lst xs.reverse), I1.laid (t' := tk) hk (Nat.le_add_right _ _) ⟨by rw [List.length_reverse, sizeLine_eq]; omega, its.reverse, c', rv.reverse, hS⟩, rfl, q _ fr⟩
  have keepA : ∀ (o0 : Obj) (h' : Heap), (∀ b o, b ∉ [s1.heap.objs.size] → (s1.heap.push o0).get? b = some o → h'.get? b = some o) → ∀ b o, s1.heap.get? b = some o → h'.get? b = some o := fun o0 h' hk b o e => hk b o (fun z => by
    rw [List.mem_singleton.mp z] at e
    exact Nat.lt_irrefl _ (Heap.lt_size e)) (Heap.get?_push_of_some _ e)
  cases r1 with
  | cons r rr =>
    cases rr
    cases r
    rcases hq with hq | hq
    · obtain ⟨its, rv, pl, hz⟩ := I1.list hq
      have hlen' := rv.length
      have hL : s1.heap.IsList l its.toArray := pl.isList
      have hlt : l < s1.heap.objs.size := by obtain ⟨o, ho, _⟩ := hL; exact Heap.lt_size ho
      refine call_reversed_list hL ?_
      refine Calls.spliced_nil ?_
      have zz : (s1.heap.push (revObj l ((its.toArray.size : Int) - 1))).objs.size = s1.heap.objs.size + 1 := Heap.size_push ..
      have st0 : 0 ≤ its.toArray.size ∧ (s1.heap.push (revObj l ((its.toArray.size : Int) - 1))).IsRevIter s1.heap.objs.size l ((its.toArray.size : Int) - 1 - ((0 : Nat) : Int)) ∧ (s1.heap.push (revObj l ((its.toArray.size : Int) - 1))).IsList l its.toArray := by
        refine ⟨Nat.zero_le _, ?_, hL.at fun o e => Heap.get?_push_of_some _ e⟩
        have e1 : (its.toArray.size : Int) - 1 - ((0 : Nat) : Int) = (its.toArray.size : Int) - 1 := by omega
        rw [e1]
        exact ⟨_, Heap.get?_push_size _ rfl, rfl, rfl⟩
      have W := Walks.listRev (prog := X.prog) (w := X.w) (A := X.A.in1.in1) (I1.ok.hd hc) s1.heap.objs.size l (Nat.ne_of_lt hlt) its.toArray
      refine call_list_it (T := "list_reverseiterator") W (by rw [List.size_toArray, ← hlen', sizeLine_eq]; omega) (fun s' st => st.2.1.typeIs) (by decide) (by decide) (fun s' Q' st k => hint_lri st.2.1.typeIs (k false s'.toks)) st0 (fun b hb => ?_) (by simp) (fun h' tk acc' c' hk hS hacc => ?_)
      · rw [zz]
        simp only [List.mem_cons, List.not_mem_nil, or_false] at hb
        rcases hb with rfl | rfl
        · exact Nat.lt_succ_self _
        · exact Nat.lt_succ_of_lt hlt
      · rw [zz] at hS ⊢
        exact fin its h' tk acc' c' rv (keepA _ h' hk) hS hacc
    · obtain ⟨its, rv, pl, hz⟩ := I1.tuple hq
      have hlen' := rv.length
      have hlt : l < s1.heap.objs.size := pl.lt
      refine call_reversed_tup pl (by rw [List.size_toArray, ← hlen']; omega) (fun tk0 => ?_)
      refine Calls.spliced_nil ?_
      have zz : (s1.heap.push (rvObj l ((its.toArray.size : Int) - 1))).objs.size = s1.heap.objs.size + 1 := Heap.size_push ..
      have st0 : 0 ≤ its.toArray.size ∧ IsRv (s1.heap.push (rvObj l ((its.toArray.size : Int) - 1))) s1.heap.objs.size l ((its.toArray.size : Int) - 1 - ((0 : Nat) : Int)) ∧ IsTup (s1.heap.push (rvObj l ((its.toArray.size : Int) - 1))) l its.toArray := by
        refine ⟨Nat.zero_le _, ?_, pl.push _⟩
        have e1 : (its.toArray.size : Int) - 1 - ((0 : Nat) : Int) = (its.toArray.size : Int) - 1 := by omega
        rw [e1]
        exact ⟨_, Heap.get?_push_size _ rfl, rfl, rfl⟩
      have hsz : its.toArray.size ≤ 2 ^ 24 := by rw [List.size_toArray, ← hlen']; omega
      have W := walks_rv (prog := X.prog) (w := X.w) (A := X.A.in1.in1) (I1.ok.hd hc) s1.heap.objs.size l (Nat.ne_of_lt hlt) its.toArray hsz
      refine call_list_it (T := "reversed") W (by rw [List.size_toArray, ← hlen', sizeLine_eq]; omega) (fun s' st => st.2.1.typeIs) (by decide) (by decide) (fun s' Q' st k => hint_rv st.2.1 st.2.2 (by omega) hsz k) st0 (fun b hb => ?_) (by simp) (fun h' tk acc' c' hk hS hacc => ?_)
      · rw [zz]
        simp only [List.mem_cons, List.not_mem_nil, or_false] at hb
        rcases hb with rfl | rfl
        · exact Nat.lt_succ_self _
        · exact Nat.lt_succ_of_lt hlt
      · rw [zz] at hS ⊢
        exact fin its h' tk acc' c' rv (keepA _ h' hk) hS hacc
theorem tListRev_i {K : PySem.W.Frag} {σ : St} {H : Hp} {ta : TA} {Q : VK} (k : ta σ H fun vs H1 => ∃ a xs, vs = [.ref a] ∧ (SqL K H1 a xs ∨ SqT K H1 a xs) ∧ xs.length ≤ 100000 ∧ ∀ p, H1 p = none → Q (.ref p) (upd H1 p (.lst xs.reverse))) : tListRev K ta σ H Q := k
end
end L2
set_option Elab.async false
set_option linter.all false
set_option maxRecDepth 100000
set_option maxHeartbeats 4000000
namespace L2
open PySem PySem.Spec PyProof.Rows PySem.W
section
variable {X : Cx} {pos : Pos} {e e2 : Expr} {te te2 : TE}
end
section
variable {X : Cx}
end
end L2
set_option Elab.async false
set_option linter.all false
set_option maxRecDepth 100000
set_option maxHeartbeats 4000000
namespace L2
open PySem PySem.Spec PyProof.Rows
section
variable {X : Cx}
end
section
variable {X : Cx}
end
section
variable {K : PySem.W.Frag} {σ : St} {H : Hp} {Q : VK} {D : Ends} {ta tv : TE} {t : TA} {f m : Str} {C : Addr} {sp : Sp} {dvs : List V} {E : XK}
theorem tFld_i (k : ta σ H fun x H1 => ∃ a C dx fs v, x = .ref a ∧ H1 a = some (.ins C dx fs) ∧ Cls K C ∧ NoAttr K C f ∧ fs.lookup f = some v ∧ Q v H1) : tFld K ta f σ H Q := k
theorem sFld_i (k : tv σ H fun y H1 => ta σ H1 fun x H2 => ∃ a C dx fs, x = .ref a ∧ H2 a = some (.ins C dx fs) ∧ Cls K C ∧ NoAttr K C f ∧ fs.length < 1000 ∧ D.nx σ (upd H2 a (.ins C dx (putF f y fs)))) : sFld K ta tv f D σ H := k
theorem tMeth_i (k : ta σ H fun x H1 => ∃ a dx fs, x = .ref a ∧ H1 a = some (.ins C dx fs) ∧ fs.lookup m = none ∧ t σ H1 fun vs H2 => sp (x :: (vs ++ dvs)) H2 Q E) : tMeth C m sp dvs E ta t σ H Q := k
theorem tMake_i (k : t σ H fun vs H1 => ∀ x dx, H1 x = none → H1 dx = none → dx ≠ x → sp (.ref x :: (vs ++ dvs)) (upd (upd H1 dx (.own x)) x (.ins C dx [])) (fun v H2 => v = .non ∧ Q (.ref x) H2) E) : tMake C sp dvs E t σ H Q := k
end
end L2
set_option Elab.async false
set_option linter.all false
set_option maxRecDepth 100000
set_option maxHeartbeats 4000000
namespace L2
open PySem PySem.Spec PyProof.Rows PySem.W
section
variable {X : Cx}
theorem items_rng {a : Int} {n : Nat} {acc : Array Value} (h : ItemsOf (fun i v => ∃ t, v = Value.int (a + i * 1) t) acc n) : Vals ((List.range n).map fun k => V.int (a + (k : Nat))) acc.toList := by
  obtain ⟨h1, h2⟩ := h
  have : ∀ (l : List Value) (o : Nat), (∀ j v, l[j]? = some v → ∃ t, v = Value.int (a + ((o + j : Nat) : Int)) t) → Vals ((List.range' o l.length).map fun k => V.int (a + (k : Nat))) l := by
    intro l
    induction l with
    | nil => intro o _; exact .nil
    | cons v l ih =>
      intro o hv
      rw [List.length_cons, List.range'_succ, List.map_cons]
      refine .cons ?_ (ih (o + 1) fun j v e => ?_)
      · obtain ⟨t, e⟩ := hv 0 v rfl
        exact ⟨t, e⟩
      · obtain ⟨t, e⟩ := hv (j + 1) v e
        exact ⟨t, by rw [e, show o + (j + 1) = o + 1 + j by omega]⟩
  have q := this acc.toList 0 fun j v e => by
    rw [Array.getElem?_toList] at e
    obtain ⟨t, e⟩ := h2 j v e
    refine ⟨t, ?_⟩
    rw [e, Nat.zero_add, Int.mul_one]
  rw [Array.length_toList, h1, ← List.range_eq_range'] at q
  exact q
end
end L2
set_option Elab.async false
set_option linter.all false
set_option maxRecDepth 100000
set_option maxHeartbeats 4000000
namespace L2
open PySem PySem.Spec PyProof.Rows PySem.W
section
variable {X : Cx}
end
section
variable {X : Cx} {tg : Expr}
end
section
variable {X : Cx} {pos : Pos} {e e2 : Expr} {te te2 : TE}
end
end L2
set_option Elab.async false
set_option linter.all false
set_option maxRecDepth 100000
set_option maxHeartbeats 4000000
namespace L2
open PySem PySem.Spec PyProof.Rows PySem.W
section
variable {X : Cx} {pins : List (Addr × Obj)} {σ : St} {H : Hp} {s : Shared}
end
section
variable {P : Program} {w : World} {A : Around} {E : Value → Shared → Prop} {s : Shared} {d a : Addr} {o : Obj} {ep : Nat}
end
section
variable {X : Cx}
end
end L2
set_option Elab.async false
set_option linter.all false
set_option maxRecDepth 100000
set_option maxHeartbeats 4000000
namespace L2
open PySem PySem.Spec PyProof.Rows PySem.W
section
variable {X : Cx}
end
section
variable {X : Cx} {e : Expr} {ta : TE} {f : Str} {pos : Pos}
end
theorem gSub_i {to ti : TE} {t : TSet} {v : V} {σ : St} {H : Hp} {N : St → Hp → Prop} (k : to σ H fun o H1 => ti σ H1 fun i H2 => t o i v H2 fun H3 => N σ H3) : gSub to ti t v σ H N := k
end L2
set_option Elab.async false
set_option linter.all false
set_option maxRecDepth 100000
set_option maxHeartbeats 4000000
namespace L2
open PySem PySem.Spec PyProof.Rows PySem.W
section
variable {X : Cx}
end
section
variable {X : Cx}
end
end L2
set_option Elab.async false
set_option linter.all false
set_option maxRecDepth 100000
set_option maxHeartbeats 4000000
namespace L2
open PySem PySem.Spec PyProof.Rows PySem.W
section
variable {X : Cx} {ea : Addr} {tg : Expr}
end
section
variable {X : Cx} {k : Nat} {f C C' : Addr} {fd : FuncData} {ps : List Str} {sp : Sp} {dvs : List V} {ds : List Value} {m nm cx : Str} {pos apos cp hpos tpos xpos : Pos} {e o : Expr} {es : List Expr} {ta : TE} {t : TA} {bm' : List Value} {b0 : Stmt} {suite : List Stmt} {ts : Addr → TS} {n : Nat}
end
end L2
set_option Elab.async false
set_option linter.all false
set_option maxRecDepth 100000
set_option maxHeartbeats 4000000
namespace L2
open PySem PySem.Spec PyProof.Rows PySem.W
section
variable {X : Cx}
noncomputable def mEq1S (K : PySem.W.Frag) : R2 := fun x y H Q => ∃ (p q : Addr) (y0 z : Str) (us : List V), x = .ref p ∧ y = .ref q ∧ SqT K H p (.str y0 :: us) ∧ SqT K H q [.str z] ∧ Q (.bl (decide (y0 = z) && us.isEmpty)) H
theorem ko_eq1S (K : PySem.W.Frag) (hK : X.K = K) (hu : X.A.units + 150 < cLine) : OpR X (compareOp .Eq) (mEq1S K) := by
  subst hK
  intro pins s σ H x y v u Q I rx ry h
  obtain ⟨p, q, y0, z, us, rfl, rfl, hp, hq, k⟩ := h
  cases rx
  cases ry
  obtain ⟨its, rv, p1, _⟩ := I.tuple hp
  obtain ⟨its', rv', p2, _⟩ := I.tuple hq
  have l1 := rv.length
  have l2 := rv'.length
  rw [List.length_cons] at l1 l2
  refine SeqAt.eq_tupleAt (e := fun j => decide ((Sum.inr y0 : Key) = Sum.inr z)) (show s.heap.IsTuple p its.toArray from p1) (show s.heap.IsTuple q its'.toArray from p2) (by omega) (fun j h1 h2 => ?_) ?_
  · have g1 : j < its.length := by simpa using h1
    have g2 : j < its'.length := by simpa using h2
    have j0 : j = 0 := by simp at l2; omega
    subst j0
    obtain ⟨w1, y1, z1⟩ := rv.get (show (V.str y0 :: us)[0]? = some (V.str y0) from rfl)
    obtain ⟨w2, y2, z2⟩ := rv'.get (show [V.str z][0]? = some (V.str z) from rfl)
    have q1 : its.toArray[0] = w1 := by
      have := List.getElem?_eq_getElem g1
      rw [y1] at this
      simpa using (Option.some.inj this).symm
    have q2 : its'.toArray[0] = w2 := by
      have := List.getElem?_eq_getElem g2
      rw [y2] at this
      simpa using (Option.some.inj this).symm
    rw [q1, q2]
    exact eqAt_kV (a := Sum.inr y0) (b := Sum.inr z) z1 z2
  · have e : (((List.range (min its.toArray.size its'.toArray.size)).all fun j => decide ((Sum.inr y0 : Key) = Sum.inr z)) && (its.toArray.size == its'.toArray.size)) = (decide (y0 = z) && us.isEmpty) := by
      rw [List.size_toArray, List.size_toArray, ← l1, ← l2, List.length_nil, Nat.min_eq_right (by omega), key_rr]
      cases us with
      | nil => simp
      | cons a r => simp
    rw [e]
    exact ⟨.bl _, H, I, rfl, k⟩
theorem mEq1S_i {K : Frag} {H : Hp} {Q : VK} {p q : Addr} {y0 z : Str} {us : List V} (hp : SqT K H p (.str y0 :: us)) (hq : SqT K H q [.str z]) (k : Q (.bl (decide (y0 = z) && us.isEmpty)) H) : mEq1S K (.ref p) (.ref q) H Q := ⟨p, q, y0, z, us, rfl, rfl, hp, hq, k⟩
end
end L2
set_option Elab.async false
set_option linter.all false
set_option maxRecDepth 100000
set_option maxHeartbeats 4000000
namespace L2
open PySem PySem.Spec PyProof.Rows
theorem rngSize_down (a b : Int) : Builtin.Range.rangeSize a b (-1) = ((a - b).toNat : Int) := by
  unfold Builtin.Range.rangeSize
  simp only [show ¬ ((-1 : Int) > 0) by decide, if_false, show (-(-1) : Int) = 1 from rfl, Int.ediv_one]
  split <;> omega
theorem rngSmall_down {a b : Int} (ha : -(2 ^ 62) ≤ a) (ha' : a < 2 ^ 62) (hb : -(2 ^ 62) ≤ b) (hb' : b < 2 ^ 62) : Builtin.Range.small a b (-1) = true := by
  unfold Builtin.Range.small
  rw [rngSize_down]
  simp only [Builtin.Range.rangeFitsLong, Bool.and_eq_true, Bool.or_eq_true, decide_eq_true_eq, beq_iff_eq, show ¬ ((-1 : Int) > 0) by decide, if_false]
  omega
noncomputable def ItD (lo : Int) (n : Nat) : It := ⟨fun i _ => i < n, fun i H x H' => H' = H ∧ x = .int (lo - i), fun i _ => n ≤ i⟩
theorem turn_down {P : Program} {w : World} {K : PySem.W.Frag} {tg : Expr} (it : Addr) (lo : Int) (n : Nat) : Turn P w K tg (ItD lo n) [it] it (fun i h => IsRangeIter h it (lo + (i : Nat) * (-1)) ((n : Int) - (i : Nat)) (-1)) where
  mem := by simp
  obj := fun i h st b hb => by
    have e : b = it := by simpa using hb
    subst e
    exact ⟨_, st, fun v z => by
      have z' : Data.fields _ = Data.cell v := z
      cases z'⟩
  keep := fun i h h' st k => k it (by simp) _ st
  item := by
    intro X hP hw hK hc i pins s σ H E I hf st hg
    subst hP hw hK
    obtain ⟨f0, f1, f2, f3, f4, f5⟩ := hf it (by simp)
    have W := Walks.range (prog := X.prog) (w := X.w) (I.ok.hd hc) it lo (-1) n
    refine W.item i s _ _ hg st fun v h' tk hv st' kk => ?_
    obtain ⟨t, rfl⟩ := hv
    have I1 : Inv X pins σ H { s with heap := h', toks := tk } := I.turned (fun b o hb e => kk b o (by simpa using hb) e) f0 f1 f3 f4 f5
    refine ⟨_, rfl, go_of (s := { s with heap := h', toks := tk }) (n := "range_iterator") st' rfl rfl (by decide) ⟨.int (lo - i), H, I1, ⟨t, ?_⟩, ⟨rfl, rfl⟩, st', fun b hb => (hf b hb).1⟩⟩
    rw [show lo - (i : Int) = lo + (i : Int) * (-1) by omega]
  done := by
    intro X hP hw hK hc i pins s σ H E I hf st hg
    subst hP hw hK
    obtain ⟨f0, f1, f2, f3, f4, f5⟩ := hf it (by simp)
    exact wpAny_pyNext_range_end (I.ok.hd hc) st (by have : n ≤ i := hg; omega) fun h' eb => ⟨rfl, I.turned (t' := s.toks) (fun b o hb e => eb b o hb e) f0 f1 f3 f4 f5⟩
  self := fun _ _ _ _ _ st h => wpAny_pyIter_rangeiter st h
section
variable {X : Cx} {tg : Expr}
noncomputable def iRngD (ta : TA) : TI := fun σ H R => ta σ H fun vs H1 => ∃ i j : Int, vs = [.int i, .int j, .int (-1)] ∧ (-(2 ^ 62) ≤ i ∧ i < 2 ^ 62 ∧ -(2 ^ 62) ≤ j ∧ j < 2 ^ 62) ∧ R (ItD i (i - j).toNat) H1
theorem pi_rangeD {a b c : Expr} {ta : TA} {p pos : Pos} (hg : Gl X "range") (hm : X.mg "range" = none) (ha : PA X [a, b, c] ta) (hs : starEach [a, b, c] X.env = [(false, eval a X.env), (false, eval b X.env), (false, eval c X.env)] := by rfl) (hs2 : starEach [b, c] X.env = [(false, eval b X.env), (false, eval c X.env)] := by rfl) :
    PI X tg (.Call (.Name "range" p) [a, b, c] [] pos) (iRngD ta) := by
  intro pins s σ H R I h
  refine Call_ (ld_blt I hg hm boot_range (PyProof.Rows.callWith_type1 (thn (ha pos pins s σ H _ I h) fun us s1 ⟨vs, H1, I1, r1, q1⟩ => ?_) (by rw [hs, hs2]) (by rw [hs2]; rfl)))
  obtain ⟨i, j, e, ⟨q1, q2, q3, q4⟩, q⟩ := q1
  subst e
  cases r1 with
  | cons r rr =>
    cases rr with
    | cons r' rr =>
      cases rr with
      | cons r2 rr =>
        cases rr
        obtain ⟨t, rfl⟩ := r
        obtain ⟨t', rfl⟩ := r'
        obtain ⟨t2, rfl⟩ := r2
        refine call_range_3 (by decide) ?_
        refine wpAny_pyIter_range (IsRange.new ..) (rngSmall_down q1 q2 q3 q4) ?_
        have I2 := I1.kept (t' := s1.toks) fun b o e => Heap.get?_push_of_some (a := b) { cls := .type "range", data := .fields #[.int i t, .int j t', .int (-1) t2] } e
        refine ⟨_, [_], _, _, H1, rfl, I2.kept (t' := s1.toks) fun b o e => Heap.get?_push_of_some _ e, turn_down _ i (i - j).toNat, ?_, fun b hb => ?_, q⟩
        · show IsRangeIter _ _ (i + ((0 : Nat) : Int) * (-1)) ((((i - j).toNat : Nat) : Int) - ((0 : Nat) : Int)) (-1)
          rw [← rngSize_down, show i + ((0 : Nat) : Int) * (-1) = i by simp, show Builtin.Range.rangeSize i j (-1) - ((0 : Nat) : Int) = Builtin.Range.rangeSize i j (-1) by simp]
          exact Heap.get?_push_size _ rfl
        · have e : b = _ := List.mem_singleton.mp hb
          subst e
          exact I2.fpOk (Nat.le_refl _) (I2.hok.fresh (Nat.le_refl _))
theorem iRngD_i {σ : St} {H : Hp} {ta : TA} {R : It → Hp → Prop} (k : ta σ H fun vs H1 => ∃ i j : Int, vs = [.int i, .int j, .int (-1)] ∧ (-(2 ^ 62) ≤ i ∧ i < 2 ^ 62 ∧ -(2 ^ 62) ≤ j ∧ j < 2 ^ 62) ∧ R (ItD i (i - j).toNat) H1) : iRngD ta σ H R := k
end
theorem row_down (lo : Int) (n : Nat) : Row (ItD lo n) n (fun i => .int (lo - i)) (fun _ => True) := ⟨fun i H h _ => h, fun i H v H' _ _ h => h, fun H _ => Nat.le_refl n⟩
end L2
set_option Elab.async false
set_option linter.all false
set_option maxRecDepth 100000
set_option maxHeartbeats 4000000
namespace L2
open PySem PySem.Spec PyProof.Rows
section
variable {X : Cx}
noncomputable def tListRng1 (ta : TA) : TE := fun σ H Q => ta σ H fun vs H1 => ∃ j : Int, vs = [.int j] ∧ (-(2 ^ 20) ≤ j ∧ j < 2 ^ 20) ∧ ∀ p, H1 p = none → Q (.ref p) (upd H1 p (.lst ((List.range j.toNat).map fun k : Nat => V.int (k : Int))))
theorem pe_listRng1 (hc : X.calm = true) {a : Expr} {ta : TA} {p1 p2 pos1 pos2 : Pos} (hg : Gl X "list") (hm : X.mg "list" = none) (hg2 : Gl X "range") (hm2 : X.mg "range" = none) (ha : PA X [a] ta)
    (hs : starEach [a] X.env = [(false, eval a X.env)] := by rfl)
    (hs1 : starEach [Expr.Call (.Name "range" p2) [a] [] pos2] X.env = [(false, eval (.Call (.Name "range" p2) [a] [] pos2) X.env)] := by rfl) :
    PE X (.Call (.Name "list" p1) [.Call (.Name "range" p2) [a] [] pos2] [] pos1) (tListRng1 ta) := by
  intro pins s σ H Q I h
  refine Call_ (ld_blt I hg hm boot_list (PyProof.Rows.callWith_type1 ?_ hs1 rfl))
  rw [hs1]
  show wpAny _ _ (spliced ((false, eval (.Call (.Name "range" p2) [a] [] pos2) X.env) :: backTo pos1 (starEach [] X.env))) _ _ s
  refine Calls.spliced_cons ?_
  refine Call_ (ld_blt I hg2 hm2 boot_range (PyProof.Rows.callWith_type1 (thn (ha pos2 pins s σ H _ I h) fun us s1 ⟨vs, H1, I1, r1, q1⟩ => ?_) hs rfl))
  obtain ⟨j, e, ⟨q3, q4⟩, q⟩ := q1
  subst e
  cases r1 with
  | cons r rr =>
    cases rr
    obtain ⟨t, rfl⟩ := r
    refine call_range_1 ?_
    refine Calls.spliced_nil ?_
    have en : Builtin.Range.rangeSize 0 j 1 = ((j.toNat : Nat) : Int) := by rw [rangeSize_one]; split <;> omega
    refine call_list_range (I1.ok.hd hc) (IsRange.new ..) (small_one (by omega) (by omega) (by omega) (by omega)) en (by omega) fun h' tk acc' c' hk hS hacc => ?_
    have fr : H1 (s1.heap.objs.size + 1) = none := I1.hok.fresh (Nat.le_add_right _ _)
    have zz : ∀ o : Obj, (s1.heap.push o).objs.size = s1.heap.objs.size + 1 := fun o => Heap.size_push ..
    rw [zz] at hS ⊢
    have rv := items_rng hacc
    have ez : ((List.range j.toNat).map fun k => V.int (0 + (k : Nat))) = ((List.range j.toNat).map fun k : Nat => V.int (k : Int)) := by simp
    rw [ez] at rv
    have hz : ((List.range j.toNat).map fun k : Nat => V.int (k : Int)).length ≤ sizeLine := by rw [List.length_map, List.length_range, sizeLine_eq]; omega
    exact ⟨.ref _, upd H1 (s1.heap.objs.size + 1) (.lst _), I1.laid (t' := tk) (fun b o e => hk b o (Heap.get?_push_of_some _ e)) (Nat.le_add_right _ _) ⟨hz, acc'.toList, c', rv, by simpa using hS⟩, rfl, q _ fr⟩
theorem tListRng1_i {σ : St} {H : Hp} {ta : TA} {Q : VK} (k : ta σ H fun vs H1 => ∃ j : Int, vs = [.int j] ∧ (-(2 ^ 20) ≤ j ∧ j < 2 ^ 20) ∧ ∀ p, H1 p = none → Q (.ref p) (upd H1 p (.lst ((List.range j.toNat).map fun k : Nat => V.int (k : Int))))) : tListRng1 ta σ H Q := k
end
end L2
set_option Elab.async false
set_option linter.all false
set_option maxRecDepth 100000
set_option maxHeartbeats 4000000
namespace My
open PySem PySem.Spec PyProof.Rows L2
inductive Bx where
  | free
  | num (n : Int)
  | app (s : Str) (ks : List Nat)
  | to (b : Nat)
noncomputable abbrev Bs := List Bx
noncomputable def Bx.out : Bx → List Nat
  | .app _ ks => ks
  | .to b => [b]
  | _ => []
noncomputable def Ed (bs : Bs) (a b : Nat) : Prop := ∃ x, bs[a]? = some x ∧ b ∈ x.out
structure Wf (bs : Bs) : Prop where
  inn : ∀ a b, Ed bs a b → b < bs.length
  ar : ∀ (a : Nat) s ks, bs[a]? = some (.app s ks) → ks.length ≤ 3
  acy : ∃ rk : Nat → Nat, ∀ a b, Ed bs a b → rk b < rk a
theorem cnt_le {p q : Nat → Bool} : ∀ {l : List Nat}, (∀ x ∈ l, p x = true → q x = true) → l.countP p ≤ l.countP q
  | [], _ => by simp
  | x :: l, h => by
    have ih := cnt_le (l := l) fun y hy => h y (List.mem_cons_of_mem _ hy)
    have hx := h x (List.mem_cons_self ..)
    rw [List.countP_cons, List.countP_cons]
    cases hp : p x <;> cases hq : q x <;> simp_all <;> omega
theorem cnt_lt {p q : Nat → Bool} {b : Nat} (hq : q b = true) (hp : p b = false) : ∀ {l : List Nat}, (∀ x ∈ l, p x = true → q x = true) → b ∈ l → l.countP p < l.countP q
  | [], _, hb => by cases hb
  | x :: l, h, hb => by
    have hle := cnt_le (l := l) fun y hy => h y (List.mem_cons_of_mem _ hy)
    rw [List.countP_cons, List.countP_cons]
    by_cases e : b = x
    · subst e
      rw [hq, hp]
      simp
      omega
    · have hb' : b ∈ l := by
        rcases List.mem_cons.mp hb with z | z
        · exact absurd z e
        · exact z
      have ih := cnt_lt hq hp (l := l) (fun y hy => h y (List.mem_cons_of_mem _ hy)) hb'
      have hx := h x (List.mem_cons_self ..)
      cases hp : p x <;> cases hq : q x <;> simp_all <;> omega
theorem Wf.rank {bs : Bs} (w : Wf bs) : ∃ rk : Nat → Nat, (∀ a, rk a ≤ bs.length) ∧ ∀ a b, Ed bs a b → rk b < rk a := by
  obtain ⟨rk, h⟩ := w.acy
  refine ⟨fun a => (List.range bs.length).countP fun x => decide (rk x < rk a), fun a => ?_, fun a b e => ?_⟩
  · have := List.countP_le_length (p := fun x => decide (rk x < rk a)) (l := List.range bs.length)
    simpa using this
  · have h1 := h a b e
    have h2 := w.inn a b e
    refine cnt_lt (b := b) (by simpa using h1) (by simp) (fun x _ hx => ?_) (by simpa using h2)
    have := of_decide_eq_true hx
    simp only [decide_eq_true_eq]
    omega
inductive End (bs : Bs) : Nat → Nat → Prop where
  | here {a : Nat} {x : Bx} : bs[a]? = some x → (∀ b, x ≠ .to b) → End bs a a
  | step {a b c : Nat} : bs[a]? = some (.to b) → End bs b c → End bs a c
inductive Rch (bs : Bs) : Nat → Nat → Prop where
  | refl (a : Nat) : Rch bs a a
  | head {a b c : Nat} : Ed bs a b → Rch bs b c → Rch bs a c
theorem Rch.trans {bs : Bs} {a b c : Nat} (h : Rch bs a b) (k : Rch bs b c) : Rch bs a c := by
  induction h with
  | refl a => exact k
  | head e _ ih => exact .head e (ih k)
theorem Rch.rk {bs : Bs} {rk : Nat → Nat} (hr : ∀ a b, Ed bs a b → rk b < rk a) {a b : Nat} (h : Rch bs a b) : rk b ≤ rk a := by
  induction h with
  | refl a => exact Nat.le_refl _
  | head e _ ih => have := hr _ _ e; omega
theorem Ed.to {bs : Bs} {a b : Nat} (h : bs[a]? = some (.to b)) : Ed bs a b := ⟨_, h, by simp [Bx.out]⟩
theorem Ed.kid {bs : Bs} {a k : Nat} {s : Str} {ks : List Nat} (h : bs[a]? = some (.app s ks)) (hk : k ∈ ks) : Ed bs a k := ⟨_, h, hk⟩
theorem End.rch {bs : Bs} {a c : Nat} (h : End bs a c) : Rch bs a c := by
  induction h with
  | here _ _ => exact .refl _
  | step e _ ih => exact .head (Ed.to e) ih
theorem End.is {bs : Bs} {a c : Nat} (h : End bs a c) : ∃ x, bs[c]? = some x ∧ ∀ b, x ≠ .to b := by
  induction h with
  | here e n => exact ⟨_, e, n⟩
  | step _ _ ih => exact ih
theorem End.uniq {bs : Bs} {a c d : Nat} (h : End bs a c) (k : End bs a d) : c = d := by
  induction h with
  | here e n =>
    cases k with
    | here _ _ => rfl
    | step e2 _ => rw [e] at e2; cases e2; exact absurd rfl (n _)
  | step e _ ih =>
    cases k with
    | here e2 n => rw [e] at e2; cases e2; exact absurd rfl (n _)
    | step e2 k => rw [e] at e2; cases e2; exact ih k
theorem End.self {bs : Bs} {a c : Nat} (h : End bs a c) : End bs c c := by
  obtain ⟨x, e, n⟩ := h.is
  exact .here e n
theorem End.lt {bs : Bs} {a c : Nat} (h : End bs a c) : c < bs.length := by
  obtain ⟨x, e, n⟩ := h.is
  exact (List.getElem?_eq_some_iff.mp e).1
theorem Wf.end_ {bs : Bs} (w : Wf bs) : ∀ {a : Nat}, a < bs.length → ∃ c, End bs a c := by
  obtain ⟨rk, hr⟩ := w.acy
  suffices h : ∀ n a, rk a ≤ n → a < bs.length → ∃ c, End bs a c from fun {a} ha => h _ a (Nat.le_refl _) ha
  intro n
  induction n with
  | zero =>
    intro a h0 ha
    cases e : bs[a] with
    | to b =>
      have e' : bs[a]? = some (.to b) := by rw [List.getElem?_eq_getElem ha, e]
      have := hr _ _ (Ed.to e')
      omega
    | free => exact ⟨a, .here (x := .free) (by rw [List.getElem?_eq_getElem ha, e]) (fun b z => by cases z)⟩
    | num m => exact ⟨a, .here (x := .num m) (by rw [List.getElem?_eq_getElem ha, e]) (fun b z => by cases z)⟩
    | app s ks => exact ⟨a, .here (x := .app s ks) (by rw [List.getElem?_eq_getElem ha, e]) (fun b z => by cases z)⟩
  | succ n ih =>
    intro a h0 ha
    cases e : bs[a] with
    | to b =>
      have e' : bs[a]? = some (.to b) := by rw [List.getElem?_eq_getElem ha, e]
      have h1 := hr _ _ (Ed.to e')
      obtain ⟨c, hc⟩ := ih b (by omega) (w.inn _ _ (Ed.to e'))
      exact ⟨c, .step e' hc⟩
    | free => exact ⟨a, .here (x := .free) (by rw [List.getElem?_eq_getElem ha, e]) (fun b z => by cases z)⟩
    | num m => exact ⟨a, .here (x := .num m) (by rw [List.getElem?_eq_getElem ha, e]) (fun b z => by cases z)⟩
    | app s ks => exact ⟨a, .here (x := .app s ks) (by rw [List.getElem?_eq_getElem ha, e]) (fun b z => by cases z)⟩
theorem set_get {bs : Bs} {a : Nat} (b : Bx) (ha : a < bs.length) (i : Nat) : (bs.set a b)[i]? = if i = a then some b else bs[i]? := by
  rw [List.getElem?_set]
  by_cases e : a = i
  · subst e; simp [ha]
  · rw [if_neg e, if_neg (fun z => e z.symm)]
theorem Ed.set {bs : Bs} {a b x y : Nat} (ha : bs[a]? = some .free) (h : Ed bs x y) : Ed (bs.set a (.to b)) x y := by
  obtain ⟨u, e, m⟩ := h
  refine ⟨u, ?_, m⟩
  rw [set_get _ (List.getElem?_eq_some_iff.mp ha).1, if_neg (fun z => ?_)]
  · exact e
  · rw [z, ha] at e; cases e; cases m
theorem Ed.of_set {bs : Bs} {a b x y : Nat} (ha : bs[a]? = some .free) (h : Ed (bs.set a (.to b)) x y) : (x = a ∧ y = b) ∨ Ed bs x y := by
  obtain ⟨u, e, m⟩ := h
  rw [set_get _ (List.getElem?_eq_some_iff.mp ha).1] at e
  by_cases z : x = a
  · rw [if_pos z] at e; cases e
    simp only [Bx.out, List.mem_singleton] at m
    exact .inl ⟨z, m⟩
  · rw [if_neg z] at e; exact .inr ⟨u, e, m⟩
theorem Rch.set {bs : Bs} {a b x y : Nat} (ha : bs[a]? = some .free) (h : Rch bs x y) : Rch (bs.set a (.to b)) x y := by
  induction h with
  | refl a => exact .refl _
  | head e _ ih => exact .head (e.set ha) ih
open Classical in
theorem Wf.set {bs : Bs} (w : Wf bs) {a b : Nat} (ha : bs[a]? = some .free) (hb : b < bs.length) (hn : ¬ Rch bs b a) : Wf (bs.set a (.to b)) := by
  obtain ⟨rk, hr⟩ := w.acy
  refine ⟨fun x y h => ?_, fun x s ks h => ?_, fun x => if Rch bs x a then rk x + rk b + 1 else rk x, fun x y h => ?_⟩
  · rw [List.length_set]
    rcases h.of_set ha with ⟨_, rfl⟩ | h
    · exact hb
    · exact w.inn _ _ h
  · rw [set_get _ (List.getElem?_eq_some_iff.mp ha).1] at h
    by_cases z : x = a
    · rw [if_pos z] at h; cases h
    · rw [if_neg z] at h; exact w.ar _ _ _ h
  · dsimp only
    rcases h.of_set ha with ⟨rfl, rfl⟩ | h
    · rw [if_neg hn, if_pos (Rch.refl _)]; omega
    · have := hr _ _ h
      by_cases z : Rch bs y a
      · rw [if_pos z, if_pos (Rch.head h z)]; omega
      · rw [if_neg z]; split <;> omega
theorem End.set_ne {bs : Bs} {a b x c : Nat} (ha : bs[a]? = some .free) (h : End bs x c) (hn : c ≠ a) : End (bs.set a (.to b)) x c := by
  have hl := (List.getElem?_eq_some_iff.mp ha).1
  induction h with
  | here e n => exact .here (by rw [set_get _ hl, if_neg hn]; exact e) n
  | @step x y c e _ ih =>
    refine .step (b := y) ?_ (ih hn)
    rw [set_get _ hl, if_neg (fun z => ?_)]
    · exact e
    · rw [z, ha] at e; cases e
theorem End.set_eq {bs : Bs} {a b x d : Nat} (ha : bs[a]? = some .free) (h : End bs x a) (hd : End (bs.set a (.to b)) b d) : End (bs.set a (.to b)) x d := by
  have hl := (List.getElem?_eq_some_iff.mp ha).1
  generalize e0 : a = c at h
  induction h with
  | here e n => subst e0; exact .step (by rw [set_get _ hl, if_pos rfl]) hd
  | @step x y c e _ ih =>
    subst e0
    refine .step (b := y) ?_ (ih rfl)
    rw [set_get _ hl, if_neg (fun z => ?_)]
    · exact e
    · rw [z, ha] at e; cases e
open Classical in
noncomputable def stp (bs : Bs) (a b : Nat) : Option (Bs × List (Nat × Nat)) :=
  match bs[a]?, bs[b]? with
  | some .free, _ => if a = b then some (bs, []) else if Rch bs b a then none else some (bs.set a (.to b), [])
  | some _, some .free => if Rch bs a b then none else some (bs.set b (.to a), [])
  | some (.num n), some (.num m) => if n = m then some (bs, []) else none
  | some (.app s ks), some (.app t ls) => if s = t ∧ ks.length = ls.length then some (bs, ks.zip ls) else none
  | _, _ => none
inductive Run : Nat → Bs → List (Nat × Nat) → Bs → Bool → Prop where
  | nil {bs : Bs} : Run 0 bs [] bs true
  | go {n : Nat} {bs bs1 bs' : Bs} {x y a b : Nat} {l st : List (Nat × Nat)} {r : Bool} : End bs x a → End bs y b → stp bs a b = some (bs1, l) → Run n bs1 (l ++ st) bs' r → Run (n + 1) bs ((x, y) :: st) bs' r
  | stop {bs : Bs} {x y a b : Nat} {st : List (Nat × Nat)} : End bs x a → End bs y b → stp bs a b = none → Run 1 bs ((x, y) :: st) bs false
theorem Run.cons {n : Nat} {bs bs' : Bs} {x y a b : Nat} {st : List (Nat × Nat)} {r : Bool} (h : Run n bs ((x, y) :: st) bs' r) (ha : End bs x a) (hb : End bs y b) : (stp bs a b = none ∧ bs' = bs ∧ r = false) ∨ ∃ bs1 l m, stp bs a b = some (bs1, l) ∧ m < n ∧ Run m bs1 (l ++ st) bs' r := by
  cases h with
  | go h1 h2 h3 h4 => rw [h1.uniq ha, h2.uniq hb] at h3; exact .inr ⟨_, _, _, h3, by omega, h4⟩
  | stop h1 h2 h3 => rw [h1.uniq ha, h2.uniq hb] at h3; exact .inl ⟨h3, rfl, rfl⟩
inductive Eqv (bs : Bs) (A : Nat → Nat → Prop) : Nat → Nat → Prop where
  | asm {x y : Nat} : A x y → Eqv bs A x y
  | one {x y a : Nat} : End bs x a → End bs y a → Eqv bs A x y
  | num {x y a b : Nat} {n : Int} : End bs x a → End bs y b → bs[a]? = some (.num n) → bs[b]? = some (.num n) → Eqv bs A x y
  | app {x y a b : Nat} {s : Str} {ks ls : List Nat} : End bs x a → End bs y b → bs[a]? = some (.app s ks) → bs[b]? = some (.app s ls) → ks.length = ls.length → (∀ p ∈ ks.zip ls, Eqv bs A p.1 p.2) → Eqv bs A x y
noncomputable abbrev NoA : Nat → Nat → Prop := fun _ _ => False
theorem Eqv.bind {bs : Bs} {A B : Nat → Nat → Prop} {x y : Nat} (h : Eqv bs A x y) (k : ∀ x y, A x y → Eqv bs B x y) : Eqv bs B x y := by
  induction h with
  | asm h => exact k _ _ h
  | one h1 h2 => exact .one h1 h2
  | num h1 h2 h3 h4 => exact .num h1 h2 h3 h4
  | app h1 h2 h3 h4 h5 _ ih => exact .app h1 h2 h3 h4 h5 ih
theorem Eqv.no {bs : Bs} {B : Nat → Nat → Prop} {x y : Nat} (h : Eqv bs NoA x y) : Eqv bs B x y := h.bind fun _ _ z => z.elim
theorem Eqv.set {bs : Bs} {A : Nat → Nat → Prop} {x y a b : Nat} (ha : bs[a]? = some .free) (w : Wf (bs.set a (.to b))) (h : Eqv bs A x y) : Eqv (bs.set a (.to b)) A x y := by
  have hl := (List.getElem?_eq_some_iff.mp ha).1
  have ne : ∀ {c : Nat} {u : Bx}, bs[c]? = some u → u ≠ .free → c ≠ a ∧ (bs.set a (.to b))[c]? = some u := fun {c u} e n => by
    have z : c ≠ a := fun z => by rw [z, ha] at e; cases e; exact n rfl
    exact ⟨z, by rw [set_get _ hl, if_neg z]; exact e⟩
  induction h with
  | asm h => exact .asm h
  | @one x y c h1 h2 =>
    by_cases e : c = a
    · subst e
      obtain ⟨d, hd⟩ := w.end_ (a := b) (w.inn c b (Ed.to (by rw [set_get _ hl, if_pos rfl])))
      exact .one (h1.set_eq ha hd) (h2.set_eq ha hd)
    · exact .one (h1.set_ne ha e) (h2.set_ne ha e)
  | num h1 h2 h3 h4 =>
    have e3 := ne h3 (fun z => by cases z)
    have e4 := ne h4 (fun z => by cases z)
    exact .num (h1.set_ne ha e3.1) (h2.set_ne ha e4.1) e3.2 e4.2
  | app h1 h2 h3 h4 h5 _ ih =>
    have e3 := ne h3 (fun z => by cases z)
    have e4 := ne h4 (fun z => by cases z)
    exact .app (h1.set_ne ha e3.1) (h2.set_ne ha e4.1) e3.2 e4.2 h5 ih
theorem Eqv.ends {bs : Bs} {x y a b : Nat} (h : Eqv bs NoA a b) (ha : End bs x a) (hb : End bs y b) : Eqv bs NoA x y := by
  cases h with
  | asm z => exact z.elim
  | one h1 h2 => rw [← ha.self.uniq h1] at h2; rw [← hb.self.uniq h2] at ha; exact .one ha hb
  | num h1 h2 h3 h4 => rw [← ha.self.uniq h1] at h3; rw [← hb.self.uniq h2] at h4; exact .num ha hb h3 h4
  | app h1 h2 h3 h4 h5 h6 => rw [← ha.self.uniq h1] at h3; rw [← hb.self.uniq h2] at h4; exact .app ha hb h3 h4 h5 h6
noncomputable def Skip (bs : Bs) (x y : Nat) : Prop := ∀ n st bs' r, Run n bs ((x, y) :: st) bs' r → ∃ m, m < n ∧ Run m bs st bs' r
theorem skips {bs : Bs} : ∀ {l : List (Nat × Nat)}, (∀ p ∈ l, Skip bs p.1 p.2) → ∀ {n st bs' r}, Run n bs (l ++ st) bs' r → ∃ m, m ≤ n ∧ Run m bs st bs' r
  | [], _, n, st, bs', r, h => ⟨n, Nat.le_refl _, h⟩
  | p :: l, hs, n, st, bs', r, h => by
    obtain ⟨m, h1, h2⟩ := hs p (List.mem_cons_self ..) n (l ++ st) bs' r h
    obtain ⟨k, h3, h4⟩ := skips (fun q hq => hs q (List.mem_cons_of_mem _ hq)) h2
    exact ⟨k, by omega, h4⟩
theorem zip_self_mem {ks : List Nat} {p : Nat × Nat} (h : p ∈ ks.zip ks) : p.1 = p.2 ∧ p.1 ∈ ks := by
  induction ks with
  | nil => cases h
  | cons k ks ih =>
    rw [List.zip_cons_cons] at h
    rcases List.mem_cons.mp h with rfl | h
    · exact ⟨rfl, List.mem_cons_self ..⟩
    · exact ⟨(ih h).1, List.mem_cons_of_mem _ (ih h).2⟩
theorem Skip.refl {bs : Bs} (w : Wf bs) {x y a : Nat} (hx : End bs x a) (hy : End bs y a) : Skip bs x y := by
  obtain ⟨rk, hr⟩ := w.acy
  suffices h : ∀ n a x y, rk a < n → End bs x a → End bs y a → Skip bs x y from h _ a x y (Nat.lt_succ_self _) hx hy
  intro n
  induction n with
  | zero => intro a x y h0; omega
  | succ n ih =>
    intro a x y h0 hx hy k st bs' r hR
    obtain ⟨u, hu, hn⟩ := hx.is
    rcases hR.cons hx hy with ⟨z, _, _⟩ | ⟨bs1, l, m, e, hm, hR2⟩
    · unfold stp at z
      rw [hu] at z
      cases u with
      | free => simp at z
      | num i => simp at z
      | app s ks => simp at z
      | to b => exact absurd rfl (hn b)
    · unfold stp at e
      rw [hu] at e
      cases u with
      | free => simp at e; obtain ⟨rfl, rfl⟩ := e; exact ⟨m, hm, hR2⟩
      | num i => simp at e; obtain ⟨rfl, rfl⟩ := e; exact ⟨m, hm, hR2⟩
      | app s ks =>
        simp at e; obtain ⟨rfl, rfl⟩ := e
        have hs : ∀ p ∈ ks.zip ks, Skip bs p.1 p.2 := fun p hp => by
          obtain ⟨e1, e2⟩ := zip_self_mem hp
          have hk := Ed.kid hu e2
          obtain ⟨c, hc⟩ := w.end_ (w.inn _ _ hk)
          have h1 := hr _ _ hk
          have h2 := hc.rch.rk hr
          exact ih c _ _ (by omega) hc (e1 ▸ hc)
        obtain ⟨m2, h2, h3⟩ := skips hs hR2
        exact ⟨m2, by omega, h3⟩
      | to b => exact absurd rfl (hn b)
theorem Eqv.skip {bs : Bs} (w : Wf bs) {x y : Nat} (h : Eqv bs NoA x y) : Skip bs x y := by
  induction h with
  | asm z => exact z.elim
  | one h1 h2 => exact Skip.refl w h1 h2
  | num h1 h2 h3 h4 =>
    intro k st bs' r hR
    rcases hR.cons h1 h2 with ⟨z, _, _⟩ | ⟨bs1, l, m, e, hm, hR2⟩
    · unfold stp at z; rw [h3, h4] at z; simp at z
    · unfold stp at e; rw [h3, h4] at e; simp at e; obtain ⟨rfl, rfl⟩ := e; exact ⟨m, hm, hR2⟩
  | app h1 h2 h3 h4 h5 _ ih =>
    intro k st bs' r hR
    rcases hR.cons h1 h2 with ⟨z, _, _⟩ | ⟨bs1, l, m, e, hm, hR2⟩
    · unfold stp at z; rw [h3, h4] at z; simp [h5] at z
    · unfold stp at e; rw [h3, h4] at e; simp [h5] at e; obtain ⟨rfl, rfl⟩ := e
      obtain ⟨m2, h2, h3⟩ := skips ih hR2
      exact ⟨m2, by omega, h3⟩
end My
set_option Elab.async false
set_option linter.all false
set_option maxRecDepth 100000
set_option maxHeartbeats 4000000
namespace My
open PySem PySem.Spec PyProof.Rows L2
theorem stp_inv {bs bs1 : Bs} {a b : Nat} {l : List (Nat × Nat)} (h : stp bs a b = some (bs1, l)) :
    (bs1 = bs ∧ l = [] ∧ (a = b ∨ ∃ n, bs[a]? = some (.num n) ∧ bs[b]? = some (.num n))) ∨
    (bs1 = bs ∧ ∃ s ks ls, bs[a]? = some (.app s ks) ∧ bs[b]? = some (.app s ls) ∧ ks.length = ls.length ∧ l = ks.zip ls) ∨
    (∃ c d, bs[c]? = some .free ∧ ¬ Rch bs d c ∧ ((c = a ∧ d = b) ∨ (c = b ∧ d = a)) ∧ bs1 = bs.set c (.to d) ∧ l = []) := by
  unfold stp at h
  split at h
  · rename_i e1
    by_cases e : a = b
    · rw [if_pos e] at h; cases h; exact .inl ⟨rfl, rfl, .inl e⟩
    · rw [if_neg e] at h
      by_cases e2 : Rch bs b a
      · rw [if_pos e2] at h; cases h
      · rw [if_neg e2] at h; cases h; exact .inr (.inr ⟨a, b, e1, e2, .inl ⟨rfl, rfl⟩, rfl, rfl⟩)
  · rename_i e1
    by_cases e2 : Rch bs a b
    · rw [if_pos e2] at h; cases h
    · rw [if_neg e2] at h; cases h; exact .inr (.inr ⟨b, a, e1, e2, .inr ⟨rfl, rfl⟩, rfl, rfl⟩)
  · rename_i n m e1 e2
    by_cases e : n = m
    · rw [if_pos e] at h; cases h; subst e; exact .inl ⟨rfl, rfl, .inr ⟨n, e1, e2⟩⟩
    · rw [if_neg e] at h; cases h
  · rename_i s ks t ls e1 e2
    by_cases e : s = t ∧ ks.length = ls.length
    · rw [if_pos e] at h; cases h; obtain ⟨rfl, e⟩ := e; exact .inr (.inl ⟨rfl, s, ks, ls, e1, e2, e, rfl⟩)
    · rw [if_neg e] at h; cases h
  · cases h
noncomputable def Bx.isFree : Bx → Bool
  | .free => true
  | _ => false
noncomputable def nf (bs : Bs) : Nat := bs.countP Bx.isFree
theorem nf_le (bs : Bs) : nf bs ≤ bs.length := List.countP_le_length
theorem nf_set {bs : Bs} {a b : Nat} (ha : bs[a]? = some .free) : nf (bs.set a (.to b)) + 1 = nf bs := by
  induction bs generalizing a with
  | nil => cases ha
  | cons x bs ih =>
    cases a with
    | zero =>
      simp only [List.getElem?_cons_zero, Option.some.injEq] at ha
      subst ha
      show (Bx.to b :: bs).countP Bx.isFree + 1 = (Bx.free :: bs).countP Bx.isFree
      rw [List.countP_cons, List.countP_cons]
      simp [Bx.isFree]
    | succ a =>
      have := ih (a := a) (by simpa using ha)
      show (x :: bs.set a (.to b)).countP Bx.isFree + 1 = (x :: bs).countP Bx.isFree
      rw [List.countP_cons, List.countP_cons]
      unfold nf at this
      omega
theorem kids_sum {rk : Nat → Nat} {R : Nat} : ∀ {ks : List Nat}, (∀ k ∈ ks, rk k < R) → (ks.map fun k => 4 ^ rk k).sum ≤ ks.length * 4 ^ (R - 1)
  | [], _ => by simp
  | k :: ks, h => by
    have ih := kids_sum (ks := ks) fun x hx => h x (List.mem_cons_of_mem _ hx)
    have h1 := h k (List.mem_cons_self ..)
    have h2 : 4 ^ rk k ≤ 4 ^ (R - 1) := Nat.pow_le_pow_right (by decide) (by omega)
    rw [List.map_cons, List.sum_cons, List.length_cons, Nat.add_mul]
    omega
theorem kids_lt {rk : Nat → Nat} {R : Nat} {ks : List Nat} (h : ∀ k ∈ ks, rk k < R) (hl : ks.length ≤ 3) : (ks.map fun k => 4 ^ rk k).sum < 4 ^ R := by
  have h1 := kids_sum h
  cases R with
  | zero =>
    cases ks with
    | nil => simp
    | cons k ks => exact absurd (h k (List.mem_cons_self ..)) (by omega)
  | succ R =>
    rw [Nat.add_sub_cancel] at h1
    have h2 : ks.length * 4 ^ R ≤ 3 * 4 ^ R := Nat.mul_le_mul_right _ hl
    have h3 : 0 < 4 ^ R := Nat.pow_pos (by decide)
    rw [Nat.pow_succ]
    omega
theorem zip_fst {ks ls : List Nat} (h : ks.length = ls.length) (f : Nat → Nat) : ((ks.zip ls).map fun p => f p.1) = ks.map f := by
  induction ks generalizing ls with
  | nil => rfl
  | cons k ks ih =>
    cases ls with
    | nil => cases h
    | cons l ls => rw [List.zip_cons_cons, List.map_cons, List.map_cons, ih (by simpa using h)]
theorem zip_in {ks ls : List Nat} {p : Nat × Nat} (h : p ∈ ks.zip ls) : p.1 ∈ ks ∧ p.2 ∈ ls := by
  obtain ⟨x, y⟩ := p
  exact ⟨(List.of_mem_zip h).1, (List.of_mem_zip h).2⟩
theorem stp_wf {bs bs1 : Bs} {a b : Nat} {l : List (Nat × Nat)} (w : Wf bs) (ha : a < bs.length) (hb : b < bs.length) (h : stp bs a b = some (bs1, l)) : Wf bs1 ∧ bs1.length = bs.length ∧ ∀ p ∈ l, p.1 < bs.length ∧ p.2 < bs.length := by
  rcases stp_inv h with ⟨rfl, rfl, _⟩ | ⟨rfl, s, ks, ls, e1, e2, _, rfl⟩ | ⟨c, d, e1, e2, e3, rfl, rfl⟩
  · exact ⟨w, rfl, fun p hp => by cases hp⟩
  · exact ⟨w, rfl, fun p hp => ⟨w.inn _ _ (Ed.kid e1 (zip_in hp).1), w.inn _ _ (Ed.kid e2 (zip_in hp).2)⟩⟩
  · refine ⟨w.set e1 (by rcases e3 with ⟨_, rfl⟩ | ⟨_, rfl⟩ <;> assumption) e2, by rw [List.length_set], fun p hp => by cases hp⟩
theorem run_ends : ∀ (k : Nat) (bs : Bs), nf bs < k → Wf bs → ∀ st : List (Nat × Nat), (∀ p ∈ st, p.1 < bs.length ∧ p.2 < bs.length) → ∃ n bs' r, Run n bs st bs' r := by
  intro k
  induction k with
  | zero => intro bs hk; omega
  | succ k ihk =>
    intro bs hk w
    obtain ⟨rk, hr⟩ := w.acy
    suffices h : ∀ (S : Nat) (st : List (Nat × Nat)), (st.map fun p => 4 ^ rk p.1).sum ≤ S → (∀ p ∈ st, p.1 < bs.length ∧ p.2 < bs.length) → ∃ n bs' r, Run n bs st bs' r from fun st hv => h _ st (Nat.le_refl _) hv
    intro S
    induction S with
    | zero =>
      intro st hS hv
      cases st with
      | nil => exact ⟨_, _, _, .nil⟩
      | cons p st =>
        have : 0 < 4 ^ rk p.1 := Nat.pow_pos (by decide)
        rw [List.map_cons, List.sum_cons] at hS
        omega
    | succ S ih =>
      intro st hS hv
      cases st with
      | nil => exact ⟨_, _, _, .nil⟩
      | cons p st =>
        obtain ⟨x, y⟩ := p
        have hv1 := hv (x, y) (List.mem_cons_self ..)
        obtain ⟨a, ha⟩ := w.end_ hv1.1
        obtain ⟨b, hb⟩ := w.end_ hv1.2
        rw [List.map_cons, List.sum_cons] at hS
        dsimp only at hS
        cases hs : stp bs a b with
        | none => exact ⟨_, _, _, .stop ha hb hs⟩
        | some q =>
          obtain ⟨bs1, l⟩ := q
          obtain ⟨w1, l1, v1⟩ := stp_wf w ha.lt hb.lt hs
          have ra := ha.rch.rk hr
          have pp : 0 < 4 ^ rk x := Nat.pow_pos (by decide)
          have hvl : ∀ p ∈ l ++ st, p.1 < bs.length ∧ p.2 < bs.length := fun p hp => by
            rcases List.mem_append.mp hp with z | z
            · exact v1 p z
            · exact hv p (List.mem_cons_of_mem _ z)
          rcases stp_inv hs with ⟨rfl, rfl, _⟩ | ⟨rfl, s, ks, ls, e1, e2, e3, rfl⟩ | ⟨c, d, e1, e2, e3, rfl, rfl⟩
          · obtain ⟨n, bs', r, h⟩ := ih ([] ++ st) (by rw [List.nil_append]; omega) hvl
            exact ⟨_, _, _, .go ha hb hs h⟩
          · have z1 := kids_lt (rk := rk) (R := rk a) (fun k hk => hr _ _ (Ed.kid e1 hk)) (w.ar _ _ _ e1)
            have z2 : 4 ^ rk a ≤ 4 ^ rk x := Nat.pow_le_pow_right (by decide) ra
            obtain ⟨n, bs', r, h⟩ := ih (ks.zip ls ++ st) (by rw [List.map_append, List.sum_append, zip_fst e3 (fun k => 4 ^ rk k)]; omega) hvl
            exact ⟨_, _, _, .go ha hb hs h⟩
          · have := nf_set (b := d) e1
            obtain ⟨n, bs', r, h⟩ := ihk _ (by omega) w1 _ (by rw [l1]; exact hvl)
            exact ⟨_, _, _, .go ha hb hs h⟩
noncomputable def Bd (B : Nat) : List Nat → Prop
  | [] => True
  | r :: l => l.length + 1 + 3 * r ≤ B ∧ Bd B l
theorem Bd.len {B : Nat} : ∀ {l : List Nat}, Bd B l → l.length ≤ B
  | [], _ => Nat.zero_le _
  | r :: l, h => by rw [List.length_cons]; have := h.1; omega
theorem Bd.more {B C : Nat} (h : B ≤ C) : ∀ {l : List Nat}, Bd B l → Bd C l
  | [], _ => trivial
  | r :: l, k => ⟨Nat.le_trans k.1 h, Bd.more h k.2⟩
theorem Bd.push {B r : Nat} {l : List Nat} (h : Bd B (r :: l)) : ∀ {ks : List Nat}, ks.length ≤ 3 → (∀ k ∈ ks, k < r) → Bd B (ks ++ l)
  | [], _, _ => h.2
  | k :: ks, h3, hk => by
    rw [List.length_cons] at h3
    refine ⟨?_, Bd.push h (by omega) fun x hx => hk x (List.mem_cons_of_mem _ hx)⟩
    have h1 := h.1
    have h2 := hk k (List.mem_cons_self ..)
    show (ks ++ l).length + 1 + 3 * k ≤ B
    rw [List.length_append]
    omega
theorem Bd.anew {B : Nat} {f g : Nat × Nat → Nat} (hg : ∀ p, g p ≤ 64) : ∀ {st : List (Nat × Nat)}, Bd B (st.map f) → Bd (B + 192) (st.map g)
  | [], _ => trivial
  | p :: st, h => by
    have h1 := h.1
    have h2 := hg p
    refine ⟨?_, Bd.anew hg h.2⟩
    rw [List.length_map] at h1 ⊢
    omega
structure Lim (bs : Bs) (st : List (Nat × Nat)) : Prop where
  len : bs.length ≤ 64
  wf : Wf bs
  val : ∀ p ∈ st, p.1 < bs.length ∧ p.2 < bs.length
  bd : ∃ rk : Nat → Nat, (∀ a, rk a ≤ 64) ∧ (∀ a b, Ed bs a b → rk b < rk a) ∧ Bd (192 * (66 - nf bs)) (st.map fun p => rk p.1)
theorem Lim.size {bs : Bs} {st : List (Nat × Nat)} (h : Lim bs st) : st.length ≤ 12672 := by
  obtain ⟨rk, _, _, b⟩ := h.bd
  have := b.len
  rw [List.length_map] at this
  omega
theorem Lim.one {bs : Bs} {a b : Nat} (hl : bs.length ≤ 64) (w : Wf bs) (ha : a < bs.length) (hb : b < bs.length) : Lim bs [(a, b)] := by
  obtain ⟨rk, h1, h2⟩ := w.rank
  refine ⟨hl, w, fun p hp => ?_, rk, fun a => Nat.le_trans (h1 a) hl, h2, ?_, trivial⟩
  · rw [List.mem_singleton] at hp; subst hp; exact ⟨ha, hb⟩
  · have := nf_le bs
    have := h1 a
    show 0 + 1 + 3 * rk a ≤ _
    omega
theorem Lim.pop {bs : Bs} {p : Nat × Nat} {st : List (Nat × Nat)} (h : Lim bs (p :: st)) : Lim bs st := by
  obtain ⟨rk, h1, h2, h3⟩ := h.bd
  exact ⟨h.len, h.wf, fun q hq => h.val q (List.mem_cons_of_mem _ hq), rk, h1, h2, h3.2⟩
theorem Lim.step {bs bs1 : Bs} {x y a b : Nat} {l st : List (Nat × Nat)} (h : Lim bs ((x, y) :: st)) (ha : End bs x a) (hb : End bs y b) (hs : stp bs a b = some (bs1, l)) : Lim bs1 (l ++ st) := by
  obtain ⟨w1, l1, v1⟩ := stp_wf h.wf ha.lt hb.lt hs
  have hvl : ∀ p ∈ l ++ st, p.1 < bs1.length ∧ p.2 < bs1.length := fun p hp => by
    rw [l1]
    rcases List.mem_append.mp hp with z | z
    · exact v1 p z
    · exact h.val p (List.mem_cons_of_mem _ z)
  obtain ⟨rk, h1, h2, h3⟩ := h.bd
  refine ⟨by rw [l1]; exact h.len, w1, hvl, ?_⟩
  rcases stp_inv hs with ⟨rfl, rfl, _⟩ | ⟨rfl, s, ks, ls, e1, e2, e3, rfl⟩ | ⟨c, d, e1, e2, e3, rfl, rfl⟩
  · exact ⟨rk, h1, h2, h3.2⟩
  · refine ⟨rk, h1, h2, ?_⟩
    rw [List.map_append, zip_fst e3 rk]
    refine Bd.push h3 (by rw [List.length_map]; exact h.wf.ar _ _ _ e1) (fun k hk => ?_)
    obtain ⟨k, hk', rfl⟩ := List.mem_map.mp hk
    have r1 := h2 _ _ (Ed.kid e1 hk')
    have r2 := ha.rch.rk h2
    show rk k < rk x
    omega
  · obtain ⟨rk', g1, g2⟩ := w1.rank
    rw [List.length_set] at g1
    have z := nf_set (b := d) e1
    have z2 := nf_le bs
    have z3 := h.len
    refine ⟨rk', fun a => Nat.le_trans (g1 a) z3, g2, ?_⟩
    rw [show 192 * (66 - nf (bs.set c (.to d))) = 192 * (66 - nf bs) + 192 by omega]
    exact Bd.anew (fun p => Nat.le_trans (g1 p.1) z3) h3.2
noncomputable def Met (bs : Bs) (met st : List (Nat × Nat)) : Prop := ∀ p ∈ met, ∃ top rest, st = top ++ rest ∧ (∀ q ∈ top, ∃ k, Ed bs p.1 k ∧ Rch bs k q.1) ∧ Eqv bs (fun x y => (x, y) ∈ top) p.1 p.2
theorem Met.pop {bs : Bs} {met st : List (Nat × Nat)} {x y : Nat} (h : Met bs met ((x, y) :: st)) (e : Eqv bs NoA x y) : Met bs met st := fun p hp => by
  obtain ⟨top, rest, h1, h2, h3⟩ := h p hp
  cases top with
  | nil => exact ⟨[], st, rfl, fun q hq => (by cases hq), h3⟩
  | cons q top =>
    rw [List.cons_append] at h1
    injection h1 with h1 h4
    subst h1
    refine ⟨top, rest, h4, fun q hq => h2 q (List.mem_cons_of_mem _ hq), h3.bind fun u v hm => ?_⟩
    rcases List.mem_cons.mp hm with z | z
    · cases z; exact e.no
    · exact .asm z
theorem Met.known {bs : Bs} (w : Wf bs) {met st : List (Nat × Nat)} {x y a b : Nat} (h : Met bs met ((x, y) :: st)) (ha : End bs x a) (hb : End bs y b) (hm : (a, b) ∈ met) : Eqv bs NoA x y := by
  obtain ⟨top, rest, h1, h2, h3⟩ := h _ hm
  cases top with
  | nil => exact Eqv.ends (h3.bind fun u v z => by cases z) ha hb
  | cons q top =>
    rw [List.cons_append] at h1
    injection h1 with h1 h4
    subst h1
    obtain ⟨k, e1, e2⟩ := h2 _ (List.mem_cons_self ..)
    obtain ⟨rk, hr⟩ := w.acy
    have r1 := hr _ _ e1
    have r2 := e2.rk hr
    have r3 := ha.rch.rk hr
    dsimp only at r1 r2
    omega
theorem Met.step {bs bs1 : Bs} (w : Wf bs) {met l st : List (Nat × Nat)} {x y a b : Nat} (h : Met bs met ((x, y) :: st)) (ha : End bs x a) (hb : End bs y b) (hs : stp bs a b = some (bs1, l)) : Met bs1 ((a, b) :: met) (l ++ st) := by
  obtain ⟨w1, l1, v1⟩ := stp_wf w ha.lt hb.lt hs
  have key : (∀ q ∈ l, Ed bs1 a q.1) ∧ Eqv bs1 (fun x y => (x, y) ∈ l) x y ∧ Eqv bs1 (fun x y => (x, y) ∈ l) a b ∧ (∀ u v, Ed bs u v → Ed bs1 u v) ∧ (∀ u v, Rch bs u v → Rch bs1 u v) ∧ (∀ A u v, Eqv bs A u v → Eqv bs1 A u v) := by
    rcases stp_inv hs with ⟨rfl, rfl, e⟩ | ⟨rfl, s, ks, ls, e1, e2, e3, rfl⟩ | ⟨c, d, e1, e2, e3, rfl, rfl⟩
    · refine ⟨fun q hq => by (cases hq), ?_, ?_, fun _ _ e => e, fun _ _ e => e, fun _ _ _ e => e⟩
      · rcases e with rfl | ⟨n, e1, e2⟩
        · exact .one ha hb
        · exact .num ha hb e1 e2
      · rcases e with rfl | ⟨n, e1, e2⟩
        · exact .one ha.self hb.self
        · exact .num ha.self hb.self e1 e2
    · refine ⟨fun q hq => Ed.kid e1 (zip_in hq).1, .app ha hb e1 e2 e3 fun p hp => .asm hp, .app ha.self hb.self e1 e2 e3 fun p hp => .asm hp, fun _ _ e => e, fun _ _ e => e, fun _ _ _ e => e⟩
    · have hd : d < (bs.set c (.to d)).length := by rw [List.length_set]; rcases e3 with ⟨_, rfl⟩ | ⟨_, rfl⟩; exact hb.lt; exact ha.lt
      obtain ⟨f, hf⟩ := w1.end_ hd
      have hn : d ≠ c := fun z => e2 (z ▸ Rch.refl _)
      have dd : End bs d d := by rcases e3 with ⟨_, rfl⟩ | ⟨_, rfl⟩; exact hb.self; exact ha.self
      have fd : f = d := hf.uniq (dd.set_ne e1 hn)
      subst fd
      refine ⟨fun q hq => by (cases hq), ?_, ?_, fun _ _ e => e.set e1, fun _ _ e => e.set e1, fun _ _ _ e => e.set e1 w1⟩
      · rcases e3 with ⟨rfl, rfl⟩ | ⟨rfl, rfl⟩
        · exact .one (ha.set_eq e1 hf) (hb.set_ne e1 hn)
        · exact .one (ha.set_ne e1 hn) (hb.set_eq e1 hf)
      · rcases e3 with ⟨rfl, rfl⟩ | ⟨rfl, rfl⟩
        · exact .one (ha.self.set_eq e1 hf) hf
        · exact .one hf (hb.self.set_eq e1 hf)
  obtain ⟨k1, k2, k3, k4, k5, k6⟩ := key
  intro p hp
  rcases List.mem_cons.mp hp with rfl | hp
  · exact ⟨l, st, rfl, fun q hq => ⟨q.1, k1 q hq, .refl _⟩, k3⟩
  · obtain ⟨top, rest, h1, h2, h3⟩ := h p hp
    cases top with
    | nil => exact ⟨[], l ++ st, rfl, fun q hq => (by cases hq), k6 _ _ _ h3⟩
    | cons q top =>
      rw [List.cons_append] at h1
      injection h1 with h1 h4
      subst h1
      refine ⟨l ++ top, rest, by rw [h4, List.append_assoc], fun q hq => ?_, (k6 _ _ _ h3).bind fun u v hm => ?_⟩
      · rcases List.mem_append.mp hq with z | z
        · obtain ⟨k, e1, e2⟩ := h2 _ (List.mem_cons_self ..)
          exact ⟨k, k4 _ _ e1, (k5 _ _ (e2.trans ha.rch)).trans (.head (k1 q z) (.refl _))⟩
        · obtain ⟨k, e1, e2⟩ := h2 q (List.mem_cons_of_mem _ z)
          exact ⟨k, k4 _ _ e1, k5 _ _ e2⟩
      · rcases List.mem_cons.mp hm with z | z
        · cases z; exact k2.bind fun u v z => .asm (List.mem_append_left _ z)
        · exact .asm (List.mem_append_right _ z)
open Classical in
noncomputable def undo (bs : Bs) (l : List Nat) : Bs := bs.mapIdx fun i x => if i ∈ l then .free else x
theorem undo_len (bs : Bs) (l : List Nat) : (undo bs l).length = bs.length := by rw [undo, List.length_mapIdx]
open Classical in
theorem undo_get (bs : Bs) (l : List Nat) (i : Nat) : (undo bs l)[i]? = bs[i]?.map fun x => if i ∈ l then Bx.free else x := by
  rw [undo, List.getElem?_mapIdx]
theorem undo_nil (bs : Bs) : undo bs [] = bs := by
  apply List.ext_getElem?
  intro i
  rw [undo_get]
  simp
theorem undo_app (bs : Bs) (l k : List Nat) : undo bs (l ++ k) = undo (undo bs k) l := by
  apply List.ext_getElem?
  intro i
  rw [undo_get, undo_get, undo_get, Option.map_map]
  congr 1
  funext x
  by_cases h1 : i ∈ l <;> by_cases h2 : i ∈ k <;> simp [h1, h2]
theorem undo_set {bs : Bs} {a b : Nat} (ha : bs[a]? = some .free) : undo (bs.set a (.to b)) [a] = bs := by
  apply List.ext_getElem?
  intro i
  rw [undo_get, set_get _ (List.getElem?_eq_some_iff.mp ha).1]
  by_cases e : i = a
  · subst e; simp [ha]
  · simp [e]
theorem undo_one {bs : Bs} {a : Nat} (ha : a < bs.length) : undo bs [a] = bs.set a .free := by
  apply List.ext_getElem?
  intro i
  rw [undo_get, set_get _ ha]
  by_cases e : i = a
  · subst e; simp [ha]
  · simp [e]
structure Up (bs : Bs) (tr : List Nat) (bs' : Bs) (tr' : List Nat) : Prop where
  ex : ∃ l, tr' = tr ++ l ∧ undo bs' l = bs ∧ ∀ a ∈ l, a < bs.length
  len : bs'.length = bs.length
theorem Up.refl (bs : Bs) (tr : List Nat) : Up bs tr bs tr := ⟨⟨[], by simp, undo_nil _, fun a h => by cases h⟩, rfl⟩
theorem Up.bind {bs bs' : Bs} {tr tr' : List Nat} (u : Up bs tr bs' tr') {a b : Nat} (ha : bs'[a]? = some .free) : Up bs tr (bs'.set a (.to b)) (tr' ++ [a]) := by
  obtain ⟨⟨l, h1, h2, h3⟩, h4⟩ := u
  have hl := (List.getElem?_eq_some_iff.mp ha).1
  refine ⟨⟨l ++ [a], by rw [h1, List.append_assoc], by rw [undo_app, undo_set ha, h2], fun x hx => ?_⟩, by rw [List.length_set, h4]⟩
  rcases List.mem_append.mp hx with z | z
  · exact h3 x z
  · rw [List.mem_singleton.mp z, ← h4]; exact hl
structure Mrk (bs : Bs) (tr : List Nat) (n t : Nat) (sv : Bs) : Prop where
  tl : t ≤ tr.length
  nl : n ≤ bs.length
  inn : ∀ a ∈ tr.take t, a < n
  all : ∀ a ∈ tr, a < bs.length
  sv : (undo bs (tr.drop t)).take n = sv
theorem Mrk.now {bs : Bs} {tr : List Nat} (h : ∀ a ∈ tr, a < bs.length) : Mrk bs tr bs.length tr.length bs :=
  ⟨Nat.le_refl _, Nat.le_refl _, fun a ha => h a (List.mem_of_mem_take ha), h, by rw [List.drop_length, undo_nil, List.take_length]⟩
theorem Mrk.up {bs bs' sv : Bs} {tr tr' : List Nat} {n t : Nat} (m : Mrk bs tr n t sv) (u : Up bs tr bs' tr') : Mrk bs' tr' n t sv := by
  obtain ⟨⟨l, h1, h2, h3⟩, h4⟩ := u
  subst h1
  refine ⟨by rw [List.length_append]; have := m.tl; omega, by rw [h4]; exact m.nl, fun a ha => m.inn a ?_, fun a ha => ?_, ?_⟩
  · rwa [List.take_append_of_le_length m.tl] at ha
  · rw [h4]
    rcases List.mem_append.mp ha with z | z
    · exact m.all a z
    · exact h3 a z
  · rw [List.drop_append_of_le_length m.tl, undo_app, h2]; exact m.sv
theorem Mrk.make {bs sv : Bs} {tr : List Nat} {n t : Nat} (m : Mrk bs tr n t sv) (b : Bx) : Mrk (bs ++ [b]) tr n t sv := by
  refine ⟨m.tl, by rw [List.length_append]; have := m.nl; omega, m.inn, fun a ha => by rw [List.length_append]; have := m.all a ha; omega, ?_⟩
  rw [← m.sv]
  apply List.ext_getElem?
  intro i
  have h := m.nl
  rw [List.getElem?_take, List.getElem?_take]
  by_cases hi : i < n
  · rw [if_pos hi, if_pos hi, undo_get, undo_get, List.getElem?_append_left (by omega)]
  · rw [if_neg hi, if_neg hi]
theorem Mrk.back {bs sv sv0 : Bs} {tr : List Nat} {n t n0 t0 : Nat} (m : Mrk bs tr n t sv) (m0 : Mrk bs tr n0 t0 sv0) (hn : n0 ≤ n) (ht : t0 ≤ t) : Mrk sv (tr.take t) n0 t0 sv0 := by
  have h1 := m.nl
  have h2 := m.tl
  have hsv : sv.length = n := by rw [← m.sv, List.length_take, undo_len]; omega
  refine ⟨by rw [List.length_take]; omega, by omega, fun a ha => m0.inn a ?_, fun a ha => by rw [hsv]; exact m.inn a ha, ?_⟩
  · rwa [List.take_take, Nat.min_eq_left ht] at ha
  · rw [← m0.sv, ← m.sv]
    have e : tr.drop t0 = (tr.take t).drop t0 ++ tr.drop t := by
      have : tr.take t ++ tr.drop t = tr := List.take_append_drop t tr
      conv => lhs; rw [← this]
      rw [List.drop_append_of_le_length (by rw [List.length_take]; omega)]
    rw [e, undo_app]
    apply List.ext_getElem?
    intro i
    rw [List.getElem?_take, List.getElem?_take]
    by_cases hi : i < n0
    · rw [if_pos hi, if_pos hi, undo_get, undo_get, List.getElem?_take, if_pos (by omega)]
    · rw [if_neg hi, if_neg hi]
theorem Mrk.svlen {bs sv : Bs} {tr : List Nat} {n t : Nat} (m : Mrk bs tr n t sv) : sv.length = n := by
  have h1 := m.nl
  rw [← m.sv, List.length_take, undo_len]; omega
end My
set_option Elab.async false
set_option linter.all false
set_option maxRecDepth 100000
set_option maxHeartbeats 4000000
namespace My
open PySem PySem.Spec PyProof.Rows L2
local macro_rules | `(tactic| walk_at "stq") => `(tactic| first | refine tAsg_i ?_ | refine gName_i ?_ | refine tRet_i ?_ | refine tIfS_i ?_ | refine tNext_i ?_ | refine tDrop_i ?_ | refine mTest_i ?_ | refine mTrue_i ?_ | refine mTru_b ?_ | refine mB_i ?_ | refine tOp_i ?_ | refine tUn_i ?_ | refine mUn_i ?_ | refine m20_i ?_ | refine mAdd_i ?_ | refine mEq_i ?_ | refine mEq_s ?_ | refine mEq_b ?_ | refine mInS_i ?_ | (refine' mVar_i ?hv ?_; (case hv => with_unfolding_all rfl)) | refine tC_i ?_ | refine mChain_i ?_ | refine mAndV_i ?_ | refine mOrV_i ?_ | refine mNotV_i ?_ | refine tIf_i ?_ | refine tAnd_i ?_ | refine tOr_i ?_ | refine tNot_i ?_ | refine tCB_i ?_ | refine tCall0_i ?_ | refine tCons_i ?_ | refine tNil_i ?_ | refine tBM_i ?_ | refine tBM0_i ?_ | refine tTup_i ?_ | refine tLst_i ?_ | refine tSl_i ?_ | refine tNoPart_i ?_ | refine mPart_i ?_ | refine mI_i ?_ | refine is_str ?_ | refine is_bool ?_ | refine is_int ?_ | refine is_int_bool ?_ | refine mMin_i ?_ | refine isN_non ?_ | refine isN_ref ?_ | refine mInt_b ?_ | refine mMax_i ?_ | refine tDGet_i ?_ | refine tDGet2_i ?_ | refine sDPut_i ?_ | refine tDisp_i ?_ | refine tPairs_c ?_ | refine tPairs_n ?_ | refine iRng2_i ?_ | refine iRev_i ?_ | refine iEnum_i ?_ | refine iSeq_i ?_ | refine mAbs_i ?_ | refine gCons_i ?_ | refine gNil_i ?_ | refine tWhile_i ?_ | (refine' mAug_i ?hw ?_; (case hw => with_unfolding_all rfl)) | refine mIAdd_i ?_ | refine tFor_i ?_ | refine tRaise_i ?_ | refine tXMake_i ?_ | refine tTry_i ?_ | refine tXGet_i ?_ | refine tBInit_i ?_ | refine tXSet_i ?_ | refine tPar_i ?_ | refine tF3i_i ?_ | refine iZip_i ?_ | refine tMeth_i ?_ | refine tFld_i ?_ | refine sFld_i ?_ | refine tMake_i ?_ | refine iRngD_i ?_ | refine gSub_i ?_ | refine tListZip_i ?_ | refine tListRng1_i ?_ | refine tListRev_i ?_ | refine tFr_i ?_ | refine tF2_i ?_ | refine iSeq_i ?_ | refine iStr_i ?_ | refine iList_i ?_ | refine iTup_i ?_ | refine iRng1_i ?_ | refine tComp_i ?_ | (refine m2_i ?hc ?_; (case hc => first | (show (0 : Int) < _; decide) | exact cdiv_i (by decide) (by decide))))
local macro_rules | `(tactic| walk_at "stp") => `(tactic| repeat (with_reducible first | refine tSeq_i ?_ | walk_at "stq"))
local macro_rules | `(tactic| walk_at "stm") => `(tactic| repeat (with_reducible walk_at "stq"))
noncomputable def top (i : Nat) : Stmt := PySem.Challenge.pw_goaltrail_k52_taken_back.main.body.getD i (.Pass ⟨0, 0, 0, 0⟩)
noncomputable abbrev s_Heap_init : Stmt := inClass (top 13) 0
noncomputable abbrev s_Heap_made : Stmt := inClass (top 13) 1
noncomputable abbrev s_Heap_free : Stmt := inClass (top 13) 2
noncomputable abbrev s_Heap_number : Stmt := inClass (top 13) 3
noncomputable abbrev s_Heap_app : Stmt := inClass (top 13) 4
noncomputable abbrev s_Heap_end_of : Stmt := inClass (top 13) 5
noncomputable abbrev s_Heap_look : Stmt := inClass (top 13) 6
noncomputable abbrev s_Heap_one : Stmt := inClass (top 13) 7
noncomputable abbrev s_Heap_kids_of_one : Stmt := inClass (top 13) 8
noncomputable abbrev s_Heap_bind : Stmt := inClass (top 13) 9
noncomputable abbrev s_Heap_stands_within : Stmt := inClass (top 13) 10
noncomputable abbrev s_Heap_mark : Stmt := inClass (top 13) 11
noncomputable abbrev s_Heap_back_to : Stmt := inClass (top 13) 12
noncomputable abbrev s_key_of : Stmt := top 4
noncomputable abbrev s_l_led : Stmt := top 15
noncomputable abbrev s_l_size : Stmt := top 16
noncomputable abbrev s_l_within : Stmt := top 17
noncomputable abbrev s_l_one : Stmt := top 18
noncomputable abbrev s_l_same : Stmt := top 19
noncomputable abbrev s_l_made : Stmt := top 20
noncomputable abbrev s_l_joined : Stmt := top 21
noncomputable abbrev s_law : Stmt := top 22
theorem sc_Heap_init : FnScope ["self"] ["self"] (defScope s_Heap_init) := ⟨rfl, rfl, rfl, by decide +kernel, rfl, by decide +kernel, by decide +kernel⟩
theorem sc_Heap_made : FnScope ["self", "box"] ["self", "box"] (defScope s_Heap_made) := ⟨rfl, rfl, rfl, by decide +kernel, rfl, by decide +kernel, by decide +kernel⟩
theorem sc_Heap_free : FnScope ["self"] ["self"] (defScope s_Heap_free) := ⟨rfl, rfl, rfl, by decide +kernel, rfl, by decide +kernel, by decide +kernel⟩
theorem sc_Heap_number : FnScope ["self", "n"] ["self", "n"] (defScope s_Heap_number) := ⟨rfl, rfl, rfl, by decide +kernel, rfl, by decide +kernel, by decide +kernel⟩
theorem sc_Heap_app : FnScope ["self", "sign", "kids"] ["self", "sign", "kids"] (defScope s_Heap_app) := ⟨rfl, rfl, rfl, by decide +kernel, rfl, by decide +kernel, by decide +kernel⟩
theorem sc_Heap_end_of : FnScope ["self", "at", "here"] ["self", "at"] (defScope s_Heap_end_of) := ⟨rfl, rfl, rfl, by decide +kernel, rfl, by decide +kernel, by decide +kernel⟩
theorem sc_Heap_look : FnScope ["self", "at", "here"] ["self", "at"] (defScope s_Heap_look) := ⟨rfl, rfl, rfl, by decide +kernel, rfl, by decide +kernel, by decide +kernel⟩
theorem sc_Heap_one : FnScope ["self", "at", "other", "met", "todo", "told", "pair", "kids"] ["self", "at", "other"] (defScope s_Heap_one) := ⟨rfl, rfl, rfl, by decide +kernel, rfl, by decide +kernel, by decide +kernel⟩
theorem sc_Heap_kids_of_one : FnScope ["self", "left", "right", "one", "other"] ["self", "left", "right"] (defScope s_Heap_kids_of_one) := ⟨rfl, rfl, rfl, by decide +kernel, rfl, by decide +kernel, by decide +kernel⟩
theorem sc_Heap_bind : FnScope ["self", "at", "other"] ["self", "at", "other"] (defScope s_Heap_bind) := ⟨rfl, rfl, rfl, by decide +kernel, rfl, by decide +kernel, by decide +kernel⟩
theorem sc_Heap_stands_within : FnScope ["self", "at", "other", "seen", "todo", "here"] ["self", "at", "other"] (defScope s_Heap_stands_within) := ⟨rfl, rfl, rfl, by decide +kernel, rfl, by decide +kernel, by decide +kernel⟩
theorem sc_Heap_mark : FnScope ["self"] ["self"] (defScope s_Heap_mark) := ⟨rfl, rfl, rfl, by decide +kernel, rfl, by decide +kernel, by decide +kernel⟩
theorem sc_Heap_back_to : FnScope ["self", "mark"] ["self", "mark"] (defScope s_Heap_back_to) := ⟨rfl, rfl, rfl, by decide +kernel, rfl, by decide +kernel, by decide +kernel⟩
theorem sc_key_of : FnScope ["term"] ["term"] (defScope s_key_of) := ⟨rfl, rfl, rfl, by decide +kernel, rfl, by decide +kernel, by decide +kernel⟩
theorem sc_l_led : FnScope ["_law_boxes", "_law_k"] ["_law_boxes", "_law_k"] (defScope s_l_led) := ⟨rfl, rfl, rfl, by decide +kernel, rfl, by decide +kernel, by decide +kernel⟩
theorem sc_l_size : FnScope ["_law_boxes", "_law_k", "_law_count", "_law_due", "_law_here"] ["_law_boxes", "_law_k"] (defScope s_l_size) := ⟨rfl, rfl, rfl, by decide +kernel, rfl, by decide +kernel, by decide +kernel⟩
theorem sc_l_within : FnScope ["_law_boxes", "_law_k", "_law_free", "_law_due", "_law_here"] ["_law_boxes", "_law_k", "_law_free"] (defScope s_l_within) := ⟨rfl, rfl, rfl, by decide +kernel, rfl, by decide +kernel, by decide +kernel⟩
theorem sc_l_one : FnScope ["_law_boxes", "_law_one_here", "_law_other", "_law_due", "_law_k"] ["_law_boxes", "_law_one_here", "_law_other"] (defScope s_l_one) := ⟨rfl, rfl, rfl, by decide +kernel, rfl, by decide +kernel, by decide +kernel⟩
theorem sc_l_same : FnScope ["_law_heap", "_law_boxes", "_law_at", "_law_k", "_law_here", "_law_found", "_law_j"] ["_law_heap", "_law_boxes", "_law_at"] (defScope s_l_same) := ⟨rfl, rfl, rfl, by decide +kernel, rfl, by decide +kernel, by decide +kernel⟩
theorem sc_l_made : FnScope ["_law_heap", "_law_boxes", "_law_at", "_law_cell", "_law_way", "_law_n", "_law_kids", "_law_sign"] ["_law_heap", "_law_boxes", "_law_at", "_law_cell"] (defScope s_l_made) := ⟨rfl, rfl, rfl, by decide +kernel, rfl, by decide +kernel, by decide +kernel⟩
theorem sc_l_joined : FnScope ["_law_heap", "_law_boxes", "_law_at", "_law_cell", "_law_some", "_law_one_here", "_law_other", "_law_due", "_law_note", "_law_found", "_law_k"] ["_law_heap", "_law_boxes", "_law_at", "_law_cell"] (defScope s_l_joined) := ⟨rfl, rfl, rfl, by decide +kernel, rfl, by decide +kernel, by decide +kernel⟩
theorem sc_law : FnScope ["_law_script", "_law_left", "_law_heap", "_law_boxes", "_law_at", "_law_marks", "_law_cell", "_law_way", "_law_k"] ["_law_script"] (defScope s_law) := ⟨rfl, rfl, rfl, by decide +kernel, rfl, by decide +kernel, by decide +kernel⟩
set_option genInjectivity false in
structure Ad where
  k_TrailError : Addr
  k_Big : Addr
  k_Heap : Addr
  a_Heap_init : Addr
  d_Heap_init : FuncData
  a_Heap_made : Addr
  d_Heap_made : FuncData
  a_Heap_free : Addr
  d_Heap_free : FuncData
  a_Heap_number : Addr
  d_Heap_number : FuncData
  a_Heap_app : Addr
  d_Heap_app : FuncData
  a_Heap_end_of : Addr
  d_Heap_end_of : FuncData
  a_Heap_look : Addr
  d_Heap_look : FuncData
  a_Heap_one : Addr
  d_Heap_one : FuncData
  a_Heap_kids_of_one : Addr
  d_Heap_kids_of_one : FuncData
  a_Heap_bind : Addr
  d_Heap_bind : FuncData
  a_Heap_stands_within : Addr
  d_Heap_stands_within : FuncData
  a_Heap_mark : Addr
  d_Heap_mark : FuncData
  a_Heap_back_to : Addr
  d_Heap_back_to : FuncData
  a_key_of : Addr
  d_key_of : FuncData
  a_l_led : Addr
  d_l_led : FuncData
  a_l_size : Addr
  d_l_size : FuncData
  a_l_within : Addr
  d_l_within : FuncData
  a_l_one : Addr
  d_l_one : FuncData
  a_l_same : Addr
  d_l_same : FuncData
  a_l_made : Addr
  d_l_made : FuncData
  a_l_joined : Addr
  d_l_joined : FuncData
  a_law : Addr
  d_law : FuncData
  c_FREE : Addr
structure Txt (K : PySem.W.Frag) (mg : Str → Option Value) (t : Ad) : Prop where
  m_TrailError : mg "TrailError" = some (.ref t.k_TrailError)
  m_Big : mg "Big" = some (.ref t.k_Big)
  m_Heap : mg "Heap" = some (.ref t.k_Heap)
  cl_Heap : Cls K t.k_Heap
  no_Heap_boxes : NoAttr K t.k_Heap "boxes"
  no_Heap_trail : NoAttr K t.k_Heap "trail"
  mk_Heap : Mk K t.k_Heap t.a_Heap_init
  me_Heap_made : Meth K t.k_Heap "made" t.a_Heap_made
  me_Heap_free : Meth K t.k_Heap "free" t.a_Heap_free
  me_Heap_number : Meth K t.k_Heap "number" t.a_Heap_number
  me_Heap_app : Meth K t.k_Heap "app" t.a_Heap_app
  me_Heap_end_of : Meth K t.k_Heap "end_of" t.a_Heap_end_of
  me_Heap_look : Meth K t.k_Heap "look" t.a_Heap_look
  me_Heap_one : Meth K t.k_Heap "one" t.a_Heap_one
  me_Heap_kids_of_one : Meth K t.k_Heap "kids_of_one" t.a_Heap_kids_of_one
  me_Heap_bind : Meth K t.k_Heap "bind" t.a_Heap_bind
  me_Heap_stands_within : Meth K t.k_Heap "stands_within" t.a_Heap_stands_within
  me_Heap_mark : Meth K t.k_Heap "mark" t.a_Heap_mark
  me_Heap_back_to : Meth K t.k_Heap "back_to" t.a_Heap_back_to
  F_Heap_init : Fun K "__init__" "Heap.__init__" s_Heap_init t.a_Heap_init t.d_Heap_init
  b_Heap_init : Binds K t.d_Heap_init ["self"] []
  F_Heap_made : Fun K "made" "Heap.made" s_Heap_made t.a_Heap_made t.d_Heap_made
  b_Heap_made : Binds K t.d_Heap_made ["self", "box"] []
  F_Heap_free : Fun K "free" "Heap.free" s_Heap_free t.a_Heap_free t.d_Heap_free
  b_Heap_free : Binds K t.d_Heap_free ["self"] []
  F_Heap_number : Fun K "number" "Heap.number" s_Heap_number t.a_Heap_number t.d_Heap_number
  b_Heap_number : Binds K t.d_Heap_number ["self", "n"] []
  F_Heap_app : Fun K "app" "Heap.app" s_Heap_app t.a_Heap_app t.d_Heap_app
  b_Heap_app : Binds K t.d_Heap_app ["self", "sign", "kids"] []
  F_Heap_end_of : Fun K "end_of" "Heap.end_of" s_Heap_end_of t.a_Heap_end_of t.d_Heap_end_of
  b_Heap_end_of : Binds K t.d_Heap_end_of ["self", "at"] []
  F_Heap_look : Fun K "look" "Heap.look" s_Heap_look t.a_Heap_look t.d_Heap_look
  b_Heap_look : Binds K t.d_Heap_look ["self", "at"] []
  F_Heap_one : Fun K "one" "Heap.one" s_Heap_one t.a_Heap_one t.d_Heap_one
  b_Heap_one : Binds K t.d_Heap_one ["self", "at", "other"] []
  F_Heap_kids_of_one : Fun K "kids_of_one" "Heap.kids_of_one" s_Heap_kids_of_one t.a_Heap_kids_of_one t.d_Heap_kids_of_one
  b_Heap_kids_of_one : Binds K t.d_Heap_kids_of_one ["self", "left", "right"] []
  F_Heap_bind : Fun K "bind" "Heap.bind" s_Heap_bind t.a_Heap_bind t.d_Heap_bind
  b_Heap_bind : Binds K t.d_Heap_bind ["self", "at", "other"] []
  F_Heap_stands_within : Fun K "stands_within" "Heap.stands_within" s_Heap_stands_within t.a_Heap_stands_within t.d_Heap_stands_within
  b_Heap_stands_within : Binds K t.d_Heap_stands_within ["self", "at", "other"] []
  F_Heap_mark : Fun K "mark" "Heap.mark" s_Heap_mark t.a_Heap_mark t.d_Heap_mark
  b_Heap_mark : Binds K t.d_Heap_mark ["self"] []
  F_Heap_back_to : Fun K "back_to" "Heap.back_to" s_Heap_back_to t.a_Heap_back_to t.d_Heap_back_to
  b_Heap_back_to : Binds K t.d_Heap_back_to ["self", "mark"] []
  F_key_of : Fun K "key_of" "key_of" s_key_of t.a_key_of t.d_key_of
  b_key_of : Binds K t.d_key_of ["term"] []
  m_key_of : mg "key_of" = some (.ref t.a_key_of)
  F_l_led : Fun K "_law_led" "_law_led" s_l_led t.a_l_led t.d_l_led
  b_l_led : Binds K t.d_l_led ["_law_boxes", "_law_k"] []
  m_l_led : mg "_law_led" = some (.ref t.a_l_led)
  F_l_size : Fun K "_law_size" "_law_size" s_l_size t.a_l_size t.d_l_size
  b_l_size : Binds K t.d_l_size ["_law_boxes", "_law_k"] []
  m_l_size : mg "_law_size" = some (.ref t.a_l_size)
  F_l_within : Fun K "_law_within" "_law_within" s_l_within t.a_l_within t.d_l_within
  b_l_within : Binds K t.d_l_within ["_law_boxes", "_law_k", "_law_free"] []
  m_l_within : mg "_law_within" = some (.ref t.a_l_within)
  F_l_one : Fun K "_law_one" "_law_one" s_l_one t.a_l_one t.d_l_one
  b_l_one : Binds K t.d_l_one ["_law_boxes", "_law_one_here", "_law_other"] []
  m_l_one : mg "_law_one" = some (.ref t.a_l_one)
  F_l_same : Fun K "_law_same" "_law_same" s_l_same t.a_l_same t.d_l_same
  b_l_same : Binds K t.d_l_same ["_law_heap", "_law_boxes", "_law_at"] []
  m_l_same : mg "_law_same" = some (.ref t.a_l_same)
  F_l_made : Fun K "_law_made" "_law_made" s_l_made t.a_l_made t.d_l_made
  b_l_made : Binds K t.d_l_made ["_law_heap", "_law_boxes", "_law_at", "_law_cell"] []
  m_l_made : mg "_law_made" = some (.ref t.a_l_made)
  F_l_joined : Fun K "_law_joined" "_law_joined" s_l_joined t.a_l_joined t.d_l_joined
  b_l_joined : Binds K t.d_l_joined ["_law_heap", "_law_boxes", "_law_at", "_law_cell"] []
  m_l_joined : mg "_law_joined" = some (.ref t.a_l_joined)
  F_law : Fun K "law" "law" s_law t.a_law t.d_law
  b_law : Binds K t.d_law ["_law_script"] []
  m_law : mg "law" = some (.ref t.a_law)
  n_bool : mg "bool" = none
  n_isinstance : mg "isinstance" = none
  n_len : mg "len" = none
  n_list : mg "list" = none
  n_range : mg "range" = none
  n_reversed : mg "reversed" = none
  n_tuple : mg "tuple" = none
  n_zip : mg "zip" = none
  m_FREE : mg "FREE" = some (.ref t.c_FREE)
  q_FREE : ∀ H : Hp, SqT K H t.c_FREE [.str (PySem.Str.ofString "free")]
theorem nil_or_snoc' {α : Type} (l : List α) : l = [] ∨ ∃ r x, l = r ++ [x] := by
  cases l.eq_nil_or_concat with
  | inl h => exact .inl h
  | inr h => obtain ⟨r, x, h⟩ := h; exact .inr ⟨r, x, by simpa using h⟩
noncomputable abbrev boxesN : Str := Str.ofString "boxes"
noncomputable abbrev trailN : Str := Str.ofString "trail"
noncomputable abbrev freeS : Str := Str.ofString "free"
noncomputable abbrev toS : Str := Str.ofString "to"
noncomputable abbrev nsV (ks : List Nat) : List V := ks.map fun k : Nat => V.int (k : Int)
noncomputable abbrev nsD (ks : List Nat) : List PyData := ks.map fun k : Nat => PyData.int (k : Int)
noncomputable def Bx.data : Bx → PyData
  | .free => .tuple [.str freeS]
  | .num n => .tuple [.str numS, .int n]
  | .app s ks => .tuple [.str appS, .str s, .tuple (nsD ks)]
  | .to b => .tuple [.str toS, .int (b : Int)]
noncomputable def Bx.lw : Bx → PyData
  | .num n => .tuple [.str numS, .int n, .tuple []]
  | b => b.data
noncomputable def Bx.key : Bx → List Key
  | .num n => [.inr numS, .inl n]
  | .app s ks => [.inr appS, .inr s, .inl (ks.length : Int)]
  | _ => []
noncomputable def Bx.seen (a : Nat) : Bx → PyData
  | .free => .tuple [.str freeS, .int a]
  | b => b.data
noncomputable def Bx.kind : Bx → Str
  | .free => freeS
  | .num _ => numS
  | .app _ _ => appS
  | .to _ => toS
noncomputable def Bx.isTo : Bx → Bool
  | .to _ => true
  | _ => false
noncomputable def Bx.isApp : Bx → Bool
  | .app _ _ => true
  | _ => false
noncomputable def fsH (pb pt : Addr) : List (Str × V) := [(boxesN, .ref pb), (trailN, .ref pt)]
theorem fs_boxes (pb pt : Addr) : (fsH pb pt).lookup (Str.ofString "boxes") = some (.ref pb) := by
  simp only [fsH, List.lookup, show (Str.ofString "boxes" == boxesN) = true by decide +kernel]
theorem fs_trail (pb pt : Addr) : (fsH pb pt).lookup (Str.ofString "trail") = some (.ref pt) := by
  simp only [fsH, List.lookup, show (Str.ofString "trail" == boxesN) = false by decide +kernel, show (Str.ofString "trail" == trailN) = true by decide +kernel]
theorem fs_no {pb pt : Addr} {m : Str} (h1 : (m == boxesN) = false := by decide +kernel) (h2 : (m == trailN) = false := by decide +kernel) : (fsH pb pt).lookup m = none := by
  simp only [fsH, List.lookup, h1, h2]
structure HS (K : PySem.W.Frag) (C : Addr) (H : Hp) (x pb pt : Addr) (bs : Bs) (tr : List Nat) : Prop where
  ob : ∃ dx, H x = some (.ins C dx (fsH pb pt))
  bx : ∃ us, H pb = some (.lst us) ∧ DenL K H us (bs.map Bx.data)
  trl : H pt = some (.lst (nsV tr))
  ne : pb ≠ pt
noncomputable def HFr (pb pt : Addr) (H H' : Hp) : Prop := ∀ b o, b ≠ pb → b ≠ pt → H b = some o → H' b = some o
theorem HFr.refl (pb pt : Addr) (H : Hp) : HFr pb pt H H := fun _ _ _ _ e => e
theorem HFr.trans {pb pt : Addr} {H H1 H2 : Hp} (a : HFr pb pt H H1) (b : HFr pb pt H1 H2) : HFr pb pt H H2 := fun c o h h2 e => b c o h h2 (a c o h h2 e)
theorem HFr.of {pb pt : Addr} {H H' : Hp} (s : Same H H') : HFr pb pt H H' := fun b o _ _ e => s b o e
theorem tup_fr {K : PySem.W.Frag} {pb pt : Addr} {H H' : Hp} {ys zs : List V} (h : H pb = some (.lst ys)) (h2 : H pt = some (.lst zs)) (f : HFr pb pt H H') : ∀ a xs, SqT K H a xs → SqT K H' a xs := fun a xs q => by
  rcases q with (q | ⟨o, q⟩) | q
  · exact .inl (.inl (f _ _ (fun z => by rw [z, h] at q; cases q) (fun z => by rw [z, h2] at q; cases q) q))
  · exact .inl (.inr ⟨o, f _ _ (fun z => by rw [z, h] at q; cases q) (fun z => by rw [z, h2] at q; cases q) q⟩)
  · exact .inr q
section
variable {K : PySem.W.Frag} {C : Addr} {H H' : Hp} {x pb pt : Addr} {bs : Bs} {tr : List Nat}
theorem HS.tup (w : HS K C H x pb pt bs tr) (f : HFr pb pt H H') : ∀ a xs, SqT K H a xs → SqT K H' a xs := by
  obtain ⟨us, h, _⟩ := w.bx
  exact tup_fr h w.trl f
theorem HS.same (w : HS K C H x pb pt bs tr) (s : Same H H') : HS K C H' x pb pt bs tr := by
  obtain ⟨⟨dx, h1⟩, ⟨us, h2, h3⟩, h4, h5⟩ := w
  exact ⟨⟨dx, s _ _ h1⟩, ⟨us, s _ _ h2, h3.mono s⟩, s _ _ h4, h5⟩
theorem HS.upB {vs : List V} {bs' : Bs} (w : HS K C H x pb pt bs tr) (hv : DenL K H vs (bs'.map Bx.data)) : HS K C (upd H pb (.lst vs)) x pb pt bs' tr ∧ HFr pb pt H (upd H pb (.lst vs)) := by
  have f : HFr pb pt H (upd H pb (.lst vs)) := fun b o hb _ e => by rw [upd_ne hb]; exact e
  obtain ⟨us, h2, h3⟩ := w.bx
  obtain ⟨dx, h1⟩ := w.ob
  refine ⟨⟨⟨dx, f _ _ (fun z => by rw [z, h2] at h1; cases h1) (fun z => by rw [z, w.trl] at h1; cases h1) h1⟩, ⟨vs, upd_same, hv.monoT (w.tup f)⟩, by rw [upd_ne (Ne.symm w.ne)]; exact w.trl, w.ne⟩, f⟩
theorem HS.upT {tr' : List Nat} (w : HS K C H x pb pt bs tr) : HS K C (upd H pt (.lst (nsV tr'))) x pb pt bs tr' ∧ HFr pb pt H (upd H pt (.lst (nsV tr'))) := by
  have f : HFr pb pt H (upd H pt (.lst (nsV tr'))) := fun b o _ hb e => by rw [upd_ne hb]; exact e
  obtain ⟨us, h2, h3⟩ := w.bx
  obtain ⟨dx, h1⟩ := w.ob
  refine ⟨⟨⟨dx, f _ _ (fun z => by rw [z, h2] at h1; cases h1) (fun z => by rw [z, w.trl] at h1; cases h1) h1⟩, ⟨us, by rw [upd_ne w.ne]; exact h2, h3.monoT (w.tup f)⟩, upd_same, w.ne⟩, f⟩
theorem den_at {us : List V} {n : Nat} {b : Bx} {f : Bx → PyData} (h3 : DenL K H us (bs.map f)) (e : bs[n]? = some b) : ∃ u, us[n]? = some u ∧ atI us (n : Int) = some u ∧ Den K H u (f b) := by
  have hl : us.length = bs.length := by rw [h3.length, List.length_map]
  have hn := (List.getElem?_eq_some_iff.mp e).1
  obtain ⟨u, e1, e2⟩ := atI_lt (xs := us) (i := (n : Int)) (by omega) (by omega)
  have e2' : us[n]? = some u := by simpa using e2
  obtain ⟨d, e3, e4⟩ := h3.get e2'
  rw [List.getElem?_map, e] at e3
  cases e3
  exact ⟨u, e2', e1, e4⟩
theorem den_size {us : List V} {f : Bx → PyData} (h3 : DenL K H us (bs.map f)) : us.length = bs.length := by rw [h3.length, List.length_map]
end
theorem denL_ns {K : PySem.W.Frag} {H : Hp} : ∀ {us : List V} {ks : List Nat}, DenL K H us (nsD ks) → us = nsV ks
  | _, [], h => by cases h; rfl
  | _, k :: ks, h => by
    cases h with
    | cons h1 r => cases h1; rw [denL_ns r]; rfl
theorem ns_den {K : PySem.W.Frag} {H : Hp} : ∀ ks : List Nat, DenL K H (nsV ks) (nsD ks)
  | [] => .nil
  | k :: ks => .cons (.int _) (ns_den ks)
theorem den_free {K : PySem.W.Frag} {H : Hp} {u : V} (h : Den K H u (.tuple [.str freeS])) : ∃ a, u = .ref a ∧ SqT K H a [.str freeS] := by
  cases h with
  | tup hs hl => cases hl with | cons h1 r => cases h1; cases r; exact ⟨_, rfl, hs⟩
theorem den_2 {K : PySem.W.Frag} {H : Hp} {u : V} {s : Str} {n : Int} (h : Den K H u (.tuple [.str s, .int n])) : ∃ a, u = .ref a ∧ SqT K H a [.str s, .int n] := by
  cases h with
  | tup hs hl => cases hl with | cons h1 r => cases h1; cases r with | cons h2 r => cases h2; cases r; exact ⟨_, rfl, hs⟩
theorem den_lnum {K : PySem.W.Frag} {H : Hp} {u : V} {n : Int} (h : Den K H u (.tuple [.str numS, .int n, .tuple []])) : ∃ a b, u = .ref a ∧ SqT K H a [.str numS, .int n, .ref b] ∧ SqT K H b [] := by
  cases h with
  | tup hs hl =>
    cases hl with
    | cons h1 r =>
      cases h1
      cases r with
      | cons h2 r =>
        cases h2
        cases r with
        | cons h3 r =>
          cases r
          cases h3 with
          | tup hs3 hl3 => cases hl3; exact ⟨_, _, rfl, hs, hs3⟩
theorem den_bapp {K : PySem.W.Frag} {H : Hp} {u : V} {s : Str} {ks : List Nat} (h : Den K H u (.tuple [.str appS, .str s, .tuple (nsD ks)])) : ∃ a b, u = .ref a ∧ SqT K H a [.str appS, .str s, .ref b] ∧ SqT K H b (nsV ks) := by
  cases h with
  | tup hs hl =>
    cases hl with
    | cons h1 r =>
      cases h1
      cases r with
      | cons h2 r =>
        cases h2
        cases r with
        | cons h3 r =>
          cases r
          cases h3 with
          | tup hs3 hl3 =>
            rw [denL_ns hl3] at hs3
            exact ⟨_, _, rfl, hs, hs3⟩
theorem atI0 {x : V} {r : List V} : atI (x :: r) 0 = some x := by
  obtain ⟨v, e1, e2⟩ := atI_lt (xs := x :: r) (i := 0) (by omega) (by rw [List.length_cons]; omega)
  rw [e1]
  simpa using e2.symm
theorem den_kind {K : PySem.W.Frag} {H : Hp} {u : V} : ∀ {b : Bx}, Den K H u b.data → ∃ a us, u = .ref a ∧ SqT K H a (.str b.kind :: us) ∧ (decide (b.kind = freeS) && us.isEmpty) = b.isFree
  | .free, h => by obtain ⟨a, rfl, hs⟩ := den_free h; exact ⟨a, [], rfl, hs, by decide +kernel⟩
  | .num n, h => by obtain ⟨a, rfl, hs⟩ := den_2 h; exact ⟨a, _, rfl, hs, by simp [Bx.isFree]⟩
  | .app s ks, h => by obtain ⟨a, b, rfl, hs, _⟩ := den_bapp h; exact ⟨a, _, rfl, hs, by simp [Bx.isFree]⟩
  | .to b, h => by obtain ⟨a, rfl, hs⟩ := den_2 h; exact ⟨a, _, rfl, hs, by simp [Bx.isFree]⟩
theorem lw_kind {K : PySem.W.Frag} {H : Hp} {u : V} : ∀ {b : Bx}, Den K H u b.lw → ∃ a us, u = .ref a ∧ SqT K H a (.str b.kind :: us)
  | .free, h => by obtain ⟨a, rfl, hs⟩ := den_free h; exact ⟨a, [], rfl, hs⟩
  | .num n, h => by obtain ⟨a, b, rfl, hs, _⟩ := den_lnum h; exact ⟨a, _, rfl, hs⟩
  | .app s ks, h => by obtain ⟨a, b, rfl, hs, _⟩ := den_bapp h; exact ⟨a, _, rfl, hs⟩
  | .to b, h => by obtain ⟨a, rfl, hs⟩ := den_2 h; exact ⟨a, _, rfl, hs⟩
theorem kind_to : ∀ b : Bx, decide (b.kind = Str.ofString "to") = b.isTo
  | .free => by decide +kernel
  | .num _ => show decide (numS = Str.ofString "to") = false by decide +kernel
  | .app _ _ => show decide (appS = Str.ofString "to") = false by decide +kernel
  | .to _ => show decide (toS = Str.ofString "to") = true by decide +kernel
theorem kind_app : ∀ b : Bx, decide (b.kind = Str.ofString "app") = b.isApp
  | .free => by decide +kernel
  | .num _ => show decide (numS = Str.ofString "app") = false by decide +kernel
  | .app _ _ => show decide (appS = Str.ofString "app") = true by decide +kernel
  | .to _ => show decide (toS = Str.ofString "app") = false by decide +kernel
theorem kind_free : ∀ b : Bx, decide (b.kind = Str.ofString "free") = b.isFree
  | .free => by decide +kernel
  | .num _ => show decide (numS = Str.ofString "free") = false by decide +kernel
  | .app _ _ => show decide (appS = Str.ofString "free") = false by decide +kernel
  | .to _ => show decide (toS = Str.ofString "free") = false by decide +kernel
theorem End.box {bs : Bs} {a c : Nat} {x : Bx} (h : End bs a c) (e : bs[c]? = some x) : x.isTo = false := by
  obtain ⟨y, e2, n⟩ := h.is
  rw [e] at e2
  cases e2
  cases x <;> first | rfl | exact absurd rfl (n _)
noncomputable def LB (K : PySem.W.Frag) (H : Hp) (p : Addr) (bs : Bs) : Prop := ∃ us, H p = some (.lst us) ∧ DenL K H us (bs.map Bx.lw)
noncomputable abbrev prD (p : Nat × Nat) : PyData := .tuple [.int (p.1 : Int), .int (p.2 : Int)]
noncomputable def PL (K : PySem.W.Frag) (H : Hp) (p : Addr) (l : List (Nat × Nat)) : Prop := ∃ us, H p = some (.lst us) ∧ DenL K H us (l.map prD)
noncomputable abbrev sp_key_of (K : PySem.W.Frag) : Sp := fun vs H Q _ => match vs with | [.ref a] => ∃ b : Bx, Den K H (.ref a) b.data ∧ b.isFree = false ∧ (∀ c, b ≠ .to c) ∧ (∀ s ks, b = .app s ks → ks.length ≤ 3) ∧ ∀ (p : Addr) (H' : Hp), Same H H' → SqT K H' p (b.key.map kV) → Q (.ref p) H' | _ => False
noncomputable abbrev sp_Heap_init (K : PySem.W.Frag) (C : Addr) : Sp := fun vs H Q _ => match vs with | [.ref x] => ∃ dx, H x = some (.ins C dx []) ∧ ∀ (pb pt : Addr) (H' : Hp), HS K C H' x pb pt [] [] → (∀ b o, b ≠ x → H b = some o → H' b = some o) → H pb = none → H pt = none → Q .non H' | _ => False
noncomputable abbrev sp_Heap_made (K : PySem.W.Frag) (C : Addr) : Sp := fun vs H Q _ => match vs with | [.ref x, v] => ∃ (dx pb pt : Addr) (us : List V), H x = some (.ins C dx (fsH pb pt)) ∧ H pb = some (.lst us) ∧ us.length ≤ 1000 ∧ Q (.int (us.length : Int)) (upd H pb (.lst (us ++ [v]))) | _ => False
noncomputable abbrev sp_Heap_free (K : PySem.W.Frag) (C : Addr) : Sp := fun vs H Q _ => match vs with | [.ref x] => ∃ (pb pt : Addr) (bs : Bs) (tr : List Nat), HS K C H x pb pt bs tr ∧ bs.length ≤ 900 ∧ ∀ H', HFr pb pt H H' → HS K C H' x pb pt (bs ++ [.free]) tr → Q (.int (bs.length : Int)) H' | _ => False
noncomputable abbrev sp_Heap_number (K : PySem.W.Frag) (C : Addr) : Sp := fun vs H Q _ => match vs with | [.ref x, .int n] => ∃ (pb pt : Addr) (bs : Bs) (tr : List Nat), HS K C H x pb pt bs tr ∧ bs.length ≤ 900 ∧ ∀ H', HFr pb pt H H' → HS K C H' x pb pt (bs ++ [.num n]) tr → Q (.int (bs.length : Int)) H' | _ => False
noncomputable abbrev sp_Heap_app (K : PySem.W.Frag) (C : Addr) : Sp := fun vs H Q _ => match vs with | [.ref x, .str s, .ref p] => ∃ (pb pt : Addr) (bs : Bs) (tr ks : List Nat), HS K C H x pb pt bs tr ∧ bs.length ≤ 900 ∧ ks.length ≤ 4 ∧ SqL K H p (nsV ks) ∧ ∀ H', HFr pb pt H H' → HS K C H' x pb pt (bs ++ [.app s ks]) tr → Q (.int (bs.length : Int)) H' | _ => False
noncomputable abbrev sp_Heap_end_of (K : PySem.W.Frag) (C : Addr) : Sp := fun vs H Q _ => match vs with | [.ref x, .int a] => ∃ (pb pt : Addr) (bs : Bs) (tr : List Nat) (n e : Nat), HS K C H x pb pt bs tr ∧ Wf bs ∧ a = (n : Int) ∧ End bs n e ∧ Q (.int (e : Int)) H | _ => False
noncomputable abbrev sp_Heap_look (K : PySem.W.Frag) (C : Addr) : Sp := fun vs H Q _ => match vs with | [.ref x, .int a] => ∃ (pb pt : Addr) (bs : Bs) (tr : List Nat) (n e : Nat) (b : Bx), HS K C H x pb pt bs tr ∧ Wf bs ∧ a = (n : Int) ∧ End bs n e ∧ bs[e]? = some b ∧ ∀ (v : V) (H' : Hp), Same H H' → Den K H' v (b.seen e) → Q v H' | _ => False
noncomputable abbrev sp_Heap_one (K : PySem.W.Frag) (C : Addr) : Sp := fun vs H Q _ => match vs with | [.ref x, .int a, .int b] => ∃ (pb pt : Addr) (bs : Bs) (tr : List Nat) (n m k : Nat) (bs' : Bs) (r : Bool), HS K C H x pb pt bs tr ∧ a = (n : Int) ∧ b = (m : Int) ∧ Lim bs [(n, m)] ∧ tr.length ≤ 6000 ∧ Run k bs [(n, m)] bs' r ∧ ∀ (tr' : List Nat) (H' : Hp), HFr pb pt H H' → HS K C H' x pb pt bs' tr' → Up bs tr bs' tr' → tr'.length ≤ tr.length + 64 → Q (.bl r) H' | _ => False
noncomputable abbrev sp_Heap_kids_of_one (K : PySem.W.Frag) (C : Addr) : Sp := fun vs H Q _ => match vs with | [.ref x, .int a0, .int b0] => ∃ (pb pt : Addr) (bs : Bs) (tr : List Nat) (a b : Nat), HS K C H x pb pt bs tr ∧ bs.length ≤ 64 ∧ Wf bs ∧ a0 = (a : Int) ∧ b0 = (b : Int) ∧ End bs a a ∧ End bs b b ∧ a ≠ b ∧ tr.length ≤ 10000 ∧ (stp bs a b = none → ∀ H', Same H H' → Q .non H') ∧ (∀ bs1 l, stp bs a b = some (bs1, l) → ∀ (p : Addr) (tr' : List Nat) (H' : Hp), HFr pb pt H H' → HS K C H' x pb pt bs1 tr' → ((bs1 = bs ∧ tr' = tr) ∨ ∃ c d, bs[c]? = some .free ∧ bs1 = bs.set c (.to d) ∧ tr' = tr ++ [c]) → PL K H' p l → Q (.ref p) H') | _ => False
noncomputable abbrev sp_Heap_bind (K : PySem.W.Frag) (C : Addr) : Sp := fun vs H Q _ => match vs with | [.ref x, .int a0, .int b0] => ∃ (pb pt : Addr) (bs : Bs) (tr : List Nat) (a b : Nat), HS K C H x pb pt bs tr ∧ bs.length ≤ 64 ∧ Wf bs ∧ a0 = (a : Int) ∧ b0 = (b : Int) ∧ bs[a]? = some .free ∧ End bs b b ∧ tr.length ≤ 10000 ∧ (Rch bs b a → ∀ H', Same H H' → Q .non H') ∧ (¬ Rch bs b a → ∀ (p : Addr) (H' : Hp), HFr pb pt H H' → HS K C H' x pb pt (bs.set a (.to b)) (tr ++ [a]) → H' p = some (.lst []) → Q (.ref p) H') | _ => False
noncomputable abbrev sp_Heap_stands_within (K : PySem.W.Frag) (C : Addr) : Sp := fun vs H Q _ => match vs with | [.ref x, .int a0, .int b0] => ∃ (pb pt : Addr) (bs : Bs) (tr : List Nat) (a b : Nat), HS K C H x pb pt bs tr ∧ bs.length ≤ 64 ∧ Wf bs ∧ a0 = (a : Int) ∧ b0 = (b : Int) ∧ End bs a a ∧ b < bs.length ∧ ∀ (r : Bool) (H' : Hp), Same H H' → (r = true ↔ Rch bs b a) → Q (.bl r) H' | _ => False
noncomputable abbrev sp_Heap_mark (K : PySem.W.Frag) (C : Addr) : Sp := fun vs H Q _ => match vs with | [.ref x] => ∃ (pb pt : Addr) (bs : Bs) (tr : List Nat), HS K C H x pb pt bs tr ∧ ∀ (p : Addr) (H' : Hp), Same H H' → SqT K H' p [.int (bs.length : Int), .int (tr.length : Int)] → Q (.ref p) H' | _ => False
noncomputable abbrev sp_Heap_back_to (K : PySem.W.Frag) (C : Addr) : Sp := fun vs H Q _ => match vs with | [.ref x, .ref p] => ∃ (pb pt : Addr) (bs : Bs) (tr : List Nat) (n t : Nat) (sv : Bs), HS K C H x pb pt bs tr ∧ SqT K H p [.int (n : Int), .int (t : Int)] ∧ Mrk bs tr n t sv ∧ ∀ H', HFr pb pt H H' → HS K C H' x pb pt sv (tr.take t) → Q .non H' | _ => False
noncomputable abbrev atL (bs : Bs) : List V := nsV (List.range bs.length)
noncomputable abbrev sp_l_led (K : PySem.W.Frag) : Sp := fun vs H Q _ => match vs with | [.ref p, .int a] => ∃ (bs : Bs) (n e : Nat), LB K H p bs ∧ Wf bs ∧ a = (n : Int) ∧ End bs n e ∧ Q (.int (e : Int)) H | _ => False
noncomputable abbrev sp_l_size (K : PySem.W.Frag) : Sp := fun vs H Q _ => match vs with | [.ref p, .int a] => ∃ (bs : Bs) (n : Nat), LB K H p bs ∧ Wf bs ∧ a = (n : Int) ∧ n < bs.length ∧ ∀ (c : Nat) (H' : Hp), Same H H' → Q (.int (c : Int)) H' | _ => False
noncomputable abbrev sp_l_within (K : PySem.W.Frag) : Sp := fun vs H Q _ => match vs with | [.ref p, .int b0, .int a0] => ∃ (bs : Bs) (a b : Nat), LB K H p bs ∧ bs.length ≤ 64 ∧ Wf bs ∧ a0 = (a : Int) ∧ b0 = (b : Int) ∧ End bs a a ∧ b < bs.length ∧ ∀ (r : Bool) (H' : Hp), Same H H' → (r = true ↔ Rch bs b a) → Q (.bl r) H' | _ => False
noncomputable abbrev sp_l_one (K : PySem.W.Frag) : Sp := fun vs H Q _ => match vs with | [.ref p, .int a, .int b] => ∃ (bs : Bs) (n m k : Nat) (bs' : Bs) (r : Bool), LB K H p bs ∧ a = (n : Int) ∧ b = (m : Int) ∧ Lim bs [(n, m)] ∧ Run k bs [(n, m)] bs' r ∧ ∀ (H' : Hp), But p H H' → LB K H' p bs' → Q (.bl r) H' | _ => False
noncomputable abbrev sp_l_same (K : PySem.W.Frag) (C : Addr) : Sp := fun vs H Q _ => match vs with | [.ref x, .ref p, .ref q] => ∃ (pb pt : Addr) (bs : Bs) (tr : List Nat), HS K C H x pb pt bs tr ∧ LB K H p bs ∧ Wf bs ∧ bs.length ≤ 64 ∧ H q = some (.lst (atL bs)) ∧ ∀ H', Same H H' → Q (.bl true) H' | _ => False
noncomputable def LFr (pb pt p q : Addr) (H H' : Hp) : Prop := ∀ b o, b ≠ pb → b ≠ pt → b ≠ p → b ≠ q → H b = some o → H' b = some o
noncomputable abbrev Four (pb pt p q : Addr) : Prop := p ≠ pb ∧ p ≠ pt ∧ q ≠ pb ∧ q ≠ pt ∧ p ≠ q
noncomputable abbrev sp_l_made (K : PySem.W.Frag) (C : Addr) : Sp := fun vs H Q _ => match vs with | [.ref x, .ref p, .ref q, .int c] => ∃ (pb pt : Addr) (bs : Bs) (tr : List Nat), HS K C H x pb pt bs tr ∧ LB K H p bs ∧ Wf bs ∧ bs.length ≤ 63 ∧ H q = some (.lst (atL bs)) ∧ Four pb pt p q ∧ 0 ≤ c ∧ ∀ (b : Bx) (H' : Hp), LFr pb pt p q H H' → HS K C H' x pb pt (bs ++ [b]) tr → LB K H' p (bs ++ [b]) → H' q = some (.lst (atL (bs ++ [b]))) → Wf (bs ++ [b]) → Q .non H' | _ => False
noncomputable abbrev sp_l_joined (K : PySem.W.Frag) (C : Addr) : Sp := fun vs H Q _ => match vs with | [.ref x, .ref p, .ref q, .int c] => ∃ (pb pt : Addr) (bs : Bs) (tr : List Nat), HS K C H x pb pt bs tr ∧ LB K H p bs ∧ Wf bs ∧ 2 ≤ bs.length ∧ bs.length ≤ 64 ∧ tr.length ≤ 6000 ∧ (∀ a ∈ tr, a < bs.length) ∧ H q = some (.lst (atL bs)) ∧ Four pb pt p q ∧ 0 ≤ c ∧ ∀ (bs' : Bs) (tr' : List Nat) (H' : Hp), LFr pb pt p p H H' → HS K C H' x pb pt bs' tr' → LB K H' p bs' → Wf bs' → Up bs tr bs' tr' → tr'.length ≤ tr.length + 64 → Q (.bl true) H' | _ => False
noncomputable abbrev sp_law (K : PySem.W.Frag) : Sp := fun vs H Q _ => match vs with | [.ref a] => ∃ ns : List Int, SqL K H a (ns.map V.int) ∧ ns.length ≤ 63 ∧ ∀ H', Q (.bl true) H' | _ => False
section
variable {P : Program} {w : World} {K : PySem.W.Frag} {mg : Str → Option Value} {base : Heap} {t : Ad}
theorem ok_key_of (T : Txt K mg t)  : FnOk P w K mg base CX0 1 t.a_key_of t.d_key_of ["term"] (sp_key_of K) := by
  refine T.F_key_of.ok sc_key_of (fun vs H Q E h => ?_) (fun cdv A outer s H vs Q E hr h => ?_)
  · unfold sp_key_of at h
    split at h
    · rfl
    · exact h.elim
  unfold sp_key_of at h
  split at h
  rotate_left
  · exact h.elim
  refine ⟨_, (pss_cons (ps_if (mt_cmp mo_eq (pe_ix (ki_seq K rfl) (mv 0) pe_int (fun _ _ => rfl)) pe_str (nomark _)) (pss_one (ps_ret (pe_tup (pa_con pe_str (pa_con (pe_ix (ki_seq K rfl) (mv 0) pe_int (fun _ _ => rfl)) pa_nil))))) pss_nil) (pss_cons (ps_if (mt_cmp mo_eq (pe_ix (ki_seq K rfl) (mv 0) pe_int (fun _ _ => rfl)) pe_str (nomark _)) (pss_one (ps_ret (pe_tup (pa_con pe_str (pa_con (pe_ix (ki_seq K rfl) (mv 0) pe_int (fun _ _ => rfl)) (pa_con (pe_callB (kc_len K rfl) rfl T.n_len PySem.boot_len (pa_con (pe_ix (ki_seq K rfl) (mv 0) pe_int (fun _ _ => rfl)) pa_nil)) pa_nil)))))) pss_nil) (pss_one (ps_ret pe_non)))), ?_⟩
  rename_i a
  obtain ⟨b, hd, hf, hto, har, q⟩ := h
  cases b with
  | free => cases hf
  | to c => exact absurd rfl (hto c)
  | num n =>
    obtain ⟨a, e, hs⟩ := den_2 (s := numS) (n := n) hd
    cases e
    walk_at "stp"
    refine mIx_t hs (v := .str numS) rfl ?_
    walk_at "stp"
    refine iteB (fun e => ?_) (fun e => absurd e (by decide +kernel))
    walk_at "stp"
    refine mIx_t hs (v := .int n) rfl ?_
    walk_at "stp"
    refine ⟨ln (by show 2 ≤ 100000; decide), fun p1 hp1 => ?_⟩
    have sp1 : Same H (upd H p1 (.tup [.str (Str.ofString "num"), .int n])) := same_new hp1 _
    have kp1 : (upd H p1 (.tup [.str (Str.ofString "num"), .int n])) p1 = some (.tup [.str (Str.ofString "num"), .int n]) := upd_same
    generalize upd H p1 (.tup [.str (Str.ofString "num"), .int n]) = H1 at sp1 kp1 ⊢
    walk_at "stp"
    exact q _ _ sp1 (SqT.of kp1)
  | app s ks =>
    obtain ⟨a, b', e, hs, hs2⟩ := den_bapp (s := s) (ks := ks) hd
    cases e
    walk_at "stp"
    refine mIx_t hs (v := .str appS) rfl ?_
    walk_at "stp"
    refine iteB (fun e => absurd e (by decide +kernel)) (fun e => ?_)
    walk_at "stp"
    refine mIx_t hs (v := .str appS) rfl ?_
    walk_at "stp"
    refine iteB (fun e => ?_) (fun e => absurd e (by decide +kernel))
    walk_at "stp"
    refine mIx_t hs (v := .str s) rfl ?_
    walk_at "stp"
    refine mIx_t hs (v := .ref b') rfl ?_
    walk_at "stp"
    refine mLen_t hs2 ?_
    rw [nsV, List.length_map]
    walk_at "stp"
    refine ⟨ln (by show 3 ≤ 100000; decide), fun p1 hp1 => ?_⟩
    have sp1 : Same H (upd H p1 (.tup [.str (Str.ofString "app"), .str s, .int (ks.length : Int)])) := same_new hp1 _
    have kp1 : (upd H p1 (.tup [.str (Str.ofString "app"), .str s, .int (ks.length : Int)])) p1 = some (.tup [.str (Str.ofString "app"), .str s, .int (ks.length : Int)]) := upd_same
    generalize upd H p1 (.tup [.str (Str.ofString "app"), .str s, .int (ks.length : Int)]) = H1 at sp1 kp1 ⊢
    walk_at "stp"
    exact q _ _ sp1 (SqT.of kp1)
theorem ok_Heap_init (T : Txt K mg t)  : FnOk P w K mg base CX0 1 t.a_Heap_init t.d_Heap_init ["self"] (sp_Heap_init K t.k_Heap) := by
  refine T.F_Heap_init.ok sc_Heap_init (fun vs H Q E h => ?_) (fun cdv A outer s H vs Q E hr h => ?_)
  · unfold sp_Heap_init at h
    split at h
    · rfl
    · exact h.elim
  unfold sp_Heap_init at h
  split at h
  rotate_left
  · exact h.elim
  refine ⟨_, (pss_cons (ps_fld (mv 0) (pe_lst pa_nil) rfl) (pss_one (ps_fld (mv 0) (pe_lst pa_nil) rfl))), ?_⟩
  rename_i x
  obtain ⟨dx, hx, q⟩ := h
  walk_at "stp"
  refine ⟨ln (by show 0 ≤ 100000; decide), fun pb hpb => ?_⟩
  have spb : Same H (upd H pb (.lst [])) := same_new hpb _
  have kpb : (upd H pb (.lst [])) pb = some (.lst []) := upd_same
  generalize upd H pb (.lst []) = H1 at spb kpb ⊢
  walk_at "stp"
  refine ⟨x, _, dx, _, rfl, spb _ _ hx, T.cl_Heap, T.no_Heap_boxes, by simp, ?_⟩
  have npb : pb ≠ x := fun z => by rw [z, hx] at hpb; cases hpb
  have b2 : But x H1 (upd H1 x (.ins t.k_Heap dx [(boxesN, .ref pb)])) := but_upd _
  have o2 : (upd H1 x (.ins t.k_Heap dx [(boxesN, .ref pb)])) x = some (.ins t.k_Heap dx [(boxesN, .ref pb)]) := upd_same
  have n2 : ∀ c, (upd H1 x (.ins t.k_Heap dx [(boxesN, .ref pb)])) c = none → H1 c = none := fun c hc => by
    by_cases z : c = x
    · rw [z, upd_same] at hc; cases hc
    · rwa [upd_ne z] at hc
  have e2 : putF (Str.ofString "boxes") (.ref pb) [] = [(boxesN, V.ref pb)] := rfl
  rw [e2]
  generalize upd H1 x (.ins t.k_Heap dx [(boxesN, .ref pb)]) = H2 at b2 o2 n2 ⊢
  walk_at "stp"
  refine ⟨ln (by show 0 ≤ 100000; decide), fun pt hpt => ?_⟩
  have spt : Same H2 (upd H2 pt (.lst [])) := same_new hpt _
  have kpt : (upd H2 pt (.lst [])) pt = some (.lst []) := upd_same
  generalize upd H2 pt (.lst []) = H3 at spt kpt ⊢
  walk_at "stp"
  refine ⟨x, _, dx, _, rfl, spt _ _ o2, T.cl_Heap, T.no_Heap_trail, by simp, ?_⟩
  have e4 : putF (Str.ofString "trail") (.ref pt) [(boxesN, V.ref pb)] = fsH pb pt := by
    simp only [putF, fsH, show ¬ boxesN = Str.ofString "trail" by decide +kernel, if_false]
  rw [e4]
  have b4 : But x H3 (upd H3 x (.ins t.k_Heap dx (fsH pb pt))) := but_upd _
  have npt : pt ≠ x := fun z => by rw [z, o2] at hpt; cases hpt
  have k2 := b2 _ _ npb kpb
  walk_at "stp"
  refine q pb pt _ ⟨⟨dx, upd_same⟩, ⟨[], b4 _ _ npb (spt _ _ k2), .nil⟩, b4 _ _ npt kpt, fun z => by rw [← z, k2] at hpt; cases hpt⟩ (fun b o hb e => b4 _ _ hb (spt _ _ (b2 _ _ hb (spb _ _ e)))) hpb (spb.free (n2 _ hpt))
theorem ok_Heap_made (T : Txt K mg t)  : FnOk P w K mg base CX0 1 t.a_Heap_made t.d_Heap_made ["self", "box"] (sp_Heap_made K t.k_Heap) := by
  refine T.F_Heap_made.ok sc_Heap_made (fun vs H Q E h => ?_) (fun cdv A outer s H vs Q E hr h => ?_)
  · unfold sp_Heap_made at h
    split at h
    · rfl
    · exact h.elim
  unfold sp_Heap_made at h
  split at h
  rotate_left
  · exact h.elim
  refine ⟨_, (pss_cons (ps_expr (ke_bm K rfl PySem.F.plainAttrs_list PySem.F.slot_list_append PySem.F.type_list_append mm_append (pe_fld (mv 0) rfl) (pa_con (mv 1) pa_nil))) (pss_one (ps_ret (pe_op mo_sub (pe_callB (kc_len K rfl) rfl T.n_len PySem.boot_len (pa_con (pe_fld (mv 0) rfl) pa_nil)) pe_int)))), ?_⟩
  rename_i x v
  obtain ⟨dx, pb, pt, us, ho, hb, hl, q⟩ := h
  walk_at "stp"
  refine ⟨x, _, dx, _, _, rfl, ho, T.cl_Heap, T.no_Heap_boxes, fs_boxes _ _, ?_⟩
  refine ⟨.inl ⟨rfl, _, SqL.of hb⟩, ?_⟩
  walk_at "stp"
  refine mAppend_i hb (ln1 (by omega)) ?_
  walk_at "stp"
  have ho2 : (upd H pb (.lst (us ++ [v]))) x = some (.ins t.k_Heap dx (fsH pb pt)) := by rw [upd_ne (fun z => by rw [z, hb] at ho; cases ho)]; exact ho
  refine ⟨x, _, dx, _, _, rfl, ho2, T.cl_Heap, T.no_Heap_boxes, fs_boxes _ _, ?_⟩
  walk_at "stp"
  refine mLen_l (SqL.of upd_same) ?_
  walk_at "stp"
  rw [List.length_append, List.length_singleton, show ((us.length + 1 : Nat) : Int) - 1 = (us.length : Int) by omega]
  exact q
theorem ok_Heap_free (T : Txt K mg t) (G_Heap_made : FnOk P w K mg base CX0 1 t.a_Heap_made t.d_Heap_made ["self", "box"] (sp_Heap_made K t.k_Heap)) : FnOk P w K mg base CX0 2 t.a_Heap_free t.d_Heap_free ["self"] (sp_Heap_free K t.k_Heap) := by
  refine T.F_Heap_free.ok sc_Heap_free (fun vs H Q E h => ?_) (fun cdv A outer s H vs Q E hr h => ?_)
  · unfold sp_Heap_free at h
    split at h
    · rfl
    · exact h.elim
  unfold sp_Heap_free at h
  split at h
  rotate_left
  · exact h.elim
  refine ⟨_, (pss_one (ps_ret (pe_meth (mv 0) T.cl_Heap T.me_Heap_made G_Heap_made (hr.mono (by first | decide | omega)) T.b_Heap_made .nil pass0 (pa_con (pe_glob (v := .ref t.c_FREE) rfl T.m_FREE rfl) pa_nil)))), ?_⟩
  rename_i x
  obtain ⟨pb, pt, bs, tr, w1, hl, q⟩ := h
  obtain ⟨dx, ho⟩ := w1.ob
  walk_at "stp"
  refine ⟨x, dx, _, rfl, ho, fs_no, ?_⟩
  walk_at "stp"
  obtain ⟨dx, ho⟩ := w1.ob
  obtain ⟨us, hb, hd⟩ := w1.bx
  obtain ⟨w2, f2⟩ := w1.upB (vs := us ++ [.ref t.c_FREE]) (bs' := bs ++ [.free]) (by rw [List.map_append]; exact hd.append (.cons (.tup (T.q_FREE H) (.cons (.str _) .nil)) .nil))
  have e := den_size hd
  refine ⟨dx, pb, pt, us, ho, hb, by omega, ?_⟩
  rw [e]
  exact q _ f2 w2
theorem ok_Heap_number (T : Txt K mg t) (G_Heap_made : FnOk P w K mg base CX0 1 t.a_Heap_made t.d_Heap_made ["self", "box"] (sp_Heap_made K t.k_Heap)) : FnOk P w K mg base CX0 2 t.a_Heap_number t.d_Heap_number ["self", "n"] (sp_Heap_number K t.k_Heap) := by
  refine T.F_Heap_number.ok sc_Heap_number (fun vs H Q E h => ?_) (fun cdv A outer s H vs Q E hr h => ?_)
  · unfold sp_Heap_number at h
    split at h
    · rfl
    · exact h.elim
  unfold sp_Heap_number at h
  split at h
  rotate_left
  · exact h.elim
  refine ⟨_, (pss_one (ps_ret (pe_meth (mv 0) T.cl_Heap T.me_Heap_made G_Heap_made (hr.mono (by first | decide | omega)) T.b_Heap_made .nil pass0 (pa_con (pe_tup (pa_con pe_str (pa_con (mv 1) pa_nil))) pa_nil)))), ?_⟩
  rename_i x n
  obtain ⟨pb, pt, bs, tr, w0, hl, q⟩ := h
  obtain ⟨dx, ho⟩ := w0.ob
  walk_at "stp"
  refine ⟨x, dx, _, rfl, ho, fs_no, ?_⟩
  walk_at "stp"
  refine ⟨ln (by show 2 ≤ 100000; decide), fun p1 hp1 => ?_⟩
  have sp1 : Same H (upd H p1 (.tup [.str (Str.ofString "num"), .int n])) := same_new hp1 _
  have kp1 : (upd H p1 (.tup [.str (Str.ofString "num"), .int n])) p1 = some (.tup [.str (Str.ofString "num"), .int n]) := upd_same
  generalize upd H p1 (.tup [.str (Str.ofString "num"), .int n]) = H1 at sp1 kp1 ⊢
  walk_at "stp"
  have w1 := w0.same sp1
  obtain ⟨dx, ho⟩ := w1.ob
  obtain ⟨us, hb, hd⟩ := w1.bx
  obtain ⟨w2, f2⟩ := w1.upB (vs := us ++ [.ref p1]) (bs' := bs ++ [.num n]) (by rw [List.map_append]; exact hd.append (.cons (.tup (SqT.of kp1) (.cons (.str _) (.cons (.int _) .nil))) .nil))
  have e := den_size hd
  refine ⟨dx, pb, pt, us, ho, hb, by omega, ?_⟩
  rw [e]
  exact q _ ((HFr.of sp1).trans f2) w2
theorem ok_Heap_app (T : Txt K mg t) (G_Heap_made : FnOk P w K mg base CX0 1 t.a_Heap_made t.d_Heap_made ["self", "box"] (sp_Heap_made K t.k_Heap)) : FnOk P w K mg base CX0 2 t.a_Heap_app t.d_Heap_app ["self", "sign", "kids"] (sp_Heap_app K t.k_Heap) := by
  refine T.F_Heap_app.ok sc_Heap_app (fun vs H Q E h => ?_) (fun cdv A outer s H vs Q E hr h => ?_)
  · unfold sp_Heap_app at h
    split at h
    · rfl
    · exact h.elim
  unfold sp_Heap_app at h
  split at h
  rotate_left
  · exact h.elim
  refine ⟨_, (pss_one (ps_ret (pe_meth (mv 0) T.cl_Heap T.me_Heap_made G_Heap_made (hr.mono (by first | decide | omega)) T.b_Heap_made .nil pass0 (pa_con (pe_tup (pa_con pe_str (pa_con (mv 1) (pa_con (pe_callTy (kc_tuple K rfl) rfl T.n_tuple boot_tuple (pa_con (mv 2) pa_nil)) pa_nil)))) pa_nil)))), ?_⟩
  rename_i x s p
  obtain ⟨pb, pt, bs, tr, ks, w0, hl, hk, hS, q⟩ := h
  obtain ⟨dx, ho⟩ := w0.ob
  walk_at "stp"
  refine ⟨x, dx, _, rfl, ho, fs_no, ?_⟩
  walk_at "stp"
  refine mTup_l hS (fun p1 hp1 => ?_)
  have s1 := same_new hp1 (.tup (nsV ks))
  have k1 : (upd H p1 (.tup (nsV ks))) p1 = some (.tup (nsV ks)) := upd_same
  generalize upd H p1 (.tup (nsV ks)) = H1 at s1 k1 ⊢
  walk_at "stp"
  refine ⟨ln (by show 3 ≤ 100000; decide), fun p2 hp2 => ?_⟩
  have sp2 : Same H1 (upd H1 p2 (.tup [.str (Str.ofString "app"), .str s, .ref p1])) := same_new hp2 _
  have kp2 : (upd H1 p2 (.tup [.str (Str.ofString "app"), .str s, .ref p1])) p2 = some (.tup [.str (Str.ofString "app"), .str s, .ref p1]) := upd_same
  generalize upd H1 p2 (.tup [.str (Str.ofString "app"), .str s, .ref p1]) = H2 at sp2 kp2 ⊢
  walk_at "stp"
  have w1 := (w0.same s1).same sp2
  obtain ⟨dx, ho⟩ := w1.ob
  obtain ⟨us, hb, hd⟩ := w1.bx
  obtain ⟨w2, f2⟩ := w1.upB (vs := us ++ [.ref p2]) (bs' := bs ++ [.app s ks]) (by rw [List.map_append]; exact hd.append (.cons (.tup (SqT.of kp2) (.cons (.str _) (.cons (.str _) (.cons (.tup (SqT.of (sp2 _ _ k1)) (ns_den ks)) .nil)))) .nil))
  have e := den_size hd
  refine ⟨dx, pb, pt, us, ho, hb, by omega, ?_⟩
  rw [e]
  exact q _ ((HFr.of (s1.trans sp2)).trans f2) w2
theorem ok_Heap_end_of (T : Txt K mg t)  : FnOk P w K mg base CX0 1 t.a_Heap_end_of t.d_Heap_end_of ["self", "at"] (sp_Heap_end_of K t.k_Heap) := by
  refine T.F_Heap_end_of.ok sc_Heap_end_of (fun vs H Q E h => ?_) (fun cdv A outer s H vs Q E hr h => ?_)
  · unfold sp_Heap_end_of at h
    split at h
    · rfl
    · exact h.elim
  unfold sp_Heap_end_of at h
  split at h
  rotate_left
  · exact h.elim
  refine ⟨_, (pss_cons (ps_set (i := 2) sc_Heap_end_of.nd rfl (by first | exact Or.inl rfl | exact Or.inr rfl) (mv 1)) (pss_cons (ps_while PassesOwn.never (mt_cmp mo_eq (pe_ix (ki_seq K rfl) (pe_ix (ki_seq K rfl) (pe_fld (mv 0) rfl) (mv 2) (fun _ _ => rfl)) pe_int (fun _ _ => rfl)) pe_str (nomark _)) (pss_one (ps_set (i := 2) (hs := sw_sub) sc_Heap_end_of.nd rfl (by first | exact Or.inl rfl | exact Or.inr rfl) (pe_ix (ki_seq K rfl) (pe_ix (ki_seq K rfl) (pe_fld (mv 0) rfl) (mv 2) (fun _ _ => rfl)) pe_int (fun _ _ => rfl))))) (pss_one (ps_ret (mv 2))))), ?_⟩
  rename_i x a
  obtain ⟨pb, pt, bs, tr, n, e0, w1, wf, rfl, he, q⟩ := h
  obtain ⟨dx, ho⟩ := w1.ob
  obtain ⟨us, hb, hd⟩ := w1.bx
  obtain ⟨rk, hr'⟩ := wf.acy
  walk_at "stp"
  refine while_row (fun m σ' H' => ∃ i : Nat, σ' = [some (.ref x), some (.int (n : Int)), some (.int (i : Int))] ∧ H' = H ∧ End bs i e0 ∧ m = rk i) (rk n) ⟨n, rfl, rfl, he, rfl⟩ (fun m σ' H' R hP kT kF => ?_)
  obtain ⟨i, rfl, rfl, hi, rfl⟩ := hP
  obtain ⟨bi, hbi⟩ : ∃ b, bs[i]? = some b := by cases hi with | here e _ => exact ⟨_, e⟩ | step e _ => exact ⟨_, e⟩
  obtain ⟨u, e1, e2, e3⟩ := den_at hd hbi
  obtain ⟨a, us', rfl, hs, _⟩ := den_kind e3
  walk_at "stp"
  refine ⟨x, _, dx, _, _, rfl, ho, T.cl_Heap, T.no_Heap_boxes, fs_boxes _ _, ?_⟩
  walk_at "stp"
  refine mIx_l (SqL.of hb) e2 ?_
  walk_at "stp"
  refine mIx_t hs (v := .str bi.kind) atI0 ?_
  walk_at "stp"
  rw [kind_to]
  cases hi with
  | here e nt =>
    rw [hbi] at e
    cases e
    rw [(End.here hbi nt).box hbi]
    refine kF _ ?_
    walk_at "stp"
    exact q
  | @step _ j _ e hj =>
    rw [hbi] at e
    cases e
    refine kT _ (fun D' e4 e5 hnx hct => ?_)
    obtain ⟨a', ea, hs'⟩ := den_2 (s := toS) (n := (j : Int)) e3
    cases ea
    walk_at "stp"
    refine ⟨x, _, dx, _, _, rfl, ho, T.cl_Heap, T.no_Heap_boxes, fs_boxes _ _, ?_⟩
    walk_at "stp"
    refine mIx_l (SqL.of hb) e2 ?_
    walk_at "stp"
    refine mIx_t hs' (v := .int (j : Int)) rfl ?_
    walk_at "stp"
    exact hnx _ _ (rk j) (hr' _ _ (Ed.to hbi)) ⟨j, rfl, rfl, hj, rfl⟩
theorem ok_Heap_look (T : Txt K mg t) (G_Heap_end_of : FnOk P w K mg base CX0 1 t.a_Heap_end_of t.d_Heap_end_of ["self", "at"] (sp_Heap_end_of K t.k_Heap)) : FnOk P w K mg base CX0 2 t.a_Heap_look t.d_Heap_look ["self", "at"] (sp_Heap_look K t.k_Heap) := by
  refine T.F_Heap_look.ok sc_Heap_look (fun vs H Q E h => ?_) (fun cdv A outer s H vs Q E hr h => ?_)
  · unfold sp_Heap_look at h
    split at h
    · rfl
    · exact h.elim
  unfold sp_Heap_look at h
  split at h
  rotate_left
  · exact h.elim
  refine ⟨_, (pss_cons (ps_set (i := 2) (hs := sw_call) sc_Heap_look.nd rfl (by first | exact Or.inl rfl | exact Or.inr rfl) (pe_meth (mv 0) T.cl_Heap T.me_Heap_end_of G_Heap_end_of (hr.mono (by first | decide | omega)) T.b_Heap_end_of .nil pass0 (pa_con (mv 1) pa_nil))) (pss_one (ps_ret (pe_ifExp (mt_cmp (ko_eq1S K rfl (room150 hr)) (pe_ix (ki_seq K rfl) (pe_fld (mv 0) rfl) (mv 2) (fun _ _ => rfl)) (pe_glob (v := .ref t.c_FREE) rfl T.m_FREE rfl) (nomark _)) (pe_tup (pa_con pe_str (pa_con (mv 2) pa_nil))) (pe_ix (ki_seq K rfl) (pe_fld (mv 0) rfl) (mv 2) (fun _ _ => rfl)))))), ?_⟩
  rename_i x a
  obtain ⟨pb, pt, bs, tr, n, e0, b, w1, wf, rfl, he, hn, q⟩ := h
  obtain ⟨dx, ho⟩ := w1.ob
  obtain ⟨us, hb, hd⟩ := w1.bx
  obtain ⟨u, e1, e2, e3⟩ := den_at hd hn
  obtain ⟨a, us', rfl, hs, e5⟩ := den_kind e3
  walk_at "stp"
  refine ⟨x, dx, _, rfl, ho, fs_no, ?_⟩
  walk_at "stp"
  refine ⟨pb, pt, bs, tr, n, e0, w1, wf, rfl, he, ?_⟩
  walk_at "stp"
  refine ⟨x, _, dx, _, _, rfl, ho, T.cl_Heap, T.no_Heap_boxes, fs_boxes _ _, ?_⟩
  walk_at "stp"
  refine mIx_l (SqL.of hb) e2 ?_
  walk_at "stp"
  refine mEq1S_i hs (T.q_FREE H) ?_
  rw [show (Str.ofString "free") = freeS from rfl, e5]
  cases b with
  | free =>
    walk_at "stp"
    refine iteT ?_
    walk_at "stp"
    refine ⟨ln (by show 2 ≤ 100000; decide), fun p1 hp1 => ?_⟩
    have sp1 : Same H (upd H p1 (.tup [.str (Str.ofString "free"), .int (e0 : Int)])) := same_new hp1 _
    have kp1 : (upd H p1 (.tup [.str (Str.ofString "free"), .int (e0 : Int)])) p1 = some (.tup [.str (Str.ofString "free"), .int (e0 : Int)]) := upd_same
    generalize upd H p1 (.tup [.str (Str.ofString "free"), .int (e0 : Int)]) = H1 at sp1 kp1 ⊢
    walk_at "stp"
    exact q _ _ sp1 (.tup (SqT.of kp1) (.cons (.str _) (.cons (.int _) .nil)))
  | num m =>
    walk_at "stp"
    refine iteF ?_
    walk_at "stp"
    refine ⟨x, _, dx, _, _, rfl, ho, T.cl_Heap, T.no_Heap_boxes, fs_boxes _ _, ?_⟩
    walk_at "stp"
    refine mIx_l (SqL.of hb) e2 ?_
    walk_at "stp"
    exact q _ _ (Same.refl _) e3
  | app s ks =>
    walk_at "stp"
    refine iteF ?_
    walk_at "stp"
    refine ⟨x, _, dx, _, _, rfl, ho, T.cl_Heap, T.no_Heap_boxes, fs_boxes _ _, ?_⟩
    walk_at "stp"
    refine mIx_l (SqL.of hb) e2 ?_
    walk_at "stp"
    exact q _ _ (Same.refl _) e3
  | to c =>
    walk_at "stp"
    refine iteF ?_
    walk_at "stp"
    refine ⟨x, _, dx, _, _, rfl, ho, T.cl_Heap, T.no_Heap_boxes, fs_boxes _ _, ?_⟩
    walk_at "stp"
    refine mIx_l (SqL.of hb) e2 ?_
    walk_at "stp"
    exact q _ _ (Same.refl _) e3
theorem ok_Heap_mark (T : Txt K mg t)  : FnOk P w K mg base CX0 1 t.a_Heap_mark t.d_Heap_mark ["self"] (sp_Heap_mark K t.k_Heap) := by
  refine T.F_Heap_mark.ok sc_Heap_mark (fun vs H Q E h => ?_) (fun cdv A outer s H vs Q E hr h => ?_)
  · unfold sp_Heap_mark at h
    split at h
    · rfl
    · exact h.elim
  unfold sp_Heap_mark at h
  split at h
  rotate_left
  · exact h.elim
  refine ⟨_, (pss_one (ps_ret (pe_tup (pa_con (pe_callB (kc_len K rfl) rfl T.n_len PySem.boot_len (pa_con (pe_fld (mv 0) rfl) pa_nil)) (pa_con (pe_callB (kc_len K rfl) rfl T.n_len PySem.boot_len (pa_con (pe_fld (mv 0) rfl) pa_nil)) pa_nil))))), ?_⟩
  rename_i x
  obtain ⟨pb, pt, bs, tr, w1, q⟩ := h
  obtain ⟨dx, ho⟩ := w1.ob
  obtain ⟨us, hb, hd⟩ := w1.bx
  walk_at "stp"
  refine ⟨x, _, dx, _, _, rfl, ho, T.cl_Heap, T.no_Heap_boxes, fs_boxes _ _, ?_⟩
  walk_at "stp"
  refine mLen_l (SqL.of hb) ?_
  rw [den_size hd]
  walk_at "stp"
  refine ⟨x, _, dx, _, _, rfl, ho, T.cl_Heap, T.no_Heap_trail, fs_trail _ _, ?_⟩
  walk_at "stp"
  refine mLen_l (SqL.of w1.trl) ?_
  rw [nsV, List.length_map]
  walk_at "stp"
  refine ⟨ln (by show 2 ≤ 100000; decide), fun p1 hp1 => ?_⟩
  have sp1 : Same H (upd H p1 (.tup [.int (bs.length : Int), .int (tr.length : Int)])) := same_new hp1 _
  have kp1 : (upd H p1 (.tup [.int (bs.length : Int), .int (tr.length : Int)])) p1 = some (.tup [.int (bs.length : Int), .int (tr.length : Int)]) := upd_same
  generalize upd H p1 (.tup [.int (bs.length : Int), .int (tr.length : Int)]) = H1 at sp1 kp1 ⊢
  walk_at "stp"
  exact q _ _ sp1 (SqT.of kp1)
end
theorem Rch.of_end {bs : Bs} {a k : Nat} (r : Rch bs k a) (ha : End bs a a) : ∀ {h : Nat}, End bs k h → Rch bs h a := by
  induction r with
  | refl a => intro h hk; rw [← ha.uniq hk]; exact .refl _
  | @head k y a e r ih =>
    intro h hk
    cases hk with
    | here e1 n => exact .head e r
    | step e1 h1 =>
      obtain ⟨u, e2, m⟩ := e
      rw [e1] at e2
      cases e2
      simp only [Bx.out, List.mem_singleton] at m
      subst m
      exact ih ha h1
theorem Rch.kid {bs : Bs} {h a : Nat} (r : Rch bs h a) (n : h ≠ a) : ∃ y, Ed bs h y ∧ Rch bs y a := by
  cases r with
  | refl => exact absurd rfl n
  | head e r => exact ⟨_, e, r⟩
theorem rch_in {bs : Bs} (w : Wf bs) {S : Nat → Prop} (hS : ∀ s, S s → ∀ y e, Ed bs s y → End bs y e → S e) {x a : Nat} (r : Rch bs x a) (ha : End bs a a) : ∀ {e : Nat}, End bs x e → S e → S a := by
  induction r with
  | refl a => intro e he h; rw [ha.uniq he]; exact h
  | @head x y a ed r ih =>
    intro e he h
    cases he with
    | here e1 n =>
      obtain ⟨e', h'⟩ := w.end_ (w.inn _ _ ed)
      exact ih ha h' (hS _ h _ _ ed h')
    | step e1 h1 =>
      obtain ⟨u, e2, m⟩ := ed
      rw [e1] at e2
      cases e2
      simp only [Bx.out, List.mem_singleton] at m
      subst m
      exact ih ha h1 h
noncomputable def wt (rk : Nat → Nat) (st : List Nat) : Nat := (st.map fun k => 4 ^ rk k).sum
theorem wt_pop {rk : Nat → Nat} {k : Nat} {st : List Nat} : wt rk st < wt rk (k :: st) := by
  have : 0 < 4 ^ rk k := Nat.pow_pos (by decide)
  unfold wt
  rw [List.map_cons, List.sum_cons]
  omega
structure Wk (bs : Bs) (rk : Nat → Nat) (b : Nat) (st : List Nat) : Prop where
  val : ∀ k ∈ st, k < bs.length
  rch : ∀ k ∈ st, Rch bs b k
  bd : Bd 256 (st.map rk)
theorem Wk.pop {bs : Bs} {rk : Nat → Nat} {b k : Nat} {st : List Nat} (w : Wk bs rk b (k :: st)) : Wk bs rk b st := ⟨fun x hx => w.val x (List.mem_cons_of_mem _ hx), fun x hx => w.rch x (List.mem_cons_of_mem _ hx), w.bd.2⟩
theorem Wk.len {bs : Bs} {rk : Nat → Nat} {b : Nat} {st : List Nat} (w : Wk bs rk b st) : st.length ≤ 256 := by have := w.bd.len; rwa [List.length_map] at this
theorem Wk.one {bs : Bs} {rk : Nat → Nat} {b : Nat} (h : b < bs.length) (hr : rk b ≤ 64) : Wk bs rk b [b] := ⟨fun x hx => by rw [List.mem_singleton.mp hx]; exact h, fun x hx => by rw [List.mem_singleton.mp hx]; exact .refl _, ⟨by show 0 + 1 + 3 * rk b ≤ 256; omega, trivial⟩⟩
theorem Wk.kids {bs : Bs} (wf : Wf bs) {rk : Nat → Nat} (hr : ∀ a b, Ed bs a b → rk b < rk a) {b k h : Nat} {st : List Nat} {s : Str} {ks : List Nat} (w : Wk bs rk b (k :: st)) (he : End bs k h) (e : bs[h]? = some (.app s ks)) : Wk bs rk b (ks.reverse ++ st) ∧ wt rk (ks.reverse ++ st) < wt rk (k :: st) := by
  have r1 := he.rch.rk hr
  have r2 : ∀ x ∈ ks, rk x < rk k := fun x hx => by have := hr _ _ (Ed.kid e hx); omega
  refine ⟨⟨fun x hx => ?_, fun x hx => ?_, ?_⟩, ?_⟩
  · rcases List.mem_append.mp hx with z | z
    · exact wf.inn _ _ (Ed.kid e (List.mem_reverse.mp z))
    · exact w.pop.val x z
  · rcases List.mem_append.mp hx with z | z
    · exact ((w.rch k (List.mem_cons_self ..)).trans he.rch).trans (.head (Ed.kid e (List.mem_reverse.mp z)) (.refl _))
    · exact w.pop.rch x z
  · rw [List.map_append]
    refine Bd.push w.bd (by rw [List.length_map, List.length_reverse]; exact wf.ar _ _ _ e) (fun y hy => ?_)
    obtain ⟨x, hx, rfl⟩ := List.mem_map.mp hy
    exact r2 x (List.mem_reverse.mp hx)
  · unfold wt
    rw [List.map_append, List.sum_append, List.map_cons, List.sum_cons]
    have := kids_lt (rk := rk) (R := rk k) (ks := ks.reverse) (fun x hx => r2 x (List.mem_reverse.mp hx)) (by rw [List.length_reverse]; exact wf.ar _ _ _ e)
    omega
theorem kids_of {bs : Bs} {h y : Nat} (hh : End bs h h) (e : Ed bs h y) : ∃ s ks, bs[h]? = some (.app s ks) ∧ y ∈ ks := by
  obtain ⟨u, e1, m⟩ := e
  obtain ⟨v, e2, n⟩ := hh.is
  rw [e1] at e2
  cases e2
  cases u with
  | app s ks => exact ⟨s, ks, e1, m⟩
  | to b => exact absurd rfl (n b)
  | free => cases m
  | num _ => cases m
noncomputable def sn (kvs : List (Key × V)) (n : Nat) : Bool := (valV kvs (Sum.inl (n : Int))).isSome
noncomputable def SnOk (kvs : List (Key × V)) : Prop := kvs.length + (List.range 64).countP (fun i => !sn kvs i) ≤ 64
theorem sn_put (kvs : List (Key × V)) (h n : Nat) (v : V) : sn (putK kvs (Sum.inl (h : Int)) v) n = (decide (n = h) || sn kvs n) := by
  unfold sn
  rw [valV_put]
  by_cases e : n = h
  · rw [if_pos (by rw [e]), decide_eq_true e]; rfl
  · rw [if_neg (fun z => e (by injection z with z; omega)), decide_eq_false e]; rfl
theorem SnOk.put {kvs : List (Key × V)} (k : SnOk kvs) {h : Nat} (hh : h < 64) (v : V) : SnOk (putK kvs (Sum.inl (h : Int)) v) := by
  unfold SnOk at k ⊢
  by_cases e : sn kvs h = true
  · have e2 : (putK kvs (Sum.inl (h : Int)) v).length = kvs.length := by
      unfold putK
      rw [valV_any, show (valV kvs (Sum.inl (h : Int))).isSome = true from e, if_pos rfl, List.length_map]
    rw [e2]
    have := cnt_le (l := List.range 64) (p := fun i => !sn (putK kvs (Sum.inl (h : Int)) v) i) (q := fun i => !sn kvs i) (fun x _ hx => by rw [sn_put] at hx; simp at hx ⊢; exact hx.2)
    omega
  · have e1 : sn kvs h = false := by simpa using e
    have e3 : valV kvs (Sum.inl (h : Int)) = none := by unfold sn at e1; simpa using e1
    rw [putK_new _ e3, List.length_append, List.length_singleton, ← putK_new v e3]
    have := cnt_lt (b := h) (l := List.range 64) (p := fun i => !sn (putK kvs (Sum.inl (h : Int)) v) i) (q := fun i => !sn kvs i) (by simp [e1]) (by rw [sn_put]; simp) (fun x _ hx => by rw [sn_put] at hx; simp at hx ⊢; exact hx.2) (by simpa using hh)
    omega
theorem SnOk.len {kvs : List (Key × V)} (k : SnOk kvs) : kvs.length ≤ 64 := by unfold SnOk at k; omega
theorem SnOk.nil : SnOk [] := by
  have := List.countP_le_length (p := fun i => !sn [] i) (l := List.range 64)
  unfold SnOk
  rw [List.length_range] at this
  exact Nat.le_trans (Nat.le_of_eq (Nat.zero_add _)) this
theorem stp_l {bs : Bs} {a b : Nat} (ha : bs[a]? = some .free) (hn : a ≠ b) : (Rch bs b a → stp bs a b = none) ∧ (¬ Rch bs b a → stp bs a b = some (bs.set a (.to b), [])) := by
  unfold stp
  rw [ha]
  refine ⟨fun h => ?_, fun h => ?_⟩
  · simp only; rw [if_neg hn, if_pos h]
  · simp only; rw [if_neg hn, if_neg h]
theorem stp_r {bs : Bs} {a b : Nat} {u : Bx} (ha : bs[a]? = some u) (hu : u.isFree = false) (hb : bs[b]? = some .free) : (Rch bs a b → stp bs a b = none) ∧ (¬ Rch bs a b → stp bs a b = some (bs.set b (.to a), [])) := by
  unfold stp
  rw [ha, hb]
  cases u with
  | free => cases hu
  | _ => exact ⟨fun h => by simp only; rw [if_pos h], fun h => by simp only; rw [if_neg h]⟩
noncomputable def Bx.kz : Bx → Bx → List (Nat × Nat)
  | .app _ ks, .app _ ls => ks.zip ls
  | _, _ => []
theorem stp_k {bs : Bs} {a b : Nat} {u v : Bx} (ha : bs[a]? = some u) (hb : bs[b]? = some v) (hu : u.isFree = false) (hv : v.isFree = false) (tu : u.isTo = false) (tv : v.isTo = false) : (u.key ≠ v.key → stp bs a b = none) ∧ (u.key = v.key → stp bs a b = some (bs, u.kz v)) := by
  unfold stp
  rw [ha, hb]
  cases u <;> cases v <;> first | (cases hu; done) | (cases hv; done) | (cases tu; done) | (cases tv; done) | skip
  · rename_i n m
    refine ⟨fun h => if_neg fun z => h (by rw [z]), fun h => ?_⟩
    simp only [Bx.key, List.cons.injEq, Sum.inl.injEq] at h
    simp only
    rw [if_pos h.2.1]; rfl
  · refine ⟨fun _ => rfl, fun h => ?_⟩
    simp [Bx.key] at h
  · refine ⟨fun _ => rfl, fun h => ?_⟩
    simp [Bx.key] at h
  · rename_i s ks t ls
    refine ⟨fun h => if_neg fun z => h (by simp only [Bx.key]; rw [z.1, z.2]), fun h => ?_⟩
    simp only [Bx.key, List.cons.injEq, Sum.inl.injEq, Sum.inr.injEq] at h
    simp only
    rw [if_pos ⟨h.2.1, by omega⟩]; rfl
theorem ns_rev_cons (k : Nat) (st : List Nat) : nsV (k :: st).reverse = nsV st.reverse ++ [.int (k : Int)] := by rw [List.reverse_cons, nsV, List.map_append]; rfl
theorem ns_rev_app (ks st : List Nat) : nsV (ks.reverse ++ st).reverse = nsV st.reverse ++ nsV ks := by rw [List.reverse_append, List.reverse_reverse, nsV, List.map_append]
theorem ns_len (ks : List Nat) : (nsV ks).length = ks.length := by rw [nsV, List.length_map]
section
variable {P : Program} {w : World} {K : PySem.W.Frag} {mg : Str → Option Value} {base : Heap} {t : Ad}
theorem ok_Heap_stands_within (T : Txt K mg t) (G_Heap_end_of : FnOk P w K mg base CX0 1 t.a_Heap_end_of t.d_Heap_end_of ["self", "at"] (sp_Heap_end_of K t.k_Heap)) : FnOk P w K mg base CX0 2 t.a_Heap_stands_within t.d_Heap_stands_within ["self", "at", "other"] (sp_Heap_stands_within K t.k_Heap) := by
  refine T.F_Heap_stands_within.ok sc_Heap_stands_within (fun vs H Q E h => ?_) (fun cdv A outer s H vs Q E hr h => ?_)
  · unfold sp_Heap_stands_within at h
    split at h
    · rfl
    · exact h.elim
  unfold sp_Heap_stands_within at h
  split at h
  rotate_left
  · exact h.elim
  refine ⟨_, (pss_cons (ps_set (i := 3) sc_Heap_stands_within.nd rfl (by first | exact Or.inl rfl | exact Or.inr rfl) pe_dnewK) (pss_cons (ps_set (i := 4) (hs := sw_lst) sc_Heap_stands_within.nd rfl (by first | exact Or.inl rfl | exact Or.inr rfl) (pe_lst (pa_con (mv 2) pa_nil))) (pss_cons (ps_while PassesOwn.never (kt_tru K rfl (mv 4)) (pss_cons (ps_set (i := 5) (hs := sw_call) sc_Heap_stands_within.nd rfl (by first | exact Or.inl rfl | exact Or.inr rfl) (pe_meth (mv 0) T.cl_Heap T.me_Heap_end_of G_Heap_end_of (hr.mono (by first | decide | omega)) T.b_Heap_end_of .nil pass0 (pa_con (ke_bm0 K rfl PySem.F.plainAttrs_list PySem.F.slot_list_pop PySem.F.type_list_pop mm_pop (mv 4)) pa_nil))) (pss_cons (ps_if (mt_cmp mo_eq (mv 5) (mv 1) (nomark _)) (pss_one (ps_ret pe_bl)) pss_nil) (pss_cons (ps_if (PW.pt (pw_and (mt_cmp (ko_ninD (hu_of hr)) (mv 5) (mv 3) (by with_unfolding_all rfl)) (pw_and1 (mt_cmp mo_eq (pe_ix (ki_seq K rfl) (pe_ix (ki_seq K rfl) (pe_fld (mv 0) rfl) (mv 5) (fun _ _ => rfl)) pe_int (fun _ _ => rfl)) pe_str (nomark _))))) (pss_one (ps_expr (ke_bm K rfl PySem.F.plainAttrs_list PySem.F.slot_list_extend PySem.F.type_list_extend (km_extend K rfl) (mv 4) (pa_con (pe_ix (ki_seq K rfl) (pe_ix (ki_seq K rfl) (pe_fld (mv 0) rfl) (mv 5) (fun _ _ => rfl)) pe_int (fun _ _ => rfl)) pa_nil)))) pss_nil) (pss_one (ps_dput (hu_of hr) (mv 3) (mv 5) pe_bl rfl)))))) (pss_one (ps_ret pe_bl))))), ?_⟩
  rename_i x a0 b0
  obtain ⟨pb, pt, bs, tr, a, b, w1, hl, wf, rfl, rfl, ha, hb0, q⟩ := h
  obtain ⟨rk, hr1, hr2⟩ := wf.rank
  walk_at "stp"
  intro ps hps
  have s1 : Same H (upd H ps (.dK [])) := same_new hps _
  have k1 : (upd H ps (.dK [])) ps = some (.dK []) := upd_same
  generalize upd H ps (.dK []) = H1 at s1 k1 ⊢
  walk_at "stp"
  refine ⟨ln (by show 1 ≤ 100000; decide), fun p hp => ?_⟩
  have sp : Same H1 (upd H1 p (.lst [.int (b : Int)])) := same_new hp _
  have kp : (upd H1 p (.lst [.int (b : Int)])) p = some (.lst [.int (b : Int)]) := upd_same
  generalize upd H1 p (.lst [.int (b : Int)]) = H2 at sp kp ⊢
  walk_at "stp"
  have nps : ps ≠ p := fun z => by rw [← z, k1] at hp; cases hp
  have hp0 : H p = none := s1.free hp
  refine while_row (fun m σ' H' => ∃ (st : List Nat) (kvs : List (Key × V)) (o : Option V), σ' = [some (.ref x), some (.int (a : Int)), some (.int (b : Int)), some (.ref ps), some (.ref p), o] ∧ H' p = some (.lst (nsV st.reverse)) ∧ H' ps = some (.dK kvs) ∧ Wk bs rk b st ∧ SnOk kvs ∧ (∀ s, sn kvs s = true → s ≠ a ∧ ∀ y e, Ed bs s y → End bs y e → sn kvs e = true ∨ y ∈ st) ∧ (∀ e, End bs b e → sn kvs e = true ∨ b ∈ st) ∧ Same H H' ∧ m = wt rk st) (wt rk [b]) ⟨[b], [], none, rfl, kp, sp _ _ k1, Wk.one hb0 (Nat.le_trans (hr1 b) hl), SnOk.nil, fun s hs => (by cases hs), fun e _ => .inr (by simp), s1.trans sp, rfl⟩ (fun m σ' H' R hP kT kF => ?_)
  obtain ⟨st, kvs, o, rfl, h1, h2, h3, h4, h5, h6, h7, h8⟩ := hP
  walk_at "stp"
  refine .inl ⟨_, SqL.of h1, ?_⟩
  cases st with
  | nil =>
    refine kF H' ?_
    walk_at "stp"
    refine q false H' h7 ⟨fun z => (by cases z), fun z => ?_⟩
    obtain ⟨eb, he⟩ := wf.end_ hb0
    have hsb : sn kvs eb = true := (h6 eb he).resolve_right (by simp)
    exact absurd rfl (h5 a (rch_in wf (S := fun n => sn kvs n = true) (fun s hs y e h1 h2 => ((h5 s hs).2 y e h1 h2).resolve_right (by simp)) z ha he hsb)).1
  | cons k st =>
    rw [ns_rev_cons] at h1 ⊢
    rw [show (!(nsV st.reverse ++ [V.int (k : Int)]).isEmpty) = true by simp]
    refine kT H' (fun D' e4 e5 hnx hct => ?_)
    obtain ⟨hd, hk⟩ := wf.end_ (h3.val k (List.mem_cons_self ..))
    obtain ⟨dx, ho⟩ := (w1.same h7).ob
    have hd64 : hd < 64 := Nat.lt_of_lt_of_le hk.lt hl
    walk_at "stp"
    refine ⟨x, dx, _, rfl, ho, fs_no, ?_⟩
    walk_at "stp"
    refine ⟨.inl ⟨rfl, _, SqL.of h1⟩, ?_⟩
    refine mPop_i h1 ?_
    have f5 : Same H (upd H' p (.lst (nsV st.reverse))) := same_upd h7 hp0
    have k5 : (upd H' p (.lst (nsV st.reverse))) p = some (.lst (nsV st.reverse)) := upd_same
    have k6 : (upd H' p (.lst (nsV st.reverse))) ps = some (.dK kvs) := by rw [upd_ne nps]; exact h2
    generalize upd H' p (.lst (nsV st.reverse)) = J at f5 k5 k6 ⊢
    have wJ := w1.same f5
    obtain ⟨dx, ho⟩ := wJ.ob
    obtain ⟨us, hb, hdl⟩ := wJ.bx
    walk_at "stp"
    refine ⟨pb, pt, bs, tr, k, hd, wJ, wf, rfl, hk, ?_⟩
    walk_at "stp"
    refine iteB (fun e => ?_) (fun e => ?_)
    · have e : (hd : Int) = (a : Int) := by simpa using e
      have e : hd = a := by omega
      subst e
      walk_at "stp"
      rw [e4]
      exact q true J f5 ⟨fun _ => (h3.rch k (List.mem_cons_self ..)).trans hk.rch, fun _ => rfl⟩
    have hda : hd ≠ a := fun z => by rw [z] at e; simp at e
    have fin : ∀ (st2 : List Nat) (J2 : Hp), Same H J2 → J2 p = some (.lst (nsV st2.reverse)) → J2 ps = some (.dK kvs) → Wk bs rk b st2 → wt rk st2 < wt rk (k :: st) → (∀ y ∈ st, y ∈ st2) → (∀ y, Ed bs hd y → sn kvs hd = true ∨ y ∈ st2) → D'.nx [some (.ref x), some (.int (a : Int)), some (.int (b : Int)), some (.ref ps), some (.ref p), some (.int (hd : Int))] (upd J2 ps (.dK (putK kvs (Sum.inl (hd : Int)) (.bl true)))) := fun st2 J2 g1 g2 g3 g4 g5 g6 g7 => by
      refine hnx _ _ (wt rk st2) (by rw [h8]; exact g5) ⟨st2, _, _, rfl, by rw [upd_ne (Ne.symm nps)]; exact g2, upd_same, g4, h4.put hd64 _, fun s hs => ?_, fun e he => ?_, same_upd g1 hps, rfl⟩
      · rw [sn_put] at hs
        have old : ∀ s, sn kvs s = true → ∀ y e, Ed bs s y → End bs y e → sn (putK kvs (Sum.inl (hd : Int)) (.bl true)) e = true ∨ y ∈ st2 := fun s hs y e hy he => by
          rcases (h5 s hs).2 y e hy he with z | z
          · exact .inl (by rw [sn_put, z, Bool.or_true])
          · rcases List.mem_cons.mp z with rfl | z
            · exact .inl (by rw [sn_put, he.uniq hk]; simp)
            · exact .inr (g6 y z)
        by_cases z : sn kvs s = true
        · exact ⟨(h5 s z).1, old s z⟩
        · have zs : s = hd := by simpa [z] using hs
          subst zs
          exact ⟨hda, fun y e hy he => .inr ((g7 y hy).resolve_left z)⟩
      · rcases h6 e he with z | z
        · exact .inl (by rw [sn_put, z, Bool.or_true])
        · rcases List.mem_cons.mp z with z | z
          · subst z
            exact .inl (by rw [sn_put, he.uniq hk]; simp)
          · exact .inr (g6 _ z)
    have hput : kvs.length < sizeLine := ln1 (by have := h4.len; omega)
    have skip : (∀ y, Ed bs hd y → sn kvs hd = true ∨ y ∈ st) → D'.nx [some (.ref x), some (.int (a : Int)), some (.int (b : Int)), some (.ref ps), some (.ref p), some (.int (hd : Int))] (upd J ps (.dK (putK kvs (Sum.inl (hd : Int)) (.bl true)))) := fun g7 => fin st J f5 k5 k6 h3.pop wt_pop (fun y hy => hy) g7
    walk_at "stp"
    refine ⟨ps, _, rfl, DGet.k (k := Sum.inl (hd : Int)) k6, ?_⟩
    walk_at "stp"
    refine iteB (fun e1 => ?_) (fun e1 => ?_)
    · obtain ⟨bi, hbi⟩ := hk.is
      obtain ⟨u, e2, e3, e6⟩ := den_at hdl hbi.1
      obtain ⟨aa, us', rfl, hs, _⟩ := den_kind e6
      walk_at "stp"
      refine ⟨x, _, dx, _, _, rfl, ho, T.cl_Heap, T.no_Heap_boxes, fs_boxes _ _, ?_⟩
      walk_at "stp"
      refine mIx_l (SqL.of hb) e3 ?_
      walk_at "stp"
      refine mIx_t hs (v := .str bi.kind) atI0 ?_
      walk_at "stp"
      rw [kind_app]
      cases hbk : bi with
      | app s ks =>
        subst hbk
        obtain ⟨a', b', ea, hs', hs2⟩ := den_bapp (s := s) (ks := ks) e6
        cases ea
        obtain ⟨g1, g2⟩ := h3.kids wf hr2 hk hbi.1
        have lz := h3.pop.len
        have lk := wf.ar _ _ _ hbi.1
        refine iteT ?_
        walk_at "stp"
        refine ⟨.inl ⟨rfl, _, SqL.of k5⟩, ?_⟩
        walk_at "stp"
        refine ⟨x, _, dx, _, _, rfl, ho, T.cl_Heap, T.no_Heap_boxes, fs_boxes _ _, ?_⟩
        walk_at "stp"
        refine mIx_l (SqL.of hb) e3 ?_
        walk_at "stp"
        refine mIx_t hs' (v := .ref b') rfl ?_
        walk_at "stp"
        refine mExt_t k5 hs2 (ln (by rw [ns_len, ns_len, List.length_reverse]; omega)) ?_
        rw [← ns_rev_app]
        have f8 : Same H (upd J p (.lst (nsV (ks.reverse ++ st).reverse))) := same_upd f5 hp0
        have k8 : (upd J p (.lst (nsV (ks.reverse ++ st).reverse))) p = some (.lst (nsV (ks.reverse ++ st).reverse)) := upd_same
        have k9 : (upd J p (.lst (nsV (ks.reverse ++ st).reverse))) ps = some (.dK kvs) := by rw [upd_ne nps]; exact k6
        generalize upd J p (.lst (nsV (ks.reverse ++ st).reverse)) = J2 at f8 k8 k9 ⊢
        walk_at "stp"
        refine ⟨ps, _, rfl, DPut.k (k := Sum.inl (hd : Int)) k9 hput, ?_⟩
        exact fin _ J2 f8 k8 k9 g1 g2 (fun y hy => List.mem_append_right _ hy) (fun y hy => by
          obtain ⟨s', ks', e7, e8⟩ := kids_of hk.self hy
          rw [hbi.1] at e7
          cases e7
          exact .inr (List.mem_append_left _ (List.mem_reverse.mpr e8)))
      | _ =>
        subst hbk
        refine iteF ?_
        walk_at "stp"
        refine ⟨ps, _, rfl, DPut.k (k := Sum.inl (hd : Int)) k6 hput, ?_⟩
        exact skip (fun y hy => by
          obtain ⟨s', ks', e7, e8⟩ := kids_of hk.self hy
          rw [hbi.1] at e7
          cases e7)
    · walk_at "stp"
      refine ⟨ps, _, rfl, DPut.k (k := Sum.inl (hd : Int)) k6 hput, ?_⟩
      refine skip (fun y hy => .inl ?_)
      unfold sn
      simpa using e1
end
section
variable {P : Program} {w : World} {K : PySem.W.Frag} {mg : Str → Option Value} {base : Heap} {t : Ad}
theorem ixN_nat {n a : Nat} (h : a < n) : ixN n (a : Int) = some a := by
  unfold ixN
  rw [if_pos (by omega), if_pos (by omega)]
  rfl
theorem denL_split {K : PySem.W.Frag} {H : Hp} : ∀ {us : List V} {ds es : List PyData}, DenL K H us (ds ++ es) → ∃ u1 u2, us = u1 ++ u2 ∧ DenL K H u1 ds ∧ DenL K H u2 es
  | us, [], es, h => ⟨[], us, rfl, .nil, h⟩
  | us, d :: ds, es, h => by
    cases h with
    | cons h1 r =>
      obtain ⟨u1, u2, rfl, a, b⟩ := denL_split r
      exact ⟨_ :: u1, u2, rfl, .cons h1 a, b⟩
theorem pairs_den {K : PySem.W.Frag} {H : Hp} : ∀ {ks ls : List Nat} {qs : List Addr}, ls.length = ks.length → qs.length = ks.length → PairsOf H qs (nsV ks) (nsV ls) → DenL K H (qs.map V.ref) ((ks.zip ls).map prD)
  | [], ls, qs, h1, h2, _ => by
    have : qs = [] := List.length_eq_zero_iff.mp h2
    subst this
    exact .nil
  | k :: ks, [], qs, h1, _, _ => by cases h1
  | k :: ks, l :: ls, [], _, h2, _ => by cases h2
  | k :: ks, l :: ls, q :: qs, h1, h2, hp => by
    refine .cons (.tup (SqT.of (hp 0 q (.int k) (.int l) rfl rfl rfl)) (.cons (.int _) (.cons (.int _) .nil))) ?_
    exact pairs_den (by simpa using h1) (by simpa using h2) fun j q x y e1 e2 e3 => hp (j + 1) q x y (by simpa using e1) (by simpa using e2) (by simpa using e3)
theorem den_set {K : PySem.W.Frag} {H : Hp} {v : V} {d : PyData} (hv : Den K H v d) : ∀ {us : List V} {ds : List PyData} {a : Nat}, DenL K H us ds → DenL K H (us.set a v) (ds.set a d)
  | _, _, a, .nil => .nil
  | _, _, 0, .cons h1 r => .cons hv r
  | _, _, a + 1, .cons h1 r => .cons h1 (den_set hv r)
theorem ok_Heap_bind (T : Txt K mg t) (G_Heap_stands_within : FnOk P w K mg base CX0 2 t.a_Heap_stands_within t.d_Heap_stands_within ["self", "at", "other"] (sp_Heap_stands_within K t.k_Heap)) : FnOk P w K mg base CX0 3 t.a_Heap_bind t.d_Heap_bind ["self", "at", "other"] (sp_Heap_bind K t.k_Heap) := by
  refine T.F_Heap_bind.ok sc_Heap_bind (fun vs H Q E h => ?_) (fun cdv A outer s H vs Q E hr h => ?_)
  · unfold sp_Heap_bind at h
    split at h
    · rfl
    · exact h.elim
  unfold sp_Heap_bind at h
  split at h
  rotate_left
  · exact h.elim
  refine ⟨_, (pss_cons (ps_if (kt_tru K rfl (pe_meth (mv 0) T.cl_Heap T.me_Heap_stands_within G_Heap_stands_within (hr.mono (by first | decide | omega)) T.b_Heap_stands_within .nil pass0 (pa_con (mv 1) (pa_con (mv 2) pa_nil)))) (pss_one (ps_ret pe_non)) pss_nil) (pss_cons (ps_asg (pe_tup (pa_con pe_str (pa_con (mv 2) pa_nil))) (pg_sub (pe_fld (mv 0) rfl) (mv 1) set_list)) (pss_cons (ps_expr (ke_bm K rfl PySem.F.plainAttrs_list PySem.F.slot_list_append PySem.F.type_list_append mm_append (pe_fld (mv 0) rfl) (pa_con (mv 1) pa_nil))) (pss_one (ps_ret (pe_lst pa_nil)))))), ?_⟩
  rename_i x a0 b0
  obtain ⟨pb, pt, bs, tr, a, b, w1, hl, wf, rfl, rfl, ha, hb0, htr, q1, q2⟩ := h
  obtain ⟨dx, ho⟩ := w1.ob
  have hal := (List.getElem?_eq_some_iff.mp ha).1
  walk_at "stp"
  refine ⟨x, dx, _, rfl, ho, fs_no, ?_⟩
  walk_at "stp"
  refine ⟨pb, pt, bs, tr, a, b, w1, hl, wf, rfl, rfl, .here ha (fun c z => by cases z), hb0.lt, fun r H1 s1 hr' => ?_⟩
  walk_at "stp"
  cases r with
  | true =>
    refine iteT ?_
    walk_at "stp"
    exact q1 (hr'.mp rfl) H1 s1
  | false =>
    have hn : ¬ Rch bs b a := fun z => by have := hr'.mpr z; cases this
    refine iteF ?_
    walk_at "stp"
    refine ⟨ln (by show 2 ≤ 100000; decide), fun p2 hp2 => ?_⟩
    have sp2 : Same H1 (upd H1 p2 (.tup [.str (Str.ofString "to"), .int (b : Int)])) := same_new hp2 _
    have kp2 : (upd H1 p2 (.tup [.str (Str.ofString "to"), .int (b : Int)])) p2 = some (.tup [.str (Str.ofString "to"), .int (b : Int)]) := upd_same
    generalize upd H1 p2 (.tup [.str (Str.ofString "to"), .int (b : Int)]) = H2 at sp2 kp2 ⊢
    walk_at "stp"
    have w2 := w1.same (s1.trans sp2)
    obtain ⟨dx, ho⟩ := w2.ob
    obtain ⟨us, hb, hd⟩ := w2.bx
    walk_at "stp"
    refine ⟨x, _, dx, _, _, rfl, ho, T.cl_Heap, T.no_Heap_boxes, fs_boxes _ _, ?_⟩
    walk_at "stp"
    refine ⟨pb, us, (a : Int), a, rfl, rfl, hb, ixN_nat (by rw [den_size hd]; exact hal), ?_⟩
    obtain ⟨w3, f3⟩ := w2.upB (vs := us.set a (.ref p2)) (bs' := bs.set a (.to b)) (by rw [List.map_set]; exact den_set (.tup (SqT.of kp2) (.cons (.str _) (.cons (.int _) .nil))) hd)
    generalize upd H2 pb (.lst (us.set a (.ref p2))) = H3 at w3 f3 ⊢
    obtain ⟨dx, ho⟩ := w3.ob
    walk_at "stp"
    refine ⟨x, _, dx, _, _, rfl, ho, T.cl_Heap, T.no_Heap_trail, fs_trail _ _, ?_⟩
    refine ⟨.inl ⟨rfl, _, SqL.of w3.trl⟩, ?_⟩
    walk_at "stp"
    refine mAppend_i w3.trl (ln1 (by rw [ns_len]; omega)) ?_
    rw [show nsV tr ++ [V.int (a : Int)] = nsV (tr ++ [a]) by rw [nsV, nsV, List.map_append]; rfl]
    obtain ⟨w4, f4⟩ := w3.upT (tr' := tr ++ [a])
    generalize upd H3 pt (.lst (nsV (tr ++ [a]))) = H4 at w4 f4 ⊢
    walk_at "stp"
    refine ⟨ln (by show 0 ≤ 100000; decide), fun p5 hp5 => ?_⟩
    have sp5 : Same H4 (upd H4 p5 (.lst [])) := same_new hp5 _
    have kp5 : (upd H4 p5 (.lst [])) p5 = some (.lst []) := upd_same
    generalize upd H4 p5 (.lst []) = H5 at sp5 kp5 ⊢
    walk_at "stp"
    exact q2 hn p5 H5 ((((HFr.of (s1.trans sp2)).trans f3).trans f4).trans (HFr.of sp5)) (w4.same sp5) kp5
theorem ok_Heap_kids_of_one (T : Txt K mg t) (G_Heap_bind : FnOk P w K mg base CX0 3 t.a_Heap_bind t.d_Heap_bind ["self", "at", "other"] (sp_Heap_bind K t.k_Heap)) (G_key_of : FnOk P w K mg base CX0 1 t.a_key_of t.d_key_of ["term"] (sp_key_of K)) : FnOk P w K mg base CX0 4 t.a_Heap_kids_of_one t.d_Heap_kids_of_one ["self", "left", "right"] (sp_Heap_kids_of_one K t.k_Heap) := by
  refine T.F_Heap_kids_of_one.ok sc_Heap_kids_of_one (fun vs H Q E h => ?_) (fun cdv A outer s H vs Q E hr h => ?_)
  · unfold sp_Heap_kids_of_one at h
    split at h
    · rfl
    · exact h.elim
  unfold sp_Heap_kids_of_one at h
  split at h
  rotate_left
  · exact h.elim
  refine ⟨_, (pss_cons (ps_set (i := 3) (hs := sw_sub) sc_Heap_kids_of_one.nd rfl (by first | exact Or.inl rfl | exact Or.inr rfl) (pe_ix (ki_seq K rfl) (pe_fld (mv 0) rfl) (mv 1) (fun _ _ => rfl))) (pss_cons (ps_set (i := 4) (hs := sw_sub) sc_Heap_kids_of_one.nd rfl (by first | exact Or.inl rfl | exact Or.inr rfl) (pe_ix (ki_seq K rfl) (pe_fld (mv 0) rfl) (mv 2) (fun _ _ => rfl))) (pss_cons (ps_if (mt_cmp (ko_eq1S K rfl (room150 hr)) (mv 3) (pe_glob (v := .ref t.c_FREE) rfl T.m_FREE rfl) (nomark _)) (pss_one (ps_ret (pe_meth (mv 0) T.cl_Heap T.me_Heap_bind G_Heap_bind (hr.mono (by first | decide | omega)) T.b_Heap_bind .nil pass0 (pa_con (mv 1) (pa_con (mv 2) pa_nil))))) pss_nil) (pss_cons (ps_if (mt_cmp (ko_eq1S K rfl (room150 hr)) (mv 4) (pe_glob (v := .ref t.c_FREE) rfl T.m_FREE rfl) (nomark _)) (pss_one (ps_ret (pe_meth (mv 0) T.cl_Heap T.me_Heap_bind G_Heap_bind (hr.mono (by first | decide | omega)) T.b_Heap_bind .nil pass0 (pa_con (mv 2) (pa_con (mv 1) pa_nil))))) pss_nil) (pss_cons (ps_if (mt_cmp (ko_neKs K rfl (room150 hr)) (pe_call G_key_of (hr.mono (by first | decide | omega)) rfl T.m_key_of T.F_key_of.kp T.b_key_of .nil pass0 (pa_con (mv 3) pa_nil)) (pe_call G_key_of (hr.mono (by first | decide | omega)) rfl T.m_key_of T.F_key_of.kp T.b_key_of .nil pass0 (pa_con (mv 4) pa_nil)) (nomark _)) (pss_one (ps_ret pe_non)) pss_nil) (pss_one (ps_ret (pe_ifExp (mt_cmp mo_eq (pe_ix (ki_seq K rfl) (mv 3) pe_int (fun _ _ => rfl)) pe_str (nomark _)) (pe_listZip K rfl rfl rfl T.n_list rfl T.n_zip (pa_con (pe_ix (ki_seq K rfl) (mv 3) pe_int (fun _ _ => rfl)) (pa_con (pe_ix (ki_seq K rfl) (mv 4) pe_int (fun _ _ => rfl)) pa_nil))) (pe_lst pa_nil))))))))), ?_⟩
  rename_i x a0 b0
  obtain ⟨pb, pt, bs, tr, a, b, w1, hl, wf, rfl, rfl, ha, hb0, hab, htr, q1, q2⟩ := h
  obtain ⟨dx, ho⟩ := w1.ob
  obtain ⟨us, hb, hd⟩ := w1.bx
  obtain ⟨u, hu, nu⟩ := ha.is
  obtain ⟨v, hv, nv⟩ := hb0.is
  obtain ⟨au, e1, e2, e3⟩ := den_at hd hu
  obtain ⟨av, g1, g2, g3⟩ := den_at hd hv
  obtain ⟨au, us1, rfl, hs, e5⟩ := den_kind e3
  obtain ⟨av, us2, rfl, gs, g5⟩ := den_kind g3
  walk_at "stp"
  refine ⟨x, _, dx, _, _, rfl, ho, T.cl_Heap, T.no_Heap_boxes, fs_boxes _ _, ?_⟩
  walk_at "stp"
  refine mIx_l (SqL.of hb) e2 ?_
  walk_at "stp"
  refine ⟨x, _, dx, _, _, rfl, ho, T.cl_Heap, T.no_Heap_boxes, fs_boxes _ _, ?_⟩
  walk_at "stp"
  refine mIx_l (SqL.of hb) g2 ?_
  walk_at "stp"
  refine mEq1S_i hs (T.q_FREE H) ?_
  rw [show (Str.ofString "free") = freeS from rfl, e5]
  cases hfu : u.isFree with
  | true =>
    have hu2 : bs[a]? = some .free := by rw [hu]; cases u <;> first | rfl | cases hfu
    obtain ⟨l1, l2⟩ := stp_l hu2 hab
    walk_at "stp"
    refine iteT ?_
    walk_at "stp"
    refine ⟨x, dx, _, rfl, ho, fs_no, ?_⟩
    walk_at "stp"
    refine ⟨pb, pt, bs, tr, a, b, w1, hl, wf, rfl, rfl, hu2, hb0, htr, fun z H1 s1 => q1 (l1 z) H1 s1, fun z p H1 f1 w2 k1 => ?_⟩
    exact q2 _ _ (l2 z) p _ H1 f1 w2 (.inr ⟨a, b, hu2, rfl, rfl⟩) ⟨[], k1, .nil⟩
  | false =>
    walk_at "stp"
    refine iteF ?_
    walk_at "stp"
    refine mEq1S_i gs (T.q_FREE H) ?_
    rw [show (Str.ofString "free") = freeS from rfl, g5]
    cases hfv : v.isFree with
    | true =>
      have hv2 : bs[b]? = some .free := by rw [hv]; cases v <;> first | rfl | cases hfv
      obtain ⟨l1, l2⟩ := stp_r hu hfu hv2
      walk_at "stp"
      refine iteT ?_
      walk_at "stp"
      refine ⟨x, dx, _, rfl, ho, fs_no, ?_⟩
      walk_at "stp"
      refine ⟨pb, pt, bs, tr, b, a, w1, hl, wf, rfl, rfl, hv2, ha, htr, fun z H1 s1 => q1 (l1 z) H1 s1, fun z p H1 f1 w2 k1 => ?_⟩
      exact q2 _ _ (l2 z) p _ H1 f1 w2 (.inr ⟨b, a, hv2, rfl, rfl⟩) ⟨[], k1, .nil⟩
    | false =>
      have tu := ha.box hu
      have tv := hb0.box hv
      obtain ⟨l1, l2⟩ := stp_k hu hv hfu hfv tu tv
      walk_at "stp"
      refine iteF ?_
      walk_at "stp"
      refine ⟨u, e3, hfu, nu, fun s ks z => wf.ar _ _ _ (z ▸ hu), fun p1 H1 s1 k1 => ?_⟩
      walk_at "stp"
      refine ⟨v, g3.mono s1, hfv, nv, fun s ks z => wf.ar _ _ _ (z ▸ hv), fun p2 H2 s2 k2 => ?_⟩
      walk_at "stp"
      have s02 := s1.trans s2
      refine ⟨p1, u.key, rfl, s2.tup k1, .inr ⟨p2, v.key, rfl, k2, ?_⟩⟩
      walk_at "stp"
      refine iteB (fun e => ?_) (fun e => ?_)
      · walk_at "stp"
        exact q1 (l1 (by simpa using e)) H2 s02
      have e : u.key = v.key := by simpa using e
      have l3 := l2 e
      walk_at "stp"
      cases u with
      | free => cases hfu
      | to c => cases tu
      | num n =>
        obtain ⟨a', ea, hs'⟩ := den_2 (s := numS) (n := n) e3
        cases ea
        refine mIx_t (s02.tup hs') (v := .str numS) rfl ?_
        walk_at "stp"
        refine iteB (fun e => absurd e (by decide +kernel)) (fun _ => ?_)
        walk_at "stp"
        refine ⟨ln (by show 0 ≤ 100000; decide), fun p3 hp3 => ?_⟩
        have sp3 : Same H2 (upd H2 p3 (.lst [])) := same_new hp3 _
        have kp3 : (upd H2 p3 (.lst [])) p3 = some (.lst []) := upd_same
        generalize upd H2 p3 (.lst []) = H3 at sp3 kp3 ⊢
        walk_at "stp"
        exact q2 _ _ l3 p3 tr H3 (HFr.of (s02.trans sp3)) (w1.same (s02.trans sp3)) (.inl ⟨rfl, rfl⟩) ⟨[], kp3, .nil⟩
      | app s ks =>
        cases v with
        | app t' ls =>
          obtain ⟨a', b', ea, hs', hs2⟩ := den_bapp (s := s) (ks := ks) e3
          cases ea
          obtain ⟨a2, b2, ea2, gs', gs2⟩ := den_bapp (s := t') (ks := ls) g3
          cases ea2
          have hlen : ls.length = ks.length := by simp only [Bx.key, List.cons.injEq, Sum.inl.injEq] at e; omega
          refine mIx_t (s02.tup hs') (v := .str appS) rfl ?_
          walk_at "stp"
          refine iteB (fun _ => ?_) (fun e => absurd e (by decide +kernel))
          walk_at "stp"
          refine mIx_t (s02.tup hs') (v := .ref b') rfl ?_
          walk_at "stp"
          refine mIx_t (s02.tup gs') (v := .ref b2) rfl ?_
          walk_at "stp"
          refine ⟨b', b2, _, _, rfl, s02.tup hs2, s02.tup gs2, by rw [ns_len, ns_len]; exact hlen, fun p3 H3 qs hp3 s3 k3 l4 k4 => ?_⟩
          walk_at "stp"
          refine q2 _ _ l3 p3 tr H3 (HFr.of (s02.trans s3)) (w1.same (s02.trans s3)) (.inl ⟨rfl, rfl⟩) ⟨_, k3, ?_⟩
          rw [ns_len] at l4
          exact pairs_den hlen l4 k4
        | _ => simp [Bx.key] at e
theorem ok_Heap_back_to (T : Txt K mg t)  : FnOk P w K mg base CX0 1 t.a_Heap_back_to t.d_Heap_back_to ["self", "mark"] (sp_Heap_back_to K t.k_Heap) := by
  refine T.F_Heap_back_to.ok sc_Heap_back_to (fun vs H Q E h => ?_) (fun cdv A outer s H vs Q E hr h => ?_)
  · unfold sp_Heap_back_to at h
    split at h
    · rfl
    · exact h.elim
  unfold sp_Heap_back_to at h
  split at h
  rotate_left
  · exact h.elim
  refine ⟨_, (pss_cons (ps_while PassesOwn.never (mt_cmp mo_gt (pe_callB (kc_len K rfl) rfl T.n_len PySem.boot_len (pa_con (pe_fld (mv 0) rfl) pa_nil)) (pe_ix (ki_seq K rfl) (mv 1) pe_int (fun _ _ => rfl)) (nomark _)) (pss_one (ps_asg (pe_glob (v := .ref t.c_FREE) rfl T.m_FREE rfl) (pg_sub (pe_fld (mv 0) rfl) (ke_bm0 K rfl PySem.F.plainAttrs_list PySem.F.slot_list_pop PySem.F.type_list_pop mm_pop (pe_fld (mv 0) rfl)) set_list)))) (pss_one (ps_while PassesOwn.never (mt_cmp mo_gt (pe_callB (kc_len K rfl) rfl T.n_len PySem.boot_len (pa_con (pe_fld (mv 0) rfl) pa_nil)) (pe_ix (ki_seq K rfl) (mv 1) pe_int (fun _ _ => rfl)) (nomark _)) (pss_one (ps_expr (ke_bm0 K rfl PySem.F.plainAttrs_list PySem.F.slot_list_pop PySem.F.type_list_pop mm_pop (pe_fld (mv 0) rfl))))))), ?_⟩
  rename_i x p
  obtain ⟨pb, pt, bs, tr, n, t0, sv, w1, hm, mk, q⟩ := h
  have hz : tr.take t0 ++ tr.drop t0 = tr := List.take_append_drop t0 tr
  have tl := mk.tl
  walk_at "stp"
  refine while_row (fun m σ' H' => ∃ (bs1 : Bs) (l : List Nat), σ' = [some (.ref x), some (.ref p)] ∧ HS K t.k_Heap H' x pb pt bs1 (tr.take t0 ++ l) ∧ HFr pb pt H H' ∧ undo bs1 l = undo bs (tr.drop t0) ∧ bs1.length = bs.length ∧ (∀ a ∈ l, a < bs.length) ∧ m = l.length) _ ⟨bs, tr.drop t0, rfl, by rw [hz]; exact w1, HFr.refl _ _ _, rfl, rfl, fun a ha => mk.all a (List.mem_of_mem_drop ha), rfl⟩ (fun m σ' H' R hP kT kF => ?_)
  obtain ⟨bs1, l, rfl, w2, f2, hu, hl, hal, rfl⟩ := hP
  obtain ⟨dx, ho⟩ := w2.ob
  obtain ⟨us, hb, hd⟩ := w2.bx
  have hm2 := w1.tup f2 _ _ hm
  walk_at "stp"
  refine ⟨x, _, dx, _, _, rfl, ho, T.cl_Heap, T.no_Heap_trail, fs_trail _ _, ?_⟩
  walk_at "stp"
  refine mLen_l (SqL.of w2.trl) ?_
  rw [ns_len, List.length_append, List.length_take, Nat.min_eq_left tl]
  walk_at "stp"
  refine mIx_t hm2 (v := .int (t0 : Int)) rfl ?_
  walk_at "stp"
  rcases nil_or_snoc' l with rfl | ⟨l, a, rfl⟩
  · rw [show decide (((t0 + ([] : List Nat).length : Nat) : Int) > (t0 : Int)) = false by simp]
    refine kF H' ?_
    rw [undo_nil] at hu
    rw [List.append_nil] at w2
    walk_at "stp"
    refine while_row (fun m σ' H' => ∃ (bs1 : Bs), σ' = [some (.ref x), some (.ref p)] ∧ HS K t.k_Heap H' x pb pt bs1 (tr.take t0) ∧ HFr pb pt H H' ∧ bs1.take n = sv ∧ n ≤ bs1.length ∧ m = bs1.length) _ ⟨bs1, rfl, w2, f2, by rw [hu]; exact mk.sv, by rw [hl]; exact mk.nl, rfl⟩ (fun m σ' H' R hP kT kF => ?_)
    obtain ⟨bs2, rfl, w3, f3, hs, hn, rfl⟩ := hP
    obtain ⟨dx, ho⟩ := w3.ob
    obtain ⟨us, hb, hd⟩ := w3.bx
    have hm3 := w1.tup f3 _ _ hm
    walk_at "stp"
    refine ⟨x, _, dx, _, _, rfl, ho, T.cl_Heap, T.no_Heap_boxes, fs_boxes _ _, ?_⟩
    walk_at "stp"
    refine mLen_l (SqL.of hb) ?_
    rw [den_size hd]
    walk_at "stp"
    refine mIx_t hm3 (v := .int (n : Int)) rfl ?_
    walk_at "stp"
    by_cases z : n = bs2.length
    · rw [show decide ((bs2.length : Int) > (n : Int)) = false by rw [z]; simp]
      refine kF H' ?_
      walk_at "stp"
      rw [z, List.take_length] at hs
      subst hs
      exact q H' f3 w3
    · rw [show decide ((bs2.length : Int) > (n : Int)) = true by simp; omega]
      refine kT H' (fun D' e1 e2 hnx hct => ?_)
      rcases nil_or_snoc' bs2 with rfl | ⟨bs2, y, rfl⟩
      · exact absurd (Nat.le_zero.mp hn) z
      rw [List.length_append, List.length_singleton] at hn z
      rw [List.map_append] at hd
      obtain ⟨us1, us2, rfl, d1, d2⟩ := denL_split hd
      obtain ⟨u, rfl⟩ : ∃ u, us2 = [u] := by cases d2 with | cons a b => cases b; exact ⟨_, rfl⟩
      obtain ⟨w4, f4⟩ := w3.upB (vs := us1) (bs' := bs2) d1
      walk_at "stp"
      refine ⟨x, _, dx, _, _, rfl, ho, T.cl_Heap, T.no_Heap_boxes, fs_boxes _ _, ?_⟩
      refine ⟨.inl ⟨rfl, _, SqL.of hb⟩, ?_⟩
      walk_at "stp"
      refine mPop_i hb ?_
      walk_at "stp"
      exact hnx _ _ bs2.length (by rw [List.length_append, List.length_singleton]; omega) ⟨bs2, rfl, w4, f3.trans f4, by rw [List.take_append_of_le_length (by omega)] at hs; exact hs, by omega, rfl⟩
  · rw [show decide (((t0 + (l ++ [a]).length : Nat) : Int) > (t0 : Int)) = true by simp; omega]
    refine kT H' (fun D' e1 e2 hnx hct => ?_)
    have hala := hal a (by simp)
    have ht' : H' pt = some (.lst (nsV (tr.take t0 ++ l) ++ [.int (a : Int)])) := by rw [w2.trl, ← List.append_assoc, nsV, List.map_append]; rfl
    obtain ⟨w3, f3⟩ := w2.upT (tr' := tr.take t0 ++ l)
    walk_at "stp"
    refine ⟨x, _, dx, _, _, rfl, ho, T.cl_Heap, T.no_Heap_boxes, fs_boxes _ _, ?_⟩
    walk_at "stp"
    refine ⟨x, _, dx, _, _, rfl, ho, T.cl_Heap, T.no_Heap_trail, fs_trail _ _, ?_⟩
    refine ⟨.inl ⟨rfl, _, SqL.of ht'⟩, ?_⟩
    walk_at "stp"
    refine mPop_i ht' ?_
    generalize upd H' pt (.lst (nsV (tr.take t0 ++ l))) = H3 at w3 f3 ⊢
    obtain ⟨us3, hb3, hd3⟩ := w3.bx
    walk_at "stp"
    refine ⟨pb, us3, (a : Int), a, rfl, rfl, hb3, ixN_nat (by rw [den_size hd3, hl]; exact hala), ?_⟩
    obtain ⟨w4, f4⟩ := w3.upB (vs := us3.set a (.ref t.c_FREE)) (bs' := bs1.set a .free) (by rw [List.map_set]; exact den_set (.tup (T.q_FREE H3) (.cons (.str _) .nil)) hd3)
    refine hnx _ _ l.length (by simp) ⟨bs1.set a .free, l, rfl, w4, (f2.trans f3).trans f4, ?_, by rw [List.length_set, hl], fun c hc => hal c (by simp [hc]), rfl⟩
    rw [← hu, undo_app, undo_one (by rw [hl]; exact hala)]
end
section
variable {P : Program} {w : World} {K : PySem.W.Frag} {mg : Str → Option Value} {base : Heap} {t : Ad}
noncomputable def SnG {κ : Type} [DecidableEq κ] (f : Nat → κ) (N : Nat) (kvs : List (κ × V)) : Prop := kvs.length + (List.range N).countP (fun i => !(valV kvs (f i)).isSome) ≤ N
theorem SnG.put {κ : Type} [DecidableEq κ] {f : Nat → κ} {N : Nat} {kvs : List (κ × V)} (k : SnG f N kvs) {h : Nat} (hh : h < N) (v : V) : SnG f N (putK kvs (f h) v) := by
  unfold SnG at k ⊢
  have mono : ∀ x, (!(valV (putK kvs (f h) v) (f x)).isSome) = true → (!(valV kvs (f x)).isSome) = true := fun x hx => by
    rw [valV_put] at hx
    by_cases e : f x = f h
    · rw [if_pos e] at hx; cases hx
    · rwa [if_neg e] at hx
  by_cases e : (valV kvs (f h)).isSome = true
  · have e2 : (putK kvs (f h) v).length = kvs.length := by
      unfold putK
      rw [valV_any, e, if_pos rfl, List.length_map]
    rw [e2]
    have := cnt_le (l := List.range N) (fun x _ hx => mono x hx)
    omega
  · have e3 : valV kvs (f h) = none := by simpa using e
    have e4 : (putK kvs (f h) v).length = kvs.length + 1 := by rw [putK_new _ e3, List.length_append, List.length_singleton]
    rw [e4]
    have := cnt_lt (b := h) (l := List.range N) (p := fun i => !(valV (putK kvs (f h) v) (f i)).isSome) (q := fun i => !(valV kvs (f i)).isSome) (by simp [e3]) (by simp [valV_put]) (fun x _ hx => mono x hx) (by simpa using hh)
    omega
theorem SnG.nil {κ : Type} [DecidableEq κ] {f : Nat → κ} {N : Nat} : SnG f N ([] : List (κ × V)) := by
  have := List.countP_le_length (p := fun i => !(valV ([] : List (κ × V)) (f i)).isSome) (l := List.range N)
  unfold SnG
  rw [List.length_range] at this
  exact Nat.le_trans (Nat.le_of_eq (Nat.zero_add _)) this
noncomputable abbrev pk (a b : Nat) : List Key := [Sum.inl (a : Int), Sum.inl (b : Int)]
noncomputable def pkf (i : Nat) : List Key := pk (i / 64) (i % 64)
theorem pkf_of {a b : Nat} (hb : b < 64) : pkf (64 * a + b) = pk a b := by
  unfold pkf
  rw [show (64 * a + b) / 64 = a by omega, show (64 * a + b) % 64 = b by omega]
theorem tup_upd {K : PySem.W.Frag} {J : Hp} {D : Addr} {o0 o : HO} (h : J D = some o0) (n1 : ∀ xs, o0 ≠ .tup xs) (n2 : ∀ o xs, o0 ≠ .frz o (.tup xs)) : ∀ a xs, SqT K J a xs → SqT K (upd J D o) a xs := fun a xs q => by
  rcases q with (q | ⟨ob, q⟩) | q
  · exact .inl (.inl (by rw [upd_ne (fun z => by rw [z, h] at q; exact n1 _ (Option.some.inj q))]; exact q))
  · exact .inl (.inr ⟨ob, by rw [upd_ne (fun z => by rw [z, h] at q; exact n2 _ _ (Option.some.inj q))]; exact q⟩)
  · exact .inr q
theorem HS.upO {K : PySem.W.Frag} {C : Addr} {J : Hp} {x pb pt D : Addr} {bs : Bs} {tr : List Nat} {o0 : HO} (w : HS K C J x pb pt bs tr) (o : HO) (h : J D = some o0) (n1 : ∀ xs, o0 ≠ .tup xs) (n2 : ∀ o xs, o0 ≠ .frz o (.tup xs)) (n3 : ∀ c d fs, o0 ≠ .ins c d fs) (d1 : D ≠ pb) (d2 : D ≠ pt) : HS K C (upd J D o) x pb pt bs tr := by
  obtain ⟨⟨dx, h1⟩, ⟨us, h2, h3⟩, h4, h5⟩ := w
  exact ⟨⟨dx, by rw [upd_ne (fun z => by rw [z, h] at h1; exact n3 _ _ _ (Option.some.inj h1))]; exact h1⟩, ⟨us, by rw [upd_ne (Ne.symm d1)]; exact h2, h3.monoT (tup_upd h n1 n2)⟩, by rw [upd_ne (Ne.symm d2)]; exact h4, h5⟩
theorem HFr.own {pb pt D : Addr} {H J : Hp} {o : HO} (f : HFr pb pt H J) (h : H D = none) : HFr pb pt H (upd J D o) := fun b u h1 h2 e => by
  rw [upd_ne (fun z => by rw [z, h] at e; cases e)]; exact f b u h1 h2 e
theorem denL_rev {K : PySem.W.Frag} {H : Hp} : ∀ {us : List V} {ds : List PyData}, DenL K H us ds → DenL K H us.reverse ds.reverse
  | _, _, .nil => .nil
  | _, _, .cons h r => by
    rw [List.reverse_cons, List.reverse_cons]
    exact (denL_rev r).append (.cons h .nil)
theorem den_pr {K : PySem.W.Frag} {H : Hp} {u : V} {p : Nat × Nat} (h : Den K H u (prD p)) : ∃ a, u = .ref a ∧ SqT K H a [.int (p.1 : Int), .int (p.2 : Int)] := by
  cases h with
  | tup hs hl => cases hl with | cons h1 r => cases h1; cases r with | cons h2 r => cases h2; cases r; exact ⟨_, rfl, hs⟩
theorem ok_Heap_one (T : Txt K mg t) (G_Heap_end_of : FnOk P w K mg base CX0 1 t.a_Heap_end_of t.d_Heap_end_of ["self", "at"] (sp_Heap_end_of K t.k_Heap)) (G_Heap_kids_of_one : FnOk P w K mg base CX0 4 t.a_Heap_kids_of_one t.d_Heap_kids_of_one ["self", "left", "right"] (sp_Heap_kids_of_one K t.k_Heap)) : FnOk P w K mg base CX0 5 t.a_Heap_one t.d_Heap_one ["self", "at", "other"] (sp_Heap_one K t.k_Heap) := by
  refine T.F_Heap_one.ok sc_Heap_one (fun vs H Q E h => ?_) (fun cdv A outer s H vs Q E hr h => ?_)
  · unfold sp_Heap_one at h
    split at h
    · rfl
    · exact h.elim
  unfold sp_Heap_one at h
  split at h
  rotate_left
  · exact h.elim
  refine ⟨_, (pss_cons (ps_set (i := 3) sc_Heap_one.nd rfl (by first | exact Or.inl rfl | exact Or.inr rfl) pe_dnewT) (pss_cons (ps_set (i := 4) (hs := sw_lst) sc_Heap_one.nd rfl (by first | exact Or.inl rfl | exact Or.inr rfl) (pe_lst (pa_con (pe_tup (pa_con (mv 1) (pa_con (mv 2) pa_nil))) pa_nil))) (pss_cons (ps_while PassesOwn.never (kt_tru K rfl (mv 4)) (pss_cons (ps_set (i := 5) (hs := sw_call) sc_Heap_one.nd rfl (by first | exact Or.inl rfl | exact Or.inr rfl) (ke_bm0 K rfl PySem.F.plainAttrs_list PySem.F.slot_list_pop PySem.F.type_list_pop mm_pop (mv 4))) (pss_cons (ps_set (i := 6) (hs := sw_tup) sc_Heap_one.nd rfl (by first | exact Or.inl rfl | exact Or.inr rfl) (pe_tup (pa_con (pe_meth (mv 0) T.cl_Heap T.me_Heap_end_of G_Heap_end_of (hr.mono (by first | decide | omega)) T.b_Heap_end_of .nil pass0 (pa_con (pe_ix (ki_seq K rfl) (mv 5) pe_int (fun _ _ => rfl)) pa_nil)) (pa_con (pe_meth (mv 0) T.cl_Heap T.me_Heap_end_of G_Heap_end_of (hr.mono (by first | decide | omega)) T.b_Heap_end_of .nil pass0 (pa_con (pe_ix (ki_seq K rfl) (mv 5) pe_int (fun _ _ => rfl)) pa_nil)) pa_nil)))) (pss_one (ps_if (PW.pt (pw_and (mt_cmp mo_ne (pe_ix (ki_seq K rfl) (mv 6) pe_int (fun _ _ => rfl)) (pe_ix (ki_seq K rfl) (mv 6) pe_int (fun _ _ => rfl)) (nomark _)) (pw_and1 (mt_cmp (ko_ninD (hu_of hr)) (mv 6) (mv 3) (by with_unfolding_all rfl))))) (pss_cons (ps_dput (hu_of hr) (mv 3) (mv 6) pe_bl rfl) (pss_cons (ps_set (i := 7) (hs := sw_call) sc_Heap_one.nd rfl (by first | exact Or.inl rfl | exact Or.inr rfl) (pe_meth (mv 0) T.cl_Heap T.me_Heap_kids_of_one G_Heap_kids_of_one (hr.mono (by first | decide | omega)) T.b_Heap_kids_of_one .nil pass0 (pa_con (pe_ix (ki_seq K rfl) (mv 6) pe_int (fun _ _ => rfl)) (pa_con (pe_ix (ki_seq K rfl) (mv 6) pe_int (fun _ _ => rfl)) pa_nil)))) (pss_cons (ps_if (mt_cmp mo_isN (mv 7) pe_non (nomark _)) (pss_one (ps_ret pe_bl)) pss_nil) (pss_one (ps_expr (ke_bm K rfl PySem.F.plainAttrs_list PySem.F.slot_list_extend PySem.F.type_list_extend (km_extend K rfl) (mv 4) (pa_con (pe_listRev K rfl rfl rfl T.n_list rfl T.n_reversed (pa_con (mv 7) pa_nil)) pa_nil))))))) pss_nil))))) (pss_one (ps_ret pe_bl))))), ?_⟩
  rename_i x a0 b0
  obtain ⟨pb, pt, bs, tr, n, m, k0, bs', r, w1, rfl, rfl, lim, htr, run, q⟩ := h
  walk_at "stp"
  intro pm hpm
  have s1 : Same H (upd H pm (.dT [])) := same_new hpm _
  have k1 : (upd H pm (.dT [])) pm = some (.dT []) := upd_same
  generalize upd H pm (.dT []) = H1 at s1 k1 ⊢
  walk_at "stp"
  refine ⟨ln (by show 2 ≤ 100000; decide), fun pq hpq => ?_⟩
  have spq : Same H1 (upd H1 pq (.tup [.int (n : Int), .int (m : Int)])) := same_new hpq _
  have kpq : (upd H1 pq (.tup [.int (n : Int), .int (m : Int)])) pq = some (.tup [.int (n : Int), .int (m : Int)]) := upd_same
  generalize upd H1 pq (.tup [.int (n : Int), .int (m : Int)]) = H2 at spq kpq ⊢
  walk_at "stp"
  refine ⟨ln (by show 1 ≤ 100000; decide), fun p hp => ?_⟩
  have sp : Same H2 (upd H2 p (.lst [.ref pq])) := same_new hp _
  have kp : (upd H2 p (.lst [.ref pq])) p = some (.lst [.ref pq]) := upd_same
  generalize upd H2 p (.lst [.ref pq]) = H3 at sp kp ⊢
  walk_at "stp"
  have s3 := s1.trans (spq.trans sp)
  have npm : pm ≠ p := fun z => by rw [← z, spq _ _ k1] at hp; cases hp
  have hp0 : H p = none := s1.free (spq.free hp)
  obtain ⟨us0, hb0, _⟩ := w1.bx
  have p1 : p ≠ pb := fun z => by rw [z, hb0] at hp0; cases hp0
  have p2 : p ≠ pt := fun z => by rw [z, w1.trl] at hp0; cases hp0
  have m1 : pm ≠ pb := fun z => by rw [z, hb0] at hpm; cases hpm
  have m2 : pm ≠ pt := fun z => by rw [z, w1.trl] at hpm; cases hpm
  have hnf := nf_le bs
  have hl64 := lim.len
  refine while_row (fun k σ' H' => ∃ (st met : List (Nat × Nat)) (kvs : List (List Key × V)) (bs1 : Bs) (tr1 : List Nat) (us : List V) (o5 o6 o7 : Option V), σ' = [some (.ref x), some (.int (n : Int)), some (.int (m : Int)), some (.ref pm), some (.ref p), o5, o6, o7] ∧ H' p = some (.lst us) ∧ DenL K H' us (st.reverse.map prD) ∧ H' pm = some (.dT kvs) ∧ HS K t.k_Heap H' x pb pt bs1 tr1 ∧ Lim bs1 st ∧ Met bs1 met st ∧ (∀ a b, (valV kvs (pk a b)).isSome = true → (a, b) ∈ met) ∧ SnG pkf 4096 kvs ∧ Run k bs1 st bs' r ∧ Up bs tr bs1 tr1 ∧ tr1.length + nf bs1 ≤ tr.length + nf bs ∧ HFr pb pt H H') k0 ⟨[(n, m)], [], [], bs, tr, _, none, none, none, rfl, kp, .cons (.tup (SqT.of (sp _ _ kpq)) (.cons (.int _) (.cons (.int _) .nil))) .nil, sp _ _ (spq _ _ k1), w1.same s3, lim, fun z hz => (by cases hz), fun a b hz => (by cases hz), SnG.nil, run, Up.refl _ _, Nat.le_refl _, HFr.of s3⟩ (fun k σ' H' R hP kT kF => ?_)
  obtain ⟨st, met, kvs, bs1, tr1, us, o5, o6, o7, rfl, h1, h2, h3, w2, h4, h5, h6, h7, h8, h9, h10, f2⟩ := hP
  walk_at "stp"
  refine .inl ⟨_, SqL.of h1, ?_⟩
  cases st with
  | nil =>
    cases h2
    refine kF H' ?_
    walk_at "stp"
    cases h8
    exact q tr1 H' f2 w2 h9 (by omega)
  | cons p0 st =>
    obtain ⟨x0, y0⟩ := p0
    rw [List.reverse_cons, List.map_append] at h2
    obtain ⟨us, us2, rfl, d1, d2⟩ := denL_split h2
    obtain ⟨u, rfl, d3⟩ : ∃ u, us2 = [u] ∧ Den K H' u (prD (x0, y0)) := by cases d2 with | cons a b => cases b; exact ⟨_, rfl, a⟩
    obtain ⟨ta, rfl, hta⟩ := den_pr d3
    rw [show (!(us ++ [V.ref ta]).isEmpty) = true by simp]
    refine kT H' (fun D' e4 e5 hnx hct => ?_)
    obtain ⟨a, ha⟩ := h4.wf.end_ (h4.val _ (List.mem_cons_self ..)).1
    obtain ⟨b, hb⟩ := h4.wf.end_ (h4.val _ (List.mem_cons_self ..)).2
    have l1 := h4.len
    have a64 : a < 64 := Nat.lt_of_lt_of_le ha.lt l1
    have b64 : b < 64 := Nat.lt_of_lt_of_le hb.lt l1
    walk_at "stp"
    refine ⟨.inl ⟨rfl, _, SqL.of h1⟩, ?_⟩
    refine mPop_i h1 ?_
    have fJ : HFr pb pt H (upd H' p (.lst us)) := f2.own hp0
    have wJ : HS K t.k_Heap (upd H' p (.lst us)) x pb pt bs1 tr1 := w2.upO _ h1 (fun _ z => by cases z) (fun _ _ z => by cases z) (fun _ _ _ z => by cases z) p1 p2
    have tJ : ∀ a xs, SqT K H' a xs → SqT K (upd H' p (.lst us)) a xs := tup_upd h1 (fun _ z => by cases z) (fun _ _ z => by cases z)
    have k5 : (upd H' p (.lst us)) p = some (.lst us) := upd_same
    have k6 : (upd H' p (.lst us)) pm = some (.dT kvs) := by rw [upd_ne npm]; exact h3
    generalize upd H' p (.lst us) = J at fJ wJ tJ k5 k6 ⊢
    have d1 := d1.monoT tJ
    have hta := tJ _ _ hta
    obtain ⟨dx, ho⟩ := wJ.ob
    walk_at "stp"
    refine ⟨x, dx, _, rfl, ho, fs_no, ?_⟩
    walk_at "stp"
    refine mIx_t hta (v := .int (x0 : Int)) rfl ?_
    walk_at "stp"
    refine ⟨pb, pt, bs1, tr1, x0, a, wJ, h4.wf, rfl, ha, ?_⟩
    walk_at "stp"
    refine ⟨x, dx, _, rfl, ho, fs_no, ?_⟩
    walk_at "stp"
    refine mIx_t hta (v := .int (y0 : Int)) rfl ?_
    walk_at "stp"
    refine ⟨pb, pt, bs1, tr1, y0, b, wJ, h4.wf, rfl, hb, ?_⟩
    walk_at "stp"
    refine ⟨ln (by show 2 ≤ 100000; decide), fun pp hpp => ?_⟩
    have spp : Same J (upd J pp (.tup [.int (a : Int), .int (b : Int)])) := same_new hpp _
    have kpp : (upd J pp (.tup [.int (a : Int), .int (b : Int)])) pp = some (.tup [.int (a : Int), .int (b : Int)]) := upd_same
    generalize upd J pp (.tup [.int (a : Int), .int (b : Int)]) = J1 at spp kpp ⊢
    walk_at "stp"
    have fJ1 := fJ.trans (HFr.of spp)
    have wJ1 := wJ.same spp
    have d1 := d1.mono spp
    have k5 := spp _ _ k5
    have k6 := spp _ _ k6
    have kq : J1 pp = some (.tup ((pk a b).map kV)) := kpp
    have skip : Eqv bs1 NoA x0 y0 → D'.nx [some (.ref x), some (.int (n : Int)), some (.int (m : Int)), some (.ref pm), some (.ref p), some (.ref ta), some (.ref pp), o7] J1 := fun e => by
      obtain ⟨k2, hk2, run2⟩ := e.skip h4.wf _ _ _ _ h8
      exact hnx _ _ k2 hk2 ⟨st, met, kvs, bs1, tr1, us, _, _, _, rfl, k5, d1, k6, wJ1, h4.pop, h5.pop e, h6, h7, run2, h9, h10, fJ1⟩
    walk_at "stp"
    refine mIx_t (SqT.of kpp) (v := .int (a : Int)) rfl ?_
    walk_at "stp"
    refine mIx_t (SqT.of kpp) (v := .int (b : Int)) rfl ?_
    walk_at "stp"
    refine iteB (fun e => ?_) (fun e => ?_)
    · have hab : a ≠ b := fun z => by rw [z] at e; simp at e
      walk_at "stp"
      refine ⟨pm, _, rfl, DGet.t (k := pk a b) k6 kq, ?_⟩
      walk_at "stp"
      refine iteB (fun e1 => ?_) (fun e1 => ?_)
      · walk_at "stp"
        have lk : kvs.length < sizeLine := ln1 (by unfold SnG at h7; omega)
        refine ⟨pm, _, rfl, DPut.t (k := pk a b) k6 kq lk, ?_⟩
        have h7' := h7.put (h := 64 * a + b) (by omega) (.bl true)
        rw [pkf_of b64] at h7'
        have h6' : ∀ a2 b2, (valV (putK kvs (pk a b) (.bl true)) (pk a2 b2)).isSome = true → (a2, b2) ∈ (a, b) :: met := fun a2 b2 hz => by
          rw [valV_put] at hz
          by_cases e : pk a2 b2 = pk a b
          · simp only [List.cons.injEq, Sum.inl.injEq] at e
            rw [show a2 = a by omega, show b2 = b by omega]
            exact List.mem_cons_self ..
          · rw [if_neg e] at hz; exact List.mem_cons_of_mem _ (h6 a2 b2 hz)
        generalize putK kvs (pk a b) (.bl true) = kvs2 at h7' h6' ⊢
        have fJ2 : HFr pb pt H (upd J1 pm (.dT kvs2)) := fJ1.own hpm
        have wJ2 : HS K t.k_Heap (upd J1 pm (.dT kvs2)) x pb pt bs1 tr1 := wJ1.upO _ k6 (fun _ z => by cases z) (fun _ _ z => by cases z) (fun _ _ _ z => by cases z) m1 m2
        have tJ2 : ∀ a xs, SqT K J1 a xs → SqT K (upd J1 pm (.dT kvs2)) a xs := tup_upd k6 (fun _ z => by cases z) (fun _ _ z => by cases z)
        have k7 : (upd J1 pm (.dT kvs2)) p = some (.lst us) := by rw [upd_ne (Ne.symm npm)]; exact k5
        have k8 : (upd J1 pm (.dT kvs2)) pm = some (.dT kvs2) := upd_same
        generalize upd J1 pm (.dT kvs2) = J2 at fJ2 wJ2 tJ2 k7 k8 ⊢
        have d1 := d1.monoT tJ2
        have kp2 := tJ2 _ _ (SqT.of kpp)
        obtain ⟨dx, ho⟩ := wJ2.ob
        walk_at "stp"
        refine ⟨x, dx, _, rfl, ho, fs_no, ?_⟩
        walk_at "stp"
        refine mIx_t kp2 (v := .int (a : Int)) rfl ?_
        walk_at "stp"
        refine mIx_t kp2 (v := .int (b : Int)) rfl ?_
        walk_at "stp"
        refine ⟨pb, pt, bs1, tr1, a, b, wJ2, l1, h4.wf, rfl, rfl, ha.self, hb.self, hab, by omega, fun hst J3 s3 => ?_, fun bs2 l hst p3 tr2 J3 f3 w3 hup hpl => ?_⟩
        · rcases h8.cons ha hb with ⟨_, rfl, rfl⟩ | ⟨_, _, _, z, _⟩
          · walk_at "stp"
            refine iteT ?_
            walk_at "stp"
            rw [e4]
            exact q tr1 J3 (fJ2.trans (HFr.of s3)) (wJ2.same s3) h9 (by omega)
          · rw [hst] at z; cases z
        · rcases h8.cons ha hb with ⟨z, _⟩ | ⟨bs3, l3, k3, z, hk3, run3⟩
          · rw [hst] at z; cases z
          rw [hst] at z
          cases z
          have lim2 := h4.step ha hb hst
          have met2 := h5.step h4.wf ha hb hst
          obtain ⟨up2, len2⟩ : Up bs tr bs2 tr2 ∧ tr2.length + nf bs2 ≤ tr.length + nf bs := by
            rcases hup with ⟨rfl, rfl⟩ | ⟨c, d, e1, rfl, rfl⟩
            · exact ⟨h9, h10⟩
            · have := nf_set (b := d) e1
              exact ⟨h9.bind e1, by rw [List.length_append, List.length_singleton]; omega⟩
          obtain ⟨zs, hz, dz⟩ := hpl
          have k9 := f3 _ _ p1 p2 k7
          have k10 := f3 _ _ m1 m2 k8
          have d1 := d1.monoT (wJ2.tup f3)
          have ll := lim2.size
          rw [List.length_append] at ll
          have lz := dz.length
          rw [List.length_map] at lz
          have lu := d1.length
          rw [List.length_map, List.length_reverse] at lu
          walk_at "stp"
          refine iteF ?_
          walk_at "stp"
          refine ⟨.inl ⟨rfl, _, SqL.of k9⟩, ?_⟩
          walk_at "stp"
          refine ⟨p3, zs, rfl, .inl (SqL.of hz), by omega, fun p4 hp4 => ?_⟩
          have s4 := same_new hp4 (.lst zs.reverse)
          have k11 : (upd J3 p4 (.lst zs.reverse)) p4 = some (.lst zs.reverse) := upd_same
          generalize upd J3 p4 (.lst zs.reverse) = J4 at s4 k11 ⊢
          walk_at "stp"
          refine mExt_l (s4 _ _ k9) k11 (ln (by rw [List.length_reverse]; omega)) ?_
          walk_at "stp"
          have h4p := s4 _ _ k9
          have tJ5 : ∀ a xs, SqT K J4 a xs → SqT K (upd J4 p (.lst (us ++ zs.reverse))) a xs := tup_upd h4p (fun _ z => by cases z) (fun _ _ z => by cases z)
          refine hnx _ _ k3 hk3 ⟨l ++ st, _, kvs2, bs2, tr2, us ++ zs.reverse, _, _, _, rfl, upd_same, ?_, by rw [upd_ne npm]; exact s4 _ _ k10, (w3.same s4).upO _ h4p (fun _ z => by cases z) (fun _ _ z => by cases z) (fun _ _ _ z => by cases z) p1 p2, lim2, met2, h6', h7', run3, up2, len2, ((fJ2.trans f3).trans (HFr.of s4)).own hp0⟩
          rw [List.reverse_append, List.map_append]
          refine DenL.append ((d1.mono s4).monoT tJ5) ?_
          rw [List.map_reverse]
          exact ((denL_rev dz).mono s4).monoT tJ5
      · walk_at "stp"
        refine skip (h5.known h4.wf ha hb (h6 a b ?_))
        simpa using e1
    · walk_at "stp"
      have hab : (a : Int) = (b : Int) := by simpa using e
      have hab : a = b := by omega
      subst hab
      exact skip (.one ha hb)
end
section
variable {P : Program} {w : World} {K : PySem.W.Frag} {mg : Str → Option Value} {base : Heap} {t : Ad}
theorem LB.same {K : PySem.W.Frag} {H H' : Hp} {p : Addr} {bs : Bs} (h : LB K H p bs) (s : Same H H') : LB K H' p bs := by
  obtain ⟨us, h1, h2⟩ := h
  exact ⟨us, s _ _ h1, h2.mono s⟩
theorem ok_l_led (T : Txt K mg t)  : FnOk P w K mg base CX0 1 t.a_l_led t.d_l_led ["_law_boxes", "_law_k"] (sp_l_led K) := by
  refine T.F_l_led.ok sc_l_led (fun vs H Q E h => ?_) (fun cdv A outer s H vs Q E hr h => ?_)
  · unfold sp_l_led at h
    split at h
    · rfl
    · exact h.elim
  unfold sp_l_led at h
  split at h
  rotate_left
  · exact h.elim
  refine ⟨_, (pss_cons (ps_while PassesOwn.never (mt_cmp mo_eq (pe_ix (ki_seq K rfl) (pe_ix (ki_seq K rfl) (mv 0) (mv 1) (fun _ _ => rfl)) pe_int (fun _ _ => rfl)) pe_str (nomark _)) (pss_one (ps_set (i := 1) (hs := sw_sub) sc_l_led.nd rfl (by first | exact Or.inl rfl | exact Or.inr rfl) (pe_ix (ki_seq K rfl) (pe_ix (ki_seq K rfl) (mv 0) (mv 1) (fun _ _ => rfl)) pe_int (fun _ _ => rfl))))) (pss_one (ps_ret (mv 1)))), ?_⟩
  rename_i p a
  obtain ⟨bs, n, e0, ⟨us, hb, hd⟩, wf, rfl, he, q⟩ := h
  obtain ⟨rk, hr'⟩ := wf.acy
  walk_at "stp"
  refine while_row (fun m σ' H' => ∃ i : Nat, σ' = [some (.ref p), some (.int (i : Int))] ∧ H' = H ∧ End bs i e0 ∧ m = rk i) (rk n) ⟨n, rfl, rfl, he, rfl⟩ (fun m σ' H' R hP kT kF => ?_)
  obtain ⟨i, rfl, rfl, hi, rfl⟩ := hP
  obtain ⟨bi, hbi⟩ : ∃ b, bs[i]? = some b := by cases hi with | here e _ => exact ⟨_, e⟩ | step e _ => exact ⟨_, e⟩
  obtain ⟨u, e1, e2, e3⟩ := den_at hd hbi
  obtain ⟨a, us', rfl, hs⟩ := lw_kind e3
  walk_at "stp"
  refine mIx_l (SqL.of hb) e2 ?_
  walk_at "stp"
  refine mIx_t hs (v := .str bi.kind) atI0 ?_
  walk_at "stp"
  rw [kind_to]
  cases hi with
  | here e nt =>
    rw [hbi] at e
    cases e
    rw [(End.here hbi nt).box hbi]
    refine kF _ ?_
    walk_at "stp"
    exact q
  | @step _ j _ e hj =>
    rw [hbi] at e
    cases e
    refine kT _ (fun D' e4 e5 hnx hct => ?_)
    obtain ⟨a', ea, hs'⟩ := den_2 (s := toS) (n := (j : Int)) e3
    cases ea
    walk_at "stp"
    refine mIx_l (SqL.of hb) e2 ?_
    walk_at "stp"
    refine mIx_t hs' (v := .int (j : Int)) rfl ?_
    walk_at "stp"
    exact hnx _ _ (rk j) (hr' _ _ (Ed.to hbi)) ⟨j, rfl, rfl, hj, rfl⟩
theorem ok_l_size (T : Txt K mg t) (G_l_led : FnOk P w K mg base CX0 1 t.a_l_led t.d_l_led ["_law_boxes", "_law_k"] (sp_l_led K)) : FnOk P w K mg base CX0 2 t.a_l_size t.d_l_size ["_law_boxes", "_law_k"] (sp_l_size K) := by
  refine T.F_l_size.ok sc_l_size (fun vs H Q E h => ?_) (fun cdv A outer s H vs Q E hr h => ?_)
  · unfold sp_l_size at h
    split at h
    · rfl
    · exact h.elim
  unfold sp_l_size at h
  split at h
  rotate_left
  · exact h.elim
  refine ⟨_, (pss_cons (ps_set (i := 2) sc_l_size.nd rfl (by first | exact Or.inl rfl | exact Or.inr rfl) pe_int) (pss_cons (ps_set (i := 3) (hs := sw_lst) sc_l_size.nd rfl (by first | exact Or.inl rfl | exact Or.inr rfl) (pe_lst (pa_con (mv 1) pa_nil))) (pss_cons (ps_while PassesOwn.never (PW.pt (pw_and (mt_cmp mo_gt (pe_callB (kc_len K rfl) rfl T.n_len PySem.boot_len (pa_con (mv 3) pa_nil)) pe_int (nomark _)) (pw_and1 (mt_cmp mo_lt (mv 2) pe_int (nomark _))))) (pss_cons (ps_set (i := 4) (hs := sw_sub) sc_l_size.nd rfl (by first | exact Or.inl rfl | exact Or.inr rfl) (pe_ix (ki_seq K rfl) (mv 0) (pe_call G_l_led (hr.mono (by first | decide | omega)) rfl T.m_l_led T.F_l_led.kp T.b_l_led .nil pass0 (pa_con (mv 0) (pa_con (ke_bm0 K rfl PySem.F.plainAttrs_list PySem.F.slot_list_pop PySem.F.type_list_pop mm_pop (mv 3)) pa_nil))) (fun _ _ => rfl))) (pss_cons (ps_set (i := 2) (hs := sw_bin) sc_l_size.nd rfl (by first | exact Or.inl rfl | exact Or.inr rfl) (pe_op (ko_add K rfl) (mv 2) pe_int)) (pss_one (ps_if (mt_cmp mo_eq (pe_ix (ki_seq K rfl) (mv 4) pe_int (fun _ _ => rfl)) pe_str (nomark _)) (pss_one (ps_expr (ke_bm K rfl PySem.F.plainAttrs_list PySem.F.slot_list_extend PySem.F.type_list_extend (km_extend K rfl) (mv 3) (pa_con (pe_ix (ki_seq K rfl) (mv 4) pe_int (fun _ _ => rfl)) pa_nil)))) pss_nil))))) (pss_one (ps_ret (mv 2)))))), ?_⟩
  rename_i pl a0
  obtain ⟨bs, n, lb, wf, rfl, hn, q⟩ := h
  walk_at "stp"
  refine ⟨ln (by show 1 ≤ 100000; decide), fun p hp => ?_⟩
  have sp : Same H (upd H p (.lst [.int (n : Int)])) := same_new hp _
  have kp : (upd H p (.lst [.int (n : Int)])) p = some (.lst [.int (n : Int)]) := upd_same
  generalize upd H p (.lst [.int (n : Int)]) = H1 at sp kp ⊢
  walk_at "stp"
  refine while_row (fun m σ' H' => ∃ (st : List Nat) (c : Nat) (o : Option V), σ' = [some (.ref pl), some (.int (n : Int)), some (.int (c : Int)), some (.ref p), o] ∧ H' p = some (.lst (nsV st)) ∧ (∀ k ∈ st, k < bs.length) ∧ st.length ≤ 1 + 3 * c ∧ c ≤ 21 ∧ m = 21 - c ∧ Same H H') 21 ⟨[n], 0, none, rfl, kp, fun k hk => by rw [List.mem_singleton.mp hk]; exact hn, by simp, by omega, rfl, sp⟩ (fun m σ' H' R hP kT kF => ?_)
  obtain ⟨st, c, o, rfl, h1, h2, h3, h4, rfl, h5⟩ := hP
  walk_at "stp"
  refine mLen_l (SqL.of h1) ?_
  rw [ns_len]
  walk_at "stp"
  refine iteB (fun e => ?_) (fun e => ?_)
  rotate_left
  · refine kF H' ?_
    walk_at "stp"
    exact q c H' h5
  walk_at "stp"
  cases hc : decide ((c : Int) < 21) with
  | false =>
    refine kF H' ?_
    walk_at "stp"
    exact q c H' h5
  | true =>
    have hc := of_decide_eq_true hc
    refine kT H' (fun D' e4 e5 hnx hct => ?_)
    rcases nil_or_snoc' st with rfl | ⟨st, k, rfl⟩
    · simp at e
    have h1' : H' p = some (.lst (nsV st ++ [.int (k : Int)])) := by rw [h1, nsV, List.map_append]; rfl
    obtain ⟨hd, hk⟩ := wf.end_ (h2 k (by simp))
    rw [List.length_append, List.length_singleton] at h3
    obtain ⟨usL, hbL, hdL⟩ := lb.same h5
    walk_at "stp"
    refine ⟨.inl ⟨rfl, _, SqL.of h1'⟩, ?_⟩
    walk_at "stp"
    refine mPop_i h1' ?_
    have f5 : Same H (upd H' p (.lst (nsV st))) := same_upd h5 hp
    have k5 : (upd H' p (.lst (nsV st))) p = some (.lst (nsV st)) := upd_same
    generalize upd H' p (.lst (nsV st)) = J at f5 k5 ⊢
    have lJ := lb.same f5
    obtain ⟨bi, hbi⟩ := hk.is
    walk_at "stp"
    refine ⟨bs, k, hd, lJ, wf, rfl, hk, ?_⟩
    obtain ⟨us, hb, hdl⟩ := lJ
    obtain ⟨u, e2, e3, e6⟩ := den_at hdl hbi.1
    obtain ⟨aa, us', rfl, hs⟩ := lw_kind e6
    walk_at "stp"
    refine mIx_l (SqL.of hb) e3 ?_
    walk_at "stp"
    refine mIx_t hs (v := .str bi.kind) atI0 ?_
    walk_at "stp"
    rw [kind_app]
    cases hbk : bi with
    | app s ks =>
      subst hbk
      obtain ⟨a', b', ea, hs', hs2⟩ := den_bapp (s := s) (ks := ks) e6
      cases ea
      have lk := wf.ar _ _ _ hbi.1
      refine iteT ?_
      walk_at "stp"
      refine ⟨.inl ⟨rfl, _, SqL.of k5⟩, ?_⟩
      walk_at "stp"
      refine mIx_t hs' (v := .ref b') rfl ?_
      walk_at "stp"
      refine mExt_t k5 hs2 (ln (by rw [ns_len, ns_len]; omega)) ?_
      walk_at "stp"
      refine hnx _ _ (21 - (c + 1)) (by omega) ⟨st ++ ks, c + 1, _, rfl, by rw [upd_same, nsV, nsV, nsV, List.map_append], fun x hx => ?_, by rw [List.length_append]; omega, by omega, rfl, same_upd f5 hp⟩
      rcases List.mem_append.mp hx with z | z
      · exact h2 x (List.mem_append_left _ z)
      · exact wf.inn _ _ (Ed.kid hbi.1 z)
    | _ =>
      subst hbk
      refine iteF ?_
      walk_at "stp"
      exact hnx _ _ (21 - (c + 1)) (by omega) ⟨st, c + 1, _, rfl, k5, fun x hx => h2 x (List.mem_append_left _ hx), by omega, by omega, rfl, f5⟩
theorem ok_l_within (T : Txt K mg t) (G_l_led : FnOk P w K mg base CX0 1 t.a_l_led t.d_l_led ["_law_boxes", "_law_k"] (sp_l_led K)) : FnOk P w K mg base CX0 2 t.a_l_within t.d_l_within ["_law_boxes", "_law_k", "_law_free"] (sp_l_within K) := by
  refine T.F_l_within.ok sc_l_within (fun vs H Q E h => ?_) (fun cdv A outer s H vs Q E hr h => ?_)
  · unfold sp_l_within at h
    split at h
    · rfl
    · exact h.elim
  unfold sp_l_within at h
  split at h
  rotate_left
  · exact h.elim
  refine ⟨_, (pss_cons (ps_set (i := 3) (hs := sw_lst) sc_l_within.nd rfl (by first | exact Or.inl rfl | exact Or.inr rfl) (pe_lst (pa_con (mv 1) pa_nil))) (pss_cons (ps_while PassesOwn.never (mt_cmp mo_gt (pe_callB (kc_len K rfl) rfl T.n_len PySem.boot_len (pa_con (mv 3) pa_nil)) pe_int (nomark _)) (pss_cons (ps_set (i := 4) (hs := sw_call) sc_l_within.nd rfl (by first | exact Or.inl rfl | exact Or.inr rfl) (pe_call G_l_led (hr.mono (by first | decide | omega)) rfl T.m_l_led T.F_l_led.kp T.b_l_led .nil pass0 (pa_con (mv 0) (pa_con (ke_bm0 K rfl PySem.F.plainAttrs_list PySem.F.slot_list_pop PySem.F.type_list_pop mm_pop (mv 3)) pa_nil)))) (pss_cons (ps_if (mt_cmp mo_eq (mv 4) (mv 2) (nomark _)) (pss_one (ps_ret pe_bl)) pss_nil) (pss_one (ps_if (mt_cmp mo_eq (pe_ix (ki_seq K rfl) (pe_ix (ki_seq K rfl) (mv 0) (mv 4) (fun _ _ => rfl)) pe_int (fun _ _ => rfl)) pe_str (nomark _)) (pss_one (ps_expr (ke_bm K rfl PySem.F.plainAttrs_list PySem.F.slot_list_extend PySem.F.type_list_extend (km_extend K rfl) (mv 3) (pa_con (pe_ix (ki_seq K rfl) (pe_ix (ki_seq K rfl) (mv 0) (mv 4) (fun _ _ => rfl)) pe_int (fun _ _ => rfl)) pa_nil)))) pss_nil))))) (pss_one (ps_ret pe_bl)))), ?_⟩
  rename_i pl b0 a0
  obtain ⟨bs, a, b, lb, hl, wf, rfl, rfl, ha, hb0, q⟩ := h
  obtain ⟨rk, hr1, hr2⟩ := wf.rank
  walk_at "stp"
  refine ⟨ln (by show 1 ≤ 100000; decide), fun p hp => ?_⟩
  have sp : Same H (upd H p (.lst [.int (b : Int)])) := same_new hp _
  have kp : (upd H p (.lst [.int (b : Int)])) p = some (.lst [.int (b : Int)]) := upd_same
  generalize upd H p (.lst [.int (b : Int)]) = H1 at sp kp ⊢
  walk_at "stp"
  refine while_row (fun m σ' H' => ∃ (st : List Nat) (o : Option V), σ' = [some (.ref pl), some (.int (b : Int)), some (.int (a : Int)), some (.ref p), o] ∧ H' p = some (.lst (nsV st.reverse)) ∧ Wk bs rk b st ∧ (Rch bs b a → ∃ k ∈ st, Rch bs k a) ∧ Same H H' ∧ m = wt rk st) (wt rk [b]) ⟨[b], none, rfl, kp, Wk.one hb0 (Nat.le_trans (hr1 b) hl), fun z => ⟨b, by simp, z⟩, sp, rfl⟩ (fun m σ' H' R hP kT kF => ?_)
  obtain ⟨st, o, rfl, h1, h3, h6, h7, h8⟩ := hP
  walk_at "stp"
  refine mLen_l (SqL.of h1) ?_
  rw [ns_len, List.length_reverse]
  walk_at "stp"
  cases st with
  | nil =>
    refine kF H' ?_
    walk_at "stp"
    exact q false H' h7 ⟨fun z => (by cases z), fun z => by obtain ⟨k, hk, _⟩ := h6 z; cases hk⟩
  | cons k st =>
    rw [ns_rev_cons] at h1
    rw [show decide (((k :: st).length : Int) > 0) = true by simp]
    refine kT H' (fun D' e4 e5 hnx hct => ?_)
    obtain ⟨hd, hk⟩ := wf.end_ (h3.val k (List.mem_cons_self ..))
    walk_at "stp"
    refine ⟨.inl ⟨rfl, _, SqL.of h1⟩, ?_⟩
    walk_at "stp"
    refine mPop_i h1 ?_
    have f5 : Same H (upd H' p (.lst (nsV st.reverse))) := same_upd h7 hp
    have k5 : (upd H' p (.lst (nsV st.reverse))) p = some (.lst (nsV st.reverse)) := upd_same
    generalize upd H' p (.lst (nsV st.reverse)) = J at f5 k5 ⊢
    have lJ := lb.same f5
    walk_at "stp"
    refine ⟨bs, k, hd, lJ, wf, rfl, hk, ?_⟩
    obtain ⟨us, hb, hdl⟩ := lJ
    walk_at "stp"
    refine iteB (fun e => ?_) (fun e => ?_)
    · have e : (hd : Int) = (a : Int) := by simpa using e
      have e : hd = a := by omega
      subst e
      walk_at "stp"
      rw [e4]
      exact q true J f5 ⟨fun _ => (h3.rch k (List.mem_cons_self ..)).trans hk.rch, fun _ => rfl⟩
    have hda : hd ≠ a := fun z => by rw [z] at e; simp at e
    have thru : ∀ st2 : List Nat, (∀ y ∈ st, y ∈ st2) → (∀ y, Ed bs hd y → y ∈ st2) → Rch bs b a → ∃ k ∈ st2, Rch bs k a := fun st2 g1 g2 z => by
      obtain ⟨k', hk1, hk2⟩ := h6 z
      rcases List.mem_cons.mp hk1 with z | z
      · subst z
        obtain ⟨y, hy1, hy2⟩ := (hk2.of_end ha hk).kid hda
        exact ⟨y, g2 y hy1, hy2⟩
      · exact ⟨k', g1 _ z, hk2⟩
    obtain ⟨bi, hbi⟩ := hk.is
    obtain ⟨u, e2, e3, e6⟩ := den_at hdl hbi.1
    obtain ⟨aa, us', rfl, hs⟩ := lw_kind e6
    walk_at "stp"
    refine mIx_l (SqL.of hb) e3 ?_
    walk_at "stp"
    refine mIx_t hs (v := .str bi.kind) atI0 ?_
    walk_at "stp"
    rw [kind_app]
    cases hbk : bi with
    | app s ks =>
      subst hbk
      obtain ⟨a', b', ea, hs', hs2⟩ := den_bapp (s := s) (ks := ks) e6
      cases ea
      obtain ⟨g1, g2⟩ := h3.kids wf hr2 hk hbi.1
      have lz := h3.pop.len
      have lk := wf.ar _ _ _ hbi.1
      refine iteT ?_
      walk_at "stp"
      refine ⟨.inl ⟨rfl, _, SqL.of k5⟩, ?_⟩
      walk_at "stp"
      refine mIx_l (SqL.of hb) e3 ?_
      walk_at "stp"
      refine mIx_t hs' (v := .ref b') rfl ?_
      walk_at "stp"
      refine mExt_t k5 hs2 (ln (by rw [ns_len, ns_len, List.length_reverse]; omega)) ?_
      rw [← ns_rev_app]
      walk_at "stp"
      exact hnx _ _ _ (by rw [h8]; exact g2) ⟨ks.reverse ++ st, _, rfl, upd_same, g1, thru _ (fun y hy => List.mem_append_right _ hy) (fun y hy => by
        obtain ⟨s', ks', e7, e8⟩ := kids_of hk.self hy
        rw [hbi.1] at e7
        cases e7
        exact List.mem_append_left _ (List.mem_reverse.mpr e8)), same_upd f5 hp, rfl⟩
    | _ =>
      subst hbk
      refine iteF ?_
      walk_at "stp"
      exact hnx _ _ _ (by rw [h8]; exact wt_pop) ⟨st, _, rfl, k5, h3.pop, thru _ (fun y hy => hy) (fun y hy => by
        obtain ⟨s', ks', e7, e8⟩ := kids_of hk.self hy
        rw [hbi.1] at e7
        cases e7), f5, rfl⟩
end
section
variable {P : Program} {w : World} {K : PySem.W.Frag} {mg : Str → Option Value} {base : Heap} {t : Ad}
theorem slT2 {K : PySem.W.Frag} {H : Hp} {a : Addr} {x y z : V} {Q : VK} (h : SqT K H a [x, y, z]) (k : ∀ p, H p = none → Q (.ref p) (upd H p (.tup [x, y]))) : mSlT K (.ref a) none (some 2) H Q :=
  ⟨a, _, rfl, h, fun w => absurd w.2 (show ¬ HT.sIx 3 3 (some 2) = 3 by decide), fun _ p hp => k p hp⟩
noncomputable def Bx.k2 : Bx → List Key
  | .num n => [.inr numS, .inl n]
  | .app s _ => [.inr appS, .inr s]
  | _ => []
noncomputable def Bx.ks : Bx → List Nat
  | .app _ ks => ks
  | _ => []
theorem lw_3 {K : PySem.W.Frag} {H : Hp} {u : V} : ∀ {b : Bx}, b.isFree = false → b.isTo = false → Den K H u b.lw → ∃ (a c : Addr) (k1 k2 : Key), u = .ref a ∧ b.k2 = [k1, k2] ∧ SqT K H a [kV k1, kV k2, .ref c] ∧ SqT K H c (nsV b.ks)
  | .num n, _, _, h => by obtain ⟨a, c, rfl, h1, h2⟩ := den_lnum h; exact ⟨a, c, _, _, rfl, rfl, h1, h2⟩
  | .app s ks, _, _, h => by obtain ⟨a, c, rfl, h1, h2⟩ := den_bapp h; exact ⟨a, c, _, _, rfl, rfl, h1, h2⟩
  | .free, z, _, _ => by cases z
  | .to _, _, z, _ => by cases z
theorem key_k2 : ∀ {u v : Bx}, u.isFree = false → u.isTo = false → v.isFree = false → v.isTo = false → (u.key = v.key ↔ u.k2 = v.k2 ∧ u.ks.length = v.ks.length)
  | .num n, .num m, _, _, _, _ => by simp [Bx.key, Bx.k2, Bx.ks]
  | .app s ks, .app t ls, _, _, _, _ => by simp only [Bx.key, Bx.k2, Bx.ks, List.cons.injEq, Sum.inr.injEq, Sum.inl.injEq, and_true, true_and]; exact ⟨fun h => ⟨h.1, by omega⟩, fun h => ⟨h.1, by omega⟩⟩
  | .num n, .app t ls, _, _, _, _ => by simp [Bx.key, Bx.k2, Bx.ks]
  | .app s ks, .num m, _, _, _, _ => by simp [Bx.key, Bx.k2, Bx.ks]
  | .free, _, z, _, _, _ => by cases z
  | .to _, _, _, z, _, _ => by cases z
  | .num _, .free, _, _, z, _ => by cases z
  | .num _, .to _, _, _, _, z => by cases z
  | .app _ _, .free, _, _, z, _ => by cases z
  | .app _ _, .to _, _, _, _, z => by cases z
theorem kz_ks : ∀ {u v : Bx}, u.isFree = false → u.isTo = false → v.isFree = false → v.isTo = false → u.kz v = u.ks.zip v.ks
  | .num n, .num m, _, _, _, _ => rfl
  | .app s ks, .app t ls, _, _, _, _ => rfl
  | .num n, .app t ls, _, _, _, _ => rfl
  | .app s ks, .num m, _, _, _, _ => by simp [Bx.kz, Bx.ks]
  | .free, _, z, _, _, _ => by cases z
  | .to _, _, _, z, _, _ => by cases z
  | .num _, .free, _, _, z, _ => by cases z
  | .num _, .to _, _, _, _, z => by cases z
  | .app _ _, .free, _, _, z, _ => by cases z
  | .app _ _, .to _, _, _, _, z => by cases z
theorem but_own {p k : Addr} {H H' : Hp} {o : HO} (e : But p H H') (h : H k = none) : But p H (upd H' k o) := fun b u n q => by rw [upd_ne (ne_of_none q h)]; exact e b u n q
theorem at_ns {ks : List Nat} {i : Nat} (h : i < ks.length) : atI (nsV ks) (i : Int) = some (.int (ks[i] : Int)) := by
  obtain ⟨v, e1, e2⟩ := atI_lt (xs := nsV ks) (i := (i : Int)) (by omega) (by rw [ns_len]; omega)
  rw [e1, ← e2, Int.toNat_natCast, nsV, List.getElem?_map, List.getElem?_eq_getElem h]
  rfl
theorem LB.upO {K : PySem.W.Frag} {J : Hp} {p D : Addr} {bs : Bs} {o0 : HO} (w : LB K J p bs) (o : HO) (h : J D = some o0) (n1 : ∀ xs, o0 ≠ .tup xs) (n2 : ∀ o xs, o0 ≠ .frz o (.tup xs)) (d : D ≠ p) : LB K (upd J D o) p bs := by
  obtain ⟨us, h1, h2⟩ := w
  exact ⟨us, by rw [upd_ne (Ne.symm d)]; exact h1, h2.monoT (tup_upd h n1 n2)⟩
theorem zip_drop {ks ls : List Nat} (h : ks.length = ls.length) {i : Nat} (hi : i < ks.length) : (ks.zip ls).drop i = (ks[i], ls[i]'(by omega)) :: (ks.zip ls).drop (i + 1) := by
  have hz : i < (ks.zip ls).length := by rw [List.length_zip]; omega
  rw [List.drop_eq_getElem_cons hz, List.getElem_zip]
theorem ok_l_one (T : Txt K mg t) (G_l_led : FnOk P w K mg base CX0 1 t.a_l_led t.d_l_led ["_law_boxes", "_law_k"] (sp_l_led K)) (G_l_within : FnOk P w K mg base CX0 2 t.a_l_within t.d_l_within ["_law_boxes", "_law_k", "_law_free"] (sp_l_within K)) : FnOk P w K mg base CX0 3 t.a_l_one t.d_l_one ["_law_boxes", "_law_one_here", "_law_other"] (sp_l_one K) := by
  refine T.F_l_one.ok sc_l_one (fun vs H Q E h => ?_) (fun cdv A outer s H vs Q E hr h => ?_)
  · unfold sp_l_one at h
    split at h
    · rfl
    · exact h.elim
  unfold sp_l_one at h
  split at h
  rotate_left
  · exact h.elim
  refine ⟨_, (pss_cons (ps_set (i := 3) (hs := sw_lst) sc_l_one.nd rfl (by first | exact Or.inl rfl | exact Or.inr rfl) (pe_lst (pa_con (pe_tup (pa_con (mv 1) (pa_con (mv 2) pa_nil))) pa_nil))) (pss_cons (ps_while PassesOwn.never (mt_cmp mo_gt (pe_callB (kc_len K rfl) rfl T.n_len PySem.boot_len (pa_con (mv 3) pa_nil)) pe_int (nomark _)) (pss_cons (ps_asg (ke_bm0 K rfl PySem.F.plainAttrs_list PySem.F.slot_list_pop PySem.F.type_list_pop mm_pop (mv 3)) (kpg_tup K rfl rfl (pgs_cons (pg_name (i := 1) sc_l_one.nd rfl (by first | exact Or.inl rfl | exact Or.inr rfl)) (pgs_cons (pg_name (i := 2) sc_l_one.nd rfl (by first | exact Or.inl rfl | exact Or.inr rfl)) pgs_nil)))) (pss_cons (ps_set (i := 1) (hs := sw_call) sc_l_one.nd rfl (by first | exact Or.inl rfl | exact Or.inr rfl) (pe_call G_l_led (hr.mono (by first | decide | omega)) rfl T.m_l_led T.F_l_led.kp T.b_l_led .nil pass0 (pa_con (mv 0) (pa_con (mv 1) pa_nil)))) (pss_cons (ps_set (i := 2) (hs := sw_call) sc_l_one.nd rfl (by first | exact Or.inl rfl | exact Or.inr rfl) (pe_call G_l_led (hr.mono (by first | decide | omega)) rfl T.m_l_led T.F_l_led.kp T.b_l_led .nil pass0 (pa_con (mv 0) (pa_con (mv 2) pa_nil)))) (pss_cons (ps_if (PW.pt (pw_and (mt_cmp mo_ne (pe_ix (ki_seq K rfl) (pe_ix (ki_seq K rfl) (mv 0) (mv 1) (fun _ _ => rfl)) pe_int (fun _ _ => rfl)) pe_str (nomark _)) (pw_and1 (mt_cmp mo_eq (pe_ix (ki_seq K rfl) (pe_ix (ki_seq K rfl) (mv 0) (mv 2) (fun _ _ => rfl)) pe_int (fun _ _ => rfl)) pe_str (nomark _))))) (pss_one (ps_par (i := 1) (j := 2) rfl sc_l_one.nd rfl rfl (by decide) rfl rfl (pa_con (mv 2) (pa_con (mv 1) pa_nil)) rfl)) pss_nil) (pss_one (ps_if (mt_cmp mo_eq (pe_ix (ki_seq K rfl) (pe_ix (ki_seq K rfl) (mv 0) (mv 1) (fun _ _ => rfl)) pe_int (fun _ _ => rfl)) pe_str (nomark _)) (pss_cons (ps_if (PW.pt (pw_and (mt_cmp mo_ne (mv 1) (mv 2) (nomark _)) (pw_and1 (kt_tru K rfl (pe_call G_l_within (hr.mono (by first | decide | omega)) rfl T.m_l_within T.F_l_within.kp T.b_l_within .nil pass0 (pa_con (mv 0) (pa_con (mv 2) (pa_con (mv 1) pa_nil)))))))) (pss_one (ps_ret pe_bl)) pss_nil) (pss_one (ps_if (mt_cmp mo_ne (mv 1) (mv 2) (nomark _)) (pss_one (ps_asg (pe_tup (pa_con pe_str (pa_con (mv 2) pa_nil))) (pg_sub (mv 0) (mv 1) set_list))) pss_nil))) (pss_one (ps_if (PW.pt (pw_or (mt_cmp (ko_neKs K rfl (room150 hr)) (pe_slice (ks_tup K rfl) (pe_ix (ki_seq K rfl) (mv 0) (mv 1) (fun _ _ => rfl)) po_none (mp_some pe_int)) (pe_slice (ks_tup K rfl) (pe_ix (ki_seq K rfl) (mv 0) (mv 2) (fun _ _ => rfl)) po_none (mp_some pe_int)) (nomark _)) (pw_or1 (mt_cmp mo_ne (pe_callB (kc_len K rfl) rfl T.n_len PySem.boot_len (pa_con (pe_ix (ki_seq K rfl) (pe_ix (ki_seq K rfl) (mv 0) (mv 1) (fun _ _ => rfl)) pe_int (fun _ _ => rfl)) pa_nil)) (pe_callB (kc_len K rfl) rfl T.n_len PySem.boot_len (pa_con (pe_ix (ki_seq K rfl) (pe_ix (ki_seq K rfl) (mv 0) (mv 2) (fun _ _ => rfl)) pe_int (fun _ _ => rfl)) pa_nil)) (nomark _))))) (pss_one (ps_ret pe_bl)) (pss_one (ps_for PassesOwn.never rfl (pi_rangeD rfl T.n_range (pa_con (pe_op mo_sub (pe_callB (kc_len K rfl) rfl T.n_len PySem.boot_len (pa_con (pe_ix (ki_seq K rfl) (pe_ix (ki_seq K rfl) (mv 0) (mv 1) (fun _ _ => rfl)) pe_int (fun _ _ => rfl)) pa_nil)) pe_int) (pa_con (pe_un mu_neg pe_int) (pa_con (pe_un mu_neg pe_int) pa_nil)))) (pg_name (i := 4) sc_l_one.nd rfl (by first | exact Or.inl rfl | exact Or.inr rfl)) (pss_one (ps_expr (ke_bm K rfl PySem.F.plainAttrs_list PySem.F.slot_list_append PySem.F.type_list_append mm_append (mv 3) (pa_con (pe_tup (pa_con (pe_ix (ki_seq K rfl) (pe_ix (ki_seq K rfl) (pe_ix (ki_seq K rfl) (mv 0) (mv 1) (fun _ _ => rfl)) pe_int (fun _ _ => rfl)) (mv 4) (fun _ _ => rfl)) (pa_con (pe_ix (ki_seq K rfl) (pe_ix (ki_seq K rfl) (pe_ix (ki_seq K rfl) (mv 0) (mv 2) (fun _ _ => rfl)) pe_int (fun _ _ => rfl)) (mv 4) (fun _ _ => rfl)) pa_nil))) pa_nil))))))))))))))) (pss_one (ps_ret pe_bl)))), ?_⟩
  rename_i pl a0 b0
  obtain ⟨bs, n, m, k0, bs', r, lb, rfl, rfl, lim, run, q⟩ := h
  walk_at "stp"
  refine ⟨ln (by show 2 ≤ 100000; decide), fun pq hpq => ?_⟩
  have spq : Same H (upd H pq (.tup [.int (n : Int), .int (m : Int)])) := same_new hpq _
  have kpq : (upd H pq (.tup [.int (n : Int), .int (m : Int)])) pq = some (.tup [.int (n : Int), .int (m : Int)]) := upd_same
  generalize upd H pq (.tup [.int (n : Int), .int (m : Int)]) = H1 at spq kpq ⊢
  walk_at "stp"
  refine ⟨ln (by show 1 ≤ 100000; decide), fun p hp => ?_⟩
  have sp : Same H1 (upd H1 p (.lst [.ref pq])) := same_new hp _
  have kp : (upd H1 p (.lst [.ref pq])) p = some (.lst [.ref pq]) := upd_same
  generalize upd H1 p (.lst [.ref pq]) = H2 at sp kp ⊢
  walk_at "stp"
  have s2 := spq.trans sp
  obtain ⟨us0, hb0, _⟩ := lb
  have hp0 : H p = none := spq.free hp
  have npl : p ≠ pl := fun z => by rw [z, hb0] at hp0; cases hp0
  refine while_row (fun k σ' H' => ∃ (st : List (Nat × Nat)) (bs1 : Bs) (us : List V) (v1 v2 : V) (o4 : Option V), σ' = [some (.ref pl), some v1, some v2, some (.ref p), o4] ∧ H' p = some (.lst us) ∧ DenL K H' us (st.reverse.map prD) ∧ LB K H' pl bs1 ∧ Lim bs1 st ∧ Run k bs1 st bs' r ∧ But pl H H') k0 ⟨[(n, m)], bs, _, _, _, none, rfl, kp, .cons (.tup (SqT.of (sp _ _ kpq)) (.cons (.int _) (.cons (.int _) .nil))) .nil, LB.same ⟨us0, hb0, by assumption⟩ s2, lim, run, s2.but⟩ (fun k σ' H' R hP kT kF => ?_)
  obtain ⟨st, bs1, us, v1, v2, o4, rfl, h1, h2, lb1, h4, h8, f2⟩ := hP
  walk_at "stp"
  refine mLen_l (SqL.of h1) ?_
  walk_at "stp"
  cases st with
  | nil =>
    cases h2
    refine kF H' ?_
    walk_at "stp"
    cases h8
    exact q H' f2 lb1
  | cons p0 st =>
    obtain ⟨x0, y0⟩ := p0
    rw [List.reverse_cons, List.map_append] at h2
    obtain ⟨us, us2, rfl, d1, d2⟩ := denL_split h2
    obtain ⟨u, rfl, d3⟩ : ∃ u, us2 = [u] ∧ Den K H' u (prD (x0, y0)) := by cases d2 with | cons a b => cases b; exact ⟨_, rfl, a⟩
    obtain ⟨ta, rfl, hta⟩ := den_pr d3
    rw [show decide (((us ++ [V.ref ta]).length : Int) > 0) = true by simp]
    refine kT H' (fun D' e4 e5 hnx hct => ?_)
    obtain ⟨a, ha⟩ := h4.wf.end_ (h4.val _ (List.mem_cons_self ..)).1
    obtain ⟨b, hb⟩ := h4.wf.end_ (h4.val _ (List.mem_cons_self ..)).2
    have l1 := h4.len
    walk_at "stp"
    refine ⟨.inl ⟨rfl, _, SqL.of h1⟩, ?_⟩
    walk_at "stp"
    refine mPop_i h1 ?_
    have fJ : But pl H (upd H' p (.lst us)) := but_own f2 hp0
    have lJ : LB K (upd H' p (.lst us)) pl bs1 := lb1.upO _ h1 (fun _ z => by cases z) (fun _ _ z => by cases z) npl
    have tJ : ∀ a xs, SqT K H' a xs → SqT K (upd H' p (.lst us)) a xs := tup_upd h1 (fun _ z => by cases z) (fun _ _ z => by cases z)
    have k5 : (upd H' p (.lst us)) p = some (.lst us) := upd_same
    generalize upd H' p (.lst us) = J at fJ lJ tJ k5 ⊢
    have d1 := d1.monoT tJ
    have hta := tJ _ _ hta
    refine gTup_i hta rfl ?_
    walk_at "stp"
    refine ⟨bs1, x0, a, lJ, h4.wf, rfl, ha, ?_⟩
    walk_at "stp"
    refine ⟨bs1, y0, b, lJ, h4.wf, rfl, hb, ?_⟩
    obtain ⟨u, hu, nu⟩ := ha.is
    obtain ⟨v, hv, nv⟩ := hb.is
    obtain ⟨usl, hbl, hdl⟩ := id lJ
    obtain ⟨au, e1, e2, e3⟩ := den_at hdl hu
    obtain ⟨av, g1, g2, g3⟩ := den_at hdl hv
    obtain ⟨au, us1, rfl, hs⟩ := lw_kind e3
    obtain ⟨av, us2, rfl, gs⟩ := lw_kind g3
    have tu := ha.box hu
    have tv := hb.box hv
    walk_at "stp"
    refine mIx_l (SqL.of hbl) e2 ?_
    walk_at "stp"
    refine mIx_t hs (v := .str u.kind) atI0 ?_
    walk_at "stp"
    rw [kind_free]
    cases hfu : u.isFree with
    | true =>
      have hu2 : bs1[a]? = some .free := by rw [hu]; cases u <;> first | rfl | cases hfu
      refine iteF ?_
      refine iteF ?_
      walk_at "stp"
      refine mIx_l (SqL.of hbl) e2 ?_
      walk_at "stp"
      refine mIx_t hs (v := .str u.kind) atI0 ?_
      walk_at "stp"
      rw [kind_free, hfu]
      refine iteT ?_
      walk_at "stp"
      by_cases hij : a = b
      · subst hij
        rw [show decide (((a : Nat) : Int) = ((a : Nat) : Int)) = true by simp]
        refine iteF ?_
        refine iteF ?_
        walk_at "stp"
        rw [show decide (((a : Nat) : Int) = ((a : Nat) : Int)) = true by simp]
        refine iteF ?_
        walk_at "stp"
        obtain ⟨k2, hk2, run2⟩ := (Eqv.one (A := NoA) ha hb).skip h4.wf _ _ _ _ h8
        exact hnx _ _ k2 hk2 ⟨st, bs1, us, _, _, _, rfl, k5, d1, lJ, h4.pop, run2, fJ⟩
      · obtain ⟨q1, q2⟩ := stp_l hu2 hij
        rw [show decide (((a : Nat) : Int) = ((b : Nat) : Int)) = false from decide_eq_false (by omega)]
        refine iteT ?_
        walk_at "stp"
        refine ⟨bs1, a, b, lJ, l1, h4.wf, rfl, rfl, ha.self, hb.self.lt, fun r2 J2 s2 hr2 => ?_⟩
        walk_at "stp"
        cases r2 with
        | true =>
          refine iteT ?_
          walk_at "stp"
          rcases h8.cons ha hb with ⟨_, rfl, rfl⟩ | ⟨_, _, _, z, _⟩
          · rw [e4]
            exact q J2 (fJ.trans s2.but) (lJ.same s2)
          · rw [q1 (hr2.mp rfl)] at z; cases z
        | false =>
          have hn : ¬ Rch bs1 b a := fun z => by have := hr2.mpr z; cases this
          rcases h8.cons ha hb with ⟨z, _⟩ | ⟨bs3, l3, k3, z, hk3, run3⟩
          · rw [q2 hn] at z; cases z
          have lim2 := h4.step ha hb z
          rw [q2 hn] at z
          cases z
          refine iteF ?_
          walk_at "stp"
          rw [show decide (((a : Nat) : Int) = ((b : Nat) : Int)) = false from decide_eq_false (by omega)]
          refine iteT ?_
          walk_at "stp"
          refine ⟨ln (by show 2 ≤ 100000; decide), fun p3 hp3 => ?_⟩
          have sp3 : Same J2 (upd J2 p3 (.tup [.str (Str.ofString "to"), .int (b : Int)])) := same_new hp3 _
          have kp3 : (upd J2 p3 (.tup [.str (Str.ofString "to"), .int (b : Int)])) p3 = some (.tup [.str (Str.ofString "to"), .int (b : Int)]) := upd_same
          generalize upd J2 p3 (.tup [.str (Str.ofString "to"), .int (b : Int)]) = J3 at sp3 kp3 ⊢
          walk_at "stp"
          obtain ⟨us3, hb3, hd3⟩ := lJ.same (s2.trans sp3)
          walk_at "stp"
          refine ⟨pl, us3, (a : Int), a, rfl, rfl, hb3, ixN_nat (by rw [den_size hd3]; exact ha.self.lt), ?_⟩
          have tJ4 : ∀ aa xs, SqT K J3 aa xs → SqT K (upd J3 pl (.lst (us3.set a (.ref p3)))) aa xs := tup_upd hb3 (fun _ z => by cases z) (fun _ _ z => by cases z)
          refine hnx _ _ k3 hk3 ⟨st, _, us, _, _, _, rfl, by rw [upd_ne npl]; exact sp3 _ _ (s2 _ _ k5), (d1.mono (s2.trans sp3)).monoT tJ4, ⟨_, upd_same, ?_⟩, lim2, run3, (fJ.trans (s2.trans sp3).but).trans (but_upd _)⟩
          rw [List.map_set]
          exact (den_set (d := (Bx.to b).lw) (.tup (SqT.of kp3) (.cons (.str _) (.cons (.int _) .nil))) hd3).monoT tJ4
    | false =>
      refine iteT ?_
      walk_at "stp"
      refine mIx_l (SqL.of hbl) g2 ?_
      walk_at "stp"
      refine mIx_t gs (v := .str v.kind) atI0 ?_
      walk_at "stp"
      rw [kind_free]
      cases hfv : v.isFree with
      | true =>
        have hv2 : bs1[b]? = some .free := by rw [hv]; cases v <;> first | rfl | cases hfv
        have hij : b ≠ a := fun z => by subst z; rw [hu] at hv2; cases hv2; cases hfu
        obtain ⟨q1, q2⟩ := stp_r hu hfu hv2
        refine iteT ?_
        walk_at "stp"
        refine ⟨_, _, rfl, ?_⟩
        walk_at "stp"
        refine mIx_l (SqL.of hbl) g2 ?_
        walk_at "stp"
        refine mIx_t gs (v := .str v.kind) atI0 ?_
        walk_at "stp"
        rw [kind_free, hfv]
        refine iteT ?_
        walk_at "stp"
        rw [show decide (((b : Nat) : Int) = ((a : Nat) : Int)) = false from decide_eq_false (by omega)]
        refine iteT ?_
        walk_at "stp"
        refine ⟨bs1, b, a, lJ, l1, h4.wf, rfl, rfl, hb.self, ha.self.lt, fun r2 J2 s2 hr2 => ?_⟩
        walk_at "stp"
        cases r2 with
        | true =>
          refine iteT ?_
          walk_at "stp"
          rcases h8.cons ha hb with ⟨_, rfl, rfl⟩ | ⟨_, _, _, z, _⟩
          · rw [e4]
            exact q J2 (fJ.trans s2.but) (lJ.same s2)
          · rw [q1 (hr2.mp rfl)] at z; cases z
        | false =>
          have hn : ¬ Rch bs1 a b := fun z => by have := hr2.mpr z; cases this
          rcases h8.cons ha hb with ⟨z, _⟩ | ⟨bs3, l3, k3, z, hk3, run3⟩
          · rw [q2 hn] at z; cases z
          have lim2 := h4.step ha hb z
          rw [q2 hn] at z
          cases z
          refine iteF ?_
          walk_at "stp"
          rw [show decide (((b : Nat) : Int) = ((a : Nat) : Int)) = false from decide_eq_false (by omega)]
          refine iteT ?_
          walk_at "stp"
          refine ⟨ln (by show 2 ≤ 100000; decide), fun p3 hp3 => ?_⟩
          have sp3 : Same J2 (upd J2 p3 (.tup [.str (Str.ofString "to"), .int (a : Int)])) := same_new hp3 _
          have kp3 : (upd J2 p3 (.tup [.str (Str.ofString "to"), .int (a : Int)])) p3 = some (.tup [.str (Str.ofString "to"), .int (a : Int)]) := upd_same
          generalize upd J2 p3 (.tup [.str (Str.ofString "to"), .int (a : Int)]) = J3 at sp3 kp3 ⊢
          walk_at "stp"
          obtain ⟨us3, hb3, hd3⟩ := lJ.same (s2.trans sp3)
          walk_at "stp"
          refine ⟨pl, us3, (b : Int), b, rfl, rfl, hb3, ixN_nat (by rw [den_size hd3]; exact hb.self.lt), ?_⟩
          have tJ4 : ∀ aa xs, SqT K J3 aa xs → SqT K (upd J3 pl (.lst (us3.set b (.ref p3)))) aa xs := tup_upd hb3 (fun _ z => by cases z) (fun _ _ z => by cases z)
          refine hnx _ _ k3 hk3 ⟨st, _, us, _, _, _, rfl, by rw [upd_ne npl]; exact sp3 _ _ (s2 _ _ k5), (d1.mono (s2.trans sp3)).monoT tJ4, ⟨_, upd_same, ?_⟩, lim2, run3, (fJ.trans (s2.trans sp3).but).trans (but_upd _)⟩
          rw [List.map_set]
          exact (den_set (d := (Bx.to a).lw) (.tup (SqT.of kp3) (.cons (.str _) (.cons (.int _) .nil))) hd3).monoT tJ4
      | false =>
        obtain ⟨q1, q2⟩ := stp_k hu hv hfu hfv tu tv
        obtain ⟨au', cu, ku1, ku2, ea, hku, hs3, hc3⟩ := lw_3 hfu tu e3
        cases ea
        obtain ⟨av', cv, kv1, kv2, ea, hkv, gs3, gc3⟩ := lw_3 hfv tv g3
        cases ea
        have kk := key_k2 hfu tu hfv tv
        refine iteF ?_
        walk_at "stp"
        refine mIx_l (SqL.of hbl) e2 ?_
        walk_at "stp"
        refine mIx_t hs (v := .str u.kind) atI0 ?_
        walk_at "stp"
        rw [kind_free, hfu]
        refine iteF ?_
        walk_at "stp"
        refine mIx_l (SqL.of hbl) e2 ?_
        walk_at "stp"
        refine slT2 hs3 (fun p5 hp5 => ?_)
        have s5 := same_new hp5 (.tup [kV ku1, kV ku2])
        have k6 : (upd J p5 (.tup [kV ku1, kV ku2])) p5 = some (.tup ([ku1, ku2].map kV)) := upd_same
        generalize upd J p5 (.tup [kV ku1, kV ku2]) = J5 at s5 k6 ⊢
        walk_at "stp"
        refine mIx_l (SqL.of (s5 _ _ hbl)) g2 ?_
        walk_at "stp"
        refine slT2 (s5.tup gs3) (fun p6 hp6 => ?_)
        have s6 := same_new hp6 (.tup [kV kv1, kV kv2])
        have k7 : (upd J5 p6 (.tup [kV kv1, kV kv2])) p6 = some (.tup ([kv1, kv2].map kV)) := upd_same
        generalize upd J5 p6 (.tup [kV kv1, kV kv2]) = J6 at s6 k7 ⊢
        have s56 := s5.trans s6
        walk_at "stp"
        refine ⟨p5, [ku1, ku2], rfl, SqT.of (s6 _ _ k6), .inr ⟨p6, [kv1, kv2], rfl, SqT.of k7, ?_⟩⟩
        rw [← hku, ← hkv]
        have stop : u.key ≠ v.key → D'.rt (.bl false) J6 := fun hne => by
          rcases h8.cons ha hb with ⟨_, rfl, rfl⟩ | ⟨_, _, _, z, _⟩
          · rw [e4]
            exact q J6 (fJ.trans s56.but) (lJ.same s56)
          · rw [q1 hne] at z; cases z
        walk_at "stp"
        by_cases hk2 : u.k2 = v.k2
        rotate_left
        · rw [decide_eq_false hk2]
          refine iteT ?_
          refine iteT ?_
          walk_at "stp"
          exact stop fun z => hk2 (kk.mp z).1
        rw [decide_eq_true hk2]
        refine iteF ?_
        walk_at "stp"
        refine mIx_l (SqL.of (s56 _ _ hbl)) e2 ?_
        walk_at "stp"
        refine mIx_t (s56.tup hs3) (v := .ref cu) rfl ?_
        walk_at "stp"
        refine mLen_t (s56.tup hc3) ?_
        rw [ns_len]
        walk_at "stp"
        refine mIx_l (SqL.of (s56 _ _ hbl)) g2 ?_
        walk_at "stp"
        refine mIx_t (s56.tup gs3) (v := .ref cv) rfl ?_
        walk_at "stp"
        refine mLen_t (s56.tup gc3) ?_
        rw [ns_len]
        walk_at "stp"
        refine iteB (fun e => ?_) (fun e => ?_)
        · walk_at "stp"
          exact stop fun z => by rw [(kk.mp z).2] at e; simp at e
        have hlen : u.ks.length = v.ks.length := by simp at e; omega
        have hkey := kk.mpr ⟨hk2, hlen⟩
        rcases h8.cons ha hb with ⟨z, _⟩ | ⟨bs3, l3, k3, z, hk3, run3⟩
        · rw [q2 hkey] at z; cases z
        have lim2 := h4.step ha hb z
        rw [q2 hkey] at z
        cases z
        rw [kz_ks hfu tu hfv tv] at run3 lim2
        have ll := lim2.size
        rw [List.length_append, List.length_zip] at ll
        have lu := d1.length
        rw [List.length_map, List.length_reverse] at lu
        walk_at "stp"
        refine mIx_l (SqL.of (s56 _ _ hbl)) e2 ?_
        walk_at "stp"
        refine mIx_t (s56.tup hs3) (v := .ref cu) rfl ?_
        walk_at "stp"
        refine mLen_t (s56.tup hc3) ?_
        rw [ns_len]
        walk_at "stp"
        refine ⟨_, _, rfl, ⟨by omega, by omega, by omega, by omega⟩, ?_⟩
        rw [show ((u.ks.length : Int) - 1 - -1).toNat = u.ks.length by omega]
        refine for_row (row_down _ _) (fun i σ' J7 => ∃ (us7 : List V) (o7 : Option V), σ' = [some (.ref pl), some (.int (a : Int)), some (.int (b : Int)), some (.ref p), o7] ∧ J7 p = some (.lst us7) ∧ DenL K J7 us7 (((u.ks.zip v.ks).drop (u.ks.length - i) ++ st).reverse.map prD) ∧ But p J6 J7) ⟨us, o4, rfl, s56 _ _ k5, ?_, (Same.refl _).but⟩ (fun _ _ _ _ => trivial) (fun i σ' J7 hi hP => ?_) (fun σ' J7 hP => ?_)
        · rw [List.drop_of_length_le (by rw [List.length_zip]; omega), List.nil_append]
          exact d1.mono s56
        · obtain ⟨us7, o7, rfl, g4, g5, g6⟩ := hP
          have k9 := s56 _ _ k5
          have tJ7 : ∀ aa xs, SqT K J6 aa xs → SqT K J7 aa xs := fun _ _ h => g6.tup k9 h
          have g7 := g6 _ _ (Ne.symm npl) (s56 _ _ hbl)
          have lu7 := g5.length
          rw [List.length_map, List.length_reverse, List.length_append, List.length_drop, List.length_zip] at lu7
          have hi1 : u.ks.length - (i + 1) < u.ks.length := by omega
          have hi2 : u.ks.length - (i + 1) < v.ks.length := by omega
          have ei : ((u.ks.length : Int) - 1 - (i : Int)) = ((u.ks.length - (i + 1) : Nat) : Int) := by omega
          rw [ei]
          walk_at "stp"
          refine ⟨.inl ⟨rfl, _, SqL.of g4⟩, ?_⟩
          walk_at "stp"
          refine mIx_l (SqL.of g7) e2 ?_
          walk_at "stp"
          refine mIx_t (tJ7 _ _ (s56.tup hs3)) (v := .ref cu) rfl ?_
          walk_at "stp"
          refine mIx_t (tJ7 _ _ (s56.tup hc3)) (at_ns hi1) ?_
          walk_at "stp"
          refine mIx_l (SqL.of g7) g2 ?_
          walk_at "stp"
          refine mIx_t (tJ7 _ _ (s56.tup gs3)) (v := .ref cv) rfl ?_
          walk_at "stp"
          refine mIx_t (tJ7 _ _ (s56.tup gc3)) (at_ns hi2) ?_
          walk_at "stp"
          refine ⟨ln (by show 2 ≤ 100000; decide), fun p8 hp8 => ?_⟩
          have sp8 : Same J7 (upd J7 p8 (.tup [.int (u.ks[u.ks.length - (i + 1)] : Int), .int (v.ks[u.ks.length - (i + 1)] : Int)])) := same_new hp8 _
          have kp8 : (upd J7 p8 (.tup [.int (u.ks[u.ks.length - (i + 1)] : Int), .int (v.ks[u.ks.length - (i + 1)] : Int)])) p8 = some (.tup [.int (u.ks[u.ks.length - (i + 1)] : Int), .int (v.ks[u.ks.length - (i + 1)] : Int)]) := upd_same
          generalize upd J7 p8 (.tup [.int (u.ks[u.ks.length - (i + 1)] : Int), .int (v.ks[u.ks.length - (i + 1)] : Int)]) = J8 at sp8 kp8 ⊢
          walk_at "stp"
          walk_at "stp"
          refine mAppend_i (sp8 _ _ g4) (ln1 (by omega)) ?_
          walk_at "stp"
          refine ⟨_, _, rfl, upd_same, ?_, (g6.trans sp8.but).trans (but_upd _)⟩
          have e8 := zip_drop hlen hi1
          rw [show u.ks.length - (i + 1) + 1 = u.ks.length - i by omega] at e8
          rw [e8, List.cons_append, List.reverse_cons, List.map_append]
          exact ((g5.mono sp8).append (.cons (.tup (SqT.of kp8) (.cons (.int _) (.cons (.int _) .nil))) .nil)).lst (sp8 _ _ g4)
        · obtain ⟨us7, o7, rfl, g4, g5, g6⟩ := hP
          rw [Nat.sub_self, List.drop_zero] at g5
          have tJ7 : ∀ aa xs, SqT K J6 aa xs → SqT K J7 aa xs := fun _ _ h => g6.tup (s56 _ _ k5) h
          have lJ6 := lJ.same s56
          obtain ⟨us9, g7, g8⟩ := lJ6
          exact hnx _ _ k3 hk3 ⟨_, bs1, us7, _, _, _, rfl, g4, g5, ⟨us9, g6 _ _ (Ne.symm npl) g7, g8.monoT tJ7⟩, lim2, run3, fun c o hc he => g6 _ _ (fun z => by rw [z, hp0] at he; cases he) (s56 _ _ (fJ _ _ hc he))⟩
end
section
variable {P : Program} {w : World} {K : PySem.W.Frag} {mg : Str → Option Value} {base : Heap} {t : Ad}
theorem dep_ns : ∀ ks : List Nat, PyData.depthAll (nsD ks) ≤ 1
  | [] => by simp [PyData.depthAll]
  | k :: ks => by
    have := dep_ns ks
    simp only [nsD, List.map_cons, PyData.depthAll, PyData.depth]
    simp only [nsD] at this
    omega
theorem at_at (bs : Bs) {i : Nat} (h : i < bs.length) : atI (atL bs) (i : Int) = some (.int (i : Int)) := by
  rw [at_ns (by rw [List.length_range]; exact h), List.getElem_range]
theorem den_seen {K : PySem.W.Frag} {H : Hp} {v : V} {e : Nat} : ∀ {b : Bx}, Den K H v (b.seen e) → ∃ (a : Addr) (us : List V) (ds : List PyData), v = .ref a ∧ b.seen e = .tuple ds ∧ SqT K H a us ∧ DenL K H us ds ∧ PyData.depthAll ds ≤ 149
  | .free, h => by cases h with | tup hs hl => exact ⟨_, _, _, rfl, rfl, hs, hl, by simp [PyData.depthAll, PyData.depth]⟩
  | .num n, h => by cases h with | tup hs hl => exact ⟨_, _, _, rfl, rfl, hs, hl, by simp [PyData.depthAll, PyData.depth]⟩
  | .to n, h => by cases h with | tup hs hl => exact ⟨_, _, _, rfl, rfl, hs, hl, by simp [PyData.depthAll, PyData.depth]⟩
  | .app s ks, h => by
    cases h with
    | tup hs hl =>
      refine ⟨_, _, _, rfl, rfl, hs, hl, ?_⟩
      have := dep_ns ks
      simp only [PyData.depthAll, PyData.depth]
      omega
theorem ok_l_same (T : Txt K mg t) (G_l_led : FnOk P w K mg base CX0 1 t.a_l_led t.d_l_led ["_law_boxes", "_law_k"] (sp_l_led K)) (G_Heap_look : FnOk P w K mg base CX0 2 t.a_Heap_look t.d_Heap_look ["self", "at"] (sp_Heap_look K t.k_Heap)) : FnOk P w K mg base CX0 3 t.a_l_same t.d_l_same ["_law_heap", "_law_boxes", "_law_at"] (sp_l_same K t.k_Heap) := by
  refine T.F_l_same.ok sc_l_same (fun vs H Q E h => ?_) (fun cdv A outer s H vs Q E hr h => ?_)
  · unfold sp_l_same at h
    split at h
    · rfl
    · exact h.elim
  unfold sp_l_same at h
  split at h
  rotate_left
  · exact h.elim
  refine ⟨_, (pss_cons (ps_for PassesOwn.never rfl (pi_range1 rfl T.n_range (pa_con (pe_callB (kc_len K rfl) rfl T.n_len PySem.boot_len (pa_con (mv 1) pa_nil)) pa_nil)) (pg_name (i := 3) sc_l_same.nd rfl (by first | exact Or.inl rfl | exact Or.inr rfl)) (pss_cons (ps_set (i := 4) (hs := sw_call) sc_l_same.nd rfl (by first | exact Or.inl rfl | exact Or.inr rfl) (pe_call G_l_led (hr.mono (by first | decide | omega)) rfl T.m_l_led T.F_l_led.kp T.b_l_led .nil pass0 (pa_con (mv 1) (pa_con (mv 3) pa_nil)))) (pss_cons (ps_set (i := 5) (hs := sw_call) sc_l_same.nd rfl (by first | exact Or.inl rfl | exact Or.inr rfl) (pe_meth (mv 0) T.cl_Heap T.me_Heap_look G_Heap_look (hr.mono (by first | decide | omega)) T.b_Heap_look .nil pass0 (pa_con (pe_ix (ki_seq K rfl) (mv 2) (mv 3) (fun _ _ => rfl)) pa_nil))) (pss_one (ps_if (mt_cmp mo_eq (pe_ix (ki_seq K rfl) (pe_ix (ki_seq K rfl) (mv 1) (mv 4) (fun _ _ => rfl)) pe_int (fun _ _ => rfl)) pe_str (nomark _)) (pss_one (ps_if (mt_cmp (ko_neD K rfl (room150 hr)) (mv 5) (pe_tup (pa_con pe_str (pa_con (pe_ix (ki_seq K rfl) (mv 2) (mv 4) (fun _ _ => rfl)) pa_nil))) (nomark _)) (pss_one (ps_ret pe_bl)) pss_nil)) (pss_one (ps_if (mt_cmp mo_eq (pe_ix (ki_seq K rfl) (pe_ix (ki_seq K rfl) (mv 1) (mv 4) (fun _ _ => rfl)) pe_int (fun _ _ => rfl)) pe_str (nomark _)) (pss_one (ps_if (mt_cmp (ko_neD K rfl (room150 hr)) (mv 5) (pe_slice (ks_tup K rfl) (pe_ix (ki_seq K rfl) (mv 1) (mv 4) (fun _ _ => rfl)) po_none (mp_some pe_int)) (nomark _)) (pss_one (ps_ret pe_bl)) pss_nil)) (pss_cons (ps_if (PW.pt (pw_or (mt_cmp mo_ne (pe_callB (kc_len K rfl) rfl T.n_len PySem.boot_len (pa_con (mv 5) pa_nil)) pe_int (nomark _)) (pw_or (mt_cmp (ko_neD K rfl (room150 hr)) (pe_slice (ks_tup K rfl) (mv 5) po_none (mp_some pe_int)) (pe_slice (ks_tup K rfl) (pe_ix (ki_seq K rfl) (mv 1) (mv 4) (fun _ _ => rfl)) po_none (mp_some pe_int)) (nomark _)) (pw_or1 (mt_cmp mo_ne (pe_callB (kc_len K rfl) rfl T.n_len PySem.boot_len (pa_con (pe_ix (ki_seq K rfl) (mv 5) pe_int (fun _ _ => rfl)) pa_nil)) (pe_callB (kc_len K rfl) rfl T.n_len PySem.boot_len (pa_con (pe_ix (ki_seq K rfl) (pe_ix (ki_seq K rfl) (mv 1) (mv 4) (fun _ _ => rfl)) pe_int (fun _ _ => rfl)) pa_nil)) (nomark _)))))) (pss_one (ps_ret pe_bl)) pss_nil) (pss_one (ps_for PassesOwn.never rfl (pi_range1 rfl T.n_range (pa_con (pe_callB (kc_len K rfl) rfl T.n_len PySem.boot_len (pa_con (pe_ix (ki_seq K rfl) (mv 5) pe_int (fun _ _ => rfl)) pa_nil)) pa_nil)) (pg_name (i := 6) sc_l_same.nd rfl (by first | exact Or.inl rfl | exact Or.inr rfl)) (pss_one (ps_if (mt_cmp (ko_neD K rfl (room150 hr)) (pe_meth (mv 0) T.cl_Heap T.me_Heap_look G_Heap_look (hr.mono (by first | decide | omega)) T.b_Heap_look .nil pass0 (pa_con (pe_ix (ki_seq K rfl) (pe_ix (ki_seq K rfl) (mv 5) pe_int (fun _ _ => rfl)) (mv 6) (fun _ _ => rfl)) pa_nil)) (pe_meth (mv 0) T.cl_Heap T.me_Heap_look G_Heap_look (hr.mono (by first | decide | omega)) T.b_Heap_look .nil pass0 (pa_con (pe_ix (ki_seq K rfl) (mv 2) (pe_ix (ki_seq K rfl) (pe_ix (ki_seq K rfl) (pe_ix (ki_seq K rfl) (mv 1) (mv 4) (fun _ _ => rfl)) pe_int (fun _ _ => rfl)) (mv 6) (fun _ _ => rfl)) (fun _ _ => rfl)) pa_nil)) (nomark _)) (pss_one (ps_ret pe_bl)) pss_nil)))))))))))) (pss_one (ps_ret pe_bl))), ?_⟩
  rename_i x pl pa
  obtain ⟨pb, pt, bs, tr, w1, lb, wf, hl, hat, q⟩ := h
  obtain ⟨usl, hbl, hdl⟩ := id lb
  walk_at "stp"
  refine mLen_l (SqL.of hbl) ?_
  rw [den_size hdl]
  walk_at "stp"
  refine ⟨_, rfl, by omega, by omega, ?_⟩
  refine for_row (row_range 0 _) (fun i σ' J => ∃ (o3 o4 o5 o6 : Option V), σ' = [some (.ref x), some (.ref pl), some (.ref pa), o3, o4, o5, o6] ∧ Same H J) ⟨none, none, none, none, rfl, Same.refl _⟩ (fun _ _ _ _ => trivial) (fun i σ' J hi hP => ?_) (fun σ' J hP => ?_)
  rotate_left
  · obtain ⟨o3, o4, o5, o6, rfl, s1⟩ := hP
    walk_at "stp"
    exact q J s1
  obtain ⟨o3, o4, o5, o6, rfl, s1⟩ := hP
  rw [Int.toNat_natCast] at hi
  rw [Int.zero_add]
  have wJ := w1.same s1
  have lJ := lb.same s1
  obtain ⟨dx, ho⟩ := wJ.ob
  obtain ⟨e0, he⟩ := wf.end_ hi
  obtain ⟨u, hu, nu⟩ := he.is
  have tu := he.box hu
  obtain ⟨au, e1, e2, e3⟩ := den_at hdl hu
  obtain ⟨au, us1, rfl, hs⟩ := lw_kind e3
  walk_at "stp"
  refine ⟨bs, i, e0, lJ, wf, rfl, he, ?_⟩
  walk_at "stp"
  refine ⟨x, dx, _, rfl, ho, fs_no, ?_⟩
  walk_at "stp"
  refine mIx_l (SqL.of (s1 _ _ hat)) (at_at bs hi) ?_
  walk_at "stp"
  refine ⟨pb, pt, bs, tr, i, e0, u, wJ, wf, rfl, he, hu, fun v J1 s2 d2 => ?_⟩
  have s3 := s1.trans s2
  walk_at "stp"
  refine mIx_l (SqL.of (s3 _ _ hbl)) e2 ?_
  walk_at "stp"
  refine mIx_t (s3.tup hs) (v := .str u.kind) atI0 ?_
  walk_at "stp"
  rw [kind_free]
  cases u with
  | free =>
    refine iteT ?_
    obtain ⟨av, rfl, hs2⟩ := den_2 (s := freeS) (n := (e0 : Int)) d2
    walk_at "stp"
    refine mIx_l (SqL.of (s3 _ _ hat)) (at_at bs he.lt) ?_
    walk_at "stp"
    refine ⟨ln (by show 2 ≤ 100000; decide), fun p2 hp2 => ?_⟩
    have sp2 : Same J1 (upd J1 p2 (.tup [.str (Str.ofString "free"), .int (e0 : Int)])) := same_new hp2 _
    have kp2 : (upd J1 p2 (.tup [.str (Str.ofString "free"), .int (e0 : Int)])) p2 = some (.tup [.str (Str.ofString "free"), .int (e0 : Int)]) := upd_same
    generalize upd J1 p2 (.tup [.str (Str.ofString "free"), .int (e0 : Int)]) = J2 at sp2 kp2 ⊢
    walk_at "stp"
    refine ⟨av, p2, _, _, [.str freeS, .int (e0 : Int)], rfl, rfl, .inl ⟨sp2.tup hs2, SqT.of kp2⟩, .cons (.str _) (.cons (.int _) .nil), .cons (.str _) (.cons (.int _) .nil), by simp [PyData.depthAll, PyData.depth], ?_⟩
    walk_at "stp"
    refine iteF ?_
    walk_at "stp"
    exact ⟨_, _, _, _, rfl, s3.trans sp2⟩
  | to c => cases tu
  | num n =>
    refine iteF ?_
    obtain ⟨av, rfl, hs2⟩ := den_2 (s := numS) (n := n) d2
    obtain ⟨a', c', ea, hs3, _⟩ := den_lnum (n := n) e3
    cases ea
    walk_at "stp"
    refine mIx_l (SqL.of (s3 _ _ hbl)) e2 ?_
    walk_at "stp"
    refine mIx_t (s3.tup hs3) (v := .str numS) rfl ?_
    walk_at "stp"
    refine iteB (fun e => ?_) (fun e => absurd e (by decide +kernel))
    walk_at "stp"
    refine mIx_l (SqL.of (s3 _ _ hbl)) e2 ?_
    walk_at "stp"
    refine slT2 (s3.tup hs3) (fun p5 hp5 => ?_)
    have s5 := same_new hp5 (.tup [.str numS, .int n])
    have k6 : (upd J1 p5 (.tup [.str numS, .int n])) p5 = some (.tup [.str numS, .int n]) := upd_same
    generalize upd J1 p5 (.tup [.str numS, .int n]) = J5 at s5 k6 ⊢
    walk_at "stp"
    refine ⟨av, p5, _, _, [.str numS, .int n], rfl, rfl, .inl ⟨s5.tup hs2, SqT.of k6⟩, .cons (.str _) (.cons (.int _) .nil), .cons (.str _) (.cons (.int _) .nil), by simp [PyData.depthAll, PyData.depth], ?_⟩
    walk_at "stp"
    refine iteF ?_
    walk_at "stp"
    exact ⟨_, _, _, _, rfl, s3.trans s5⟩
  | app s ks =>
    refine iteF ?_
    obtain ⟨av, bv, rfl, hs2, hc2⟩ := den_bapp (s := s) (ks := ks) d2
    obtain ⟨a', c', ea, hs3, hc3⟩ := den_bapp (s := s) (ks := ks) e3
    cases ea
    have lk := wf.ar _ _ _ hu
    walk_at "stp"
    refine mIx_l (SqL.of (s3 _ _ hbl)) e2 ?_
    walk_at "stp"
    refine mIx_t (s3.tup hs3) (v := .str appS) rfl ?_
    walk_at "stp"
    refine iteB (fun e => absurd e (by decide +kernel)) (fun e => ?_)
    walk_at "stp"
    refine mLen_t hs2 ?_
    walk_at "stp"
    refine iteF ?_
    walk_at "stp"
    refine slT2 hs2 (fun p5 hp5 => ?_)
    have s5 := same_new hp5 (.tup [.str appS, .str s])
    have k6 : (upd J1 p5 (.tup [.str appS, .str s])) p5 = some (.tup [.str appS, .str s]) := upd_same
    generalize upd J1 p5 (.tup [.str appS, .str s]) = J5 at s5 k6 ⊢
    have s35 := s3.trans s5
    walk_at "stp"
    refine mIx_l (SqL.of (s35 _ _ hbl)) e2 ?_
    walk_at "stp"
    refine slT2 (s35.tup hs3) (fun p6 hp6 => ?_)
    have s6 := same_new hp6 (.tup [.str appS, .str s])
    have k7 : (upd J5 p6 (.tup [.str appS, .str s])) p6 = some (.tup [.str appS, .str s]) := upd_same
    generalize upd J5 p6 (.tup [.str appS, .str s]) = J6 at s6 k7 ⊢
    have s36 := s35.trans s6
    have hs4 := s6.tup (s5.tup hs2)
    have hc4 := s6.tup (s5.tup hc2)
    walk_at "stp"
    refine ⟨p5, p6, _, _, [.str appS, .str s], rfl, rfl, .inl ⟨SqT.of (s6 _ _ k6), SqT.of k7⟩, .cons (.str _) (.cons (.str _) .nil), .cons (.str _) (.cons (.str _) .nil), by simp [PyData.depthAll, PyData.depth], ?_⟩
    walk_at "stp"
    refine iteF ?_
    walk_at "stp"
    refine mIx_t hs4 (v := .ref bv) rfl ?_
    walk_at "stp"
    refine mLen_t hc4 ?_
    rw [ns_len]
    walk_at "stp"
    refine mIx_l (SqL.of (s36 _ _ hbl)) e2 ?_
    walk_at "stp"
    refine mIx_t (s36.tup hs3) (v := .ref c') rfl ?_
    walk_at "stp"
    refine mLen_t (s36.tup hc3) ?_
    rw [ns_len]
    walk_at "stp"
    rw [show decide ((ks.length : Int) = (ks.length : Int)) = true by simp]
    refine iteF ?_
    walk_at "stp"
    refine mIx_t hs4 (v := .ref bv) rfl ?_
    walk_at "stp"
    refine mLen_t hc4 ?_
    rw [ns_len]
    walk_at "stp"
    refine ⟨_, rfl, by omega, by omega, ?_⟩
    refine for_row (row_range 0 _) (fun j σ' J7 => ∃ (o6 : Option V), σ' = [some (.ref x), some (.ref pl), some (.ref pa), some (.int (i : Int)), some (.int (e0 : Int)), some (.ref av), o6] ∧ Same J6 J7) ⟨_, rfl, Same.refl _⟩ (fun _ _ _ _ => trivial) (fun j σ' J7 hj hP => ?_) (fun σ' J7 hP => ?_)
    rotate_left
    · obtain ⟨o6, rfl, s7⟩ := hP
      exact ⟨_, _, _, _, rfl, s36.trans s7⟩
    obtain ⟨o6, rfl, s7⟩ := hP
    rw [Int.toNat_natCast] at hj
    rw [Int.zero_add]
    have s37 := s36.trans s7
    have w7 := w1.same s37
    obtain ⟨dx, ho⟩ := w7.ob
    have hkj := wf.inn _ _ (Ed.kid hu (List.getElem_mem hj))
    obtain ⟨f, hf⟩ := wf.end_ hkj
    obtain ⟨z, hz, _⟩ := hf.is
    walk_at "stp"
    refine ⟨x, dx, _, rfl, ho, fs_no, ?_⟩
    walk_at "stp"
    refine mIx_t (s7.tup hs4) (v := .ref bv) rfl ?_
    walk_at "stp"
    refine mIx_t (s7.tup hc4) (at_ns hj) ?_
    walk_at "stp"
    refine ⟨pb, pt, bs, tr, ks[j], f, z, w7, wf, rfl, hf, hz, fun v1 J8 s8 d8 => ?_⟩
    have s38 := s37.trans s8
    have w8 := w1.same s38
    obtain ⟨dx, ho⟩ := w8.ob
    walk_at "stp"
    refine ⟨x, dx, _, rfl, ho, fs_no, ?_⟩
    walk_at "stp"
    refine mIx_l (SqL.of (s38 _ _ hbl)) e2 ?_
    walk_at "stp"
    refine mIx_t (s38.tup hs3) (v := .ref c') rfl ?_
    walk_at "stp"
    refine mIx_t (s38.tup hc3) (at_ns hj) ?_
    walk_at "stp"
    refine mIx_l (SqL.of (s38 _ _ hat)) (at_at bs hkj) ?_
    walk_at "stp"
    refine ⟨pb, pt, bs, tr, ks[j], f, z, w8, wf, rfl, hf, hz, fun v2 J9 s9 d9 => ?_⟩
    obtain ⟨q1, u1, ds1, rfl, ed1, t1, dl1, dp1⟩ := den_seen (d8.mono s9)
    obtain ⟨q2, u2, ds2, rfl, ed2, t2, dl2, _⟩ := den_seen d9
    rw [ed1] at ed2
    cases ed2
    walk_at "stp"
    refine ⟨q1, q2, _, _, ds1, rfl, rfl, .inl ⟨t1, t2⟩, dl1, dl2, dp1, ?_⟩
    walk_at "stp"
    refine iteF ?_
    walk_at "stp"
    exact ⟨_, rfl, s7.trans (s8.trans s9)⟩
end
section
variable {P : Program} {w : World} {K : PySem.W.Frag} {mg : Str → Option Value} {base : Heap} {t : Ad}
theorem strs_at {ws : List Str} {j : Int} (h0 : 0 ≤ j) (h1 : j < (ws.length : Int)) : ∃ z : Str, atI (ws.map V.str) j = some (.str z) := by
  obtain ⟨v, hv, e⟩ := atI_lt (xs := ws.map V.str) h0 (by rw [List.length_map]; exact h1)
  rw [List.getElem?_map] at e
  cases hz : ws[j.toNat]? with
  | none => rw [hz] at e; cases e
  | some z => rw [hz] at e; cases e; exact ⟨z, hv⟩
theorem Wf.add {bs : Bs} (w : Wf bs) {b : Bx} (h1 : ∀ k ∈ b.out, k < bs.length) (h2 : ∀ s ks, b = .app s ks → ks.length ≤ 3) : Wf (bs ++ [b]) := by
  obtain ⟨rk, r1, r2⟩ := w.rank
  have get : ∀ (x : Nat) (u : Bx), (bs ++ [b])[x]? = some u → (x < bs.length ∧ bs[x]? = some u) ∨ (x = bs.length ∧ u = b) := fun x u e => by
    by_cases z : x < bs.length
    · rw [List.getElem?_append_left z] at e; exact .inl ⟨z, e⟩
    · rw [List.getElem?_append_right (by omega)] at e
      have z2 : x - bs.length = 0 := by
        have := (List.getElem?_eq_some_iff.mp e).1
        simp at this
        omega
      rw [z2] at e
      simp at e
      exact .inr ⟨by omega, e.symm⟩
  refine ⟨fun x y h => ?_, fun x s ks h => ?_, fun i => if i = bs.length then bs.length + 1 else rk i, fun x y h => ?_⟩
  · obtain ⟨u, e, m⟩ := h
    rw [List.length_append, List.length_singleton]
    rcases get _ _ e with ⟨_, e⟩ | ⟨_, rfl⟩
    · have := w.inn _ _ ⟨u, e, m⟩; omega
    · have := h1 _ m; omega
  · rcases get _ _ h with ⟨_, e⟩ | ⟨_, e⟩
    · exact w.ar _ _ _ e
    · exact h2 _ _ e.symm
  · obtain ⟨u, e, m⟩ := h
    dsimp only
    rcases get _ _ e with ⟨z, e⟩ | ⟨rfl, rfl⟩
    · have a1 := w.inn _ _ ⟨u, e, m⟩
      have a2 := r2 _ _ ⟨u, e, m⟩
      rw [if_neg (by omega), if_neg (by omega)]
      exact a2
    · have a1 := h1 _ m
      have a2 := r1 y
      rw [if_neg (by omega), if_pos rfl]
      omega
theorem atL_add (bs : Bs) (b : Bx) : atL bs ++ [.int (bs.length : Int)] = atL (bs ++ [b]) := by
  unfold atL
  rw [List.length_append, List.length_singleton, List.range_succ, nsV, nsV, List.map_append]
  rfl
theorem LFr.of {pb pt p q : Addr} {H H' : Hp} (s : Same H H') : LFr pb pt p q H H' := fun b o _ _ _ _ e => s b o e
theorem ok_l_made (T : Txt K mg t) (G_Heap_free : FnOk P w K mg base CX0 2 t.a_Heap_free t.d_Heap_free ["self"] (sp_Heap_free K t.k_Heap)) (G_Heap_number : FnOk P w K mg base CX0 2 t.a_Heap_number t.d_Heap_number ["self", "n"] (sp_Heap_number K t.k_Heap)) (G_Heap_app : FnOk P w K mg base CX0 2 t.a_Heap_app t.d_Heap_app ["self", "sign", "kids"] (sp_Heap_app K t.k_Heap)) : FnOk P w K mg base CX0 3 t.a_l_made t.d_l_made ["_law_heap", "_law_boxes", "_law_at", "_law_cell"] (sp_l_made K t.k_Heap) := by
  refine T.F_l_made.ok sc_l_made (fun vs H Q E h => ?_) (fun cdv A outer s H vs Q E hr h => ?_)
  · unfold sp_l_made at h
    split at h
    · rfl
    · exact h.elim
  unfold sp_l_made at h
  split at h
  rotate_left
  · exact h.elim
  refine ⟨_, (pss_cons (ps_set (i := 4) (hs := sw_bin) sc_l_made.nd rfl (by first | exact Or.inl rfl | exact Or.inr rfl) (pe_op mo_mod (mv 3) pe_int)) (pss_cons (ps_set (i := 3) (hs := sw_bin) sc_l_made.nd rfl (by first | exact Or.inl rfl | exact Or.inr rfl) (pe_op mo_fdiv (mv 3) pe_int)) (pss_one (ps_if (PW.pt (pw_or (mt_cmp mo_lt (mv 4) pe_int (nomark _)) (pw_or1 (mt_cmp mo_lt (pe_callB (kc_len K rfl) rfl T.n_len PySem.boot_len (pa_con (mv 1) pa_nil)) pe_int (nomark _))))) (pss_cons (ps_expr (ke_bm K rfl PySem.F.plainAttrs_list PySem.F.slot_list_append PySem.F.type_list_append mm_append (mv 1) (pa_con (pe_tup (pa_con pe_str pa_nil)) pa_nil))) (pss_one (ps_expr (ke_bm K rfl PySem.F.plainAttrs_list PySem.F.slot_list_append PySem.F.type_list_append mm_append (mv 2) (pa_con (pe_meth0 (mv 0) T.cl_Heap T.me_Heap_free G_Heap_free (hr.mono (by first | decide | omega)) T.b_Heap_free .nil pass0) pa_nil))))) (pss_one (ps_if (mt_cmp mo_lt (mv 4) pe_int (nomark _)) (pss_cons (ps_set (i := 5) (hs := sw_bin) sc_l_made.nd rfl (by first | exact Or.inl rfl | exact Or.inr rfl) (pe_op mo_sub (pe_op mo_mod (mv 3) pe_int) pe_int)) (pss_cons (ps_if (mt_cmp mo_eq (pe_op mo_mod (pe_op mo_fdiv (mv 3) pe_int) pe_int) pe_int (nomark _)) (pss_one (ps_set (i := 5) (hs := sw_bin) sc_l_made.nd rfl (by first | exact Or.inl rfl | exact Or.inr rfl) (pe_op mo_sub (pe_op mo_mod (pe_op mo_mul (mv 3) pe_int) (pe_op mo_sub (pe_op mo_mul pe_int (pe_op mo_pow pe_int pe_int)) pe_int)) (pe_op mo_sub (pe_op mo_pow pe_int pe_int) pe_int)))) pss_nil) (pss_cons (ps_expr (ke_bm K rfl PySem.F.plainAttrs_list PySem.F.slot_list_append PySem.F.type_list_append mm_append (mv 1) (pa_con (pe_tup (pa_con pe_str (pa_con (mv 5) (pa_con (pe_tup pa_nil) pa_nil)))) pa_nil))) (pss_one (ps_expr (ke_bm K rfl PySem.F.plainAttrs_list PySem.F.slot_list_append PySem.F.type_list_append mm_append (mv 2) (pa_con (pe_meth (mv 0) T.cl_Heap T.me_Heap_number G_Heap_number (hr.mono (by first | decide | omega)) T.b_Heap_number .nil pass0 (pa_con (mv 5) pa_nil)) pa_nil))))))) (pss_cons (ps_comp (i := 6) sc_l_made.nd rfl (by first | exact Or.inl rfl | exact Or.inr rfl) rfl (pi_range1 rfl T.n_range (pa_con (pe_op (ko_add K rfl) pe_int (pe_op mo_mod (mv 3) pe_int)) pa_nil)) (comp_sc (defScope s_l_made) ["_law_heap", "_law_boxes", "_law_at", "_law_cell", "_law_way", "_law_n", "_law_kids", "_law_sign"] ["_law_heap", "_law_boxes", "_law_at", "_law_cell", "_law_way", "_law_n", "_law_kids", "_law_sign"] rfl rfl (by decide +kernel)) (fun _ _ _ _ _ => pts_nil) (fun _ _ _ _ _ => (pe_op mo_mod (pe_op mo_fdiv (mv 4) (pe_op (ko_add K rfl) pe_int (pe_op mo_mul pe_int (mv 0)))) (pe_callB (kc_len K rfl) rfl T.n_len PySem.boot_len (pa_con (mv 2) pa_nil))))) (pss_cons (ps_set (i := 7) (hs := sw_sub) sc_l_made.nd rfl (by first | exact Or.inl rfl | exact Or.inr rfl) (pe_ix (ki_seq K rfl) (pe_lst (pa_con pe_str (pa_con pe_str (pa_con pe_str pa_nil)))) (pe_op mo_mod (pe_op mo_fdiv (mv 3) pe_int) pe_int) (fun _ _ => rfl))) (pss_cons (ps_expr (ke_bm K rfl PySem.F.plainAttrs_list PySem.F.slot_list_append PySem.F.type_list_append mm_append (mv 1) (pa_con (pe_tup (pa_con pe_str (pa_con (mv 7) (pa_con (pe_callTy (kc_tuple K rfl) rfl T.n_tuple boot_tuple (pa_con (mv 6) pa_nil)) pa_nil)))) pa_nil))) (pss_one (ps_expr (ke_bm K rfl PySem.F.plainAttrs_list PySem.F.slot_list_append PySem.F.type_list_append mm_append (mv 2) (pa_con (pe_meth (mv 0) T.cl_Heap T.me_Heap_app G_Heap_app (hr.mono (by first | decide | omega)) T.b_Heap_app .nil pass0 (pa_con (mv 7) (pa_con (pe_comp rfl (kpi_list K rfl (mv 6)) (comp_sc (defScope s_l_made) ["_law_heap", "_law_boxes", "_law_at", "_law_cell", "_law_way", "_law_n", "_law_kids", "_law_sign"] ["_law_heap", "_law_boxes", "_law_at", "_law_cell", "_law_way", "_law_n", "_law_kids", "_law_sign"] rfl rfl (by decide +kernel)) (fun _ _ _ _ _ => pts_nil) (fun _ _ _ _ _ => (pe_ix (ki_seq K rfl) (mv 3) (mv 0) (fun _ _ => rfl)))) pa_nil))) pa_nil))))))))))))), ?_⟩
  rename_i x pl pa c
  obtain ⟨pb, pt, bs, tr, w1, ⟨usl, hbl, hdl⟩, wf, hl, hat, four, hc, q⟩ := h
  have put : ∀ (b : Bx) (J : Hp) (v : V), Same H J → Den K J v b.lw → Wf (bs ++ [b]) → ∀ (usl : List V), H pl = some (.lst usl) → DenL K H usl (bs.map Bx.lw) → (HS K t.k_Heap (upd J pl (.lst (usl ++ [v]))) x pb pt bs tr ∧ (upd J pl (.lst (usl ++ [v]))) pa = some (.lst (atL bs)) ∧ (∀ aa xs, SqT K J aa xs → SqT K (upd J pl (.lst (usl ++ [v]))) aa xs) ∧ ∀ (J2 J9 : Hp), Same (upd J pl (.lst (usl ++ [v]))) J9 → HFr pb pt J9 J2 → HS K t.k_Heap J2 x pb pt (bs ++ [b]) tr → J2 pa = some (.lst (atL bs)) ∧ Q .non (upd J2 pa (.lst (atL bs ++ [.int (bs.length : Int)])))) := fun b J v s1 hv wf2 usl hbl hdl => by
    have hJ := s1 _ _ hbl
    have n1 : ∀ xs, (HO.lst usl) ≠ .tup xs := fun _ z => by cases z
    have n2 : ∀ o xs, (HO.lst usl) ≠ .frz o (.tup xs) := fun _ _ z => by cases z
    have tJ := tup_upd (K := K) (o := .lst (usl ++ [v])) hJ n1 n2
    have wJ := (w1.same s1).upO (.lst (usl ++ [v])) hJ n1 n2 (fun _ _ _ z => by cases z) four.1 four.2.1
    have hA : (upd J pl (.lst (usl ++ [v]))) pa = some (.lst (atL bs)) := by rw [upd_ne (Ne.symm four.2.2.2.2)]; exact s1 _ _ hat
    have dl : DenL K (upd J pl (.lst (usl ++ [v]))) (usl ++ [v]) ((bs ++ [b]).map Bx.lw) := by
      rw [List.map_append]
      exact ((hdl.mono s1).monoT tJ).append (.cons (hv.monoT tJ) .nil)
    have hL : (upd J pl (.lst (usl ++ [v]))) pl = some (.lst (usl ++ [v])) := upd_same
    have fr : ∀ b o, b ≠ pl → H b = some o → (upd J pl (.lst (usl ++ [v]))) b = some o := fun b o hb e => by rw [upd_ne hb]; exact s1 _ _ e
    generalize upd J pl (.lst (usl ++ [v])) = J1 at tJ wJ hA dl hL fr ⊢
    refine ⟨wJ, hA, tJ, fun J2 J9 s9 f2 w2 => ?_⟩
    have hA2 := f2 _ _ four.2.2.1 four.2.2.2.1 (s9 _ _ hA)
    have hL2 := f2 _ _ four.1 four.2.1 (s9 _ _ hL)
    have dl2 := (dl.mono s9).monoT ((wJ.same s9).tup f2)
    refine ⟨hA2, q b _ (fun c o h1 h2 h3 h4 e => by rw [upd_ne h4]; exact f2 _ _ h1 h2 (s9 _ _ (fr c o h3 e))) (w2.upO _ hA2 (fun _ z => by cases z) (fun _ _ z => by cases z) (fun _ _ _ z => by cases z) four.2.2.1 four.2.2.2.1) (LB.upO ⟨_, hL2, dl2⟩ _ hA2 (fun _ z => by cases z) (fun _ _ z => by cases z) (Ne.symm four.2.2.2.2)) (by rw [upd_same, atL_add bs b]) wf2⟩
  have hul := den_size hdl
  have hA1 : (atL bs).length < sizeLine := ln1 (by rw [ns_len, List.length_range]; omega)
  have hU1 : usl.length < sizeLine := ln1 (by omega)
  walk_at "stp"
  refine iteB (fun e => ?_) (fun e => ?_)
  · refine iteT ?_
    walk_at "stp"
    refine ⟨.inl ⟨rfl, _, SqL.of hbl⟩, ?_⟩
    walk_at "stp"
    refine ⟨ln (by show 1 ≤ 100000; decide), fun p1 hp1 => ?_⟩
    have sp1 : Same H (upd H p1 (.tup [.str (Str.ofString "free")])) := same_new hp1 _
    have kp1 : (upd H p1 (.tup [.str (Str.ofString "free")])) p1 = some (.tup [.str (Str.ofString "free")]) := upd_same
    generalize upd H p1 (.tup [.str (Str.ofString "free")]) = H1 at sp1 kp1 ⊢
    walk_at "stp"
    refine mAppend_i (sp1 _ _ hbl) hU1 ?_
    obtain ⟨wJ, hA, tJ, fin⟩ := put (.free) H1 (.ref p1) (sp1) (.tup (SqT.of kp1) (.cons (.str _) .nil)) (wf.add (fun k hk => by cases hk) (fun s ks z => by cases z)) usl hbl hdl
    generalize upd H1 pl (.lst (usl ++ [.ref p1])) = J1 at wJ hA tJ fin ⊢
    obtain ⟨dx, ho⟩ := wJ.ob
    walk_at "stp"
    refine ⟨.inl ⟨rfl, _, SqL.of hA⟩, ?_⟩
    walk_at "stp"
    refine ⟨x, dx, _, rfl, ho, fs_no, ?_⟩
    walk_at "stp"
    refine ⟨pb, pt, bs, tr, wJ, by omega, fun J2 f2 w2 => ?_⟩
    obtain ⟨hA2, fin2⟩ := fin J2 _ (Same.refl _) f2 w2
    walk_at "stp"
    refine mAppend_i hA2 hA1 ?_
    walk_at "stp"
    exact fin2
  walk_at "stp"
  refine mLen_l (SqL.of hbl) ?_
  rw [hul]
  walk_at "stp"
  refine iteB (fun e2 => ?_) (fun e2 => ?_)
  · walk_at "stp"
    refine ⟨.inl ⟨rfl, _, SqL.of hbl⟩, ?_⟩
    walk_at "stp"
    refine ⟨ln (by show 1 ≤ 100000; decide), fun p1 hp1 => ?_⟩
    have sp1 : Same H (upd H p1 (.tup [.str (Str.ofString "free")])) := same_new hp1 _
    have kp1 : (upd H p1 (.tup [.str (Str.ofString "free")])) p1 = some (.tup [.str (Str.ofString "free")]) := upd_same
    generalize upd H p1 (.tup [.str (Str.ofString "free")]) = H1 at sp1 kp1 ⊢
    walk_at "stp"
    refine mAppend_i (sp1 _ _ hbl) hU1 ?_
    obtain ⟨wJ, hA, tJ, fin⟩ := put (.free) H1 (.ref p1) (sp1) (.tup (SqT.of kp1) (.cons (.str _) .nil)) (wf.add (fun k hk => by cases hk) (fun s ks z => by cases z)) usl hbl hdl
    generalize upd H1 pl (.lst (usl ++ [.ref p1])) = J1 at wJ hA tJ fin ⊢
    obtain ⟨dx, ho⟩ := wJ.ob
    walk_at "stp"
    refine ⟨.inl ⟨rfl, _, SqL.of hA⟩, ?_⟩
    walk_at "stp"
    refine ⟨x, dx, _, rfl, ho, fs_no, ?_⟩
    walk_at "stp"
    refine ⟨pb, pt, bs, tr, wJ, by omega, fun J2 f2 w2 => ?_⟩
    obtain ⟨hA2, fin2⟩ := fin J2 _ (Same.refl _) f2 w2
    walk_at "stp"
    refine mAppend_i hA2 hA1 ?_
    walk_at "stp"
    exact fin2
  have hn2 : 2 ≤ bs.length := by have := of_decide_eq_false e2; omega
  walk_at "stp"
  refine iteB (fun e3 => ?_) (fun e3 => ?_)
  · walk_at "stp"
    refine iteB (fun e4 => ?_) (fun e4 => ?_)
    · walk_at "stp"
      refine mMul_i (mulOk_right (by decide)) ?_
      walk_at "stp"
      refine m2_i (C := CPow) ⟨by decide, by decide, by decide⟩ ?_
      walk_at "stp"
      refine mMul_i (mulOk_left (by decide)) ?_
      walk_at "stp"
      refine m2_i (C := CPow) ⟨by decide, by decide, by decide⟩ ?_
      walk_at "stp"
      generalize c / 9 * 982451653 % (2 * 10 ^ (30 : Int).toNat - 1) - (10 ^ (30 : Int).toNat - 1) = nn
      walk_at "stp"
      refine ⟨.inl ⟨rfl, _, SqL.of hbl⟩, ?_⟩
      walk_at "stp"
      refine ⟨ln (by show 0 ≤ 100000; decide), fun p0 hp0 => ?_⟩
      have sp0 := same_new hp0 (.tup [])
      have kp0 : (upd H p0 (.tup [])) p0 = some (.tup []) := upd_same
      generalize upd H p0 (.tup []) = H0 at sp0 kp0 ⊢
      walk_at "stp"
      refine ⟨ln (by show 3 ≤ 100000; decide), fun p1 hp1 => ?_⟩
      have sp1 : Same H0 (upd H0 p1 (.tup [.str (Str.ofString "num"), .int (nn), .ref p0])) := same_new hp1 _
      have kp1 : (upd H0 p1 (.tup [.str (Str.ofString "num"), .int (nn), .ref p0])) p1 = some (.tup [.str (Str.ofString "num"), .int (nn), .ref p0]) := upd_same
      generalize upd H0 p1 (.tup [.str (Str.ofString "num"), .int (nn), .ref p0]) = H1 at sp1 kp1 ⊢
      walk_at "stp"
      refine mAppend_i (sp1 _ _ (sp0 _ _ hbl)) hU1 ?_
      obtain ⟨wJ, hA, tJ, fin⟩ := put (.num (nn)) H1 (.ref p1) (sp0.trans sp1) (.tup (SqT.of kp1) (.cons (.str _) (.cons (.int _) (.cons (.tup (SqT.of (sp1 _ _ kp0)) .nil) .nil)))) (wf.add (fun k hk => by cases hk) (fun s ks z => by cases z)) usl hbl hdl
      generalize upd H1 pl (.lst (usl ++ [.ref p1])) = J1 at wJ hA tJ fin ⊢
      obtain ⟨dx, ho⟩ := wJ.ob
      walk_at "stp"
      refine ⟨.inl ⟨rfl, _, SqL.of hA⟩, ?_⟩
      walk_at "stp"
      refine ⟨x, dx, _, rfl, ho, fs_no, ?_⟩
      walk_at "stp"
      refine ⟨pb, pt, bs, tr, wJ, by omega, fun J2 f2 w2 => ?_⟩
      obtain ⟨hA2, fin2⟩ := fin J2 _ (Same.refl _) f2 w2
      walk_at "stp"
      refine mAppend_i hA2 hA1 ?_
      walk_at "stp"
      exact fin2
    · walk_at "stp"
      generalize c / 9 % 3 - 1 = nn
      walk_at "stp"
      refine ⟨.inl ⟨rfl, _, SqL.of hbl⟩, ?_⟩
      walk_at "stp"
      refine ⟨ln (by show 0 ≤ 100000; decide), fun p0 hp0 => ?_⟩
      have sp0 := same_new hp0 (.tup [])
      have kp0 : (upd H p0 (.tup [])) p0 = some (.tup []) := upd_same
      generalize upd H p0 (.tup []) = H0 at sp0 kp0 ⊢
      walk_at "stp"
      refine ⟨ln (by show 3 ≤ 100000; decide), fun p1 hp1 => ?_⟩
      have sp1 : Same H0 (upd H0 p1 (.tup [.str (Str.ofString "num"), .int (nn), .ref p0])) := same_new hp1 _
      have kp1 : (upd H0 p1 (.tup [.str (Str.ofString "num"), .int (nn), .ref p0])) p1 = some (.tup [.str (Str.ofString "num"), .int (nn), .ref p0]) := upd_same
      generalize upd H0 p1 (.tup [.str (Str.ofString "num"), .int (nn), .ref p0]) = H1 at sp1 kp1 ⊢
      walk_at "stp"
      refine mAppend_i (sp1 _ _ (sp0 _ _ hbl)) hU1 ?_
      obtain ⟨wJ, hA, tJ, fin⟩ := put (.num (nn)) H1 (.ref p1) (sp0.trans sp1) (.tup (SqT.of kp1) (.cons (.str _) (.cons (.int _) (.cons (.tup (SqT.of (sp1 _ _ kp0)) .nil) .nil)))) (wf.add (fun k hk => by cases hk) (fun s ks z => by cases z)) usl hbl hdl
      generalize upd H1 pl (.lst (usl ++ [.ref p1])) = J1 at wJ hA tJ fin ⊢
      obtain ⟨dx, ho⟩ := wJ.ob
      walk_at "stp"
      refine ⟨.inl ⟨rfl, _, SqL.of hA⟩, ?_⟩
      walk_at "stp"
      refine ⟨x, dx, _, rfl, ho, fs_no, ?_⟩
      walk_at "stp"
      refine ⟨pb, pt, bs, tr, wJ, by omega, fun J2 f2 w2 => ?_⟩
      obtain ⟨hA2, fin2⟩ := fin J2 _ (Same.refl _) f2 w2
      walk_at "stp"
      refine mAppend_i hA2 hA1 ?_
      walk_at "stp"
      exact fin2
  have m0 := Int.emod_nonneg (c / 9) (show (3 : Int) ≠ 0 by decide)
  have m1 := Int.emod_lt_of_pos (c / 9) (show (0 : Int) < 3 by decide)
  have hc9 : 0 ≤ c / 9 := Int.ediv_nonneg hc (by decide)
  walk_at "stp"
  refine ⟨_, rfl, by omega, by omega, fun D hD => ?_⟩
  refine comp_row (row_range 0 _) (fun i ys J => ∃ ks : List Nat, ys = nsV ks ∧ (∀ k ∈ ks, k < bs.length) ∧ ks.length = i ∧ Same H J ∧ J D = some (.lst ys)) (ln (by omega)) ⟨[], rfl, fun k hk => (by cases hk), rfl, same_new hD _, upd_same⟩ (fun _ _ _ _ => trivial) (fun i ys J Q' hi hl' hP k => ?_) (fun ys J hl' hP => ?_)
  · obtain ⟨ks, rfl, g1, g2, g3, g4⟩ := hP
    walk_at "stp"
    refine mMul_i (mulOk_left (by decide)) ?_
    walk_at "stp"
    refine m2_i (cdiv_i (by omega) (by omega)) ?_
    walk_at "stp"
    refine mLen_l (SqL.of (g3 _ _ hbl)) ?_
    rw [hul]
    walk_at "stp"
    refine m2_i (show (0 : Int) < _ by omega) ?_
    have p1 := Int.emod_nonneg (c / 9 / (5 + 2 * (0 + (i : Int)))) (show ((bs.length : Nat) : Int) ≠ 0 by omega)
    have p2 := Int.emod_lt_of_pos (c / 9 / (5 + 2 * (0 + (i : Int)))) (show (0 : Int) < ((bs.length : Nat) : Int) by omega)
    generalize c / 9 / (5 + 2 * (0 + (i : Int))) % ((bs.length : Nat) : Int) = v at p1 p2 ⊢
    obtain ⟨m, rfl⟩ := Int.eq_ofNat_of_zero_le p1
    refine k _ _ g4 ⟨ks ++ [m], by rw [nsV, nsV, List.map_append]; rfl, fun y hy => ?_, by rw [List.length_append, g2]; rfl, same_upd g3 hD, upd_same⟩
    rcases List.mem_append.mp hy with z | z
    · exact g1 y z
    · rw [List.mem_singleton.mp z]; omega
  obtain ⟨ks, rfl, g1, g2, g3, g4⟩ := hP
  walk_at "stp"
  refine ⟨ln (by show 3 ≤ 100000; decide), fun p5 hp5 => ?_⟩
  have s5 := same_new hp5 (.lst (["f", "f", "gF1"].map fun z => V.str (Str.ofString z)))
  have k5 : (upd J p5 (.lst (["f", "f", "gF1"].map fun z => V.str (Str.ofString z)))) p5 = some (.lst ((["f", "f", "gF1"].map Str.ofString).map V.str)) := upd_same
  have e5 : (.lst [.str (Str.ofString "f"), .str (Str.ofString "f"), .str (Str.ofString "gF1")] : HO) = .lst (["f", "f", "gF1"].map fun z => V.str (Str.ofString z)) := rfl
  rw [e5]
  generalize upd J p5 (.lst (["f", "f", "gF1"].map fun z => V.str (Str.ofString z))) = H5 at s5 k5 ⊢
  walk_at "stp"
  obtain ⟨z, hz⟩ := strs_at (ws := ["f", "f", "gF1"].map Str.ofString) (j := c / 9 / 3 % 3) (Int.emod_nonneg _ (by decide)) (by have := Int.emod_lt_of_pos (c / 9 / 3) (show (0 : Int) < 3 by decide); simpa using this)
  refine mIx_l (SqL.of k5) hz ?_
  have s35 := g3.trans s5
  have lks : ks.length ≤ 3 := by omega
  walk_at "stp"
  refine ⟨.inl ⟨rfl, _, SqL.of (s35 _ _ hbl)⟩, ?_⟩
  walk_at "stp"
  refine mTup_l (SqL.of (s5 _ _ g4)) (fun p6 hp6 => ?_)
  have s6 := same_new hp6 (.tup (nsV ks))
  have k6 : (upd H5 p6 (.tup (nsV ks))) p6 = some (.tup (nsV ks)) := upd_same
  generalize upd H5 p6 (.tup (nsV ks)) = H6 at s6 k6 ⊢
  walk_at "stp"
  refine ⟨ln (by show 3 ≤ 100000; decide), fun p7 hp7 => ?_⟩
  have sp7 : Same H6 (upd H6 p7 (.tup [.str (Str.ofString "app"), .str z, .ref p6])) := same_new hp7 _
  have kp7 : (upd H6 p7 (.tup [.str (Str.ofString "app"), .str z, .ref p6])) p7 = some (.tup [.str (Str.ofString "app"), .str z, .ref p6]) := upd_same
  generalize upd H6 p7 (.tup [.str (Str.ofString "app"), .str z, .ref p6]) = H7 at sp7 kp7 ⊢
  walk_at "stp"
  have s37 := s35.trans (s6.trans sp7)
  refine mAppend_i (s37 _ _ hbl) hU1 ?_
  have nD : D ≠ pl := fun zz => by rw [zz, hbl] at hD; cases hD
  have kD : (upd H7 pl (.lst (usl ++ [.ref p7]))) D = some (.lst (nsV ks)) := by rw [upd_ne nD]; exact sp7 _ _ (s6 _ _ (s5 _ _ g4))
  obtain ⟨wJ, hA, tJ, fin⟩ := put (.app z ks) H7 (.ref p7) s37 (.tup (SqT.of kp7) (.cons (.str _) (.cons (.str _) (.cons (.tup (SqT.of (sp7 _ _ k6)) (ns_den ks)) .nil)))) (wf.add g1 (fun s ks' zz => by cases zz; exact lks)) usl hbl hdl
  generalize upd H7 pl (.lst (usl ++ [.ref p7])) = J1 at wJ hA tJ fin kD ⊢
  obtain ⟨dx, ho⟩ := wJ.ob
  walk_at "stp"
  refine ⟨.inl ⟨rfl, _, SqL.of hA⟩, ?_⟩
  walk_at "stp"
  refine ⟨x, dx, _, rfl, ho, fs_no, ?_⟩
  walk_at "stp"
  refine ⟨D, rfl, ⟨_, SqL.of kD⟩, fun D2 hD2 => ?_⟩
  refine comp_row (row_list (xs := nsV ks)) (fun i ys J => ys = nsV (ks.take i) ∧ Same J1 J ∧ J D2 = some (.lst ys)) (ln (by rw [ns_len]; omega)) ⟨rfl, same_new hD2 _, upd_same⟩ (fun i ys J hP => SqL.of (hP.2.1 _ _ kD)) (fun i ys J Q' hi hl' hP k => ?_) (fun ys J hl' hP => ?_)
  · obtain ⟨rfl, j2, j3⟩ := hP
    rw [ns_len] at hi
    have hg : (nsV ks).getD i .non = .int (ks[i] : Int) := by rw [List.getD_eq_getElem?_getD, nsV, List.getElem?_map, List.getElem?_eq_getElem hi]; rfl
    walk_at "stp"
    rw [hg]
    refine mIx_l (SqL.of (j2 _ _ hA)) (at_at bs (g1 _ (List.getElem_mem hi))) ?_
    refine k _ _ j3 ⟨by rw [List.take_add_one, List.getElem?_eq_getElem hi, nsV, nsV, List.map_append]; rfl, same_upd j2 hD2, upd_same⟩
  obtain ⟨rfl, j2, j3⟩ := hP
  rw [ns_len, List.take_length] at j3
  walk_at "stp"
  refine ⟨pb, pt, bs, tr, ks, wJ.same j2, by omega, by omega, SqL.of j3, fun J2 f2 w2 => ?_⟩
  obtain ⟨hA2, fin2⟩ := fin J2 _ (j2) f2 w2
  walk_at "stp"
  refine mAppend_i hA2 hA1 ?_
  walk_at "stp"
  exact fin2
end
section
variable {P : Program} {w : World} {K : PySem.W.Frag} {mg : Str → Option Value} {base : Heap} {t : Ad}
theorem set_mid {bs bs' : Bs} (h : bs'.length = bs.length) {i : Nat} (hi : i < bs'.length) : (bs'.take i ++ bs.drop i).set i bs'[i] = bs'.take (i + 1) ++ bs.drop (i + 1) := by
  rw [List.set_append_right _ _ (by rw [List.length_take]; omega), List.length_take, Nat.min_eq_left (by omega), Nat.sub_self, List.drop_eq_getElem_cons (show i < bs.length by omega), List.set_cons_zero, List.take_add_one, List.getElem?_eq_getElem hi, List.append_assoc]
  rfl
theorem HS.but {K : PySem.W.Frag} {C : Addr} {J J' : Hp} {x pb pt D : Addr} {bs : Bs} {tr : List Nat} {ys : List V} (w : HS K C J x pb pt bs tr) (f : But D J J') (h : J D = some (.lst ys)) (d1 : D ≠ pb) (d2 : D ≠ pt) : HS K C J' x pb pt bs tr := by
  obtain ⟨⟨dx, h1⟩, ⟨us, h2, h3⟩, h4, h5⟩ := w
  exact ⟨⟨dx, f _ _ (fun z => by rw [z, h] at h1; cases h1) h1⟩, ⟨us, f _ _ (Ne.symm d1) h2, f.denL h h3⟩, f _ _ (Ne.symm d2) h4, h5⟩
theorem run_wf {n : Nat} {bs bs' : Bs} {st : List (Nat × Nat)} {r : Bool} (h : Run n bs st bs' r) (w : Wf bs) (v : ∀ p ∈ st, p.1 < bs.length ∧ p.2 < bs.length) : Wf bs' ∧ bs'.length = bs.length := by
  induction h with
  | nil => exact ⟨w, rfl⟩
  | stop _ _ _ => exact ⟨w, rfl⟩
  | @go n bs bs1 bs' x y a b l st r ha hb hs _ ih =>
    obtain ⟨w1, l1, v1⟩ := stp_wf w ha.lt hb.lt hs
    obtain ⟨w2, l2⟩ := ih w1 (fun p hp => by
      rw [l1]
      rcases List.mem_append.mp hp with z | z
      · exact v1 p z
      · exact v p (List.mem_cons_of_mem _ z))
    exact ⟨w2, by rw [l2, l1]⟩
theorem ok_l_joined (T : Txt K mg t) (G_l_one : FnOk P w K mg base CX0 3 t.a_l_one t.d_l_one ["_law_boxes", "_law_one_here", "_law_other"] (sp_l_one K)) (G_Heap_mark : FnOk P w K mg base CX0 1 t.a_Heap_mark t.d_Heap_mark ["self"] (sp_Heap_mark K t.k_Heap)) (G_Heap_one : FnOk P w K mg base CX0 5 t.a_Heap_one t.d_Heap_one ["self", "at", "other"] (sp_Heap_one K t.k_Heap)) (G_Heap_back_to : FnOk P w K mg base CX0 1 t.a_Heap_back_to t.d_Heap_back_to ["self", "mark"] (sp_Heap_back_to K t.k_Heap)) (G_l_same : FnOk P w K mg base CX0 3 t.a_l_same t.d_l_same ["_law_heap", "_law_boxes", "_law_at"] (sp_l_same K t.k_Heap)) (G_l_size : FnOk P w K mg base CX0 2 t.a_l_size t.d_l_size ["_law_boxes", "_law_k"] (sp_l_size K)) : FnOk P w K mg base CX0 6 t.a_l_joined t.d_l_joined ["_law_heap", "_law_boxes", "_law_at", "_law_cell"] (sp_l_joined K t.k_Heap) := by
  refine T.F_l_joined.ok sc_l_joined (fun vs H Q E h => ?_) (fun cdv A outer s H vs Q E hr h => ?_)
  · unfold sp_l_joined at h
    split at h
    · rfl
    · exact h.elim
  unfold sp_l_joined at h
  split at h
  rotate_left
  · exact h.elim
  refine ⟨_, (pss_cons (ps_comp (i := 4) sc_l_joined.nd rfl (by first | exact Or.inl rfl | exact Or.inr rfl) rfl (pi_range1 rfl T.n_range (pa_con (pe_callB (kc_len K rfl) rfl T.n_len PySem.boot_len (pa_con (mv 1) pa_nil)) pa_nil)) (comp_sc (defScope s_l_joined) ["_law_heap", "_law_boxes", "_law_at", "_law_cell", "_law_some", "_law_one_here", "_law_other", "_law_due", "_law_note", "_law_found", "_law_k"] ["_law_heap", "_law_boxes", "_law_at", "_law_cell", "_law_some", "_law_one_here", "_law_other", "_law_due", "_law_note", "_law_found", "%_law_k"] rfl rfl (by decide +kernel)) (fun _ _ _ _ _ => pts_one (PW.pt (pw_and (mt_cmp mo_eq (pe_ix (ki_seq K rfl) (pe_ix (ki_seq K rfl) (mv 2) (mv 0) (fun _ _ => rfl)) pe_int (fun _ _ => rfl)) pe_str (nomark _)) (pw_and1 (mt_cmp mo_eq (pe_op mo_mod (pe_op mo_fdiv (mv 4) pe_int) pe_int) pe_int (nomark _))))) (fun _ _ z => z)) (fun _ _ _ _ _ => (mv 0))) (pss_cons (ps_if (mt_cmp mo_lt (pe_callB (kc_len K rfl) rfl T.n_len PySem.boot_len (pa_con (mv 4) pa_nil)) pe_int (nomark _)) (pss_one (ps_set (i := 4) (hs := sw_call) sc_l_joined.nd rfl (by first | exact Or.inl rfl | exact Or.inr rfl) (pe_listRng1 rfl rfl T.n_list rfl T.n_range (pa_con (pe_callB (kc_len K rfl) rfl T.n_len PySem.boot_len (pa_con (mv 1) pa_nil)) pa_nil)))) pss_nil) (pss_cons (ps_set (i := 5) (hs := sw_sub) sc_l_joined.nd rfl (by first | exact Or.inl rfl | exact Or.inr rfl) (pe_ix (ki_seq K rfl) (mv 4) (pe_op mo_mod (mv 3) (pe_callB (kc_len K rfl) rfl T.n_len PySem.boot_len (pa_con (mv 4) pa_nil))) (fun _ _ => rfl))) (pss_cons (ps_set (i := 6) (hs := sw_sub) sc_l_joined.nd rfl (by first | exact Or.inl rfl | exact Or.inr rfl) (pe_ix (ki_seq K rfl) (mv 4) (pe_op mo_mod (pe_op mo_fdiv (mv 3) pe_int) (pe_callB (kc_len K rfl) rfl T.n_len PySem.boot_len (pa_con (mv 4) pa_nil))) (fun _ _ => rfl))) (pss_cons (ps_if (PW.pt (pw_or (mt_cmp mo_gt (pe_call G_l_size (hr.mono (by first | decide | omega)) rfl T.m_l_size T.F_l_size.kp T.b_l_size .nil pass0 (pa_con (mv 1) (pa_con (mv 5) pa_nil))) pe_int (nomark _)) (pw_or1 (mt_cmp mo_gt (pe_call G_l_size (hr.mono (by first | decide | omega)) rfl T.m_l_size T.F_l_size.kp T.b_l_size .nil pass0 (pa_con (mv 1) (pa_con (mv 6) pa_nil))) pe_int (nomark _))))) (pss_one (ps_ret pe_bl)) pss_nil) (pss_cons (ps_set (i := 4) (hs := sw_call) sc_l_joined.nd rfl (by first | exact Or.inl rfl | exact Or.inr rfl) (pe_callTy (kc_list K rfl) rfl T.n_list boot_list (pa_con (mv 1) pa_nil))) (pss_cons (ps_set (i := 7) (hs := sw_call) sc_l_joined.nd rfl (by first | exact Or.inl rfl | exact Or.inr rfl) (pe_call G_l_one (hr.mono (by first | decide | omega)) rfl T.m_l_one T.F_l_one.kp T.b_l_one .nil pass0 (pa_con (mv 4) (pa_con (mv 5) (pa_con (mv 6) pa_nil))))) (pss_cons (ps_set (i := 8) (hs := sw_call) sc_l_joined.nd rfl (by first | exact Or.inl rfl | exact Or.inr rfl) (pe_meth0 (mv 0) T.cl_Heap T.me_Heap_mark G_Heap_mark (hr.mono (by first | decide | omega)) T.b_Heap_mark .nil pass0)) (pss_cons (ps_set (i := 9) (hs := sw_call) sc_l_joined.nd rfl (by first | exact Or.inl rfl | exact Or.inr rfl) (pe_meth (mv 0) T.cl_Heap T.me_Heap_one G_Heap_one (hr.mono (by first | decide | omega)) T.b_Heap_one .nil pass0 (pa_con (pe_ix (ki_seq K rfl) (mv 2) (mv 5) (fun _ _ => rfl)) (pa_con (pe_ix (ki_seq K rfl) (mv 2) (mv 6) (fun _ _ => rfl)) pa_nil)))) (pss_cons (ps_if (PW.pt (pw_or (pt_not (kt_tru K rfl (pe_callB (kc_is K rfl) rfl T.n_isinstance boot_isinstance (pa_con (mv 9) (pa_con (pe_bty rfl T.n_bool boot_bool) pa_nil))))) (pw_or1 (mt_cmp mo_ne (mv 9) (mv 7) (nomark _))))) (pss_one (ps_ret pe_bl)) pss_nil) (pss_cons (ps_if (kt_tru K rfl (mv 9)) (pss_cons (ps_for PassesOwn.never rfl (pi_range1 rfl T.n_range (pa_con (pe_callB (kc_len K rfl) rfl T.n_len PySem.boot_len (pa_con (mv 1) pa_nil)) pa_nil)) (pg_name (i := 10) sc_l_joined.nd rfl (by first | exact Or.inl rfl | exact Or.inr rfl)) (pss_one (ps_asg (pe_ix (ki_seq K rfl) (mv 4) (mv 10) (fun _ _ => rfl)) (pg_sub (mv 1) (mv 10) set_list)))) (pss_one (ps_ret pe_bl))) pss_nil) (pss_cons (ps_if (pt_not (kt_tru K rfl (pe_call G_l_same (hr.mono (by first | decide | omega)) rfl T.m_l_same T.F_l_same.kp T.b_l_same .nil pass0 (pa_con (mv 0) (pa_con (mv 4) (pa_con (mv 2) pa_nil)))))) (pss_one (ps_ret pe_bl)) pss_nil) (pss_cons (ps_expr (pe_meth (mv 0) T.cl_Heap T.me_Heap_back_to G_Heap_back_to (hr.mono (by first | decide | omega)) T.b_Heap_back_to .nil pass0 (pa_con (mv 8) pa_nil))) (pss_one (ps_ret (pe_call G_l_same (hr.mono (by first | decide | omega)) rfl T.m_l_same T.F_l_same.kp T.b_l_same .nil pass0 (pa_con (mv 0) (pa_con (mv 1) (pa_con (mv 2) pa_nil))))))))))))))))))), ?_⟩
  rename_i x pl pa c
  obtain ⟨pb, pt, bs, tr, w1, lb, wf, h2l, hl, htr, hall, hat, four, hc, q⟩ := h
  obtain ⟨usl, hbl, hdl⟩ := id lb
  have hul := den_size hdl
  walk_at "stp"
  refine mLen_l (SqL.of hbl) ?_
  rw [hul]
  walk_at "stp"
  refine ⟨_, rfl, by omega, by omega, fun D hD => ?_⟩
  refine comp_rowIf (row_range 0 _) (fun i ys J => Same H J ∧ (∃ ks : List Nat, ys = nsV ks ∧ ∀ k ∈ ks, k < bs.length) ∧ J D = some (.lst ys)) (ln (by omega)) ⟨same_new hD _, ⟨[], rfl, fun k hk => (by cases hk)⟩, upd_same⟩ (fun _ _ _ _ => trivial) (fun i ys J Q' hi hl' hP kt kf => ?_) (fun ys J hl' hP => ?_)
  · obtain ⟨g1, ⟨ks, rfl, g2⟩, g3⟩ := hP
    have hi' : i < bs.length := by omega
    obtain ⟨u, e1, e2, e3⟩ := den_at hdl (List.getElem?_eq_getElem hi')
    obtain ⟨au, us1, rfl, hs⟩ := lw_kind e3
    walk_at "stp"
    rw [Int.zero_add]
    refine mIx_l (SqL.of (g1 _ _ hbl)) e2 ?_
    walk_at "stp"
    refine mIx_t (g1.tup hs) (v := .str bs[i].kind) atI0 ?_
    walk_at "stp"
    refine iteB (fun e => ?_) (fun e => ?_)
    · walk_at "stp"
      cases decide (c / 4096 % 2 = 0) with
      | true =>
        refine kt J (fun Q2 k => ?_)
        walk_at "stp"
        refine k _ _ g3 ⟨same_upd g1 hD, ⟨ks ++ [i], by rw [nsV, nsV, List.map_append, Int.zero_add]; rfl, fun y hy => ?_⟩, upd_same⟩
        rcases List.mem_append.mp hy with z | z
        · exact g2 y z
        · rw [List.mem_singleton.mp z]; exact hi'
      | false => exact kf J ⟨g1, ⟨ks, rfl, g2⟩, g3⟩
    · exact kf J ⟨g1, ⟨ks, rfl, g2⟩, g3⟩
  obtain ⟨sJ, ⟨ks, rfl, hlt⟩, kS⟩ := hP
  walk_at "stp"
  refine mLen_l (SqL.of kS) ?_
  rw [ns_len]
  walk_at "stp"
  refine iteB (fun e => ?_) (fun e => ?_)
  · walk_at "stp"
    refine mLen_l (SqL.of (sJ _ _ hbl)) ?_
    rw [hul]
    refine ⟨_, rfl, ⟨by omega, by omega⟩, fun D2 hD2 => ?_⟩
    rw [Int.toNat_natCast]
    have sn := same_new hD2 (.lst ((List.range bs.length).map fun k : Nat => V.int (k : Int)))
    have sJ' := sJ.trans sn
    have kS' : (upd J D2 (.lst ((List.range bs.length).map fun k : Nat => V.int (k : Int)))) D2 = some (.lst (nsV (List.range bs.length))) := upd_same
    clear kS hlt
    generalize upd J D2 (.lst ((List.range bs.length).map fun k : Nat => V.int (k : Int))) = J' at sJ' kS' sn ⊢
    have hlt : ∀ k ∈ List.range bs.length, k < bs.length := fun k hk => List.mem_range.mp hk
    have hne : List.range bs.length ≠ [] := fun z => by have := congrArg List.length z; rw [List.length_range, List.length_nil] at this; omega
    generalize List.range bs.length = ks at hlt hne kS' ⊢
    have sJ := sJ'
    have kS := kS'
    have hks : 0 < ks.length := by cases ks with | nil => exact absurd rfl hne | cons _ _ => simp
    walk_at "stp"
    refine mLen_l (SqL.of kS) ?_
    rw [ns_len]
    walk_at "stp"
    refine m2_i (show (0 : Int) < _ by omega) ?_
    have p1 := Int.emod_nonneg c (show ((ks.length : Nat) : Int) ≠ 0 by omega)
    have p2 := Int.emod_lt_of_pos c (show (0 : Int) < ((ks.length : Nat) : Int) by omega)
    generalize c % ((ks.length : Nat) : Int) = v1 at p1 p2 ⊢
    obtain ⟨m1, rfl⟩ := Int.eq_ofNat_of_zero_le p1
    have hm1 : m1 < ks.length := by omega
    refine mIx_l (SqL.of kS) (at_ns hm1) ?_
    have b1 := hlt _ (List.getElem_mem hm1)
    generalize ks[m1] = n1 at b1 ⊢
    walk_at "stp"
    refine mLen_l (SqL.of kS) ?_
    rw [ns_len]
    walk_at "stp"
    refine m2_i (show (0 : Int) < _ by omega) ?_
    have p3 := Int.emod_nonneg (c / 64) (show ((ks.length : Nat) : Int) ≠ 0 by omega)
    have p4 := Int.emod_lt_of_pos (c / 64) (show (0 : Int) < ((ks.length : Nat) : Int) by omega)
    generalize c / 64 % ((ks.length : Nat) : Int) = v2 at p3 p4 ⊢
    obtain ⟨m2, rfl⟩ := Int.eq_ofNat_of_zero_le p3
    have hm2 : m2 < ks.length := by omega
    refine mIx_l (SqL.of kS) (at_ns hm2) ?_
    have b2 := hlt _ (List.getElem_mem hm2)
    generalize ks[m2] = n2 at b2 ⊢
    clear kS
    walk_at "stp"
    refine ⟨bs, n1, lb.same sJ, wf, rfl, b1, fun c1 J1 s1 => ?_⟩
    have sJ1 := sJ.trans s1
    have back : ∀ J2, Same H J2 → Q (.bl true) J2 := fun J2 s2 => q bs tr J2 (LFr.of s2) (w1.same s2) (lb.same s2) wf (Up.refl _ _) (by omega)
    walk_at "stp"
    refine iteB (fun e => ?_) (fun e => ?_)
    · refine iteT ?_
      walk_at "stp"
      exact back _ sJ1
    walk_at "stp"
    refine ⟨bs, n2, lb.same sJ1, wf, rfl, b2, fun c2 J2 s2 => ?_⟩
    have sJ2 := sJ1.trans s2
    walk_at "stp"
    refine iteB (fun e => ?_) (fun e => ?_)
    · walk_at "stp"
      exact back _ sJ2
    clear back
    obtain ⟨k0, bs', r, run⟩ := run_ends _ bs (Nat.lt_succ_self _) wf [(n1, n2)] (fun p hp => by rw [List.mem_singleton.mp hp]; exact ⟨b1, b2⟩)
    have lim := Lim.one hl wf b1 b2
    walk_at "stp"
    refine mLst_l (SqL.of (sJ2 _ _ hbl)) (fun pq hpq => ?_)
    have s3 := same_new hpq (.lst usl)
    have k3 : (upd J2 pq (.lst usl)) pq = some (.lst usl) := upd_same
    generalize upd J2 pq (.lst usl) = J3 at s3 k3 ⊢
    have sJ3 := sJ2.trans s3
    have hq0 : H pq = none := sJ2.free hpq
    walk_at "stp"
    refine ⟨bs, n1, n2, k0, bs', r, ⟨usl, k3, hdl.mono sJ3⟩, rfl, rfl, lim, run, fun J4 f4 lb4 => ?_⟩
    have sJ4 : Same H J4 := fun b o e => f4 _ _ (fun z => by rw [z, hq0] at e; cases e) (sJ3 _ _ e)
    have w4 := w1.same sJ4
    obtain ⟨dx, ho⟩ := w4.ob
    walk_at "stp"
    refine ⟨x, dx, _, rfl, ho, fs_no, ?_⟩
    walk_at "stp"
    refine ⟨pb, pt, bs, tr, w4, fun pn J5 s5 hn => ?_⟩
    have sJ5 := sJ4.trans s5
    have w5 := w1.same sJ5
    have lb5 := lb4.same s5
    obtain ⟨dx, ho⟩ := w5.ob
    walk_at "stp"
    refine ⟨x, dx, _, rfl, ho, fs_no, ?_⟩
    walk_at "stp"
    refine mIx_l (SqL.of (sJ5 _ _ hat)) (at_at bs b1) ?_
    walk_at "stp"
    refine mIx_l (SqL.of (sJ5 _ _ hat)) (at_at bs b2) ?_
    walk_at "stp"
    refine ⟨pb, pt, bs, tr, n1, n2, k0, bs', r, w5, rfl, rfl, lim, htr, run, fun tr' J6 f6 w6 up ltr => ?_⟩
    obtain ⟨wf', len'⟩ := run_wf run wf (fun p hp => by rw [List.mem_singleton.mp hp]; exact ⟨b1, b2⟩)
    have q1 : pq ≠ pb := fun z => by obtain ⟨us, hu, _⟩ := w1.bx; rw [z, hu] at hq0; cases hq0
    have q2 : pq ≠ pt := fun z => by rw [z, w1.trl] at hq0; cases hq0
    obtain ⟨us5, h5, d5⟩ := lb5
    have h6 := f6 _ _ q1 q2 h5
    have d6 := d5.monoT (w5.tup f6)
    have hl6 := f6 _ _ four.1 four.2.1 (sJ5 _ _ hbl)
    have hd6 := (hdl.mono sJ5).monoT (w5.tup f6)
    have hn6 := w5.tup f6 _ _ hn
    have ha6 := f6 _ _ four.2.2.1 four.2.2.2.1 (sJ5 _ _ hat)
    have eat : atL bs' = atL bs := by unfold atL; rw [len']
    have fr6 : ∀ b o, b ≠ pb → b ≠ pt → H b = some o → J6 b = some o := fun b o h1 h2 e => f6 _ _ h1 h2 (sJ5 _ _ e)
    walk_at "stp"
    refine iteF ?_
    walk_at "stp"
    rw [show decide (r = r) = true by simp]
    refine iteF ?_
    walk_at "stp"
    cases r with
    | true =>
      have npq : pq ≠ pl := fun z => by rw [z, hbl] at hq0; cases hq0
      refine iteT ?_
      walk_at "stp"
      refine mLen_l (SqL.of hl6) ?_
      rw [hul]
      walk_at "stp"
      refine ⟨_, rfl, by omega, by omega, ?_⟩
      refine for_row (row_range 0 _) (fun i σ' J7 => ∃ (us7 : List V) (o10 : Option V), σ' = [some (.ref x), some (.ref pl), some (.ref pa), some (.int c), some (.ref pq), some (.int (n1 : Int)), some (.int (n2 : Int)), some (.bl true), some (.ref pn), some (.bl true), o10] ∧ J7 pl = some (.lst us7) ∧ DenL K J7 us7 ((bs'.take i ++ bs.drop i).map Bx.lw) ∧ But pl J6 J7) ⟨usl, _, rfl, hl6, hd6, But.refl _ _⟩ (fun _ _ _ _ => trivial) (fun i σ' J7 hi hP => ?_) (fun σ' J7 hP => ?_)
      · obtain ⟨us7, o10, rfl, g1, g2, g3⟩ := hP
        have hi' : i < bs'.length := by omega
        obtain ⟨u, e1, e2, e3⟩ := den_at d6 (List.getElem?_eq_getElem hi')
        have l7 := den_size g2
        rw [List.length_append, List.length_take, List.length_drop] at l7
        walk_at "stp"
        rw [Int.zero_add]
        refine mIx_l (SqL.of (g3 _ _ npq h6)) e2 ?_
        walk_at "stp"
        refine ⟨pl, us7, (i : Int), i, rfl, rfl, g1, ixN_nat (by omega), ?_⟩
        refine ⟨_, _, rfl, upd_same, ?_, g3.trans (but_upd _)⟩
        have e4 := (den_set (a := i) (g3.den hl6 e3) g2).lst (o := .lst (us7.set i u)) g1
        rw [← List.map_set, set_mid len' hi'] at e4
        exact e4
      · obtain ⟨us7, o10, rfl, g1, g2, g3⟩ := hP
        rw [Int.toNat_natCast, ← len', List.take_length, List.drop_of_length_le (by omega), List.append_nil] at g2
        walk_at "stp"
        exact q bs' tr' J7 (fun b o h1 h2 h3 _ e => g3 _ _ h3 (fr6 _ _ h1 h2 e)) (w6.but g3 hl6 four.1 four.2.1) ⟨us7, g1, g2⟩ wf' up ltr
    | false =>
      refine iteF ?_
      walk_at "stp"
      refine ⟨pb, pt, bs', tr', w6, ⟨us5, h6, d6⟩, wf', by omega, by rw [eat]; exact ha6, fun J7 s7 => ?_⟩
      walk_at "stp"
      refine iteF ?_
      have w7 := w6.same s7
      obtain ⟨dx, ho⟩ := w7.ob
      walk_at "stp"
      refine ⟨x, dx, _, rfl, ho, fs_no, ?_⟩
      walk_at "stp"
      refine ⟨pb, pt, bs', tr', bs.length, tr.length, bs, w7, s7.tup hn6, (Mrk.now hall).up up, fun J8 f8 w8 => ?_⟩
      have et : tr'.take tr.length = tr := by obtain ⟨l, rfl, _⟩ := up.ex; simp
      rw [et] at w8
      have f7 : HFr pb pt J6 J8 := (HFr.of s7).trans f8
      have lb8 : LB K J8 pl bs := ⟨usl, f7 _ _ four.1 four.2.1 hl6, hd6.monoT (w6.tup f7)⟩
      walk_at "stp"
      refine ⟨pb, pt, bs, tr, w8, lb8, wf, hl, f7 _ _ four.2.2.1 four.2.2.2.1 ha6, fun J9 s9 => ?_⟩
      exact q bs tr J9 (fun b o h1 h2 _ _ e => s9 _ _ (f7 _ _ h1 h2 (fr6 _ _ h1 h2 e))) (w8.same s9) (lb8.same s9) wf (Up.refl _ _) (by omega)
  have hne : ks ≠ [] := fun z => by rw [z] at e; simp at e
  have hks : 0 < ks.length := by cases ks with | nil => exact absurd rfl hne | cons _ _ => simp
  walk_at "stp"
  refine mLen_l (SqL.of kS) ?_
  rw [ns_len]
  walk_at "stp"
  refine m2_i (show (0 : Int) < _ by omega) ?_
  have p1 := Int.emod_nonneg c (show ((ks.length : Nat) : Int) ≠ 0 by omega)
  have p2 := Int.emod_lt_of_pos c (show (0 : Int) < ((ks.length : Nat) : Int) by omega)
  generalize c % ((ks.length : Nat) : Int) = v1 at p1 p2 ⊢
  obtain ⟨m1, rfl⟩ := Int.eq_ofNat_of_zero_le p1
  have hm1 : m1 < ks.length := by omega
  refine mIx_l (SqL.of kS) (at_ns hm1) ?_
  have b1 := hlt _ (List.getElem_mem hm1)
  generalize ks[m1] = n1 at b1 ⊢
  walk_at "stp"
  refine mLen_l (SqL.of kS) ?_
  rw [ns_len]
  walk_at "stp"
  refine m2_i (show (0 : Int) < _ by omega) ?_
  have p3 := Int.emod_nonneg (c / 64) (show ((ks.length : Nat) : Int) ≠ 0 by omega)
  have p4 := Int.emod_lt_of_pos (c / 64) (show (0 : Int) < ((ks.length : Nat) : Int) by omega)
  generalize c / 64 % ((ks.length : Nat) : Int) = v2 at p3 p4 ⊢
  obtain ⟨m2, rfl⟩ := Int.eq_ofNat_of_zero_le p3
  have hm2 : m2 < ks.length := by omega
  refine mIx_l (SqL.of kS) (at_ns hm2) ?_
  have b2 := hlt _ (List.getElem_mem hm2)
  generalize ks[m2] = n2 at b2 ⊢
  clear kS
  walk_at "stp"
  refine ⟨bs, n1, lb.same sJ, wf, rfl, b1, fun c1 J1 s1 => ?_⟩
  have sJ1 := sJ.trans s1
  have back : ∀ J2, Same H J2 → Q (.bl true) J2 := fun J2 s2 => q bs tr J2 (LFr.of s2) (w1.same s2) (lb.same s2) wf (Up.refl _ _) (by omega)
  walk_at "stp"
  refine iteB (fun e => ?_) (fun e => ?_)
  · refine iteT ?_
    walk_at "stp"
    exact back _ sJ1
  walk_at "stp"
  refine ⟨bs, n2, lb.same sJ1, wf, rfl, b2, fun c2 J2 s2 => ?_⟩
  have sJ2 := sJ1.trans s2
  walk_at "stp"
  refine iteB (fun e => ?_) (fun e => ?_)
  · walk_at "stp"
    exact back _ sJ2
  clear back
  obtain ⟨k0, bs', r, run⟩ := run_ends _ bs (Nat.lt_succ_self _) wf [(n1, n2)] (fun p hp => by rw [List.mem_singleton.mp hp]; exact ⟨b1, b2⟩)
  have lim := Lim.one hl wf b1 b2
  walk_at "stp"
  refine mLst_l (SqL.of (sJ2 _ _ hbl)) (fun pq hpq => ?_)
  have s3 := same_new hpq (.lst usl)
  have k3 : (upd J2 pq (.lst usl)) pq = some (.lst usl) := upd_same
  generalize upd J2 pq (.lst usl) = J3 at s3 k3 ⊢
  have sJ3 := sJ2.trans s3
  have hq0 : H pq = none := sJ2.free hpq
  walk_at "stp"
  refine ⟨bs, n1, n2, k0, bs', r, ⟨usl, k3, hdl.mono sJ3⟩, rfl, rfl, lim, run, fun J4 f4 lb4 => ?_⟩
  have sJ4 : Same H J4 := fun b o e => f4 _ _ (fun z => by rw [z, hq0] at e; cases e) (sJ3 _ _ e)
  have w4 := w1.same sJ4
  obtain ⟨dx, ho⟩ := w4.ob
  walk_at "stp"
  refine ⟨x, dx, _, rfl, ho, fs_no, ?_⟩
  walk_at "stp"
  refine ⟨pb, pt, bs, tr, w4, fun pn J5 s5 hn => ?_⟩
  have sJ5 := sJ4.trans s5
  have w5 := w1.same sJ5
  have lb5 := lb4.same s5
  obtain ⟨dx, ho⟩ := w5.ob
  walk_at "stp"
  refine ⟨x, dx, _, rfl, ho, fs_no, ?_⟩
  walk_at "stp"
  refine mIx_l (SqL.of (sJ5 _ _ hat)) (at_at bs b1) ?_
  walk_at "stp"
  refine mIx_l (SqL.of (sJ5 _ _ hat)) (at_at bs b2) ?_
  walk_at "stp"
  refine ⟨pb, pt, bs, tr, n1, n2, k0, bs', r, w5, rfl, rfl, lim, htr, run, fun tr' J6 f6 w6 up ltr => ?_⟩
  obtain ⟨wf', len'⟩ := run_wf run wf (fun p hp => by rw [List.mem_singleton.mp hp]; exact ⟨b1, b2⟩)
  have q1 : pq ≠ pb := fun z => by obtain ⟨us, hu, _⟩ := w1.bx; rw [z, hu] at hq0; cases hq0
  have q2 : pq ≠ pt := fun z => by rw [z, w1.trl] at hq0; cases hq0
  obtain ⟨us5, h5, d5⟩ := lb5
  have h6 := f6 _ _ q1 q2 h5
  have d6 := d5.monoT (w5.tup f6)
  have hl6 := f6 _ _ four.1 four.2.1 (sJ5 _ _ hbl)
  have hd6 := (hdl.mono sJ5).monoT (w5.tup f6)
  have hn6 := w5.tup f6 _ _ hn
  have ha6 := f6 _ _ four.2.2.1 four.2.2.2.1 (sJ5 _ _ hat)
  have eat : atL bs' = atL bs := by unfold atL; rw [len']
  have fr6 : ∀ b o, b ≠ pb → b ≠ pt → H b = some o → J6 b = some o := fun b o h1 h2 e => f6 _ _ h1 h2 (sJ5 _ _ e)
  walk_at "stp"
  refine iteF ?_
  walk_at "stp"
  rw [show decide (r = r) = true by simp]
  refine iteF ?_
  walk_at "stp"
  cases r with
  | true =>
    have npq : pq ≠ pl := fun z => by rw [z, hbl] at hq0; cases hq0
    refine iteT ?_
    walk_at "stp"
    refine mLen_l (SqL.of hl6) ?_
    rw [hul]
    walk_at "stp"
    refine ⟨_, rfl, by omega, by omega, ?_⟩
    refine for_row (row_range 0 _) (fun i σ' J7 => ∃ (us7 : List V) (o10 : Option V), σ' = [some (.ref x), some (.ref pl), some (.ref pa), some (.int c), some (.ref pq), some (.int (n1 : Int)), some (.int (n2 : Int)), some (.bl true), some (.ref pn), some (.bl true), o10] ∧ J7 pl = some (.lst us7) ∧ DenL K J7 us7 ((bs'.take i ++ bs.drop i).map Bx.lw) ∧ But pl J6 J7) ⟨usl, _, rfl, hl6, hd6, But.refl _ _⟩ (fun _ _ _ _ => trivial) (fun i σ' J7 hi hP => ?_) (fun σ' J7 hP => ?_)
    · obtain ⟨us7, o10, rfl, g1, g2, g3⟩ := hP
      have hi' : i < bs'.length := by omega
      obtain ⟨u, e1, e2, e3⟩ := den_at d6 (List.getElem?_eq_getElem hi')
      have l7 := den_size g2
      rw [List.length_append, List.length_take, List.length_drop] at l7
      walk_at "stp"
      rw [Int.zero_add]
      refine mIx_l (SqL.of (g3 _ _ npq h6)) e2 ?_
      walk_at "stp"
      refine ⟨pl, us7, (i : Int), i, rfl, rfl, g1, ixN_nat (by omega), ?_⟩
      refine ⟨_, _, rfl, upd_same, ?_, g3.trans (but_upd _)⟩
      have e4 := (den_set (a := i) (g3.den hl6 e3) g2).lst (o := .lst (us7.set i u)) g1
      rw [← List.map_set, set_mid len' hi'] at e4
      exact e4
    · obtain ⟨us7, o10, rfl, g1, g2, g3⟩ := hP
      rw [Int.toNat_natCast, ← len', List.take_length, List.drop_of_length_le (by omega), List.append_nil] at g2
      walk_at "stp"
      exact q bs' tr' J7 (fun b o h1 h2 h3 _ e => g3 _ _ h3 (fr6 _ _ h1 h2 e)) (w6.but g3 hl6 four.1 four.2.1) ⟨us7, g1, g2⟩ wf' up ltr
  | false =>
    refine iteF ?_
    walk_at "stp"
    refine ⟨pb, pt, bs', tr', w6, ⟨us5, h6, d6⟩, wf', by omega, by rw [eat]; exact ha6, fun J7 s7 => ?_⟩
    walk_at "stp"
    refine iteF ?_
    have w7 := w6.same s7
    obtain ⟨dx, ho⟩ := w7.ob
    walk_at "stp"
    refine ⟨x, dx, _, rfl, ho, fs_no, ?_⟩
    walk_at "stp"
    refine ⟨pb, pt, bs', tr', bs.length, tr.length, bs, w7, s7.tup hn6, (Mrk.now hall).up up, fun J8 f8 w8 => ?_⟩
    have et : tr'.take tr.length = tr := by obtain ⟨l, rfl, _⟩ := up.ex; simp
    rw [et] at w8
    have f7 : HFr pb pt J6 J8 := (HFr.of s7).trans f8
    have lb8 : LB K J8 pl bs := ⟨usl, f7 _ _ four.1 four.2.1 hl6, hd6.monoT (w6.tup f7)⟩
    walk_at "stp"
    refine ⟨pb, pt, bs, tr, w8, lb8, wf, hl, f7 _ _ four.2.2.1 four.2.2.2.1 ha6, fun J9 s9 => ?_⟩
    exact q bs tr J9 (fun b o h1 h2 _ _ e => s9 _ _ (f7 _ _ h1 h2 (fr6 _ _ h1 h2 e))) (w8.same s9) (lb8.same s9) wf (Up.refl _ _) (by omega)
end
noncomputable abbrev Mt := Nat × Nat × Bs
noncomputable def MkOk (K : PySem.W.Frag) (J : Hp) (ex : List Addr) (bs : Bs) (tr : List Nat) (v : V) (m : Mt) : Prop := ∃ r a b, v = .ref r ∧ SqT K J r [.ref a, .ref b] ∧ SqT K J a [.int (m.1 : Int), .int (m.2.1 : Int)] ∧ LB K J b m.2.2 ∧ b ∉ ex ∧ Mrk bs tr m.1 m.2.1 m.2.2 ∧ Wf m.2.2
structure Mks (K : PySem.W.Frag) (J : Hp) (ex : List Addr) (bs : Bs) (tr : List Nat) (vs : List V) (ms : List Mt) : Prop where
  len : vs.length = ms.length
  ok : ∀ (i : Nat) v m, vs[i]? = some v → ms[i]? = some m → MkOk K J ex bs tr v m
  ch : ms.Pairwise fun m0 m => m0.1 ≤ m.1 ∧ m0.2.1 ≤ m.2.1
theorem MkOk.fr {K : PySem.W.Frag} {J J' : Hp} {ex ex' : List Addr} {bs bs' : Bs} {tr tr' : List Nat} {v : V} {m : Mt} (h : MkOk K J ex bs tr v m) (ht : ∀ a xs, SqT K J a xs → SqT K J' a xs) (hf : ∀ b o, b ∉ ex → J b = some o → J' b = some o) (he : ∀ b us, b ∉ ex → J b = some (.lst us) → b ∉ ex') (hm : Mrk bs tr m.1 m.2.1 m.2.2 → Mrk bs' tr' m.1 m.2.1 m.2.2) : MkOk K J' ex' bs' tr' v m := by
  obtain ⟨r, a, b, e, h1, h2, ⟨us, h3, h4⟩, h5, h6, h7⟩ := h
  exact ⟨r, a, b, e, ht _ _ h1, ht _ _ h2, ⟨us, hf _ _ h5 h3, h4.monoT ht⟩, he _ _ h5 h3, hm h6, h7⟩
theorem Mks.fr {K : PySem.W.Frag} {J J' : Hp} {ex ex' : List Addr} {bs bs' : Bs} {tr tr' : List Nat} {vs : List V} {ms : List Mt} (h : Mks K J ex bs tr vs ms) (ht : ∀ a xs, SqT K J a xs → SqT K J' a xs) (hf : ∀ b o, b ∉ ex → J b = some o → J' b = some o) (he : ∀ b us, b ∉ ex → J b = some (.lst us) → b ∉ ex') (hm : ∀ m ∈ ms, Mrk bs tr m.1 m.2.1 m.2.2 → Mrk bs' tr' m.1 m.2.1 m.2.2) : Mks K J' ex' bs' tr' vs ms :=
  ⟨h.len, fun i v m e1 e2 => (h.ok i v m e1 e2).fr ht hf he (hm m (List.mem_of_getElem? e2)), h.ch⟩
theorem Mks.nil {K : PySem.W.Frag} {J : Hp} {ex : List Addr} {bs : Bs} {tr : List Nat} : Mks K J ex bs tr [] [] := ⟨rfl, fun i v m e => by simp at e, .nil⟩
theorem Mks.take {K : PySem.W.Frag} {J : Hp} {ex : List Addr} {bs : Bs} {tr : List Nat} {vs : List V} {ms : List Mt} (h : Mks K J ex bs tr vs ms) (n : Nat) : Mks K J ex bs tr (vs.take n) (ms.take n) :=
  ⟨by rw [List.length_take, List.length_take, h.len], fun i v m e1 e2 => by
    rw [List.getElem?_take] at e1 e2
    by_cases z : i < n
    · rw [if_pos z] at e1 e2; exact h.ok i v m e1 e2
    · rw [if_neg z] at e1; (cases e1), h.ch.sublist (List.take_sublist _ _)⟩
theorem Mks.snoc {K : PySem.W.Frag} {J : Hp} {ex : List Addr} {bs : Bs} {tr : List Nat} {vs : List V} {ms : List Mt} {v : V} {m : Mt} (h : Mks K J ex bs tr vs ms) (k : MkOk K J ex bs tr v m) (hc : ∀ m0 ∈ ms, m0.1 ≤ m.1 ∧ m0.2.1 ≤ m.2.1) : Mks K J ex bs tr (vs ++ [v]) (ms ++ [m]) := by
  refine ⟨by rw [List.length_append, List.length_append, h.len]; rfl, fun i u mm e1 e2 => ?_, List.pairwise_append.mpr ⟨h.ch, List.pairwise_singleton _ _, fun a ha b hb => by rw [List.mem_singleton.mp hb]; exact hc a ha⟩⟩
  by_cases z : i < vs.length
  · rw [List.getElem?_append_left z] at e1
    rw [List.getElem?_append_left (by rw [← h.len]; exact z)] at e2
    exact h.ok i u mm e1 e2
  · have z1 := (List.getElem?_eq_some_iff.mp e1).1
    rw [List.length_append, List.length_singleton] at z1
    have zi : i = vs.length := by omega
    subst zi
    rw [List.getElem?_append_right (Nat.le_refl _), Nat.sub_self] at e1
    rw [h.len, List.getElem?_append_right (Nat.le_refl _), Nat.sub_self] at e2
    cases e1
    cases e2
    exact k
structure LI (K : PySem.W.Frag) (C : Addr) (J : Hp) (x pb pt pl pa pm pL : Addr) (xs : List V) (bs : Bs) (tr : List Nat) (vs : List V) (ms : List Mt) (i : Nat) : Prop where
  hs : HS K C J x pb pt bs tr
  lb : LB K J pl bs
  ha : J pa = some (.lst (atL bs))
  four : Four pb pt pl pa
  wf : Wf bs
  bl : bs.length ≤ i
  tl : tr.length ≤ 64 * i
  all : ∀ a ∈ tr, a < bs.length
  hm : J pm = some (.lst vs)
  mks : Mks K J [pb, pt, pl, pa, pm] bs tr vs ms
  ml : vs.length ≤ i
  left : J pL = some (.lst xs)
  nm : pm ≠ pb ∧ pm ≠ pt ∧ pm ≠ pl ∧ pm ≠ pa ∧ pm ≠ pL
  nl : pL ≠ pb ∧ pL ≠ pt ∧ pL ≠ pl ∧ pL ≠ pa
theorem Wf.nil : Wf [] := ⟨fun a b ⟨u, e, _⟩ => (by simp at e), fun a s ks e => (by simp at e), ⟨fun _ => 0, fun a b ⟨u, e, _⟩ => (by simp at e)⟩⟩
theorem cut_take (xs : List V) (k : Nat) : cutV xs none (some (k : Int)) = xs.take k := by
  unfold cutV
  rw [sIx_to _ _ (by omega), Int.toNat_natCast]
  show (xs.drop 0).take (min k xs.length - 0) = xs.take k
  rw [List.drop_zero, Nat.sub_zero]
  by_cases h : k ≤ xs.length
  · rw [Nat.min_eq_left h]
  · rw [Nat.min_eq_right (by omega), List.take_length, List.take_of_length_le (by omega)]
theorem at_last (xs : List V) (v : V) : atI (xs ++ [v]) (-1) = some v := by
  unfold atI ixN
  rw [List.length_append, List.length_singleton]
  simp
  rw [if_pos (by omega)]
  simp [show (-1 + ((xs.length : Int) + 1)).toNat = xs.length by omega]
section
variable {K : PySem.W.Frag} {C : Addr} {J J' J2 J3 : Hp} {x pb pt pl pa pm pL : Addr} {xs : List V} {bs : Bs} {tr : List Nat} {vs : List V} {ms : List Mt} {i : Nat}
theorem LI.next (w : LI K C J x pb pt pl pa pm pL xs bs tr vs ms i) : LI K C J x pb pt pl pa pm pL xs bs tr vs ms (i + 1) :=
  ⟨w.hs, w.lb, w.ha, w.four, w.wf, by have := w.bl; omega, by have := w.tl; omega, w.all, w.hm, w.mks, by have := w.ml; omega, w.left, w.nm, w.nl⟩
theorem LI.tup (w : LI K C J x pb pt pl pa pm pL xs bs tr vs ms i) (f : LFr pb pt pl pa J J') : ∀ a ys, SqT K J a ys → SqT K J' a ys := fun a ys q => by
  obtain ⟨us, h1, _⟩ := w.hs.bx
  have h2 := w.hs.trl
  obtain ⟨us3, h3, _⟩ := w.lb
  have h4 := w.ha
  rcases q with (q | ⟨o, q⟩) | q
  · exact .inl (.inl (f _ _ (fun z => by rw [z, h1] at q; cases q) (fun z => by rw [z, h2] at q; cases q) (fun z => by rw [z, h3] at q; cases q) (fun z => by rw [z, h4] at q; cases q) q))
  · exact .inl (.inr ⟨o, f _ _ (fun z => by rw [z, h1] at q; cases q) (fun z => by rw [z, h2] at q; cases q) (fun z => by rw [z, h3] at q; cases q) (fun z => by rw [z, h4] at q; cases q) q⟩)
  · exact .inr q
theorem LI.same (w : LI K C J x pb pt pl pa pm pL xs bs tr vs ms i) (s : Same J J') : LI K C J' x pb pt pl pa pm pL xs bs tr vs ms i :=
  ⟨w.hs.same s, w.lb.same s, s _ _ w.ha, w.four, w.wf, w.bl, w.tl, w.all, s _ _ w.hm, w.mks.fr (fun a ys q => s.tup q) (fun b o _ e => s b o e) (fun b us h _ => h) (fun _ _ h => h), w.ml, s _ _ w.left, w.nm, w.nl⟩
theorem LI.made (w : LI K C J x pb pt pl pa pm pL xs bs tr vs ms i) {b : Bx} (f : LFr pb pt pl pa J J') (h1 : HS K C J' x pb pt (bs ++ [b]) tr) (h2 : LB K J' pl (bs ++ [b])) (h3 : J' pa = some (.lst (atL (bs ++ [b])))) (h4 : Wf (bs ++ [b])) : LI K C J' x pb pt pl pa pm pL xs (bs ++ [b]) tr vs ms (i + 1) := by
  have l := w.bl
  have hn := w.nm
  have hl := w.nl
  refine ⟨h1, h2, h3, w.four, h4, by rw [List.length_append, List.length_singleton]; omega, by have := w.tl; omega, fun a ha => by rw [List.length_append]; have := w.all a ha; omega, f _ _ hn.1 hn.2.1 hn.2.2.1 hn.2.2.2.1 w.hm, ?_, by have := w.ml; omega, f _ _ hl.1 hl.2.1 hl.2.2.1 hl.2.2.2 w.left, hn, hl⟩
  refine w.mks.fr (w.tup f) (fun b o hb e => ?_) (fun b us h _ => h) (fun m _ h => h.make _)
  simp only [List.mem_cons, List.not_mem_nil, or_false, not_or] at hb
  exact f _ _ hb.1 hb.2.1 hb.2.2.1 hb.2.2.2.1 e
theorem LI.joined (w : LI K C J x pb pt pl pa pm pL xs bs tr vs ms i) {bs' : Bs} {tr' : List Nat} (f : LFr pb pt pl pl J J') (h1 : HS K C J' x pb pt bs' tr') (h2 : LB K J' pl bs') (h4 : Wf bs') (u : Up bs tr bs' tr') (ht : tr'.length ≤ tr.length + 64) : LI K C J' x pb pt pl pa pm pL xs bs' tr' vs ms (i + 1) := by
  have l := w.bl
  have hn := w.nm
  have hl := w.nl
  have e := u.len
  have four := w.four
  have f' : LFr pb pt pl pa J J' := fun b o a1 a2 a3 _ e => f b o a1 a2 a3 a3 e
  refine ⟨h1, h2, ?_, four, h4, by omega, by have := w.tl; omega, fun a ha => ?_, f _ _ hn.1 hn.2.1 hn.2.2.1 hn.2.2.1 w.hm, ?_, by have := w.ml; omega, f _ _ hl.1 hl.2.1 hl.2.2.1 hl.2.2.1 w.left, hn, hl⟩
  · have := f _ _ four.2.2.1 four.2.2.2.1 (Ne.symm four.2.2.2.2) (Ne.symm four.2.2.2.2) w.ha
    rw [this]; unfold atL; rw [e]
  · obtain ⟨l, h1, h2, h3⟩ := u.ex
    rw [e]
    rw [h1] at ha
    rcases List.mem_append.mp ha with z | z
    · exact w.all a z
    · exact h3 a z
  · refine w.mks.fr (w.tup f') (fun b o hb e => ?_) (fun b us h _ => h) (fun m _ h => h.up u)
    simp only [List.mem_cons, List.not_mem_nil, or_false, not_or] at hb
    exact f' _ _ hb.1 hb.2.1 hb.2.2.1 hb.2.2.2.1 e
theorem LI.mark (w : LI K C J x pb pt pl pa pm pL xs bs tr vs ms i) {r a b : Addr} (h1 : SqT K J r [.ref a, .ref b]) (h2 : SqT K J a [.int (bs.length : Int), .int (tr.length : Int)]) (h3 : LB K J b bs) (h4 : b ∉ [pb, pt, pl, pa, pm]) : LI K C (upd J pm (.lst (vs ++ [.ref r]))) x pb pt pl pa pm pL xs bs tr (vs ++ [.ref r]) (ms ++ [(bs.length, tr.length, bs)]) (i + 1) := by
  have hn := w.nm
  have hl := w.nl
  have n1 : ∀ ys, HO.lst vs ≠ .tup ys := fun _ z => by cases z
  have n2 : ∀ o ys, HO.lst vs ≠ .frz o (.tup ys) := fun _ _ z => by cases z
  have n3 : ∀ c d fs, HO.lst vs ≠ .ins c d fs := fun _ _ _ z => by cases z
  have tJ := tup_upd (K := K) (o := .lst (vs ++ [.ref r])) w.hm n1 n2
  have ex : ∀ c ∉ [pb, pt, pl, pa, pm], c ≠ pm := fun c hc z => hc (by rw [z]; simp)
  refine ⟨w.hs.upO _ w.hm n1 n2 n3 hn.1 hn.2.1, w.lb.upO _ w.hm n1 n2 hn.2.2.1, by rw [upd_ne (Ne.symm hn.2.2.2.1)]; exact w.ha, w.four, w.wf, by have := w.bl; omega, by have := w.tl; omega, w.all, upd_same, ?_, by rw [List.length_append, List.length_singleton]; have := w.ml; omega, by rw [upd_ne (Ne.symm hn.2.2.2.2)]; exact w.left, hn, hl⟩
  refine Mks.snoc (w.mks.fr tJ (fun c o hc e => by rw [upd_ne (ex c hc)]; exact e) (fun b us h _ => h) (fun m _ h => h)) ⟨r, a, b, rfl, tJ _ _ h1, tJ _ _ h2, h3.upO _ w.hm n1 n2 (Ne.symm (ex b h4)), h4, Mrk.now w.all, w.wf⟩ (fun m0 hm0 => ?_)
  obtain ⟨k, hk⟩ := List.mem_iff_getElem?.mp hm0
  have hk1 := (List.getElem?_eq_some_iff.mp hk).1
  rw [← w.mks.len] at hk1
  obtain ⟨_, _, _, _, _, _, _, _, m, _⟩ := w.mks.ok k _ m0 (List.getElem?_eq_getElem hk1) hk
  exact ⟨m.nl, m.tl⟩
theorem LI.cut (w : LI K C J x pb pt pl pa pm pL xs bs tr vs ms i) {p : Addr} (hp : J p = none) (k : Nat) : LI K C (upd J p (.lst (vs.take k))) x pb pt pl pa p pL xs bs tr (vs.take k) (ms.take k) i := by
  have w' := w.same (same_new hp (.lst (vs.take k)))
  obtain ⟨us, e1, _⟩ := w.hs.bx
  have e2 := w.hs.trl
  obtain ⟨us3, e3, _⟩ := w.lb
  have e4 := w.ha
  have e5 := w.left
  have ne : ∀ {q o}, J q = some o → p ≠ q := fun e z => by rw [← z, hp] at e; cases e
  refine ⟨w'.hs, w'.lb, w'.ha, w'.four, w'.wf, w'.bl, w'.tl, w'.all, upd_same, ?_, by rw [List.length_take]; have := w.ml; omega, w'.left, ⟨ne e1, ne e2, ne e3, ne e4, ne e5⟩, w.nl⟩
  have s := same_new hp (.lst (vs.take k))
  refine (w.mks.take k).fr (fun a ys q => s.tup q) (fun b o _ e => s b o e) (fun b us h e => ?_) (fun _ _ h => h)
  simp only [List.mem_cons, List.not_mem_nil, or_false, not_or] at h ⊢
  exact ⟨h.1, h.2.1, h.2.2.1, h.2.2.2.1, Ne.symm (ne e)⟩
theorem Mks.top {ex : List Addr} {vs0 : List V} {ms0 : List Mt} {v : V} {m : Mt} (h : Mks K J ex bs tr (vs0 ++ [v]) (ms0 ++ [m])) : MkOk K J ex bs tr v m ∧ ∀ m0 ∈ ms0 ++ [m], m0.1 ≤ m.1 ∧ m0.2.1 ≤ m.2.1 := by
  have l := h.len
  rw [List.length_append, List.length_append, List.length_singleton, List.length_singleton] at l
  have l : vs0.length = ms0.length := by omega
  refine ⟨h.ok vs0.length v m (by simp) (by rw [l]; simp), fun m0 hm0 => ?_⟩
  rcases List.mem_append.mp hm0 with z | z
  · exact (List.pairwise_append.mp h.ch).2.2 m0 z m (by simp)
  · rw [List.mem_singleton.mp z]; exact ⟨Nat.le_refl _, Nat.le_refl _⟩
theorem Mks.back {vs0 : List V} {ms0 : List Mt} {v : V} {m : Mt} (h : Mks K J [pb, pt, pl, pa, pm] bs tr (vs0 ++ [v]) (ms0 ++ [m])) (hw : HS K C J x pb pt bs tr) (f : HFr pb pt J J') : Mks K J' [pb, pt, pl, pa, pm] m.2.2 (tr.take m.2.1) (vs0 ++ [v]) (ms0 ++ [m]) := by
  obtain ⟨⟨_, _, _, _, _, _, _, _, mt, _⟩, hc⟩ := h.top
  refine h.fr (hw.tup f) (fun b o hb e => ?_) (fun b us h _ => h) (fun m0 hm0 k0 => mt.back k0 (hc m0 hm0).1 (hc m0 hm0).2)
  simp only [List.mem_cons, List.not_mem_nil, or_false, not_or] at hb
  exact f _ _ hb.1 hb.2.1 e
theorem LI.back (w : LI K C J x pb pt pl pa pm pL xs bs tr vs ms i) {sv : Bs} {tr2 : List Nat} {pl' pa' : Addr} (f : HFr pb pt J J2) (w2 : HS K C J2 x pb pt sv tr2) (k2 : Mks K J2 [pb, pt, pl, pa, pm] sv tr2 vs ms) (wf : Wf sv) (hl : sv.length ≤ i) (ht : tr2.length ≤ 64 * i) (hall : ∀ a ∈ tr2, a < sv.length) (s : Same J2 J3) (lb : LB K J3 pl' sv) (hat : J3 pa' = some (.lst (atL sv))) (n1 : J2 pl' = none) (n2 : J2 pa' = none) (n3 : pl' ≠ pa') : LI K C J3 x pb pt pl' pa' pm pL xs sv tr2 vs ms i := by
  have ne : ∀ {p q o}, J2 p = none → J2 q = some o → p ≠ q := fun e0 e z => by rw [← z, e0] at e; cases e
  obtain ⟨us, e1, _⟩ := w2.bx
  have e2 := w2.trl
  have hn := w.nm
  have hl' := w.nl
  have e3 := f _ _ hn.1 hn.2.1 w.hm
  have e4 := f _ _ hl'.1 hl'.2.1 w.left
  refine ⟨w2.same s, lb, hat, ⟨ne n1 e1, ne n1 e2, ne n2 e1, ne n2 e2, n3⟩, wf, hl, ht, hall, s _ _ e3, ?_, w.ml, s _ _ e4, ⟨hn.1, hn.2.1, Ne.symm (ne n1 e3), Ne.symm (ne n2 e3), hn.2.2.2.2⟩, ⟨hl'.1, hl'.2.1, Ne.symm (ne n1 e4), Ne.symm (ne n2 e4)⟩⟩
  refine k2.fr (fun a ys q => s.tup q) (fun b o _ e => s b o e) (fun b us h e => ?_) (fun _ _ h => h)
  simp only [List.mem_cons, List.not_mem_nil, or_false, not_or] at h ⊢
  exact ⟨h.1, h.2.1, Ne.symm (ne n1 e), Ne.symm (ne n2 e), h.2.2.2.2⟩
theorem take_range (n m : Nat) (h : n ≤ m) : (List.range m).take n = List.range n := by
  rw [List.take_range, Nat.min_eq_left h]
theorem at_take {sv : Bs} (h : sv.length ≤ bs.length) : (atL bs).take sv.length = atL sv := by
  unfold atL nsV
  rw [← List.map_take, take_range _ _ h]
end
section
variable {P : Program} {w : World} {K : PySem.W.Frag} {mg : Str → Option Value} {base : Heap} {t : Ad}
theorem ints_getD {u : List Int} {i : Nat} (hi : i < u.length) : (u.map V.int).getD i .non = .int u[i] := by rw [List.getD_eq_getElem?_getD, List.getElem?_map, List.getElem?_eq_getElem hi]; rfl
theorem LI.fresh {K : PySem.W.Frag} {C : Addr} {J : Hp} {x pb pt pl pa pm pL : Addr} {xs : List V} {bs : Bs} {tr : List Nat} {vs : List V} {ms : List Mt} {i : Nat} (w : LI K C J x pb pt pl pa pm pL xs bs tr vs ms i) {p : Addr} (hp : J p = none) : p ∉ [pb, pt, pl, pa, pm] := by
  obtain ⟨us, e1, _⟩ := w.hs.bx
  have e2 := w.hs.trl
  obtain ⟨us3, e3, _⟩ := w.lb
  have e4 := w.ha
  have e5 := w.hm
  have ne : ∀ {q o}, J q = some o → p ≠ q := fun e z => by rw [← z, hp] at e; cases e
  simp only [List.mem_cons, List.not_mem_nil, or_false, not_or]
  exact ⟨ne e1, ne e2, ne e3, ne e4, ne e5⟩
theorem LI.ob {K : PySem.W.Frag} {C : Addr} {J : Hp} {x pb pt pl pa pm pL : Addr} {xs : List V} {bs : Bs} {tr : List Nat} {vs : List V} {ms : List Mt} {i : Nat} (w : LI K C J x pb pt pl pa pm pL xs bs tr vs ms i) : ∃ dx, J x = some (.ins C dx (fsH pb pt)) := w.hs.ob
theorem ok_law (T : Txt K mg t) (G_Heap_init : FnOk P w K mg base CX0 1 t.a_Heap_init t.d_Heap_init ["self"] (sp_Heap_init K t.k_Heap)) (G_l_same : FnOk P w K mg base CX0 3 t.a_l_same t.d_l_same ["_law_heap", "_law_boxes", "_law_at"] (sp_l_same K t.k_Heap)) (G_l_made : FnOk P w K mg base CX0 3 t.a_l_made t.d_l_made ["_law_heap", "_law_boxes", "_law_at", "_law_cell"] (sp_l_made K t.k_Heap)) (G_l_joined : FnOk P w K mg base CX0 6 t.a_l_joined t.d_l_joined ["_law_heap", "_law_boxes", "_law_at", "_law_cell"] (sp_l_joined K t.k_Heap)) (G_Heap_back_to : FnOk P w K mg base CX0 1 t.a_Heap_back_to t.d_Heap_back_to ["self", "mark"] (sp_Heap_back_to K t.k_Heap)) (G_Heap_mark : FnOk P w K mg base CX0 1 t.a_Heap_mark t.d_Heap_mark ["self"] (sp_Heap_mark K t.k_Heap)) : FnOk P w K mg base CX0 7 t.a_law t.d_law ["_law_script"] (sp_law K) := by
  refine T.F_law.ok sc_law (fun vs H Q E h => ?_) (fun cdv A outer s H vs Q E hr h => ?_)
  · unfold sp_law at h
    split at h
    · rfl
    · exact h.elim
  unfold sp_law at h
  split at h
  rotate_left
  · exact h.elim
  refine ⟨_, (pss_cons (ps_comp (i := 1) sc_law.nd rfl (by first | exact Or.inl rfl | exact Or.inr rfl) rfl (kpi_list K rfl (pe_slice (ks_list K rfl) (mv 0) po_none (mp_some pe_int))) (comp_sc (defScope s_law) ["_law_script", "_law_left", "_law_heap", "_law_boxes", "_law_at", "_law_marks", "_law_cell", "_law_way", "_law_k"] ["_law_script", "_law_left", "_law_heap", "_law_boxes", "_law_at", "_law_marks", "%_law_cell", "_law_way", "_law_k"] rfl rfl (by decide +kernel)) (fun _ _ _ _ _ => pts_nil) (fun _ _ _ _ _ => (pe_op mo_mod (mv 0) (pe_op mo_pow pe_int pe_int)))) (pss_cons (ps_if (mt_cmp mo_lt (pe_callB (kc_len K rfl) rfl T.n_len PySem.boot_len (pa_con (mv 1) pa_nil)) pe_int (nomark _)) (pss_one (ps_set (i := 1) (hs := sw_bin) sc_law.nd rfl (by first | exact Or.inl rfl | exact Or.inr rfl) (pe_op (ko_add K rfl) (mv 1) (pe_lst (pa_con pe_int (pa_con pe_int (pa_con pe_int (pa_con pe_int (pa_con pe_int (pa_con pe_int (pa_con pe_int pa_nil))))))))))) pss_nil) (pss_cons (ps_set (i := 2) (hs := sw_call) sc_law.nd rfl (by first | exact Or.inl rfl | exact Or.inr rfl) (pe_make0 T.mk_Heap G_Heap_init (hr.mono (by first | decide | omega)) rfl T.m_Heap T.b_Heap_init .nil pass0 )) (pss_cons (ps_set (i := 3) (hs := sw_lst) sc_law.nd rfl (by first | exact Or.inl rfl | exact Or.inr rfl) (pe_lst pa_nil)) (pss_cons (ps_set (i := 4) (hs := sw_lst) sc_law.nd rfl (by first | exact Or.inl rfl | exact Or.inr rfl) (pe_lst pa_nil)) (pss_cons (ps_set (i := 5) (hs := sw_lst) sc_law.nd rfl (by first | exact Or.inl rfl | exact Or.inr rfl) (pe_lst pa_nil)) (pss_cons (ps_for PassesOwn.never rfl (kpi_list K rfl (mv 1)) (pg_name (i := 6) sc_law.nd rfl (by first | exact Or.inl rfl | exact Or.inr rfl)) (pss_cons (ps_set (i := 7) (hs := sw_bin) sc_law.nd rfl (by first | exact Or.inl rfl | exact Or.inr rfl) (pe_op mo_mod (mv 6) pe_int)) (pss_cons (ps_set (i := 6) (hs := sw_bin) sc_law.nd rfl (by first | exact Or.inl rfl | exact Or.inr rfl) (pe_op mo_fdiv (mv 6) pe_int)) (pss_one (ps_if (PW.pt (pw_or (mt_cmp mo_lt (mv 7) pe_int (nomark _)) (pw_or1 (mt_cmp mo_lt (pe_callB (kc_len K rfl) rfl T.n_len PySem.boot_len (pa_con (mv 3) pa_nil)) pe_int (nomark _))))) (pss_one (ps_expr (pe_call G_l_made (hr.mono (by first | decide | omega)) rfl T.m_l_made T.F_l_made.kp T.b_l_made .nil pass0 (pa_con (mv 2) (pa_con (mv 3) (pa_con (mv 4) (pa_con (mv 6) pa_nil))))))) (pss_one (ps_if (mt_cmp mo_lt (mv 7) pe_int (nomark _)) (pss_one (ps_if (pt_not (kt_tru K rfl (pe_call G_l_joined (hr.mono (by first | decide | omega)) rfl T.m_l_joined T.F_l_joined.kp T.b_l_joined .nil pass0 (pa_con (mv 2) (pa_con (mv 3) (pa_con (mv 4) (pa_con (mv 6) pa_nil))))))) (pss_one (ps_ret pe_bl)) pss_nil)) (pss_one (ps_if (PW.pt (pw_or (mt_cmp mo_eq (mv 7) pe_int (nomark _)) (pw_or1 (mt_cmp mo_eq (pe_callB (kc_len K rfl) rfl T.n_len PySem.boot_len (pa_con (mv 5) pa_nil)) pe_int (nomark _))))) (pss_one (ps_expr (ke_bm K rfl PySem.F.plainAttrs_list PySem.F.slot_list_append PySem.F.type_list_append mm_append (mv 5) (pa_con (pe_tup (pa_con (pe_meth0 (mv 2) T.cl_Heap T.me_Heap_mark G_Heap_mark (hr.mono (by first | decide | omega)) T.b_Heap_mark .nil pass0) (pa_con (pe_callTy (kc_list K rfl) rfl T.n_list boot_list (pa_con (mv 3) pa_nil)) pa_nil))) pa_nil)))) (pss_cons (ps_set (i := 5) (hs := sw_sub) sc_law.nd rfl (by first | exact Or.inl rfl | exact Or.inr rfl) (pe_slice (ks_list K rfl) (mv 5) po_none (mp_some (pe_op mo_sub (pe_callB (kc_len K rfl) rfl T.n_len PySem.boot_len (pa_con (mv 5) pa_nil)) (pe_op mo_mod (mv 6) (pe_callB (kc_len K rfl) rfl T.n_len PySem.boot_len (pa_con (mv 5) pa_nil))))))) (pss_cons (ps_for PassesOwn.never rfl (pi_range1 rfl T.n_range (pa_con (pe_op (ko_add K rfl) pe_int (pe_op mo_mod (mv 6) pe_int)) pa_nil)) (pg_name (i := 8) sc_law.nd rfl (by first | exact Or.inl rfl | exact Or.inr rfl)) (pss_one (ps_expr (pe_meth (mv 2) T.cl_Heap T.me_Heap_back_to G_Heap_back_to (hr.mono (by first | decide | omega)) T.b_Heap_back_to .nil pass0 (pa_con (pe_ix (ki_seq K rfl) (pe_ix (ki_seq K rfl) (mv 5) (pe_un mu_neg pe_int) (fun _ _ => rfl)) pe_int (fun _ _ => rfl)) pa_nil))))) (pss_cons (ps_set (i := 3) (hs := sw_call) sc_law.nd rfl (by first | exact Or.inl rfl | exact Or.inr rfl) (pe_callTy (kc_list K rfl) rfl T.n_list boot_list (pa_con (pe_ix (ki_seq K rfl) (pe_ix (ki_seq K rfl) (mv 5) (pe_un mu_neg pe_int) (fun _ _ => rfl)) pe_int (fun _ _ => rfl)) pa_nil))) (pss_cons (ps_set (i := 4) (hs := sw_sub) sc_law.nd rfl (by first | exact Or.inl rfl | exact Or.inr rfl) (pe_slice (ks_list K rfl) (mv 4) po_none (mp_some (pe_callB (kc_len K rfl) rfl T.n_len PySem.boot_len (pa_con (mv 3) pa_nil))))) (pss_one (ps_if (pt_not (kt_tru K rfl (pe_call G_l_same (hr.mono (by first | decide | omega)) rfl T.m_l_same T.F_l_same.kp T.b_l_same .nil pass0 (pa_con (mv 2) (pa_con (mv 3) (pa_con (mv 4) pa_nil)))))) (pss_one (ps_ret pe_bl)) pss_nil))))))))))))))) (pss_one (ps_ret (pe_call G_l_same (hr.mono (by first | decide | omega)) rfl T.m_l_same T.F_l_same.kp T.b_l_same .nil pass0 (pa_con (mv 2) (pa_con (mv 3) (pa_con (mv 4) pa_nil))))))))))))), ?_⟩
  rename_i a
  obtain ⟨ns, hS, hl, q⟩ := h
  walk_at "stp"
  refine mSlL_i hS fun p1 hp1 => ?_
  obtain ⟨cs0, ec, hc0⟩ : ∃ cs0 : List Int, cutV (ns.map V.int) none (some 60) = cs0.map V.int ∧ cs0.length ≤ 60 := by
    rw [cutV_map]
    refine ⟨_, rfl, ?_⟩
    rw [List.length_take, sIx_to _ _ (by decide)]
    omega
  rw [ec]
  have k1 : (upd H p1 (.lst (cs0.map V.int))) p1 = some (.lst (cs0.map V.int)) := upd_same
  generalize upd H p1 (.lst (cs0.map V.int)) = H1 at k1 ⊢
  clear hp1 ec hS
  walk_at "stp"
  refine ⟨p1, rfl, ⟨_, SqL.of k1⟩, fun pL hD => ?_⟩
  refine comp_row (row_list (xs := cs0.map V.int)) (fun i ys J => Same H1 J ∧ (∃ zs : List Int, ys = zs.map V.int ∧ zs.length = i ∧ ∀ z ∈ zs, 0 ≤ z) ∧ J pL = some (.lst ys)) (ln (by rw [List.length_map]; omega)) ⟨same_new hD _, ⟨[], rfl, rfl, fun z hz => (by cases hz)⟩, upd_same⟩ (fun i ys J hP => SqL.of (hP.1 _ _ k1)) (fun i ys J Q' hi hl' hP k => ?_) (fun ys J hl' hP => ?_)
  · obtain ⟨g1, ⟨zs, rfl, g2, g4⟩, g3⟩ := hP
    rw [List.length_map] at hi
    rw [ints_getD hi]
    walk_at "stp"
    refine m2_i (C := CPow) ⟨by decide, by decide, by decide⟩ ?_
    walk_at "stp"
    refine k _ _ g3 ⟨same_upd g1 hD, ⟨zs ++ [cs0[i] % 10 ^ (40 : Int).toNat], by rw [List.map_append]; rfl, by rw [List.length_append, List.length_singleton, g2], fun z hz => ?_⟩, upd_same⟩
    rcases List.mem_append.mp hz with e | e
    · exact g4 z e
    · rw [List.mem_singleton.mp e]; exact Int.emod_nonneg _ (by decide)
  obtain ⟨g1, ⟨zs, rfl, hz, h0⟩, kL⟩ := hP
  rw [List.length_map] at hz
  have hz6 : zs.length ≤ 60 := by omega
  clear hc0 hD k1 g1 hl'
  walk_at "stm"
  (with_reducible refine seq_rest (fun σ' J1 => ∃ (pL : Addr) (zs : List Int), σ' = [some (.ref a), some (.ref pL), none, none, none, none, none, none, none] ∧ zs.length ≤ 60 ∧ (∀ z ∈ zs, 0 ≤ z) ∧ J1 pL = some (.lst (zs.map V.int))) (fun σ' Jn hP => ?_) (fun k => ?_))
  rotate_left
  · walk_at "stm"
    refine mLen_l (SqL.of kL) ?_
    rw [List.length_map]
    walk_at "stm"
    refine iteB (fun e => ?_) (fun e => ?_)
    · have e4 : zs.length < 4 := by have := of_decide_eq_true e; omega
      walk_at "stm"
      refine ⟨ln (by show 7 ≤ 100000; decide), fun p2 hp2 => ?_⟩
      have s2 : Same J (upd J p2 (.lst ([5, 70, 131, 6, 12, 200, 3].map V.int))) := same_new hp2 _
      have k2 : (upd J p2 (.lst ([5, 70, 131, 6, 12, 200, 3].map V.int))) p2 = some (.lst ([5, 70, 131, 6, 12, 200, 3].map V.int)) := upd_same
      refine mAdd_l (s2 _ _ kL) k2 (ln (by rw [List.length_map, List.length_map, List.length_cons]; simp; omega)) (fun p3 hp3 => ?_)
      walk_at "stm"
      refine k _ _ ⟨p3, zs ++ [5, 70, 131, 6, 12, 200, 3], rfl, by rw [List.length_append]; simp; omega, fun z hz' => ?_, by rw [upd_same, ← List.map_append]⟩
      rcases List.mem_append.mp hz' with z1 | z1
      · exact h0 z z1
      · simp at z1; omega
    · walk_at "stm"
      exact k _ _ ⟨pL, zs, rfl, hz6, h0, kL⟩
  clear kL h0 hz6 hz
  obtain ⟨pL, zs, rfl, hz6, h0, kL⟩ := hP
  clear J
  generalize Jn = J at kL ⊢
  walk_at "stp"
  intro x dx hx hdx hne
  refine ⟨dx, upd_same, fun pb pt H2 w f hpb hpt => ⟨rfl, ?_⟩⟩
  have e0 : ∀ o1 o2, (upd (upd J dx o1) x o2) pL = some (.lst (zs.map V.int)) := fun _ _ => by rw [upd_ne (ne_of_none kL hx), upd_ne (ne_of_none kL hdx)]; exact kL
  have kL2 : H2 pL = some (.lst (zs.map V.int)) := f _ _ (ne_of_none kL hx) (e0 _ _)
  have nb := ne_of_none (e0 _ _) hpb
  have nt := ne_of_none (e0 _ _) hpt
  clear f hpb hpt e0 hx hdx hne
  walk_at "stp"
  refine ⟨ln (by show 0 ≤ 100000; decide), fun pl hpl => ?_⟩
  have s1 : Same H2 (upd H2 pl (.lst [])) := same_new hpl _
  have k1 : (upd H2 pl (.lst [])) pl = some (.lst []) := upd_same
  generalize upd H2 pl (.lst []) = H3 at s1 k1 ⊢
  walk_at "stp"
  refine ⟨ln (by show 0 ≤ 100000; decide), fun pa hpa => ?_⟩
  have s2 : Same H3 (upd H3 pa (.lst [])) := same_new hpa _
  have k2 : (upd H3 pa (.lst [])) pa = some (.lst []) := upd_same
  generalize upd H3 pa (.lst []) = H4 at s2 k2 ⊢
  walk_at "stp"
  refine ⟨ln (by show 0 ≤ 100000; decide), fun pm hpm => ?_⟩
  have s3 : Same H4 (upd H4 pm (.lst [])) := same_new hpm _
  have k3 : (upd H4 pm (.lst [])) pm = some (.lst []) := upd_same
  generalize upd H4 pm (.lst []) = H5 at s3 k3 ⊢
  have li : LI K t.k_Heap H5 x pb pt pl pa pm pL (zs.map V.int) [] [] [] [] 0 := by
    obtain ⟨ub, e1, _⟩ := w.bx
    have e2 := w.trl
    have s12 := s1.trans s2
    refine ⟨w.same (s12.trans s3), ⟨[], s3 _ _ (s2 _ _ k1), .nil⟩, s3 _ _ k2, ⟨Ne.symm (ne_of_none e1 hpl), Ne.symm (ne_of_none e2 hpl), Ne.symm (ne_of_none (s1 _ _ e1) hpa), Ne.symm (ne_of_none (s1 _ _ e2) hpa), ne_of_none k1 hpa⟩, Wf.nil, Nat.le_refl _, Nat.le_refl _, fun a ha => (by cases ha), k3, .nil, Nat.le_refl _, s3 _ _ (s12 _ _ kL2), ⟨Ne.symm (ne_of_none (s12 _ _ e1) hpm), Ne.symm (ne_of_none (s12 _ _ e2) hpm), Ne.symm (ne_of_none (s2 _ _ k1) hpm), Ne.symm (ne_of_none k2 hpm), Ne.symm (ne_of_none (s12 _ _ kL2) hpm)⟩, ⟨nb, nt, ne_of_none kL2 hpl, ne_of_none (s1 _ _ kL2) hpa⟩⟩
  clear s1 s2 s3 k1 k2 k3 hpl hpa hpm kL kL2 nb nt w
  walk_at "stp"
  refine ⟨pL, rfl, ⟨_, SqL.of li.left⟩, ?_⟩
  refine for_row (row_list (xs := zs.map V.int)) (fun i σ' J => ∃ (pl pa pm : Addr) (bs : Bs) (tr : List Nat) (vs : List V) (ms : List Mt) (o6 o7 o8 : Option V), σ' = [some (.ref a), some (.ref pL), some (.ref x), some (.ref pl), some (.ref pa), some (.ref pm), o6, o7, o8] ∧ LI K t.k_Heap J x pb pt pl pa pm pL (zs.map V.int) bs tr vs ms i) ⟨pl, pa, pm, [], [], [], [], _, _, _, rfl, li⟩ (fun i σ' J hP => by obtain ⟨_, _, _, _, _, _, _, _, _, _, _, h⟩ := hP; exact SqL.of h.left) (fun i σ' J hi hP => ?_) (fun σ' J hP => ?_)
  rotate_left
  · obtain ⟨pl, pa, pm, bs, tr, vs, ms, o6, o7, o8, rfl, li⟩ := hP
    rw [List.length_map] at li
    walk_at "stp"
    have := li.bl
    refine ⟨pb, pt, bs, tr, li.hs, li.lb, li.wf, by omega, li.ha, fun J1 s1 => ?_⟩
    exact q _
  · clear li
    obtain ⟨pl, pa, pm, bs, tr, vs, ms, o6, o7, o8, rfl, li⟩ := hP
    rw [List.length_map] at hi
    rw [ints_getD hi]
    have c0 := h0 _ (List.getElem_mem hi)
    generalize zs[i] = c at c0 ⊢
    have hbl := li.bl
    have htl := li.tl
    have hml := li.ml
    have hc8 : 0 ≤ c / 8 := Int.ediv_nonneg c0 (by decide)
    have hw0 := Int.emod_nonneg c (show (8 : Int) ≠ 0 by decide)
    obtain ⟨usl, hul, hdl⟩ := id li.lb
    have hus := den_size hdl
    walk_at "stp"
    generalize c % 8 = wy at hw0 ⊢
    generalize c / 8 = d at hc8 ⊢
    refine iteB (fun e1 => ?_) (fun e1 => ?_)
    · refine iteT ?_
      walk_at "stp"
      refine ⟨pb, pt, bs, tr, li.hs, li.lb, li.wf, by omega, li.ha, li.four, hc8, fun b J1 f1 w1 l1 a1 wf1 => ?_⟩
      walk_at "stp"
      exact ⟨pl, pa, pm, _, tr, vs, ms, _, _, _, rfl, li.made f1 w1 l1 a1 wf1⟩
    walk_at "stp"
    refine mLen_l (SqL.of hul) ?_
    rw [hus]
    walk_at "stp"
    refine iteB (fun e2 => ?_) (fun e2 => ?_)
    · walk_at "stp"
      refine ⟨pb, pt, bs, tr, li.hs, li.lb, li.wf, by omega, li.ha, li.four, hc8, fun b J1 f1 w1 l1 a1 wf1 => ?_⟩
      walk_at "stp"
      exact ⟨pl, pa, pm, _, tr, vs, ms, _, _, _, rfl, li.made f1 w1 l1 a1 wf1⟩
    have b2 : 2 ≤ bs.length := by have := of_decide_eq_false e2; omega
    walk_at "stp"
    refine iteB (fun e3 => ?_) (fun e3 => ?_)
    · walk_at "stp"
      refine ⟨pb, pt, bs, tr, li.hs, li.lb, li.wf, by omega, by omega, by omega, li.all, li.ha, li.four, hc8, fun bs' tr' J1 f1 w1 l1 wf1 up1 lt1 => ?_⟩
      walk_at "stp"
      refine iteF ?_
      walk_at "stp"
      exact ⟨pl, pa, pm, bs', tr', vs, ms, _, _, _, rfl, li.joined f1 w1 l1 wf1 up1 lt1⟩
    walk_at "stp"
    refine iteB (fun e4 => ?_) (fun e4 => ?_)
    · refine iteT ?_
      walk_at "stp"
      obtain ⟨dx, ho⟩ := li.ob
      refine ⟨.inl ⟨rfl, _, SqL.of li.hm⟩, ?_⟩
      walk_at "stp"
      refine ⟨x, dx, _, rfl, ho, fs_no, ?_⟩
      walk_at "stp"
      refine ⟨pb, pt, bs, tr, li.hs, fun pn J1 s1 hn => ?_⟩
      have li1 := li.same s1
      obtain ⟨us1, hu1, hd1⟩ := id li1.lb
      walk_at "stp"
      refine mLst_l (SqL.of hu1) (fun pq hpq => ?_)
      have hnm := li1.fresh hpq
      have s2 := same_new hpq (.lst us1)
      have k2 : (upd J1 pq (.lst us1)) pq = some (.lst us1) := upd_same
      generalize upd J1 pq (.lst us1) = J2 at s2 k2 ⊢
      have li2 := li1.same s2
      walk_at "stp"
      refine ⟨ln (by show 2 ≤ 100000; decide), fun pr hpr => ?_⟩
      have s3 := same_new hpr (.tup [.ref pn, .ref pq])
      have k3 : (upd J2 pr (.tup [.ref pn, .ref pq])) pr = some (.tup [.ref pn, .ref pq]) := upd_same
      generalize upd J2 pr (.tup [.ref pn, .ref pq]) = J3 at s3 k3 ⊢
      have li3 := li2.same s3
      walk_at "stp"
      refine mAppend_i li3.hm (Nat.lt_of_lt_of_le (show vs.length < 100000 by omega) (ln (Nat.le_refl 100000))) ?_
      walk_at "stp"
      exact ⟨pl, pa, pm, bs, tr, _, _, _, _, _, rfl, li3.mark (SqT.of k3) (s3.tup (s2.tup hn)) ⟨us1, s3 _ _ k2, hd1.mono (s2.trans s3)⟩ hnm⟩
    walk_at "stp"
    refine mLen_l (SqL.of li.hm) ?_
    walk_at "stp"
    refine iteB (fun e5 => ?_) (fun e5 => ?_)
    · walk_at "stp"
      obtain ⟨dx, ho⟩ := li.ob
      refine ⟨.inl ⟨rfl, _, SqL.of li.hm⟩, ?_⟩
      walk_at "stp"
      refine ⟨x, dx, _, rfl, ho, fs_no, ?_⟩
      walk_at "stp"
      refine ⟨pb, pt, bs, tr, li.hs, fun pn J1 s1 hn => ?_⟩
      have li1 := li.same s1
      obtain ⟨us1, hu1, hd1⟩ := id li1.lb
      walk_at "stp"
      refine mLst_l (SqL.of hu1) (fun pq hpq => ?_)
      have hnm := li1.fresh hpq
      have s2 := same_new hpq (.lst us1)
      have k2 : (upd J1 pq (.lst us1)) pq = some (.lst us1) := upd_same
      generalize upd J1 pq (.lst us1) = J2 at s2 k2 ⊢
      have li2 := li1.same s2
      walk_at "stp"
      refine ⟨ln (by show 2 ≤ 100000; decide), fun pr hpr => ?_⟩
      have s3 := same_new hpr (.tup [.ref pn, .ref pq])
      have k3 : (upd J2 pr (.tup [.ref pn, .ref pq])) pr = some (.tup [.ref pn, .ref pq]) := upd_same
      generalize upd J2 pr (.tup [.ref pn, .ref pq]) = J3 at s3 k3 ⊢
      have li3 := li2.same s3
      walk_at "stp"
      refine mAppend_i li3.hm (Nat.lt_of_lt_of_le (show vs.length < 100000 by omega) (ln (Nat.le_refl 100000))) ?_
      walk_at "stp"
      exact ⟨pl, pa, pm, bs, tr, _, _, _, _, _, rfl, li3.mark (SqT.of k3) (s3.tup (s2.tup hn)) ⟨us1, s3 _ _ k2, hd1.mono (s2.trans s3)⟩ hnm⟩
    have b5 : 1 ≤ vs.length := by rw [Bool.false_xor] at e5; have := of_decide_eq_false e5; omega
    walk_at "stp"
    refine mLen_l (SqL.of li.hm) ?_
    walk_at "stp"
    refine mLen_l (SqL.of li.hm) ?_
    walk_at "stp"
    refine m2_i (show (0 : Int) < _ by omega) ?_
    walk_at "stp"
    have p1 := Int.emod_nonneg d (show ((vs.length : Nat) : Int) ≠ 0 by omega)
    have p2 := Int.emod_lt_of_pos d (show (0 : Int) < ((vs.length : Nat) : Int) by omega)
    generalize d % ((vs.length : Nat) : Int) = v1 at p1 p2 ⊢
    obtain ⟨k, hk, hk1, hk2⟩ : ∃ k : Nat, ((vs.length : Nat) : Int) - v1 = (k : Int) ∧ 1 ≤ k ∧ k ≤ vs.length := ⟨(((vs.length : Nat) : Int) - v1).toNat, by omega, by omega, by omega⟩
    rw [hk]
    refine mSlL_i (SqL.of li.hm) fun pm2 hpm2 => ?_
    rw [cut_take]
    have li2 := li.cut hpm2 k
    generalize upd J pm2 (.lst (vs.take k)) = J2 at li2 ⊢
    obtain ⟨vs0, v, ev⟩ : ∃ vs0 v, vs.take k = vs0 ++ [v] := by
      rcases nil_or_snoc' (vs.take k) with z | ⟨r, y, z⟩
      · have := congrArg List.length z; rw [List.length_take, List.length_nil] at this; omega
      · exact ⟨r, y, z⟩
    obtain ⟨ms0, m, em⟩ : ∃ ms0 m, ms.take k = ms0 ++ [m] := by
      rcases nil_or_snoc' (ms.take k) with z | ⟨r, y, z⟩
      · have := congrArg List.length z; rw [List.length_take, List.length_nil, ← li.mks.len] at this; omega
      · exact ⟨r, y, z⟩
    rw [ev, em] at li2
    have hm1 : m.2.2.length ≤ bs.length := by
      obtain ⟨⟨_, _, _, _, _, _, _, _, mk, _⟩, _⟩ := li2.mks.top
      rw [mk.svlen]; exact mk.nl
    clear ev em hk hk1 hk2 p1 p2 hpm2
    walk_at "stp"
    obtain ⟨N, eN, hN1, hN2⟩ : ∃ N : Nat, 1 + d % 2 = (N : Int) ∧ 1 ≤ N ∧ N ≤ 2 := ⟨(1 + d % 2).toNat, by omega, by omega, by omega⟩
    rw [eN]
    refine ⟨(N : Int), rfl, by omega, by omega, ?_⟩
    rw [Int.toNat_natCast]
    refine for_row (row_range 0 N) (fun i2 σ' J3 => ∃ (bs3 : Bs) (tr3 : List Nat) (o8 : Option V), σ' = [some (.ref a), some (.ref pL), some (.ref x), some (.ref pl), some (.ref pa), some (.ref pm2), some (.int d), some (.int wy), o8] ∧ HFr pb pt J2 J3 ∧ HS K t.k_Heap J3 x pb pt bs3 tr3 ∧ Mks K J3 [pb, pt, pl, pa, pm2] bs3 tr3 (vs0 ++ [v]) (ms0 ++ [m]) ∧ tr3.length ≤ 64 * i ∧ (0 < i2 → bs3 = m.2.2)) ⟨bs, tr, _, rfl, HFr.refl _ _ _, li2.hs, li2.mks, li.tl, fun z => absurd z (by decide)⟩ (fun _ _ _ _ => trivial) (fun i2 σ' J3 hi2 hP => ?_) (fun σ' J3 hP => ?_)
    · obtain ⟨bs3, tr3, o8, rfl, f3, w3, k3, t3, _⟩ := hP
      obtain ⟨⟨r, pk, bq, ev, t1, t2, lb3, nb, mk3, wf3⟩, hc⟩ := k3.top
      obtain ⟨dx, ho⟩ := w3.ob
      walk_at "stp"
      refine ⟨x, dx, _, rfl, ho, fs_no, ?_⟩
      walk_at "stp"
      refine mIx_l (SqL.of (f3 _ _ li2.nm.1 li2.nm.2.1 li2.hm)) (at_last _ _) ?_
      subst ev
      walk_at "stp"
      refine mIx_t t1 (v := .ref pk) atI0 ?_
      walk_at "stp"
      refine ⟨pb, pt, bs3, tr3, m.1, m.2.1, m.2.2, w3, t2, mk3, fun J4 f4 w4 => ?_⟩
      walk_at "stp"
      exact ⟨m.2.2, tr3.take m.2.1, _, rfl, f3.trans f4, w4, k3.back w3 f4, by rw [List.length_take]; omega, fun _ => rfl⟩
    · obtain ⟨bs3, tr3, o8, rfl, f3, w3, k3, t3, hb⟩ := hP
      have eb := hb (by omega)
      subst eb
      obtain ⟨⟨r, pk, bq, ev, t1, t2, lb3, nb, mk3, wf3⟩, hc⟩ := k3.top
      obtain ⟨us3, hu3, hd3⟩ := lb3
      walk_at "stp"
      refine mIx_l (SqL.of (f3 _ _ li2.nm.1 li2.nm.2.1 li2.hm)) (at_last _ _) ?_
      subst ev
      walk_at "stp"
      refine mIx_t t1 (v := .ref bq) rfl ?_
      walk_at "stp"
      refine mLst_l (SqL.of hu3) fun pq hpq => ?_
      have s4 := same_new hpq (.lst us3)
      have k4 : (upd J3 pq (.lst us3)) pq = some (.lst us3) := upd_same
      generalize upd J3 pq (.lst us3) = J4 at s4 k4 ⊢
      walk_at "stp"
      refine mLen_l (SqL.of k4) ?_
      rw [den_size hd3]
      walk_at "stp"
      refine mSlL_i (SqL.of (s4 _ _ (f3 _ _ li.four.2.2.1 li.four.2.2.2.1 li2.ha))) fun pa2 hpa2 => ?_
      rw [cut_take, at_take hm1]
      have s5 := same_new hpa2 (.lst (atL m.2.2))
      have k5 : (upd J4 pa2 (.lst (atL m.2.2))) pa2 = some (.lst (atL m.2.2)) := upd_same
      generalize upd J4 pa2 (.lst (atL m.2.2)) = J5 at s5 k5 ⊢
      have s45 := s4.trans s5
      have li5 := li2.back f3 w3 k3 wf3 (by omega) t3 mk3.all s45 ⟨us3, s5 _ _ k4, hd3.mono s45⟩ k5 hpq (s4.free hpa2) (ne_of_none k4 hpa2)
      walk_at "stp"
      refine ⟨pb, pt, m.2.2, tr3, li5.hs, li5.lb, li5.wf, by omega, li5.ha, fun J6 s6 => ?_⟩
      walk_at "stp"
      refine iteF ?_
      walk_at "stp"
      exact ⟨pq, pa2, pm2, _, _, _, _, _, _, _, rfl, (li5.same s6).next⟩
end
section
variable {P : Program} {w : World} {K : PySem.W.Frag} {mg : Str → Option Value} {base : Heap} {t : Ad}
theorem ok_all (T : Txt K mg t) : FnOk P w K mg base CX0 7 t.a_law t.d_law ["_law_script"] (sp_law K) := by
  have h_Heap_init := ok_Heap_init (P := P) (w := w) (base := base) T
  have h_Heap_made := ok_Heap_made (P := P) (w := w) (base := base) T
  have h_Heap_end_of := ok_Heap_end_of (P := P) (w := w) (base := base) T
  have h_Heap_mark := ok_Heap_mark (P := P) (w := w) (base := base) T
  have h_Heap_back_to := ok_Heap_back_to (P := P) (w := w) (base := base) T
  have h_key_of := ok_key_of (P := P) (w := w) (base := base) T
  have h_l_led := ok_l_led (P := P) (w := w) (base := base) T
  have h_Heap_free := ok_Heap_free T h_Heap_made
  have h_Heap_number := ok_Heap_number T h_Heap_made
  have h_Heap_app := ok_Heap_app T h_Heap_made
  have h_Heap_look := ok_Heap_look T h_Heap_end_of
  have h_Heap_stands_within := ok_Heap_stands_within T h_Heap_end_of
  have h_l_size := ok_l_size T h_l_led
  have h_l_within := ok_l_within T h_l_led
  have h_Heap_bind := ok_Heap_bind T h_Heap_stands_within
  have h_l_one := ok_l_one T h_l_led h_l_within
  have h_l_same := ok_l_same T h_l_led h_Heap_look
  have h_l_made := ok_l_made T h_Heap_free h_Heap_number h_Heap_app
  have h_Heap_kids_of_one := ok_Heap_kids_of_one T h_Heap_bind h_key_of
  have h_Heap_one := ok_Heap_one T h_Heap_end_of h_Heap_kids_of_one
  have h_l_joined := ok_l_joined T h_l_one h_Heap_mark h_Heap_one h_Heap_back_to h_l_same h_l_size
  exact ok_law T h_Heap_init h_l_same h_l_made h_l_joined h_Heap_back_to h_Heap_mark
end
theorem txt_mk {K : PySem.W.Frag} {h : Heap} {mg : Str → Option Value} (X : K.In h) (G : h.Ns mainGlobals mg)
    {k_TrailError : Addr}
    {k_Big : Addr}
    {k_Heap : Addr}
    {f0 : Addr} {od0 an0 : Option Addr} {sl0 : Array (Option Value)} {oc0 kV0 dc0 pm0 cd0 ct0 : Value}
    {f1 : Addr} {od1 an1 : Option Addr} {sl1 : Array (Option Value)} {oc1 kV1 dc1 pm1 cd1 ct1 : Value}
    {f2 : Addr} {od2 an2 : Option Addr} {sl2 : Array (Option Value)} {oc2 kV2 dc2 pm2 cd2 ct2 : Value}
    {f3 : Addr} {od3 an3 : Option Addr} {sl3 : Array (Option Value)} {oc3 kV3 dc3 pm3 cd3 ct3 : Value}
    {f4 : Addr} {od4 an4 : Option Addr} {sl4 : Array (Option Value)} {oc4 kV4 dc4 pm4 cd4 ct4 : Value}
    {f5 : Addr} {od5 an5 : Option Addr} {sl5 : Array (Option Value)} {oc5 kV5 dc5 pm5 cd5 ct5 : Value}
    {f6 : Addr} {od6 an6 : Option Addr} {sl6 : Array (Option Value)} {oc6 kV6 dc6 pm6 cd6 ct6 : Value}
    {f7 : Addr} {od7 an7 : Option Addr} {sl7 : Array (Option Value)} {oc7 kV7 dc7 pm7 cd7 ct7 : Value}
    {f8 : Addr} {od8 an8 : Option Addr} {sl8 : Array (Option Value)} {oc8 kV8 dc8 pm8 cd8 ct8 : Value}
    {f9 : Addr} {od9 an9 : Option Addr} {sl9 : Array (Option Value)} {oc9 kV9 dc9 pm9 cd9 ct9 : Value}
    {f10 : Addr} {od10 an10 : Option Addr} {sl10 : Array (Option Value)} {oc10 kV10 dc10 pm10 cd10 ct10 : Value}
    {f11 : Addr} {od11 an11 : Option Addr} {sl11 : Array (Option Value)} {oc11 kV11 dc11 pm11 cd11 ct11 : Value}
    {f12 : Addr} {od12 an12 : Option Addr} {sl12 : Array (Option Value)} {oc12 kV12 dc12 pm12 cd12 ct12 : Value}
    {f13 : Addr} {od13 an13 : Option Addr} {sl13 : Array (Option Value)} {oc13 kV13 dc13 pm13 cd13 ct13 : Value}
    {f14 : Addr} {od14 an14 : Option Addr} {sl14 : Array (Option Value)} {oc14 kV14 dc14 pm14 cd14 ct14 : Value}
    {f15 : Addr} {od15 an15 : Option Addr} {sl15 : Array (Option Value)} {oc15 kV15 dc15 pm15 cd15 ct15 : Value}
    {f16 : Addr} {od16 an16 : Option Addr} {sl16 : Array (Option Value)} {oc16 kV16 dc16 pm16 cd16 ct16 : Value}
    {f17 : Addr} {od17 an17 : Option Addr} {sl17 : Array (Option Value)} {oc17 kV17 dc17 pm17 cd17 ct17 : Value}
    {f18 : Addr} {od18 an18 : Option Addr} {sl18 : Array (Option Value)} {oc18 kV18 dc18 pm18 cd18 ct18 : Value}
    {f19 : Addr} {od19 an19 : Option Addr} {sl19 : Array (Option Value)} {oc19 kV19 dc19 pm19 cd19 ct19 : Value}
    {f20 : Addr} {od20 an20 : Option Addr} {sl20 : Array (Option Value)} {oc20 kV20 dc20 pm20 cd20 ct20 : Value}
    {f21 : Addr} {od21 an21 : Option Addr} {sl21 : Array (Option Value)} {oc21 kV21 dc21 pm21 cd21 ct21 : Value}
    {c_FREE : Addr} {od_FREE : Option Addr} {n_FREE : Nat} {sl_FREE : Array (Option Value)} {t_FREE_0 : Tok}
    (ac_TrailError : PySem.W.nsIn K mainGlobals "TrailError" = some (some (.ref k_TrailError)))
    (ac_Big : PySem.W.nsIn K mainGlobals "Big" = some (some (.ref k_Big)))
    (ac_Heap : PySem.W.nsIn K mainGlobals "Heap" = some (some (.ref k_Heap)))
    (pg_Heap : PySem.W.plainGet K k_Heap Str.empty = true)
    (hd_Heap : PySem.W.hasDictIn K k_Heap = true)
    (po_Heap : PySem.W.plainOver K k_Heap = true)
    (sa_Heap : PySem.W.findIn K (.ref k_Heap) "__setattr__" = some (some (.builtin "object.__setattr__")))
    (na_Heap_boxes : PySem.W.findIn K (.ref k_Heap) "boxes" = some none)
    (na_Heap_trail : PySem.W.findIn K (.ref k_Heap) "trail" = some none)
    (mk_Heap : PySem.W.makesIn K k_Heap = true)
    (in_Heap : PySem.W.findIn K (.ref k_Heap) "__init__" = some (some (.ref f0)))
    (kc_Heap : PySem.W.keepIn K (.ref k_Heap) = true)
    (am_Heap_made : PySem.W.findIn K (.ref k_Heap) "made" = some (some (.ref f1)))
    (am_Heap_free : PySem.W.findIn K (.ref k_Heap) "free" = some (some (.ref f2)))
    (am_Heap_number : PySem.W.findIn K (.ref k_Heap) "number" = some (some (.ref f3)))
    (am_Heap_app : PySem.W.findIn K (.ref k_Heap) "app" = some (some (.ref f4)))
    (am_Heap_end_of : PySem.W.findIn K (.ref k_Heap) "end_of" = some (some (.ref f5)))
    (am_Heap_look : PySem.W.findIn K (.ref k_Heap) "look" = some (some (.ref f6)))
    (am_Heap_one : PySem.W.findIn K (.ref k_Heap) "one" = some (some (.ref f7)))
    (am_Heap_kids_of_one : PySem.W.findIn K (.ref k_Heap) "kids_of_one" = some (some (.ref f8)))
    (am_Heap_bind : PySem.W.findIn K (.ref k_Heap) "bind" = some (some (.ref f9)))
    (am_Heap_stands_within : PySem.W.findIn K (.ref k_Heap) "stands_within" = some (some (.ref f10)))
    (am_Heap_mark : PySem.W.findIn K (.ref k_Heap) "mark" = some (some (.ref f11)))
    (am_Heap_back_to : PySem.W.findIn K (.ref k_Heap) "back_to" = some (some (.ref f12)))
    (l0 : K.lookup f0 = some ⟨oc0, od0, .func (PySem.W.fnOf "__init__" "Heap.__init__" (defArgs s_Heap_init) (defBody s_Heap_init) (defScope s_Heap_init) .none kV0 dc0 pm0 an0 cd0 ct0), sl0⟩)
    (c0 : PySem.W.codeIn K cd0 "Heap.__init__" = true)
    (k0 : PySem.W.keepIn K (.ref f0) = true)
    (fn0 : PySem.W.typeIn K (.ref f0) = some (.type "function"))
    (l1 : K.lookup f1 = some ⟨oc1, od1, .func (PySem.W.fnOf "made" "Heap.made" (defArgs s_Heap_made) (defBody s_Heap_made) (defScope s_Heap_made) .none kV1 dc1 pm1 an1 cd1 ct1), sl1⟩)
    (c1 : PySem.W.codeIn K cd1 "Heap.made" = true)
    (k1 : PySem.W.keepIn K (.ref f1) = true)
    (fn1 : PySem.W.typeIn K (.ref f1) = some (.type "function"))
    (l2 : K.lookup f2 = some ⟨oc2, od2, .func (PySem.W.fnOf "free" "Heap.free" (defArgs s_Heap_free) (defBody s_Heap_free) (defScope s_Heap_free) .none kV2 dc2 pm2 an2 cd2 ct2), sl2⟩)
    (c2 : PySem.W.codeIn K cd2 "Heap.free" = true)
    (k2 : PySem.W.keepIn K (.ref f2) = true)
    (fn2 : PySem.W.typeIn K (.ref f2) = some (.type "function"))
    (l3 : K.lookup f3 = some ⟨oc3, od3, .func (PySem.W.fnOf "number" "Heap.number" (defArgs s_Heap_number) (defBody s_Heap_number) (defScope s_Heap_number) .none kV3 dc3 pm3 an3 cd3 ct3), sl3⟩)
    (c3 : PySem.W.codeIn K cd3 "Heap.number" = true)
    (k3 : PySem.W.keepIn K (.ref f3) = true)
    (fn3 : PySem.W.typeIn K (.ref f3) = some (.type "function"))
    (l4 : K.lookup f4 = some ⟨oc4, od4, .func (PySem.W.fnOf "app" "Heap.app" (defArgs s_Heap_app) (defBody s_Heap_app) (defScope s_Heap_app) .none kV4 dc4 pm4 an4 cd4 ct4), sl4⟩)
    (c4 : PySem.W.codeIn K cd4 "Heap.app" = true)
    (k4 : PySem.W.keepIn K (.ref f4) = true)
    (fn4 : PySem.W.typeIn K (.ref f4) = some (.type "function"))
    (l5 : K.lookup f5 = some ⟨oc5, od5, .func (PySem.W.fnOf "end_of" "Heap.end_of" (defArgs s_Heap_end_of) (defBody s_Heap_end_of) (defScope s_Heap_end_of) .none kV5 dc5 pm5 an5 cd5 ct5), sl5⟩)
    (c5 : PySem.W.codeIn K cd5 "Heap.end_of" = true)
    (k5 : PySem.W.keepIn K (.ref f5) = true)
    (fn5 : PySem.W.typeIn K (.ref f5) = some (.type "function"))
    (l6 : K.lookup f6 = some ⟨oc6, od6, .func (PySem.W.fnOf "look" "Heap.look" (defArgs s_Heap_look) (defBody s_Heap_look) (defScope s_Heap_look) .none kV6 dc6 pm6 an6 cd6 ct6), sl6⟩)
    (c6 : PySem.W.codeIn K cd6 "Heap.look" = true)
    (k6 : PySem.W.keepIn K (.ref f6) = true)
    (fn6 : PySem.W.typeIn K (.ref f6) = some (.type "function"))
    (l7 : K.lookup f7 = some ⟨oc7, od7, .func (PySem.W.fnOf "one" "Heap.one" (defArgs s_Heap_one) (defBody s_Heap_one) (defScope s_Heap_one) .none kV7 dc7 pm7 an7 cd7 ct7), sl7⟩)
    (c7 : PySem.W.codeIn K cd7 "Heap.one" = true)
    (k7 : PySem.W.keepIn K (.ref f7) = true)
    (fn7 : PySem.W.typeIn K (.ref f7) = some (.type "function"))
    (l8 : K.lookup f8 = some ⟨oc8, od8, .func (PySem.W.fnOf "kids_of_one" "Heap.kids_of_one" (defArgs s_Heap_kids_of_one) (defBody s_Heap_kids_of_one) (defScope s_Heap_kids_of_one) .none kV8 dc8 pm8 an8 cd8 ct8), sl8⟩)
    (c8 : PySem.W.codeIn K cd8 "Heap.kids_of_one" = true)
    (k8 : PySem.W.keepIn K (.ref f8) = true)
    (fn8 : PySem.W.typeIn K (.ref f8) = some (.type "function"))
    (l9 : K.lookup f9 = some ⟨oc9, od9, .func (PySem.W.fnOf "bind" "Heap.bind" (defArgs s_Heap_bind) (defBody s_Heap_bind) (defScope s_Heap_bind) .none kV9 dc9 pm9 an9 cd9 ct9), sl9⟩)
    (c9 : PySem.W.codeIn K cd9 "Heap.bind" = true)
    (k9 : PySem.W.keepIn K (.ref f9) = true)
    (fn9 : PySem.W.typeIn K (.ref f9) = some (.type "function"))
    (l10 : K.lookup f10 = some ⟨oc10, od10, .func (PySem.W.fnOf "stands_within" "Heap.stands_within" (defArgs s_Heap_stands_within) (defBody s_Heap_stands_within) (defScope s_Heap_stands_within) .none kV10 dc10 pm10 an10 cd10 ct10), sl10⟩)
    (c10 : PySem.W.codeIn K cd10 "Heap.stands_within" = true)
    (k10 : PySem.W.keepIn K (.ref f10) = true)
    (fn10 : PySem.W.typeIn K (.ref f10) = some (.type "function"))
    (l11 : K.lookup f11 = some ⟨oc11, od11, .func (PySem.W.fnOf "mark" "Heap.mark" (defArgs s_Heap_mark) (defBody s_Heap_mark) (defScope s_Heap_mark) .none kV11 dc11 pm11 an11 cd11 ct11), sl11⟩)
    (c11 : PySem.W.codeIn K cd11 "Heap.mark" = true)
    (k11 : PySem.W.keepIn K (.ref f11) = true)
    (fn11 : PySem.W.typeIn K (.ref f11) = some (.type "function"))
    (l12 : K.lookup f12 = some ⟨oc12, od12, .func (PySem.W.fnOf "back_to" "Heap.back_to" (defArgs s_Heap_back_to) (defBody s_Heap_back_to) (defScope s_Heap_back_to) .none kV12 dc12 pm12 an12 cd12 ct12), sl12⟩)
    (c12 : PySem.W.codeIn K cd12 "Heap.back_to" = true)
    (k12 : PySem.W.keepIn K (.ref f12) = true)
    (fn12 : PySem.W.typeIn K (.ref f12) = some (.type "function"))
    (a13 : PySem.W.nsIn K mainGlobals "key_of" = some (some (.ref f13)))
    (l13 : K.lookup f13 = some ⟨oc13, od13, .func (PySem.W.fnOf "key_of" "key_of" (defArgs s_key_of) (defBody s_key_of) (defScope s_key_of) .none kV13 dc13 pm13 an13 cd13 ct13), sl13⟩)
    (c13 : PySem.W.codeIn K cd13 "key_of" = true)
    (k13 : PySem.W.keepIn K (.ref f13) = true)
    (a14 : PySem.W.nsIn K mainGlobals "_law_led" = some (some (.ref f14)))
    (l14 : K.lookup f14 = some ⟨oc14, od14, .func (PySem.W.fnOf "_law_led" "_law_led" (defArgs s_l_led) (defBody s_l_led) (defScope s_l_led) .none kV14 dc14 pm14 an14 cd14 ct14), sl14⟩)
    (c14 : PySem.W.codeIn K cd14 "_law_led" = true)
    (k14 : PySem.W.keepIn K (.ref f14) = true)
    (a15 : PySem.W.nsIn K mainGlobals "_law_size" = some (some (.ref f15)))
    (l15 : K.lookup f15 = some ⟨oc15, od15, .func (PySem.W.fnOf "_law_size" "_law_size" (defArgs s_l_size) (defBody s_l_size) (defScope s_l_size) .none kV15 dc15 pm15 an15 cd15 ct15), sl15⟩)
    (c15 : PySem.W.codeIn K cd15 "_law_size" = true)
    (k15 : PySem.W.keepIn K (.ref f15) = true)
    (a16 : PySem.W.nsIn K mainGlobals "_law_within" = some (some (.ref f16)))
    (l16 : K.lookup f16 = some ⟨oc16, od16, .func (PySem.W.fnOf "_law_within" "_law_within" (defArgs s_l_within) (defBody s_l_within) (defScope s_l_within) .none kV16 dc16 pm16 an16 cd16 ct16), sl16⟩)
    (c16 : PySem.W.codeIn K cd16 "_law_within" = true)
    (k16 : PySem.W.keepIn K (.ref f16) = true)
    (a17 : PySem.W.nsIn K mainGlobals "_law_one" = some (some (.ref f17)))
    (l17 : K.lookup f17 = some ⟨oc17, od17, .func (PySem.W.fnOf "_law_one" "_law_one" (defArgs s_l_one) (defBody s_l_one) (defScope s_l_one) .none kV17 dc17 pm17 an17 cd17 ct17), sl17⟩)
    (c17 : PySem.W.codeIn K cd17 "_law_one" = true)
    (k17 : PySem.W.keepIn K (.ref f17) = true)
    (a18 : PySem.W.nsIn K mainGlobals "_law_same" = some (some (.ref f18)))
    (l18 : K.lookup f18 = some ⟨oc18, od18, .func (PySem.W.fnOf "_law_same" "_law_same" (defArgs s_l_same) (defBody s_l_same) (defScope s_l_same) .none kV18 dc18 pm18 an18 cd18 ct18), sl18⟩)
    (c18 : PySem.W.codeIn K cd18 "_law_same" = true)
    (k18 : PySem.W.keepIn K (.ref f18) = true)
    (a19 : PySem.W.nsIn K mainGlobals "_law_made" = some (some (.ref f19)))
    (l19 : K.lookup f19 = some ⟨oc19, od19, .func (PySem.W.fnOf "_law_made" "_law_made" (defArgs s_l_made) (defBody s_l_made) (defScope s_l_made) .none kV19 dc19 pm19 an19 cd19 ct19), sl19⟩)
    (c19 : PySem.W.codeIn K cd19 "_law_made" = true)
    (k19 : PySem.W.keepIn K (.ref f19) = true)
    (a20 : PySem.W.nsIn K mainGlobals "_law_joined" = some (some (.ref f20)))
    (l20 : K.lookup f20 = some ⟨oc20, od20, .func (PySem.W.fnOf "_law_joined" "_law_joined" (defArgs s_l_joined) (defBody s_l_joined) (defScope s_l_joined) .none kV20 dc20 pm20 an20 cd20 ct20), sl20⟩)
    (c20 : PySem.W.codeIn K cd20 "_law_joined" = true)
    (k20 : PySem.W.keepIn K (.ref f20) = true)
    (a21 : PySem.W.nsIn K mainGlobals "law" = some (some (.ref f21)))
    (l21 : K.lookup f21 = some ⟨oc21, od21, .func (PySem.W.fnOf "law" "law" (defArgs s_law) (defBody s_law) (defScope s_law) .none kV21 dc21 pm21 an21 cd21 ct21), sl21⟩)
    (c21 : PySem.W.codeIn K cd21 "law" = true)
    (k21 : PySem.W.keepIn K (.ref f21) = true)
    (z0 : PySem.W.nsIn K mainGlobals "bool" = some none)
    (z1 : PySem.W.nsIn K mainGlobals "isinstance" = some none)
    (z2 : PySem.W.nsIn K mainGlobals "len" = some none)
    (z3 : PySem.W.nsIn K mainGlobals "list" = some none)
    (z4 : PySem.W.nsIn K mainGlobals "range" = some none)
    (z5 : PySem.W.nsIn K mainGlobals "reversed" = some none)
    (z6 : PySem.W.nsIn K mainGlobals "tuple" = some none)
    (z7 : PySem.W.nsIn K mainGlobals "zip" = some none)
    (y0 : PySem.W.nsIn K mainGlobals "FREE" = some (some (.ref c_FREE)))
    (y0_0 : K.lookup c_FREE = some ⟨.type "tuple", od_FREE, .seq #[.str (PySem.Str.ofString "free") t_FREE_0] n_FREE, sl_FREE⟩)
    : ∃ t : Ad, Txt K mg t ∧ ∀ (s : Shared) (u : Value), BindsTo s t.d_law ⟨[u], []⟩ [("_law_script", u)] := by
  have F0 := fun_mk (st := s_Heap_init) l0 c0 k0
  have F1 := fun_mk (st := s_Heap_made) l1 c1 k1
  have F2 := fun_mk (st := s_Heap_free) l2 c2 k2
  have F3 := fun_mk (st := s_Heap_number) l3 c3 k3
  have F4 := fun_mk (st := s_Heap_app) l4 c4 k4
  have F5 := fun_mk (st := s_Heap_end_of) l5 c5 k5
  have F6 := fun_mk (st := s_Heap_look) l6 c6 k6
  have F7 := fun_mk (st := s_Heap_one) l7 c7 k7
  have F8 := fun_mk (st := s_Heap_kids_of_one) l8 c8 k8
  have F9 := fun_mk (st := s_Heap_bind) l9 c9 k9
  have F10 := fun_mk (st := s_Heap_stands_within) l10 c10 k10
  have F11 := fun_mk (st := s_Heap_mark) l11 c11 k11
  have F12 := fun_mk (st := s_Heap_back_to) l12 c12 k12
  have F13 := fun_mk (st := s_key_of) l13 c13 k13
  have F14 := fun_mk (st := s_l_led) l14 c14 k14
  have F15 := fun_mk (st := s_l_size) l15 c15 k15
  have F16 := fun_mk (st := s_l_within) l16 c16 k16
  have F17 := fun_mk (st := s_l_one) l17 c17 k17
  have F18 := fun_mk (st := s_l_same) l18 c18 k18
  have F19 := fun_mk (st := s_l_made) l19 c19 k19
  have F20 := fun_mk (st := s_l_joined) l20 c20 k20
  have F21 := fun_mk (st := s_law) l21 c21 k21
  exact ⟨⟨k_TrailError, k_Big, k_Heap, f0, _, f1, _, f2, _, f3, _, f4, _, f5, _, f6, _, f7, _, f8, _, f9, _, f10, _, f11, _, f12, _, f13, _, f14, _, f15, _, f16, _, f17, _, f18, _, f19, _, f20, _, f21, _, c_FREE⟩, ⟨PySem.W.mg_of X G ac_TrailError,
    PySem.W.mg_of X G ac_Big,
    PySem.W.mg_of X G ac_Heap,
    ⟨pg_Heap, hd_Heap, po_Heap, sa_Heap⟩,
    na_Heap_boxes,
    na_Heap_trail,
    ⟨mk_Heap, in_Heap, beq_iff_eq.mpr fn0, kc_Heap⟩,
    ⟨am_Heap_made, beq_iff_eq.mpr fn1, k1⟩,
    ⟨am_Heap_free, beq_iff_eq.mpr fn2, k2⟩,
    ⟨am_Heap_number, beq_iff_eq.mpr fn3, k3⟩,
    ⟨am_Heap_app, beq_iff_eq.mpr fn4, k4⟩,
    ⟨am_Heap_end_of, beq_iff_eq.mpr fn5, k5⟩,
    ⟨am_Heap_look, beq_iff_eq.mpr fn6, k6⟩,
    ⟨am_Heap_one, beq_iff_eq.mpr fn7, k7⟩,
    ⟨am_Heap_kids_of_one, beq_iff_eq.mpr fn8, k8⟩,
    ⟨am_Heap_bind, beq_iff_eq.mpr fn9, k9⟩,
    ⟨am_Heap_stands_within, beq_iff_eq.mpr fn10, k10⟩,
    ⟨am_Heap_mark, beq_iff_eq.mpr fn11, k11⟩,
    ⟨am_Heap_back_to, beq_iff_eq.mpr fn12, k12⟩,
    F0,
    F0.binds (ps := ["self"]) (fun _ _ _ _ _ _ us hl => L2.us1 (P := fun us => bindArgs _ ⟨us, []⟩ = pure ((["self"] : List Str).zip us)) hl fun _ => rfl),
    F1,
    F1.binds (ps := ["self", "box"]) (fun _ _ _ _ _ _ us hl => L2.us2 (P := fun us => bindArgs _ ⟨us, []⟩ = pure ((["self", "box"] : List Str).zip us)) hl fun _ _ => rfl),
    F2,
    F2.binds (ps := ["self"]) (fun _ _ _ _ _ _ us hl => L2.us1 (P := fun us => bindArgs _ ⟨us, []⟩ = pure ((["self"] : List Str).zip us)) hl fun _ => rfl),
    F3,
    F3.binds (ps := ["self", "n"]) (fun _ _ _ _ _ _ us hl => L2.us2 (P := fun us => bindArgs _ ⟨us, []⟩ = pure ((["self", "n"] : List Str).zip us)) hl fun _ _ => rfl),
    F4,
    F4.binds (ps := ["self", "sign", "kids"]) (fun _ _ _ _ _ _ us hl => L2.us3 (P := fun us => bindArgs _ ⟨us, []⟩ = pure ((["self", "sign", "kids"] : List Str).zip us)) hl fun _ _ _ => rfl),
    F5,
    F5.binds (ps := ["self", "at"]) (fun _ _ _ _ _ _ us hl => L2.us2 (P := fun us => bindArgs _ ⟨us, []⟩ = pure ((["self", "at"] : List Str).zip us)) hl fun _ _ => rfl),
    F6,
    F6.binds (ps := ["self", "at"]) (fun _ _ _ _ _ _ us hl => L2.us2 (P := fun us => bindArgs _ ⟨us, []⟩ = pure ((["self", "at"] : List Str).zip us)) hl fun _ _ => rfl),
    F7,
    F7.binds (ps := ["self", "at", "other"]) (fun _ _ _ _ _ _ us hl => L2.us3 (P := fun us => bindArgs _ ⟨us, []⟩ = pure ((["self", "at", "other"] : List Str).zip us)) hl fun _ _ _ => rfl),
    F8,
    F8.binds (ps := ["self", "left", "right"]) (fun _ _ _ _ _ _ us hl => L2.us3 (P := fun us => bindArgs _ ⟨us, []⟩ = pure ((["self", "left", "right"] : List Str).zip us)) hl fun _ _ _ => rfl),
    F9,
    F9.binds (ps := ["self", "at", "other"]) (fun _ _ _ _ _ _ us hl => L2.us3 (P := fun us => bindArgs _ ⟨us, []⟩ = pure ((["self", "at", "other"] : List Str).zip us)) hl fun _ _ _ => rfl),
    F10,
    F10.binds (ps := ["self", "at", "other"]) (fun _ _ _ _ _ _ us hl => L2.us3 (P := fun us => bindArgs _ ⟨us, []⟩ = pure ((["self", "at", "other"] : List Str).zip us)) hl fun _ _ _ => rfl),
    F11,
    F11.binds (ps := ["self"]) (fun _ _ _ _ _ _ us hl => L2.us1 (P := fun us => bindArgs _ ⟨us, []⟩ = pure ((["self"] : List Str).zip us)) hl fun _ => rfl),
    F12,
    F12.binds (ps := ["self", "mark"]) (fun _ _ _ _ _ _ us hl => L2.us2 (P := fun us => bindArgs _ ⟨us, []⟩ = pure ((["self", "mark"] : List Str).zip us)) hl fun _ _ => rfl),
    F13,
    F13.binds (ps := ["term"]) (fun _ _ _ _ _ _ us hl => L2.us1 (P := fun us => bindArgs _ ⟨us, []⟩ = pure ((["term"] : List Str).zip us)) hl fun _ => rfl),
    PySem.W.mg_of X G a13,
    F14,
    F14.binds (ps := ["_law_boxes", "_law_k"]) (fun _ _ _ _ _ _ us hl => L2.us2 (P := fun us => bindArgs _ ⟨us, []⟩ = pure ((["_law_boxes", "_law_k"] : List Str).zip us)) hl fun _ _ => rfl),
    PySem.W.mg_of X G a14,
    F15,
    F15.binds (ps := ["_law_boxes", "_law_k"]) (fun _ _ _ _ _ _ us hl => L2.us2 (P := fun us => bindArgs _ ⟨us, []⟩ = pure ((["_law_boxes", "_law_k"] : List Str).zip us)) hl fun _ _ => rfl),
    PySem.W.mg_of X G a15,
    F16,
    F16.binds (ps := ["_law_boxes", "_law_k", "_law_free"]) (fun _ _ _ _ _ _ us hl => L2.us3 (P := fun us => bindArgs _ ⟨us, []⟩ = pure ((["_law_boxes", "_law_k", "_law_free"] : List Str).zip us)) hl fun _ _ _ => rfl),
    PySem.W.mg_of X G a16,
    F17,
    F17.binds (ps := ["_law_boxes", "_law_one_here", "_law_other"]) (fun _ _ _ _ _ _ us hl => L2.us3 (P := fun us => bindArgs _ ⟨us, []⟩ = pure ((["_law_boxes", "_law_one_here", "_law_other"] : List Str).zip us)) hl fun _ _ _ => rfl),
    PySem.W.mg_of X G a17,
    F18,
    F18.binds (ps := ["_law_heap", "_law_boxes", "_law_at"]) (fun _ _ _ _ _ _ us hl => L2.us3 (P := fun us => bindArgs _ ⟨us, []⟩ = pure ((["_law_heap", "_law_boxes", "_law_at"] : List Str).zip us)) hl fun _ _ _ => rfl),
    PySem.W.mg_of X G a18,
    F19,
    F19.binds (ps := ["_law_heap", "_law_boxes", "_law_at", "_law_cell"]) (fun _ _ _ _ _ _ us hl => L2.us4 (P := fun us => bindArgs _ ⟨us, []⟩ = pure ((["_law_heap", "_law_boxes", "_law_at", "_law_cell"] : List Str).zip us)) hl fun _ _ _ _ => rfl),
    PySem.W.mg_of X G a19,
    F20,
    F20.binds (ps := ["_law_heap", "_law_boxes", "_law_at", "_law_cell"]) (fun _ _ _ _ _ _ us hl => L2.us4 (P := fun us => bindArgs _ ⟨us, []⟩ = pure ((["_law_heap", "_law_boxes", "_law_at", "_law_cell"] : List Str).zip us)) hl fun _ _ _ _ => rfl),
    PySem.W.mg_of X G a20,
    F21,
    F21.binds (ps := ["_law_script"]) (fun _ _ _ _ _ _ us hl => L2.us1 (P := fun us => bindArgs _ ⟨us, []⟩ = pure ((["_law_script"] : List Str).zip us)) hl fun _ => rfl),
    PySem.W.mg_of X G a21,
    PySem.W.mg_none_of X G z0,
    PySem.W.mg_none_of X G z1,
    PySem.W.mg_none_of X G z2,
    PySem.W.mg_none_of X G z3,
    PySem.W.mg_none_of X G z4,
    PySem.W.mg_none_of X G z5,
    PySem.W.mg_none_of X G z6,
    PySem.W.mg_none_of X G z7,
    PySem.W.mg_of X G y0,
    fun _ => .inr ⟨_, _, _, y0_0, rfl, rfl, ln (by simp), (.cons ⟨_, rfl⟩ .nil)⟩⟩, fun s u => .of_eq rfl⟩
noncomputable def cO (n q : Str) (a b c : Tok) (l m f : Int) (r : Addr) (x : Int) (s : Addr) (v w : Value) (u : Addr) (y : Int) (d : Tok) : Obj := .mk (.type "code") none (.fields (List.toArray ((.str n a) :: (.str q b) :: (.str "/claim/cut.py" c) :: (.int l 0) :: (.int m 0) :: (.int 0 0) :: (.int 0 0) :: (.int f 0) :: (.ref r) :: (.bool true) :: (.int x 0) :: (.ref s) :: .none :: v :: w :: (.ref u) :: (.int y 0) :: (.int l 0) :: (.str "/claim/cut.py" d) :: []))) #[]
noncomputable def fO (n q : Str) (s : Stmt) (m : Value) (c : Addr) : Obj := .mk (.type "function") none (.func (PySem.W.fnOf n q (defArgs s) (defBody s) (defScope s) .none .none .none m none (.ref c) .none)) #[]
noncomputable def k2 (P : Params) : Obj := .mk .none none (.dict #[] 0) #[]
noncomputable def k3 (P : Params) : Obj := .mk (.type "dict") none (.dict (List.toArray ((.mk (PyData.keyHash P "__name__") (.str "__name__" 165) (.str "law_goaltrail_k52_taken_back" 440)) :: (.mk (PyData.keyHash P "__doc__") (.str "__doc__" 166) .none) :: (.mk (PyData.keyHash P "__package__") (.str "__package__" 167) .none) :: (.mk (PyData.keyHash P "__loader__") (.str "__loader__" 168) (.builtin "__main__.__loader__#opaque")) :: (.mk (PyData.keyHash P "__spec__") (.str "__spec__" 169) .none) :: (.mk (PyData.keyHash P "__annotations__") (.str "__annotations__" 170) (.ref 6)) :: (.mk (PyData.keyHash P "__builtins__") (.str "__builtins__" 171) (.ref 4)) :: (.mk (PyData.keyHash P "__file__") (.str "__file__" 173) (.str "/claim/cut.py" 172)) :: (.mk (PyData.keyHash P "__cached__") (.str "__cached__" 174) .none) :: (.mk (PyData.keyHash P "TrailError") (.str "TrailError" 217) (.ref 32)) :: (.mk (PyData.keyHash P "Big") (.str "Big" 233) (.ref 45)) :: (.mk (PyData.keyHash P "key_of") (.str "key_of" 242) (.ref 54)) :: (.mk (PyData.keyHash P "MOST_PARTS") (.str "MOST_PARTS" 246) (.int 40 245)) :: (.mk (PyData.keyHash P "num") (.str "num" 253) (.ref 61)) :: (.mk (PyData.keyHash P "unknown") (.str "unknown" 260) (.ref 68)) :: (.mk (PyData.keyHash P "app") (.str "app" 268) (.ref 75)) :: (.mk (PyData.keyHash P "app_terms") (.str "app_terms" 269) (.ref 75)) :: (.mk (PyData.keyHash P "FREE") (.str "FREE" 273) (.ref 76)) :: (.mk (PyData.keyHash P "Heap") (.str "Heap" 439) (.ref 196)) :: (.mk (PyData.keyHash P "_law_led") (.str "_law_led" 449) (.ref 207)) :: (.mk (PyData.keyHash P "_law_size") (.str "_law_size" 460) (.ref 214)) :: (.mk (PyData.keyHash P "_law_within") (.str "_law_within" 471) (.ref 221)) :: (.mk (PyData.keyHash P "_law_one") (.str "_law_one" 482) (.ref 228)) :: (.mk (PyData.keyHash P "_law_same") (.str "_law_same" 495) (.ref 235)) :: (.mk (PyData.keyHash P "_law_made") (.str "_law_made" 501) (.ref 240)) :: (.mk (PyData.keyHash P "_law_joined") (.str "_law_joined" 507) (.ref 245)) :: (.mk (PyData.keyHash P "law") (.str "law" 513) (.ref 250)) :: [])) 27) #[]
noncomputable def k31 (P : Params) : Obj := .mk (.type "dict") none (.dict (List.toArray ((.mk (PyData.keyHash P "__module__") (.str "__module__" 196) (.str "goaltrail.errors" 187)) :: (.mk (PyData.keyHash P "__firstlineno__") (.str "__firstlineno__" 200) (.int 2 199)) :: (.mk (PyData.keyHash P "__init__") (.str "__init__" 210) (.ref 29)) :: (.mk (PyData.keyHash P "__static_attributes__") (.str "__static_attributes__" 212) (.ref 30)) :: (.mk (PyData.keyHash P "__weakref__") (.str "__weakref__" 214) (.ref 33)) :: (.mk (PyData.keyHash P "__doc__") (.str "__doc__" 215) .none) :: [])) 3) #[]
noncomputable def k32 (P : Params) : Obj := .mk (.type "type") none (.cls (.mk "TrailError" [(.type "ValueError")] [(.ref 32), (.type "ValueError"), (.type "Exception"), (.type "BaseException"), (.type "object")] 31 "TrailError" Bool.true [] [(.ref 45)] Bool.false none Bool.false)) (List.toArray ((some (.ref 15)) :: none :: (some (.str "TrailError" 189)) :: (some (.str "TrailError" 197)) :: (some (.builtin "ValueError.__new__")) :: (some (.bool true)) :: []))
noncomputable def k44 (P : Params) : Obj := .mk (.type "dict") none (.dict #[(.mk (PyData.keyHash P "__module__") (.str "__module__" 225) (.str "goaltrail.errors" 187)), (.mk (PyData.keyHash P "__firstlineno__") (.str "__firstlineno__" 229) (.int 7 228)), (.mk (PyData.keyHash P "__static_attributes__") (.str "__static_attributes__" 230) (.ref 43)), (.mk (PyData.keyHash P "__doc__") (.str "__doc__" 231) .none)] 2) #[]
noncomputable def k45 (P : Params) : Obj := .mk (.type "type") none (.cls (.mk "Big" [(.ref 32)] [(.ref 45), (.ref 32), (.type "ValueError"), (.type "Exception"), (.type "BaseException"), (.type "object")] 44 "Big" Bool.true [] [] Bool.false none Bool.false)) (List.toArray ((some (.ref 36)) :: none :: (some (.str "Big" 218)) :: (some (.str "Big" 226)) :: (some (.builtin "ValueError.__new__")) :: (some (.bool true)) :: []))
noncomputable def k53 (P : Params) : Obj := cO "key_of" "key_of" 236 237 238 10 1 3 48 181 49 (.ref 50) (.ref 51) 52 240 241
noncomputable def k54 (P : Params) : Obj := fO "key_of" "key_of" s_key_of (.str "goaltrail.switches" 234) 53
noncomputable def k76 (P : Params) : Obj := .mk (.type "tuple") none (.seq #[(.str "free" 272)] 0) #[]
noncomputable def k89 (P : Params) : Obj := cO "__init__" "Heap.__init__" 286 287 288 29 1 3 84 181 85 (.ref 86) (.ref 87) 88 290 291
noncomputable def k90 (P : Params) : Obj := fO "__init__" "Heap.__init__" s_Heap_init (.str "goaltrail.heap" 270) 89
noncomputable def k96 (P : Params) : Obj := cO "made" "Heap.made" 293 294 295 33 2 3 91 181 92 (.ref 93) (.ref 94) 95 298 299
noncomputable def k97 (P : Params) : Obj := fO "made" "Heap.made" s_Heap_made (.str "goaltrail.heap" 270) 96
noncomputable def k103 (P : Params) : Obj := cO "free" "Heap.free" 301 302 303 37 1 3 98 181 99 (.ref 100) (.ref 101) 102 305 306
noncomputable def k104 (P : Params) : Obj := fO "free" "Heap.free" s_Heap_free (.str "goaltrail.heap" 270) 103
noncomputable def k110 (P : Params) : Obj := cO "number" "Heap.number" 308 309 310 40 2 3 105 181 106 (.ref 107) (.ref 108) 109 313 314
noncomputable def k111 (P : Params) : Obj := fO "number" "Heap.number" s_Heap_number (.str "goaltrail.heap" 270) 110
noncomputable def k117 (P : Params) : Obj := cO "app" "Heap.app" 316 317 318 43 3 3 112 181 113 (.ref 114) (.ref 115) 116 322 323
noncomputable def k118 (P : Params) : Obj := fO "app" "Heap.app" s_Heap_app (.str "goaltrail.heap" 270) 117
noncomputable def k124 (P : Params) : Obj := cO "end_of" "Heap.end_of" 325 326 327 46 2 3 119 181 120 (.ref 121) (.ref 122) 123 331 332
noncomputable def k125 (P : Params) : Obj := fO "end_of" "Heap.end_of" s_Heap_end_of (.str "goaltrail.heap" 270) 124
noncomputable def k131 (P : Params) : Obj := cO "look" "Heap.look" 334 335 336 52 2 3 126 181 127 (.ref 128) (.ref 129) 130 340 341
noncomputable def k132 (P : Params) : Obj := fO "look" "Heap.look" s_Heap_look (.str "goaltrail.heap" 270) 131
noncomputable def k138 (P : Params) : Obj := cO "one" "Heap.one" 343 344 345 56 3 3 133 181 134 (.ref 135) (.ref 136) 137 354 355
noncomputable def k139 (P : Params) : Obj := fO "one" "Heap.one" s_Heap_one (.str "goaltrail.heap" 270) 138
noncomputable def k145 (P : Params) : Obj := cO "kids_of_one" "Heap.kids_of_one" 357 358 359 70 3 3 140 181 141 (.ref 142) (.ref 143) 144 365 366
noncomputable def k146 (P : Params) : Obj := fO "kids_of_one" "Heap.kids_of_one" s_Heap_kids_of_one (.str "goaltrail.heap" 270) 145
noncomputable def k152 (P : Params) : Obj := cO "bind" "Heap.bind" 368 369 370 81 3 3 147 181 148 (.ref 149) (.ref 150) 151 374 375
noncomputable def k153 (P : Params) : Obj := fO "bind" "Heap.bind" s_Heap_bind (.str "goaltrail.heap" 270) 152
noncomputable def k159 (P : Params) : Obj := cO "stands_within" "Heap.stands_within" 377 378 379 88 3 3 154 181 155 (.ref 156) (.ref 157) 158 386 387
noncomputable def k160 (P : Params) : Obj := fO "stands_within" "Heap.stands_within" s_Heap_stands_within (.str "goaltrail.heap" 270) 159
noncomputable def k166 (P : Params) : Obj := cO "mark" "Heap.mark" 389 390 391 100 1 3 161 181 162 (.ref 163) (.ref 164) 165 393 394
noncomputable def k167 (P : Params) : Obj := fO "mark" "Heap.mark" s_Heap_mark (.str "goaltrail.heap" 270) 166
noncomputable def k173 (P : Params) : Obj := cO "back_to" "Heap.back_to" 396 397 398 103 2 3 168 181 169 (.ref 170) (.ref 171) 172 401 402
noncomputable def k174 (P : Params) : Obj := fO "back_to" "Heap.back_to" s_Heap_back_to (.str "goaltrail.heap" 270) 173
noncomputable def k195 (P : Params) : Obj := .mk (.type "dict") none (.dict (List.toArray ((.mk (PyData.keyHash P "__module__") (.str "__module__" 281) (.str "goaltrail.heap" 270)) :: (.mk (PyData.keyHash P "__firstlineno__") (.str "__firstlineno__" 285) (.int 27 284)) :: (.mk (PyData.keyHash P "__init__") (.str "__init__" 292) (.ref 90)) :: (.mk (PyData.keyHash P "made") (.str "made" 300) (.ref 97)) :: (.mk (PyData.keyHash P "free") (.str "free" 307) (.ref 104)) :: (.mk (PyData.keyHash P "number") (.str "number" 315) (.ref 111)) :: (.mk (PyData.keyHash P "app") (.str "app" 324) (.ref 118)) :: (.mk (PyData.keyHash P "end_of") (.str "end_of" 333) (.ref 125)) :: (.mk (PyData.keyHash P "look") (.str "look" 342) (.ref 132)) :: (.mk (PyData.keyHash P "one") (.str "one" 356) (.ref 139)) :: (.mk (PyData.keyHash P "kids_of_one") (.str "kids_of_one" 367) (.ref 146)) :: (.mk (PyData.keyHash P "bind") (.str "bind" 376) (.ref 153)) :: (.mk (PyData.keyHash P "stands_within") (.str "stands_within" 388) (.ref 160)) :: (.mk (PyData.keyHash P "mark") (.str "mark" 395) (.ref 167)) :: (.mk (PyData.keyHash P "back_to") (.str "back_to" 403) (.ref 174)) :: (.mk (PyData.keyHash P "parts") (.str "parts" 415) (.ref 181)) :: (.mk (PyData.keyHash P "term") (.str "term" 423) (.ref 188)) :: (.mk (PyData.keyHash P "read_out") (.str "read_out" 429) (.ref 193)) :: (.mk (PyData.keyHash P "__static_attributes__") (.str "__static_attributes__" 432) (.ref 194)) :: (.mk (PyData.keyHash P "__dict__") (.str "__dict__" 434) (.ref 197)) :: (.mk (PyData.keyHash P "__weakref__") (.str "__weakref__" 436) (.ref 198)) :: (.mk (PyData.keyHash P "__doc__") (.str "__doc__" 437) .none) :: [])) 4) #[]
noncomputable def k196 (P : Params) : Obj := .mk (.type "type") none (.cls (.mk "Heap" [(.type "object")] [(.ref 196), (.type "object")] 195 "Heap" Bool.true [] [] Bool.false none Bool.false)) (List.toArray (none :: none :: (some (.str "Heap" 274)) :: (some (.str "Heap" 282)) :: (some (.builtin "object.__new__")) :: (some (.bool true)) :: []))
noncomputable def k206 (P : Params) : Obj := cO "_law_led" "_law_led" 442 443 444 135 2 3 201 181 202 (.ref 203) (.ref 204) 205 447 448
noncomputable def k207 (P : Params) : Obj := fO "_law_led" "_law_led" s_l_led (.str "law_goaltrail_k52_taken_back" 440) 206
noncomputable def k213 (P : Params) : Obj := cO "_law_size" "_law_size" 450 451 452 139 2 3 208 181 209 (.ref 210) (.ref 211) 212 458 459
noncomputable def k214 (P : Params) : Obj := fO "_law_size" "_law_size" s_l_size (.str "law_goaltrail_k52_taken_back" 440) 213
noncomputable def k220 (P : Params) : Obj := cO "_law_within" "_law_within" 461 462 463 148 3 3 215 181 216 (.ref 217) (.ref 218) 219 469 470
noncomputable def k221 (P : Params) : Obj := fO "_law_within" "_law_within" s_l_within (.str "law_goaltrail_k52_taken_back" 440) 220
noncomputable def k227 (P : Params) : Obj := cO "_law_one" "_law_one" 472 473 474 157 3 3 222 181 223 (.ref 224) (.ref 225) 226 480 481
noncomputable def k228 (P : Params) : Obj := fO "_law_one" "_law_one" s_l_one (.str "law_goaltrail_k52_taken_back" 440) 227
noncomputable def k234 (P : Params) : Obj := cO "_law_same" "_law_same" 483 484 485 176 3 3 229 181 230 (.ref 231) (.ref 232) 233 493 494
noncomputable def k235 (P : Params) : Obj := fO "_law_same" "_law_same" s_l_same (.str "law_goaltrail_k52_taken_back" 440) 234
noncomputable def k239 (P : Params) : Obj := cO "_law_made" "_law_made" 496 497 498 193 4 3 236 181 237 .none .none 238 499 500
noncomputable def k240 (P : Params) : Obj := fO "_law_made" "_law_made" s_l_made (.str "law_goaltrail_k52_taken_back" 440) 239
noncomputable def k244 (P : Params) : Obj := cO "_law_joined" "_law_joined" 502 503 504 210 4 3 241 181 242 .none .none 243 505 506
noncomputable def k245 (P : Params) : Obj := fO "_law_joined" "_law_joined" s_l_joined (.str "law_goaltrail_k52_taken_back" 440) 244
noncomputable def k249 (P : Params) : Obj := cO "law" "law" 508 509 510 232 1 3 246 181 247 .none .none 248 511 512
noncomputable def k250 (P : Params) : Obj := fO "law" "law" s_law (.str "law_goaltrail_k52_taken_back" 440) 249
noncomputable def KK : Params → PySem.W.Frag := fun P => (nat_lit 2, k2 P) :: (nat_lit 3, k3 P) :: (nat_lit 31, k31 P) :: (nat_lit 32, k32 P) :: (nat_lit 44, k44 P) :: (nat_lit 45, k45 P) :: (nat_lit 53, k53 P) :: (nat_lit 54, k54 P) :: (nat_lit 76, k76 P) :: (nat_lit 89, k89 P) :: (nat_lit 90, k90 P) :: (nat_lit 96, k96 P) :: (nat_lit 97, k97 P) :: (nat_lit 103, k103 P) :: (nat_lit 104, k104 P) :: (nat_lit 110, k110 P) :: (nat_lit 111, k111 P) :: (nat_lit 117, k117 P) :: (nat_lit 118, k118 P) :: (nat_lit 124, k124 P) :: (nat_lit 125, k125 P) :: (nat_lit 131, k131 P) :: (nat_lit 132, k132 P) :: (nat_lit 138, k138 P) :: (nat_lit 139, k139 P) :: (nat_lit 145, k145 P) :: (nat_lit 146, k146 P) :: (nat_lit 152, k152 P) :: (nat_lit 153, k153 P) :: (nat_lit 159, k159 P) :: (nat_lit 160, k160 P) :: (nat_lit 166, k166 P) :: (nat_lit 167, k167 P) :: (nat_lit 173, k173 P) :: (nat_lit 174, k174 P) :: (nat_lit 195, k195 P) :: (nat_lit 196, k196 P) :: (nat_lit 206, k206 P) :: (nat_lit 207, k207 P) :: (nat_lit 213, k213 P) :: (nat_lit 214, k214 P) :: (nat_lit 220, k220 P) :: (nat_lit 221, k221 P) :: (nat_lit 227, k227 P) :: (nat_lit 228, k228 P) :: (nat_lit 234, k234 P) :: (nat_lit 235, k235 P) :: (nat_lit 239, k239 P) :: (nat_lit 240, k240 P) :: (nat_lit 244, k244 P) :: (nat_lit 245, k245 P) :: (nat_lit 249, k249 P) :: (nat_lit 250, k250 P) :: []
noncomputable def prog : Program := PySem.Challenge.pw_goaltrail_k52_taken_back
noncomputable def Q : Program := PySem.W.view prog [1, 2, 4, 6, 7, 8, 9, 10, 12, 13, 15, 16, 17, 18, 19, 20, 21, 22]
noncomputable def loose : List Str := ["TrailError", "app_terms"]
noncomputable def Xt (s : Shared) : Bool := PySem.W.xlAt Q [] s && PySem.W.recOk [] s
lay_quick prog Q loose Xt KK
noncomputable def ads : List Addr := [2, 3, 31, 32, 44, 45, 53, 54, 76, 89, 90, 96, 97, 103, 104, 110, 111, 117, 118, 124, 125, 131, 132, 138, 139, 145, 146, 152, 153, 159, 160, 166, 167, 173, 174, 195, 196, 206, 207, 213, 214, 220, 221, 227, 228, 234, 235, 239, 240, 244, 245, 249, 250]
theorem run1 : ∀ w : World, (fun os => (PySem.W.segRunT treeTable prog w 11 (some (.ref 6)) 0 1618 (bootS w os) (PySem.W.topStub prog)).map fun r => looks prog Q loose Xt (fun s => ads.map s.heap.get?) true (PySem.W.boot_heap w.params) r.2.1.abs) = fun _ => some (true, PySem.W.openGood Q loose, (KK w.params).map fun p => some p.2) := by
  intro w
  rw [PySem.W.Fast.te10110043849684766642, PySem.W.Fast.te14364793385576792824, PySem.W.Fast.te2530740449226627131, PySem.W.Fast.te3486900944545009338, PySem.W.Fast.te10845986317416049621, PySem.W.Fast.te5655336392911312201, PySem.W.Fast.te2269092192922489660, PySem.W.Fast.te11443658404787768991, PySem.W.Fast.te8497152684455178732, PySem.W.Fast.te18048671565189718596, PySem.W.Fast.te6894247980046229166]
  kernel_rfl
theorem left1 : PySem.W.LeftO prog Q loose Xt (fun s => ads.map s.heap.get?) (fun w => (KK w.params).map fun p => some p.2) 1618 := left_of (by kernel_rfl) (by decide) (fun _ => by kernel_rfl) boot_size (by decide) run1
theorem walk {l : PySem.W.OpenLaw} {q : Program} {loose : List Str} {XP : (Str → Option Value) → Heap → Prop} {YP : World → Heap → Prop} {d : DefRec} {K : Params → PySem.W.Frag} (hn : l.most = some 63) (hdf : d.params.defaults = [])
    (hY : ∀ (w : World) (h : Heap), YP w h → (K w.params).In h)
    (F : ∀ (w : World) (mg : Str → Option Value) (fa : Addr) (h : Heap), (K w.params).In h → h.Ns mainGlobals mg → mg d.name = some (.ref fa) →
      ∃ fd : FuncData, (∀ (s : Shared) (u : Value), BindsTo s fd ⟨[u], []⟩ [("_law_script", u)]) ∧ ∀ base : Heap, (K w.params).In base → base.Ns mainGlobals mg → FnOk l.prog w (K w.params) mg base CX0 7 fa fd ["_law_script"] (sp_law (K w.params))) :
    PySem.W.WalkO q loose XP YP l.row.toRowW d [] (fun f vs => PySem.call f vs) :=
  L2.walk_of (n := 63) (k := 7) (x := "_law_script") (CX := fun _ => CX0) (sp := fun w => sp_law (K w.params)) hn (by decide) hdf ⟨rfl, by decide, by decide⟩ hY F (fun _ _ a ns hl hO hS => ⟨ns, hS, hl, fun _ => rfl⟩) fun _ _ _ _ _ z => z
end My
open PySem PySem.W PyProof.Rows
set_option maxRecDepth 100000 in
set_option maxHeartbeats 0 in
theorem PySem.Challenge.cw_goaltrail_k52_taken_back_holds : PySem.Challenge.rw_goaltrail_k52_taken_back.Holds := by
  w_on; o_law
  refine PySem.W.holds_open (q := My.Q) (loose := My.loose) (Xt := My.Xt) (XP := PySem.W.XL My.Q []) (Yf := fun s => My.ads.map s.heap.get?) (Ya := fun w => (My.KK w.params).map fun (p : Addr × Obj) => some p.2) (YP := PySem.W.InK My.KK) (N := 1618) My.left1 (PySem.W.InK.of (fun _ => by kernel_rfl)) PySem.W.InK.keeps (fun s e => PySem.W.xl_of s (Bool.and_eq_true_iff.mp e).1) PySem.W.XL.keeps (by rfl) (by rfl) (by rfl) (fun s e => PySem.W.recFacts_of (Bool.and_eq_true_iff.mp e).2) (by rfl) (by assumption) (by decide +kernel) ⟨rfl, rfl, rfl, rfl, rfl, by decide +kernel⟩ ?hw ?hc
  (case hw => w_witness2)
  k_fill
  refine My.walk (l := PySem.Challenge.rw_goaltrail_k52_taken_back) rfl rfl (fun w h Y => Y) ?F
  case F =>
    intro w mg fa h KX G hmg
    have TT : ∃ t : My.Ad, My.Txt (L2.KOf KX) mg t ∧ ∀ (s : Shared) (u : Value), BindsTo s t.d_law ⟨[u], []⟩ [("_law_script", u)] := by
      dsimp only [L2.KOf]
      refine' My.txt_mk KX G ?ac_TrailError ?ac_Big ?ac_Heap ?pg_Heap ?hd_Heap ?po_Heap ?sa_Heap ?na_Heap_boxes ?na_Heap_trail ?mk_Heap ?in_Heap ?kc_Heap ?am_Heap_made ?am_Heap_free ?am_Heap_number ?am_Heap_app ?am_Heap_end_of ?am_Heap_look ?am_Heap_one ?am_Heap_kids_of_one ?am_Heap_bind ?am_Heap_stands_within ?am_Heap_mark ?am_Heap_back_to ?l0 ?c0 ?k0 ?fn0 ?l1 ?c1 ?k1 ?fn1 ?l2 ?c2 ?k2 ?fn2 ?l3 ?c3 ?k3 ?fn3 ?l4 ?c4 ?k4 ?fn4 ?l5 ?c5 ?k5 ?fn5 ?l6 ?c6 ?k6 ?fn6 ?l7 ?c7 ?k7 ?fn7 ?l8 ?c8 ?k8 ?fn8 ?l9 ?c9 ?k9 ?fn9 ?l10 ?c10 ?k10 ?fn10 ?l11 ?c11 ?k11 ?fn11 ?l12 ?c12 ?k12 ?fn12 ?a13 ?l13 ?c13 ?k13 ?a14 ?l14 ?c14 ?k14 ?a15 ?l15 ?c15 ?k15 ?a16 ?l16 ?c16 ?k16 ?a17 ?l17 ?c17 ?k17 ?a18 ?l18 ?c18 ?k18 ?a19 ?l19 ?c19 ?k19 ?a20 ?l20 ?c20 ?k20 ?a21 ?l21 ?c21 ?k21 ?z0 ?z1 ?z2 ?z3 ?z4 ?z5 ?z6 ?z7 ?y0 ?y0_0
      (case ac_TrailError => k_is)
      (case ac_Big => k_is)
      (case ac_Heap => k_is)
      (case pg_Heap => k_is)
      (case hd_Heap => k_is)
      (case po_Heap => k_is)
      (case sa_Heap => k_is)
      (case na_Heap_boxes => k_is)
      (case na_Heap_trail => k_is)
      (case mk_Heap => k_is)
      (case in_Heap => k_is)
      (case kc_Heap => k_is)
      (case am_Heap_made => k_is)
      (case am_Heap_free => k_is)
      (case am_Heap_number => k_is)
      (case am_Heap_app => k_is)
      (case am_Heap_end_of => k_is)
      (case am_Heap_look => k_is)
      (case am_Heap_one => k_is)
      (case am_Heap_kids_of_one => k_is)
      (case am_Heap_bind => k_is)
      (case am_Heap_stands_within => k_is)
      (case am_Heap_mark => k_is)
      (case am_Heap_back_to => k_is)
      (case l0 => k_is)
      (case c0 => k_is)
      (case k0 => k_is)
      (case fn0 => k_is)
      (case l1 => k_is)
      (case c1 => k_is)
      (case k1 => k_is)
      (case fn1 => k_is)
      (case l2 => k_is)
      (case c2 => k_is)
      (case k2 => k_is)
      (case fn2 => k_is)
      (case l3 => k_is)
      (case c3 => k_is)
      (case k3 => k_is)
      (case fn3 => k_is)
      (case l4 => k_is)
      (case c4 => k_is)
      (case k4 => k_is)
      (case fn4 => k_is)
      (case l5 => k_is)
      (case c5 => k_is)
      (case k5 => k_is)
      (case fn5 => k_is)
      (case l6 => k_is)
      (case c6 => k_is)
      (case k6 => k_is)
      (case fn6 => k_is)
      (case l7 => k_is)
      (case c7 => k_is)
      (case k7 => k_is)
      (case fn7 => k_is)
      (case l8 => k_is)
      (case c8 => k_is)
      (case k8 => k_is)
      (case fn8 => k_is)
      (case l9 => k_is)
      (case c9 => k_is)
      (case k9 => k_is)
      (case fn9 => k_is)
      (case l10 => k_is)
      (case c10 => k_is)
      (case k10 => k_is)
      (case fn10 => k_is)
      (case l11 => k_is)
      (case c11 => k_is)
      (case k11 => k_is)
      (case fn11 => k_is)
      (case l12 => k_is)
      (case c12 => k_is)
      (case k12 => k_is)
      (case fn12 => k_is)
      (case a13 => k_is)
      (case l13 => k_is)
      (case c13 => k_is)
      (case k13 => k_is)
      (case a14 => k_is)
      (case l14 => k_is)
      (case c14 => k_is)
      (case k14 => k_is)
      (case a15 => k_is)
      (case l15 => k_is)
      (case c15 => k_is)
      (case k15 => k_is)
      (case a16 => k_is)
      (case l16 => k_is)
      (case c16 => k_is)
      (case k16 => k_is)
      (case a17 => k_is)
      (case l17 => k_is)
      (case c17 => k_is)
      (case k17 => k_is)
      (case a18 => k_is)
      (case l18 => k_is)
      (case c18 => k_is)
      (case k18 => k_is)
      (case a19 => k_is)
      (case l19 => k_is)
      (case c19 => k_is)
      (case k19 => k_is)
      (case a20 => k_is)
      (case l20 => k_is)
      (case c20 => k_is)
      (case k20 => k_is)
      (case a21 => k_is)
      (case l21 => k_is)
      (case c21 => k_is)
      (case k21 => k_is)
      (case z0 => k_is)
      (case z1 => k_is)
      (case z2 => k_is)
      (case z3 => k_is)
      (case z4 => k_is)
      (case z5 => k_is)
      (case z6 => k_is)
      (case z7 => k_is)
      (case y0 => k_is)
      (case y0_0 => k_is)
    obtain ⟨t, T, e1⟩ := TT
    have e0 := hmg.symm.trans T.m_law
    cases e0
    exact ⟨t.d_law, e1, fun base kb nb => My.ok_all T⟩
