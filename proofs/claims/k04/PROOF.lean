import PyProof.Rows.All
import PyProof.StrBlock2
import PyProof.Rows.StrIntSpec
import KE.KItemsList
import KE.KDictLaws
import PyProof.SumWalkG
import KE.KRevIter
import PyProof.ListRange
import PyProof.Rows.SortWalk
import KE.KSortedM
import Wide.All
import OpenK.AllK
import Wide.FinOn
import Lean
import PyProof.EqAt
import PyProof.EqKinds
import PyProof.TupleCall
import PyProof.NeKinds
import PyProof.DictUpdate
import KE.KDictList
import KE.KEqDict
import PyProof.Draws
import PyProof.Rows.EnumRows
import PyProof.StationsW
import PyProof.ExcClass3
import PyProof.RulesAs
import PyProof.ExcBaseAll.ValueError
import PyProof.InstStoreFacts
import PyProof.ExcArgsOwn
import PyProof.NsDelKeeps
import KE.RegKIsAll
import PyProof.Rows.LoopZipPat
import PyProof.StrLawsRepr
import KE.KDictOf
import PyProof.WalksS
import PyProof.AttrMissHeap
import PySem.Challenge.RW_goaltrail_k04_signs_told
set_option Elab.async false
set_option linter.all false
set_option maxRecDepth 100000
set_option genSizeOf false
set_option compiler.extract_closed false
namespace L2
open PySem PySem.Spec PyProof.Rows
theorem us0 {us : List Value} {P : List Value → Prop} (hl : us.length = 0) (h : P []) : P us := by cases us with | nil => exact h | cons a r => cases hl
theorem us1 {us : List Value} {P : List Value → Prop} (hl : us.length = 1) (h : ∀ a, P [a]) : P us := by cases us with | nil => cases hl | cons a r => exact us0 (P := fun r => P (a :: r)) (Nat.succ.inj hl) (h a)
theorem us2 {us : List Value} {P : List Value → Prop} (hl : us.length = 2) (h : ∀ a b, P [a, b]) : P us := by cases us with | nil => cases hl | cons a r => exact us1 (P := fun r => P (a :: r)) (Nat.succ.inj hl) (h a)
theorem us3 {us : List Value} {P : List Value → Prop} (hl : us.length = 3) (h : ∀ a b c, P [a, b, c]) : P us := by cases us with | nil => cases hl | cons a r => exact us2 (P := fun r => P (a :: r)) (Nat.succ.inj hl) (h a)
theorem us4 {us : List Value} {P : List Value → Prop} (hl : us.length = 4) (h : ∀ a b c d, P [a, b, c, d]) : P us := by cases us with | nil => cases hl | cons a r => exact us3 (P := fun r => P (a :: r)) (Nat.succ.inj hl) (h a)
theorem us5 {us : List Value} {P : List Value → Prop} (hl : us.length = 5) (h : ∀ a b c d e, P [a, b, c, d, e]) : P us := by cases us with | nil => cases hl | cons a r => exact us4 (P := fun r => P (a :: r)) (Nat.succ.inj hl) (h a)
theorem us6 {us : List Value} {P : List Value → Prop} (hl : us.length = 6) (h : ∀ a b c d e f, P [a, b, c, d, e, f]) : P us := by cases us with | nil => cases hl | cons a r => exact us5 (P := fun r => P (a :: r)) (Nat.succ.inj hl) (h a)
theorem ex1 {us : List Value} (hl : us.length = 1) : ∃ a, us = [a] := us1 (P := fun us => ∃ a', us = [a']) hl fun a => ⟨a, rfl⟩
theorem ex2 {us : List Value} (hl : us.length = 2) : ∃ a b, us = [a, b] := us2 (P := fun us => ∃ a' b', us = [a', b']) hl fun a b => ⟨a, b, rfl⟩
theorem ex3 {us : List Value} (hl : us.length = 3) : ∃ a b c, us = [a, b, c] := us3 (P := fun us => ∃ a' b' c', us = [a', b', c']) hl fun a b c => ⟨a, b, c, rfl⟩
theorem ex4 {us : List Value} (hl : us.length = 4) : ∃ a b c d, us = [a, b, c, d] := us4 (P := fun us => ∃ a' b' c' d', us = [a', b', c', d']) hl fun a b c d => ⟨a, b, c, d, rfl⟩
theorem ex5 {us : List Value} (hl : us.length = 5) : ∃ a b c d e, us = [a, b, c, d, e] := us5 (P := fun us => ∃ a' b' c' d' e', us = [a', b', c', d', e']) hl fun a b c d e => ⟨a, b, c, d, e, rfl⟩
theorem ex6 {us : List Value} (hl : us.length = 6) : ∃ a b c d e f, us = [a, b, c, d, e, f] := us6 (P := fun us => ∃ a' b' c' d' e' f', us = [a', b', c', d', e', f']) hl fun a b c d e f => ⟨a, b, c, d, e, f, rfl⟩
noncomputable abbrev Key := Sum Int Str
noncomputable def keyIs : Key → Value → Bool
  | .inl k, v => Value.isInt k v
  | .inr x, v => Value.isStrOf x v
noncomputable def keyH (w : World) : Key → Int
  | .inl k => hashInt k
  | .inr x => hashStr w x
theorem keyIs_shape : ∀ {k : Key} {v : Value}, keyIs k v = true → (∃ i t, k = Sum.inl i ∧ v = Value.int i t) ∨ (∃ x t, k = Sum.inr x ∧ v = Value.str x t)
  | .inl i, v, h => by
    obtain ⟨t, e⟩ := Value.isInt_shape (k := i) (v := v) h
    exact .inl ⟨i, t, rfl, e⟩
  | .inr x, v, h => by
    obtain ⟨t, e⟩ := Value.isStrOf_shape (x := x) (v := v) h
    exact .inr ⟨x, t, rfl, e⟩
theorem keyIs_int (i : Int) (t : Tok) : keyIs (.inl i) (.int i t) = true := by simp [keyIs, Value.isInt]
theorem keyIs_str (x : Str) (t : Tok) : keyIs (.inr x) (.str x t) = true := by simp [keyIs, Value.isStrOf]
theorem key_ll (a b : Int) : decide ((Sum.inl a : Key) = Sum.inl b) = (a == b) := by
  by_cases e : a = b
  · subst e; simp
  · have h : ¬ (Sum.inl a : Key) = Sum.inl b := fun q => e (Sum.inl.inj q)
    rw [decide_eq_false h]
    exact (beq_eq_false_iff_ne.mpr e).symm
theorem key_rr (a b : Str) : decide ((Sum.inr a : Key) = Sum.inr b) = decide (a = b) := by
  by_cases e : a = b
  · subst e; simp
  · have h : ¬ (Sum.inr a : Key) = Sum.inr b := fun q => e (Sum.inr.inj q)
    rw [decide_eq_false h, decide_eq_false e]
theorem key_lr (a : Int) (b : Str) : decide ((Sum.inl a : Key) = Sum.inr b) = false := decide_eq_false (fun q => nomatch q)
theorem key_rl (a : Str) (b : Int) : decide ((Sum.inr a : Key) = Sum.inl b) = false := decide_eq_false (fun q => nomatch q)
noncomputable def mixKind (prog : Program) (w : World) : PySem.KeyKind prog w Key where
  is := keyIs
  hash := keyH w
  inj := fun v a b ha hb => by
    rcases keyIs_shape ha with ⟨i, t, rfl, rfl⟩ | ⟨x, t, rfl, rfl⟩
    · rcases keyIs_shape hb with ⟨j, u, rfl, e⟩ | ⟨y, u, rfl, e⟩
      · injection e with e1 _; rw [e1]
      · exact nomatch e
    · rcases keyIs_shape hb with ⟨j, u, rfl, e⟩ | ⟨y, u, rfl, e⟩
      · exact nomatch e
      · injection e with e1 _; rw [e1]
  byValue := fun k v h => by
    rcases keyIs_shape h with ⟨i, t, rfl, rfl⟩ | ⟨x, t, rfl, rfl⟩ <;> rfl
  pyHash := fun hv h => by
    rcases keyIs_shape hv with ⟨i, t, rfl, rfl⟩ | ⟨x, t, rfl, rfl⟩
    · exact wpAny_pyHash_int h
    · exact wpAny_pyHash_str h
  eqBool := fun hu hv h => by
    rcases keyIs_shape hu with ⟨i, t, rfl, rfl⟩ | ⟨x, t, rfl, rfl⟩
    · rcases keyIs_shape hv with ⟨j, u, rfl, rfl⟩ | ⟨y, u, rfl, rfl⟩
      · rw [key_ll] at h; exact wpAny_eqBool_int h
      · rw [key_lr] at h; exact SeqAt.EqAt.int_str i t y u _ _ _ _ h
    · rcases keyIs_shape hv with ⟨j, u, rfl, rfl⟩ | ⟨y, u, rfl, rfl⟩
      · rw [key_rl] at h; exact SeqAt.EqAt.str_int x t j u _ _ _ _ h
      · rw [key_rr] at h; exact wpAny_eqBool_str h
  «strs» := fun k x t v h => by
    rcases keyIs_shape h with ⟨i, u, rfl, e⟩ | ⟨y, u, rfl, e⟩
    · exact nomatch e
    · injection e with e1 _
      subst e1
      cases v <;> rfl
theorem mixKind_int (prog : Program) (w : World) (i : Int) (t : Tok) : (mixKind prog w).is (.inl i) (.int i t) = true := keyIs_int i t
theorem mixKind_str (prog : Program) (w : World) (x : Str) (t : Tok) : (mixKind prog w).is (.inr x) (.str x t) = true := keyIs_str x t
end L2
namespace L2
open PySem PySem.Spec PyProof.Rows
inductive V where
  | non | bl (b : Bool) | int (i : Int) | str (x : Str) | byt (b : Array UInt8) | flt (b : UInt64) | ref (a : Addr) | ty (n : String)
  deriving DecidableEq
noncomputable def RelV : V → Value → Prop
  | .non, u => u = Value.none
  | .bl b, u => u = Value.bool b
  | .int i, u => ∃ t, u = Value.int i t
  | .str x, u => ∃ t, u = Value.str x t
  | .byt b, u => ∃ t, u = Value.bytes b t
  | .flt b, u => ∃ t, u = Value.float b t
  | .ref a, u => u = Value.ref a
  | .ty n, u => u = Value.type n
noncomputable abbrev Vals : List V → List Value → Prop := Paired RelV
theorem Vals.length {xs : List V} {us : List Value} (r : Vals xs us) : xs.length = us.length := Paired.length r
theorem Vals.get : ∀ {xs : List V} {us : List Value} {i : Nat} {x : V}, Vals xs us → xs[i]? = some x → ∃ u, us[i]? = some u ∧ RelV x u
  | _, _, _, _, .nil, e => by simp at e
  | _, _, 0, _, .cons r _, e => by simp at e; subst e; exact ⟨_, rfl, r⟩
  | _, _, i + 1, x, .cons _ t, e => by
    obtain ⟨u, h1, h2⟩ := Vals.get (i := i) (x := x) t (by simpa using e)
    exact ⟨u, by simpa using h1, h2⟩
theorem Vals.set {x : V} {u : Value} (r : RelV x u) : ∀ {xs : List V} {us : List Value} (i : Nat), Vals xs us → Vals (xs.set i x) (us.set i u)
  | _, _, _, .nil => .nil
  | _, _, 0, .cons _ t => .cons r t
  | _, _, i + 1, .cons q t => .cons q (Vals.set r i t)
theorem Vals.append : ∀ {xs ys : List V} {us ws : List Value}, Vals xs us → Vals ys ws → Vals (xs ++ ys) (us ++ ws)
  | _, _, _, _, .nil, s => s
  | _, _, _, _, .cons r t, s => .cons r (Vals.append t s)
theorem Vals.take : ∀ {xs : List V} {us : List Value} (n : Nat), Vals xs us → Vals (xs.take n) (us.take n)
  | _, _, 0, _ => .nil
  | _, _, _ + 1, .nil => .nil
  | _, _, n + 1, .cons r t => .cons r (Vals.take n t)
theorem Vals.drop : ∀ {xs : List V} {us : List Value} (n : Nat), Vals xs us → Vals (xs.drop n) (us.drop n)
  | _, _, 0, r => r
  | _, _, _ + 1, .nil => .nil
  | _, _, n + 1, .cons _ t => Vals.drop n t
theorem Vals.none_of : ∀ {xs : List V} {us : List Value} {i : Nat}, Vals xs us → xs[i]? = none → us[i]? = none := fun {xs us i} r e => by
  have h1 := r.length
  have h2 : xs.length ≤ i := List.getElem?_eq_none_iff.mp e
  exact List.getElem?_eq_none_iff.mpr (by omega)
noncomputable def RelO : Option V → Option Value → Prop
  | some v, some u => RelV v u
  | none, none => True
  | _, _ => False
noncomputable def KV {κ : Type} : List (κ × V) → List (κ × Value) → Prop := Paired fun (p : κ × V) (q : κ × Value) => p.1 = q.1 ∧ RelV p.2 q.2
noncomputable def kV : Key → V
  | .inl i => .int i
  | .inr x => .str x
inductive HO where
  | lst (xs : List V)
  | tup (xs : List V)
  | dK (kvs : List (Key × V)) | dT (kvs : List (List Key × V))
  | set (S : Int → Bool) (n : Nat)
  | ins (C dx : Addr) (fs : List (Str × V))
  | own (x : Addr)
  | xd (fs : List (Str × V))
  | met (f x : Addr)
  | rng (lo hi : Int)
  | frz (o : Obj) (u : HO)
  | tbl (ps : Array Value)
  | ext (φ : Heap → Prop)
noncomputable abbrev Hp := Addr → Option HO
noncomputable def upd (H : Hp) (a : Addr) (o : HO) : Hp := fun b => if b = a then some o else H b
theorem upd_same {H : Hp} {a : Addr} {o : HO} : upd H a o a = some o := by unfold upd; rw [if_pos rfl]
theorem upd_ne {H : Hp} {a b : Addr} {o : HO} (h : b ≠ a) : upd H a o b = H b := by unfold upd; rw [if_neg h]
theorem ne_of {H : Hp} {a b : Addr} {o u : HO} (h : H a = some o) (h' : H b = some u) (d : o ≠ u) : a ≠ b := by
  intro e; subst e; rw [h] at h'; exact d (Option.some.inj h')
theorem ne_of_none {H : Hp} {a b : Addr} {o : HO} (h : H a = some o) (h' : H b = none) : a ≠ b := by
  intro e; subst e; rw [h] at h'; cases h'
section
variable (P : Program) (w : World)
noncomputable def ObjOk (H : Hp) (h : Heap) (a : Addr) : HO → Prop
  | .lst xs => xs.length ≤ sizeLine ∧ ∃ (its : List Value) (n : Nat), Vals xs its ∧ h.get? a = some { cls := .type "list", data := .seq its.toArray n }
  | .tup xs => xs.length ≤ sizeLine ∧ ∃ its : List Value, Vals xs its ∧ IsTup h a its.toArray
  | .dK kvs => kvs.length ≤ sizeLine ∧ (a == sysModules) = false ∧ ∃ vs, KV kvs vs ∧ h.DictOf (mixKind P w) a vs
  | .dT kvs => kvs.length ≤ sizeLine ∧ (a == sysModules) = false ∧ ∃ xs : List (List Key × Addr × Value),
      Paired (fun (p : List Key × V) (q : List Key × Addr × Value) => p.1 = q.1 ∧ H q.2.1 = some (.tup (p.1.map kV)) ∧ RelV p.2 q.2.2) kvs xs ∧
      ∃ o es ep, h.get? a = some o ∧ o.ExactDict ∧ o.data = .dict es ep ∧ es.toList = xs.map (entryOfKey (tupleKind (mixKind P w))) ∧ (xs.map (·.1)).Nodup
  | .set S n => h.SetOf (intKind P w) a S n
  | .ins C dx fs => H dx = some (.own a) ∧ fs.length ≤ 1000 ∧ dx ≠ a ∧ h.get? a = some (PySem.W.instObj C dx) ∧
      ∃ mA, h.Ns1 dx mA ∧ (∀ f, RelO (fs.lookup f) (mA f)) ∧ PySem.Within mA (fs.map (·.1))
  | .own _ => ∃ o, h.get? a = some o
  | .xd fs => ∃ mA, h.Ns1 a mA ∧ ∀ f, RelO (fs.lookup f) (mA f)
  | .rng lo hi => ∃ t u v, h.get? a = some { cls := .type "range", data := .fields #[.int lo t, .int hi u, .int 1 v] }
  | .frz o u => h.get? a = some o ∧ ObjOk H h a u
  | .tbl ps => h.get? a = some { cls := .none, data := .fields ps }
  | .met f x => h.get? a = some (PySem.W.methodObj (.ref f) (.ref x))
  | .ext φ => φ h ∧ (∃ o, h.get? a = some o) ∧ ∀ h1 h2 : Heap, φ h1 → (∀ o, h1.get? a = some o → h2.get? a = some o) → φ h2
noncomputable def HOk (H : Hp) (h : Heap) : Prop := ∀ a o, H a = some o → ObjOk P w H h a o
end
section
variable {P : Program} {w : World} {H H' : Hp} {h h' : Heap} {a : Addr} {o : HO}
theorem ObjOk.lt (x : ObjOk P w H h a o) : a < h.objs.size := by
  cases o with
  | lst xs => obtain ⟨_, _, _, _, e⟩ := x; exact Heap.lt_size e
  | tup xs => obtain ⟨_, _, _, p⟩ := x; exact p.lt
  | dK kvs => obtain ⟨_, _, _, _, o, _, _, e, _⟩ := x; exact Heap.lt_size e
  | dT kvs => obtain ⟨_, _, _, _, o, _, _, e, _⟩ := x; exact Heap.lt_size e
  | set S n => obtain ⟨o, _, _, _, e, _⟩ := x; exact Heap.lt_size e
  | ins C dx fs => obtain ⟨_, _, _, e, _⟩ := x; exact Heap.lt_size e
  | own y => obtain ⟨_, e⟩ := x; exact Heap.lt_size e
  | xd fs => obtain ⟨_, ⟨_, _, _, e, _⟩, _⟩ := x; exact Heap.lt_size e
  | rng lo hi => obtain ⟨_, _, _, e⟩ := x; exact Heap.lt_size e
  | frz ob u => obtain ⟨e, _⟩ := x; exact Heap.lt_size e
  | tbl ps => exact Heap.lt_size (show h.get? a = some _ from x)
  | met f y => exact Heap.lt_size (show h.get? a = some _ from x)
  | ext φ => obtain ⟨_, ⟨_, e⟩, _⟩ := x; exact Heap.lt_size e
theorem Paired.mapP {α β : Type} {F G : α → β → Prop} : ∀ {l₁ : List α} {l₂ : List β}, Paired F l₁ l₂ → (∀ a b, F a b → G a b) → Paired G l₁ l₂
  | _, _, .nil, _ => .nil
  | _, _, .cons r t, f => .cons (f _ _ r) (Paired.mapP t f)
theorem ObjOk.stay (x : ObjOk P w H h a o) (k : ∀ b u, (b = a ∨ H b = some (.own a)) → h.get? b = some u → h'.get? b = some u)
    (ho : ∀ b, H b = some (.own a) → H' b = some (.own a)) (ht : ∀ b xs, H b = some (.tup xs) → H' b = some (.tup xs)) : ObjOk P w H' h' a o := by
  induction o with
  | lst xs => obtain ⟨z, its, n, r, e⟩ := x; exact ⟨z, its, n, r, k _ _ (.inl rfl) e⟩
  | tup xs => obtain ⟨z, its, r, ob, e, c⟩ := x; exact ⟨z, its, r, ob, k _ _ (.inl rfl) e, c⟩
  | dK kvs => obtain ⟨z, y, vs, r, ob, es, ep, e, c⟩ := x; exact ⟨z, y, vs, r, ob, es, ep, k _ _ (.inl rfl) e, c⟩
  | dT kvs =>
    obtain ⟨z, y, xs, r, ob, es, ep, e, c⟩ := x
    exact ⟨z, y, xs, Paired.mapP r fun p q z => ⟨z.1, ht _ _ z.2.1, z.2.2⟩, ob, es, ep, k _ _ (.inl rfl) e, c⟩
  | set S n => obtain ⟨ob, es, ep, t, e, c⟩ := x; exact ⟨ob, es, ep, t, k _ _ (.inl rfl) e, c⟩
  | ins C dx fs =>
    obtain ⟨d, z, ne, e, mA, ⟨od, es, ep, e2, c⟩, r⟩ := x
    exact ⟨ho _ d, z, ne, k _ _ (.inl rfl) e, mA, ⟨od, es, ep, k _ _ (.inr d) e2, c⟩, r⟩
  | own y => obtain ⟨ob, e⟩ := x; exact ⟨ob, k _ _ (.inl rfl) e⟩
  | xd fs => obtain ⟨mA, ⟨od, es, ep, e, c⟩, r⟩ := x; exact ⟨mA, ⟨od, es, ep, k _ _ (.inl rfl) e, c⟩, r⟩
  | rng lo hi => obtain ⟨t, u, v, e⟩ := x; exact ⟨t, u, v, k _ _ (.inl rfl) e⟩
  | frz ob u ih => obtain ⟨e, q⟩ := x; exact ⟨k _ _ (.inl rfl) e, ih q⟩
  | tbl ps =>
    have e : h.get? a = some { cls := .none, data := .fields ps } := x
    show h'.get? a = some { cls := .none, data := .fields ps }
    exact k a _ (.inl rfl) e
  | met f y =>
    have e : h.get? a = some (PySem.W.methodObj (.ref f) (.ref y)) := x
    show h'.get? a = some (PySem.W.methodObj (.ref f) (.ref y))
    exact k a _ (.inl rfl) e
  | ext φ => obtain ⟨p, ⟨o, e⟩, st⟩ := x; exact ⟨st _ _ p fun o q => k _ _ (.inl rfl) q, ⟨o, k _ _ (.inl rfl) e⟩, st⟩
theorem HOk.lt (x : HOk P w H h) (e : H a = some o) : a < h.objs.size := (x a o e).lt
theorem HOk.fresh (x : HOk P w H h) (e : h.objs.size ≤ a) : H a = none := by
  cases q : H a with
  | none => rfl
  | some u => exact absurd (Nat.lt_of_lt_of_le (x.lt q) e) (Nat.lt_irrefl _)
theorem HOk.kept (x : HOk P w H h) (k : ∀ b u, h.get? b = some u → h'.get? b = some u) : HOk P w H h' := fun a o e =>
  (x a o e).stay (fun b u _ q => k b u q) (fun _ q => q) fun _ _ q => q
theorem HOk.laid (x : HOk P w H h) (k : ∀ b u, h.get? b = some u → h'.get? b = some u) (hp : h.objs.size ≤ a) (new : ObjOk P w (upd H a o) h' a o) : HOk P w (upd H a o) h' := fun b u e => by
  have hn := x.fresh hp
  by_cases hb : b = a
  · subst hb; rw [upd_same] at e; cases e; exact new
  · rw [upd_ne hb] at e
    exact (x b u e).stay (fun c v _ q => k c v q) (fun c q => by rw [upd_ne (ne_of_none q hn)]; exact q) fun c xs q => by rw [upd_ne (ne_of_none q hn)]; exact q
end
noncomputable def Rd (H : Hp) (a : Addr) (u : HO) : Prop := H a = some u ∨ ∃ o, H a = some (.frz o u)
theorem Rd.of {H : Hp} {a : Addr} {u : HO} (h : H a = some u) : Rd H a u := .inl h
theorem Rd.ok {P : Program} {w : World} {H : Hp} {h : Heap} {a : Addr} {u : HO} (r : Rd H a u) (x : HOk P w H h) : ObjOk P w H h a u := by
  rcases r with r | ⟨o, r⟩
  · exact x a u r
  · obtain ⟨_, q⟩ := x a _ r
    exact q
noncomputable def Mut : Option HO → Prop
  | some (.lst _) => True
  | some (.dK _) => True
  | some (.dT _) => True
  | some (.set _ _) => True
  | some (.ins _ _ _) => True
  | some (.ext _) => True
  | _ => False
section
variable {P : Program} {w : World} {H : Hp} {h h' : Heap} {x e : Addr} {o' : HO}
theorem HOk.write (ok : HOk P w H h) (mu : Mut (H x)) (he : e = x ∨ H e = some (.own x)) (k : ∀ b u, b ≠ e → h.get? b = some u → h'.get? b = some u) (heo : ∃ u, h'.get? e = some u)
    (new : ObjOk P w (upd H x o') h' x o') : HOk P w (upd H x o') h' := fun b u q => by
  have nown : ∀ c y, H c = some (.own y) → c ≠ x := fun c y r z => by subst z; rw [r] at mu; exact mu
  have ntup : ∀ c xs, H c = some (.tup xs) → c ≠ x := fun c xs r z => by subst z; rw [r] at mu; exact mu
  by_cases hb : b = x
  · subst hb; rw [upd_same] at q; cases q; exact new
  · rw [upd_ne hb] at q
    by_cases hbe : b = e
    · have q' : H b = some (.own x) := by
        rcases he with z | z
        · exact absurd (hbe.trans z) hb
        · rw [hbe]; exact z
      rw [q] at q'; cases q'
      obtain ⟨v, hv⟩ := heo
      exact ⟨v, by rw [hbe]; exact hv⟩
    · refine (ok b u q).stay (fun c v hc r => k c v ?_ r) (fun c r => by rw [upd_ne (nown c b r)]; exact r) fun c xs r => by rw [upd_ne (ntup c xs r)]; exact r
      rcases hc with rfl | hc
      · exact hbe
      · rintro rfl
        rcases he with z | z
        · exact nown c b hc z
        · rw [hc] at z; cases z; exact hb rfl
end
structure Un (fs ex : List Addr) (H H' : Hp) (h h' : Heap) : Prop where
  keep : ∀ b o, h.get? b = some o → H b = none → b ∉ fs → b ∉ ex → h'.get? b = some o
  slot : ∀ b o, h.get? b = some o → H b = none → b ∈ fs → b ∉ ex → ∃ sl, h'.get? b = some { o with slots := sl }
  free : ∀ b o, h.get? b = some o → H b = none → b ∉ ex → H' b = none
  there : ∀ b o, h.get? b = some o → b ∉ ex → ∃ o', h'.get? b = some o'
  tups : ∀ b xs, H b = some (.tup xs) → H' b = some (.tup xs)
  frzs : ∀ b o u, H b = some (.frz o u) → H' b = some (.frz o u)
  tbls : ∀ b ps, H b = some (.tbl ps) → ∃ more, H' b = some (.tbl (ps ++ more))
section
variable {fs fs' ex ex' : List Addr} {H H1 H2 : Hp} {h h1 h2 h' : Heap} {a x e : Addr} {o : HO}
theorem Un.any (u : Un fs ex H H1 h h1) {b : Addr} {ob : Obj} (q : h.get? b = some ob) (n : H b = none) (hx : b ∉ ex) : ∃ sl, h1.get? b = some { ob with slots := sl } := by
  by_cases hb : b ∈ fs
  · exact u.slot b ob q n hb hx
  · exact ⟨ob.slots, u.keep b ob q n hb hx⟩
theorem Un.trans (a : Un fs ex H H1 h h1) (b : Un fs ex H1 H2 h1 h2) : Un fs ex H H2 h h2 where
  keep := fun c ob q n hc hx => b.keep c ob (a.keep c ob q n hc hx) (a.free c ob q n hx) hc hx
  slot := fun c ob q n hc hx => by
    obtain ⟨sl, e1⟩ := a.slot c ob q n hc hx
    obtain ⟨sl', e2⟩ := b.slot c _ e1 (a.free c ob q n hx) hc hx
    exact ⟨sl', e2⟩
  free := fun c ob q n hx => by
    obtain ⟨o', e1⟩ := a.there c ob q hx
    exact b.free c o' e1 (a.free c ob q n hx) hx
  there := fun c ob q hx => by
    obtain ⟨o', e1⟩ := a.there c ob q hx
    exact b.there c o' e1 hx
  tups := fun c xs q => b.tups c xs (a.tups c xs q)
  frzs := fun c ob xs q => b.frzs c ob xs (a.frzs c ob xs q)
  tbls := fun c ps q => by
    obtain ⟨m1, e1⟩ := a.tbls c ps q
    obtain ⟨m2, e2⟩ := b.tbls c _ e1
    exact ⟨m1 ++ m2, by rw [e2, Array.append_assoc]⟩
theorem Un.kept (k : ∀ b u, h.get? b = some u → h'.get? b = some u) : Un fs ex H H h h' :=
  ⟨fun b ob q _ _ _ => k b ob q, fun b ob q _ _ _ => ⟨ob.slots, k b ob q⟩, fun _ _ _ n _ => n, fun b ob q _ => ⟨ob, k b ob q⟩, fun _ _ q => q, fun _ _ _ q => q, fun _ ps q => ⟨#[], by rw [q]; simp⟩⟩
theorem Un.refl : Un fs ex H H h h := Un.kept fun _ _ q => q
theorem Un.laid (k : ∀ b u, h.get? b = some u → h'.get? b = some u) (hp : h.objs.size ≤ a) (hn : H a = none) : Un fs ex H (upd H a o) h h' where
  keep := fun b u q _ _ _ => k b u q
  slot := fun b u q _ _ _ => ⟨u.slots, k b u q⟩
  free := fun b u q n _ => by rw [upd_ne (Nat.ne_of_lt (Nat.lt_of_lt_of_le (Heap.lt_size q) hp))]; exact n
  there := fun b u q _ => ⟨u, k b u q⟩
  tups := fun b xs q => by rw [upd_ne (ne_of_none q hn)]; exact q
  frzs := fun b u xs q => by rw [upd_ne (ne_of_none q hn)]; exact q
  tbls := fun b ps q => ⟨#[], by rw [upd_ne (ne_of_none q hn), q]; simp⟩
theorem Un.write (mu : Mut (H x)) (he : e = x ∨ H e = some (.own x)) (k : ∀ b u, b ≠ e → h.get? b = some u → h'.get? b = some u) (heo : ∃ u, h'.get? e = some u) : Un fs ex H (upd H x o) h h' := by
  have hx : ∀ b, H b = none → b ≠ x := fun b n z => by subst z; rw [n] at mu; exact mu
  have hb : ∀ b, H b = none → b ≠ e := fun b n z => by
    subst z
    rcases he with r | r
    · exact hx b n r
    · rw [n] at r; cases r
  have hm : ∀ b u, H b = some u → ¬ Mut (some u) → b ≠ x := fun b u q nm z => by subst z; rw [q] at mu; exact nm mu
  refine ⟨fun b u q n _ _ => k b u (hb b n) q, fun b u q n _ _ => ⟨u.slots, k b u (hb b n) q⟩, fun b u q n _ => by rw [upd_ne (hx b n)]; exact n, fun b u q _ => ?_,
    fun b xs q => by rw [upd_ne (hm b _ q fun z => z)]; exact q, fun b u xs q => by rw [upd_ne (hm b _ q fun z => z)]; exact q, fun b ps q => ⟨#[], by rw [upd_ne (hm b _ q fun z => z), q]; simp⟩⟩
  by_cases hbe : b = e
  · subst hbe; exact heo
  · exact ⟨u, k b u hbe q⟩
theorem Un.mono (u : Un fs ex H H1 h h1) (hs : ∀ b ∈ fs, b ∈ fs') (hx : ∀ b ∈ ex, b ∈ ex') : Un fs' ex' H H1 h h1 :=
  ⟨fun b ob q n hb he => u.keep b ob q n (fun z => hb (hs b z)) fun z => he (hx b z), fun _ _ q n _ he => u.any q n fun z => he (hx _ z), fun b ob q n he => u.free b ob q n fun z => he (hx b z), fun b ob q he => u.there b ob q fun z => he (hx b z), u.tups, u.frzs, u.tbls⟩
end
noncomputable def trk (h : Heap) (H : Hp) : List Addr := (List.range h.objs.size).filter fun a => (H a).isSome
noncomputable def hidT (h : Heap) (H : Hp) : Heap := PySem.W.hideAll h (trk h H)
theorem hidT_size (h : Heap) (H : Hp) : (hidT h H).objs.size = h.objs.size := PySem.W.hideAll_size _ _
theorem hidT_get {h : Heap} {H : Hp} {b : Addr} {o : Obj} (e : h.get? b = some o) (n : H b = none) : (hidT h H).get? b = some o :=
  PySem.W.hideAll_get _ e fun hm => by
    have q : (H b).isSome = true := (List.mem_filter.mp hm).2
    rw [n] at q; simp at q
theorem of_hidT {h : Heap} {H : Hp} {b : Addr} {o : Obj} (e : (hidT h H).get? b = some o) : h.get? b = some o ∧ H b = none := by
  have e' : h.get? b = some o := PySem.W.of_hideAll (trk h H) e
  refine ⟨e', ?_⟩
  cases q : H b with
  | none => rfl
  | some x =>
    have hm : b ∈ trk h H := List.mem_filter.mpr ⟨List.mem_range.mpr (Heap.lt_size e'), by simp [q]⟩
    have z : (hidT h H).get? b = none := PySem.W.hideAll_none (trk h H) hm
    rw [z] at e; cases e
noncomputable def allNews (g h : Heap) (L : Addr) : List (Addr × Obj) := (List.range h.objs.size).filterMap fun a => if a = L ∨ (g.get? a).isSome = true then none else (h.get? a).map fun o => (a, o)
noncomputable def rest (g h : Heap) (L d : Addr) : List (Addr × Obj) := (allNews g h L).filter fun p => decide (p.1 ≠ d)
end L2
namespace L2
open PySem PySem.Spec PyProof.Rows
structure Mod (K : PySem.W.Frag) (mg : Str → Option Value) (base : Heap) : Prop where
  kin : K.In base
  glob : base.Ns mainGlobals mg
  blt : ∃ mb, base.Ns builtinsNs mb ∧ ∀ x : Str, x ≠ "__name__" → mb x = bootBuiltins x
  nolimit : base.NoLimit
structure Cx where
  prog : Program
  w : World
  K : PySem.W.Frag
  mg : Str → Option Value
  base : Heap
  A : Around
  N : List Str
  s₀ : Shared
  H₀ : Hp
  env : Env
  outer : List Env
  stack : List Env
  ex : List Addr
  fn : Str → Bool
  calm : Bool
  pn : List (Addr × Obj)
  xe : Value → Shared → Prop
noncomputable def frs (l : List Env) : List Addr := l.filterMap (·.frame)
noncomputable abbrev Cx.fs (X : Cx) : List Addr := frs X.outer
noncomputable def Vis (sc : Scope) (x : Str) : Prop := sc.names.lookup x = some .local ∨ sc.names.lookup x = some .cell ∨ sc.names.lookup x = some .free
noncomputable def Loc (sc : Scope) (x : Str) : Prop := sc.names.lookup x = some .local ∨ sc.names.lookup x = some .cell
noncomputable def Look (env : Env) (h : Heap) (m : Str → Option Value) (x : Str) (u : Value) : Prop :=
  (env.kindOf x = some .local ∧ m x = some u) ∨ ((env.kindOf x = some .cell ∨ env.kindOf x = some .free) ∧ ∃ c, env.cells.lookup x = some c ∧ h.IsCell c (some u))
structure Cx.Ok (X : Cx) : Prop where
  mod : Mod X.K X.mg X.base
  kind : X.env.scope.kind = .function
  glob : X.env.globals = mainGlobals
  blt : X.env.builtins = builtinsNs
  above : X.s₀.heap.objs.size ≤ X.env.locals
  inj : ∀ x y c, X.env.cells.lookup x = some c → X.env.cells.lookup y = some c → x = y
  has : ∀ x, (X.env.kindOf x = some .cell ∨ X.env.kindOf x = some .free) → ∃ c, X.env.cells.lookup x = some c
  cab : ∀ x c, X.fn x = true → X.env.cells.lookup x = some c → X.s₀.heap.objs.size ≤ c
  hd : X.calm = true → X.A.handled = none
  frames : X.A.frames = some X.stack
  stk : X.stack = X.outer ∨ (X.stack = X.env :: X.outer ∧ X.env.frame = some X.env.locals)
  exf : ∀ b ∈ X.ex, b ≠ X.env.locals ∧ ∀ x c, X.env.cells.lookup x = some c → c ≠ b
  bs : ∀ b o, X.base.get? b = some o → X.s₀.heap.get? b = some o ∧ X.H₀ b = none
  bsz : X.base.objs.size ≤ X.s₀.heap.objs.size
  noex : ∀ b o, X.base.get? b = some o → b ∉ X.ex
  exfs : ∀ b ∈ X.ex, b ∉ X.fs
  funs : X.s₀.heap.FunFrames X.base X.outer
  frf : ∀ b ∈ X.fs, X.H₀ b = none
structure Inv (X : Cx) (pins : List (Addr × Obj)) (σ : List (Option V)) (H : Hp) (s : Shared) : Prop where
  ok : X.Ok
  os : s.os = X.s₀.os
  bare : AllBare s.gens
  base : Un X.fs X.ex X.H₀ H X.s₀.heap s.heap
  loc : ∃ m, s.heap.Ns X.env.locals m ∧ ∀ (i : Nat) (x : Str) (v : V), X.N[i]? = some x → σ[i]? = some (some v) → Vis X.env.scope x → ∃ u, RelV v u ∧ Look X.env s.heap m x u
  cell : ∀ x c, X.env.cells.lookup x = some c → ∃ v, s.heap.IsCell c v
  free : H X.env.locals = none
  freeC : ∀ x c, X.env.cells.lookup x = some c → H c = none
  pin : ∀ p ∈ X.pn ++ pins, s.heap.get? p.1 = some p.2 ∧ H p.1 = none ∧ p.1 ≠ X.env.locals ∧ p.1 ∉ X.fs ∧ ∀ v, p.2.data ≠ .cell v
  hok : HOk X.prog X.w H s.heap
  len : σ.length = X.N.length
section
variable {X : Cx} {pins : List (Addr × Obj)} {σ : List (Option V)} {H H' : Hp} {s : Shared} {h' : Heap}
theorem Cx.Ok.nofr (ok : X.Ok) {b : Addr} {o : Obj} (e : X.base.get? b = some o) : b ∉ X.fs := fun hb => by
  have := (ok.funs.mem hb).1
  rw [e] at this; cases this
theorem Inv.bs (I : Inv X pins σ H s) : ∀ b o, X.base.get? b = some o → s.heap.get? b = some o ∧ H b = none := fun b o e =>
  ⟨I.base.keep b o (I.ok.bs b o e).1 (I.ok.bs b o e).2 (I.ok.nofr e) (I.ok.noex b o e), I.base.free b o (I.ok.bs b o e).1 (I.ok.bs b o e).2 (I.ok.noex b o e)⟩
theorem Inv.bk (I : Inv X pins σ H s) : ∀ b o, X.base.get? b = some o → s.heap.get? b = some o := fun b o e => (I.bs b o e).1
theorem Inv.mod (I : Inv X pins σ H s) : Mod X.K X.mg X.base := I.ok.mod
theorem Inv.kIn (I : Inv X pins σ H s) : X.K.In s.heap := I.ok.mod.kin.keeps I.bk
theorem Inv.nolimit (I : Inv X pins σ H s) : s.heap.NoLimit := I.ok.mod.nolimit.keeps I.bk
theorem Inv.fr (I : Inv X pins σ H s) : ∃ m, Fr X.base X.env.locals s.heap m :=
  let ⟨m, hn, _⟩ := I.loc
  ⟨m, hn, I.bk, Nat.le_trans I.ok.bsz I.ok.above⟩
theorem Inv.lt (I : Inv X pins σ H s) : X.env.locals < s.heap.objs.size := let ⟨_, hn, _⟩ := I.loc; hn.lt
theorem Inv.sz (I : Inv X pins σ H s) : X.s₀.heap.objs.size ≤ s.heap.objs.size := Nat.le_trans I.ok.above (Nat.le_of_lt I.lt)
theorem Inv.nofs (I : Inv X pins σ H s) {a : Addr} (h : s.heap.objs.size ≤ a) : a ∉ X.fs := fun hb => by
  obtain ⟨_, o, ho, _⟩ := I.ok.funs.mem hb
  exact absurd (Nat.lt_of_lt_of_le (Heap.lt_size ho) (Nat.le_trans I.sz h)) (Nat.lt_irrefl _)
theorem Inv.cne (I : Inv X pins σ H s) : ∀ x c, X.env.cells.lookup x = some c → c ≠ X.env.locals := fun x c e z => by
  obtain ⟨v, o, ho, hd⟩ := I.cell x c e
  obtain ⟨m, ⟨o', es, ep, ho', hd', _⟩, _⟩ := I.loc
  rw [z, ho'] at ho; cases ho; rw [hd'] at hd; cases hd
theorem Inv.funs (I : Inv X pins σ H s) : s.heap.FunFrames X.base X.outer := by
  have all : ∀ (l : List Env), (∀ b ∈ frs l, b ∈ X.fs) → X.s₀.heap.FunFrames X.base l → s.heap.FunFrames X.base l := by
    intro l
    induction l with
    | nil => intro _ _; trivial
    | cons env r ih =>
      intro hs hl
      obtain ⟨hk, ⟨L, o, hf, hn, ho, hd⟩, hr⟩ := hl
      have hL : L ∈ X.fs := hs L (by unfold frs; rw [List.filterMap_cons, hf]; exact List.mem_cons_self)
      obtain ⟨sl, e⟩ := I.base.slot L o ho (I.ok.frf L hL) hL fun z => I.ok.exfs L z hL
      exact ⟨hk, ⟨L, _, hf, hn, e, hd⟩, ih (fun b hb => hs b (by unfold frs; rw [List.filterMap_cons, hf]; exact List.mem_cons_of_mem _ hb)) hr⟩
  exact all X.outer (fun _ hb => hb) I.ok.funs
theorem Inv.stack (I : Inv X pins σ H s) : s.heap.FunFrames X.base X.stack := by
  rcases I.ok.stk with e | ⟨e, hf⟩
  · rw [e]; exact I.funs
  · rw [e]
    obtain ⟨m, hn, _⟩ := I.loc
    refine .cons (by rw [I.ok.kind]; decide) hf hn ?_ I.funs
    exact Heap.get?_none_of_le (Nat.le_trans I.ok.bsz I.ok.above)
theorem Inv.stkSub (I : Inv X pins σ H s) : ∀ b ∈ frs X.stack, b ∈ X.env.locals :: X.fs := fun b hb => by
  rcases I.ok.stk with e | ⟨e, hf⟩
  · rw [e] at hb; exact List.mem_cons_of_mem _ hb
  · rw [e] at hb
    unfold frs at hb
    rw [List.filterMap_cons, hf] at hb
    exact hb
theorem Inv.stkFree (I : Inv X pins σ H s) : ∀ b ∈ frs X.stack, H b = none := fun b hb => by
  rcases List.mem_cons.mp (I.stkSub b hb) with e | hb
  · rw [e]; exact I.free
  · obtain ⟨_, o, ho, _⟩ := I.ok.funs.mem hb
    exact I.base.free b o ho (I.ok.frf b hb) fun z => I.ok.exfs b z hb
theorem Inv.step {g' : Array GenState} {t' : Nat} {d' : Drawn} {ch : List Addr} (I : Inv X pins σ H s)
    (hch : ∀ b ∈ ch, (b ∈ X.ex ∨ X.s₀.heap.objs.size ≤ b) ∧ b ≠ X.env.locals ∧ (∀ x c, X.env.cells.lookup x = some c → c ≠ b) ∧ ∀ p ∈ X.pn ++ pins, p.1 ≠ b)
    (keep : ∀ b o, b ≠ X.env.locals → b ∉ X.fs → b ∉ ch → s.heap.get? b = some o → H b = none → h'.get? b = some o)
    (slot : ∀ b o, b ≠ X.env.locals → b ∈ X.fs → b ∉ ch → s.heap.get? b = some o → H b = none → ∃ sl, h'.get? b = some { o with slots := sl }) (free : ∀ b o, b ∉ ch → s.heap.get? b = some o → H b = none → H' b = none)
    (there : ∀ b o, b ∉ ch → s.heap.get? b = some o → ∃ o', h'.get? b = some o')
    (tups : ∀ b xs, H b = some (.tup xs) → H' b = some (.tup xs)) (frzs : ∀ b o u, H b = some (.frz o u) → H' b = some (.frz o u)) (tbls : ∀ b ps, H b = some (.tbl ps) → ∃ more, H' b = some (.tbl (ps ++ more)))
    (ns : ∀ m, s.heap.Ns X.env.locals m → h'.Ns X.env.locals m) (hok : HOk X.prog X.w H' h') (hg : AllBare g') :
    Inv X pins σ H' { s with heap := h', gens := g', drawn := d', toks := t' } := by
  have neL : ∀ b o, X.s₀.heap.get? b = some o → b ≠ X.env.locals := fun b o e => Nat.ne_of_lt (Nat.lt_of_lt_of_le (Heap.lt_size e) I.ok.above)
  have neC : ∀ b o, X.s₀.heap.get? b = some o → b ∉ X.ex → b ∉ ch := fun b o e hx hb => by
    rcases (hch b hb).1 with z | z
    · exact hx z
    · exact absurd (Nat.lt_of_lt_of_le (Heap.lt_size e) z) (Nat.lt_irrefl _)
  have cellK : ∀ x c, X.env.cells.lookup x = some c → ∀ v, s.heap.IsCell c v → h'.IsCell c v := fun x c e v ⟨o, ho, hd⟩ => by
    have nch : c ∉ ch := fun z => (hch c z).2.2.1 x c e rfl
    by_cases hc : c ∈ X.fs
    · obtain ⟨sl, q⟩ := slot c o (I.cne x c e) hc nch ho (I.freeC x c e)
      exact ⟨_, q, hd⟩
    · exact ⟨o, keep c o (I.cne x c e) hc nch ho (I.freeC x c e), hd⟩
  refine ⟨I.ok, I.os, hg, ⟨fun b o e n hb hx => ?_, fun b o e n hb hx => ?_, fun b o e n hx => ?_, fun b o e hx => ?_, fun b xs e => tups b xs (I.base.tups b xs e), fun b o xs e => frzs b o xs (I.base.frzs b o xs e), fun b ps e => ?_⟩, ?_, fun x c e => ?_, ?_, fun x c e => ?_, fun p hp => ?_, hok, I.len⟩
  · exact keep b o (neL b o e) hb (neC b o e hx) (I.base.keep b o e n hb hx) (I.base.free b o e n hx)
  · obtain ⟨sl, e1⟩ := I.base.slot b o e n hb hx
    obtain ⟨sl', e2⟩ := slot b _ (neL b o e) hb (neC b o e hx) e1 (I.base.free b o e n hx)
    exact ⟨sl', e2⟩
  · obtain ⟨o', e1⟩ := I.base.there b o e hx
    exact free b o' (neC b o e hx) e1 (I.base.free b o e n hx)
  · obtain ⟨o', e1⟩ := I.base.there b o e hx
    exact there b o' (neC b o e hx) e1
  · obtain ⟨m1, e1⟩ := I.base.tbls b ps e
    obtain ⟨m2, e2⟩ := tbls b _ e1
    exact ⟨m1 ++ m2, by rw [e2, Array.append_assoc]⟩
  · obtain ⟨m, hn, hl⟩ := I.loc
    refine ⟨m, ns m hn, fun i x v e1 e2 e3 => ?_⟩
    obtain ⟨u, r, l⟩ := hl i x v e1 e2 e3
    refine ⟨u, r, ?_⟩
    rcases l with l | ⟨k, c, e, z⟩
    · exact .inl l
    · exact .inr ⟨k, c, e, cellK x c e _ z⟩
  · obtain ⟨v, z⟩ := I.cell x c e
    exact ⟨v, cellK x c e v z⟩
  · obtain ⟨m, ⟨o, _, _, ho, _⟩, _⟩ := I.loc
    exact free _ o (fun z => (hch _ z).2.1 rfl) ho I.free
  · obtain ⟨v, o, ho, hd⟩ := I.cell x c e
    exact free c o (fun z => (hch c z).2.2.1 x c e rfl) ho (I.freeC x c e)
  · obtain ⟨e, n, ne, nf, d⟩ := I.pin p hp
    have nch : p.1 ∉ ch := fun z => (hch p.1 z).2.2.2 p hp rfl
    exact ⟨keep p.1 p.2 ne nf nch e n, free p.1 p.2 nch e n, ne, nf, d⟩
theorem Inv.un {t' : Nat} (I : Inv X pins σ H s) (u : Un X.fs [] H H' s.heap h') (hok : HOk X.prog X.w H' h') : Inv X pins σ H' { s with heap := h', toks := t' } := by
  obtain ⟨m, ⟨o, es, ep, ho, r⟩, _⟩ := id I.loc
  obtain ⟨sl, hL⟩ := u.any ho I.free (by simp)
  exact I.step (g' := s.gens) (d' := s.drawn) (ch := []) (fun _ z => nomatch z) (fun b o _ hb _ e n => u.keep b o e n hb (by simp)) (fun b o _ hb _ e n => u.slot b o e n hb (by simp)) (fun b o _ e n => u.free b o e n (by simp)) (fun b o _ e => u.there b o e (by simp)) u.tups u.frzs u.tbls (fun m' hm => by
    obtain ⟨o', es', ep', ho', r'⟩ := hm
    rw [ho] at ho'; cases ho'
    exact ⟨_, es', ep', hL, r'⟩) hok I.bare
theorem Inv.call {g' : Array GenState} {t' : Nat} {d' : Drawn} {ch : List Addr} (I : Inv X pins σ H s) (u : Un (frs X.stack) ch H H' s.heap h') (hok : HOk X.prog X.w H' h') (hg : AllBare g')
    (hch : ∀ b ∈ ch, (b ∈ X.ex ∨ X.s₀.heap.objs.size ≤ b) ∧ b ≠ X.env.locals ∧ (∀ x c, X.env.cells.lookup x = some c → c ≠ b) ∧ ∀ p ∈ X.pn ++ pins, p.1 ≠ b) :
    Inv X pins σ H' { s with heap := h', gens := g', drawn := d', toks := t' } := by
  obtain ⟨m, ⟨o, es, ep, ho, r⟩, _⟩ := id I.loc
  obtain ⟨sl, hL⟩ := u.any ho I.free fun z => (hch _ z).2.1 rfl
  exact I.step (ch := ch) hch (fun b o hL hb hc e n => u.keep b o e n (fun z => (List.mem_cons.mp (I.stkSub b z)).elim hL hb) hc) (fun b o _ _ hc e n => u.any e n hc) (fun b o hc e n => u.free b o e n hc) (fun b o hc e => u.there b o e hc) u.tups u.frzs u.tbls (fun m' hm => by
    obtain ⟨o', es', ep', ho', r'⟩ := hm
    rw [ho] at ho'; cases ho'
    exact ⟨_, es', ep', hL, r'⟩) hok hg
theorem Inv.turned {t' : Nat} {it : Addr} (I : Inv X pins σ H s) (k : ∀ b o, b ≠ it → s.heap.get? b = some o → h'.get? b = some o) (hn : H it = none) (hL : it ≠ X.env.locals)
    (h1 : it ∈ X.ex ∨ X.s₀.heap.objs.size ≤ it) (h2 : ∀ x c, X.env.cells.lookup x = some c → c ≠ it) (h3 : ∀ p ∈ X.pn ++ pins, p.1 ≠ it) : Inv X pins σ H { s with heap := h', toks := t' } := by
  have nit : ∀ b u, H b = some u → b ≠ it := fun b u e z => by rw [z, hn] at e; cases e
  refine I.step (g' := s.gens) (d' := s.drawn) (ch := [it]) (fun b hb => ?_) (fun b o _ _ hc e _ => k b o (fun z => hc (by simp [z])) e) (fun b o _ _ hc e _ => ⟨o.slots, k b o (fun z => hc (by simp [z])) e⟩) (fun _ _ _ _ n => n)
    (fun b o hc e => ⟨o, k b o (fun z => hc (by simp [z])) e⟩) (fun _ _ e => e) (fun _ _ _ e => e) (fun b ps e => ⟨#[], by rw [e]; simp⟩) (fun m hm => ?_) (fun b u e => ?_) I.bare
  · have e : b = it := by simpa using hb
    subst e
    exact ⟨h1, hL, h2, h3⟩
  · obtain ⟨o, es, ep, ho, r⟩ := hm
    exact ⟨o, es, ep, k _ o (Ne.symm hL) ho, r⟩
  · refine (I.hok b u e).stay (fun c v hc q => k c v ?_ q) (fun _ q => q) fun _ _ q => q
    rcases hc with z | z
    · rw [z]; exact nit b u e
    · exact nit c _ z
theorem Inv.tok (I : Inv X pins σ H s) (t : Nat) : Inv X pins σ H { s with toks := t } := I.un (h' := s.heap) (t' := t) Un.refl I.hok
theorem Inv.kept {t' : Nat} (I : Inv X pins σ H s) (k : ∀ b u, s.heap.get? b = some u → h'.get? b = some u) : Inv X pins σ H { s with heap := h', toks := t' } := I.un (Un.kept k) (I.hok.kept k)
theorem Inv.laid {a : Addr} {o : HO} {t' : Nat} (I : Inv X pins σ H s) (k : ∀ b u, s.heap.get? b = some u → h'.get? b = some u) (hp : s.heap.objs.size ≤ a) (new : ObjOk X.prog X.w (upd H a o) h' a o) :
    Inv X pins σ (upd H a o) { s with heap := h', toks := t' } := I.un (Un.laid k hp (I.hok.fresh hp)) (I.hok.laid k hp new)
theorem Inv.write {x e : Addr} {o : HO} {t' : Nat} (I : Inv X pins σ H s) (mu : Mut (H x)) (he : e = x ∨ H e = some (.own x)) (k : ∀ b u, b ≠ e → s.heap.get? b = some u → h'.get? b = some u) (heo : ∃ u, h'.get? e = some u)
    (new : ObjOk X.prog X.w (upd H x o) h' x o) : Inv X pins σ (upd H x o) { s with heap := h', toks := t' } := I.un (Un.write mu he k heo) (I.hok.write mu he k heo new)
theorem Inv.pins_of {pins' : List (Addr × Obj)} (I : Inv X pins σ H s) (h : ∀ p ∈ pins', s.heap.get? p.1 = some p.2 ∧ H p.1 = none ∧ p.1 ≠ X.env.locals ∧ p.1 ∉ X.fs ∧ ∀ v, p.2.data ≠ .cell v) : Inv X pins' σ H s :=
  ⟨I.ok, I.os, I.bare, I.base, I.loc, I.cell, I.free, I.freeC, fun p hp => (List.mem_append.mp hp).elim (fun z => I.pin p (List.mem_append_left _ z)) (h p), I.hok, I.len⟩
theorem nodup_ix {N : List Str} (hN : N.Nodup) {i j : Nat} {x : Str} (a : N[i]? = some x) (b : N[j]? = some x) : i = j := by
  obtain ⟨h1, e1⟩ := List.getElem?_eq_some_iff.mp a
  obtain ⟨h2, e2⟩ := List.getElem?_eq_some_iff.mp b
  exact (List.getElem_inj hN).mp (e1.trans e2.symm)
theorem store_ok2 {M : Model} {A : Around} {E : Value → Shared → Prop} {i : Nat} {x : Str} {v : V} {u : Value} {Q : Unit → Shared → Prop} (I : Inv X pins σ H s) (hN : X.N.Nodup) (hi : X.N[i]? = some x) (hx : Loc X.env.scope x) (r : RelV v u)
    (h : ∀ s', Inv X pins (σ.set i (some v)) H s' → (∃ a, Heap.SameBut a s.heap s'.heap ∧ (a = X.env.locals ∨ X.env.cells.lookup x = some a)) → Q () s') (hf : X.fn x = true ∨ X.env.scope.names.lookup x = some .local := by first | exact .inl rfl | exact .inr rfl | assumption) : wpAny M A (storeName X.env x u) Q E s := by
  obtain ⟨m, hn, hl⟩ := id I.loc
  have hcls : (X.env.scope.kind == .class || (X.env.scope.kind == .module && X.env.locals != X.env.globals)) = false := by rw [I.ok.kind]; rfl
  have hiσ : i < σ.length := by rw [I.len]; exact (List.getElem?_eq_some_iff.mp hi).1
  have cne := I.cne
  have tracked : ∀ {a : Addr} {h' : Heap}, (∃ o, s.heap.get? a = some o ∧ H a = none) → Heap.SameBut a s.heap h' → HOk X.prog X.w H h' := fun {a h'} ha hs b ob e => by
    obtain ⟨_, _, hfree⟩ := ha
    refine (I.hok b ob e).stay (fun c w' hc q => (hs.2 c ?_).trans q) (fun _ q => q) fun _ _ q => q
    rintro rfl
    rcases hc with rfl | hc
    · rw [hfree] at e; cases e
    · rw [hfree] at hc; cases hc
  rcases hx with hk | hk
  · refine wpAny_storeName_local hk hn (fun h' hn' hs => ?_) hcls
    obtain ⟨oL, _, _, hoL, _⟩ := id hn
    refine h _ ⟨I.ok, I.os, I.bare, ⟨fun b o e n hb hx => ?_, fun b o e n hb hx => ?_, I.base.free, fun b o e hx => ?_, I.base.tups, I.base.frzs, I.base.tbls⟩, ⟨_, hn', fun j y v' e1 e2 e3 => ?_⟩, fun y c e => ?_, I.free, I.freeC, fun p hp => ?_, tracked ⟨oL, hoL, I.free⟩ hs, by simpa using I.len⟩ ⟨_, hs, .inl rfl⟩
    · exact (hs.2 b (Nat.ne_of_lt (Nat.lt_of_lt_of_le (Heap.lt_size e) I.ok.above))).trans (I.base.keep b o e n hb hx)
    · obtain ⟨sl, e1⟩ := I.base.slot b o e n hb hx
      exact ⟨sl, (hs.2 b (Nat.ne_of_lt (Nat.lt_of_lt_of_le (Heap.lt_size e) I.ok.above))).trans e1⟩
    · obtain ⟨o', e1⟩ := I.base.there b o e hx
      exact ⟨o', (hs.2 b (Nat.ne_of_lt (Nat.lt_of_lt_of_le (Heap.lt_size e) I.ok.above))).trans e1⟩
    · by_cases hj : j = i
      · subst hj
        rw [hi] at e1; cases e1
        rw [List.getElem?_set_self hiσ] at e2
        cases e2
        exact ⟨u, r, .inl ⟨hk, by simp⟩⟩
      · rw [List.getElem?_set_ne (Ne.symm hj)] at e2
        obtain ⟨u', r', q⟩ := hl j y v' e1 e2 e3
        refine ⟨u', r', ?_⟩
        rcases q with ⟨k, e⟩ | ⟨k, c, e, z⟩
        · refine .inl ⟨k, ?_⟩
          have : y ≠ x := fun e => hj (nodup_ix hN e1 (e ▸ hi))
          simp [this, e]
        · exact .inr ⟨k, c, e, z.sameBut hs (cne y c e)⟩
    · obtain ⟨w', z⟩ := I.cell y c e
      exact ⟨w', z.sameBut hs (cne y c e)⟩
    · obtain ⟨e, n, ne, nf, d⟩ := I.pin p hp
      exact ⟨(hs.2 p.1 ne).trans e, n, ne, nf, d⟩
  · have hfn : X.fn x = true := by
      rcases hf with z | z
      · exact z
      · rw [z] at hk; cases hk
    obtain ⟨c, hc⟩ := I.ok.has x (.inl hk)
    obtain ⟨w', z⟩ := I.cell x c hc
    refine wpAny_storeName_cell I.ok.kind hk hc z (fun h' hc' hs => ?_)
    obtain ⟨oc, hoc, hocd⟩ := id z
    refine h { s with heap := h' } ⟨I.ok, I.os, I.bare, ⟨fun b o e n hb hx => ?_, fun b o e n hb hx => ?_, I.base.free, fun b o e hx => ?_, I.base.tups, I.base.frzs, I.base.tbls⟩, ⟨m, hn.sameBut hs (Ne.symm (cne x c hc)), fun j y v' e1 e2 e3 => ?_⟩, fun y c' e => ?_, I.free, I.freeC, fun p hp => ?_, tracked ⟨oc, hoc, I.freeC x c hc⟩ hs, by simpa using I.len⟩ ⟨c, hs, .inr hc⟩
    · exact (hs.2 b (Nat.ne_of_lt (Nat.lt_of_lt_of_le (Heap.lt_size e) (I.ok.cab x c hfn hc)))).trans (I.base.keep b o e n hb hx)
    · obtain ⟨sl, e1⟩ := I.base.slot b o e n hb hx
      exact ⟨sl, (hs.2 b (Nat.ne_of_lt (Nat.lt_of_lt_of_le (Heap.lt_size e) (I.ok.cab x c hfn hc)))).trans e1⟩
    · obtain ⟨o', e1⟩ := I.base.there b o e hx
      exact ⟨o', (hs.2 b (Nat.ne_of_lt (Nat.lt_of_lt_of_le (Heap.lt_size e) (I.ok.cab x c hfn hc)))).trans e1⟩
    · by_cases hj : j = i
      · subst hj
        rw [hi] at e1; cases e1
        rw [List.getElem?_set_self hiσ] at e2
        cases e2
        exact ⟨u, r, .inr ⟨.inl hk, c, hc, hc'⟩⟩
      · rw [List.getElem?_set_ne (Ne.symm hj)] at e2
        obtain ⟨u', r', q⟩ := hl j y v' e1 e2 e3
        refine ⟨u', r', ?_⟩
        rcases q with q | ⟨k, c', e, z'⟩
        · exact .inl q
        · refine .inr ⟨k, c', e, z'.sameBut hs ?_⟩
          rintro rfl
          exact hj (nodup_ix hN e1 (I.ok.inj _ _ _ e hc ▸ hi))
    · by_cases hcc : c' = c
      · subst hcc; exact ⟨_, hc'⟩
      · obtain ⟨w2, z2⟩ := I.cell y c' e
        exact ⟨w2, z2.sameBut hs hcc⟩
    · obtain ⟨e, n, ne, nf, d⟩ := I.pin p hp
      refine ⟨(hs.2 p.1 ?_).trans e, n, ne, nf, d⟩
      intro q
      rw [q, hoc] at e
      have q' : oc = p.2 := Option.some.inj e
      exact d w' (by rw [← q']; exact hocd)
theorem store_ok {M : Model} {A : Around} {E : Value → Shared → Prop} {i : Nat} {x : Str} {v : V} {u : Value} {Q : Unit → Shared → Prop} (I : Inv X pins σ H s) (hN : X.N.Nodup) (hi : X.N[i]? = some x) (hx : Loc X.env.scope x) (r : RelV v u)
    (h : ∀ s', Inv X pins (σ.set i (some v)) H s' → Q () s') (hf : X.fn x = true ∨ X.env.scope.names.lookup x = some .local := by first | exact .inl rfl | exact .inr rfl | assumption) : wpAny M A (storeName X.env x u) Q E s :=
  store_ok2 I hN hi hx r (fun s' I' _ => h s' I') hf
theorem Inv.call' {s' : Shared} {ch : List Addr} (I : Inv X pins σ H s) (ho : s'.os = s.os) (u : Un (frs X.stack) ch H H' s.heap s'.heap) (hok : HOk X.prog X.w H' s'.heap) (hg : AllBare s'.gens)
    (hch : ∀ b ∈ ch, (b ∈ X.ex ∨ X.s₀.heap.objs.size ≤ b) ∧ b ≠ X.env.locals ∧ (∀ x c, X.env.cells.lookup x = some c → c ≠ b) ∧ ∀ p ∈ X.pn ++ pins, p.1 ≠ b) : Inv X pins σ H' s' := by
  obtain ⟨h', g', d', t', o'⟩ := s'
  have e : o' = s.os := ho
  subst e
  exact I.call (g' := g') (t' := t') (d' := d') u hok hg hch
end
noncomputable abbrev XK := Value → Option Addr → Hp → Prop
noncomputable abbrev St := List (Option V)
noncomputable abbrev VK := V → Hp → Prop
noncomputable abbrev TE := St → Hp → VK → Prop
noncomputable abbrev TT := St → Hp → (Bool → Hp → Prop) → Prop
noncomputable abbrev TA := St → Hp → (List V → Hp → Prop) → Prop
structure Ends where
  nx : St → Hp → Prop
  rt : VK
  bk : St → Hp → Prop := fun _ _ => False
  ct : St → Hp → Prop := fun _ _ => False
noncomputable abbrev TS := Ends → St → Hp → Prop
noncomputable def EP (X : Cx) (pins : List (Addr × Obj)) (σ : St) (Q : VK) (u : Value) (s' : Shared) : Prop := ∃ v H', Inv X pins σ H' s' ∧ RelV v u ∧ Q v H'
noncomputable def TP (X : Cx) (pins : List (Addr × Obj)) (σ : St) (Q : Bool → Hp → Prop) (b : Bool) (s' : Shared) : Prop := ∃ H', Inv X pins σ H' s' ∧ Q b H'
noncomputable def AP (X : Cx) (pins : List (Addr × Obj)) (σ : St) (Q : List V → Hp → Prop) (us : List Value) (s' : Shared) : Prop := ∃ vs H', Inv X pins σ H' s' ∧ Vals vs us ∧ Q vs H'
noncomputable def SP (X : Cx) (pins : List (Addr × Obj)) (D : Ends) (f : Flow) (s' : Shared) : Prop :=
  match f with
  | .next => ∃ σ' H', Inv X pins σ' H' s' ∧ D.nx σ' H'
  | .brk => ∃ σ' H', Inv X pins σ' H' s' ∧ D.bk σ' H'
  | .cont => ∃ σ' H', Inv X pins σ' H' s' ∧ D.ct σ' H'
  | .ret u => ∃ v σ' H', Inv X pins σ' H' s' ∧ RelV v u ∧ D.rt v H'
noncomputable def PE (X : Cx) (e : Expr) (t : TE) : Prop :=
  ∀ (pins : List (Addr × Obj)) (s : Shared) (σ : St) (H : Hp) (Q : VK), Inv X pins σ H s → t σ H Q → wpAny (model X.prog X.w) X.A (eval e X.env) (EP X pins σ Q) X.xe s
noncomputable def PT (X : Cx) (e : Expr) (t : TT) : Prop :=
  ∀ (pins : List (Addr × Obj)) (s : Shared) (σ : St) (H : Hp) (Q : Bool → Hp → Prop), Inv X pins σ H s → t σ H Q → wpAny (model X.prog X.w) X.A (isTrue e X.env (eval e X.env)) (TP X pins σ Q) X.xe s
noncomputable def PW (X : Cx) (e : Expr) (t : TT) : Prop :=
  ∀ (whole : Sem Value) (pins : List (Addr × Obj)) (s : Shared) (σ : St) (H : Hp) (Q : Bool → Hp → Prop), Inv X pins σ H s → t σ H Q → wpAny (model X.prog X.w) X.A (isTrue e X.env whole) (TP X pins σ Q) X.xe s
theorem PW.pt {X : Cx} {e : Expr} {t : TT} (h : PW X e t) : PT X e t := h _
noncomputable def PA (X : Cx) (es : List Expr) (t : TA) : Prop :=
  ∀ (pos : Pos) (pins : List (Addr × Obj)) (s : Shared) (σ : St) (H : Hp) (Q : List V → Hp → Prop), Inv X pins σ H s → t σ H Q → wpAny (model X.prog X.w) X.A (spliced (backTo pos (starEach es X.env))) (AP X pins σ Q) X.xe s
noncomputable def PS (X : Cx) (st : Stmt) (t : TS) : Prop :=
  ∀ (pins : List (Addr × Obj)) (s : Shared) (σ : St) (H : Hp) (D : Ends), Inv X pins σ H s → t D σ H → wpAny (model X.prog X.w) X.A (exec st X.env) (SP X pins D) X.xe s
noncomputable def PSs (X : Cx) (st : List Stmt) (t : TS) : Prop :=
  ∀ (pins : List (Addr × Obj)) (s : Shared) (σ : St) (H : Hp) (D : Ends), Inv X pins σ H s → t D σ H → wpAny (model X.prog X.w) X.A (execs st X.env) (SP X pins D) X.xe s
theorem thn {α : Type} {t : Sem α} {Q Q' : α → Shared → Prop} {M : Model} {A : Around} {E : Value → Shared → Prop} {s : Shared} (h : wpAny M A t Q E s) (hQ : ∀ a s, Q a s → Q' a s) : wpAny M A t Q' E s := wpAny_mono h hQ fun _ _ x => x
end L2
namespace L2
open PySem PySem.Spec PyProof.Rows
section
variable {X : Cx}
noncomputable def tVar (i : Nat) : TE := fun σ H Q => ∃ v, σ[i]? = some (some v) ∧ Q v H
noncomputable def tC (v : V) : TE := fun _ H Q => Q v H
theorem pe_var {i : Nat} {x : Str} {pos : Pos} (hN : X.N[i]? = some x) (hv : Vis X.env.scope x) (hd : (x == ("__debug__" : Str)) = false := by decide) (hcd : (x == ("__classdict__" : Str)) = false := by decide) : PE X (.Name x pos) (tVar i) := by
  intro pins s σ H Q I h
  obtain ⟨v, e, h⟩ := h
  obtain ⟨m, hn, hl⟩ := I.loc
  obtain ⟨u, r, l⟩ := hl i x v hN e hv
  have fin : EP X pins σ Q u s := ⟨v, H, I, r, h⟩
  rcases l with ⟨hk, hm⟩ | ⟨hk, c, hc, hcell⟩
  · exact wpAny_Name (wpAny_loadName_local I.ok.kind hk hn hm fin) hd
  · rcases hk with hk | hk
    · exact wpAny_Name (wpAny_loadName_cell I.ok.kind hk hc hcell fin) hd
    · exact wpAny_Name (wpAny_loadName_free I.ok.kind hk hc hcell fin hcd) hd
theorem pe_int {i j pos} : PE X (.Constant (.int i) j pos) (tC (.int i)) := fun _ _ _ H _ I h => wpAny_Constant_int ⟨.int i, H, I.tok _, ⟨_, rfl⟩, h⟩
theorem pe_bl {b j pos} : PE X (.Constant (.bool b) j pos) (tC (.bl b)) := fun _ _ _ H _ I h => Constant_bool ⟨.bl b, H, I, rfl, h⟩
theorem pe_non {j pos} : PE X (.Constant .none j pos) (tC .non) := fun _ _ _ H _ I h => Constant_none ⟨.non, H, I, rfl, h⟩
theorem pe_str {x j pos} : PE X (.Constant (.str x) j pos) (tC (.str x)) := fun _ _ _ H _ I h => Calls.Constant_str ⟨.str x, H, I.tok _, ⟨_, rfl⟩, h⟩
noncomputable def Gl (X : Cx) (x : Str) : Prop := X.env.kindOf x = some .globalImplicit
theorem ld_glob {E : Value → Shared → Prop} {pins : List (Addr × Obj)} {s : Shared} {σ : St} {H : Hp} {x : Str} {u : Value} {pos : Pos} {Q : Value → Shared → Prop} (I : Inv X pins σ H s) (hg : Gl X x) (hm : X.mg x = some u) (h : Q u s)
    (hd : (x == ("__debug__" : Str)) = false := by decide) : wpAny (model X.prog X.w) X.A (eval (.Name x pos) X.env) Q E s :=
  Calls.Name_function_global I.ok.kind hg (Calls.loadGlobal_global (by rw [I.ok.glob]; exact I.mod.glob.keeps I.bk) hm h) hd
theorem ld_blt {E : Value → Shared → Prop} {pins : List (Addr × Obj)} {s : Shared} {σ : St} {H : Hp} {x : Str} {u : Value} {pos : Pos} {Q : Value → Shared → Prop} (I : Inv X pins σ H s) (hg : Gl X x) (hm : X.mg x = none) (hv : bootBuiltins x = some u) (h : Q u s)
    (hn : x ≠ "__name__" := by decide) (hd : (x == ("__debug__" : Str)) = false := by decide) : wpAny (model X.prog X.w) X.A (eval (.Name x pos) X.env) Q E s := by
  obtain ⟨mb, h1, h2⟩ := I.mod.blt
  exact Calls.Name_function_global I.ok.kind hg (Calls.loadGlobal_builtin (by rw [I.ok.glob]; exact I.mod.glob.keeps I.bk) hm (by rw [I.ok.blt]; exact h1.keeps I.bk) ((h2 x hn).trans hv) h) hd
theorem pe_glob {x : Str} {v : V} {u : Value} {pos : Pos} (hg : Gl X x) (hm : X.mg x = some u) (r : RelV v u) (hd : (x == ("__debug__" : Str)) = false := by decide) : PE X (.Name x pos) (tC v) :=
  fun _ _ _ H _ I h => ld_glob I hg hm ⟨v, H, I, r, h⟩ hd
theorem pe_bltn {x : Str} {v : V} {u : Value} {pos : Pos} (hg : Gl X x) (hm : X.mg x = none) (hv : bootBuiltins x = some u) (r : RelV v u) (hn : x ≠ "__name__" := by decide) (hd : (x == ("__debug__" : Str)) = false := by decide) : PE X (.Name x pos) (tC v) :=
  fun _ _ _ H _ I h => ld_blt I hg hm hv ⟨v, H, I, r, h⟩ hn hd
variable {a b : Expr} {ta tb : TE} {pos : Pos}
variable {tA tB' : TT} {rest : List Expr}
noncomputable def tAnd (t u : TT) : TT := fun σ H Q => t σ H fun c H1 => if c = true then u σ H1 Q else Q false H1
noncomputable def tOr (t u : TT) : TT := fun σ H Q => t σ H fun c H1 => if c = true then Q true H1 else u σ H1 Q
noncomputable def tNot (t : TT) : TT := fun σ H Q => t σ H fun c H1 => Q (!c) H1
theorem pw_and1 (ha : PT X a tA) : PW X (.BoolOp .And [a] pos) tA := by
  intro wh pins s σ H Q I h
  refine isTrue_and (thn (ha pins s σ H Q I h) fun c s1 e => ?_)
  cases c with
  | true => exact isTrue_and_nil e
  | false => exact e
theorem pw_or1 (ha : PT X a tA) : PW X (.BoolOp .Or [a] pos) tA := by
  intro wh pins s σ H Q I h
  refine isTrue_or (thn (ha pins s σ H Q I h) fun c s1 e => ?_)
  cases c with
  | false => exact isTrue_or_nil e
  | true => exact e
theorem pw_and (ha : PT X a tA) (hb : PW X (.BoolOp .And (b :: rest) pos) tB') : PW X (.BoolOp .And (a :: b :: rest) pos) (tAnd tA tB') := by
  intro wh pins s σ H Q I h
  refine isTrue_and (thn (ha pins s σ H _ I h) fun c s1 ⟨H1, I1, q1⟩ => ?_)
  cases c with
  | true => exact hb wh pins s1 σ H1 Q I1 q1
  | false => exact ⟨H1, I1, q1⟩
theorem pw_or (ha : PT X a tA) (hb : PW X (.BoolOp .Or (b :: rest) pos) tB') : PW X (.BoolOp .Or (a :: b :: rest) pos) (tOr tA tB') := by
  intro wh pins s σ H Q I h
  refine isTrue_or (thn (ha pins s σ H _ I h) fun c s1 ⟨H1, I1, q1⟩ => ?_)
  cases c with
  | true => exact ⟨H1, I1, q1⟩
  | false => exact hb wh pins s1 σ H1 Q I1 q1
theorem pt_not (ha : PT X a tA) : PT X (.UnaryOp .Not a pos) (tNot tA) := by
  intro pins s σ H Q I h
  exact isTrue_not (ha pins s σ H (fun c H1 => Q (!c) H1) I h)
noncomputable def tAndV (ta tb : TE) : TE := fun σ H Q => ta σ H fun x H1 => ∃ c, x = .bl c ∧ if c = true then tb σ H1 Q else Q (.bl false) H1
theorem pe_one {op} {t : TE} (h : PE X a t) : PE X (.BoolOp op [a] pos) t := fun pins s σ H Q I hw => BoolOp_one (h pins s σ H Q I hw)
theorem pe_and (ha : PE X a ta) (hb : PE X (.BoolOp .And (b :: rest) pos) tb) : PE X (.BoolOp .And (a :: b :: rest) pos) (tAndV ta tb) := by
  intro pins s σ H Q I h
  refine BoolOp_and (thn (ha pins s σ H _ I h) fun v s1 ⟨x, H1, I1, r1, q1⟩ => ?_)
  obtain ⟨c, rfl, q1⟩ := q1
  cases r1
  refine wpAny_truthy_bool ?_
  cases c with
  | true => exact hb pins s1 σ H1 Q I1 q1
  | false => exact ⟨.bl false, H1, I1, rfl, q1⟩
noncomputable def tIf (t : TT) (ta tb : TE) : TE := fun σ H Q => t σ H fun c H1 => if c = true then ta σ H1 Q else tb σ H1 Q
end
end L2
namespace L2
open PySem PySem.Spec PyProof.Rows
noncomputable def SqL (K : PySem.W.Frag) (H : Hp) (a : Addr) (xs : List V) : Prop :=
  Rd H a (.lst xs) ∨
    ∃ (o : Obj) (its : Array Value) (n : Nat), K.lookup a = some o ∧ o.cls = .type "list" ∧ o.dict = none ∧ o.data = .seq its n ∧ its.size ≤ sizeLine ∧ Vals xs its.toList
noncomputable def SqT (K : PySem.W.Frag) (H : Hp) (a : Addr) (xs : List V) : Prop :=
  Rd H a (.tup xs) ∨
    ∃ (o : Obj) (its : Array Value) (n : Nat), K.lookup a = some o ∧ o.cls = .type "tuple" ∧ o.data = .seq its n ∧ its.size ≤ sizeLine ∧ Vals xs its.toList
noncomputable def absV : Value → Option V
  | .none => some .non
  | .bool b => some (.bl b)
  | .int i _ => some (.int i)
  | .str x _ => some (.str x)
  | .bytes b _ => some (.byt b)
  | .float b _ => some (.flt b)
  | .ref a => some (.ref a)
  | .type n => some (.ty n)
  | _ => none
theorem RelV.abs {x : V} {u : Value} (r : RelV x u) : absV u = some x := by
  cases x with
  | non => cases r; rfl
  | bl _ => cases r; rfl
  | int _ => obtain ⟨t, rfl⟩ := r; rfl
  | str _ => obtain ⟨t, rfl⟩ := r; rfl
  | byt _ => obtain ⟨t, rfl⟩ := r; rfl
  | flt _ => obtain ⟨t, rfl⟩ := r; rfl
  | ref _ => cases r; rfl
  | ty _ => cases r; rfl
theorem RelV.inj {x y : V} {u : Value} (r : RelV x u) (q : RelV y u) : x = y := Option.some.inj (r.abs.symm.trans q.abs)
theorem Vals.inj : ∀ {xs ys : List V} {us : List Value}, Vals xs us → Vals ys us → xs = ys
  | _, _, _, .nil, .nil => rfl
  | _, _, _, .cons r t, .cons r' t' => by rw [r.inj r', Vals.inj t t']
section
variable {X : Cx} {pins : List (Addr × Obj)} {σ : St} {H : Hp} {s : Shared} {a : Addr} {xs ys : List V}
theorem SqL.of {K : PySem.W.Frag} (h : H a = some (.lst xs)) : SqL K H a xs := .inl (.inl h)
theorem SqT.of {K : PySem.W.Frag} (h : H a = some (.tup xs)) : SqT K H a xs := .inl (.inl h)
theorem Inv.list (I : Inv X pins σ H s) (h : SqL X.K H a xs) : ∃ its : List Value, Vals xs its ∧ PlainL s.heap a its.toArray ∧ xs.length ≤ sizeLine := by
  rcases h with h | ⟨o, its, n, hk, hc, hd, hs, hz, r⟩
  · obtain ⟨z, its, n, r, e⟩ := h.ok I.hok
    exact ⟨its, r, ⟨_, n, e, rfl, rfl, rfl⟩, z⟩
  · refine ⟨its.toList, r, ⟨o, n, I.kIn a o hk, hc, hd, by simpa using hs⟩, ?_⟩
    have e := r.length
    simp only [Array.length_toList] at e
    omega
theorem Inv.tuple (I : Inv X pins σ H s) (h : SqT X.K H a xs) : ∃ its : List Value, Vals xs its ∧ IsTup s.heap a its.toArray ∧ xs.length ≤ sizeLine := by
  rcases h with h | ⟨o, its, n, hk, hc, hs, hz, r⟩
  · obtain ⟨z, its, r, p⟩ := h.ok I.hok
    exact ⟨its, r, p, z⟩
  · refine ⟨its.toList, r, ⟨o, I.kIn a o hk, hc, n, by simpa using hs⟩, ?_⟩
    have e := r.length
    simp only [Array.length_toList] at e
    omega
theorem Inv.list_inj (I : Inv X pins σ H s) (h : SqL X.K H a xs) (h' : SqL X.K H a ys) : xs = ys := by
  obtain ⟨its, r, ⟨o, n, e, _, _, d⟩, _⟩ := I.list h
  obtain ⟨its', r', ⟨o', n', e', _, _, d'⟩, _⟩ := I.list h'
  rw [e] at e'; cases e'
  rw [d] at d'
  injection d' with d1 _
  have : its = its' := by simpa using congrArg Array.toList d1
  subst this
  exact r.inj r'
end
noncomputable abbrev Cx.wish (X : Cx) (E : Value → Shared → Prop) : Cx := { X with xe := E }
noncomputable abbrev Cx.nox (X : Cx) : Cx := X.wish fun _ _ => False
theorem Cx.Ok.wish {X : Cx} (ok : X.Ok) (E : Value → Shared → Prop) : (X.wish E).Ok :=
  ⟨ok.mod, ok.kind, ok.glob, ok.blt, ok.above, ok.inj, ok.has, ok.cab, ok.hd, ok.frames, ok.stk, ok.exf, ok.bs, ok.bsz, ok.noex, ok.exfs, ok.funs, ok.frf⟩
theorem Cx.Ok.unwish {X : Cx} {E : Value → Shared → Prop} (ok : (X.wish E).Ok) : X.Ok :=
  ⟨ok.mod, ok.kind, ok.glob, ok.blt, ok.above, ok.inj, ok.has, ok.cab, ok.hd, ok.frames, ok.stk, ok.exf, ok.bs, ok.bsz, ok.noex, ok.exfs, ok.funs, ok.frf⟩
section
variable {X : Cx} {pins : List (Addr × Obj)} {σ : St} {H : Hp} {s : Shared} {E : Value → Shared → Prop}
theorem Inv.wish (I : Inv X pins σ H s) (E : Value → Shared → Prop) : Inv (X.wish E) pins σ H s := ⟨I.ok.wish E, I.os, I.bare, I.base, I.loc, I.cell, I.free, I.freeC, I.pin, I.hok, I.len⟩
theorem Inv.unwish (I : Inv (X.wish E) pins σ H s) : Inv X pins σ H s := ⟨I.ok.unwish, I.os, I.bare, I.base, I.loc, I.cell, I.free, I.freeC, I.pin, I.hok, I.len⟩
theorem SP.unwish {D : Ends} {f : Flow} {s' : Shared} (h : SP (X.wish E) pins D f s') : SP X pins D f s' := by
  cases f with
  | next => obtain ⟨σ', H', I, q⟩ := h; exact ⟨σ', H', I.unwish, q⟩
  | brk => obtain ⟨σ', H', I, q⟩ := h; exact ⟨σ', H', I.unwish, q⟩
  | cont => obtain ⟨σ', H', I, q⟩ := h; exact ⟨σ', H', I.unwish, q⟩
  | ret u => obtain ⟨v, σ', H', I, r, q⟩ := h; exact ⟨v, σ', H', I.unwish, r, q⟩
theorem PE.nox {e : Expr} {t : TE} (h : PE X.nox e t) : PE X e t := fun pins s σ H Q I hw =>
  wpAny_mono (h pins s σ H Q (I.wish _) hw) (fun _ _ ⟨v, H', I', r, q⟩ => ⟨v, H', I'.unwish, r, q⟩) fun _ _ z => False.elim z
theorem PT.nox {e : Expr} {t : TT} (h : PT X.nox e t) : PT X e t := fun pins s σ H Q I hw =>
  wpAny_mono (h pins s σ H Q (I.wish _) hw) (fun _ _ ⟨H', I', q⟩ => ⟨H', I'.unwish, q⟩) fun _ _ z => False.elim z
theorem PSs.nox {st : List Stmt} {t : TS} (h : PSs X.nox st t) : PSs X st t := fun pins s σ H D I hw =>
  wpAny_mono (h pins s σ H D (I.wish _) hw) (fun _ _ q => q.unwish) fun _ _ z => False.elim z
end
section
variable {X : Cx} {st : Stmt} {rest : List Stmt} {t u : TS} {e : Expr} {te : TE} {pos : Pos}
noncomputable def tNext : TS := fun D σ H => D.nx σ H
noncomputable def tSeq (t u : TS) : TS := fun D σ H => t { D with nx := u D } σ H
theorem pss_nil : PSs X [] tNext := fun _ _ σ H _ I h => wpAny_execs_nil ⟨σ, H, I, h⟩
theorem pss_cons (h1 : PS X st t) (h2 : PSs X rest u) : PSs X (st :: rest) (tSeq t u) := by
  intro pins s σ H D I h
  refine wpAny_execs_cons (thn (h1 pins s σ H { D with nx := u D } I h) fun f s1 q => ?_)
  cases f with
  | next =>
    obtain ⟨σ', H', I', q⟩ := q
    exact h2 pins s1 σ' H' D I' q
  | ret v => exact q
  | brk => exact q
  | cont => exact q
theorem pss_one (h1 : PS X st t) : PSs X [st] t := by
  intro pins s σ H D I h
  refine wpAny_execs_cons (thn (h1 pins s σ H D I h) fun f s1 q => ?_)
  cases f with
  | next => exact wpAny_execs_nil q
  | ret v => exact q
  | brk => exact q
  | cont => exact q
theorem Inv.quiet {pins : List (Addr × Obj)} {σ : St} {H : Hp} {s : Shared} (I : Inv X pins σ H s) : interactive X.env = false := by simp [interactive, I.ok.kind]
noncomputable def tDrop (te : TE) : TS := fun D σ H => te σ H fun _ H1 => D.nx σ H1
theorem ps_expr (he : PE X e te) (hs : swapsWith e none pos.line X.env = pure false := by rfl) : PS X (.Expr e pos) (tDrop te) := by
  intro pins s σ H D I h
  exact wpAny_Expr_any (thn (he pins s σ H _ I h) fun v s1 ⟨x, H1, I1, r1, q1⟩ => ⟨σ, H1, I1, q1⟩) I.quiet hs
noncomputable def tRet (te : TE) : TS := fun D σ H => te σ H D.rt
theorem ps_ret (he : PE X e te) : PS X (.Return (some e) pos) (tRet te) := by
  intro pins s σ H D I h
  exact wpAny_Return_some (thn (he pins s σ H _ I h) fun v s1 ⟨x, H1, I1, r1, q1⟩ => ⟨x, σ, H1, I1, r1, q1⟩)
noncomputable def tIfS (c : TT) (t u : TS) : TS := fun D σ H => c σ H fun b H1 => if b = true then t D σ H1 else u D σ H1
theorem ps_if {c : Expr} {a b : List Stmt} {tc : TT} (hc : PT X c tc) (ha : PSs X a t) (hb : PSs X b u) : PS X (.If c a b pos) (tIfS tc t u) := by
  intro pins s σ H D I h
  refine wpAny_If (thn (hc pins s σ H _ I h) fun d s1 ⟨H1, I1, q1⟩ => ?_)
  cases d with
  | true => exact ha pins s1 σ H1 D I1 q1
  | false => exact hb pins s1 σ H1 D I1 q1
end
noncomputable abbrev TG := V → St → Hp → (St → Hp → Prop) → Prop
noncomputable abbrev TGs := List V → St → Hp → (St → Hp → Prop) → Prop
noncomputable def PG (X : Cx) (target : Expr) (t : TG) : Prop :=
  ∀ (pins : List (Addr × Obj)) (s : Shared) (σ : St) (H : Hp) (v : V) (u : Value) (Q : St → Hp → Prop), Inv X pins σ H s → RelV v u → t v σ H Q →
    wpAny (model X.prog X.w) X.A (assign target X.env u) (fun _ s' => ∃ σ' H', Inv X pins σ' H' s' ∧ Q σ' H') X.xe s
noncomputable abbrev TIp := V → V → Hp → VK → Prop
section
variable {X : Cx} {pos : Pos}
noncomputable def gName (i : Nat) : TG := fun v σ H Q => Q (σ.set i (some v)) H
theorem pg_name {i : Nat} {x : Str} (hN : X.N.Nodup) (hi : X.N[i]? = some x) (hx : Loc X.env.scope x) (hf : X.fn x = true ∨ X.env.scope.names.lookup x = some .local := by first | exact .inl rfl | exact .inr rfl | assumption) : PG X (.Name x pos) (gName i) := by
  intro pins s σ H v u Q I r h
  exact wpAny_assign_Name (store_ok I hN hi hx r (fun s' I' => ⟨_, H, I', h⟩) hf)
noncomputable def gNil : TGs := fun vs σ H Q => vs = [] ∧ Q σ H
noncomputable def gCons (t : TG) (u : TGs) : TGs := fun vs σ H Q => ∃ v r, vs = v :: r ∧ t v σ H fun σ' H' => u r σ' H' Q
noncomputable def tAsg (te : TE) (g : TG) : TS := fun D σ H => te σ H fun x H1 => g x σ H1 D.nx
theorem ps_set {i : Nat} {x : Str} {e : Expr} {te : TE} {pos' : Pos} (hN : X.N.Nodup) (hi : X.N[i]? = some x) (hx : Loc X.env.scope x) (he : PE X e te) (hs : swapsWith e (some (.Name x pos')) pos.line X.env = pure false := by rfl) (hf : X.fn x = true ∨ X.env.scope.names.lookup x = some .local := by first | exact .inl rfl | exact .inr rfl | assumption) :
    PS X (.Assign [.Name x pos'] e pos) (tAsg te (gName i)) := by
  intro pins s σ H D I h
  refine wpAny_Assign_Name (thn (he pins s σ H _ I h) fun v s1 ⟨y, H1, I1, r1, q1⟩ => ?_) hs
  exact store_ok I1 hN hi hx r1 (fun s2 I2 => ⟨_, H1, I2, q1⟩) hf
noncomputable def tPar (i j : Nat) (ta : TA) : TS := fun D σ H => ta σ H fun vs H1 => ∃ v w, vs = [v, w] ∧ D.nx ((σ.set i (some v)).set j (some w)) H1
end
section
variable {X : Cx} {pos : Pos}
noncomputable def tWhile (c : TT) (tb : TS) : TS := fun D σ H => ∃ W : Nat → St → Hp → Prop, (∃ m, W m σ H) ∧ ∀ m σ H, W m σ H →
  c σ H fun b H1 => if b = true then ∃ N : St → Hp → Prop, (∀ σ' H', N σ' H' → ∃ m', m' < m ∧ W m' σ' H') ∧ tb { D with nx := N, ct := N, bk := D.nx } σ H1 else D.nx σ H1
end
structure It where
  go : Nat → Hp → Prop
  yld : Nat → Hp → V → Hp → Prop
  stop : Nat → Hp → Prop
noncomputable def FpOk (X : Cx) (pins : List (Addr × Obj)) (H : Hp) (b : Addr) : Prop :=
  H b = none ∧ b ≠ X.env.locals ∧ b ∉ X.fs ∧ (b ∈ X.ex ∨ X.s₀.heap.objs.size ≤ b) ∧ (∀ x c, X.env.cells.lookup x = some c → c ≠ b) ∧ ∀ p ∈ X.pn ++ pins, p.1 ≠ b
theorem Inv.fpOk {X : Cx} {pins : List (Addr × Obj)} {σ : St} {H H' : Hp} {s : Shared} {b : Addr} (I : Inv X pins σ H s) (hb : s.heap.objs.size ≤ b) (hn : H' b = none) : FpOk X pins H' b := by
  refine ⟨hn, Nat.ne_of_gt (Nat.lt_of_lt_of_le I.lt hb), I.nofs hb, .inr (Nat.le_trans I.sz hb), fun x c e z => ?_, fun p hp z => ?_⟩
  · obtain ⟨v, q⟩ := I.cell x c e
    exact absurd (Nat.lt_of_lt_of_le q.lt (by rw [z]; exact hb)) (Nat.lt_irrefl _)
  · exact absurd (Nat.lt_of_lt_of_le (Heap.lt_size (I.pin p hp).1) (by rw [z]; exact hb)) (Nat.lt_irrefl _)
structure Turn (P : Program) (w : World) (K : PySem.W.Frag) (tg : Expr) (J : It) (fp : List Addr) (it : Addr) (tn : Nat → Heap → Prop) : Prop where
  mem : it ∈ fp
  obj : ∀ i h, tn i h → ∀ b ∈ fp, ∃ o, h.get? b = some o ∧ ∀ v, o.data ≠ .cell v
  keep : ∀ i h h', tn i h → (∀ b ∈ fp, ∀ o, h.get? b = some o → h'.get? b = some o) → tn i h'
  item : ∀ (X : Cx), X.prog = P → X.w = w → X.K = K → X.calm = true → ∀ (i : Nat) (pins : List (Addr × Obj)) (s : Shared) (σ : St) (H : Hp) (E : Value → Shared → Prop), Inv X pins σ H s → (∀ b ∈ fp, FpOk X pins H b) → tn i s.heap → J.go i H →
    wpAny (model P w) X.A (pyNext (.ref it)) (fun r s1 => ∃ u, r = some u ∧
      wpAny (model P w) X.A (letOwnedTupleGo tg (.ref it) u) (fun _ s2 => ∃ x H', Inv X pins σ H' s2 ∧ RelV x u ∧ J.yld i H x H' ∧ tn (i + 1) s2.heap ∧ ∀ b ∈ fp, H' b = none) E s1) E s
  done : ∀ (X : Cx), X.prog = P → X.w = w → X.K = K → X.calm = true → ∀ (i : Nat) (pins : List (Addr × Obj)) (s : Shared) (σ : St) (H : Hp) (E : Value → Shared → Prop), Inv X pins σ H s → (∀ b ∈ fp, FpOk X pins H b) → tn i s.heap → J.stop i H →
    wpAny (model P w) X.A (pyNext (.ref it)) (fun r s1 => r = none ∧ Inv X pins σ H s1) E s
  self : ∀ (A : Around) (i : Nat) (s : Shared) (Q : Value → Shared → Prop) (E : Value → Shared → Prop), tn i s.heap → Q (.ref it) s → wpAny (model P w) A (pyIter (.ref it)) Q E s
noncomputable abbrev TI := St → Hp → (It → Hp → Prop) → Prop
noncomputable def PIE (X : Cx) (pins : List (Addr × Obj)) (σ : St) (tg : Expr) (R : It → Hp → Prop) (itv : Value) (s2 : Shared) : Prop :=
  ∃ (it : Addr) (fp : List Addr) (tn : Nat → Heap → Prop) (J : It) (H' : Hp), itv = .ref it ∧ Inv X pins σ H' s2 ∧ Turn X.prog X.w X.K tg J fp it tn ∧ tn 0 s2.heap ∧ (∀ b ∈ fp, FpOk X pins H' b) ∧ R J H'
noncomputable def PI (X : Cx) (tg iter : Expr) (wi : TI) : Prop :=
  ∀ (pins : List (Addr × Obj)) (s : Shared) (σ : St) (H : Hp) (R : It → Hp → Prop), Inv X pins σ H s → wi σ H R →
    wpAny (model X.prog X.w) X.A (eval iter X.env) (fun v s1 => wpAny (model X.prog X.w) X.A (pyIter v) (PIE X pins σ tg R) X.xe s1) X.xe s
theorem go_of {M : Model} {A : Around} {E : Value → Shared → Prop} {s : Shared} {tg : Expr} {it : Addr} {u : Value} {o : Obj} {n : String} {vs : Array Value} {Q : Unit → Shared → Prop} (ho : s.heap.get? it = some o) (hc : o.cls = .type n) (hd : o.data = .fields vs)
    (hn : ["enumerate", "zip", "dict_itemiterator", "dict_reverseitemiterator", "odict_iterator", "itertools.zip_longest", "itertools.pairwise"].contains n = false) (hQ : Q () s) : wpAny M A (letOwnedTupleGo tg (.ref it) u) Q E s := by
  unfold letOwnedTupleGo
  cases tg <;> first
    | exact wpAny_pure hQ
    | (cases u <;> first
        | exact wpAny_pure hQ
        | (refine wpAny_bind (wpAny_load ho ?_)
           rw [hc, hd]
           show wpAny M A (if (["enumerate", "zip", "dict_itemiterator", "dict_reverseitemiterator", "odict_iterator", "itertools.zip_longest", "itertools.pairwise"].contains n && vs[0]? == some (rawInt _)) = true then _ else _) Q E s
           rw [if_neg (by intro h; rw [hn, Bool.false_and] at h; cases h)]
           exact wpAny_pure hQ))
noncomputable def Itl (K : PySem.W.Frag) (a : Addr) : It :=
  ⟨fun i H => ∃ xs x, SqL K H a xs ∧ xs[i]? = some x, fun i H x H' => H' = H ∧ ∀ xs, SqL K H a xs → xs[i]? = some x, fun i H => ∃ xs, SqL K H a xs ∧ xs.length ≤ i⟩
noncomputable def Itt (K : PySem.W.Frag) (a : Addr) : It :=
  ⟨fun i H => ∃ xs x, SqT K H a xs ∧ xs[i]? = some x, fun i H x H' => H' = H ∧ ∀ xs, SqT K H a xs → xs[i]? = some x, fun i H => ∃ xs, SqT K H a xs ∧ xs.length ≤ i⟩
noncomputable def Itr (lo : Int) (n : Nat) : It := ⟨fun i _ => i < n, fun i H x H' => H' = H ∧ x = .int (lo + i), fun i _ => n ≤ i⟩
theorem turn_list {P : Program} {w : World} {K : PySem.W.Frag} {tg : Expr} (a it : Addr) : Turn P w K tg (Itl K a) [it] it (fun i h => h.IsListIter it a i) where
  mem := by simp
  obj := fun i h st b hb => by
    have e : b = it := by simpa using hb
    subst e
    obtain ⟨o, e, c, d⟩ := st
    exact ⟨o, e, fun v z => by rw [d] at z; cases z⟩
  keep := fun i h h' st k => st.at fun o e => k it (by simp) o e
  item := by
    intro X hP hw hK hc i pins s σ H E I hf st hg
    subst hP hw hK
    obtain ⟨xs, x, hq, hx⟩ := hg
    obtain ⟨its, rv, p, hz⟩ := I.list hq
    obtain ⟨u, hu, ru⟩ := rv.get hx
    obtain ⟨f0, f1, f2, f3, f4, f5⟩ := hf it (by simp)
    refine wpAny_pyNext_list_item st p.isList (x := u) (by simpa using hu) fun h' st' sb => ?_
    have I1 : Inv X pins σ H { s with heap := h' } := I.turned (t' := s.toks) (fun b o hb e => (sb.2 b hb).trans e) f0 f1 f3 f4 f5
    obtain ⟨o, e, c, d⟩ := id st'
    exact ⟨u, rfl, go_of (s := { s with heap := h' }) e c d (by decide) ⟨x, H, I1, ru, ⟨rfl, fun ys hy => by rw [I.list_inj hy hq]; exact hx⟩, st', fun b hb => (hf b hb).1⟩⟩
  done := by
    intro X hP hw hK hc i pins s σ H E I hf st hg
    subst hP hw hK
    obtain ⟨xs, hq, hx⟩ := hg
    obtain ⟨its, rv, p, hz⟩ := I.list hq
    obtain ⟨f0, f1, f2, f3, f4, f5⟩ := hf it (by simp)
    have hl := rv.length
    exact wpAny_pyNext_list_end (I.ok.hd hc) st p.isList (by simp; omega) fun h' eb => ⟨rfl, I.turned (t' := s.toks) (fun b o hb e => eb b o hb e) f0 f1 f3 f4 f5⟩
  self := fun _ _ _ _ _ st h => wpAny_pyIter_listiter st h
theorem turn_range {P : Program} {w : World} {K : PySem.W.Frag} {tg : Expr} (it : Addr) (lo : Int) (n : Nat) : Turn P w K tg (Itr lo n) [it] it (fun i h => IsRangeIter h it (lo + (i : Nat) * 1) ((n : Int) - (i : Nat)) 1) where
  mem := by simp
  obj := fun i h st b hb => by
    have e : b = it := by simpa using hb
    subst e
    exact ⟨_, st, fun v z => by
      have z' : Data.fields _ = Data.cell v := z
      cases z'⟩
  keep := fun i h h' st k => k it (by simp) _ st
  item := by
    intro X hP hw hK hc i pins s σ H E I hf st hg
    subst hP hw hK
    obtain ⟨f0, f1, f2, f3, f4, f5⟩ := hf it (by simp)
    have W := Walks.range (prog := X.prog) (w := X.w) (I.ok.hd hc) it lo 1 n
    refine W.item i s _ _ hg st fun v h' tk hv st' kk => ?_
    obtain ⟨t, rfl⟩ := hv
    have I1 : Inv X pins σ H { s with heap := h', toks := tk } := I.turned (fun b o hb e => kk b o (by simpa using hb) e) f0 f1 f3 f4 f5
    refine ⟨_, rfl, go_of (s := { s with heap := h', toks := tk }) (n := "range_iterator") st' rfl rfl (by decide) ⟨.int (lo + i), H, I1, ⟨t, ?_⟩, ⟨rfl, rfl⟩, st', fun b hb => (hf b hb).1⟩⟩
    rw [Int.mul_one]
  done := by
    intro X hP hw hK hc i pins s σ H E I hf st hg
    subst hP hw hK
    obtain ⟨f0, f1, f2, f3, f4, f5⟩ := hf it (by simp)
    exact wpAny_pyNext_range_end (I.ok.hd hc) st (by have : n ≤ i := hg; omega) fun h' eb => ⟨rfl, I.turned (t' := s.toks) (fun b o hb e => eb b o hb e) f0 f1 f3 f4 f5⟩
  self := fun _ _ _ _ _ st h => wpAny_pyIter_rangeiter st h
end L2
namespace L2
open PySem PySem.Spec PyProof.Rows
section
variable {X : Cx} {tg : Expr}
noncomputable def iList (K : PySem.W.Frag) (tl : TE) : TI := fun σ H R => tl σ H fun x H1 => ∃ a, x = .ref a ∧ (∃ xs, SqL K H1 a xs) ∧ R (Itl K a) H1
noncomputable def iTup (K : PySem.W.Frag) (tl : TE) : TI := fun σ H R => tl σ H fun x H1 => ∃ a, x = .ref a ∧ (∃ xs, SqT K H1 a xs) ∧ R (Itt K a) H1
theorem pi_list {l : Expr} {tl : TE} (hl : PE X l tl) : PI X tg l (iList X.K tl) := by
  intro pins s σ H R I h
  refine thn (hl pins s σ H _ I h) fun v s1 ⟨x, H1, I1, r1, q1⟩ => ?_
  obtain ⟨a, e, ⟨xs, hq⟩, q⟩ := q1
  subst e
  cases r1
  obtain ⟨its, rv, p, hz⟩ := I1.list hq
  refine wpAny_pyIter_list p.isList ?_
  refine ⟨s1.heap.objs.size, [s1.heap.objs.size], _, _, H1, rfl, I1.kept (t' := s1.toks) fun b o e => Heap.get?_push_of_some _ e, turn_list a _, ⟨_, Heap.get?_push_size _ rfl, rfl, rfl⟩, fun b hb => ?_, q⟩
  have e : b = s1.heap.objs.size := by simpa using hb
  subst e
  exact I1.fpOk (Nat.le_refl _) (I1.hok.fresh (Nat.le_refl _))
theorem range_it {pins : List (Addr × Obj)} {σ : St} {H : Hp} {s : Shared} {R : It → Hp → Prop} {E : Value → Shared → Prop} {lo hi : Int} {t u v : Tok} {tk : Nat} (I : Inv X pins σ H s) (h1 : -(2 ^ 62) ≤ lo) (h2 : lo < 2 ^ 62) (h3 : -(2 ^ 62) ≤ hi) (h4 : hi < 2 ^ 62)
    (q : R (Itr lo (hi - lo).toNat) H) : wpAny (model X.prog X.w) X.A (pyIter (.ref s.heap.objs.size)) (PIE X pins σ tg R) E { s with heap := s.heap.push { cls := .type "range", data := .fields #[.int lo t, .int hi u, .int 1 v] }, toks := tk } := by
  refine wpAny_pyIter_range (IsRange.new ..) (small_one h1 h2 h3 h4) ?_
  have I1 : Inv X pins σ H { s with heap := s.heap.push { cls := .type "range", data := .fields #[.int lo t, .int hi u, .int 1 v] }, toks := tk } := I.kept fun b o e => Heap.get?_push_of_some _ e
  refine ⟨(s.heap.push { cls := .type "range", data := .fields #[.int lo t, .int hi u, .int 1 v] }).objs.size, [(s.heap.push { cls := .type "range", data := .fields #[.int lo t, .int hi u, .int 1 v] }).objs.size], _, _, H, rfl,
    I1.kept (t' := tk) fun b o e => Heap.get?_push_of_some _ e, turn_range _ lo (hi - lo).toNat, ?_, fun b hb => ?_, q⟩
  · have e1 : lo + ((0 : Nat) : Int) * 1 = lo := by simp
    have e2 : (((hi - lo).toNat : Nat) : Int) - ((0 : Nat) : Int) = Builtin.Range.rangeSize lo hi 1 := by rw [rangeSize_one]; split <;> omega
    show IsRangeIter _ _ (lo + ((0 : Nat) : Int) * 1) ((((hi - lo).toNat : Nat) : Int) - ((0 : Nat) : Int)) 1
    rw [e1, e2]
    exact Heap.get?_push_size _ rfl
  · have e : b = (s.heap.push { cls := .type "range", data := .fields #[.int lo t, .int hi u, .int 1 v] }).objs.size := by simpa using hb
    subst e
    exact I1.fpOk (Nat.le_refl _) (I1.hok.fresh (Nat.le_refl _))
noncomputable def iRng1 (ta : TA) : TI := fun σ H R => ta σ H fun vs H1 => ∃ j : Int, vs = [.int j] ∧ -(2 ^ 62) ≤ j ∧ j < 2 ^ 62 ∧ R (Itr 0 j.toNat) H1
noncomputable def iRng2 (ta : TA) : TI := fun σ H R => ta σ H fun vs H1 => ∃ i j : Int, vs = [.int i, .int j] ∧ (-(2 ^ 62) ≤ i ∧ i < 2 ^ 62 ∧ -(2 ^ 62) ≤ j ∧ j < 2 ^ 62) ∧ R (Itr i (j - i).toNat) H1
theorem pi_range1 {a : Expr} {ta : TA} {p pos : Pos} (hg : Gl X "range") (hm : X.mg "range" = none) (ha : PA X [a] ta) (hs : starEach [a] X.env = [(false, eval a X.env)] := by rfl) : PI X tg (.Call (.Name "range" p) [a] [] pos) (iRng1 ta) := by
  intro pins s σ H R I h
  refine Call_ (ld_blt I hg hm boot_range (PyProof.Rows.callWith_type1 (thn (ha pos pins s σ H _ I h) fun us s1 ⟨vs, H1, I1, r1, q1⟩ => ?_) hs rfl))
  obtain ⟨j, e, q1, q2, q⟩ := q1
  subst e
  cases r1 with
  | cons r rr =>
    cases rr
    obtain ⟨t, rfl⟩ := r
    exact call_range_1 (range_it I1 (by omega) (by omega) q1 q2 (by simpa using q))
theorem pi_range2 {a b : Expr} {ta : TA} {p pos : Pos} (hg : Gl X "range") (hm : X.mg "range" = none) (ha : PA X [a, b] ta) (hs : starEach [a, b] X.env = [(false, eval a X.env), (false, eval b X.env)] := by rfl) (hs2 : starEach [b] X.env = [(false, eval b X.env)] := by rfl) :
    PI X tg (.Call (.Name "range" p) [a, b] [] pos) (iRng2 ta) := by
  intro pins s σ H R I h
  refine Call_ (ld_blt I hg hm boot_range (PyProof.Rows.callWith_type1 (thn (ha pos pins s σ H _ I h) fun us s1 ⟨vs, H1, I1, r1, q1⟩ => ?_) (by rw [hs, hs2]) (by rw [hs2]; rfl)))
  obtain ⟨i, j, e, ⟨q1, q2, q3, q4⟩, q⟩ := q1
  subst e
  cases r1 with
  | cons r rr =>
    cases rr with
    | cons r' rr =>
      cases rr
      obtain ⟨t, rfl⟩ := r
      obtain ⟨t', rfl⟩ := r'
      exact call_range_2 (range_it I1 q1 q2 q3 q4 q)
noncomputable def tFor (wi : TI) (g : TG) (tb : TS) : TS := fun D σ H => wi σ H fun J H1 => ∃ W : Nat → Nat → St → Hp → Prop, (∃ m, W 0 m σ H1) ∧ ∀ i m σ H, W i m σ H →
  (J.stop i H ∧ D.nx σ H) ∨ (J.go i H ∧ ∃ N : St → Hp → Prop, (∀ σ' H', N σ' H' → ∃ m', m' < m ∧ W (i + 1) m' σ' H') ∧ ∀ x H', J.yld i H x H' → g x σ H' fun σ2 H2 => tb { D with nx := N, ct := N, bk := D.nx } σ2 H2)
noncomputable def pinsAt (fp : List Addr) (h : Heap) : List (Addr × Obj) := fp.filterMap fun b => (h.get? b).map fun o => (b, o)
theorem mem_pinsAt {fp : List Addr} {h : Heap} {b : Addr} {o : Obj} (hb : b ∈ fp) (e : h.get? b = some o) : (b, o) ∈ pinsAt fp h := List.mem_filterMap.mpr ⟨b, hb, by rw [e]; rfl⟩
theorem of_pinsAt {fp : List Addr} {h : Heap} {p : Addr × Obj} (hp : p ∈ pinsAt fp h) : p.1 ∈ fp ∧ h.get? p.1 = some p.2 := by
  obtain ⟨b, hb, e⟩ := List.mem_filterMap.mp hp
  cases q : h.get? b with
  | none => rw [q] at e; cases e
  | some o =>
    rw [q] at e
    have e' : (b, o) = p := Option.some.inj e
    subst e'
    exact ⟨hb, q⟩
theorem Inv.pinned {pins : List (Addr × Obj)} {σ : St} {H : Hp} {s : Shared} {fp : List Addr} (I : Inv X pins σ H s) (hf : ∀ b ∈ fp, FpOk X pins H b) (ho : ∀ b ∈ fp, ∃ o, s.heap.get? b = some o ∧ ∀ v, o.data ≠ .cell v) : Inv X (pins ++ pinsAt fp s.heap) σ H s :=
  I.pins_of fun p hp => (List.mem_append.mp hp).elim (fun z => I.pin p (List.mem_append_right _ z)) fun z => by
    obtain ⟨hb, e⟩ := of_pinsAt z
    obtain ⟨f0, f1, f2, _⟩ := hf p.1 hb
    obtain ⟨o, e', d⟩ := ho p.1 hb
    rw [e] at e'; cases e'
    exact ⟨e, f0, f1, f2, d⟩
theorem Inv.unpinned {pins pl : List (Addr × Obj)} {σ : St} {H : Hp} {s : Shared} (I : Inv X (pins ++ pl) σ H s) : Inv X pins σ H s := I.pins_of fun p hp => I.pin p (List.mem_append_right _ (List.mem_append_left _ hp))
theorem ps_for {iter : Expr} {body : List Stmt} {wi : TI} {g : TG} {tb : TS} {pos : Pos} (hp : PassesOwn (model X.prog X.w) X.A X.env X.xe) (hc : X.calm = true) (hi : PI X tg iter wi) (hg : PG X tg g) (hb : PSs X body tb)
    (hs : ∀ x, foldedSetIterable iter X.env x = pure x := by intro _; rfl) : PS X (.For tg iter body [] pos) (tFor wi g tb) := by
  intro pins s σ H D I h
  refine wpAny_For (thn (hi pins s σ H _ I h) fun v s1 h1 => thn h1 fun itv s2 h2 => ?_) hs
  obtain ⟨it, fp, tn, J, H2, e, I2, T, st2, f2, W, ⟨m0, w0⟩, turn⟩ := h2
  subst e
  have stat : ∀ {H' : Hp}, (∀ b ∈ fp, H' b = none) → ∀ b ∈ fp, FpOk X pins H' b := fun hn b hb => ⟨hn b hb, (f2 b hb).2⟩
  refine codeAny_forLoop_any (fun n s' => ∃ i σ' H', Inv X pins σ' H' s' ∧ tn i s'.heap ∧ (∀ b ∈ fp, H' b = none) ∧ W i n σ' H') ?_ m0 ⟨0, σ, H2, I2, st2, fun b hb => (f2 b hb).1, w0⟩
  rintro n s3 ⟨i, σ3, H3, I3, st3, fr3, w3⟩
  rcases turn i n σ3 H3 w3 with ⟨stop, qn⟩ | ⟨go, N, hN, step⟩
  · refine wpAny_passesOwn hp (thn (T.done X rfl rfl rfl hc i pins s3 σ3 H3 X.xe I3 (stat fr3) st3 stop) fun r s4 ⟨hr, I4⟩ => ?_)
    subst hr
    exact wpAny_execs_nil ⟨σ3, H3, I4, qn⟩
  · refine wpAny_passesOwn hp (thn (T.item X rfl rfl rfl hc i pins s3 σ3 H3 X.xe I3 (stat fr3) st3 go) fun r s4 ⟨u, hr, h4⟩ => ?_)
    subst hr
    refine wpAny_passesOwn hp (thn h4 fun _ s5 ⟨x, H5, I5, r5, y5, st5, fr5⟩ => ?_)
    have I5' := I5.pinned (stat fr5) (T.obj _ _ st5)
    refine wpAny_passesOwn hp (thn (hg _ s5 σ3 H5 x u _ I5' r5 (step x H5 y5)) fun _ s6 ⟨σ6, H6, I6, q6⟩ => ?_)
    refine wpAny_passesOwn hp (thn (hb _ s6 σ6 H6 _ I6 q6) fun f s7 q7 => ?_)
    have again : ∀ {σ7 : St} {H7 : Hp}, Inv X (pins ++ pinsAt fp s5.heap) σ7 H7 s7 → N σ7 H7 → ∃ m, m < n ∧ ∃ i σ' H', Inv X pins σ' H' s7 ∧ tn i s7.heap ∧ (∀ b ∈ fp, H' b = none) ∧ W i m σ' H' := fun {σ7 H7} I7 n7 => by
      obtain ⟨m', hm, w7⟩ := hN σ7 H7 n7
      refine ⟨m', hm, i + 1, σ7, H7, I7.unpinned, T.keep _ _ _ st5 fun b hb o e => (I7.pin (b, o) (List.mem_append_right _ (List.mem_append_right _ (mem_pinsAt hb e)))).1, fun b hb => ?_, w7⟩
      obtain ⟨o, e, d⟩ := T.obj _ _ st5 b hb
      exact (I7.pin (b, o) (List.mem_append_right _ (List.mem_append_right _ (mem_pinsAt hb e)))).2.1
    cases f with
    | next => obtain ⟨σ7, H7, I7, n7⟩ := q7; exact again I7 n7
    | cont => obtain ⟨σ7, H7, I7, n7⟩ := q7; exact again I7 n7
    | brk => obtain ⟨σ7, H7, I7, q7⟩ := q7; exact ⟨σ7, H7, I7.unpinned, q7⟩
    | ret v => obtain ⟨x7, σ7, H7, I7, r7, q7⟩ := q7; exact ⟨x7, σ7, H7, I7.unpinned, r7, q7⟩
end
end L2
namespace L2
open PySem PySem.Spec PyProof.Rows
noncomputable abbrev R2 := V → V → Hp → VK → Prop
noncomputable def OpR (X : Cx) (f : Value → Value → Sem Value) (r : R2) : Prop :=
  ∀ (pins : List (Addr × Obj)) (s : Shared) (σ : St) (H : Hp) (x y : V) (v u : Value) (Q : VK), Inv X pins σ H s → RelV x v → RelV y u → r x y H Q →
    wpAny (model X.prog X.w) X.A (f v u) (EP X pins σ Q) X.xe s
noncomputable def UnR (X : Cx) (f : Value → Sem Value) (r : V → Hp → VK → Prop) : Prop :=
  ∀ (pins : List (Addr × Obj)) (s : Shared) (σ : St) (H : Hp) (x : V) (v : Value) (Q : VK), Inv X pins σ H s → RelV x v → r x H Q →
    wpAny (model X.prog X.w) X.A (f v) (EP X pins σ Q) X.xe s
noncomputable def CallR (X : Cx) (f : Value) (r : List V → Hp → VK → Prop) : Prop :=
  ∀ (pins : List (Addr × Obj)) (s : Shared) (σ : St) (H : Hp) (xs : List V) (us : List Value) (Q : VK), Inv X pins σ H s → Vals xs us → r xs H Q →
    wpAny (model X.prog X.w) X.A (call f us) (EP X pins σ Q) X.xe s
noncomputable def TruR (X : Cx) (r : V → Hp → (Bool → Hp → Prop) → Prop) : Prop :=
  ∀ (pins : List (Addr × Obj)) (s : Shared) (σ : St) (H : Hp) (x : V) (v : Value) (Q : Bool → Hp → Prop), Inv X pins σ H s → RelV x v → r x H Q →
    wpAny (model X.prog X.w) X.A (truthy v) (TP X pins σ Q) X.xe s
noncomputable def tOp (r : R2) (ta tb : TE) : TE := fun σ H Q => ta σ H fun x H1 => tb σ H1 fun y H2 => r x y H2 Q
noncomputable def tUn (r : V → Hp → VK → Prop) (ta : TE) : TE := fun σ H Q => ta σ H fun x H1 => r x H1 Q
noncomputable def rI (C : Int → Int → Prop) (g : Int → Int → V) : R2 := fun x y H Q => ∃ i j, x = .int i ∧ y = .int j ∧ C i j ∧ Q (g i j) H
noncomputable def rI0 (g : Int → Int → V) : R2 := fun x y H Q => ∃ i j, x = .int i ∧ y = .int j ∧ Q (g i j) H
noncomputable def rU (g : Int → V) : V → Hp → VK → Prop := fun x H Q => ∃ i, x = .int i ∧ Q (g i) H
section
variable {X : Cx} {a b c : Expr} {ta tb tc : TE} {pos : Pos}
theorem binT (ha : PE X a ta) (hb : PE X b tb) {pins : List (Addr × Obj)} {s : Shared} {σ : St} {H : Hp} {R : V → V → Hp → Prop} (I : Inv X pins σ H s)
    (h : ta σ H fun x H1 => tb σ H1 fun y H2 => R x y H2) {Q : Value → Shared → Prop} {f : Value → Value → Sem Value}
    (hf : ∀ v u s2 x y H2, Inv X pins σ H2 s2 → RelV x v → RelV y u → R x y H2 → wpAny (model X.prog X.w) X.A (f v u) Q X.xe s2) :
    wpAny (model X.prog X.w) X.A (eval a X.env) (fun v s₁ => wpAny (model X.prog X.w) X.A (eval b X.env) (fun u s₂ => wpAny (model X.prog X.w) X.A (f v u) Q X.xe s₂) X.xe s₁) X.xe s := by
  refine thn (ha pins s σ H _ I h) fun v s1 ⟨x, H1, I1, r1, q1⟩ => ?_
  refine thn (hb pins s1 σ H1 _ I1 q1) fun u s2 ⟨y, H2, I2, r2, q2⟩ => ?_
  exact hf v u s2 x y H2 I2 r1 r2 q2
theorem pe_op {op : Operator} {r : R2} (ho : OpR X (binaryOp op) r) (ha : PE X a ta) (hb : PE X b tb) : PE X (.BinOp a op b pos) (tOp r ta tb) := by
  intro pins s σ H Q I h
  exact wpAny_BinOp (binT ha hb I h fun v u s2 x y H2 I2 rx ry q => ho pins s2 σ H2 x y v u Q I2 rx ry q)
theorem pe_un {op : UnaryOp} {r : V → Hp → VK → Prop} (ho : UnR X (unaryOp op) r) (ha : PE X a ta) : PE X (.UnaryOp op a pos) (tUn r ta) := by
  intro pins s σ H Q I h
  exact UnaryOp_ (thn (ha pins s σ H _ I h) fun v s1 ⟨x, H1, I1, r1, q1⟩ => ho pins s1 σ H1 x v Q I1 r1 q1)
theorem opI {f : Value → Value → Sem Value} {C : Int → Int → Prop} {g : Int → Int → Int}
    (rule : ∀ (i j : Int) (t u : Tok) (s : Shared) (Q : Value → Shared → Prop) (E : Value → Shared → Prop), C i j → Q (.int (g i j) s.toks) { s with toks := s.toks + 1 } → wpAny (model X.prog X.w) X.A (f (.int i t) (.int j u)) Q E s) :
    OpR X f (rI C fun i j => .int (g i j)) := by
  intro pins s σ H x y v u Q I rx ry h
  obtain ⟨i, j, rfl, rfl, hc, q⟩ := h
  obtain ⟨t, rfl⟩ := rx
  obtain ⟨t', rfl⟩ := ry
  exact rule i j t t' s _ _ hc ⟨.int (g i j), H, I.tok _, ⟨_, rfl⟩, q⟩
theorem opI0 {f : Value → Value → Sem Value} {g : Int → Int → Int}
    (rule : ∀ (i j : Int) (t u : Tok) (s : Shared) (Q : Value → Shared → Prop) (E : Value → Shared → Prop), Q (.int (g i j) s.toks) { s with toks := s.toks + 1 } → wpAny (model X.prog X.w) X.A (f (.int i t) (.int j u)) Q E s) :
    OpR X f (rI0 fun i j => .int (g i j)) := by
  intro pins s σ H x y v u Q I rx ry h
  obtain ⟨i, j, rfl, rfl, q⟩ := h
  obtain ⟨t, rfl⟩ := rx
  obtain ⟨t', rfl⟩ := ry
  exact rule i j t t' s _ _ ⟨.int (g i j), H, I.tok _, ⟨_, rfl⟩, q⟩
theorem opB0 {f : Value → Value → Sem Value} {g : Int → Int → Bool}
    (rule : ∀ (i j : Int) (t u : Tok) (s : Shared) (Q : Value → Shared → Prop) (E : Value → Shared → Prop), Q (.bool (g i j)) s → wpAny (model X.prog X.w) X.A (f (.int i t) (.int j u)) Q E s) :
    OpR X f (rI0 fun i j => .bl (g i j)) := by
  intro pins s σ H x y v u Q I rx ry h
  obtain ⟨i, j, rfl, rfl, q⟩ := h
  obtain ⟨t, rfl⟩ := rx
  obtain ⟨t', rfl⟩ := ry
  exact rule i j t t' s _ _ ⟨.bl (g i j), H, I, rfl, q⟩
noncomputable def CDiv (i j : Int) : Prop := 0 < j ∧ j < 1073741824
noncomputable def CPow (i j : Int) : Prop := 0 ≤ j ∧ j ≤ 1000000 ∧ i.natAbs < 2 ^ 64
noncomputable def CMul (i j : Int) : Prop := (-(2 ^ 64) < i ∧ i < 2 ^ 64) ∨ (-(2 ^ 64) < j ∧ j < 2 ^ 64)
theorem CMul.ok {i j : Int} (h : CMul i j) : IntMulOk i j := by
  rcases h with ⟨h1, h2⟩ | ⟨h1, h2⟩
  · exact .of_left (intBits_le_64 h1 h2)
  · exact .of_right (intBits_le_64 h1 h2)
theorem op_add : OpR X (binaryOp .Add) (rI0 fun i j => .int (i + j)) := opI0 fun _ _ _ _ _ _ _ q => add_int q
theorem op_sub : OpR X (binaryOp .Sub) (rI0 fun i j => .int (i - j)) := opI0 fun _ _ _ _ _ _ _ q => sub_int q
theorem op_fdiv : OpR X (binaryOp .FloorDiv) (rI CDiv fun i j => .int (i / j)) := opI fun i j _ _ _ _ _ hc q => by
  have h1 : (0 : Int) < j := hc.1
  have h2 : j < 1073741824 := hc.2
  exact floordiv_int (by omega) (by rw [Int.fdiv_eq_ediv_of_nonneg i (by omega)]; exact q) (.inl (PyProof.noPylong_small (by omega)))
theorem op_mod : OpR X (binaryOp .Mod) (rI (fun _ j => 0 < j) fun i j => .int (i % j)) := opI fun i j _ _ _ _ _ hc q => by
  have h1 : (0 : Int) < j := hc
  exact mod_int' (by omega) (by rw [Int.fmod_eq_emod_of_nonneg i (by omega)]; exact q)
theorem op_pow : OpR X (binaryOp .Pow) (rI CPow fun i j => .int (i ^ j.toNat)) := opI fun _ _ _ _ _ _ _ hc q => pow_int_small hc.1 hc.2.1 hc.2.2 q
theorem unI {f : Value → Sem Value} {g : Int → Int}
    (rule : ∀ (i : Int) (t : Tok) (s : Shared) (Q : Value → Shared → Prop) (E : Value → Shared → Prop), Q (.int (g i) s.toks) { s with toks := s.toks + 1 } → wpAny (model X.prog X.w) X.A (f (.int i t)) Q E s) :
    UnR X f (rU fun i => .int (g i)) := by
  intro pins s σ H x v Q I rx h
  obtain ⟨i, rfl, q⟩ := h
  obtain ⟨t, rfl⟩ := rx
  exact rule i t s _ _ ⟨.int (g i), H, I.tok _, ⟨_, rfl⟩, q⟩
theorem un_neg : UnR X (unaryOp .USub) (rU fun i => .int (-i)) := unI fun _ _ _ _ _ q => neg_int q
end
noncomputable def scal : V → V → Bool
  | .non, .non => true | .non, .int _ => true | .int _, .non => true | .non, .bl _ => true | .bl _, .non => true | .non, .str _ => true | .str _, .non => true
  | .int _, .int _ => true | .bl _, .bl _ => true | .str _, .str _ => true | .byt _, .byt _ => true
  | .int _, .str _ => true | .str _, .int _ => true | .bl _, .str _ => true | .str _, .bl _ => true
  | _, _ => false
noncomputable def rEq : R2 := fun x y H Q => scal x y = true ∧ Q (.bl (decide (x = y))) H
noncomputable def rNe : R2 := fun x y H Q => scal x y = true ∧ Q (.bl (!decide (x = y))) H
theorem dec_int {i j : Int} : decide (V.int i = V.int j) = (i == j) := by
  rw [Bool.eq_iff_iff]
  simp
theorem dec_bl {i j : Bool} : decide (V.bl i = V.bl j) = (i == j) := by
  rw [Bool.eq_iff_iff]
  simp
theorem dec_str {i j : Str} : decide (V.str i = V.str j) = (i == j) := by
  rw [Bool.eq_iff_iff]
  simp
theorem dec_byt {i j : Array UInt8} : decide (V.byt i = V.byt j) = (i.toList == j.toList) := by
  rw [Bool.eq_iff_iff]
  cases i
  cases j
  simp
section
variable {X : Cx} {a b c : Expr} {ta tb tc : TE} {pos : Pos}
theorem fin_bl {pins : List (Addr × Obj)} {σ : St} {H : Hp} {s : Shared} {Q : VK} {k k' : Bool} (I : Inv X pins σ H s) (q : Q (.bl k) H) (e : k = k') : EP X pins σ Q (.bool k') s := by
  subst e
  exact ⟨.bl k, H, I, rfl, q⟩
theorem op_eq : OpR X (compareOp .Eq) rEq := by
  intro pins s σ H x y v u Q I rx ry h
  obtain ⟨hs, q⟩ := h
  cases x with
  | non =>
    cases rx
    cases y with
    | non => cases ry; exact PySem.EqNone.eq_none_none (fin_bl I q (by simp))
    | bl j => cases ry; exact PySem.EqNone.eq_none_bool (fin_bl I q (by simp))
    | int j => obtain ⟨t', rfl⟩ := ry; exact PySem.EqNone.eq_none_int (fin_bl I q (by simp))
    | str j => obtain ⟨t', rfl⟩ := ry; exact PySem.EqNone.eq_none_str (fin_bl I q (by simp))
    | _ => exact absurd (show false = true from hs) Bool.false_ne_true
  | bl i =>
    cases rx
    cases y with
    | non => cases ry; exact PySem.EqNone.eq_bool_none (fin_bl I q (by simp))
    | bl j => cases ry; exact eq_bool (fin_bl I q dec_bl)
    | str j => obtain ⟨t', rfl⟩ := ry; exact PySem.EqMixed.eq_bool_str (fin_bl I q (by simp))
    | _ => exact absurd (show false = true from hs) Bool.false_ne_true
  | int i =>
    obtain ⟨t, rfl⟩ := rx
    cases y with
    | non => cases ry; exact PySem.EqNone.eq_int_none (fin_bl I q (by simp))
    | int j => obtain ⟨t', rfl⟩ := ry; exact eq_int (fin_bl I q dec_int)
    | str j => obtain ⟨t', rfl⟩ := ry; exact PySem.EqMixed.eq_int_str (fin_bl I q (by simp))
    | _ => exact absurd (show false = true from hs) Bool.false_ne_true
  | str i =>
    obtain ⟨t, rfl⟩ := rx
    cases y with
    | non => cases ry; exact PySem.EqNone.eq_str_none (fin_bl I q (by simp))
    | bl j => cases ry; exact PySem.EqMixed.eq_str_bool (fin_bl I q (by simp))
    | int j => obtain ⟨t', rfl⟩ := ry; exact PySem.EqMixed.eq_str_int (fin_bl I q (by simp))
    | str j => obtain ⟨t', rfl⟩ := ry; exact eq_str (fin_bl I q dec_str)
    | _ => exact absurd (show false = true from hs) Bool.false_ne_true
  | byt i =>
    obtain ⟨t, rfl⟩ := rx
    cases y with
    | byt j => obtain ⟨t', rfl⟩ := ry; exact PySem.W.eq_bytes (fin_bl I q dec_byt)
    | _ => exact absurd (show false = true from hs) Bool.false_ne_true
  | _ => cases y <;> exact absurd (show false = true from hs) Bool.false_ne_true
theorem op_ne : OpR X (compareOp .NotEq) rNe := by
  intro pins s σ H x y v u Q I rx ry h
  obtain ⟨hs, q⟩ := h
  cases x with
  | non =>
    cases rx
    cases y with
    | non => cases ry; exact PySem.EqNone.ne_none_none (fin_bl I q (by simp))
    | bl j => cases ry; exact PySem.EqNone.ne_none_bool (fin_bl I q (by simp))
    | int j => obtain ⟨t', rfl⟩ := ry; exact PySem.EqNone.ne_none_int (fin_bl I q (by simp))
    | str j => obtain ⟨t', rfl⟩ := ry; exact PySem.EqNone.ne_none_str (fin_bl I q (by simp))
    | _ => exact absurd (show false = true from hs) Bool.false_ne_true
  | bl i =>
    cases rx
    cases y with
    | non => cases ry; exact PySem.EqNone.ne_bool_none (fin_bl I q (by simp))
    | bl j => cases ry; exact ne_bool (fin_bl I q (congrArg not dec_bl))
    | str j => obtain ⟨t', rfl⟩ := ry; exact PySem.EqMixed.ne_bool_str (fin_bl I q (by simp))
    | _ => exact absurd (show false = true from hs) Bool.false_ne_true
  | int i =>
    obtain ⟨t, rfl⟩ := rx
    cases y with
    | non => cases ry; exact PySem.EqNone.ne_int_none (fin_bl I q (by simp))
    | int j => obtain ⟨t', rfl⟩ := ry; exact ne_int (fin_bl I q (congrArg not dec_int))
    | str j => obtain ⟨t', rfl⟩ := ry; exact PySem.EqMixed.ne_int_str (fin_bl I q (by simp))
    | _ => exact absurd (show false = true from hs) Bool.false_ne_true
  | str i =>
    obtain ⟨t, rfl⟩ := rx
    cases y with
    | non => cases ry; exact PySem.EqNone.ne_str_none (fin_bl I q (by simp))
    | bl j => cases ry; exact PySem.EqMixed.ne_str_bool (fin_bl I q (by simp))
    | int j => obtain ⟨t', rfl⟩ := ry; exact PySem.EqMixed.ne_str_int (fin_bl I q (by simp))
    | str j => obtain ⟨t', rfl⟩ := ry; exact ne_str (fin_bl I q (congrArg not dec_str))
    | _ => exact absurd (show false = true from hs) Bool.false_ne_true
  | byt i =>
    obtain ⟨t, rfl⟩ := rx
    cases y with
    | byt j => obtain ⟨t', rfl⟩ := ry; exact PySem.W.ne_bytes (fin_bl I q (congrArg not dec_byt))
    | _ => exact absurd (show false = true from hs) Bool.false_ne_true
  | _ => cases y <;> exact absurd (show false = true from hs) Bool.false_ne_true
theorem op_lt : OpR X (compareOp .Lt) (rI0 fun i j => .bl (decide (i < j))) := opB0 fun _ _ _ _ _ _ _ q => lt_int q
theorem op_le : OpR X (compareOp .LtE) (rI0 fun i j => .bl (decide (i ≤ j))) := opB0 fun _ _ _ _ _ _ _ q => le_int q
theorem op_ge : OpR X (compareOp .GtE) (rI0 fun i j => .bl (decide (j ≤ i))) := opB0 fun _ _ _ _ _ _ _ q => ge_int q
theorem op_in_str : OpR X (compareOp .In) (fun x y H Q => ∃ i j, x = .str i ∧ y = .str j ∧ Q (.bl (!(Builtin.Str.occurrences j i 0 j.length 1).isEmpty)) H) := by
  intro pins s σ H x y v u Q I rx ry h
  obtain ⟨i, j, rfl, rfl, q⟩ := h
  obtain ⟨t, rfl⟩ := rx
  obtain ⟨t', rfl⟩ := ry
  exact in_str (fin_bl I q rfl)
theorem op_notN : OpR X (compareOp .IsNot) (fun x y H Q => y = .non ∧ Q (.bl (!decide (x = .non))) H) := by
  intro pins s σ H x y v u Q I rx ry h
  obtain ⟨rfl, q⟩ := h
  cases ry
  refine isnot_none_gen (fin_bl I q ?_)
  cases x <;> first
    | (cases rx; rfl)
    | (obtain ⟨t, rfl⟩ := rx; rfl)
theorem op_notin_str : OpR X (compareOp .NotIn) (fun x y H Q => ∃ i j, x = .str i ∧ y = .str j ∧ Q (.bl (!(!(Builtin.Str.occurrences j i 0 j.length 1).isEmpty))) H) := by
  intro pins s σ H x y v u Q I rx ry h
  obtain ⟨i, j, rfl, rfl, q⟩ := h
  obtain ⟨t, rfl⟩ := rx
  obtain ⟨t', rfl⟩ := ry
  exact notIn_str (fin_bl I q rfl)
theorem OpR.or {f : Value → Value → Sem Value} {r r' : R2} (h : OpR X f r) (h' : OpR X f r') : OpR X f (fun x y H Q => r x y H Q ∨ r' x y H Q) := by
  intro pins s σ H x y v u Q I rx ry q
  rcases q with q | q
  · exact h pins s σ H x y v u Q I rx ry q
  · exact h' pins s σ H x y v u Q I rx ry q
theorem nomark (b : Expr) {op : CmpOp} (h : op ≠ .In := by decide) (h2 : op ≠ .NotIn := by decide) : behindInMarks op b = false := by
  have e1 : (op == CmpOp.In) = false := by cases op <;> first | rfl | exact absurd rfl h
  have e2 : (op == CmpOp.NotIn) = false := by cases op <;> first | rfl | exact absurd rfl h2
  cases b <;> simp [behindInMarks, e1, e2]
theorem pe_cmpR {op : CmpOp} {r : R2} (ho : OpR X (compareOp op) r) (ha : PE X a ta) (hb : PE X b tb) (hm : behindInMarks op b = false) : PE X (.Compare a [op] [b] pos) (tOp r ta tb) := by
  intro pins s σ H Q I h
  exact wpAny_Compare1 (binT ha hb I h fun v u s2 x y H2 I2 rx ry q => ho pins s2 σ H2 x y v u Q I2 rx ry q) hm
noncomputable def tTest (t : TE) : TT := fun σ H Q => t σ H fun x H' => ∃ k, x = .bl k ∧ Q k H'
theorem pt_cmpR {op : CmpOp} {r : R2} (ho : OpR X (compareOp op) r) (ha : PE X a ta) (hb : PE X b tb) (hm : behindInMarks op b = false) : PT X (.Compare a [op] [b] pos) (tTest (tOp r ta tb)) := by
  intro pins s σ H Q I h
  refine wpAny_isTrue_Compare1 (thn (ha pins s σ H _ I h) fun v s1 ⟨x, H1, I1, r1, q1⟩ => thn (hb pins s1 σ H1 _ I1 q1) fun u s2 ⟨y, H2, I2, r2, q2⟩ =>
    thn (ho pins s2 σ H2 x y v u _ I2 r1 r2 q2) fun c s3 ⟨z, H3, I3, r3, k, e, q3⟩ => ?_) hm
  subst e
  cases r3
  exact wpAny_truthy_bool ⟨H3, I3, q3⟩
noncomputable def tChain (r r' : R2) (ta tb tc : TE) : TE := fun σ H Q => ta σ H fun x H1 => tb σ H1 fun y H2 => r x y H2 fun z H3 => ∃ k, z = .bl k ∧
  (if k = true then tc σ H3 fun w' H4 => r' y w' H4 Q else Q (.bl false) H3)
theorem pe_chain {op op' : CmpOp} {r r' : R2} (ho : OpR X (compareOp op) r) (ho' : OpR X (compareOp op') r') (ha : PE X a ta) (hb : PE X b tb) (hc : PE X c tc)
    (hm : lastMarks [op, op'] [b, c] = false := by with_unfolding_all rfl) : PE X (.Compare a [op, op'] [b, c] pos) (tChain r r' ta tb tc) := by
  intro pins s σ H Q I h
  refine Compare_chain (thn (ha pins s σ H _ I h) fun v s1 ⟨x, H1, I1, r1, q1⟩ => chain_link (thn (hb pins s1 σ H1 _ I1 q1) fun u s2 ⟨y, H2, I2, r2, q2⟩ =>
    thn (ho pins s2 σ H2 x y v u _ I2 r1 r2 q2) fun d s3 ⟨z, H3, I3, r3, k, e, q3⟩ => ?_)) hm
  subst e
  cases r3
  refine wpAny_truthy_bool ?_
  cases k with
  | false => exact ite_ff ⟨.bl false, H3, I3, rfl, q3⟩
  | true => exact ite_tt (chain_last (thn (hc pins s3 σ H3 _ I3 q3) fun w' s4 ⟨z', H4, I4, r4, q4⟩ => ho' pins s4 σ H4 y z' u w' Q I4 r2 r4 q4))
theorem pt_chain {op op' : CmpOp} {r r' : R2} (ho : OpR X (compareOp op) r) (ho' : OpR X (compareOp op') r') (ha : PE X a ta) (hb : PE X b tb) (hc : PE X c tc)
    (hm : lastMarks [op, op'] [b, c] = false := by with_unfolding_all rfl) : PT X (.Compare a [op, op'] [b, c] pos) (tTest (tChain r r' ta tb tc)) := by
  intro pins s σ H Q I h
  refine isTrue_chain (thn (ha pins s σ H _ I h) fun v s1 ⟨x, H1, I1, r1, q1⟩ => test_link (thn (hb pins s1 σ H1 _ I1 q1) fun u s2 ⟨y, H2, I2, r2, q2⟩ =>
    thn (ho pins s2 σ H2 x y v u _ I2 r1 r2 q2) fun d s3 ⟨z, H3, I3, r3, k, e, q3⟩ => ?_)) hm
  subst e
  cases r3
  refine wpAny_truthy_bool ?_
  cases k with
  | false =>
    obtain ⟨k', e', q'⟩ := q3
    cases e'
    exact ite_ff ⟨H3, I3, q'⟩
  | true =>
    refine ite_tt (test_last (thn (hc pins s3 σ H3 _ I3 q3) fun w' s4 ⟨z', H4, I4, r4, q4⟩ => thn (ho' pins s4 σ H4 y z' u w' _ I4 r2 r4 q4) fun d' s5 ⟨z2, H5, I5, r5, k2, e2, q5⟩ => ?_))
    subst e2
    cases r5
    exact wpAny_truthy_bool ⟨H5, I5, q5⟩
noncomputable def TruV (K : PySem.W.Frag) (x : V) (H : Hp) (k : Bool) : Prop :=
  match x with
  | .non => k = false
  | .bl b => k = b
  | .int i => k = (i != 0)
  | .str y => y.length ≤ sizeLine ∧ k = ((y.length : Int) != 0)
  | .byt y => y.size ≤ sizeLine ∧ k = ((y.size : Int) != 0)
  | .ref p => (∃ xs, SqL K H p xs ∧ k = !xs.isEmpty) ∨ (∃ xs, SqT K H p xs ∧ k = !xs.isEmpty) ∨ ∃ kvs, H p = some (.dK kvs) ∧ k = !kvs.isEmpty
  | _ => False
theorem isEmpty_kv {κ : Type} {kvs : List (κ × V)} {vs : List (κ × Value)} (r : KV kvs vs) : (!vs.isEmpty) = !kvs.isEmpty := by
  cases r <;> rfl
theorem isEmpty_of {xs : List V} {its : List Value} (r : Vals xs its) : (!its.toArray.isEmpty) = !xs.isEmpty := by
  cases r <;> simp
theorem line63 : (sizeLine : Nat) < 2 ^ 63 := by rw [sizeLine_eq]; decide
theorem tru_ok : TruR X (fun x H Q => ∃ k, TruV X.K x H k ∧ Q k H) := by
  intro pins s σ H x v Q I rx h
  obtain ⟨k, e, q⟩ := h
  have hl := line63
  have hs : sizeLine = 16777216 := sizeLine_eq
  cases x with
  | non =>
    cases rx
    have e' : k = false := e
    subst e'
    exact truthy_none ⟨H, I, q⟩
  | bl b =>
    cases rx
    have e' : k = b := e
    subst e'
    exact wpAny_truthy_bool ⟨H, I, q⟩
  | int i =>
    obtain ⟨t, rfl⟩ := rx
    have e' : k = (i != 0) := e
    subst e'
    exact PySem.P.truthy_int ⟨H, I, q⟩
  | str y =>
    obtain ⟨t, rfl⟩ := rx
    obtain ⟨hy, e'⟩ : y.length ≤ sizeLine ∧ k = ((y.length : Int) != 0) := e
    subst e'
    exact PySem.P.truthy_str (by omega) ⟨H, I.tok _, q⟩
  | byt y =>
    obtain ⟨t, rfl⟩ := rx
    obtain ⟨hy, e'⟩ : y.size ≤ sizeLine ∧ k = ((y.size : Int) != 0) := e
    subst e'
    exact PySem.W.truthy_bytes (by omega) ⟨H, I.tok _, q⟩
  | ref p =>
    cases rx
    have e' : (∃ xs, SqL X.K H p xs ∧ k = !xs.isEmpty) ∨ (∃ xs, SqT X.K H p xs ∧ k = !xs.isEmpty) ∨ ∃ kvs, H p = some (.dK kvs) ∧ k = !kvs.isEmpty := e
    rcases e' with ⟨xs, hx, e'⟩ | ⟨xs, hx, e'⟩ | ⟨kvs, hx, e'⟩
    · subst e'
      obtain ⟨its, r, pl, hz⟩ := I.list hx
      have hlen := r.length
      exact wpAny_truthy_list pl.isList (by simp only [List.size_toArray]; omega) ⟨H, I.tok _, by rw [isEmpty_of r]; exact q⟩
    · subst e'
      obtain ⟨its, r, pl, hz⟩ := I.tuple hx
      have hlen := r.length
      exact truthy_tuple pl (by simp only [List.size_toArray]; omega) ⟨H, I.tok _, by rw [isEmpty_of r]; exact q⟩
    · subst e'
      obtain ⟨hz, hS, vs, r, m⟩ : kvs.length ≤ sizeLine ∧ (p == sysModules) = false ∧ ∃ vs, KV kvs vs ∧ s.heap.DictOf (mixKind X.prog X.w) p vs := I.hok p _ hx
      have hlen : kvs.length = vs.length := Paired.length r
      exact wpAny_truthy_dict hS m (by omega) ⟨H, I.tok _, by rw [isEmpty_kv r]; exact q⟩
  | _ => exact (show False from e).elim
theorem op_add_str : OpR X (binaryOp .Add) (fun x y H Q => ∃ i j, x = .str i ∧ y = .str j ∧ i.length + j.length ≤ sizeLine ∧ Q (.str (i ++ j)) H) := by
  intro pins s σ H x y v u Q I rx ry h
  obtain ⟨i, j, rfl, rfl, hz, q⟩ := h
  obtain ⟨t, rfl⟩ := rx
  obtain ⟨t', rfl⟩ := ry
  exact add_str (fun t' tk => ⟨.str (i ++ j), H, I.tok _, ⟨_, rfl⟩, q⟩) hz
theorem vals1 {x : V} {us : List Value} (r : Vals [x] us) : ∃ u, us = [u] ∧ RelV x u := by
  cases r with
  | cons r1 r2 => cases r2; exact ⟨_, rfl, r1⟩
theorem vals2 {x y : V} {us : List Value} (r : Vals [x, y] us) : ∃ u w', us = [u, w'] ∧ RelV x u ∧ RelV y w' := by
  cases r with
  | cons r1 r2 =>
    cases r2 with
    | cons r3 r4 => cases r4; exact ⟨_, _, rfl, r1, r3⟩
theorem call_min2 (hc : X.calm = true) : CallR X (.builtin "min") (fun xs H Q => ∃ i j, xs = [.int i, .int j] ∧ Q (.int (if j < i then j else i)) H) := by
  intro pins s σ H xs us Q I r h
  obtain ⟨i, j, rfl, q⟩ := h
  obtain ⟨u, w', rfl, ⟨t, rfl⟩, ⟨t', rfl⟩⟩ := vals2 r
  refine min_two_ints (I.ok.hd hc) fun h' tk k => ⟨_, H, I.kept k, ?_, q⟩
  by_cases hj : j < i
  · rw [if_pos hj, if_pos hj]; exact ⟨_, rfl⟩
  · rw [if_neg hj, if_neg hj]; exact ⟨_, rfl⟩
noncomputable def LenV (K : PySem.W.Frag) (x : V) (H : Hp) (n : Nat) : Prop :=
  match x with
  | .str y => y.length ≤ sizeLine ∧ n = y.length
  | .byt y => y.size ≤ sizeLine ∧ n = y.size
  | .ref p => (∃ xs, SqL K H p xs ∧ n = xs.length) ∨ ∃ xs, SqT K H p xs ∧ n = xs.length
  | _ => False
theorem call_len : CallR X (.builtin "len") (fun xs H Q => ∃ x n, xs = [x] ∧ LenV X.K x H n ∧ Q (.int n) H) := by
  intro pins s σ H xs us Q I r h
  obtain ⟨x, n, rfl, e, q⟩ := h
  obtain ⟨u, rfl, rx⟩ := vals1 r
  have hl := line63
  have hs : sizeLine = 16777216 := sizeLine_eq
  cases x with
  | str y =>
    obtain ⟨t, rfl⟩ := rx
    obtain ⟨hy, e'⟩ : y.length ≤ sizeLine ∧ n = y.length := e
    subst e'
    exact len_str (by omega) ⟨.int _, H, I.tok _, ⟨_, rfl⟩, q⟩
  | byt y =>
    obtain ⟨t, rfl⟩ := rx
    obtain ⟨hy, e'⟩ : y.size ≤ sizeLine ∧ n = y.size := e
    subst e'
    exact PySem.W.len_bytes (by omega) ⟨.int _, H, I.tok _, ⟨_, rfl⟩, q⟩
  | ref p =>
    cases rx
    have e' : (∃ xs, SqL X.K H p xs ∧ n = xs.length) ∨ ∃ xs, SqT X.K H p xs ∧ n = xs.length := e
    rcases e' with ⟨xs, hx, e'⟩ | ⟨xs, hx, e'⟩
    · subst e'
      obtain ⟨its, r', pl, hz⟩ := I.list hx
      have hlen := r'.length
      exact Calls.call_len_list pl.isList (by simp only [List.size_toArray]; omega) ⟨.int xs.length, H, I.tok _, ⟨_, by simp only [List.size_toArray]; rw [hlen]⟩, q⟩
    · subst e'
      obtain ⟨its, r', pl, hz⟩ := I.tuple hx
      have hlen := r'.length
      exact len_tuple pl (by simp only [List.size_toArray]; omega) ⟨.int xs.length, H, I.tok _, ⟨_, by simp only [List.size_toArray]; rw [hlen]⟩, q⟩
  | _ => exact (show False from e).elim
end
end L2
namespace L2
open PySem PySem.Spec PyProof.Rows
structure ObjM (h : Heap) (x dx C : Addr) (mA : Str → Option Value) : Prop where
  obj : h.get? x = some (PySem.W.instObj C dx)
  ns : h.Ns1 dx mA
  ne : dx ≠ x
theorem lookIn_ns {h : Heap} {dx : Addr} {mA : Str → Option Value} (n : h.Ns1 dx mA) : ∃ od, h.get? dx = some od ∧ ∀ name, PySem.W.lookIn name od = some (mA name) := by
  obtain ⟨o, es, ep, ho, hd, hk, _, hm⟩ := n
  refine ⟨o, ho, fun name => ?_⟩
  have e := hm name
  unfold nsFind findBy at e
  rw [← Array.find?_toList] at e
  unfold PySem.W.lookIn
  rw [hd]
  dsimp only
  split
  · rename_i y q
    rw [q] at e
    exact congrArg some e
  · rename_i q
    rw [q] at e
    have a : es.toList.any (·.refKey) = false := by
      rw [List.any_eq_false]
      intro y hy
      obtain ⟨z, t, hkey⟩ := hk y (Array.mem_toList_iff.mp hy)
      simp [DictEntry.refKey, hkey]
    have a' : ¬ es.toList.any (·.refKey) = true := by rw [a]; exact Bool.false_ne_true
    rw [if_neg a']
    exact congrArg some e
theorem ObjM.look {h : Heap} {x dx C : Addr} {mA : Str → Option Value} (I : ObjM h x dx C mA) : ∃ od, PySem.W.InstAt h x (PySem.W.instObj C dx) C (some od) ∧ ∀ name, PySem.W.lookIn name od = some (mA name) :=
  let ⟨od, ho, hl⟩ := lookIn_ns I.ns
  ⟨od, ⟨I.obj, rfl, rfl, ho⟩, hl⟩
section
variable {prog : Program} {w : World} {A : Around} {E : Value → Shared → Prop} {s : Shared} {K : PySem.W.Frag} {x dx C f : Addr} {mA : Str → Option Value} {name : Str} {v : Value}
end
noncomputable def putF (f : Str) (v : V) : List (Str × V) → List (Str × V)
  | [] => [(f, v)]
  | (g, x) :: r => if g = f then (g, v) :: r else (g, x) :: putF f v r
theorem lookup_putF (f g : Str) (v : V) : ∀ fs : List (Str × V), (putF f v fs).lookup g = if g = f then some v else fs.lookup g
  | [] => by
    show List.lookup g [(f, v)] = _
    by_cases h : g = f
    · have hb : (g == f) = true := beq_iff_eq.mpr h
      simp only [List.lookup, hb, if_pos h]
    · have hb : (g == f) = false := beq_eq_false_iff_ne.mpr h
      simp only [List.lookup, hb, if_neg h]
  | (k, x) :: r => by
    have ih := lookup_putF f g v r
    rw [show putF f v ((k, x) :: r) = (if k = f then (k, v) :: r else (k, x) :: putF f v r) from rfl]
    by_cases hk : k = f
    · rw [if_pos hk]
      by_cases h : g = k
      · have hb : (g == k) = true := beq_iff_eq.mpr h
        simp only [List.lookup, hb, if_pos (h.trans hk)]
      · have hb : (g == k) = false := beq_eq_false_iff_ne.mpr h
        simp only [List.lookup, hb, if_neg (fun e : g = f => h (e.trans hk.symm))]
    · rw [if_neg hk]
      by_cases h : g = k
      · have hb : (g == k) = true := beq_iff_eq.mpr h
        simp only [List.lookup, hb, if_neg (fun e : g = f => hk (h.symm.trans e))]
      · have hb : (g == k) = false := beq_eq_false_iff_ne.mpr h
        simp only [List.lookup, hb]
        exact ih
theorem RelO.some_of {v : V} {o : Option Value} (r : RelO (some v) o) : ∃ u, o = some u ∧ RelV v u := by
  cases o with
  | none => exact (show False from r).elim
  | some u => exact ⟨u, rfl, r⟩
theorem RelO.none_of {o : Option Value} (r : RelO none o) : o = none := by
  cases o with
  | none => rfl
  | some u => exact (show False from r).elim
theorem handed_of {v : V} {u : Value} (r : RelV v u) : PySem.W.handedIn u = true := by
  cases v with
  | non => cases (show u = Value.none from r); rfl
  | bl b => cases (show u = Value.bool b from r); rfl
  | int i => obtain ⟨t, e⟩ := (show ∃ t, u = Value.int i t from r); cases e; rfl
  | str x => obtain ⟨t, e⟩ := (show ∃ t, u = Value.str x t from r); cases e; rfl
  | byt b => obtain ⟨t, e⟩ := (show ∃ t, u = Value.bytes b t from r); cases e; rfl
  | flt b => obtain ⟨t, e⟩ := (show ∃ t, u = Value.float b t from r); cases e; rfl
  | ref a => cases (show u = Value.ref a from r); rfl
  | ty n => cases (show u = Value.type n from r); rfl
section
variable {P : Program} {w : World} {H H' : Hp} {h h' : Heap} {a C dx : Addr} {fs fs' : List (Str × V)}
theorem ins_get (hok : HOk P w H h) (e : H a = some (.ins C dx fs)) : ∃ mA, ObjM h a dx C mA ∧ (∀ f, RelO (fs.lookup f) (mA f)) ∧ PySem.Within mA (fs.map (·.1)) ∧ fs.length ≤ 1000 ∧ H dx = some (.own a) := by
  obtain ⟨d, z, ne, ob, mA, n, r, q⟩ := (show ObjOk P w H h a (.ins C dx fs) from hok a _ e)
  exact ⟨mA, ⟨ob, n, ne⟩, r, q, z, d⟩
end
structure Cls (K : PySem.W.Frag) (C : Addr) : Prop where
  pg : PySem.W.plainGet K C Str.empty = true
  hd : PySem.W.hasDictIn K C = true
  po : PySem.W.plainOver K C = true
  sa : PySem.W.findIn K (.ref C) "__setattr__" = some (some (.builtin "object.__setattr__"))
theorem Cls.get {K : PySem.W.Frag} {C : Addr} (c : Cls K C) (f : Str) : PySem.W.plainGet K C f = true := c.pg
noncomputable def NoAttr (K : PySem.W.Frag) (C : Addr) (f : Str) : Prop := PySem.W.findIn K (.ref C) f = some none
section
variable {X : Cx} {pins : List (Addr × Obj)} {σ : St} {H : Hp} {s : Shared} {a C dx : Addr} {fs : List (Str × V)} {f : Str} {v : V} {A : Around} {E : Value → Shared → Prop}
theorem attr_of {prog : Program} {w : World} {env : Env} {e : Expr} {f : Str} {pos : Pos} {s : Shared} {Q : Value → Shared → Prop} (hb : attributeBase e f env (eval e env) = eval e env)
    (h : wpAny (model prog w) A (eval e env) (fun o s₁ => wpAny (model prog w) A (getAttr o f true) Q E s₁) E s) : wpAny (model prog w) A (eval (.Attribute e f pos) env) Q E s :=
  Attribute_any_ h (by rw [arm_eval_Attribute, hb])
end
section
variable {X : Cx} {o e value : Expr} {f : Str} {pos pos' tpos : Pos} {ta tv : TE}
end
section
variable {X : Cx} {pins : List (Addr × Obj)} {σ : St} {H : Hp} {s : Shared} {A : Around} {E : Value → Shared → Prop} {Q : Value → Shared → Prop} {c : Value} {b : Bool}
inductive TyOf (K : PySem.W.Frag) (H : Hp) : V → Value → Prop where
  | non : TyOf K H .non (.type "NoneType")
  | bl (x : Bool) : TyOf K H (.bl x) (.type "bool")
  | int (i : Int) : TyOf K H (.int i) (.type "int")
  | str (x : Str) : TyOf K H (.str x) (.type "str")
  | flt (x : UInt64) : TyOf K H (.flt x) (.type "float")
  | lst {a : Addr} {xs : List V} (e : H a = some (.lst xs)) : TyOf K H (.ref a) (.type "list")
  | frz {a : Addr} {o : Obj} {xs : List V} (e : H a = some (.frz o (.lst xs))) : TyOf K H (.ref a) (.type "list")
  | tup {a : Addr} {xs : List V} (e : H a = some (.tup xs)) : TyOf K H (.ref a) (.type "tuple")
  | dK {a : Addr} {kvs : List (Key × V)} (e : H a = some (.dK kvs)) : TyOf K H (.ref a) (.type "dict")
  | dT {a : Addr} {kvs : List (List Key × V)} (e : H a = some (.dT kvs)) : TyOf K H (.ref a) (.type "dict")
  | ins {a C dx : Addr} {fs : List (Str × V)} (e : H a = some (.ins C dx fs)) (cl : Cls K C) (ha : PySem.W.findIn K (.ref C) "__class__" = some (some (.builtin "object.__class__")))
      (hn : PySem.W.specialIn K (.builtin "object.__class__") "__get__" = some (some (.builtin "getset_descriptor.__get__"))) (htk : PySem.W.takesIn K (.builtin "object.__class__") = some true)
      (hm : PySem.W.mroIn K C (.type "object") = some true) : TyOf K H (.ref a) (.ref C)
theorem isinst_ok {x : V} {u t : Value} (I : Inv X pins σ H s) (rx : RelV x u) (ty : TyOf X.K H x t) (e : PySem.W.kitOne X.K t c = some b) (h : ∀ tk, Q (.bool b) { s with toks := tk }) :
    wpAny (model X.prog X.w) A (call (.builtin "isinstance") [u, c]) Q E s := by
  cases ty with
  | non => cases (show u = Value.none from rx); exact PySem.W.kia_one PySem.W.kitx_none I.kIn True.intro e (fun z => nomatch z) h
  | bl y => cases (show u = Value.bool y from rx); exact PySem.W.kia_one PySem.W.kitx_bool I.kIn True.intro e (fun z => nomatch z) h
  | int i => obtain ⟨t, q⟩ := (show ∃ t, u = Value.int i t from rx); cases q; exact PySem.W.kia_one PySem.W.kitx_int I.kIn True.intro e (fun z => nomatch z) h
  | str y => obtain ⟨t, q⟩ := (show ∃ t, u = Value.str y t from rx); cases q; exact PySem.W.kia_one PySem.W.kitx_str I.kIn True.intro e (fun z => nomatch z) h
  | flt y => obtain ⟨t, q⟩ := (show ∃ t, u = Value.float y t from rx); cases q; exact PySem.W.kia_one PySem.W.kitx_float I.kIn True.intro e (fun z => nomatch z) h
  | @lst a xs ea =>
    cases (show u = Value.ref a from rx)
    obtain ⟨_, _, n, _, h1⟩ := (show ObjOk X.prog X.w H s.heap a (.lst xs) from I.hok a _ ea)
    exact PySem.W.kia_one PySem.W.kitx_list I.kIn ⟨_, h1, rfl⟩ e (fun z => nomatch z) h
  | @frz a ob xs ea =>
    cases (show u = Value.ref a from rx)
    obtain ⟨_, _, _, n, _, h1⟩ := (show ObjOk X.prog X.w H s.heap a (.frz ob (.lst xs)) from I.hok a _ ea)
    exact PySem.W.kia_one PySem.W.kitx_list I.kIn ⟨_, h1, rfl⟩ e (fun z => nomatch z) h
  | @tup a xs ea =>
    cases (show u = Value.ref a from rx)
    obtain ⟨_, _, _, p⟩ := (show ObjOk X.prog X.w H s.heap a (.tup xs) from I.hok a _ ea)
    obtain ⟨o, h1, h2, _⟩ := p
    exact PySem.W.kia_one PySem.W.kitx_tuple I.kIn ⟨o, h1, h2⟩ e (fun z => nomatch z) h
  | @dK a kvs ea =>
    cases (show u = Value.ref a from rx)
    obtain ⟨_, _, vs, _, p⟩ := (show ObjOk X.prog X.w H s.heap a (.dK kvs) from I.hok a _ ea)
    obtain ⟨o, es, ep, h1, h2, _⟩ := p
    exact PySem.W.kia_one PySem.W.kitx_dict I.kIn ⟨o, h1, h2.1⟩ e (fun z => nomatch z) h
  | @dT a kvs ea =>
    cases (show u = Value.ref a from rx)
    obtain ⟨_, _, xs, _, o, es, ep, h1, h2, _⟩ := (show ObjOk X.prog X.w H s.heap a (.dT kvs) from I.hok a _ ea)
    exact PySem.W.kia_one PySem.W.kitx_dict I.kIn ⟨o, h1, h2.1⟩ e (fun z => nomatch z) h
  | @ins a C dx fs ea cl ha hn htk hm =>
    cases (show u = Value.ref a from rx)
    obtain ⟨mA, O, _⟩ := ins_get I.hok ea
    obtain ⟨od, J, _⟩ := O.look
    exact PySem.W.kia_one (PySem.W.kitx_own (cl.get _) cl.hd ha hn htk hm) I.kIn J e (fun z => nomatch z) h
end
end L2
namespace L2
open PySem PySem.Spec PyProof.Rows
structure Room (k : Nat) (A : Around) : Prop where
  hd : A.handled = none
  dp : A.depth + 3 * k + 5 < recursionLimit
  un : A.units + 16 * k + 200 < cLine
theorem Room.mono {j k : Nat} {A : Around} (r : Room k A) (h : j ≤ k) : Room j A := ⟨r.hd, by have := r.dp; omega, by have := r.un; omega⟩
theorem Room.deeper {k : Nat} {A : Around} (r : Room (k + 1) A) (env : Env) : Room k (A.deeper env) :=
  ⟨r.hd, by have := r.dp; show A.depth + 1 + 3 * k + 5 < _; omega, by have := r.un; show A.units + 3 + 16 * k + 200 < _; omega⟩
theorem Room.in1 {k : Nat} {A : Around} (r : Room (k + 1) A) : Room k A.in1 :=
  ⟨r.hd, by have := r.dp; show A.depth + 3 * k + 5 < _; omega, by have := r.un; show A.units + 1 + 16 * k + 200 < _; omega⟩
theorem make_depth {A : Around} {C : Addr} {us : List Value} {kw : List (Str × Value)} : (A.under (.builtin "type.__call__" ⟨.ref C :: us, kw⟩)).depth = A.depth + 1 := by
  first | rfl | simp [Around.under, Code.weight, Code.isCreation, Code.isGuard, Code.isCaller, Code.frames, Code.isFrame, guardIds]
theorem make_units {A : Around} {C : Addr} {us : List Value} {kw : List (Str × Value)} : (A.under (.builtin "type.__call__" ⟨.ref C :: us, kw⟩)).units = A.units + 1 := by
  first | rfl | simp [Around.under, Code.cUnits, Code.frames, Code.isFrame]
theorem Room.make {k : Nat} {A : Around} (r : Room (k + 1) A) (C : Addr) (us : List Value) (kw : List (Str × Value)) : Room k (A.under (.builtin "type.__call__" ⟨.ref C :: us, kw⟩)) :=
  ⟨r.hd, by have := r.dp; rw [make_depth]; omega, by have := r.un; rw [make_units]; omega⟩
theorem Room.depth {k : Nat} {A : Around} (r : Room k A) : A.depth < recursionLimit := by have := r.dp; omega
theorem Room.units {k : Nat} {A : Around} (r : Room k A) : A.units + 64 < cLine := by have := r.un; omega
noncomputable def tNil : TA := fun _ H Q => Q [] H
noncomputable def tCons (ta : TE) (tr : TA) : TA := fun σ H Q => ta σ H fun x H1 => tr σ H1 fun xs H2 => Q (x :: xs) H2
section
variable {X : Cx} {e : Expr} {es : List Expr} {te : TE} {t : TA} {pos : Pos}
theorem pa_nil : PA X [] tNil := fun _ _ _ _ H Q I h => Calls.spliced_nil ⟨[], H, I, .nil, h⟩
theorem pa_cons (ha : PE X e te) (hr : PA X es t) (hs : starEach (e :: es) X.env = (false, eval e X.env) :: starEach es X.env := by rfl) : PA X (e :: es) (tCons te t) := by
  intro pos pins s σ H Q I h
  rw [hs]
  show wpAny _ _ (spliced ((false, eval e X.env) :: backTo pos (starEach es X.env))) _ _ s
  refine Calls.spliced_cons (thn (ha pins s σ H _ I h) fun u s1 ⟨x, H1, I1, r1, q1⟩ => ?_)
  exact thn (hr pos pins s1 σ H1 _ I1 q1) fun us s2 ⟨xs, H2, I2, r2, q2⟩ => ⟨x :: xs, H2, I2, .cons r1 r2, q2⟩
noncomputable def tTup (t : TA) : TE := fun σ H Q => t σ H fun xs H1 => xs.length ≤ sizeLine ∧ ∀ p, H1 p = none → Q (.ref p) (upd H1 p (.tup xs))
noncomputable def tLst (t : TA) : TE := fun σ H Q => t σ H fun xs H1 => xs.length ≤ sizeLine ∧ ∀ p, H1 p = none → Q (.ref p) (upd H1 p (.lst xs))
theorem pe_tup {x1} (h : PA X es t) : PE X (.Tuple es x1 pos) (tTup t) := by
  intro pins s σ H Q I hq
  refine wpAny_Tuple_spliced (thn (h pos pins s σ H _ I hq) fun us s1 ⟨xs, H1, I1, r, z, q⟩ => ⟨by rw [← r.length]; exact z, ?_⟩)
  have hf : H1 s1.heap.objs.size = none := I1.hok.fresh (Nat.le_refl _)
  refine ⟨.ref s1.heap.objs.size, upd H1 s1.heap.objs.size (.tup xs), I1.laid (t' := s1.toks) (fun b u e => Heap.get?_push_of_some _ e) (Nat.le_refl _) ?_, rfl, q _ hf⟩
  exact ⟨z, us, r, ⟨_, Heap.get?_push_size _ rfl, rfl, _, rfl⟩⟩
theorem pe_lst (h : PA X es t) : PE X (.List es pos) (tLst t) := by
  intro pins s σ H Q I hq
  refine wpAny_List_spliced (thn (h pos pins s σ H _ I hq) fun us s1 ⟨xs, H1, I1, r, z, q⟩ => ⟨by rw [← r.length]; exact z, ?_⟩)
  have hf : H1 s1.heap.objs.size = none := I1.hok.fresh (Nat.le_refl _)
  refine ⟨.ref s1.heap.objs.size, upd H1 s1.heap.objs.size (.lst xs), I1.laid (t' := s1.toks) (fun b u e => Heap.get?_push_of_some _ e) (Nat.le_refl _) ?_, rfl, q _ hf⟩
  exact ⟨z, us, 0, r, Heap.get?_push_size _ rfl⟩
end
noncomputable abbrev Sp := List V → Hp → VK → XK → Prop
noncomputable abbrev CXT := List Env → Hp → Shared → XK → Value → Shared → Prop
structure Env0 (P : Program) (w : World) (K : PySem.W.Frag) (mg : Str → Option Value) (base : Heap) (A : Around) (outer : List Env) (s : Shared) (H : Hp) : Prop where
  frames : A.frames = some outer
  mod : Mod K mg base
  bs : ∀ b o, base.get? b = some o → s.heap.get? b = some o ∧ H b = none
  bsz : base.objs.size ≤ s.heap.objs.size
  funs : s.heap.FunFrames base outer
  frf : ∀ b ∈ frs outer, H b = none
  hok : HOk P w H s.heap
  bare : AllBare s.gens
noncomputable def CE (outer : List Env) (P : Program) (w : World) (H : Hp) (s : Shared) (Q : VK) (u : Value) (s' : Shared) : Prop :=
  ∃ v H', s'.os = s.os ∧ AllBare s'.gens ∧ Un (frs outer) [] H H' s.heap s'.heap ∧ HOk P w H' s'.heap ∧ RelV v u ∧ Q v H'
noncomputable def CR (CX : CXT) (outer : List Env) (P : Program) (w : World) (H : Hp) (s : Shared) (Q : VK) (E : XK) (r : Result) (s' : Shared) : Prop :=
  match r with
  | .ok (.ret u) => CE outer P w H s Q u s'
  | .ok _ => False
  | .error e => CX outer H s E e s'
structure FnOk (P : Program) (w : World) (K : PySem.W.Frag) (mg : Str → Option Value) (base : Heap) (CX : CXT) (k : Nat) (f : Addr) (fd : FuncData) (ps : List Str) (sp : Sp) : Prop where
  len : ∀ vs H Q E, sp vs H Q E → vs.length = ps.length
  run : ∀ (A : Around) (outer : List Env) (s : Shared) (H : Hp) (args : Args) (us : List Value) (vs : List V) (Q : VK) (E : XK), Room k A → Env0 P w K mg base A outer s H → BindsTo s fd args (ps.zip us) → Vals vs us → sp vs H Q E →
    codeAny (model P w) A (.call (.ref f) args) (CR CX outer P w H s Q E) s
theorem FnOk.mono {P : Program} {w : World} {K : PySem.W.Frag} {mg : Str → Option Value} {base : Heap} {CX : CXT} {j k : Nat} {f : Addr} {fd : FuncData} {ps : List Str} {sp : Sp} (F : FnOk P w K mg base CX j f fd ps sp) (h : j ≤ k) :
    FnOk P w K mg base CX k f fd ps sp := ⟨F.len, fun A outer s H args us vs Q E hr => F.run A outer s H args us vs Q E (hr.mono h)⟩
theorem FnOk.imp {P : Program} {w : World} {K : PySem.W.Frag} {mg : Str → Option Value} {base : Heap} {CX : CXT} {k : Nat} {f : Addr} {fd : FuncData} {ps : List Str} {sp sp' : Sp} (F : FnOk P w K mg base CX k f fd ps sp)
    (h : ∀ vs H Q E, sp' vs H Q E → sp vs H Q E) : FnOk P w K mg base CX k f fd ps sp' :=
  ⟨fun vs H Q E q => F.len vs H Q E (h _ _ _ _ q), fun A outer s H args us vs Q E hr he hb hv hs => F.run A outer s H args us vs Q E hr he hb hv (h _ _ _ _ hs)⟩
theorem Env0.make {P : Program} {w : World} {K : PySem.W.Frag} {mg : Str → Option Value} {base : Heap} {A : Around} {outer : List Env} {s : Shared} {H : Hp} (e : Env0 P w K mg base A outer s H) (C : Addr) (us : List Value) (kw : List (Str × Value)) :
    Env0 P w K mg base (A.under (.builtin "type.__call__" ⟨.ref C :: us, kw⟩)) outer s H := ⟨by first | exact e.frames | (simpa [Around.under, Code.envs, Code.isFrame, pushEnvs] using e.frames), e.mod, e.bs, e.bsz, e.funs, e.frf, e.hok, e.bare⟩
theorem Env0.in1 {P : Program} {w : World} {K : PySem.W.Frag} {mg : Str → Option Value} {base : Heap} {A : Around} {outer : List Env} {s : Shared} {H : Hp} (e : Env0 P w K mg base A outer s H) :
    Env0 P w K mg base A.in1 outer s H := ⟨e.frames, e.mod, e.bs, e.bsz, e.funs, e.frf, e.hok, e.bare⟩
section
variable {X : Cx} {pins : List (Addr × Obj)} {σ : St} {H : Hp} {s s' : Shared}
theorem Inv.env0 (I : Inv X pins σ H s) : Env0 X.prog X.w X.K X.mg X.base X.A X.stack s H :=
  ⟨I.ok.frames, I.ok.mod, I.bs, Nat.le_trans I.ok.bsz I.sz, I.stack, I.stkFree, I.hok, I.bare⟩
theorem Inv.after {Q : VK} {u : Value} (I : Inv X pins σ H s) (h : CE X.stack X.prog X.w H s Q u s') : EP X pins σ Q u s' := by
  obtain ⟨v, H', os, bare, un, hok, r, q⟩ := h
  obtain ⟨hh, g, d, t, os'⟩ := s'
  obtain rfl : os' = s.os := os
  exact ⟨v, H', I.call (h' := hh) (g' := g) (d' := d) (t' := t) (ch := []) un hok bare (fun b z => absurd z (by simp)), r, q⟩
end
noncomputable def tCall (sp : Sp) (dvs : List V) (E : XK) (t : TA) : TE := fun σ H Q => t σ H fun vs H1 => sp (vs ++ dvs) H1 Q E
noncomputable def Binds (K : PySem.W.Frag) (fd : FuncData) (ps : List Str) (ds : List Value) : Prop :=
  ∀ (s : Shared) (us : List Value), K.In s.heap → (us ++ ds).length = ps.length → BindsTo s fd ⟨us, []⟩ (ps.zip (us ++ ds))
theorem Binds.all {K : PySem.W.Frag} {fd : FuncData} {ps : List Str} (h : ∀ us : List Value, us.length = ps.length → bindArgs fd ⟨us, []⟩ = pure (ps.zip us)) : Binds K fd ps [] := fun s us _ hl => by
  rw [List.append_nil] at hl ⊢
  exact .of_eq (h us hl)
noncomputable def Passes (CX : CXT) (X : Cx) (E : XK) : Prop := ∀ (pins : List (Addr × Obj)) (σ : St) (H : Hp) (s : Shared) (e : Value) (s' : Shared), Inv X pins σ H s → CX X.stack H s E e s' → X.xe e s'
section
variable {X : Cx} {CX : CXT} {k : Nat} {f C : Addr} {fd : FuncData} {ps : List Str} {sp : Sp} {dvs : List V} {ds : List Value} {E : XK} {x m : Str} {p pos apos : Pos} {e o : Expr} {es : List Expr} {ta : TE} {t : TA}
theorem run_fn {pins : List (Addr × Obj)} {σ : St} {H : Hp} {s : Shared} {Q : VK} {us : List Value} {vs : List V} (F : FnOk X.prog X.w X.K X.mg X.base CX k f fd ps sp) (hr : Room k X.A) (hb : Binds X.K fd ps ds) (hd : Vals dvs ds) (hx : Passes CX X E)
    (I : Inv X pins σ H s) (r : Vals vs us) (h : sp (vs ++ dvs) H Q E) : wpAny (model X.prog X.w) X.A (call (.ref f) us) (EP X pins σ Q) X.xe s := by
  have r2 : Vals (vs ++ dvs) (us ++ ds) := r.append hd
  have hl : (us ++ ds).length = ps.length := by rw [← r2.length]; exact F.len _ _ _ _ h
  refine wpAny_call (codeAny_mono (F.run X.A X.stack s H ⟨us, []⟩ (us ++ ds) (vs ++ dvs) Q E hr I.env0 (hb s us I.kIn hl) r2 h) fun r s' hq => ?_)
  cases r with
  | error e => exact hx pins σ H s e s' I hq
  | ok fl =>
    cases fl with
    | ret u => exact I.after hq
    | next => exact False.elim hq
    | brk => exact False.elim hq
    | cont => exact False.elim hq
theorem pe_call (F : FnOk X.prog X.w X.K X.mg X.base CX k f fd ps sp) (hr : Room k X.A) (hg : Gl X x) (hm : X.mg x = some (.ref f)) (hk : PySem.W.keepIn X.K (.ref f) = true) (hb : Binds X.K fd ps ds) (hd : Vals dvs ds) (hx : Passes CX X E)
    (ha : PA X (e :: es) t) (hdb : (x == ("__debug__" : Str)) = false := by decide) (he : starEach (e :: es) X.env = (false, eval e X.env) :: starEach es X.env := by rfl) (hpl : (backTo pos (starEach es X.env)).any (·.1) = false := by rfl) :
    PE X (.Call (.Name x p) (e :: es) [] pos) (tCall sp dvs E t) := by
  intro pins s σ H Q I h
  refine wpAny_Call_Name_kw (ld_glob I hg hm ?_ hdb)
  refine PySem.W.callWith_K (h₀ := X.base) I.ok.mod.kin hk (thn (ha pos pins s σ H _ I h) fun us s1 ⟨vs, H1, I1, r, q⟩ => ⟨I1.kIn, ?_⟩) he hpl
  exact run_fn F hr hb hd hx I1 r q
theorem pe_call0 (F : FnOk X.prog X.w X.K X.mg X.base CX k f fd ps sp) (hr : Room k X.A) (hg : Gl X x) (hm : X.mg x = some (.ref f)) (hk : PySem.W.keepIn X.K (.ref f) = true) (hb : Binds X.K fd ps ds) (hd : Vals dvs ds) (hx : Passes CX X E)
    (hdb : (x == ("__debug__" : Str)) = false := by decide) : PE X (.Call (.Name x p) [] [] pos) (tCall sp dvs E tNil) := by
  intro pins s σ H Q I h
  refine wpAny_Call_Name_kw (ld_glob I hg hm ?_ hdb)
  exact PySem.W.callWith_K0 I.kIn hk (run_fn (us := []) F hr hb hd hx I .nil h)
end
section
variable {X : Cx} {CX : CXT} {k : Nat} {f C : Addr} {fd : FuncData} {ps ks : List Str} {sp : Sp} {E : XK} {x m : Str} {p pos apos kpos : Pos} {e o : Expr} {es : List Expr} {kws : List Keyword} {te ta : TE} {t tk : TA} {nm : Option Str}
variable {g : List Value → List Value → List Value} {gV : List V → List V → List V}
end
structure FnScope (N P : List Str) (sc : Scope) : Prop where
  kind : sc.kind = .function
  co : sc.isCoroutine = false
  gen : sc.isGenerator = false
  nd : N.Nodup
  pre : N.take P.length = P
  par : ∀ x ∈ P, sc.names.lookup x = some .local ∨ sc.names.lookup x = some .cell
  nofree : ∀ y ∈ sc.names, y.2 ≠ .free
theorem bindL_out {kindOf : Str → Option NameKind} {x : Str} : ∀ {binds : List (Str × Value)} {m : Str → Option Value}, (∀ v, (x, v) ∉ binds) → bindL kindOf binds m x = m x
  | [], _, _ => rfl
  | (n, v) :: r, m, h => by
    unfold bindL
    rw [bindL_out fun w hw => h w (List.mem_cons_of_mem _ hw)]
    split
    · have : x ≠ n := by rintro rfl; exact h v List.mem_cons_self
      simp [this]
    · rfl
theorem bindC_out {kindOf : Str → Option NameKind} {x : Str} : ∀ {binds : List (Str × Value)} {m : Str → Option Value}, (∀ v, (x, v) ∉ binds) → bindC kindOf binds m x = m x
  | [], _, _ => rfl
  | (n, v) :: r, m, h => by
    unfold bindC
    rw [bindC_out fun w hw => h w (List.mem_cons_of_mem _ hw)]
    split
    · rfl
    · have : x ≠ n := by rintro rfl; exact h v List.mem_cons_self
      simp [this]
theorem bindL_get {kindOf : Str → Option NameKind} {x : Str} {v : Value} : ∀ {P : List Str} {vs : List Value} {i : Nat} {m : Str → Option Value}, P.Nodup → P[i]? = some x → vs[i]? = some v → kindOf x = some .local →
    bindL kindOf (P.zip vs) m x = some v
  | [], _, _, _, _, h, _, _ => by simp at h
  | _ :: _, [], _, _, _, _, h, _ => by simp at h
  | p :: P, w :: vs, 0, m, nd, h1, h2, hk => by
    simp at h1 h2; subst h1; subst h2
    show bindL kindOf ((p, w) :: P.zip vs) m p = _
    unfold bindL
    rw [bindL_out fun v hv => (List.nodup_cons.mp nd).1 (List.of_mem_zip hv).1, if_pos hk]
    simp
  | p :: P, w :: vs, i + 1, m, nd, h1, h2, hk => by
    show bindL kindOf ((p, w) :: P.zip vs) m x = _
    unfold bindL
    exact bindL_get (i := i) (List.nodup_cons.mp nd).2 (by simpa using h1) (by simpa using h2) hk
theorem bindC_get {kindOf : Str → Option NameKind} {x : Str} {v : Value} : ∀ {P : List Str} {vs : List Value} {i : Nat} {m : Str → Option Value}, P.Nodup → P[i]? = some x → vs[i]? = some v → kindOf x ≠ some .local →
    bindC kindOf (P.zip vs) m x = some v
  | [], _, _, _, _, h, _, _ => by simp at h
  | _ :: _, [], _, _, _, _, h, _ => by simp at h
  | p :: P, w :: vs, 0, m, nd, h1, h2, hk => by
    simp at h1 h2; subst h1; subst h2
    show bindC kindOf ((p, w) :: P.zip vs) m p = _
    unfold bindC
    rw [bindC_out fun v hv => (List.nodup_cons.mp nd).1 (List.of_mem_zip hv).1, if_neg hk]
    simp
  | p :: P, w :: vs, i + 1, m, nd, h1, h2, hk => by
    show bindC kindOf ((p, w) :: P.zip vs) m x = _
    unfold bindC
    exact bindC_get (i := i) (List.nodup_cons.mp nd).2 (by simpa using h1) (by simpa using h2) hk
noncomputable def start (N : List Str) (vs : List V) : St := vs.map some ++ List.replicate (N.length - vs.length) none
noncomputable def cxOf (CX : CXT) (P : Program) (w : World) (K : PySem.W.Frag) (mg : Str → Option Value) (base : Heap) (N : List Str) (qual : Str) (scope : Scope) (f : Addr) (cd : Value) (A : Around) (outer : List Env) (s : Shared) (H : Hp) (E : XK) : Cx where
  prog := P
  w := w
  K := K
  mg := mg
  base := base
  A := A.deeper (envOfC qual scope s.heap.objs.size f cd)
  N := N
  s₀ := s
  H₀ := H
  env := envOfC qual scope s.heap.objs.size f cd
  outer := outer
  stack := envOfC qual scope s.heap.objs.size f cd :: outer
  ex := []
  calm := true
  fn := fun _ => true
  pn := []
  xe := fun e s' => wpAny (model P w) (A.deeper (envOfC qual scope s.heap.objs.size f cd)) (leaving (envOfC qual scope s.heap.objs.size f cd) e) (fun _ s'' => CX outer H s E e s'') (fun e' s'' => CX outer H s E e' s'') s'
theorem cell_has {sc : Scope} {n : Nat} {x : Str} (h : sc.names.lookup x = some .cell) : ∃ c, (cellsFrom n sc.names []).lookup x = some c := by
  have q := PySem.W.cellsFrom_some sc.names n [] (.inl h)
  exact Option.isSome_iff_exists.mp q
theorem inv_start {CX : CXT} {P : Program} {w : World} {K : PySem.W.Frag} {mg : Str → Option Value} {base : Heap} {N ps : List Str} {qual : Str} {scope : Scope} {f : Addr} {cd : Value} {A : Around} {outer : List Env} {s s1 : Shared} {H : Hp} {E : XK} {us : List Value} {vs : List V}
    (S : FnScope N ps scope) (hd : A.handled = none) (e0 : Env0 P w K mg base A outer s H) (hl : vs.length = ps.length) (r : Vals vs us)
    (x : InCallC s s.heap.objs.size (bindL (envOfC qual scope s.heap.objs.size f cd).kindOf (ps.zip us) fun _ => none) (cellsFrom (s.heap.objs.size + 1) scope.names []) (bindC (envOfC qual scope s.heap.objs.size f cd).kindOf (ps.zip us) fun _ => none) s1) :
    Inv (cxOf CX P w K mg base N qual scope f cd A outer s H E) [] (start N vs) H s1 := by
  have hpl : ps.length ≤ N.length := by have := congrArg List.length S.pre; rw [List.length_take] at this; omega
  obtain ⟨h1, tk, rfl, hk⟩ := x.done
  have noA : ∀ b : Addr, b ∉ (cxOf CX P w K mg base N qual scope f cd A outer s H E).ex := fun b z => absurd (show b ∈ ([] : List Addr) from z) (by simp)
  refine ⟨⟨e0.mod, S.kind, rfl, rfl, Nat.le_refl _, fun y z c h1 h2 => ?_, fun y hy => ?_, fun y c _ h => ?_, fun _ => hd, Around.frames_deeper e0.frames, .inr ⟨rfl, rfl⟩, fun b z => absurd z (noA b), e0.bs, e0.bsz, fun b _ _ => noA b, fun b z => absurd z (noA b), e0.funs, e0.frf⟩,
    rfl, e0.bare, Un.kept hk, ⟨_, x.toInCall.ns, fun i y v h1 h2 h3 => ?_⟩, fun y c h => ⟨_, x.cell y c h⟩, e0.hok.fresh (Nat.le_refl _), fun y c h => ?_, fun p hp => absurd (show p ∈ ([] : List (Addr × Obj)) from hp) (by simp), e0.hok.kept hk, ?_⟩
  · exact name_of_addr x.apart (PySem.mem_of_lookup h1) (PySem.mem_of_lookup h2)
  · have hy : scope.names.lookup y = some .cell ∨ scope.names.lookup y = some .free := hy
    rcases hy with hy | hy
    · exact cell_has hy
    · exact absurd rfl (S.nofree _ (PySem.mem_of_lookup hy))
  · exact Nat.le_of_lt (x.above y c (PySem.mem_of_lookup h))
  · have hi : i < vs.length := by
      unfold start at h2
      by_cases hi : i < vs.length
      · exact hi
      · rw [List.getElem?_append_right (by simpa using hi)] at h2
        rw [List.getElem?_replicate] at h2
        split at h2 <;> cases h2
    have ha : vs[i]? = some v := by
      unfold start at h2
      rw [List.getElem?_append_left (by simpa using hi), List.getElem?_map] at h2
      cases e : vs[i]? with
      | none => rw [e] at h2; cases h2
      | some a => rw [e] at h2; cases h2; rfl
    obtain ⟨u, hu, rv⟩ := r.get ha
    have hp : ps[i]? = some y := by
      rw [← S.pre, List.getElem?_take_of_lt (by omega)]; exact h1
    have ndP : ps.Nodup := by rw [← S.pre]; exact S.nd.sublist (List.take_sublist _ _)
    refine ⟨u, rv, ?_⟩
    rcases S.par y (List.mem_of_getElem? hp) with k | k
    · exact .inl ⟨k, bindL_get ndP hp hu k⟩
    · obtain ⟨c, e⟩ := cell_has (n := s.heap.objs.size + 1) k
      refine .inr ⟨.inl k, c, e, ?_⟩
      have q := x.cell y c e
      rw [bindC_get ndP hp hu (by show scope.names.lookup y ≠ _; rw [k]; decide)] at q
      exact q
  · exact e0.hok.fresh (Nat.le_of_lt (x.above y c (PySem.mem_of_lookup h)))
  · unfold start
    show _ = N.length
    rw [List.length_append, List.length_map, List.length_replicate]
    omega
theorem fn_of {CX : CXT} {P : Program} {w : World} {K : PySem.W.Frag} {mg : Str → Option Value} {base : Heap} {k : Nat} {f : Addr} {name qual : Str} {params : Arguments} {body : List Stmt} {scope : Scope} {dV kV doc pm cdv ct oc : Value} {an od : Option Addr}
    {osl : Array (Option Value)} {N ps : List Str} {sp : Sp} (lk : K.lookup f = some ⟨oc, od, .func (PySem.W.fnOf name qual params body scope dV kV doc pm an cdv ct), osl⟩) (hcd : PySem.W.codeIn K cdv qual = true) (S : FnScope N ps scope)
    (len : ∀ vs H Q E, sp vs H Q E → vs.length = ps.length)
    (hbody : ∀ (A : Around) (outer : List Env) (s : Shared) (H : Hp) (vs : List V) (Q : VK) (E : XK), Room k (A.deeper (envOfC qual scope s.heap.objs.size f cdv)) → sp vs H Q E →
      ∃ t, PSs (cxOf CX P w K mg base N qual scope f cdv A outer s H E) body t ∧ t { nx := fun _ H' => Q .non H', rt := Q } (start N vs) H) :
    FnOk P w K mg base CX (k + 1) f (PySem.W.fnOf name qual params body scope dV kV doc pm an cdv ct) ps sp := by
  refine ⟨len, fun A outer s H args us vs Q E hr e0 hb r hsp => ?_⟩
  have hl := len _ _ _ _ hsp
  have KX : K.In s.heap := e0.mod.kin.keeps fun b o e => (e0.bs b o e).1
  have lim : s.heap.NoLimit := e0.mod.nolimit.keeps fun b o e => (e0.bs b o e).1
  have hkind : ∀ y ∈ ps.zip us, scope.names.lookup y.1 = some .local ∨ (scope.names.lookup y.1 = some .cell ∧ ((cellsFrom (s.heap.objs.size + 1) scope.names []).lookup y.1).isSome = true) := fun ⟨n, v⟩ hy => by
    rcases S.par n (List.of_mem_zip hy).1 with q | q
    · exact .inl q
    · exact .inr ⟨q, PySem.W.cellsFrom_some _ _ _ (.inl q)⟩
  refine codeAny_call_function hr.depth (KX _ _ lk) rfl S.co S.gen rfl (PySem.W.codeRec_of KX hcd) (hb _ _ _ _ ?_)
  refine wpAny_newFunctionEnv_cells S.kind hkind fun env he s1 x => ?_
  subst he
  refine ⟨lim.keeps x.toInCall.keep, codeAny_func ?_⟩
  obtain ⟨t, ht, hq⟩ := hbody A outer s H vs Q E (hr.deeper _) hsp
  have I : Inv (cxOf CX P w K mg base N qual scope f cdv A outer s H E) [] (start N vs) H s1 := inv_start S hr.hd e0 hl r x
  refine wpAny_mono (ht [] s1 (start N vs) H _ I hq) (fun fl s' hs => ?_) fun e s' hs => hs
  have fin : ∀ {σ' : St} {H' : Hp} {v : V} {u : Value}, Inv (cxOf CX P w K mg base N qual scope f cdv A outer s H E) [] σ' H' s' → RelV v u → Q v H' → CE outer P w H s Q u s' :=
    fun {σ' H' v u} J rv q => ⟨v, H', J.os, J.bare, J.base, J.hok, rv, q⟩
  cases fl with
  | ret u =>
    obtain ⟨v, σ', H', J, rv, q⟩ := hs
    exact fin J rv q
  | next =>
    obtain ⟨σ', H', J, q⟩ := hs
    exact fin (v := V.non) (u := Value.none) J rfl q
  | brk =>
    obtain ⟨_, _, _, q⟩ := hs
    exact False.elim q
  | cont =>
    obtain ⟨_, _, _, q⟩ := hs
    exact False.elim q
end L2
namespace L2
open PySem PySem.Spec PyProof.Rows
section
variable {X : Cx} {x : Str} {p pos : Pos} {e : Expr} {es : List Expr} {t : TA} {id T : String} {r : List V → Hp → VK → Prop}
noncomputable def tCB (r : List V → Hp → VK → Prop) (t : TA) : TE := fun σ H Q => t σ H fun vs H1 => r vs H1 Q
theorem pe_callB (hc : CallR X (.builtin id) r) (hg : Gl X x) (hm : X.mg x = none) (hv : bootBuiltins x = some (.builtin id)) (ha : PA X (e :: es) t) (hn : x ≠ "__name__" := by decide) (hdb : (x == ("__debug__" : Str)) = false := by decide)
    (he : starEach (e :: es) X.env = (false, eval e X.env) :: starEach es X.env := by rfl) (hpl : (backTo pos (starEach es X.env)).any (·.1) = false := by rfl) : PE X (.Call (.Name x p) (e :: es) [] pos) (tCB r t) := by
  intro pins s σ H Q I h
  refine wpAny_Call_Name_kw (ld_blt I hg hm hv ?_ hn hdb)
  exact PyProof.Rows.callWith_builtin1 (thn (ha pos pins s σ H _ I h) fun us s1 ⟨vs, H1, I1, r1, q1⟩ => hc pins s1 σ H1 vs us Q I1 r1 q1) he hpl
theorem pe_callTy (hc : CallR X (.type T) r) (hg : Gl X x) (hm : X.mg x = none) (hv : bootBuiltins x = some (.type T)) (ha : PA X (e :: es) t) (hn : x ≠ "__name__" := by decide) (hdb : (x == ("__debug__" : Str)) = false := by decide)
    (he : starEach (e :: es) X.env = (false, eval e X.env) :: starEach es X.env := by rfl) (hpl : (backTo pos (starEach es X.env)).any (·.1) = false := by rfl) : PE X (.Call (.Name x p) (e :: es) [] pos) (tCB r t) := by
  intro pins s σ H Q I h
  refine wpAny_Call_Name_kw (ld_blt I hg hm hv ?_ hn hdb)
  exact PyProof.Rows.callWith_type1 (thn (ha pos pins s σ H _ I h) fun us s1 ⟨vs, H1, I1, r1, q1⟩ => hc pins s1 σ H1 vs us Q I1 r1 q1) he hpl
end
end L2
namespace HT
open PySem PyProof.Rows
section
open PySem.SeqAt
open PySem.AutoSeq1 (wpAny_loadPart')
open PySem.MeetsSeq PySem.MeetsSeq2 PySem.MeetsSeq3
end
section
variable {prog : Program} {w : World} {A : Around} {E : Value → Shared → Prop} {s : Shared}
theorem cat_tup {t b : Addr} {vs ws : List Value} {Q : Value → Shared → Prop} (ht : IsTup s.heap t vs.toArray) (hb : IsTup s.heap b ws.toArray) (hv : vs ≠ [])
    (h1 : ws = [] → Q (.ref t) s) (h2 : ws ≠ [] → Q (.ref s.heap.objs.size) { s with heap := s.heap.push { cls := .type "tuple", data := .seq (vs ++ ws).toArray } })
    (hsz : vs.length + ws.length ≤ sizeLine) : wpAny (model prog w) A (binaryOp .Add (.ref t) (.ref b)) Q E s := by
  obtain ⟨⟨cls, dd, data, sl⟩, ho, hc, n, hd⟩ := id ht
  obtain ⟨⟨cls2, dd2, data2, sl2⟩, ho2, hc2, n2, hd2⟩ := id hb
  simp only at hc hd hc2 hd2
  subst hc hd hc2 hd2
  have e : vs.toArray ++ ws.toArray = (vs ++ ws).toArray := by simp
  by_cases hw : ws = []
  · exact concat_meets ⟨_, ho, rfl⟩ ⟨_, ho2, rfl⟩ noFill_tuple_add seq_tuple_add PySem.F.slot_tuple_add PySem.F.entry_tuple_add (PySem.F.args_tuple_add_2 _ _)
      (tuple_addW1 t b vs.toArray ws.toArray n n2 dd dd2 sl sl2 (by simpa using hv) (by simp [hw])) ⟨ho, ho2, h1 hw⟩
  · refine concat_meets ⟨_, ho, rfl⟩ ⟨_, ho2, rfl⟩ noFill_tuple_add seq_tuple_add PySem.F.slot_tuple_add PySem.F.entry_tuple_add (PySem.F.args_tuple_add_2 _ _)
      (tuple_addW2 t b vs.toArray ws.toArray n n2 dd dd2 sl sl2 (by simpa using hv) (by simpa using hw) (by rw [List.size_toArray, List.size_toArray]; exact hsz)) ⟨ho, ho2, ?_⟩
    rw [e]
    exact h2 hw
noncomputable def sIx (n d : Nat) : Option Int → Nat
  | none => d
  | some v => if v < 0 then (v + (n : Int)).toNat else min v.toNat n
theorem sIx_le (n d : Nat) (hd : d ≤ n) (o : Option Int) : sIx n d o ≤ n := by
  cases o with
  | none => exact hd
  | some v =>
    show (if v < 0 then (v + (n : Int)).toNat else min v.toNat n) ≤ n
    by_cases hv : v < 0
    · rw [if_pos hv]; omega
    · rw [if_neg hv]; exact Nat.min_le_right _ _
end
end HT
namespace L2
open PySem PySem.Spec PyProof.Rows
noncomputable abbrev TO := St → Hp → (Option Int → Hp → Prop) → Prop
noncomputable def PO (X : Cx) (e : Option Expr) (t : TO) : Prop :=
  ∀ (pins : List (Addr × Obj)) (s : Shared) (σ : St) (H : Hp) (Q : Option Int → Hp → Prop), Inv X pins σ H s → t σ H Q →
    wpAny (model X.prog X.w) X.A (evalPart e X.env) (fun u s' => ∃ o H', Inv X pins σ H' s' ∧ IsPart u o ∧ Q o H') X.xe s
noncomputable def tNoPart : TO := fun _ H Q => Q none H
noncomputable def tPart (t : TE) : TO := fun σ H Q => t σ H fun x H1 => ∃ i, x = .int i ∧ Q (some i) H1
section
variable {X : Cx} {e : Expr} {te : TE} {lo hi : Option Expr} {tl th : TO} {pos p2 : Pos}
theorem po_none : PO X none tNoPart := by
  intro pins s σ H Q I h
  rw [evalPart_none]
  exact wpAny_pure ⟨none, H, I, .none, h⟩
theorem po_some (h : PE X e te) : PO X (some e) (tPart te) := by
  intro pins s σ H Q I hw
  rw [evalPart_some]
  refine thn (h pins s σ H _ I hw) fun u s1 ⟨x, H1, I1, r1, q1⟩ => ?_
  obtain ⟨i, rfl, q⟩ := q1
  obtain ⟨t, rfl⟩ := r1
  exact ⟨some i, H1, I1, .int i t, q⟩
noncomputable def SlR (X : Cx) (r : V → Option Int → Option Int → Hp → VK → Prop) : Prop :=
  ∀ (pins : List (Addr × Obj)) (s : Shared) (σ : St) (H : Hp) (x : V) (v vl vu : Value) (lo hi : Option Int) (sl : Addr) (Q : VK), Inv X pins σ H s → RelV x v → s.heap.IsSliceOf sl vl vu .none → IsPart vl lo → IsPart vu hi → r x lo hi H Q →
    ∃ T id, typeLookup (.type T) "__getitem__" = pure (some (.builtin id)) ∧ s.TypeIs v T ∧ wpAny (model X.prog X.w) X.A (getItem v (.ref sl)) (EP X pins σ Q) X.xe s
theorem SlR.or {r r' : V → Option Int → Option Int → Hp → VK → Prop} (h : SlR X r) (h' : SlR X r') : SlR X (fun x lo hi H Q => r x lo hi H Q ∨ r' x lo hi H Q) := by
  intro pins s σ H x v vl vu lo hi sl Q I rx hs pl pu q
  rcases q with q | q
  · exact h pins s σ H x v vl vu lo hi sl Q I rx hs pl pu q
  · exact h' pins s σ H x v vl vu lo hi sl Q I rx hs pl pu q
noncomputable def tSl (r : V → Option Int → Option Int → Hp → VK → Prop) (te : TE) (tl th : TO) : TE := fun σ H Q => te σ H fun x H1 => tl σ H1 fun l H2 => th σ H2 fun u H3 => r x l u H3 Q
theorem pe_slice {r : V → Option Int → Option Int → Hp → VK → Prop} (hr : SlR X r) (he : PE X e te) (hl : PO X lo tl) (hu : PO X hi th) : PE X (.Subscript e (.Slice lo hi none p2) pos) (tSl r te tl th) := by
  intro pins s σ H Q I h
  refine Subscript_ (thn (he pins s σ H _ I h) fun v s1 ⟨x, H1, I1, r1, q1⟩ => ?_)
  refine wpAny_Slice (thn (hl pins s1 σ H1 _ I1 q1) fun vl s2 ⟨l, H2, I2, pl, q2⟩ => thn (hu pins s2 σ H2 _ I2 q2) fun vu s3 ⟨u, H3, I3, pu, q3⟩ => ?_)
  rw [evalPart_none]
  refine wpAny_pure ?_
  have I4 : Inv X pins σ H3 { s3 with heap := s3.heap.push { cls := .type "slice", data := .fields #[vl, vu, .none] } } := I3.kept (t' := s3.toks) fun b ob q => Heap.get?_push_of_some _ q
  obtain ⟨T, id, hT, ht, hg⟩ := hr pins { s3 with heap := s3.heap.push { cls := .type "slice", data := .fields #[vl, vu, .none] } } σ H3 x v vl vu l u s3.heap.objs.size Q I4 r1 (Heap.IsSliceOf.new ..) pl pu q3
  show wpAny (model X.prog X.w) X.A (subscriptTail e (.Slice lo hi none p2) v (.ref s3.heap.objs.size)) (EP X pins σ Q) X.xe { s3 with heap := s3.heap.push { cls := .type "slice", data := .fields #[vl, vu, .none] } }
  exact tail_any (ops := [.ref s3.heap.objs.size, v]) ht hT hg (by with_unfolding_all rfl)
noncomputable def rCatT (K : PySem.W.Frag) : R2 := fun x y H Q => ∃ a b xs ys, x = .ref a ∧ y = .ref b ∧ SqT K H a xs ∧ SqT K H b ys ∧ xs ≠ [] ∧ xs.length + ys.length ≤ sizeLine ∧
  (ys = [] → Q (.ref a) H) ∧ (ys ≠ [] → ∀ p, H p = none → Q (.ref p) (upd H p (.tup (xs ++ ys))))
theorem Vals.nil_iff {xs : List V} {us : List Value} (r : Vals xs us) : us = [] ↔ xs = [] := by
  cases r with
  | nil => simp
  | cons _ _ => simp
theorem op_catT : OpR X (binaryOp .Add) (rCatT X.K) := by
  intro pins s σ H x y v u Q I rx ry h
  obtain ⟨a, b, xs, ys, rfl, rfl, ha, hb, hx, hz, q1, q2⟩ := h
  cases rx
  cases ry
  obtain ⟨its, r1, p1, _⟩ := I.tuple ha
  obtain ⟨its2, r2, p2, _⟩ := I.tuple hb
  refine HT.cat_tup p1 p2 (fun z => hx (r1.nil_iff.mp z)) (fun z => ⟨.ref a, H, I, rfl, q1 (r2.nil_iff.mp z)⟩) (fun z => ?_) (by rw [← r1.length, ← r2.length]; exact hz)
  refine ⟨.ref s.heap.objs.size, _, I.laid (t' := s.toks) (o := .tup (xs ++ ys)) (fun b ob q => Heap.get?_push_of_some _ q) (Nat.le_refl _) ?_, rfl, q2 (fun w => z (r2.nil_iff.mpr w)) _ (I.hok.fresh (Nat.le_refl _))⟩
  exact ⟨by rw [List.length_append]; exact hz, _, r1.append r2, IsTup.new _ _⟩
end
end L2
namespace L2
open PySem PySem.Spec PyProof.Rows
noncomputable def ixN (n : Nat) (i : Int) : Option Nat := if 0 ≤ i then (if i < n then some i.toNat else none) else if -(n : Int) ≤ i then some (i + n).toNat else none
noncomputable def atI {α : Type} (xs : List α) (i : Int) : Option α := (ixN xs.length i).bind fun j => xs[j]?
theorem ixN_seq {n : Nat} {i : Int} {j : Nat} (h : ixN n i = some j) : seqIndex? i n = some j ∧ j < n ∧ -(n : Int) ≤ i ∧ i < n := by
  unfold ixN at h
  by_cases h0 : 0 ≤ i
  · rw [if_pos h0] at h
    by_cases h1 : i < n
    · rw [if_pos h1] at h
      have e : i.toNat = j := Option.some.inj h
      exact ⟨by rw [seqIndex_of h0 h1, e], by omega, by omega, h1⟩
    · rw [if_neg h1] at h; cases h
  · rw [if_neg h0] at h
    by_cases h1 : -(n : Int) ≤ i
    · rw [if_pos h1] at h
      have e : (i + n).toNat = j := Option.some.inj h
      exact ⟨by rw [seqIndex_neg (by omega) h1, e], by omega, h1, by omega⟩
    · rw [if_neg h1] at h; cases h
theorem atI_get {α : Type} {xs : List α} {i : Int} {v : α} (h : atI xs i = some v) : ∃ j, seqIndex? i xs.length = some j ∧ xs[j]? = some v ∧ j < xs.length ∧ -(xs.length : Int) ≤ i ∧ i < xs.length := by
  unfold atI at h
  cases e : ixN xs.length i with
  | none => rw [e] at h; cases h
  | some j =>
    rw [e] at h
    obtain ⟨h1, h2, h3, h4⟩ := ixN_seq e
    exact ⟨j, h1, h, h2, h3, h4⟩
theorem atI_nat {α : Type} {xs : List α} {j : Nat} {v : α} (h : xs[j]? = some v) : atI xs (j : Int) = some v := by
  have hj : j < xs.length := (List.getElem?_eq_some_iff.mp h).1
  have e : ixN xs.length (j : Int) = some j := by
    unfold ixN
    rw [if_pos (by omega), if_pos (by omega)]; simp
  unfold atI; rw [e]; exact h
noncomputable def PlainIx (b : Expr) : Prop := ∀ o i, subscripted b false o i = operate [o, i] (getItem o i)
noncomputable def IxR (X : Cx) (r : R2) : Prop :=
  ∀ (value slice : Expr) (pins : List (Addr × Obj)) (s : Shared) (σ : St) (H : Hp) (x y : V) (v u : Value) (Q : VK), Inv X pins σ H s → RelV x v → RelV y u → r x y H Q →
    subscripted slice false v u = operate [v, u] (getItem v u) → wpAny (model X.prog X.w) X.A (subscriptTail value slice v u) (EP X pins σ Q) X.xe s
noncomputable def MtR (X : Cx) (id : String) (r : V → List V → Hp → VK → Prop) : Prop :=
  ∀ (pins : List (Addr × Obj)) (s : Shared) (σ : St) (H : Hp) (x : V) (xs : List V) (v : Value) (us : List Value) (Q : VK), Inv X pins σ H s → RelV x v → Vals xs us → r x xs H Q →
    wpAny (model X.prog X.w) X.A (call (.builtin id) (v :: us)) (EP X pins σ Q) X.xe s
section
variable {X : Cx} {a b : Expr} {ta tb : TE} {pos : Pos}
theorem IxR.or {r r' : R2} (h : IxR X r) (h' : IxR X r') : IxR X (fun x y H Q => r x y H Q ∨ r' x y H Q) := by
  intro value slice pins s σ H x y v u Q I rx ry q hs
  rcases q with q | q
  · exact h value slice pins s σ H x y v u Q I rx ry q hs
  · exact h' value slice pins s σ H x y v u Q I rx ry q hs
theorem MtR.or {id : String} {r r' : V → List V → Hp → VK → Prop} (h : MtR X id r) (h' : MtR X id r') : MtR X id (fun x xs H Q => r x xs H Q ∨ r' x xs H Q) := by
  intro pins s σ H x xs v us Q I rx rs q
  rcases q with q | q
  · exact h pins s σ H x xs v us Q I rx rs q
  · exact h' pins s σ H x xs v us Q I rx rs q
theorem pe_ix {r : R2} (hr : IxR X r) (ha : PE X a ta) (hb : PE X b tb) (hs : PlainIx b) : PE X (.Subscript a b pos) (tOp r ta tb) := by
  intro pins s σ H Q I h
  exact Subscript_ (binT ha hb I h fun v u s2 x y H2 I2 rx ry q => hr a b pins s2 σ H2 x y v u Q I2 rx ry q (hs _ _))
noncomputable def rIxL (K : PySem.W.Frag) : R2 := fun x y H Q => ∃ p xs i v, x = .ref p ∧ y = .int i ∧ SqL K H p xs ∧ atI xs i = some v ∧ Q v H
noncomputable def rIxT (K : PySem.W.Frag) : R2 := fun x y H Q => ∃ p xs i v, x = .ref p ∧ y = .int i ∧ SqT K H p xs ∧ atI xs i = some v ∧ Q v H
noncomputable def rIxS : R2 := fun x y H Q => ∃ z i c, x = .str z ∧ y = .int i ∧ z.length ≤ sizeLine ∧ atI z.cps.toList i = some c ∧ Q (.str ⟨#[c]⟩) H
theorem ix_list : IxR X (rIxL X.K) := by
  intro value slice pins s σ H x y v u Q I rx ry h hs
  obtain ⟨p, xs, i, z, rfl, rfl, hq, he, q⟩ := h
  cases rx
  obtain ⟨t, rfl⟩ := ry
  obtain ⟨its, r, pl, hz⟩ := I.list hq
  obtain ⟨j, h1, h2, h3, h4, h5⟩ := atI_get he
  obtain ⟨w, ew, rw'⟩ := r.get h2
  have hl := r.length
  have hn := line63
  have fin : EP X pins σ Q w s := ⟨z, H, I, rw', q⟩
  by_cases h0 : 0 ≤ i
  · have hj : i.toNat = j := by
      rw [seqIndex_of h0 h5] at h1
      exact Option.some.inj h1
    exact item_listR pl.isList h0 (by omega) (by rw [hj]; simpa using ew) fin hs
  · have hj : (i + (its.toArray.size : Int)).toNat = j := by
      rw [seqIndex_neg (by omega) h4] at h1
      rw [List.size_toArray, ← hl]
      exact Option.some.inj h1
    exact subscriptTail_builtinR (x := w) pl.isList.typeIs slot_list_getitem.lookup
      (wpAny_getItem_list_neg (Q := fun r s' => r = w ∧ EP X pins σ Q r s') pl.isList (by omega) (by rw [List.size_toArray] <;> omega) (by omega) (by rw [hj]; simpa using ew) ⟨rfl, fin⟩) hs
theorem ix_tup : IxR X (rIxT X.K) := by
  intro value slice pins s σ H x y v u Q I rx ry h hs
  obtain ⟨p, xs, i, z, rfl, rfl, hq, he, q⟩ := h
  cases rx
  obtain ⟨t, rfl⟩ := ry
  obtain ⟨its, r, pl, hz⟩ := I.tuple hq
  obtain ⟨j, h1, h2, h3, h4, h5⟩ := atI_get he
  obtain ⟨w, ew, rw'⟩ := r.get h2
  have hl := r.length
  have hn := line63
  have fin : EP X pins σ Q w s := ⟨z, H, I, rw', q⟩
  exact subscriptTail_builtinR (x := w) pl.typeIs slot_tuple_getitem.lookup
    (getItem_tuple (j := j) (Q := fun r s' => r = w ∧ EP X pins σ Q r s') pl (by omega) (by omega) (by rw [List.size_toArray, ← hl]; exact h1) (by simpa using ew) ⟨rfl, fin⟩) hs
theorem ix_str : IxR X rIxS := by
  intro value slice pins s σ H x y v u Q I rx ry h hs
  obtain ⟨z, i, c, rfl, rfl, hz, he, q⟩ := h
  obtain ⟨t, rfl⟩ := rx
  obtain ⟨t', rfl⟩ := ry
  obtain ⟨j, h1, h2, h3, h4, h5⟩ := atI_get he
  have hl : z.cps.toList.length = z.length := by simp [Str.length]
  rw [hl] at h1 h4 h5
  have hn := line63
  exact tail_any (typeIs_str s z t) slot_str_getitem.lookup (getItem_str (c := c) (by
    have e1 : decide (i < -(2 ^ 63 : Int)) = false := decide_eq_false (by omega)
    have e2 : decide (i ≥ 2 ^ 63) = false := decide_eq_false (by omega)
    rw [e1, e2, Bool.or_false]) (by rw [h1]; simpa using h2) ⟨.str ⟨#[c]⟩, H, I.tok _, ⟨_, rfl⟩, q⟩) hs
noncomputable def rIx (K : PySem.W.Frag) : R2 := fun x y H Q => rIxL K x y H Q ∨ rIxT K x y H Q ∨ rIxS x y H Q
theorem ix_seq : IxR X (rIx X.K) := ix_list.or (ix_tup.or ix_str)
theorem Inv.lst {pins : List (Addr × Obj)} {σ : St} {H : Hp} {s : Shared} {p : Addr} {xs : List V} (I : Inv X pins σ H s) (h : H p = some (.lst xs)) :
    ∃ (its : List Value) (n : Nat), Vals xs its ∧ s.heap.get? p = some { cls := .type "list", data := .seq its.toArray n } ∧ xs.length ≤ sizeLine := by
  obtain ⟨z, its, n, r, e⟩ := I.hok p _ h
  exact ⟨its, n, r, e, z⟩
theorem slice_bounds (lo hi : Option Int) (n : Nat) : (sliceBounds lo hi none n).1 = ((HT.sIx n 0 lo : Nat) : Int) ∧ (sliceBounds lo hi none n).2.1 = ((HT.sIx n n hi : Nat) : Int) ∧ (sliceBounds lo hi none n).2.2 = 1 := by
  refine ⟨?_, ?_, rfl⟩
  · cases lo with
    | none => simp [sliceBounds, HT.sIx]
    | some i =>
      simp only [sliceBounds, HT.sIx, Option.getD_none, show (1 : Int) > 0 by decide, if_true]
      by_cases h : i < 0
      · simp only [h, if_true] <;> omega
      · simp only [h, if_false] <;> omega
  · cases hi with
    | none => simp [sliceBounds, HT.sIx]
    | some i =>
      simp only [sliceBounds, HT.sIx, Option.getD_none, show (1 : Int) > 0 by decide, if_true]
      by_cases h : i < 0
      · simp only [h, if_true] <;> omega
      · simp only [h, if_false] <;> omega
noncomputable def flatV : V → Bool
  | .non => true
  | .bl _ => true
  | .int _ => true
  | .str _ => true
  | _ => false
noncomputable def eqV : V → V → Bool
  | .non, .non => true
  | .bl a, .bl b => a == b
  | .bl a, .int b => (if a then 1 else 0) == b
  | .int a, .bl b => a == (if b then 1 else 0)
  | .int a, .int b => a == b
  | .str a, .str b => a == b
  | _, _ => false
theorem eqAt_V {A : Around} {s : Shared} {y x : V} {u v : Value} (ry : RelV y u) (rx : RelV x v) (fy : flatV y = true) (fx : flatV x = true) : SeqAt.EqAt A s u v (eqV y x) := by
  cases y with
  | non =>
    cases ry
    cases x with
    | non => cases rx; exact SeqAt.EqAt.same _
    | bl b => cases rx; exact SeqAt.EqAt.none_bool b
    | int b => obtain ⟨t, rfl⟩ := rx; exact SeqAt.EqAt.none_int b t
    | str b => obtain ⟨t, rfl⟩ := rx; exact SeqAt.EqAt.none_str b t
    | _ => exact absurd (show false = true from fx) Bool.false_ne_true
  | bl a =>
    cases ry
    cases x with
    | non => cases rx; exact SeqAt.EqAt.bool_none a
    | bl b => cases rx; exact SeqAt.EqAt.bool_bool a b
    | int b => obtain ⟨t, rfl⟩ := rx; exact SeqAt.EqAt.bool_int a b t
    | str b => obtain ⟨t, rfl⟩ := rx; exact SeqAt.EqAt.bool_str a b t
    | _ => exact absurd (show false = true from fx) Bool.false_ne_true
  | int a =>
    obtain ⟨t', rfl⟩ := ry
    cases x with
    | non => cases rx; exact SeqAt.EqAt.int_none a t'
    | bl b => cases rx; exact SeqAt.EqAt.int_bool a t' b
    | int b => obtain ⟨t, rfl⟩ := rx; exact SeqAt.EqAt.int_int a t' b t
    | str b => obtain ⟨t, rfl⟩ := rx; exact SeqAt.EqAt.int_str a t' b t
    | _ => exact absurd (show false = true from fx) Bool.false_ne_true
  | str a =>
    obtain ⟨t', rfl⟩ := ry
    cases x with
    | non => cases rx; exact SeqAt.EqAt.str_none a t'
    | bl b => cases rx; exact SeqAt.EqAt.str_bool a t' b
    | int b => obtain ⟨t, rfl⟩ := rx; exact SeqAt.EqAt.str_int a t' b t
    | str b => obtain ⟨t, rfl⟩ := rx; exact SeqAt.EqAt.str_str a t' b t
    | _ => exact absurd (show false = true from fx) Bool.false_ne_true
  | _ => exact absurd (show false = true from fy) Bool.false_ne_true
noncomputable def eqU (x : V) (u : Value) : Bool := match u with
  | .none => eqV .non x
  | .bool b => eqV (.bl b) x
  | .int i _ => eqV (.int i) x
  | .str z _ => eqV (.str z) x
  | _ => false
theorem eqU_of {x y : V} {u : Value} (r : RelV y u) (f : flatV y = true) : eqU x u = eqV y x := by
  cases y with
  | non => cases r; rfl
  | bl b => cases r; rfl
  | int i => obtain ⟨t, rfl⟩ := r; rfl
  | str z => obtain ⟨t, rfl⟩ := r; rfl
  | _ => exact absurd (show false = true from f) Bool.false_ne_true
theorem any_eqU {x : V} : ∀ {xs : List V} {us : List Value}, Vals xs us → xs.all flatV = true → us.any (eqU x) = xs.any fun y => eqV y x
  | _, _, .nil, _ => rfl
  | y :: xs, u :: us, .cons r t, f => by
    rw [List.all_cons, Bool.and_eq_true] at f
    rw [List.any_cons, List.any_cons, eqU_of r f.1, any_eqU t f.2]
theorem mem_eqAt {A : Around} {s : Shared} {x : V} {v : Value} (rx : RelV x v) (fx : flatV x = true) : ∀ {xs : List V} {us : List Value}, Vals xs us → xs.all flatV = true → ∀ u ∈ us, SeqAt.EqAt A s u v (eqU x u)
  | _, _, .nil, _ => fun u hu => by cases hu
  | y :: xs, u :: us, .cons r t, f => fun u' hu => by
    rw [List.all_cons, Bool.and_eq_true] at f
    rcases List.mem_cons.mp hu with rfl | hu
    · rw [eqU_of r f.1]; exact eqAt_V r rx f.1 fx
    · exact mem_eqAt rx fx t f.2 u' hu
noncomputable def inV (x : V) (xs : List V) : Bool := xs.any fun y => eqV y x
noncomputable def rIn (K : PySem.W.Frag) (neg : Bool) : R2 := fun x y H Q => ∃ p xs, y = .ref p ∧ (SqL K H p xs ∨ SqT K H p xs) ∧ flatV x = true ∧ xs.all flatV = true ∧ Q (.bl (if neg then !inV x xs else inV x xs)) H
theorem op_notIn_seq : OpR X (compareOp .NotIn) (rIn X.K true) := by
  intro pins s σ H x y v u Q I rx ry h
  obtain ⟨p, xs, rfl, hq, fx, fs, q⟩ := h
  cases ry
  rcases hq with hq | hq
  · obtain ⟨its, r, pl, hz⟩ := I.list hq
    refine SeqAt.notIn_listAt (eqU x) pl.isList (fun w hw => mem_eqAt rx fx r fs w (by simpa using hw)) ⟨.bl _, H, I, rfl, ?_⟩
    rw [show its.toArray.any (eqU x) = its.any (eqU x) by simp, any_eqU r fs]
    exact q
  · obtain ⟨its, r, pl, hz⟩ := I.tuple hq
    refine SeqAt.notIn_tupleAt (eqU x) pl (fun w hw => mem_eqAt rx fx r fs w (by simpa using hw)) ⟨.bl _, H, I, rfl, ?_⟩
    rw [show its.toArray.any (eqU x) = its.any (eqU x) by simp, any_eqU r fs]
    exact q
theorem CallR.or {f : Value} {r r' : List V → Hp → VK → Prop} (h : CallR X f r) (h' : CallR X f r') : CallR X f (fun xs H Q => r xs H Q ∨ r' xs H Q) := by
  intro pins s σ H xs us Q I rs q
  rcases q with q | q
  · exact h pins s σ H xs us Q I rs q
  · exact h' pins s σ H xs us Q I rs q
noncomputable def tyV (K : PySem.W.Frag) (T : String) (x : V) (H : Hp) : Prop := match x with
  | .str _ => T = "str"
  | .int _ => T = "int"
  | .ref p => (T = "list" ∧ ∃ xs, SqL K H p xs) ∨ (T = "tuple" ∧ ∃ o, K.lookup p = some o ∧ o.cls = .type "tuple" ∧ o.dict = none) ∨
      (T = "dict" ∧ ((∃ kvs, H p = some (.dK kvs)) ∨ ∃ kvs, H p = some (.dT kvs))) ∨ (T = "set" ∧ ∃ S n, H p = some (.set S n))
  | _ => False
theorem tyV_is {pins : List (Addr × Obj)} {σ : St} {H : Hp} {s : Shared} {T : String} {x : V} {v : Value} (I : Inv X pins σ H s) (r : RelV x v) (ty : tyV X.K T x H) :
    s.TypeIs v T ∧ ∀ a, v = .ref a → ∃ ob, s.heap.get? a = some ob ∧ ob.dict = none := by
  cases x with
  | str z =>
    obtain ⟨t, rfl⟩ := r
    cases (show T = "str" from ty)
    exact ⟨typeIs_str s z t, fun _ e => nomatch e⟩
  | int i =>
    obtain ⟨t, rfl⟩ := r
    cases (show T = "int" from ty)
    exact ⟨typeIs_int s i t, fun _ e => nomatch e⟩
  | ref p =>
    cases r
    rcases ty with ⟨rfl, xs, hq⟩ | ⟨rfl, o, hk, hc, hd⟩ | ⟨rfl, hk⟩ | ⟨rfl, S, n, hk⟩
    · obtain ⟨its, _, pl, _⟩ := I.list hq
      refine ⟨pl.isList.typeIs, fun a e => ?_⟩
      cases e
      obtain ⟨o, n, e, c, hd, _⟩ := pl
      exact ⟨o, e, hd⟩
    · refine ⟨⟨o, I.kIn p o hk, hc⟩, fun a e => ?_⟩
      cases e
      exact ⟨o, I.kIn _ o hk, hd⟩
    · have z : ∃ o, s.heap.get? p = some o ∧ o.ExactDict := by
        rcases hk with ⟨kvs, hk⟩ | ⟨kvs, hk⟩
        · obtain ⟨_, _, _, _, o, _, _, e, ex, _⟩ := I.hok p _ hk
          exact ⟨o, e, ex⟩
        · obtain ⟨_, _, _, _, o, _, _, e, ex, _⟩ := I.hok p _ hk
          exact ⟨o, e, ex⟩
      obtain ⟨o, e, ex⟩ := z
      refine ⟨⟨o, e, ex.1⟩, fun a e2 => ?_⟩
      cases e2
      exact ⟨o, e, ex.2.1⟩
    · obtain ⟨o, _, _, _, e, ex, _⟩ := I.hok p _ hk
      refine ⟨⟨o, e, ex.1⟩, fun a e2 => ?_⟩
      cases e2
      exact ⟨o, e, ex.2.1⟩
  | _ => exact False.elim ty
noncomputable def tBM0 (K : PySem.W.Frag) (T : String) (r : V → List V → Hp → VK → Prop) (to : TE) : TE := fun σ H Q => to σ H fun x H1 => tyV K T x H1 ∧ r x [] H1 Q
noncomputable def tBM (K : PySem.W.Frag) (T : String) (r : V → List V → Hp → VK → Prop) (to : TE) (t : TA) : TE := fun σ H Q => to σ H fun x H1 => tyV K T x H1 ∧ t σ H1 fun xs H2 => r x xs H2 Q
variable {o e : Expr} {es : List Expr} {to : TE} {t : TA} {name : Str} {apos cpos : Pos} {T id : String} {r : V → List V → Hp → VK → Prop}
theorem pe_bm0 (pa : PlainAttrs T) (slot : Slot T name id) (hty : typeOf (.builtin id) = pure (.type "method_descriptor")) (hm : MtR X id r) (ho : PE X o to)
    (hbase : attributeBase o name X.env (eval o X.env) = eval o X.env := by rfl) (hline : (apos.endLine == cpos.line) = true := by rfl) : PE X (.Call (.Attribute o name apos) [] [] cpos) (tBM0 X.K T r to) := by
  intro pins s σ H Q I h
  refine wpAny_Call_method0_late hbase hline (thn (ho pins s σ H _ I h) fun v s1 ⟨x, H1, I1, r1, ty, q1⟩ => ?_)
  obtain ⟨h1, h2⟩ := tyV_is I1 r1 ty
  exact ⟨T, id, pa, slot, hty, h1, h2, Calls.callWith_builtin rfl (PySem.evalArgs_none (hm pins s1 σ H1 x [] v [] Q I1 r1 .nil q1))⟩
theorem pe_bm (pa : PlainAttrs T) (slot : Slot T name id) (hty : typeOf (.builtin id) = pure (.type "method_descriptor")) (hm : MtR X id r) (ho : PE X o to) (ha : PA X (e :: es) t)
    (hbase : attributeBase o name X.env (eval o X.env) = eval o X.env := by rfl)
    (hfew : ((backTo cpos (starEach (e :: es) X.env)).all (fun x => !x.1) && (backToKw cpos (keywordEach [] X.env)).all (fun x => x.1.isSome)
      && decide ((e :: es).length + ([] : List Keyword).length + (if ([] : List Keyword).isEmpty then 0 else 1) < 30)) = true := by rfl)
    (hline : (apos.endLine == cpos.line) = true := by rfl) (hs : starEach (e :: es) X.env = (false, eval e X.env) :: starEach es X.env := by rfl) (hplain : (backTo cpos (starEach es X.env)).any (·.1) = false := by rfl) :
    PE X (.Call (.Attribute o name apos) (e :: es) [] cpos) (tBM X.K T r to t) := by
  intro pins s σ H Q I h
  refine wpAny_Call_method_late hbase hfew hline rfl (thn (ho pins s σ H _ I h) fun v s1 ⟨x, H1, I1, r1, ty, q1⟩ => ?_)
  obtain ⟨h1, h2⟩ := tyV_is I1 r1 ty
  refine ⟨T, id, pa, slot, hty, h1, h2, ?_⟩
  have hA := ha cpos pins s1 σ H1 _ I1 q1
  rw [hs] at hA ⊢
  refine Calls.callWith_builtin (by show (false || (backTo cpos (starEach es X.env)).any (·.1)) = false; rw [hplain] <;> rfl) (Calls.evalArgs_plain ?_)
  exact thn hA fun us s2 ⟨vs, H2, I2, r2, q2⟩ => hm pins s2 σ H2 x vs v us Q I2 r1 r2 q2
end
end L2
namespace L2
open PySem PySem.Spec PyProof.Rows
noncomputable def MtM (X : Cx) (id : String) (r : V → List V → Hp → VK → Prop) : Prop :=
  ∀ (pins : List (Addr × Obj)) (s : Shared) (σ : St) (H : Hp) (x : V) (xs : List V) (v : Value) (us : List Value) (Q : VK), Inv X pins σ H s → RelV x v → Vals xs us → r x xs H Q →
    wpAny (model X.prog X.w) X.A (call (.builtin id) (v :: us)) (EP X pins σ Q) X.xe s
theorem Vals.one : ∀ {x : V} {us : List Value}, Vals [x] us → ∃ u, us = [u] ∧ RelV x u
  | _, _, .cons r .nil => ⟨_, rfl, r⟩
theorem Vals.zero : ∀ {us : List Value}, Vals [] us → us = []
  | _, .nil => rfl
theorem Vals.rep {xs : List V} {us : List Value} (h : Vals xs us) : ∀ k : Nat, Vals (List.replicate k xs).flatten (List.replicate k us).flatten
  | 0 => .nil
  | k + 1 => by
    rw [List.replicate_succ, List.replicate_succ, List.flatten_cons, List.flatten_cons]
    exact Vals.append h (Vals.rep h k)
theorem foldl_rep (its : List Value) : ∀ (k : Nat) (acc : List Value),
    List.foldl (fun x1 x2 => x1 ++ x2) acc.toArray (List.replicate k its.toArray) = (acc ++ (List.replicate k its).flatten).toArray
  | 0, acc => by simp
  | k + 1, acc => by
    have e : acc.toArray ++ its.toArray = (acc ++ its).toArray := by simp
    have e2 : (acc ++ its) ++ (List.replicate k its).flatten = acc ++ (List.replicate (k + 1) its).flatten := by
      rw [List.replicate_succ, List.flatten_cons, List.append_assoc]
    rw [← e2, ← foldl_rep its k (acc ++ its), ← e, List.replicate_succ, List.foldl_cons]
section
variable {X : Cx} {pins : List (Addr × Obj)} {σ : St} {H : Hp} {s : Shared} {l b : Addr} {xs ys zs : List V}
theorem Inv.lset {its its' : List Value} {n : Nat} {f : Array Value → Array Value} {t' : Nat} (I : Inv X pins σ H s) (hH : H l = some (.lst xs))
    (e : s.heap.get? l = some { cls := .type "list", data := .seq its.toArray n }) (hf : f its.toArray = its'.toArray) (hv : Vals ys its') (hz : ys.length ≤ sizeLine) :
    Inv X pins σ (upd H l (.lst ys)) { s with heap := s.heap.update l (Obj.mapSeq f), toks := t' } := by
  have q := PySem.IsL.update e f
  rw [hf] at q
  refine I.write (x := l) (e := l) (by rw [hH]; exact trivial) (.inl rfl) (fun b' u hb hu => (Heap.get?_update_other s.heap (Obj.mapSeq f) (Ne.symm hb)).trans hu) ⟨_, q⟩ ?_
  exact ⟨hz, its', _, hv, q⟩
theorem Inv.lnew {its : List Value} {t' : Nat} (I : Inv X pins σ H s) (hv : Vals ys its) (hz : ys.length ≤ sizeLine) :
    Inv X pins σ (upd H s.heap.objs.size (.lst ys)) { s with heap := s.heap.push { cls := .type "list", data := .seq its.toArray }, toks := t' } :=
  I.laid (fun _ _ q => Heap.get?_push_of_some _ q) (Nat.le_refl _) ⟨hz, its, 0, hv, Heap.get?_push_size _ rfl⟩
theorem Inv.fresh (I : Inv X pins σ H s) : H s.heap.objs.size = none := I.hok.fresh (Nat.le_refl _)
theorem Inv.lstM (I : Inv X pins σ H s) (hH : H l = some (.lst xs)) : xs.length ≤ sizeLine ∧ ∃ (its : List Value) (n : Nat), Vals xs its ∧ xs.length = its.length ∧ s.heap.get? l = some { cls := .type "list", data := .seq its.toArray n } := by
  obtain ⟨z, its, n, r, e⟩ := I.hok l _ hH
  exact ⟨z, its, n, r, r.length, e⟩
theorem notLongL {n : Nat} (h : n ≤ sizeLine) : Builtin.List.listTooLong n = false := by
  unfold Builtin.List.listTooLong
  exact decide_eq_false (by omega)
end
section
variable {X : Cx}
noncomputable def rAppend : V → List V → Hp → VK → Prop := fun x vs H Q => ∃ l xs y, x = .ref l ∧ vs = [y] ∧ H l = some (.lst xs) ∧ xs.length < sizeLine ∧ Q .non (upd H l (.lst (xs ++ [y])))
theorem mt_append : MtM X "list.append" rAppend := by
  intro pins s σ H x vs v us Q I rx rv h
  obtain ⟨l, xs, y, rfl, rfl, hH, hz, q⟩ := h
  cases rx
  obtain ⟨u, rfl, ru⟩ := rv.one
  obtain ⟨z, its, n, r, hl, e⟩ := I.lstM hH
  refine call_meets F.slot_list_append ⟨_, e, rfl⟩ F.entry_list_append (F.args_list_append_2 _ _) (PySem.list_append l its.toArray n u (by rw [List.size_toArray]; omega)) ⟨e, ?_⟩
  refine ⟨.non, _, I.lset (its' := its ++ [u]) hH e (by simp) (r.append (.cons ru .nil)) ?_, rfl, q⟩
  rw [List.length_append, List.length_singleton]
  omega
noncomputable def rCat : R2 := fun x y H Q => ∃ l b xs zs, x = .ref l ∧ y = .ref b ∧ H l = some (.lst xs) ∧ H b = some (.lst zs) ∧ xs.length + zs.length ≤ sizeLine ∧ ∀ p, H p = none → Q (.ref p) (upd H p (.lst (xs ++ zs)))
theorem op_cat : OpR X (binaryOp .Add) rCat := by
  intro pins s σ H x y v u Q I rx ry h
  obtain ⟨l, b, xs, zs, rfl, rfl, hH, hB, hz, q⟩ := h
  cases rx
  cases ry
  obtain ⟨z, its, n, r, hl, e⟩ := I.lstM hH
  obtain ⟨z2, its2, n2, r2, hl2, e2⟩ := I.lstM hB
  refine PySem.P.add_list e e2 ?_ (by rw [List.size_toArray, List.size_toArray]; omega)
  have ea : its.toArray ++ its2.toArray = (its ++ its2).toArray := by simp
  rw [ea]
  exact ⟨.ref _, _, I.lnew (t' := s.toks) (r.append r2) (by rw [List.length_append]; omega), rfl, q _ I.fresh⟩
noncomputable def rRep : R2 := fun x y H Q => ∃ l k xs, x = .ref l ∧ y = .int k ∧ H l = some (.lst xs) ∧ -(2 ^ 63) ≤ k ∧ k < 2 ^ 63 ∧ xs.length * k.toNat ≤ sizeLine ∧
  ∀ p, H p = none → Q (.ref p) (upd H p (.lst (List.replicate k.toNat xs).flatten))
theorem len_rep {α : Type} (xs : List α) (k : Nat) : (List.replicate k xs).flatten.length = k * xs.length := by
  induction k with
  | zero => simp
  | succ k ih => rw [List.replicate_succ, List.flatten_cons, List.length_append, ih, Nat.succ_mul, Nat.add_comm]
theorem op_rep : OpR X (binaryOp .Mult) rRep := by
  intro pins s σ H x y v u Q I rx ry h
  obtain ⟨l, k, xs, rfl, rfl, hH, h1, h2, hz, q⟩ := h
  cases rx
  obtain ⟨t, rfl⟩ := ry
  obtain ⟨z, its, n, r, hl, e⟩ := I.lstM hH
  have hlen : its.toArray.size * k.toNat ≤ sizeLine := by rw [List.size_toArray, ← hl]; exact hz
  have hcap : ¬ its.toArray.size * k.toNat > (2 ^ 63 - 1) / 8 := by
    have : (sizeLine : Nat) ≤ (2 ^ 63 - 1) / 8 := by decide
    omega
  have hfit : ¬ (!Builtin.List.listFitsIndex k) = true := by
    rw [fitsIndex_both h1 h2]
    exact Bool.false_ne_true
  have hlong : ¬ Builtin.List.listTooLong (its.toArray.size * k.toNat) = true := by
    rw [notLongL hlen]
    exact Bool.false_ne_true
  have hnew : List.foldl (fun x1 x2 => x1 ++ x2) #[] (List.replicate (if its.toArray.isEmpty = true then 0 else k.toNat) its.toArray) = (List.replicate k.toNat its).flatten.toArray := by
    have f0 : ∀ m : Nat, List.foldl (fun x1 x2 => x1 ++ x2) #[] (List.replicate m its.toArray) = (List.replicate m its).flatten.toArray := fun m => by
      have := foldl_rep its m []
      rw [List.nil_append] at this
      exact this
    rw [f0]
    cases its with
    | nil => simp
    | cons a r' => rw [if_neg (by simp)]
  refine wpAny_binaryOp_repeat_ref (T := "list") (U := "int") (by decide) ⟨_, e, rfl⟩ (fun s' => typeIs_int s' k t) noFill_list_mul F.fills_int_mul F.slot_int_rmul repeat_list F.slot_int_index.lookup
    (call_meets F.slot_int_rmul (typeIs_int s k t) F.entry_int_rmul (F.args_int_rmul_2 _ _) (int___rmul___int_list k t l its.toArray n)
      ⟨e, rfl, ⟨_, e, rfl⟩, call_meets F.slot_list_mul ⟨_, e, rfl⟩ F.entry_list_mul (F.args_list_mul_2 _ _) (AutoListH.list___mul___list_int_3 l its.toArray n k t hfit hcap hlong) ⟨e, ?_⟩⟩)
  rw [hnew]
  exact ⟨.ref _, _, I.lnew (t' := s.toks) (r.rep k.toNat) (by rw [len_rep, Nat.mul_comm]; exact hz), rfl, q _ I.fresh⟩
end
section
variable {prog : Program} {w : World} {A : Around} {E : Value → Shared → Prop} {s : Shared}
end
section
variable {X : Cx}
end
end L2
namespace L2
open PySem PySem.Spec PyProof.Rows
section
variable {κ : Type} [DecidableEq κ]
noncomputable def valV (kvs : List (κ × V)) (k : κ) : Option V := (kvs.find? fun kv => decide (kv.1 = k)).map (·.2)
noncomputable def putK (kvs : List (κ × V)) (k : κ) (v : V) : List (κ × V) :=
  if (kvs.any fun kv => decide (kv.1 = k)) = true then kvs.map (fun kv => if kv.1 = k then (kv.1, v) else kv) else kvs ++ [(k, v)]
noncomputable def dropK (kvs : List (κ × V)) (k : κ) : List (κ × V) := kvs.filter fun kv => decide (kv.1 ≠ k)
theorem valV_pos {p : κ × V} {r : List (κ × V)} {k : κ} (e : p.1 = k) : valV (p :: r) k = some p.2 := by simp [valV, List.find?_cons, e]
theorem valV_neg {p : κ × V} {r : List (κ × V)} {k : κ} (e : ¬ p.1 = k) : valV (p :: r) k = valV r k := by simp [valV, List.find?_cons, e]
theorem valV_any (k : κ) : ∀ kvs : List (κ × V), (kvs.any fun kv => decide (kv.1 = k)) = (valV kvs k).isSome
  | [] => rfl
  | p :: r => by
    rw [List.any_cons]
    by_cases e : p.1 = k
    · simp only [valV_pos e, decide_eq_true e, Bool.true_or, Option.isSome_some]
    · rw [valV_neg e, decide_eq_false e, Bool.false_or]; exact valV_any k r
theorem valV_snoc (k j : κ) (y : V) : ∀ kvs : List (κ × V), valV kvs k = none → valV (kvs ++ [(k, y)]) j = if j = k then some y else valV kvs j
  | [], _ => by
    by_cases e : k = j
    · rw [if_pos e.symm]; exact valV_pos (p := (k, y)) e
    · rw [if_neg (fun z => e z.symm)]; exact valV_neg (p := (k, y)) e
  | p :: r, hn => by
    rw [List.cons_append]
    have hk : ¬ p.1 = k := fun z => by rw [valV_pos z] at hn; cases hn
    rw [valV_neg hk] at hn
    have ih := valV_snoc k j y r hn
    by_cases e : p.1 = j
    · rw [valV_pos e, valV_pos e, if_neg (fun z => hk (e.trans z))]
    · rw [valV_neg e, valV_neg e, ih]
theorem length_putK (kvs : List (κ × V)) (k : κ) (v : V) : (putK kvs k v).length ≤ kvs.length + 1 := by
  unfold putK
  split
  · rw [List.length_map]; omega
  · rw [List.length_append, List.length_cons, List.length_nil]; omega
theorem putK_new {kvs : List (κ × V)} {k : κ} (v : V) (h : valV kvs k = none) : putK kvs k v = kvs ++ [(k, v)] := by
  unfold putK
  rw [valV_any, h]
  exact if_neg (by decide)
theorem RelO.isSome_eq {o : Option V} {u : Option Value} (r : RelO o u) : o.isSome = u.isSome := by
  cases o with
  | none => cases u with
    | none => rfl
    | some _ => exact (show False from r).elim
  | some _ => cases u with
    | none => exact (show False from r).elim
    | some _ => rfl
theorem RelO.getD {o : Option V} {u : Option Value} {d : V} {d' : Value} (r : RelO o u) (rd : RelV d d') : RelV (o.getD d) (u.getD d') := by
  cases o with
  | none => cases u with
    | none => exact rd
    | some _ => exact (show False from r).elim
  | some _ => cases u with
    | none => exact (show False from r).elim
    | some _ => exact r
theorem KV.val {kvs : List (κ × V)} {vs : List (κ × Value)} (r : KV kvs vs) (k : κ) : RelO (valV kvs k) (valueAt vs k) := by
  unfold KV at r
  induction r with
  | nil => exact True.intro
  | @cons p q ps qs h t ih =>
    obtain ⟨h1, h2⟩ := h
    by_cases e : p.1 = k
    · have e' : q.1 = k := h1.symm.trans e
      have b : valueAt (q :: qs) k = some q.2 := by simp [valueAt, List.find?_cons, e']
      rw [valV_pos e, b]; exact h2
    · have e' : ¬ q.1 = k := fun z => e (h1.trans z)
      have b : valueAt (q :: qs) k = valueAt qs k := by simp [valueAt, List.find?_cons, e']
      rw [valV_neg e, b]; exact ih
theorem KV.any {kvs : List (κ × V)} {vs : List (κ × Value)} (r : KV kvs vs) (k : κ) : (kvs.any fun kv => decide (kv.1 = k)) = vs.any fun kv => decide (kv.1 = k) := by
  unfold KV at r
  induction r with
  | nil => rfl
  | cons h t ih => rw [List.any_cons, List.any_cons, ih, h.1]
theorem KV.repl {kvs : List (κ × V)} {vs : List (κ × Value)} (r : KV kvs vs) (k : κ) {y : V} {u : Value} (ry : RelV y u) :
    KV (kvs.map fun kv => if kv.1 = k then (kv.1, y) else kv) (vs.map fun kv => if kv.1 = k then (kv.1, u) else kv) := by
  unfold KV at r ⊢
  induction r with
  | nil => exact .nil
  | @cons p q ps qs h t ih =>
    rw [List.map_cons, List.map_cons]
    refine .cons ?_ ih
    obtain ⟨h1, h2⟩ := h
    by_cases e : p.1 = k
    · rw [if_pos e, if_pos (h1.symm.trans e)]; exact ⟨h1, ry⟩
    · rw [if_neg e, if_neg (fun z => e (h1.trans z))]; exact ⟨h1, h2⟩
theorem KV.put {kvs : List (κ × V)} {vs : List (κ × Value)} (r : KV kvs vs) (k : κ) {y : V} {u : Value} (ry : RelV y u) : KV (putK kvs k y) (stored vs k u) := by
  unfold putK stored
  rw [r.any k]
  by_cases e : (vs.any fun kv => decide (kv.1 = k)) = true
  · rw [if_pos e, if_pos e]; exact r.repl k ry
  · rw [if_neg e, if_neg e]; exact Paired.snoc r ⟨rfl, ry⟩
theorem KV.drop {kvs : List (κ × V)} {vs : List (κ × Value)} (r : KV kvs vs) (k : κ) : KV (dropK kvs k) (without vs k) := by
  unfold KV at r ⊢
  unfold dropK without
  induction r with
  | nil => exact .nil
  | @cons p q ps qs h t ih =>
    obtain ⟨h1, h2⟩ := h
    rw [List.filter_cons, List.filter_cons]
    by_cases e : p.1 = k
    · have a : ¬ decide (p.1 ≠ k) = true := by simp [e]
      have b : ¬ decide (q.1 ≠ k) = true := by simp [h1.symm.trans e]
      rw [if_neg a, if_neg b]; exact ih
    · have e' : ¬ q.1 = k := fun z => e (h1.trans z)
      have a : decide (p.1 ≠ k) = true := by simp [e]
      have b : decide (q.1 ≠ k) = true := by simp [e']
      rw [if_pos a, if_pos b]; exact .cons ⟨h1, h2⟩ ih
theorem KV.keys {kvs : List (κ × V)} {vs : List (κ × Value)} (r : KV kvs vs) : kvs.map (·.1) = vs.map (·.1) := by
  unfold KV at r
  induction r with
  | nil => rfl
  | cons h t ih => rw [List.map_cons, List.map_cons, ih, h.1]
theorem KV.length {kvs : List (κ × V)} {vs : List (κ × Value)} (r : KV kvs vs) : kvs.length = vs.length := Paired.length r
end
theorem kV_is {P : Program} {w : World} {k : Key} {u : Value} (r : RelV (kV k) u) : (mixKind P w).is k u = true := by
  cases k with
  | inl i => obtain ⟨t, e⟩ := (show ∃ t, u = Value.int i t from r); subst e; exact mixKind_int P w i t
  | inr x => obtain ⟨t, e⟩ := (show ∃ t, u = Value.str x t from r); subst e; exact mixKind_str P w x t
theorem items_are {P : Program} {w : World} : ∀ {ks : List Key} {us : List Value}, Vals (ks.map kV) us → ItemsAre (mixKind P w) ks us
  | [], _, r => by rw [List.map_nil] at r; cases r; exact .nil
  | k :: ks, _, r => by
    rw [List.map_cons] at r
    cases r with
    | cons h t => exact .cons (kV_is h) (items_are t)
noncomputable abbrev KT (H : Hp) : List (List Key × V) → List (List Key × Addr × Value) → Prop := Paired fun p q => p.1 = q.1 ∧ H q.2.1 = some (.tup (p.1.map kV)) ∧ RelV p.2 q.2.2
theorem KT.val {H : Hp} {kvs : List (List Key × V)} {xs : List (List Key × Addr × Value)} (r : KT H kvs xs) (k : List Key) : RelO (valV kvs k) ((atKey xs k).map (·.2)) := by
  induction r with
  | nil => exact True.intro
  | @cons p q ps qs h t ih =>
    obtain ⟨h1, _, h2⟩ := h
    by_cases e : p.1 = k
    · have e' : q.1 = k := h1.symm.trans e
      have b : atKey (q :: qs) k = some q.2 := by simp [atKey, List.find?_cons, e']
      rw [valV_pos e, b]; exact h2
    · have e' : ¬ q.1 = k := fun z => e (h1.trans z)
      have b : atKey (q :: qs) k = atKey qs k := by simp [atKey, List.find?_cons, e']
      rw [valV_neg e, b]; exact ih
theorem KT.repl {H : Hp} {kvs : List (List Key × V)} {xs : List (List Key × Addr × Value)} (r : KT H kvs xs) (k : List Key) {y : V} {u : Value} (ry : RelV y u) :
    KT H (kvs.map fun kv => if kv.1 = k then (kv.1, y) else kv) (xs.map (putAt k u)) := by
  induction r with
  | nil => exact .nil
  | @cons p q ps qs h t ih =>
    rw [List.map_cons, List.map_cons]
    refine .cons ?_ ih
    obtain ⟨h1, h2, h3⟩ := h
    unfold putAt
    by_cases e : p.1 = k
    · rw [if_pos e, if_pos (h1.symm.trans e)]; exact ⟨h1, h2, ry⟩
    · rw [if_neg e, if_neg (fun z => e (h1.trans z))]; exact ⟨h1, h2, h3⟩
theorem KT.put {H : Hp} {kvs : List (List Key × V)} {xs : List (List Key × Addr × Value)} (r : KT H kvs xs) (k : List Key) {b : Addr} {y : V} {u : Value} (hb : H b = some (.tup (k.map kV))) (ry : RelV y u) :
    KT H (putK kvs k y) (storedH xs k b u) := by
  have e : (kvs.any fun kv => decide (kv.1 = k)) = (atKey xs k).isSome := by
    rw [valV_any, (r.val k).isSome_eq, Option.isSome_map]
  unfold putK storedH
  rw [e]
  by_cases q : (atKey xs k).isSome = true
  · rw [if_pos q, if_pos q]; exact r.repl k ry
  · rw [if_neg q, if_neg q]; exact Paired.snoc r ⟨rfl, hb, ry⟩
theorem KT.keeps {H H' : Hp} {kvs : List (List Key × V)} {xs : List (List Key × Addr × Value)} (r : KT H kvs xs) (ht : ∀ b ys, H b = some (.tup ys) → H' b = some (.tup ys)) : KT H' kvs xs :=
  Paired.mapP r fun _ _ z => ⟨z.1, ht _ _ z.2.1, z.2.2⟩
section
variable {P : Program} {w : World} {H : Hp} {h : Heap} {a : Addr}
theorem rd_of {u : HO} (ok : HOk P w H h) (e : Rd H a u) : ObjOk P w H h a u := e.ok ok
theorem dk_rd {kvs : List (Key × V)} (ok : HOk P w H h) (e : Rd H a (.dK kvs)) : kvs.length ≤ sizeLine ∧ (a == sysModules) = false ∧ ∃ vs, KV kvs vs ∧ h.DictOf (mixKind P w) a vs :=
  show ObjOk P w H h a (.dK kvs) from rd_of ok e
theorem dk_of {kvs : List (Key × V)} (ok : HOk P w H h) (e : H a = some (.dK kvs)) : kvs.length ≤ sizeLine ∧ (a == sysModules) = false ∧ ∃ vs, KV kvs vs ∧ h.DictOf (mixKind P w) a vs := dk_rd ok (.inl e)
theorem key_of {ks : List Key} (ok : HOk P w H h) (e : H a = some (.tup (ks.map kV))) : (tupleKind (mixKind P w)).is h ks a := by
  obtain ⟨_, its, r, o, h1, h2, n, h3⟩ := (show ObjOk P w H h a (.tup (ks.map kV)) from ok a _ e)
  exact ⟨o, its.toArray, n, h1, h2, h3, by simpa using items_are r⟩
theorem dt_rd {kvs : List (List Key × V)} (ok : HOk P w H h) (e : Rd H a (.dT kvs)) : kvs.length ≤ sizeLine ∧ (a == sysModules) = false ∧
    ∃ xs, KT H kvs xs ∧ h.DictOfH (tupleKind (mixKind P w)) a xs := by
  obtain ⟨z, y, xs, r, o, es, ep, h1, h2, h3, h4, h5⟩ := (show ObjOk P w H h a (.dT kvs) from rd_of ok e)
  refine ⟨z, y, xs, r, o, es, ep, h1, h2, h3, h4, fun x hx => ?_, h5⟩
  have all : ∀ {l : List (List Key × V)} {m : List (List Key × Addr × Value)}, KT H l m → ∀ x ∈ m, (tupleKind (mixKind P w)).is h x.1 x.2.1 := by
    intro l m q
    induction q with
    | nil => intro x hx; exact nomatch hx
    | @cons p q ps qs hq t ih =>
      intro x hx
      rcases List.mem_cons.mp hx with e | hx
      · subst e
        exact key_of ok (by rw [← hq.1]; exact hq.2.1)
      · exact ih x hx
  exact all r x hx
theorem dt_of {kvs : List (List Key × V)} (ok : HOk P w H h) (e : H a = some (.dT kvs)) : kvs.length ≤ sizeLine ∧ (a == sysModules) = false ∧
    ∃ xs, KT H kvs xs ∧ h.DictOfH (tupleKind (mixKind P w)) a xs := dt_rd ok (.inl e)
end
noncomputable def DGet (H : Hp) (a : Addr) (y : V) (r : Option V) : Prop :=
  (∃ kvs k, Rd H a (.dK kvs) ∧ y = kV k ∧ r = valV kvs k) ∨ ∃ kvs k b, Rd H a (.dT kvs) ∧ y = .ref b ∧ H b = some (.tup (k.map kV)) ∧ r = valV kvs k
noncomputable def DPut (H : Hp) (a : Addr) (y v : V) (H' : Hp) : Prop :=
  (∃ kvs k, H a = some (.dK kvs) ∧ y = kV k ∧ kvs.length < sizeLine ∧ H' = upd H a (.dK (putK kvs k v))) ∨
  ∃ kvs k b, H a = some (.dT kvs) ∧ y = .ref b ∧ H b = some (.tup (k.map kV)) ∧ kvs.length < sizeLine ∧ H' = upd H a (.dT (putK kvs k v))
theorem DGet.k {H : Hp} {a : Addr} {kvs : List (Key × V)} {k : Key} (e : H a = some (.dK kvs)) : DGet H a (kV k) (valV kvs k) := .inl ⟨kvs, k, .inl e, rfl, rfl⟩
theorem DGet.t {H : Hp} {a b : Addr} {kvs : List (List Key × V)} {k : List Key} (e : H a = some (.dT kvs)) (eb : H b = some (.tup (k.map kV))) : DGet H a (.ref b) (valV kvs k) := .inr ⟨kvs, k, b, .inl e, rfl, eb, rfl⟩
theorem DPut.k {H : Hp} {a : Addr} {kvs : List (Key × V)} {k : Key} {v : V} (e : H a = some (.dK kvs)) (hl : kvs.length < sizeLine) : DPut H a (kV k) v (upd H a (.dK (putK kvs k v))) := .inl ⟨kvs, k, e, rfl, hl, rfl⟩
theorem DPut.t {H : Hp} {a b : Addr} {kvs : List (List Key × V)} {k : List Key} {v : V} (e : H a = some (.dT kvs)) (eb : H b = some (.tup (k.map kV))) (hl : kvs.length < sizeLine) :
    DPut H a (.ref b) v (upd H a (.dT (putK kvs k v))) := .inr ⟨kvs, k, b, e, rfl, eb, hl, rfl⟩
section
variable {X : Cx} {pins : List (Addr × Obj)} {σ : St} {H : Hp} {s : Shared} {a : Addr} {y v : V} {u r : Value} {o : Option V} {A : Around} {E : Value → Shared → Prop}
theorem Inv.big (I : Inv X pins σ H s) : sysModules < s.heap.objs.size := by
  have h : mainGlobals < s.heap.objs.size := (I.mod.glob.keeps I.bk).lt
  exact Nat.lt_trans (by decide) h
theorem d_in {Q : Value → Shared → Prop} (hu : A.units + 1 < cLine) (I : Inv X pins σ H s) (g : DGet H a y o) (ry : RelV y u) (h : ∀ s', Inv X pins σ H s' → Q (.bool o.isSome) s') :
    wpAny (model X.prog X.w) A (compareOp .In u (.ref a)) Q E s := by
  rcases g with ⟨kvs, k, e, ey, l⟩ | ⟨kvs, k, b, e, ey, eb, l⟩
  · subst ey
    obtain ⟨z, hd, vs, rel, dd⟩ := dk_rd I.hok e
    refine wpAny_in_of (kV_is ry) hd dd.mapOf ?_
    rw [← (rel.val k).isSome_eq, ← l]
    exact h _ (I.tok _)
  · subst ey
    cases (show u = Value.ref b from ry)
    obtain ⟨z, hd, xs, rel, dd⟩ := dt_rd I.hok e
    refine wpAny_in_heap (tupleKind_room_in1 hu) (key_of I.hok eb) hd dd ?_
    have q := (rel.val k).isSome_eq
    rw [Option.isSome_map] at q
    rw [← q, ← l]
    exact h _ (I.tok _)
theorem d_write {h' : Heap} {t' : Nat} {ob : HO} (I : Inv X pins σ H s) (mu : Mut (H a)) (hs : Heap.SameBut a s.heap h') (he : ∃ q, h'.get? a = some q) (new : ObjOk X.prog X.w (upd H a ob) h' a ob) :
    Inv X pins σ (upd H a ob) { s with heap := h', toks := t' } :=
  I.write (x := a) (e := a) mu (.inl rfl) (fun b q hb z => (hs.2 b hb).trans z) he new
theorem dk_new {P : Program} {w : World} {H' : Hp} {h' : Heap} {kvs : List (Key × V)} {vs : List (Key × Value)} (z : kvs.length ≤ sizeLine) (hd : (a == sysModules) = false) (rel : KV kvs vs) (dd : h'.DictOf (mixKind P w) a vs) :
    ObjOk P w H' h' a (.dK kvs) := ⟨z, hd, vs, rel, dd⟩
theorem d_setItem {H' : Hp} {Q : Unit → Shared → Prop} (hu : A.units + 1 < cLine) (I : Inv X pins σ H s) (g : DPut H a y v H') (ry : RelV y u) (rv : RelV v r) (h : ∀ s', Inv X pins σ H' s' → Q () s') :
    wpAny (model X.prog X.w) A (setItem (.ref a) u r) Q E s := by
  rcases g with ⟨kvs, k, e, ey, l, eH⟩ | ⟨kvs, k, b, e, ey, eb, l, eH⟩
  · subst ey eH
    obtain ⟨z, hd, vs, rel, dd⟩ := dk_of I.hok e
    have hz : vs.length ≤ sizeLine := by rw [← rel.length]; exact z
    have hl : (putK kvs k v).length ≤ sizeLine := by have := length_putK kvs k v; omega
    refine wpAny_setItem_pairs (hsz := hz) (kV_is ry) dd fun h' dd' hs => h _ ?_
    have he : ∃ q, h'.get? a = some q := let ⟨q, _, _, hq, _⟩ := dd'; ⟨q, hq⟩
    exact d_write I (by rw [e]; exact True.intro) hs he (dk_new hl hd (rel.put k rv) dd')
  · subst ey eH
    cases (show u = Value.ref b from ry)
    obtain ⟨z, hd, xs, rel, dd⟩ := dt_of I.hok e
    have hz : xs.length ≤ sizeLine := by rw [← Paired.length rel]; exact z
    have hl : (putK kvs k v).length ≤ sizeLine := by have := length_putK kvs k v; omega
    refine wpAny_setItem_heap (hsz := hz) (tupleKind_room_in1 hu) (key_of I.hok eb) dd fun h' dd' hs => h _ ?_
    obtain ⟨q, es, ep, hq, h2, h3, h4, _, h5⟩ := dd'
    refine d_write I (by rw [e]; exact True.intro) hs ⟨q, hq⟩ ⟨hl, hd, _, (rel.put k eb rv).keeps fun c ys ec => ?_, q, es, ep, hq, h2, h3, h4, h5⟩
    rw [upd_ne (ne_of ec e (fun z => nomatch z))]
    exact ec
end
section
variable {X : Cx} {pins : List (Addr × Obj)} {σ : St} {H : Hp} {s : Shared} {a : Addr} {kvs : List (Key × V)} {k : Key} {u : Value} {A : Around} {E : Value → Shared → Prop}
theorem d_clear {Q : Value → Shared → Prop} (I : Inv X pins σ H s) (e : H a = some (.dK kvs)) (h : ∀ s', Inv X pins σ (upd H a (.dK [])) s' → Q .none s') : wpAny (model X.prog X.w) A (call (.builtin "dict.clear") [.ref a]) Q E s := by
  obtain ⟨z, hd, vs, rel, dd⟩ := dk_of I.hok e
  refine call_meetsIn PySem.F.slot_dict_clear dd.typeIs PySem.F.entry_dict_clear (PySem.F.args_dict_clear_1 _) (meets_dict_clear (mixKind X.prog X.w) a) ⟨vs, dd, by rw [← rel.length]; exact z, fun h' dd' hs => h _ ?_⟩
  have he : ∃ q, h'.get? a = some q := let ⟨q, _, _, hq, _⟩ := dd'; ⟨q, hq⟩
  exact d_write (t' := s.toks) I (by rw [e]; exact True.intro) hs he (dk_new (Nat.zero_le _) hd .nil dd')
theorem d_len {Q : Value → Shared → Prop} (I : Inv X pins σ H s) (e : Rd H a (.dK kvs)) (h : ∀ t s', Inv X pins σ H s' → Q (.int kvs.length t) s') : wpAny (model X.prog X.w) A (call (.builtin "len") [.ref a]) Q E s := by
  obtain ⟨z, hd, vs, rel, dd⟩ := dk_rd I.hok e
  refine call_len_dict hd dd (by rw [← rel.length]; rw [sizeLine_eq] at z; omega) ?_
  rw [← rel.length]
  exact h _ _ (I.tok _)
end
noncomputable def tDGet (td ty : TE) : TE := fun σ H Q => td σ H fun x H1 => ty σ H1 fun y H2 => ∃ a v, x = .ref a ∧ DGet H2 a y (some v) ∧ Q v H2
noncomputable def sDPut (td ty tv : TE) : TS := fun D σ H => tv σ H fun v H1 => td σ H1 fun x H2 => ty σ H2 fun y H3 => ∃ a H4, x = .ref a ∧ DPut H3 a y v H4 ∧ D.nx σ H4
section
variable {X : Cx} {o i e value : Expr} {pos pos' tpos : Pos} {td ty tv : TE}
theorem ps_dput (hu : X.A.units + 1 < cLine) (ho : PE X o td) (hi : PE X i ty) (hv : PE X value tv) (hs : swapsWith value (some (.Subscript o i pos')) pos.line X.env = pure false) :
    PS X (.Assign [.Subscript o i pos'] value pos) (sDPut td ty tv) := by
  intro pins s σ H D I h
  refine wpAny_Assign_Subscript (thn (hv pins s σ H _ I h) fun r s1 ⟨v, H1, I1, rv, q1⟩ => thn (ho pins s1 σ H1 _ I1 q1) fun u s2 ⟨x, H2, I2, rx, q2⟩ => thn (hi pins s2 σ H2 _ I2 q2) fun iv s3 ⟨y, H3, I3, ry, a, H4, ex, g, q3⟩ => ?_) hs
  subst ex
  obtain rfl : u = Value.ref a := rx
  exact d_setItem hu I3 g ry rv fun s4 I4 => ⟨σ, H4, I4, q3⟩
end
theorem dk_empty {P : Program} {w : World} {H : Hp} (h : Heap) (hb : sysModules < h.objs.size) : ObjOk P w H (h.push { cls := .type "dict", data := .dict #[] }) h.objs.size (.dK []) :=
  ⟨Nat.zero_le _, beq_eq_false_iff_ne.mpr (Ne.symm (Nat.ne_of_lt hb)), [], .nil, Heap.DictOf.new h⟩
section
variable {X : Cx} {pos : Pos}
end
noncomputable def tPairs : List (TE × TE) → St → Hp → (List (V × V) → Hp → Prop) → Prop
  | [], _, H, Q => Q [] H
  | (tk, tv) :: r, σ, H, Q => tk σ H fun x H1 => tv σ H1 fun y H2 => tPairs r σ H2 fun ps H3 => Q ((x, y) :: ps) H3
noncomputable abbrev VV : List (V × V) → List (Value × Value) → Prop := Paired fun p q => RelV p.1 q.1 ∧ RelV p.2 q.2
noncomputable def PPs (X : Cx) (pos : Pos) (keys : List (Option Expr)) (values : List Expr) (trs : List (TE × TE)) : Prop :=
  ∀ (pins : List (Addr × Obj)) (s : Shared) (σ : St) (H : Hp) (Q : List (V × V) → Hp → Prop), Inv X pins σ H s → tPairs trs σ H Q →
    wpAny (model X.prog X.w) X.A (evalPairs (pairTrees keys values X.env pos)) (fun vs s' => ∃ ps H', Inv X pins σ H' s' ∧ VV ps vs ∧ Q ps H') X.xe s
theorem pps_nil {X : Cx} {pos : Pos} : PPs X pos [] [] [] := fun pins s σ H Q I h => pairTrees_nil_walk ⟨[], H, I, .nil, h⟩
theorem pps_cons {X : Cx} {pos : Pos} {k v : Expr} {ks : List (Option Expr)} {vs : List Expr} {tk tv : TE} {trs : List (TE × TE)} (hk : PE X k tk) (hv : PE X v tv) (hr : PPs X pos ks vs trs) :
    PPs X pos (some k :: ks) (v :: vs) ((tk, tv) :: trs) := fun pins s σ H Q I h =>
  pairTrees_cons_walk (thn (hk pins s σ H _ I h) fun u s1 ⟨x, H1, I1, rx, q1⟩ => thn (hv pins s1 σ H1 _ I1 q1) fun w2 s2 ⟨y, H2, I2, ry, q2⟩ =>
    thn (hr pins s2 σ H2 _ I2 q2) fun ws s3 ⟨ps, H3, I3, rel, q3⟩ => ⟨(x, y) :: ps, H3, I3, .cons ⟨rx, ry⟩ rel, q3⟩)
noncomputable def mergeK (kvs more : List (Key × V)) : List (Key × V) := more.foldl (fun acc kv => putK acc kv.1 kv.2) kvs
theorem KV.merge : ∀ {more : List (Key × V)} {rs : List (Key × Value)} {kvs : List (Key × V)} {vs : List (Key × Value)}, KV more rs → KV kvs vs → KV (mergeK kvs more) (merged vs rs) := by
  intro more rs kvs vs r
  unfold KV at r
  induction r generalizing kvs vs with
  | nil => intro q; exact q
  | @cons p q ps qs h t ih =>
    intro r0
    have e : KV (putK kvs p.1 p.2) (stored vs q.1 q.2) := by
      have := r0.put p.1 h.2
      rw [← h.1]; exact this
    exact ih e
theorem length_mergeK : ∀ (more kvs : List (Key × V)), (mergeK kvs more).length ≤ kvs.length + more.length
  | [], kvs => by show kvs.length ≤ kvs.length + 0; omega
  | p :: r, kvs => by
    have h1 := length_mergeK r (putK kvs p.1 p.2)
    have h2 := length_putK kvs p.1 p.2
    show (mergeK (putK kvs p.1 p.2) r).length ≤ _
    rw [List.length_cons]; omega
theorem carries_of {P : Program} {w : World} : ∀ {kvs : List (Key × V)} {ws : List (Value × Value)}, VV (kvs.map fun kv => (kV kv.1, kv.2)) ws → ∃ rs, Carries (mixKind P w) ws rs ∧ KV kvs rs
  | [], _, r => by rw [List.map_nil] at r; cases r; exact ⟨[], True.intro, .nil⟩
  | p :: kvs, _, r => by
    rw [List.map_cons] at r
    cases r with
    | @cons a b as bs h t =>
      obtain ⟨rs, c, q⟩ := carries_of (P := P) (w := w) t
      obtain ⟨b1, b2⟩ := b
      exact ⟨(p.1, b2) :: rs, ⟨kV_is h.1, rfl, c⟩, .cons ⟨rfl, h.2⟩ q⟩
noncomputable def tDisp (trs : List (TE × TE)) : TE := fun σ H Q => ∀ p, H p = none → tPairs trs σ (upd H p (.dK [])) fun ps H2 => H2 p = some (.dK []) ∧ ∃ kvs : List (Key × V), ps = kvs.map (fun kv => (kV kv.1, kv.2)) ∧ kvs.length ≤ 15 ∧ Q (.ref p) (upd H2 p (.dK (mergeK [] kvs)))
theorem pe_disp {X : Cx} {pos : Pos} {keys : List (Option Expr)} {values : List Expr} {trs : List (TE × TE)} (h : PPs X pos keys values trs) (hall : keys.all (·.isSome) = true) (hl : keys.length = values.length) (h0 : keys ≠ [])
    (h15 : keys.length ≤ 15) : PE X (.Dict keys values pos) (tDisp trs) := by
  intro pins s σ H Q I q
  have hn := I.hok.fresh (Nat.le_refl s.heap.objs.size)
  have I1 := I.laid (a := s.heap.objs.size) (o := .dK []) (h' := s.heap.push { cls := .type "dict", data := .dict #[] }) (t' := s.toks) (fun _ _ q => Heap.get?_push_of_some _ q) (Nat.le_refl _) (dk_empty s.heap I.big)
  refine wpAny_Dict_walk (knd := mixKind X.prog X.w) hall hl h0 h15 (thn (h pins _ σ _ _ I1 (q _ hn)) fun ws s2 ⟨ps, H2, I2, rel, e, kvs, ep, lk, q2⟩ => ?_)
  subst ep
  obtain ⟨rs, c, rk⟩ := carries_of (P := X.prog) (w := X.w) rel
  obtain ⟨z, hd, vs0, r0, dd⟩ := dk_of I2.hok e
  cases r0
  refine ⟨rs, c, dd, fun h' dd' hs => ⟨.ref s.heap.objs.size, _, ?_, rfl, q2⟩⟩
  have hz : (mergeK [] kvs).length ≤ sizeLine := by
    have h1 := length_mergeK kvs []
    rw [List.length_nil] at h1
    rw [sizeLine_eq]; omega
  have he : ∃ q, h'.get? s.heap.objs.size = some q := let ⟨q, _, _, hq, _⟩ := dd'; ⟨q, hq⟩
  exact d_write I2 (by rw [e]; exact True.intro) hs he (dk_new hz hd (rk.merge .nil) dd')
noncomputable def IsD (H : Hp) (a : Addr) : Prop := (∃ kvs, Rd H a (.dK kvs)) ∨ ∃ kvs, Rd H a (.dT kvs)
section
variable {X : Cx} {pins : List (Addr × Obj)} {σ : St} {H : Hp} {s : Shared} {a : Addr} {y d : V} {u r : Value} {o : Option V} {A : Around} {E : Value → Shared → Prop}
end
noncomputable def tDGet2 (td ty tx : TE) : TE := fun σ H Q => td σ H fun x H1 => ∃ a, x = .ref a ∧ IsD H1 a ∧ ty σ H1 fun y H2 => tx σ H2 fun z H3 => ∃ o, DGet H3 a y o ∧ Q (o.getD z) H3
section
variable {X : Cx} {o e f : Expr} {apos cpos : Pos} {td ty tx : TE}
end
section
variable {X : Cx} {pins : List (Addr × Obj)} {σ : St} {H : Hp} {s : Shared} {a : Addr} {kvs : List (Key × V)} {A : Around} {E : Value → Shared → Prop}
theorem d_copyOf {Q : Value → Shared → Prop} (I : Inv X pins σ H s) (e : Rd H a (.dK kvs)) (h : ∀ p s', H p = none → Inv X pins σ (upd H p (.dK kvs)) s' → Q (.ref p) s') : wpAny (model X.prog X.w) A (call (.type "dict") [.ref a]) Q E s := by
  obtain ⟨z, hd, vs, rel, dd⟩ := dk_rd I.hok e
  refine kt_call_dict hd dd (by rw [← rel.length]; exact z) fun h' dd' hs => ?_
  refine h _ _ (I.hok.fresh (Nat.le_refl _)) (I.laid (a := s.heap.objs.size) (o := .dK kvs) (t' := s.toks) (fun b q hq => ?_) (Nat.le_refl _) (dk_new z (beq_eq_false_iff_ne.mpr (Ne.symm (Nat.ne_of_lt I.big))) rel dd'))
  exact (hs.2 b (Nat.ne_of_lt (Heap.lt_size hq))).trans (Heap.get?_push_of_some _ hq)
end
section
variable {X : Cx} {pins : List (Addr × Obj)} {σ : St} {H : Hp} {s : Shared} {a : Addr} {y : V} {u : Value} {A : Around} {E : Value → Shared → Prop}
end
end L2
namespace Att
open PySem PySem.W PySem.Calls PyProof.Rows
theorem ints_of_wellAll {P : Params} {h : Heap} : ∀ (ns : List Int) (vs : List Value), WellAll P h vs (ns.map WData.int) → IntsAre vs ns := by
  intro ns
  induction ns with
  | nil =>
    intro vs w
    rw [List.map_nil] at w
    cases w
    exact .nil
  | cons n ns ih =>
    intro vs w
    rw [List.map_cons] at w
    cases w with
    | cons a b =>
      cases a
      exact .cons _ _ (ih _ b)
theorem script_of {l : OpenLaw} {n : Nat} (hn : l.most = some n) {P : Params} {h : Heap} {args : List WData} {vals : List Value}
    (hpre : l.row.toRowW.claim.pre args = true) (hwl : WellAll P h vals args) :
    ∃ a vs ns, vals = [Value.ref a] ∧ args = [WData.list (ns.map WData.int)] ∧ h.get? a = some { cls := .type "list", data := .seq vs.toArray } ∧ IntsAre vs ns ∧ ns.length ≤ n := by
  have hsh : WShape.hasAll [] args [.list .int] = true := (pre_splitW hpre).1
  have hc : l.pre.holds [] { args := args } = true := (pre_splitW hpre).2
  obtain ⟨d, r, rfl, h1, h2⟩ := hasAllW_cons hsh
  obtain rfl := hasAllW_nil h2
  obtain ⟨xs, rfl, h3⟩ := hasW_list h1
  obtain ⟨ns, rfl⟩ := items_int h3
  have hlen : ns.length ≤ n := by
    unfold OpenLaw.pre at hc
    have h4 : (WTm.not (.lt (.lit (.int (n : Int))) (.len (.arg 0)))).holds [] { args := [.list (ns.map .int)] } = true := by
      have h4 := (holds_andW hc).1
      rw [hn] at h4
      exact h4
    have h5 := condW_of h4 (w_not (w_lt w_lit (w_len_list (w_arg rfl))))
    rw [List.length_map] at h5
    refine Nat.le_of_not_lt fun q => ?_
    have q' : (n : Int) < ((ns.length : Nat) : Int) := by omega
    first
      | (rw [decide_eq_true q'] at h5; exact absurd h5 (by decide))
      | (simp at h5; omega)
  cases hwl with
  | cons w1 w2 =>
    cases w2
    cases w1 with
    | list ho hall => exact ⟨_, _, ns, rfl, rfl, ho, ints_of_wellAll ns _ hall, hlen⟩
theorem post_true (l : OpenLaw) (args : List WData) : l.row.toRowW.claim.post args (.bool true) args = true :=
  postW_of (r := l.row.toRowW) (X := (true == true))
    (show WShape.has [] (.bool true) .bool = true by first | rfl | decide | simp [WShape.has, WShape.arms, WShape.armsAll])
    (show (WTm.eq .res (.lit (.bool true))).value [] { args := args, res := some (.bool true), after := args } = some (.bool (true == true)) from w_eq_bool (w_res rfl) w_lit) rfl
theorem attach_call {l : OpenLaw} {n : Nat} {q : Program} {loose : List Str} {XP : (Str → Option Value) → Heap → Prop} {YP : World → Heap → Prop} {d : DefRec}
    (hn : l.most = some n) (hdf : d.params.defaults = [])
    (call : ∀ (w : World) (s₀ s₁ : Shared) (mg mb : Str → Option Value) (fa : Addr) (o : Obj) (pm cd doc : Value) (a : Addr) (vs : List Value) (ns : List Int),
      Ground q loose [] XP w s₀ mg mb s₁.heap → YP w s₁.heap →
      s₁.heap.get? fa = some o → o.data = .func (docDef d.name d.params d.body d.scope pm cd doc) → s₁.heap.CodeRec cd d.name → mg d.name = some (.ref fa) →
      s₁.heap.get? a = some { cls := .type "list", data := .seq vs.toArray } → IntsAre vs ns → ns.length ≤ n → s₁.gens = #[] →
      codeAny (model l.prog w) callerA (.call (.ref fa) ⟨[.ref a], []⟩) (fun r s' => r = .ok (.ret (.bool true)) ∧ OldK s₁.heap s'.heap ∧ s'.os = s₁.os ∧ AllBare s'.gens) s₁) :
    WalkO q loose XP YP l.row.toRowW d [] (fun f vs => PySem.call f vs) := by
  intro w s₀ s₁ mg mb G Y fa o pm cd doc dV kV ho hd hcd hD hmg hg args vals as hpre hlay hrd hwl hlo
  obtain rfl : dV = .none := Dflts.none hD hdf
  obtain rfl : kV = .none := Dflts.noKw hD
  obtain ⟨a, vs, ns, rfl, rfl, hobj, hints, hlen⟩ := script_of hn hpre hwl
  refine enter_call (codeAny_mono (call w s₀ s₁ mg mb fa o pm cd doc a vs ns G Y ho (fd_plain hd) hcd hmg hobj hints hlen hg) fun r s' hq => ?_)
  obtain ⟨rfl, h2, h3, h4⟩ := hq
  exact ⟨.inl ⟨.bool true, .bool true, [], rfl, fun _ => rfl, .bool true, post_true l _, fun _ => ⟨List.Pairwise.nil, fun _ hm => (nomatch hm)⟩⟩, h2, h3, h4⟩
section
variable {prog : Program} {w : World} {A : Around} {E : Value → Shared → Prop} {s : Shared} {K : Frag}
end
end Att
namespace L2
open PySem PySem.Spec PyProof.Rows
theorem vals_ints : ∀ {vs : List Value} {ns : List Int}, IntsAre vs ns → Vals (ns.map V.int) vs
  | _, _, .nil => .nil
  | _, _, .cons n t h => .cons ⟨t, rfl⟩ (vals_ints h)
noncomputable def Only (H : Hp) : Prop := ∀ b, H b = none ∨ ∃ o xs, H b = some (.frz o (.lst xs))
theorem law_call {P : Program} {w : World} {K : PySem.W.Frag} {mg mb : Str → Option Value} {CX : CXT} {k : Nat} {fa a : Addr} {fd : FuncData} {x : Str} {sp : Sp} {s₁ : Shared} {vs : List Value} {ns : List Int}
    (KX : K.In s₁.heap) (hns : s₁.heap.Ns mainGlobals mg) (hb : s₁.heap.Ns builtinsNs mb) (hbb : ∀ x : Str, x ≠ "__name__" → mb x = bootBuiltins x) (hlim : s₁.heap.NoLimit) (hg : s₁.gens = #[])
    (ha : s₁.heap.get? a = some { cls := .type "list", data := .seq vs.toArray }) (hi : IntsAre vs ns) (hl : ns.length ≤ sizeLine) (hr : Room k callerA)
    (F : ∀ base : Heap, K.In base → base.Ns mainGlobals mg → FnOk P w K mg base CX k fa fd [x] sp) (hbind : ∀ (s : Shared) (u : Value), BindsTo s fd ⟨[u], []⟩ [(x, u)])
    (hsp : ∀ H : Hp, Only H → SqL K H a (ns.map V.int) → sp [.ref a] H (fun v _ => v = .bl true) fun _ _ _ => False)
    (hCX : ∀ H e s', CX [] H s₁ (fun _ _ _ => False) e s' → False) :
    codeAny (model P w) callerA (.call (.ref fa) ⟨[.ref a], []⟩) (fun r s' => r = .ok (.ret (.bool true)) ∧ OldK s₁.heap s'.heap ∧ s'.os = s₁.os ∧ AllBare s'.gens) s₁ := by
  have rv := vals_ints hi
  have lenV := hi.length
  have core : ∀ H : Hp, Only H → SqL K H a (ns.map V.int) → HOk P w H s₁.heap → (∀ b, H b ≠ none → b = a) → (H a ≠ none → K.lookup a = none) →
      codeAny (model P w) callerA (.call (.ref fa) ⟨[.ref a], []⟩) (fun r s' => r = .ok (.ret (.bool true)) ∧ OldK s₁.heap s'.heap ∧ s'.os = s₁.os ∧ AllBare s'.gens) s₁ := by
    intro H hO hS hok hA hK
    have base_of : ∀ {b : Addr} {o : Obj}, s₁.heap.get? b = some o → H b = none → (hidT s₁.heap H).get? b = some o := fun e n => hidT_get e n
    have noA : ∀ {b : Addr} {o : Obj} {es : Array DictEntry} {ep : Nat}, s₁.heap.get? b = some o → o.data = .dict es ep → H b = none := fun {b o es ep} e d => by
      cases q : H b with
      | none => rfl
      | some u =>
        have e' : b = a := hA b (by rw [q]; simp)
        subst e'
        rw [ha] at e; cases e
        have d' : Data.seq vs.toArray _ = Data.dict es ep := d
        cases d'
    have nsK : ∀ {b : Addr} {m : Str → Option Value}, s₁.heap.Ns b m → (hidT s₁.heap H).Ns b m := fun {b m} ⟨o, es, ep, e, d, r⟩ => ⟨o, es, ep, base_of e (noA e d), d, r⟩
    have hKb : K.In (hidT s₁.heap H) := fun b o e => base_of (KX b o e) (by
      cases q : H b with
      | none => rfl
      | some u =>
        have e' : b = a := hA b (by rw [q]; simp)
        subst e'
        rw [hK (by rw [q]; simp)] at e; cases e)
    have hM : Mod K mg (hidT s₁.heap H) := ⟨hKb, nsK hns, ⟨mb, nsK hb, hbb⟩, let ⟨mc, h1, h2⟩ := hlim; ⟨mc, nsK h1, h2⟩⟩
    have e0 : Env0 P w K mg (hidT s₁.heap H) callerA [] s₁ H := ⟨rfl, hM, fun b o e => of_hidT e, Nat.le_of_eq (hidT_size _ _), trivial, fun b hb => absurd (show b ∈ ([] : List Addr) from hb) (by simp), hok, .of_eq hg⟩
    refine codeAny_mono ((F _ hKb (nsK hns)).run callerA [] s₁ H ⟨[.ref a], []⟩ [.ref a] [.ref a] _ _ hr e0 (hbind s₁ (.ref a)) (.cons rfl .nil) (hsp H hO hS)) fun r s' h => ?_
    cases r with
    | error e => exact (hCX H e s' h).elim
    | ok fl =>
      cases fl with
      | next => exact False.elim h
      | brk => exact False.elim h
      | cont => exact False.elim h
      | ret u =>
        obtain ⟨v, H', os, bare, un, hok', r', q⟩ := h
        have q' : v = .bl true := q
        subst q'
        obtain rfl : u = Value.bool true := r'
        refine ⟨rfl, OldK.of_keep fun b o e => ?_, os, bare⟩
        cases q : H b with
        | none => exact un.keep b o e q (by intro z; exact absurd (show b ∈ ([] : List Addr) from z) (by simp)) (by simp)
        | some u =>
          rcases hO b with z | ⟨ob, xs, z⟩
          · rw [q] at z; cases z
          · have z2 := un.frzs b ob _ z
            obtain ⟨e1, _⟩ := hok b _ z
            obtain ⟨e2, _⟩ := hok' b _ z2
            rw [e] at e1; cases e1
            exact e2
  cases hk : K.lookup a with
  | some o =>
    have e := KX a o hk
    rw [ha] at e
    cases e
    refine core (fun _ => none) (fun _ => .inl rfl) (.inr ⟨_, vs.toArray, _, hk, rfl, rfl, rfl, by rw [List.size_toArray, lenV]; exact hl, by simpa using rv⟩) (fun b u z => by have z' : (none : Option HO) = some u := z; cases z') (fun b z => absurd rfl z) fun z => absurd rfl z
  | none =>
    refine core (fun b => if b = a then some (.frz { cls := .type "list", data := .seq vs.toArray } (.lst (ns.map V.int))) else none) (fun b => ?_) (.inl (.inr ⟨{ cls := .type "list", data := .seq vs.toArray }, if_pos rfl⟩)) (fun b u z => ?_) (fun b z => ?_) fun _ => hk
    · by_cases hb : b = a
      · exact .inr ⟨_, _, if_pos hb⟩
      · exact .inl (if_neg hb)
    · by_cases hb : b = a
      · have z' := (if_pos hb).symm.trans z
        cases z'
        subst hb
        exact ⟨ha, by rw [List.length_map]; exact hl, vs, _, rv, ha⟩
      · have z' := (if_neg hb).symm.trans z
        cases z'
    · by_cases hb : b = a
      · exact hb
      · exact absurd (if_neg hb) z
end L2
namespace L2
open PySem PySem.Spec PyProof.Rows
noncomputable abbrev KOf {K : PySem.W.Frag} {h : Heap} (_ : K.In h) : PySem.W.Frag := K
theorem walk_of {l : PySem.W.OpenLaw} {n k : Nat} {q : Program} {loose : List Str} {XP : (Str → Option Value) → Heap → Prop} {YP : World → Heap → Prop} {d : DefRec} {K : Params → PySem.W.Frag} {CX : World → CXT} {sp : World → Sp} {x : Str}
    (hn : l.most = some n) (hn2 : n ≤ sizeLine) (hdf : d.params.defaults = []) (hr : Room k callerA)
    (hY : ∀ (w : World) (h : Heap), YP w h → (K w.params).In h)
    (F : ∀ (w : World) (mg : Str → Option Value) (fa : Addr) (h : Heap), (K w.params).In h → h.Ns mainGlobals mg → mg d.name = some (.ref fa) →
      ∃ fd : FuncData, (∀ (s : Shared) (u : Value), BindsTo s fd ⟨[u], []⟩ [(x, u)]) ∧
        ∀ base : Heap, (K w.params).In base → base.Ns mainGlobals mg → FnOk l.prog w (K w.params) mg base (CX w) k fa fd [x] (sp w))
    (hsp : ∀ (w : World) (H : Hp) (a : Addr) (ns : List Int), ns.length ≤ n → Only H → SqL (K w.params) H a (ns.map V.int) → sp w [.ref a] H (fun v _ => v = .bl true) fun _ _ _ => False)
    (hCX : ∀ (w : World) (H : Hp) (s : Shared) (e : Value) (s' : Shared), CX w [] H s (fun _ _ _ => False) e s' → False) :
    PySem.W.WalkO q loose XP YP l.row.toRowW d [] (fun f vs => PySem.call f vs) := by
  refine Att.attach_call hn hdf fun w s₀ s₁ mg mb fa o pm cd doc a vs ns G Y ho hd hcd hmg hobj hints hlen hg => ?_
  have KX := hY w _ Y
  obtain ⟨fd, hb, hF⟩ := F w mg fa _ KX G.T.g hmg
  exact law_call KX G.T.g G.T.b G.T.builtins G.T.nolimit hg hobj hints (Nat.le_trans hlen hn2) hr hF hb (fun H hO hS => hsp w H a ns hlen hO hS) fun H e s' => hCX w H s₁ e s'
end L2
namespace L2
open PySem PySem.Spec PyProof.Rows
noncomputable def inClass (s : Stmt) (j : Nat) : Stmt := match s with
  | .ClassDef _ _ _ body _ _ _ _ _ _ _ => body.getD j (.Pass ⟨0, 0, 0, 0⟩)
  | _ => .Pass ⟨0, 0, 0, 0⟩
noncomputable def defArgs (s : Stmt) : Arguments := match s with
  | .FunctionDef _ a _ _ _ _ _ _ _ _ => a
  | _ => { posonlyargs := [], args := [], vararg := none, kwonlyargs := [], kw_defaults := [], kwarg := none, defaults := [] }
noncomputable def defBody (s : Stmt) : List Stmt := match s with
  | .FunctionDef _ _ b _ _ _ _ _ _ _ => b
  | _ => []
noncomputable def defScope (s : Stmt) : Scope := match s with
  | .FunctionDef _ _ _ _ _ _ sc _ _ _ => sc
  | _ => { kind := .function, names := [], isGenerator := false, isCoroutine := false }
noncomputable abbrev CX0 : CXT := fun _ _ _ _ _ _ => False
noncomputable abbrev E0 : XK := fun _ _ _ => False
theorem pass0 {X : Cx} : Passes CX0 X E0 := fun _ _ _ _ _ _ _ h => h.elim
structure Fun (K : PySem.W.Frag) (x qual : Str) (st : Stmt) (f : Addr) (fd : FuncData) : Prop where
  ex : ∃ (oc : Value) (od : Option Addr) (kV doc pm : Value) (an : Option Addr) (cdv ct : Value) (osl : Array (Option Value)),
    fd = PySem.W.fnOf x qual (defArgs st) (defBody st) (defScope st) .none kV doc pm an cdv ct ∧ K.lookup f = some ⟨oc, od, .func fd, osl⟩ ∧ PySem.W.codeIn K cdv qual = true
  kp : PySem.W.keepIn K (.ref f) = true
section
variable {P : Program} {w : World} {K : PySem.W.Frag} {mg : Str → Option Value} {base : Heap}
theorem Fun.ok {x qual : Str} {st : Stmt} {f : Addr} {fd : FuncData} {N ps : List Str} {k : Nat} {sp : Sp} (F : Fun K x qual st f fd) (S : FnScope N ps (defScope st)) (len : ∀ vs H Q E, sp vs H Q E → vs.length = ps.length)
    (hbody : ∀ (cdv : Value) (A : Around) (outer : List Env) (s : Shared) (H : Hp) (vs : List V) (Q : VK) (E : XK), Room k (A.deeper (envOfC qual (defScope st) s.heap.objs.size f cdv)) → sp vs H Q E →
      ∃ t, PSs (cxOf CX0 P w K mg base N qual (defScope st) f cdv A outer s H E).nox (defBody st) t ∧ t { nx := fun _ H' => Q .non H', rt := Q } (start N vs) H) : FnOk P w K mg base CX0 (k + 1) f fd ps sp := by
  obtain ⟨oc, od, kV, doc, pm, an, cdv, ct, osl, rfl, lk, hcd⟩ := F.ex
  refine fn_of lk hcd S len fun A outer s H vs Q E hr hsp => ?_
  obtain ⟨t, h, q⟩ := hbody cdv A outer s H vs Q E hr hsp
  exact ⟨t, h.nox, q⟩
theorem Fun.binds {x qual : Str} {st : Stmt} {f : Addr} {fd : FuncData} {ps : List Str} (F : Fun K x qual st f fd)
    (h : ∀ (kV doc pm : Value) (an : Option Addr) (cdv ct : Value) (us : List Value), us.length = ps.length → bindArgs (PySem.W.fnOf x qual (defArgs st) (defBody st) (defScope st) .none kV doc pm an cdv ct) ⟨us, []⟩ = pure (ps.zip us)) : Binds K fd ps [] := by
  obtain ⟨oc, od, kV, doc, pm, an, cdv, ct, osl, rfl, lk, hcd⟩ := F.ex
  exact .all (h kV doc pm an cdv ct)
theorem fun_mk {x qual : Str} {st : Stmt} {f : Addr} {oc : Value} {od an : Option Addr} {osl : Array (Option Value)} {kV doc pm cdv ct : Value} (l : K.lookup f = some ⟨oc, od, .func (PySem.W.fnOf x qual (defArgs st) (defBody st) (defScope st) .none kV doc pm an cdv ct), osl⟩)
    (c : PySem.W.codeIn K cdv qual = true) (k : PySem.W.keepIn K (.ref f) = true) : Fun K x qual st f (PySem.W.fnOf x qual (defArgs st) (defBody st) (defScope st) .none kV doc pm an cdv ct) := ⟨⟨oc, od, kV, doc, pm, an, cdv, ct, osl, rfl, l, c⟩, k⟩
end
theorem hu_of {A : Around} {k : Nat} (hr : Room k A) : A.units + 1 < cLine := Nat.lt_of_le_of_lt (Nat.add_le_add_left (by decide : 1 ≤ 64) _) hr.units
section
variable {X : Cx}
end
theorem iteF {A B : Prop} (h : B) : if false = true then A else B := by
  rw [if_neg Bool.false_ne_true]
  exact h
theorem iteT {A B : Prop} (h : A) : if true = true then A else B := by
  rw [if_pos rfl]
  exact h
noncomputable def Same (H H' : Hp) : Prop := ∀ b o, H b = some o → H' b = some o
theorem Same.refl (H : Hp) : Same H H := fun _ _ h => h
theorem Same.trans {H H1 H2 : Hp} (a : Same H H1) (b : Same H1 H2) : Same H H2 := fun c o h => b c o (a c o h)
theorem Same.free {H H' : Hp} (e : Same H H') {l : Addr} (h : H' l = Option.none) : H l = Option.none := by
  cases q : H l with
  | none => rfl
  | some o =>
    rw [e l o q] at h
    cases h
theorem Same.seq {K : PySem.W.Frag} {H H' : Hp} {a : Addr} {xs : List V} (e : Same H H') (h : SqL K H a xs) : SqL K H' a xs := by
  rcases h with (h | ⟨o, h⟩) | h
  · exact .inl (.inl (e _ _ h))
  · exact .inl (.inr ⟨o, e _ _ h⟩)
  · exact .inr h
section
variable {X : Cx}
theorem call_lenD : CallR X (.builtin "len") (fun xs H Q => ∃ a kvs, xs = [V.ref a] ∧ H a = some (.dK kvs) ∧ Q (.int kvs.length) H) := by
  intro pins s σ H xs us Q I r h
  obtain ⟨a, kvs, rfl, ha, q⟩ := h
  obtain ⟨u, rfl, ru⟩ := vals1 r
  cases ru
  exact d_len I (.inl ha) fun t s' I' => ⟨.int kvs.length, H, I', ⟨t, rfl⟩, q⟩
end
section
variable {κ : Type} [DecidableEq κ]
theorem valV_in {kvs : List (κ × V)} {k : κ} {v : V} (h : valV kvs k = some v) : k ∈ kvs.map (·.1) := by
  have q : (kvs.any fun kv => decide (kv.1 = k)) = true := by
    rw [valV_any, h]
    all_goals rfl
  obtain ⟨p, hp, e⟩ := List.any_eq_true.mp q
  exact List.mem_map.mpr ⟨p, hp, of_decide_eq_true e⟩
end
end L2
set_option Elab.async false
set_option linter.all false
set_option maxRecDepth 100000
set_option maxHeartbeats 4000000
namespace L2
open PySem PySem.Spec PyProof.Rows
noncomputable def clOf (env : Env) : List (Str × NameKind) → List (Str × Addr) → List (Str × Addr)
  | [], acc => acc
  | (n, k) :: r, acc => if k = .free then clOf env r ((n, (env.cells.lookup n).getD 0) :: acc) else clOf env r acc
theorem forIn_cl {env : Env} (f : (Str × NameKind) → List (Str × Addr) → Sem (ForInStep (List (Str × Addr))))
    (h1 : ∀ n r c, env.cells.lookup n = some c → f (n, .free) r = pure (.yield ((n, c) :: r))) (h2 : ∀ n k r, k ≠ .free → f (n, k) r = pure (.yield r)) :
    ∀ (l : List (Str × NameKind)) (acc : List (Str × Addr)), (∀ y ∈ l, y.2 = .free → ∃ c, env.cells.lookup y.1 = some c) → forIn l acc f = pure (clOf env l acc)
  | [], acc, _ => by rw [List.forIn_nil]; rfl
  | (n, k) :: r, acc, h => by
    have hr : ∀ y ∈ r, y.2 = .free → ∃ c, env.cells.lookup y.1 = some c := fun y hy => h y (List.mem_cons_of_mem _ hy)
    rw [List.forIn_cons]
    by_cases hk : k = .free
    · subst hk
      obtain ⟨c, hc⟩ := h _ List.mem_cons_self rfl
      have hc : env.cells.lookup n = some c := hc
      rw [h1 n acc c hc]
      have ih := forIn_cl f h1 h2 r ((n, c) :: acc) hr
      show (forIn r ((n, c) :: acc) f) = _
      rw [ih]
      unfold clOf
      rw [if_pos rfl, hc]
      rw [← clOf.eq_def]
      rfl
    · rw [h2 n k acc hk]
      have ih := forIn_cl f h1 h2 r acc hr
      show (forIn r acc f) = _
      rw [ih]
      conv => rhs; unfold clOf
      rw [if_neg hk]
theorem closure_of {scope : Scope} {env : Env} (h : ∀ y ∈ scope.names, y.2 = .free → ∃ c, env.cells.lookup y.1 = some c) : closureFor scope env = pure (clOf env scope.names []) := by
  unfold closureFor
  have e := forIn_cl (env := env) (fun x r => if x.2 == NameKind.free then do let c ← cellOf env x.1; pure (ForInStep.yield ((x.1, c) :: r)) else pure (ForInStep.yield r))
    (fun n r c hc => by
      have e : cellOf env n = pure c := by unfold cellOf; rw [hc]
      show (if (NameKind.free == NameKind.free) = true then _ else _) = _
      rw [if_pos (by decide), e]
      rfl)
    (fun n k r hk => by
      show (if (k == NameKind.free) = true then _ else _) = _
      rw [if_neg (by intro z; exact hk (eq_of_beq z))]) scope.names [] h
  exact (congrArg (fun m => m >>= fun cs => (pure cs : Sem (List (Str × Addr)))) e)
theorem clOf_mem {env : Env} : ∀ (l : List (Str × NameKind)) (acc : List (Str × Addr)) (y : Str) (c : Addr), (∀ y ∈ l, y.2 = .free → ∃ c, env.cells.lookup y.1 = some c) → (∀ y c, acc.lookup y = some c → env.cells.lookup y = some c) →
    (clOf env l acc).lookup y = some c → env.cells.lookup y = some c
  | [], acc, y, c, _, ha, e => ha y c e
  | (n, k) :: r, acc, y, c, h, ha, e => by
    have hr : ∀ y ∈ r, y.2 = .free → ∃ c, env.cells.lookup y.1 = some c := fun y hy => h y (List.mem_cons_of_mem _ hy)
    unfold clOf at e
    by_cases hk : k = .free
    · rw [if_pos hk] at e
      refine clOf_mem r _ y c hr (fun z d q => ?_) e
      rw [List.lookup_cons] at q
      cases hz : z == n with
      | true =>
        rw [hz] at q
        have q' : (env.cells.lookup n).getD 0 = d := Option.some.inj q
        obtain ⟨c', hc'⟩ := h _ List.mem_cons_self hk
        have hc' : env.cells.lookup n = some c' := hc'
        rw [hc'] at q'
        have q' : c' = d := q'
        rw [eq_of_beq hz, hc', q']
      | false =>
        rw [hz] at q
        exact ha z d q
    · rw [if_neg hk] at e
      exact clOf_mem r acc y c hr ha e
theorem clOf_acc {env : Env} : ∀ (l : List (Str × NameKind)) (acc : List (Str × Addr)) (y : Str), (∃ c, acc.lookup y = some c) → ∃ c, (clOf env l acc).lookup y = some c
  | [], _, _, h => h
  | (n, k) :: r, acc, y, h => by
    unfold clOf
    by_cases hk : k = .free
    · rw [if_pos hk]
      refine clOf_acc r _ y ?_
      rw [List.lookup_cons]
      cases hz : y == n with
      | true => exact ⟨_, rfl⟩
      | false => exact h
    · rw [if_neg hk]
      exact clOf_acc r acc y h
theorem clOf_has {env : Env} : ∀ (l : List (Str × NameKind)) (acc : List (Str × Addr)) (y : Str), (y, NameKind.free) ∈ l → ∃ c, (clOf env l acc).lookup y = some c
  | [], _, _, h => by simp at h
  | (n, k) :: r, acc, y, h => by
    unfold clOf
    by_cases hk : k = .free
    · rw [if_pos hk]
      rcases List.mem_cons.mp h with e | e
      · refine clOf_acc r _ y ?_
        have e1 : y = n := congrArg Prod.fst e
        rw [List.lookup_cons, e1]
        simp
      · exact clOf_has r _ y e
    · rw [if_neg hk]
      rcases List.mem_cons.mp h with e | e
      · exact absurd (congrArg Prod.snd e).symm hk
      · exact clOf_has r acc y e
theorem relabel_lookup (scope : Scope) (env : Env) (y : Str) : (relabel scope env).names.lookup y = (scope.names.lookup y).map fun k => if (k == NameKind.free && env.scope.kind == .function && env.kindOf y == some .cell) = true then .cell else k := by
  show (scope.names.map _).lookup y = _
  induction scope.names with
  | nil => rfl
  | cons p r ih =>
    obtain ⟨n, k⟩ := p
    rw [List.map_cons, List.lookup_cons (a := y) (k := n) (b := k)]
    cases hz : y == n with
    | true =>
      have e : y = n := eq_of_beq hz
      subst e
      show List.lookup y ((if (k == NameKind.free && env.scope.kind == .function && env.kindOf y == some .cell) = true then (y, NameKind.cell) else (y, k)) :: _) = some (if _ then _ else _)
      by_cases hc : (k == NameKind.free && env.scope.kind == .function && env.kindOf y == some .cell) = true
      · rw [if_pos hc, if_pos hc]; simp
      · rw [if_neg hc, if_neg hc]; simp
    | false =>
      show List.lookup y ((if (k == NameKind.free && env.scope.kind == .function && env.kindOf n == some .cell) = true then (n, NameKind.cell) else (n, k)) :: _) = _
      by_cases hc : (k == NameKind.free && env.scope.kind == .function && env.kindOf n == some .cell) = true
      · rw [if_pos hc, List.lookup_cons, hz]; exact ih
      · rw [if_neg hc, List.lookup_cons, hz]; exact ih
noncomputable def cxComp (X : Cx) (scope : Scope) (x : Str) (N' : List Str) (C : Addr) (s : Shared) (H : Hp) (fp : List Addr) (pn : List (Addr × Obj)) : Cx where
  prog := X.prog
  w := X.w
  K := X.K
  mg := X.mg
  base := X.base
  A := X.A
  N := x :: N'
  s₀ := s
  H₀ := H
  env := compEnvC scope (clOf X.env scope.names []) C X.env
  outer := X.stack
  stack := X.stack
  ex := fp
  fn := fun _ => false
  calm := X.calm
  pn := pn
  xe := fun _ _ => False
section
variable {X : Cx} {pins : List (Addr × Obj)} {σ : St} {H : Hp} {s : Shared}
structure CompSc (X : Cx) (scope : Scope) (x : Str) (N' : List Str) : Prop where
  loc : scope.names.lookup x = some .local
  nocell : ∀ y ∈ scope.names, y.2 ≠ .cell
  kind : scope.kind = .function
  names : ∀ y ∈ scope.names, y.2 = .local → scope.names.lookup y.1 = some .local
  free : ∀ y ∈ scope.names, y.2 = .free → X.env.kindOf y.1 = some .cell ∨ X.env.kindOf y.1 = some .free
  nin : x ∉ N'
  nd : N'.Nodup
  len : N'.length = X.N.length
  sub : ∀ (i : Nat) (y : Str), N'[i]? = some y → X.N[i]? = some y ∨ scope.names.lookup y = none
  only : ∀ y ∈ scope.names, y.2 = .local → y.1 = x ∨ y.1 ∉ N'
theorem Inv.compIn {scope : Scope} {x : Str} {N' : List Str} {fp : List Addr} {h1 : Heap} {tk : Nat} {m : Str → Option Value} (S : CompSc X scope x N') (I : Inv X pins σ H s) (hf : ∀ b ∈ fp, FpOk X pins H b) (hfl : ∀ b ∈ fp, b < s.heap.objs.size)
    (hn : h1.Ns s.heap.objs.size m) (hsb : ∀ b o, s.heap.get? b = some o → h1.get? b = some o) :
    Inv (cxComp X scope x N' s.heap.objs.size s H fp (X.pn ++ pins)) [] (none :: σ) H { s with heap := h1, toks := tk } := by
  have hcells : ∀ y ∈ scope.names, y.2 = .free → ∃ c, X.env.cells.lookup y.1 = some c := fun y hy hk => I.ok.has y.1 (S.free y hy hk)
  have sub : ∀ y c, (clOf X.env scope.names []).lookup y = some c → X.env.cells.lookup y = some c := fun y c e => clOf_mem _ _ y c hcells (fun z d q => by simp at q) e
  have lk : ∀ (y : Str) (k : NameKind), (relabel scope X.env).names.lookup y = some k → k = .cell ∨ k = .free → scope.names.lookup y = some .free := fun y k e hk => by
    rw [relabel_lookup] at e
    cases q : scope.names.lookup y with
    | none => rw [q] at e; cases e
    | some k0 =>
      rw [q] at e
      have e' : (if (k0 == NameKind.free && X.env.scope.kind == .function && X.env.kindOf y == some .cell) = true then NameKind.cell else k0) = k := Option.some.inj e
      by_cases hc : (k0 == NameKind.free && X.env.scope.kind == .function && X.env.kindOf y == some .cell) = true
      · simp only [Bool.and_eq_true] at hc
        rw [eq_of_beq hc.1.1]
      · rw [if_neg hc] at e'
        subst e'
        rcases hk with hk | hk
        · exact absurd hk (S.nocell _ (PySem.mem_of_lookup q))
        · rw [hk]
  have lt : ∀ {b : Addr} {o : Obj}, s.heap.get? b = some o → b ≠ s.heap.objs.size := fun e => Nat.ne_of_lt (Heap.lt_size e)
  refine ⟨⟨I.ok.mod, by show (relabel scope X.env).kind = _; exact S.kind, I.ok.glob, I.ok.blt, Nat.le_refl _, fun y z c e1 e2 => I.ok.inj y z c (sub y c e1) (sub z c e2), fun y hy => ?_, fun y c hz => (by cases hz), I.ok.hd, I.ok.frames, .inl rfl,
    fun b hb => ⟨Nat.ne_of_lt (hfl b hb), fun y c e => (hf b hb).2.2.2.2.1 y c (sub y c e)⟩, I.bs, Nat.le_trans I.ok.bsz I.sz, fun b o e hb => ?_, fun b hb hz => ?_, I.stack, I.stkFree⟩,
    rfl, I.bare, Un.kept hsb, ⟨m, hn, fun i y v h1 h2 h3 => ?_⟩, fun y c e => ?_, I.hok.fresh (Nat.le_refl _), fun y c e => I.freeC y c (sub y c e), fun p hp => ?_, I.hok.kept hsb, ?_⟩
  · have hy : (relabel scope X.env).names.lookup y = some .cell ∨ (relabel scope X.env).names.lookup y = some .free := hy
    have q : scope.names.lookup y = some .free := hy.elim (fun z => lk y _ z (.inl rfl)) fun z => lk y _ z (.inr rfl)
    exact clOf_has _ _ y (PySem.mem_of_lookup q)
  · obtain ⟨_, _, _, f3, _, _⟩ := hf b hb
    rcases f3 with f3 | f3
    · exact I.ok.noex b o e f3
    · exact absurd (Nat.lt_of_lt_of_le (Heap.lt_size e) (Nat.le_trans I.ok.bsz f3)) (Nat.lt_irrefl _)
  · have hz : b ∈ frs X.stack := hz
    obtain ⟨_, f1, f2, _⟩ := hf b hb
    rcases List.mem_cons.mp (I.stkSub b hz) with z | z
    · exact f1 z
    · exact f2 z
  · cases i with
    | zero => simp at h2
    | succ i =>
      have h1 : N'[i]? = some y := by simpa [cxComp] using h1
      have h2 : σ[i]? = some (some v) := by simpa using h2
      have hne : N'[i]? ≠ some x := fun z => S.nin (List.mem_of_getElem? z)
      have h3 : Vis (relabel scope X.env) y := h3
      obtain ⟨m', hn', hl'⟩ := I.loc
      have q : scope.names.lookup y = some .free := by
        rcases h3 with z | z | z
        · exfalso
          rw [relabel_lookup] at z
          cases q : scope.names.lookup y with
          | none => rw [q] at z; cases z
          | some k0 =>
            rw [q] at z
            have e' : (if (k0 == NameKind.free && X.env.scope.kind == .function && X.env.kindOf y == some .cell) = true then NameKind.cell else k0) = .local := Option.some.inj z
            by_cases hc : (k0 == NameKind.free && X.env.scope.kind == .function && X.env.kindOf y == some .cell) = true
            · rw [if_pos hc] at e'; cases e'
            · rw [if_neg hc] at e'
              subst e'
              rcases S.only _ (PySem.mem_of_lookup q) rfl with w | w
              · exact hne (by rw [h1]; exact congrArg some w)
              · exact w (List.mem_of_getElem? h1)
        · exact lk y _ z (.inl rfl)
        · exact lk y _ z (.inr rfl)
      obtain ⟨c, hc⟩ := clOf_has (env := X.env) scope.names [] y (PySem.mem_of_lookup q)
      have hk : X.env.kindOf y = some .cell ∨ X.env.kindOf y = some .free := S.free _ (PySem.mem_of_lookup q) rfl
      have h1' : X.N[i]? = some y := (S.sub i y h1).resolve_right fun z => by rw [q] at z; cases z
      obtain ⟨u, r, l⟩ := hl' i y v h1' h2 (.inr hk)
      refine ⟨u, r, ?_⟩
      have kd : (compEnvC scope (clOf X.env scope.names []) s.heap.objs.size X.env).kindOf y = some .cell ∨ (compEnvC scope (clOf X.env scope.names []) s.heap.objs.size X.env).kindOf y = some .free := by
        rcases h3 with z | z | z
        · exfalso
          rw [relabel_lookup, q] at z
          have e' : (if (NameKind.free == NameKind.free && X.env.scope.kind == .function && X.env.kindOf y == some .cell) = true then NameKind.cell else NameKind.free) = .local := Option.some.inj z
          by_cases hc : (NameKind.free == NameKind.free && X.env.scope.kind == .function && X.env.kindOf y == some .cell) = true
          · rw [if_pos hc] at e'; cases e'
          · rw [if_neg hc] at e'; cases e'
        · exact .inl z
        · exact .inr z
      rcases l with ⟨a, _⟩ | ⟨_, c', hc', ic⟩
      · rcases hk with k | k <;> (rw [k] at a; cases a)
      · have e : X.env.cells.lookup y = some c := sub y c hc
        rw [e] at hc'
        cases hc'
        obtain ⟨o, ho, hd⟩ := ic
        exact .inr ⟨kd, c, hc, ⟨o, hsb _ _ ho, hd⟩⟩
  · obtain ⟨v, o, ho, hd⟩ := I.cell y c (sub y c e)
    exact ⟨v, o, hsb _ _ ho, hd⟩
  · have hp : p ∈ X.pn ++ pins := by
      have hp : p ∈ (X.pn ++ pins) ++ [] := hp
      rwa [List.append_nil] at hp
    obtain ⟨e, n, ne, nf, d⟩ := I.pin p hp
    refine ⟨hsb _ _ e, n, lt e, fun hz => ?_, d⟩
    have hz : p.1 ∈ frs X.stack := hz
    rcases List.mem_cons.mp (I.stkSub _ hz) with z | z
    · exact ne z
    · exact nf z
  · show (none :: σ).length = (x :: N').length
    rw [List.length_cons, List.length_cons, I.len, S.len]
noncomputable def PTs (X : Cx) (ifs : List Expr) (t : TT) : Prop :=
  ∀ (pins : List (Addr × Obj)) (s : Shared) (σ : St) (H : Hp) (Q : Bool → Hp → Prop) (E : Value → Shared → Prop), Inv X pins σ H s → t σ H Q →
    wpAny (model X.prog X.w) X.A (forIn ifs true fun c r => if r = true then do let ok ← isTrue c X.env (eval c X.env); pure (ForInStep.yield ok) else pure (ForInStep.yield r)) (TP X pins σ Q) E s
noncomputable def tYes : TT := fun _ H Q => Q true H
theorem pts_nil : PTs X [] tYes := fun _ _ _ H _ _ I h => wpAny_tests_nil ⟨H, I, h⟩
theorem comp_loop {prog : Program} {w : World} {A : Around} {R : Result → Shared → Prop} {s : Shared} {elt target iter : Expr} {ifs : List Expr} {scope : Scope} {pos : Pos} {it acc : Value} {env : Env} (J : Nat → Shared → Prop)
    (turn : ∀ n s, J n s → wpAny (model prog w) A (pyNext it) (fun r s1 => match r with
      | none => R (.ok .next) s1
      | some v => wpAny (model prog w) A (letOwnedTupleGo target it v) (fun _ s2 => wpAny (model prog w) A (assign target env v) (fun _ s3 =>
          wpAny (model prog w) A (forIn ifs true fun c r => if r = true then do let ok ← isTrue c env (eval c env); pure (ForInStep.yield ok) else pure (ForInStep.yield r)) (fun ok s4 =>
            if ok = true then wpAny (model prog w) A (eval elt env) (fun y s5 => wpAny (model prog w) A (call (.builtin "list.append") [acc, y]) (fun _ s6 => ∃ m, m < n ∧ J m s6) (fun _ _ => False) s5) (fun _ _ => False) s4
            else ∃ m, m < n ∧ J m s4) (fun _ _ => False) s3) (fun _ _ => False) s2) (fun _ _ => False) s1) (fun _ _ => False) s)
    (n : Nat) (h : J n s) : codeAny (model prog w) A (.compLoop (.ListComp elt [⟨target, iter, ifs, 0⟩] scope pos) 0 it acc env) R s := by
  have no : ∀ {α : Type} {t : Sem α} {Q : α → Shared → Prop} {E : Value → Shared → Prop} {s : Shared}, wpAny (model prog w) A t Q (fun _ _ => False) s → wpAny (model prog w) A t Q E s :=
    fun q => wpAny_mono q (fun _ _ z => z) fun _ _ z => z.elim
  refine codeAny_loop rfl J (fun n s hJ => ?_) n h
  refine wpAny_noted (m := compTurn (.ListComp elt [⟨target, iter, ifs, 0⟩] scope pos) 0 it acc env) ?_
  rw [compTurn_list]
  refine wpAny_bind (wpAny_standAt (wpAny_bind (no (thn (turn n s hJ) fun r s1 q1 => ?_))))
  cases r with
  | none => exact wpAny_pure q1
  | some v =>
    refine no ?_
    refine wpAny_bind (thn q1 fun _ s2 q2 => wpAny_bind (thn q2 fun _ s3 q3 => wpAny_bind (thn q3 fun ok s4 q4 => ?_)))
    cases ok with
    | false => exact wpAny_pure ⟨rfl, q4⟩
    | true => exact wpAny_bind (wpAny_bind (thn q4 fun y s5 q5 => wpAny_bind (thn q5 fun _ s6 q6 => wpAny_pure (wpAny_pure ⟨rfl, q6⟩))))
noncomputable def CompW (J : It) (tt : TT) (te : TE) (σ : St) (Q : VK) (D : Addr) (H1 : Hp) : Prop := ∃ W : Nat → Nat → List V → Hp → Prop, (∃ m, W 0 m [] (upd H1 D (.lst []))) ∧
  ∀ i m ys H', W i m ys H' → (J.stop i H' ∧ Q (.ref D) H') ∨ (J.go i H' ∧ ∀ v H2, J.yld i H' v H2 → tt (some v :: σ) H2 fun b H3 =>
    if b = true then te (some v :: σ) H3 fun y H4 => H4 D = some (.lst ys) ∧ ys.length < sizeLine ∧ ∃ m', m' < m ∧ W (i + 1) m' (ys ++ [y]) (upd H4 D (.lst (ys ++ [y])))
    else ∃ m', m' < m ∧ W (i + 1) m' ys H3)
noncomputable def tComp (wi : TI) (tt : TT) (te : TE) : TE := fun σ H Q => wi σ H fun J H1 => ∀ D, H1 D = none → CompW J tt te σ Q D H1
theorem comp_core {elt iter : Expr} {x : Str} {N' : List Str} {px : Pos} {ifs : List Expr} {scope : Scope} {pos : Pos} {tt : TT} {te : TE} (hc : X.calm = true) (S : CompSc X scope x N')
    (ht : ∀ C s H fp pn, PTs (cxComp X scope x N' C s H fp pn) ifs tt) (he : ∀ C s H fp pn, PE (cxComp X scope x N' C s H fp pn) elt te) {Q : VK} {itv : Value} {s2 : Shared} {RR : Value → Addr → Result → Shared → Prop}
    (h2 : PIE X pins σ (.Name x px) (fun J H1 => ∀ D, H1 D = none → CompW J tt te σ Q D H1) itv s2)
    (hend : ∀ (D C : Addr) (H6 : Hp) (s7 : Shared) (m7 : Str → Option Value), Inv X pins σ H6 s7 → s7.heap.Ns C m7 → FpOk X pins H6 C → Q (.ref D) H6 → RR (.ref D) C (.ok .next) s7) :
    wpAny (model X.prog X.w) X.A (newList []) (fun acc s3 => wpAny (model X.prog X.w) X.A (newFunctionEnv scope X.env.globals (clOf X.env scope.names []) [] X.env.qual none .none (some X.env)) (fun cenv s4 =>
      codeAny (model X.prog X.w) X.A (.compStart (.ListComp elt [⟨.Name x px, iter, ifs, 0⟩] scope pos) 0 itv acc { cenv with scope := relabel scope X.env }) (RR acc cenv.locals) s4) X.xe s3) X.xe s2 := by
  obtain ⟨it, fp, tn, J, H2, e, I2, T, st2, f2, hW⟩ := h2
  subst e
  have hlt : ∀ b ∈ fp, b < s2.heap.objs.size := fun b hb => by
    obtain ⟨o, ho, _⟩ := T.obj _ _ st2 b hb
    exact Heap.lt_size ho
  obtain ⟨W, ⟨m0, w0⟩, hturn⟩ := hW s2.heap.objs.size (I2.hok.fresh (Nat.le_refl _))
  refine wpAny_newObj_type ?_ (by show 0 ≤ sizeLine; exact Nat.zero_le _)
  have I3 : Inv X pins σ (upd H2 s2.heap.objs.size (.lst [])) { s2 with heap := s2.heap.push { cls := .type "list", data := .seq ([] : List Value).toArray } } := I2.lnew (t' := s2.toks) .nil (Nat.zero_le _)
  have f3 : ∀ b ∈ fp, FpOk X pins (upd H2 s2.heap.objs.size (.lst [])) b := fun b hb => by
    obtain ⟨g0, g⟩ := f2 b hb
    exact ⟨by rw [upd_ne (Nat.ne_of_lt (hlt b hb))]; exact g0, g⟩
  have st3 : tn 0 (s2.heap.push { cls := .type "list", data := .seq ([] : List Value).toArray }) := T.keep _ _ _ st2 fun b _ o e => Heap.get?_push_of_some _ e
  have hlt3 : ∀ b ∈ fp, b < (s2.heap.push { cls := .type "list", data := .seq ([] : List Value).toArray }).objs.size := fun b hb => by rw [Heap.size_push]; exact Nat.lt_succ_of_lt (hlt b hb)
  generalize hs3 : ({ s2 with heap := s2.heap.push { cls := .type "list", data := .seq ([] : List Value).toArray } } : Shared) = s3 at I3
  have eh : s3.heap = s2.heap.push { cls := .type "list", data := .seq ([] : List Value).toArray } := by rw [← hs3]
  rw [← eh] at st3 hlt3
  show wpAny _ _ (newFunctionEnv scope X.env.globals (clOf X.env scope.names []) [] X.env.qual none .none (some X.env)) _ _ _
  refine wpAny_newFunctionEnv S.nocell (by intro y hy; simp at hy) (fun h4 hns4 hsb4 => ?_) S.kind
  have hk4 : ∀ b o, s3.heap.get? b = some o → h4.get? b = some o := fun b o e => (hsb4.2 b (Nat.ne_of_lt (Heap.lt_size e))).trans (Heap.get?_push_of_some _ e)
  have I4 := Inv.compIn (tk := s3.toks + ([] : List (Str × Value)).length) S I3 f3 hlt3 hns4 hk4
  have st4 : tn 0 h4 := T.keep _ _ _ st3 fun b _ o e => hk4 b o e
  have fx : ∀ {H' : Hp}, (∀ b ∈ fp, H' b = none) → ∀ b ∈ fp, FpOk (cxComp X scope x N' s3.heap.objs.size s3 (upd H2 s2.heap.objs.size (.lst [])) fp (X.pn ++ pins)) [] H' b := fun {H'} hn b hb => by
    obtain ⟨_, g1, g2, g3, g4, g5⟩ := f3 b hb
    refine ⟨hn b hb, Nat.ne_of_lt (hlt3 b hb), I4.ok.exfs b hb, .inl hb, fun y c e => (I4.ok.exf b hb).2 y c e, fun p hp => g5 p ?_⟩
    have hp : p ∈ (X.pn ++ pins) ++ [] := hp
    rwa [List.append_nil] at hp
  have loop : ∀ s5 : Shared, (∃ (i n : Nat) (o : Option V) (ys : List V) (H5 : Hp), Inv (cxComp X scope x N' s3.heap.objs.size s3 (upd H2 s2.heap.objs.size (.lst [])) fp (X.pn ++ pins)) [] (o :: σ) H5 s5 ∧ tn i s5.heap ∧ (∀ b ∈ fp, H5 b = none) ∧ W i n ys H5) →
      codeAny (model X.prog X.w) X.A (.compLoop (.ListComp elt [⟨.Name x px, iter, ifs, 0⟩] scope pos) 0 (.ref it) (.ref s2.heap.objs.size) (compEnvC scope (clOf X.env scope.names []) s3.heap.objs.size X.env))
        (RR (.ref s2.heap.objs.size) s3.heap.objs.size) s5 := by
    rintro s5 ⟨i5, n5, o5, ys5, H5, I5, st5, fr5, w5⟩
    refine comp_loop (fun n s' => ∃ (i : Nat) (o : Option V) (ys : List V) (H5 : Hp), Inv (cxComp X scope x N' s3.heap.objs.size s3 (upd H2 s2.heap.objs.size (.lst [])) fp (X.pn ++ pins)) [] (o :: σ) H5 s' ∧ tn i s'.heap ∧ (∀ b ∈ fp, H5 b = none) ∧ W i n ys H5) ?_ n5 ⟨i5, o5, ys5, H5, I5, st5, fr5, w5⟩
    rintro n s6 ⟨i, o, ys, H6, I6, st6, fr6, w6⟩
    rcases hturn i n ys H6 w6 with ⟨stop, qn⟩ | ⟨go, step⟩
    · refine thn (T.done (cxComp X scope x N' s3.heap.objs.size s3 (upd H2 s2.heap.objs.size (.lst [])) fp (X.pn ++ pins)) rfl rfl rfl hc i [] s6 _ H6 _ I6 (fx fr6) st6 stop) fun r s7 ⟨hr, I7⟩ => ?_
      subst hr
      obtain ⟨m7, hn7, _⟩ := id I7.loc
      have I8 : Inv X pins σ H6 s7 := I3.call' I7.os I7.base I7.hok I7.bare fun b hb => by
        obtain ⟨_, g1, g2, g3, g4, g5⟩ := f3 b hb
        exact ⟨g3, g1, g4, g5⟩
      have f8 : FpOk X pins H6 s3.heap.objs.size := I3.fpOk (Nat.le_refl _) I7.free
      exact hend _ _ H6 s7 m7 I8 hn7 f8 qn
    · refine thn (T.item (cxComp X scope x N' s3.heap.objs.size s3 (upd H2 s2.heap.objs.size (.lst [])) fp (X.pn ++ pins)) rfl rfl rfl hc i [] s6 _ H6 _ I6 (fx fr6) st6 go) fun r s7 ⟨u, hr, h7⟩ => ?_
      subst hr
      refine thn h7 fun _ s8 ⟨v, H8, I8, r8, y8, st8, fr8⟩ => ?_
      have I8' := I8.pinned (fx fr8) (T.obj _ _ st8)
      refine wpAny_assign_Name (store_ok I8' (i := 0) (List.nodup_cons.mpr ⟨S.nin, S.nd⟩) rfl (.inl (lookup_relabel_local S.loc)) r8 (fun s9 I9 => ?_) (.inr (lookup_relabel_local S.loc)))
      have I9 : Inv (cxComp X scope x N' s3.heap.objs.size s3 (upd H2 s2.heap.objs.size (.lst [])) fp (X.pn ++ pins)) ([] ++ pinsAt fp s8.heap) (some v :: σ) H8 s9 := I9
      refine thn (ht _ _ _ _ _ _ s9 (some v :: σ) H8 _ _ I9 (step v H8 y8)) fun b s10 ⟨H10, I10, q10⟩ => ?_
      have back : ∀ {s' : Shared} {H' : Hp} {ys' : List V} {m' : Nat}, Inv (cxComp X scope x N' s3.heap.objs.size s3 (upd H2 s2.heap.objs.size (.lst [])) fp (X.pn ++ pins)) ([] ++ pinsAt fp s8.heap) (some v :: σ) H' s' → W (i + 1) m' ys' H' →
          ∃ (i : Nat) (o : Option V) (ys : List V) (H5 : Hp), Inv (cxComp X scope x N' s3.heap.objs.size s3 (upd H2 s2.heap.objs.size (.lst [])) fp (X.pn ++ pins)) [] (o :: σ) H5 s' ∧ tn i s'.heap ∧ (∀ b ∈ fp, H5 b = none) ∧ W i m' ys H5 := fun {s' H' ys' m'} I' w' => by
        refine ⟨i + 1, some v, ys', H', I'.unpinned, T.keep _ _ _ st8 fun b hb o e => (I'.pin (b, o) (List.mem_append_right _ (List.mem_append_right _ (mem_pinsAt hb e)))).1, fun b hb => ?_, w'⟩
        obtain ⟨o, e, d⟩ := T.obj _ _ st8 b hb
        exact (I'.pin (b, o) (List.mem_append_right _ (List.mem_append_right _ (mem_pinsAt hb e)))).2.1
      cases b with
      | false =>
        rw [if_neg Bool.false_ne_true] at q10 ⊢
        obtain ⟨m', hm, w'⟩ := q10
        exact ⟨m', hm, back I10 w'⟩
      | true =>
        rw [if_pos rfl] at q10 ⊢
        refine thn (he _ _ _ _ _ _ s10 (some v :: σ) H10 _ I10 q10) fun y s11 ⟨yv, H11, I11, r11, hD, hz, m', hm, w'⟩ => ?_
        have ap := mt_append (X := cxComp X scope x N' s3.heap.objs.size s3 (upd H2 s2.heap.objs.size (.lst [])) fp (X.pn ++ pins)) _ s11 (some v :: σ) H11 (.ref s2.heap.objs.size) [yv] (.ref s2.heap.objs.size) [y] (fun _ H' => W (i + 1) m' (ys ++ [yv]) H') I11 rfl (.cons r11 .nil) ⟨_, ys, yv, rfl, rfl, hD, hz, w'⟩
        exact thn ap fun _ s12 ⟨_, H12, I12, _, w12⟩ => ⟨m', hm, back I12 w12⟩
  have l4 := loop { s3 with heap := h4, toks := s3.toks + ([] : List (Str × Value)).length } ⟨0, m0, none, [], _, I4, st4, fun b hb => (f3 b hb).1, w0⟩
  exact codeAny_compStart_list l4 (T.self _ _ _ _ _ st4 l4)
theorem pe_comp {elt iter : Expr} {x : Str} {N' : List Str} {px : Pos} {ifs : List Expr} {scope : Scope} {pos : Pos} {wi : TI} {tt : TT} {te : TE} (hc : X.calm = true) (hi : PI X (.Name x px) iter wi) (S : CompSc X scope x N')
    (ht : ∀ C s H fp pn, PTs (cxComp X scope x N' C s H fp pn) ifs tt) (he : ∀ C s H fp pn, PE (cxComp X scope x N' C s H fp pn) elt te) (hs : ∀ x, foldedSetIterable iter X.env x = pure x := by intro _; rfl) :
    PE X (.ListComp elt [⟨.Name x px, iter, ifs, 0⟩] scope pos) (tComp wi tt te) := by
  intro pins s σ H Q I h
  have hcells : ∀ y ∈ scope.names, y.2 = .free → ∃ c, X.env.cells.lookup y.1 = some c := fun y hy hk => I.ok.has y.1 (S.free y hy hk)
  rw [eval_ListComp]
  refine wpAny_comprehension_free (use := none) rfl hs (closure_of hcells) S.kind S.names (thn (hi pins s σ H _ I h) fun xv s1 h1 => thn h1 fun itv s2 h2 => ?_)
  refine comp_core (RR := fun acc C => compPost (model X.prog X.w) X.A X.xe none (EP X pins σ Q) acc C) hc S ht he h2 fun D C H6 s7 m7 I8 hn7 f8 qn => ?_
  refine ⟨m7, hn7, fun h' hs' => ?_⟩
  obtain ⟨g0, g1, g2, g3, g4, g5⟩ := f8
  exact ⟨.ref D, H6, I8.turned (t' := s7.toks) (fun b o hb e => (hs'.2 b hb).trans e) g0 g1 g3 g4 g5, rfl, qn⟩
end
end L2
set_option Elab.async false
set_option linter.all false
set_option maxRecDepth 100000
set_option maxHeartbeats 4000000
namespace L2
open PySem PySem.Spec PyProof.Rows
noncomputable def compOk (sc scope : Scope) (N N' : List Str) (x : Str) : Bool :=
  decide (scope.names.lookup x = some .local) && scope.names.all (fun y => decide (y.2 ≠ .cell)) && decide (scope.kind = .function) && scope.names.all (fun y => decide (y.2 = .local → scope.names.lookup y.1 = some .local)) &&
  scope.names.all (fun y => decide (y.2 = .free → sc.names.lookup y.1 = some .cell ∨ sc.names.lookup y.1 = some .free)) && decide (x ∉ N') && decide N'.Nodup && decide (N'.length = N.length) &&
  (List.range N'.length).all (fun i => match N'[i]? with | some y => decide (N[i]? = some y ∨ scope.names.lookup y = none) | none => true) && scope.names.all (fun y => decide (y.2 = .local → y.1 = x ∨ y.1 ∉ N'))
theorem comp_sc {X : Cx} {scope : Scope} {x : Str} (sc : Scope) (N N' : List Str) (hsc : X.env.scope = sc) (hN : X.N = N) (h : compOk sc scope N N' x = true) : CompSc X scope x N' := by
  subst hsc hN
  unfold compOk at h
  simp only [Bool.and_eq_true, List.all_eq_true, decide_eq_true_eq] at h
  obtain ⟨⟨⟨⟨⟨⟨⟨⟨⟨h1, h2⟩, h3⟩, h4⟩, h5⟩, h6⟩, h7⟩, h7'⟩, h8'⟩, h8⟩ := h
  refine ⟨h1, h2, h3, h4, h5, h6, h7, h7', fun i y e => ?_, h8⟩
  have hi : i < N'.length := (List.getElem?_eq_some_iff.mp e).1
  have z := h8' i (List.mem_range.mpr hi)
  rw [e] at z
  exact of_decide_eq_true z
noncomputable def Its (x : Str) : It := ⟨fun i _ => i < x.cps.size, fun i H v H' => H' = H ∧ ∃ c, x.cps[i]? = some c ∧ v = .str ⟨#[c]⟩, fun i _ => x.cps.size = i⟩
theorem turn_str {P : Program} {w : World} {K : PySem.W.Frag} {tg : Expr} {it : Addr} {x : Str} {t : Tok} {ty : String}
    (hty : ["enumerate", "zip", "dict_itemiterator", "dict_reverseitemiterator", "odict_iterator", "itertools.zip_longest", "itertools.pairwise"].contains ty = false)
    (hW : ∀ A' : Around, A'.handled = none → Walks P w A' it [it] [it] x.cps.size (SignAt x) (fun i h => h.IsStrIter it ty x t i))
    (hself : ∀ (A : Around) (i : Nat) (s : Shared) (Q : Value → Shared → Prop) (E : Value → Shared → Prop), s.heap.IsStrIter it ty x t i → Q (.ref it) s → wpAny (model P w) A (pyIter (.ref it)) Q E s) :
    Turn P w K tg (Its x) [it] it (fun i h => h.IsStrIter it ty x t i) where
  mem := by simp
  obj := fun i h st b hb => by
    have e : b = it := by simpa using hb
    subst e
    obtain ⟨o, e, c, d⟩ := st
    exact ⟨o, e, fun v z => by rw [d] at z; cases z⟩
  keep := fun i h h' st k => by
    obtain ⟨o, e, r⟩ := st
    exact ⟨o, k it (by simp) o e, r⟩
  item := by
    intro X hP hw hK hc i pins s σ H E I hf st hg
    subst hP hw hK
    obtain ⟨f0, f1, f2, f3, f4, f5⟩ := hf it (by simp)
    refine (hW X.A (I.ok.hd hc)).item i s _ _ hg st fun v h' tk hv st' kk => ?_
    obtain ⟨c, u, hx, rfl⟩ := hv
    have I1 : Inv X pins σ H { s with heap := h', toks := tk } := I.turned (fun b o hb e => kk b o (by simpa using hb) e) f0 f1 f3 f4 f5
    obtain ⟨o, e, c', d⟩ := id st'
    exact ⟨_, rfl, go_of (s := { s with heap := h', toks := tk }) e c' d hty ⟨.str ⟨#[c]⟩, H, I1, ⟨u, rfl⟩, ⟨rfl, c, hx, rfl⟩, st', fun b hb => (hf b hb).1⟩⟩
  done := by
    intro X hP hw hK hc i pins s σ H E I hf st hg
    subst hP hw hK
    obtain ⟨f0, f1, f2, f3, f4, f5⟩ := hf it (by simp)
    have hg : x.cps.size = i := hg
    subst hg
    exact (hW X.A (I.ok.hd hc)).done s _ _ st fun h' tk kk => ⟨rfl, I.turned (fun b o hb e => kk b o (by simpa using hb) e) f0 f1 f3 f4 f5⟩
  self := hself
section
variable {X : Cx} {tg : Expr}
noncomputable def iStr (tl : TE) : TI := fun σ H R => tl σ H fun v H1 => ∃ x, v = .str x ∧ R (Its x) H1
theorem pi_str {l : Expr} {tl : TE} (hl : PE X l tl) : PI X tg l (iStr tl) := by
  intro pins s σ H R I h
  refine thn (hl pins s σ H _ I h) fun v s1 ⟨z, H1, I1, r1, q1⟩ => ?_
  obtain ⟨x, e, q⟩ := q1
  subst e
  obtain ⟨t, rfl⟩ := r1
  have fp : ∀ b ∈ [s1.heap.objs.size], FpOk X pins H1 b := fun b hb => by
    have e : b = s1.heap.objs.size := by simpa using hb
    subst e
    exact I1.fpOk (Nat.le_refl _) (I1.hok.fresh (Nat.le_refl _))
  cases ha : x.cps.all (· < 128)
  · refine wpAny_pyIter_wide ha ?_
    exact ⟨s1.heap.objs.size, [s1.heap.objs.size], _, _, H1, rfl, I1.kept (t' := s1.toks) fun b o e => Heap.get?_push_of_some _ e, turn_str (ty := "str_iterator") (t := t) (by decide) (fun A' hA => Walks.strWide hA _ x t) (fun _ _ _ _ _ st hq => wpAny_pyIter_striter_wide st hq), ⟨_, Heap.get?_push_size _ rfl, rfl, rfl⟩, fp, q⟩
  · refine wpAny_pyIter_ascii ha ?_
    exact ⟨s1.heap.objs.size, [s1.heap.objs.size], _, _, H1, rfl, I1.kept (t' := s1.toks) fun b o e => Heap.get?_push_of_some _ e, turn_str (ty := "str_ascii_iterator") (t := t) (by decide) (fun A' hA => Walks.strAscii hA _ x t) (fun _ _ _ _ _ st hq => wpAny_pyIter_striter_ascii st hq), ⟨_, Heap.get?_push_size _ rfl, rfl, rfl⟩, fp, q⟩
end
structure Row (J : It) (n : Nat) (vs : Nat → V) (Ok : Hp → Prop) : Prop where
  go : ∀ i H, i < n → Ok H → J.go i H
  yld : ∀ i H v H', i < n → Ok H → J.yld i H v H' → H' = H ∧ v = vs i
  stop : ∀ H, Ok H → J.stop n H
theorem row_range (lo : Int) (n : Nat) : Row (Itr lo n) n (fun i => .int (lo + i)) (fun _ => True) := ⟨fun i H h _ => h, fun i H v H' _ _ h => h, fun H _ => Nat.le_refl n⟩
theorem row_str (x : Str) : Row (Its x) x.cps.size (fun i => .str ⟨#[x.cps.getD i 0]⟩) (fun _ => True) := ⟨fun i H h _ => h, fun i H v H' hi _ h => by
  obtain ⟨e, c, hc, rfl⟩ := h
  refine ⟨e, ?_⟩
  have : x.cps.getD i 0 = c := by rw [Array.getD_eq_getD_getElem?, hc]; rfl
  rw [this], fun H _ => rfl⟩
theorem row_list {K : PySem.W.Frag} {a : Addr} {xs : List V} : Row (Itl K a) xs.length (fun i => xs.getD i .non) (fun H => SqL K H a xs) := ⟨fun i H h q => ⟨xs, xs[i], q, by simp [h]⟩, fun i H v H' hi q h => by
  obtain ⟨e, y⟩ := h
  refine ⟨e, ?_⟩
  have := y xs q
  rw [List.getD_eq_getElem?_getD, this]; rfl, fun H q => ⟨xs, q, Nat.le_refl _⟩⟩
noncomputable def ForW (J : It) (g : TG) (tb : TS) (D : Ends) (σ : St) (H : Hp) : Prop := ∃ W : Nat → Nat → St → Hp → Prop, (∃ m, W 0 m σ H) ∧ ∀ i m σ H, W i m σ H →
      (J.stop i H ∧ D.nx σ H) ∨ (J.go i H ∧ ∃ N : St → Hp → Prop, (∀ σ' H', N σ' H' → ∃ m', m' < m ∧ W (i + 1) m' σ' H') ∧ ∀ x H', J.yld i H x H' → g x σ H' fun σ2 H2 => tb { D with nx := N, ct := N, bk := D.nx } σ2 H2)
theorem for_row {J : It} {n : Nat} {vs : Nat → V} {Ok : Hp → Prop} (R : Row J n vs Ok) {g : TG} {tb : TS} {D : Ends} {σ : St} {H : Hp} (Pv : Nat → St → Hp → Prop) (h0 : Pv 0 σ H) (hok : ∀ i σ H, Pv i σ H → Ok H)
    (hs : ∀ i σ H, i < n → Pv i σ H → g (vs i) σ H fun σ2 H2 => tb { D with nx := Pv (i + 1), ct := Pv (i + 1), bk := D.nx } σ2 H2) (hd : ∀ σ H, Pv n σ H → D.nx σ H) :
    ForW J g tb D σ H := by
  refine ⟨fun i m σ H => m = n - i ∧ i ≤ n ∧ Pv i σ H, ⟨n, by simp, Nat.zero_le _, h0⟩, ?_⟩
  rintro i m σ H ⟨rfl, hi, p⟩
  by_cases hlt : i < n
  · refine .inr ⟨R.go i H hlt (hok i σ H p), Pv (i + 1), fun σ' H' p' => ⟨n - (i + 1), by omega, rfl, hlt, p'⟩, fun x H' y => ?_⟩
    obtain ⟨e1, e2⟩ := R.yld i H x H' hlt (hok i σ H p) y
    subst e1 e2
    exact hs i σ _ hlt p
  · have e : i = n := by omega
    subst e
    exact .inl ⟨R.stop H (hok i σ H p), hd σ H p⟩
theorem comp_row {J : It} {n : Nat} {vs : Nat → V} {Ok : Hp → Prop} (R : Row J n vs Ok) {te : TE} {Q : VK} {σ : St} {H1 : Hp} {D : Addr} (Pv : Nat → List V → Hp → Prop) (hn : n ≤ sizeLine) (h0 : Pv 0 [] (upd H1 D (.lst []))) (hok : ∀ i ys H, Pv i ys H → Ok H)
    (hs : ∀ i ys H (Q' : VK), i < n → ys.length = i → Pv i ys H → (∀ y H4, H4 D = some (.lst ys) → Pv (i + 1) (ys ++ [y]) (upd H4 D (.lst (ys ++ [y]))) → Q' y H4) → te (some (vs i) :: σ) H Q')
    (hd : ∀ ys H, ys.length = n → Pv n ys H → Q (.ref D) H) :
    CompW J tYes te σ Q D H1 := by
  refine ⟨fun i m ys H => m = n - i ∧ i ≤ n ∧ ys.length = i ∧ Pv i ys H, ⟨n, by simp, Nat.zero_le _, rfl, h0⟩, ?_⟩
  rintro i m ys H ⟨rfl, hi, hl, p⟩
  by_cases hlt : i < n
  · refine .inr ⟨R.go i H hlt (hok i ys H p), fun v H2 y => ?_⟩
    obtain ⟨e1, e2⟩ := R.yld i H v H2 hlt (hok i ys H p) y
    subst e1 e2
    exact hs i ys _ _ hlt hl p fun v H4 q1 q2 => ⟨q1, by omega, n - (i + 1), by omega, rfl, hlt, by simp [hl], q2⟩
  · have e : i = n := by omega
    subst e
    exact .inl ⟨R.stop H (hok _ ys H p), hd ys H hl p⟩
noncomputable def cutS (z : Str) (lo hi : Option Int) : Str := ⟨((z.cps.toList.drop (HT.sIx z.length 0 lo)).take (HT.sIx z.length z.length hi - HT.sIx z.length 0 lo)).toArray⟩
theorem strIx_eq (lo hi : Option Int) (n : Nat) : Builtin.Str.strSliceIndices lo hi 1 n = (List.range (HT.sIx n n hi - HT.sIx n 0 lo)).map (fun k => HT.sIx n 0 lo + k) := by
  obtain ⟨h1, h2, h3⟩ := slice_bounds lo hi n
  have e : Builtin.Str.strSliceIndices lo hi 1 n = Builtin.Str.strSliceIndices (some (sliceBounds lo hi none n).1) (some (sliceBounds lo hi none n).2.1) 1 n := by
    have a : (0 : Int) ≤ (sliceBounds lo hi none n).1 ∧ (sliceBounds lo hi none n).1 ≤ n := by
      rw [h1]; have := HT.sIx_le n 0 (Nat.zero_le _) lo; omega
    have b : (0 : Int) ≤ (sliceBounds lo hi none n).2.1 ∧ (sliceBounds lo hi none n).2.1 ≤ n := by
      rw [h2]; have := HT.sIx_le n n (Nat.le_refl _) hi; omega
    have c : ∀ v : Int, 0 ≤ v ∧ v ≤ n → max (0 : Int) (min (if v < 0 then v + n else v) n) = v := fun v hv => by
      rw [if_neg (by omega)]; omega
    show Builtin.Str.strSliceIndices lo hi 1 n = sliceRange (max (0 : Int) (min (if (sliceBounds lo hi none n).1 < 0 then (sliceBounds lo hi none n).1 + n else (sliceBounds lo hi none n).1) n)) (max (0 : Int) (min (if (sliceBounds lo hi none n).2.1 < 0 then (sliceBounds lo hi none n).2.1 + n else (sliceBounds lo hi none n).2.1) n)) 1
    rw [c _ a, c _ b]
    cases lo <;> cases hi <;> rfl
  rw [e, h1, h2]
  by_cases hab : HT.sIx n 0 lo ≤ HT.sIx n n hi
  · exact PySem.StrLaws.strSliceIndices_plain hab (HT.sIx_le n n (Nat.le_refl _) hi)
  · have z : HT.sIx n n hi - HT.sIx n 0 lo = 0 := by omega
    rw [z]
    have la := HT.sIx_le n 0 (Nat.zero_le _) lo
    have lb := HT.sIx_le n n (Nat.le_refl _) hi
    show sliceRange (max (0 : Int) (min (if ((HT.sIx n 0 lo : Nat) : Int) < 0 then ((HT.sIx n 0 lo : Nat) : Int) + n else ((HT.sIx n 0 lo : Nat) : Int)) n)) (max (0 : Int) (min (if ((HT.sIx n n hi : Nat) : Int) < 0 then ((HT.sIx n n hi : Nat) : Int) + n else ((HT.sIx n n hi : Nat) : Int)) n)) 1 = []
    have e1 : max (0 : Int) (min (if ((HT.sIx n 0 lo : Nat) : Int) < 0 then ((HT.sIx n 0 lo : Nat) : Int) + n else ((HT.sIx n 0 lo : Nat) : Int)) n) = ((HT.sIx n 0 lo : Nat) : Int) := by rw [if_neg (by omega)]; omega
    have e2 : max (0 : Int) (min (if ((HT.sIx n n hi : Nat) : Int) < 0 then ((HT.sIx n n hi : Nat) : Int) + n else ((HT.sIx n n hi : Nat) : Int)) n) = ((HT.sIx n n hi : Nat) : Int) := by rw [if_neg (by omega)]; omega
    rw [e1, e2]
    unfold sliceRange
    have hlt : ¬ ((HT.sIx n 0 lo : Nat) : Int) < ((HT.sIx n n hi : Nat) : Int) := by omega
    simp [hlt]
theorem strPick_eq (z : Str) (lo hi : Option Int) : (⟨((Builtin.Str.strSliceIndices lo hi 1 z.length).filterMap (z.cps[·]?)).toArray⟩ : Str) = cutS z lo hi := by
  rw [strIx_eq]
  unfold cutS
  congr 2
  have la := HT.sIx_le z.length 0 (Nat.zero_le _) lo
  have lb := HT.sIx_le z.length z.length (Nat.le_refl _) hi
  by_cases hab : HT.sIx z.length 0 lo ≤ HT.sIx z.length z.length hi
  · have h := PySem.StrLaws.picks z.cps.toList (HT.sIx z.length z.length hi - HT.sIx z.length 0 lo) (HT.sIx z.length 0 lo) (by simp only [Array.length_toList]; unfold Str.length at lb ⊢; unfold Str.length at hab; omega)
    simpa using h
  · have e : HT.sIx z.length z.length hi - HT.sIx z.length 0 lo = 0 := by omega
    rw [e]; simp
theorem cutS_len (z : Str) (lo hi : Option Int) : (cutS z lo hi).length = min (HT.sIx z.length z.length hi - HT.sIx z.length 0 lo) (z.length - HT.sIx z.length 0 lo) := by
  unfold cutS Str.length
  simp
theorem sl_str {X : Cx} : SlR X (fun x lo hi H Q => ∃ z, x = .str z ∧ z.length ≤ sizeLine ∧ Q (.str (cutS z lo hi)) H) := by
  intro pins s σ H x v vl vu lo hi sl Q I rx hs pl pu h
  obtain ⟨z, rfl, hz, q⟩ := h
  obtain ⟨t, rfl⟩ := rx
  refine ⟨"str", _, F.slot_str_getitem.lookup, typeIs_str _ _ _, ?_⟩
  obtain ⟨l, el, e1⟩ : ∃ l : Option (Int × Tok), vl = partValue l ∧ l.map (·.1) = lo := by
    cases pl with
    | none => exact ⟨none, rfl, rfl⟩
    | int i t => exact ⟨some (i, t), rfl, rfl⟩
  obtain ⟨u, eu, e2⟩ : ∃ u : Option (Int × Tok), vu = partValue u ∧ u.map (·.1) = hi := by
    cases pu with
    | none => exact ⟨none, rfl, rfl⟩
    | int i t => exact ⟨some (i, t), rfl, rfl⟩
  subst el eu e1 e2
  refine wpAny_getItem_str_slice (l := l) (u := u) (st := none) (by obtain ⟨o, ho, hc, hd⟩ := hs; exact ⟨o, ho, hc, hd⟩) rfl ?_
  have pk : (slicePicked z l u none) = Builtin.Str.strSliceIndices (l.map (·.1)) (u.map (·.1)) 1 z.length := rfl
  unfold sliceMade
  rw [pk]
  by_cases hw : ((((none : Option (Int × Tok)).map (·.1)).getD 1 == 1) && (Builtin.Str.strSliceIndices (l.map (·.1)) (u.map (·.1)) 1 z.length).length == z.length) = true
  · rw [if_pos hw]
    have hl : (Builtin.Str.strSliceIndices (l.map (·.1)) (u.map (·.1)) 1 z.length).length = z.length := by
      rw [Bool.and_eq_true] at hw
      exact eq_of_beq hw.2
    rw [strIx_eq, List.length_map, List.length_range] at hl
    have la := HT.sIx_le z.length 0 (Nat.zero_le _) (l.map (·.1))
    have lb := HT.sIx_le z.length z.length (Nat.le_refl _) (u.map (·.1))
    have e : cutS z (l.map (·.1)) (u.map (·.1)) = z := by
      by_cases hz0 : z.length = 0
      · have hn : z.cps.toList = [] := by
          apply List.eq_nil_of_length_eq_zero
          simpa [Str.length] using hz0
        unfold cutS
        rw [hn]
        obtain ⟨cps⟩ := z
        have : cps = #[] := by simpa using hn
        subst this
        simp
      · have a0 : HT.sIx z.length 0 (l.map (·.1)) = 0 := by omega
        have b0 : HT.sIx z.length z.length (u.map (·.1)) = z.length := by omega
        unfold cutS
        rw [a0, b0, Nat.sub_zero, List.drop_zero]
        obtain ⟨cps⟩ := z
        show (⟨(List.take cps.size cps.toList).toArray⟩ : Str) = ⟨cps⟩
        rw [← Array.length_toList, List.take_length]
    show EP X pins σ Q (.str z t) s
    refine ⟨.str z, H, I, ⟨t, rfl⟩, ?_⟩
    rw [e] at q
    exact q
  · rw [if_neg hw, strPick_eq]
    refine ⟨?_, .str _, H, I.tok _, ⟨_, rfl⟩, q⟩
    rw [cutS_len]
    omega
end L2
set_option Elab.async false
set_option linter.all false
set_option maxRecDepth 100000
set_option maxHeartbeats 4000000
namespace L2
open PySem PySem.Spec PyProof.Rows
noncomputable def mVar (i : Nat) : TE := fun σ H Q => match σ[i]? with | some (some v) => Q v H | _ => False
noncomputable def mB (Q : Bool → Hp → Prop) : VK := fun z H' => match z with | .bl k => Q k H' | _ => False
theorem mB_eq (Q : Bool → Hp → Prop) : mB Q = fun z H' => ∃ k, z = .bl k ∧ Q k H' := by
  funext z H'
  cases z <;> simp [mB]
section
variable {X : Cx} {a b c e : Expr} {ta tb tc te : TE} {pos : Pos}
theorem mv (i : Nat) {x : Str} {pos : Pos} (hN : X.N[i]? = some x := by rfl) (hv : Vis X.env.scope x := by first | exact Or.inl rfl | exact Or.inr (Or.inl rfl) | exact Or.inr (Or.inr rfl)) (hd : (x == ("__debug__" : Str)) = false := by decide)
    (hcd : (x == ("__classdict__" : Str)) = false := by decide) : PE X (.Name x pos) (mVar i) := by
  intro pins s σ H Q I h
  refine pe_var hN hv hd hcd pins s σ H Q I ?_
  unfold mVar at h
  split at h
  · rename_i v q; exact ⟨v, q, h⟩
  · exact h.elim
noncomputable def m2 (C : Int → Int → Prop) (g : Int → Int → V) : R2 := fun x y H Q => match x, y with
  | .int i, .int j => C i j ∧ Q (g i j) H
  | _, _ => False
noncomputable def m20 (g : Int → Int → V) : R2 := fun x y H Q => match x, y with
  | .int i, .int j => Q (g i j) H
  | _, _ => False
theorem m2_to {C : Int → Int → Prop} {g : Int → Int → V} {x y : V} {H : Hp} {Q : VK} (h : m2 C g x y H Q) : rI C g x y H Q := by
  cases x <;> cases y <;> first | exact (show False from h).elim | exact ⟨_, _, rfl, rfl, h⟩
theorem m20_to {g : Int → Int → V} {x y : V} {H : Hp} {Q : VK} (h : m20 g x y H Q) : rI0 g x y H Q := by
  cases x <;> cases y <;> first | exact (show False from h).elim | exact ⟨_, _, rfl, rfl, h⟩
theorem OpR.imp {f : Value → Value → Sem Value} {r r' : R2} (h : OpR X f r) (k : ∀ x y H Q, r' x y H Q → r x y H Q) : OpR X f r' := fun pins s σ H x y v u Q I rx ry q => h pins s σ H x y v u Q I rx ry (k x y H Q q)
noncomputable def mAdd (K : PySem.W.Frag) : R2 := fun x y H Q => match x, y with
  | .int i, .int j => Q (.int (i + j)) H
  | .str i, .str j => i.length + j.length ≤ sizeLine ∧ Q (.str (i ++ j)) H
  | .ref p, .ref q => (∃ xs ys, H p = some (.lst xs) ∧ H q = some (.lst ys) ∧ xs.length + ys.length ≤ sizeLine ∧ ∀ d, H d = none → Q (.ref d) (upd H d (.lst (xs ++ ys)))) ∨
      ∃ xs ys, SqT K H p xs ∧ SqT K H q ys ∧ xs ≠ [] ∧ xs.length + ys.length ≤ sizeLine ∧ (ys = [] → Q (.ref p) H) ∧ (ys ≠ [] → ∀ d, H d = none → Q (.ref d) (upd H d (.tup (xs ++ ys))))
  | _, _ => False
theorem mo_add : OpR X (binaryOp .Add) (mAdd X.K) := by
  refine (op_add.or (op_add_str.or (op_cat.or op_catT))).imp fun x y H Q h => ?_
  cases x <;> cases y <;> first
    | exact (show False from h).elim
    | exact .inl ⟨_, _, rfl, rfl, h⟩
    | exact .inr (.inl ⟨_, _, rfl, rfl, h⟩)
    | (rcases h with ⟨xs, ys, h1, h2, h3, h4⟩ | ⟨xs, ys, h1, h2, h3, h4, h5⟩
       · exact .inr (.inr (.inl ⟨_, _, xs, ys, rfl, rfl, h1, h2, h3, h4⟩))
       · exact .inr (.inr (.inr ⟨_, _, xs, ys, rfl, rfl, h1, h2, h3, h4, h5⟩)))
theorem mo_sub : OpR X (binaryOp .Sub) (m20 fun i j => .int (i - j)) := op_sub.imp fun _ _ _ _ h => m20_to h
noncomputable def mMul : R2 := fun x y H Q => match x, y with
  | .int i, .int j => IntMulOk i j ∧ Q (.int (i * j)) H
  | .ref l, .int k => ∃ xs, H l = some (.lst xs) ∧ -(2 ^ 63) ≤ k ∧ k < 2 ^ 63 ∧ xs.length * k.toNat ≤ sizeLine ∧ ∀ p, H p = none → Q (.ref p) (upd H p (.lst (List.replicate k.toNat xs).flatten))
  | _, _ => False
theorem op_mulW : OpR X (binaryOp .Mult) (rI (fun i j => IntMulOk i j) fun i j => .int (i * j)) := opI fun _ _ _ _ _ _ _ hc q => mul_int q hc
theorem mo_mul : OpR X (binaryOp .Mult) mMul := by
  refine (op_mulW.or op_rep).imp fun x y H Q h => ?_
  cases x <;> cases y <;> first
    | exact (show False from h).elim
    | exact .inl ⟨_, _, rfl, rfl, h⟩
    | (obtain ⟨xs, h1, h2, h3, h4, h5⟩ := h; exact .inr ⟨_, _, xs, rfl, rfl, h1, h2, h3, h4, h5⟩)
theorem mo_fdiv : OpR X (binaryOp .FloorDiv) (m2 CDiv fun i j => .int (i / j)) := op_fdiv.imp fun _ _ _ _ h => m2_to h
theorem mo_mod : OpR X (binaryOp .Mod) (m2 (fun _ j => 0 < j) fun i j => .int (i % j)) := op_mod.imp fun _ _ _ _ h => m2_to h
theorem mo_pow : OpR X (binaryOp .Pow) (m2 CPow fun i j => .int (i ^ j.toNat)) := op_pow.imp fun _ _ _ _ h => m2_to h
theorem mo_lt : OpR X (compareOp .Lt) (m20 fun i j => .bl (decide (i < j))) := op_lt.imp fun _ _ _ _ h => m20_to h
theorem mo_le : OpR X (compareOp .LtE) (m20 fun i j => .bl (decide (i ≤ j))) := op_le.imp fun _ _ _ _ h => m20_to h
theorem mo_ge : OpR X (compareOp .GtE) (m20 fun i j => .bl (decide (j ≤ i))) := op_ge.imp fun _ _ _ _ h => m20_to h
noncomputable def mEq (n : Bool) : R2 := fun x y H Q => match x, y with
  | .int i, .int j => Q (.bl (n ^^ decide (i = j))) H
  | .str i, .str j => Q (.bl (n ^^ decide (i = j))) H
  | .bl i, .bl j => Q (.bl (n ^^ decide (i = j))) H
  | .non, .non => Q (.bl (n ^^ true)) H
  | .non, .int _ => Q (.bl n) H
  | .non, .str _ => Q (.bl n) H
  | .non, .bl _ => Q (.bl n) H
  | .int _, .non => Q (.bl n) H
  | .str _, .non => Q (.bl n) H
  | .bl _, .non => Q (.bl n) H
  | .int _, .str _ => Q (.bl n) H
  | .str _, .int _ => Q (.bl n) H
  | .bl _, .str _ => Q (.bl n) H
  | .str _, .bl _ => Q (.bl n) H
  | _, _ => False
theorem mo_eq : OpR X (compareOp .Eq) (mEq false) := by
  refine op_eq.imp fun x y H Q h => ?_
  cases x <;> cases y <;> first
    | exact (show False from h).elim
    | exact ⟨rfl, by simpa [mEq] using h⟩
theorem mo_ne : OpR X (compareOp .NotEq) (mEq true) := by
  refine op_ne.imp fun x y H Q h => ?_
  cases x <;> cases y <;> first
    | exact (show False from h).elim
    | exact ⟨rfl, by simpa [mEq] using h⟩
noncomputable def mTest (t : TE) : TT := fun σ H Q => t σ H (mB Q)
theorem mTest_eq (t : TE) : mTest t = tTest t := by
  funext σ H Q
  show t σ H (mB Q) = t σ H _
  rw [mB_eq]
theorem mt_cmp {op : CmpOp} {r : R2} (ho : OpR X (compareOp op) r) (ha : PE X a ta) (hb : PE X b tb) (hm : behindInMarks op b = false) : PT X (.Compare a [op] [b] pos) (mTest (tOp r ta tb)) := by
  rw [mTest_eq]; exact pt_cmpR ho ha hb hm
noncomputable def mChain (r r' : R2) (ta tb tc : TE) : TE := fun σ H Q => ta σ H fun x H1 => tb σ H1 fun y H2 => r x y H2 (mB fun k H3 => if k = true then tc σ H3 fun w' H4 => r' y w' H4 Q else Q (.bl false) H3)
theorem mChain_eq (r r' : R2) (ta tb tc : TE) : mChain r r' ta tb tc = tChain r r' ta tb tc := by
  funext σ H Q
  unfold mChain tChain
  simp only [mB_eq]
theorem me_chain {op op' : CmpOp} {r r' : R2} (ho : OpR X (compareOp op) r) (ho' : OpR X (compareOp op') r') (ha : PE X a ta) (hb : PE X b tb) (hc : PE X c tc)
    (hm : lastMarks [op, op'] [b, c] = false := by with_unfolding_all rfl) : PE X (.Compare a [op, op'] [b, c] pos) (mChain r r' ta tb tc) := by
  rw [mChain_eq]; exact pe_chain ho ho' ha hb hc hm
theorem mt_chain {op op' : CmpOp} {r r' : R2} (ho : OpR X (compareOp op) r) (ho' : OpR X (compareOp op') r') (ha : PE X a ta) (hb : PE X b tb) (hc : PE X c tc)
    (hm : lastMarks [op, op'] [b, c] = false := by with_unfolding_all rfl) : PT X (.Compare a [op, op'] [b, c] pos) (mTest (mChain r r' ta tb tc)) := by
  rw [mTest_eq, mChain_eq]; exact pt_chain ho ho' ha hb hc hm
noncomputable def mTru (K : PySem.W.Frag) (Q : Bool → Hp → Prop) : VK := fun x H => match x with
  | .non => Q false H
  | .bl b => Q b H
  | .int i => Q (decide (i ≠ 0)) H
  | .str y => y.length ≤ sizeLine ∧ Q (decide (y.length ≠ 0)) H
  | .ref p => (∃ xs, SqL K H p xs ∧ Q (!xs.isEmpty) H) ∨ (∃ xs, SqT K H p xs ∧ Q (!xs.isEmpty) H) ∨ ∃ kvs, H p = some (.dK kvs) ∧ Q (!kvs.isEmpty) H
  | _ => False
theorem mTru_to {K : PySem.W.Frag} {Q : Bool → Hp → Prop} {x : V} {H : Hp} (h : mTru K Q x H) : ∃ k, TruV K x H k ∧ Q k H := by
  cases x with
  | non => exact ⟨_, rfl, h⟩
  | bl b => exact ⟨_, rfl, h⟩
  | int i =>
    have h : Q (decide (i ≠ 0)) H := h
    refine ⟨i != 0, rfl, ?_⟩
    have e : (i != 0) = decide (i ≠ 0) := by
      rw [Bool.eq_iff_iff]; simp
    rw [e]; exact h
  | str y =>
    obtain ⟨h1, h⟩ : y.length ≤ sizeLine ∧ Q (decide (y.length ≠ 0)) H := h
    refine ⟨((y.length : Int) != 0), ⟨h1, rfl⟩, ?_⟩
    have e : ((y.length : Int) != 0) = decide (y.length ≠ 0) := by
      rw [Bool.eq_iff_iff]; simp
    rw [e]; exact h
  | ref p =>
    rcases h with ⟨xs, h1, h2⟩ | ⟨xs, h1, h2⟩ | ⟨xs, h1, h2⟩
    · exact ⟨_, .inl ⟨xs, h1, rfl⟩, h2⟩
    · exact ⟨_, .inr (.inl ⟨xs, h1, rfl⟩), h2⟩
    · exact ⟨_, .inr (.inr ⟨xs, h1, rfl⟩), h2⟩
  | _ => exact (show False from h).elim
noncomputable def mTrue (K : PySem.W.Frag) (ta : TE) : TT := fun σ H Q => ta σ H (mTru K Q)
theorem mt_tru (ha : PE X a ta) (he : ∀ whole, isTrue a X.env whole = (do let v ← whole; standAt a.pos; holding [v] (truthy v)) := by intro _; rfl) : PT X a (mTrue X.K ta) := by
  intro pins s σ H Q I h
  exact isTrue_plain (thn (ha pins s σ H _ I h) fun v s1 ⟨x, H1, I1, r1, q1⟩ => tru_ok pins s1 σ H1 x v Q I1 r1 (mTru_to q1)) (he _)
noncomputable def mAndV (ta tb : TE) : TE := fun σ H Q => ta σ H (mB fun c H1 => if c = true then tb σ H1 Q else Q (.bl false) H1)
noncomputable def mOrV (ta tb : TE) : TE := fun σ H Q => ta σ H (mB fun c H1 => if c = true then Q (.bl true) H1 else tb σ H1 Q)
variable {rest : List Expr}
theorem me_and (ha : PE X a ta) (hb : PE X (.BoolOp .And (b :: rest) pos) tb) : PE X (.BoolOp .And (a :: b :: rest) pos) (mAndV ta tb) := by
  have e : mAndV ta tb = tAndV ta tb := by funext σ H Q; unfold mAndV tAndV; rw [mB_eq]
  rw [e]; exact pe_and ha hb
noncomputable def mIx (K : PySem.W.Frag) : R2 := fun x y H Q => match x, y with
  | .ref p, .int i => (∃ xs v, SqL K H p xs ∧ atI xs i = some v ∧ Q v H) ∨ ∃ xs v, SqT K H p xs ∧ atI xs i = some v ∧ Q v H
  | .str z, .int i => z.length ≤ sizeLine ∧ ∃ c, atI z.cps.toList i = some c ∧ Q (.str ⟨#[c]⟩) H
  | _, _ => False
theorem mi_seq : IxR X (mIx X.K) := by
  intro value slice pins s σ H x y v u Q I rx ry h hs
  refine ix_seq value slice pins s σ H x y v u Q I rx ry ?_ hs
  cases x <;> cases y <;> first
    | exact (show False from h).elim
    | (rcases h with ⟨xs, v, h1, h2, h3⟩ | ⟨xs, v, h1, h2, h3⟩
       · exact .inl ⟨_, xs, _, v, rfl, rfl, h1, h2, h3⟩
       · exact .inr (.inl ⟨_, xs, _, v, rfl, rfl, h1, h2, h3⟩))
    | (obtain ⟨h1, c, h2, h3⟩ := h; exact .inr (.inr ⟨_, _, c, rfl, rfl, h1, h2, h3⟩))
noncomputable def inS (i j : Str) : Bool := !(Builtin.Str.occurrences j i 0 j.length 1).isEmpty
noncomputable def mInS (n : Bool) : R2 := fun x y H Q => match x, y with
  | .str i, .str j => Q (.bl (n ^^ inS i j)) H
  | _, _ => False
theorem mo_inS : OpR X (compareOp .In) (mInS false) := op_in_str.imp fun x y H Q h => by
  cases x <;> cases y <;> first | exact (show False from h).elim | exact ⟨_, _, rfl, rfl, by simpa [mInS, inS] using h⟩
theorem mo_ninS : OpR X (compareOp .NotIn) (mInS true) := op_notin_str.imp fun x y H Q h => by
  cases x <;> cases y <;> first | exact (show False from h).elim | exact ⟨_, _, rfl, rfl, by simpa [mInS, inS] using h⟩
noncomputable def mSlS : V → Option Int → Option Int → Hp → VK → Prop := fun x lo hi H Q => match x with
  | .str z => z.length ≤ sizeLine ∧ Q (.str (cutS z lo hi)) H
  | _ => False
theorem ms_str : SlR X mSlS := by
  intro pins s σ H x v vl vu lo hi sl Q I rx hs pl pu h
  refine sl_str pins s σ H x v vl vu lo hi sl Q I rx hs pl pu ?_
  cases x <;> first | exact (show False from h).elim | exact ⟨_, rfl, h.1, h.2⟩
noncomputable def mI (R : Option Int → Hp → Prop) : VK := fun x H1 => match x with | .int i => R (some i) H1 | _ => False
noncomputable def mPart (t : TE) : TO := fun σ H Q => t σ H (mI Q)
theorem mp_some (h : PE X e te) : PO X (some e) (mPart te) := by
  have q : mPart te = tPart te := by
    funext σ H Q
    unfold mPart tPart
    congr 1
    funext x H1
    cases x <;> simp [mI]
  rw [q]; exact po_some h
noncomputable def mLen (K : PySem.W.Frag) : List V → Hp → VK → Prop := fun vs H Q => match vs with
  | [.str y] => y.length ≤ sizeLine ∧ Q (.int y.length) H
  | [.ref p] => (∃ xs, SqL K H p xs ∧ Q (.int xs.length) H) ∨ ∃ xs, SqT K H p xs ∧ Q (.int xs.length) H
  | _ => False
theorem mc_len : CallR X (.builtin "len") (mLen X.K) := by
  intro pins s σ H xs us Q I r h
  refine call_len pins s σ H xs us Q I r ?_
  unfold mLen at h
  split at h
  · exact ⟨_, _, rfl, ⟨h.1, rfl⟩, h.2⟩
  · rcases h with ⟨ys, h1, h2⟩ | ⟨ys, h1, h2⟩
    · exact ⟨_, _, rfl, .inl ⟨ys, h1, rfl⟩, h2⟩
    · exact ⟨_, _, rfl, .inr ⟨ys, h1, rfl⟩, h2⟩
  · exact h.elim
theorem kit_same (K : PySem.W.Frag) (t : Value) : PySem.W.kitOne K t t = some true := by
  unfold PySem.W.kitOne
  rw [if_pos (by simp)]
theorem vals_bl : ∀ {bs : List Bool} {us : List Value}, Vals (bs.map V.bl) us → us = bs.map Value.bool
  | [], _, .nil => rfl
  | b :: bs, _, .cons r t => by
    have r : _ = Value.bool b := r
    rw [List.map_cons, r, vals_bl t]
theorem all_range (bs : List Bool) : ((List.range bs.length).all fun i => bs.getD i true) = bs.all id := by
  rw [Bool.eq_iff_iff, List.all_eq_true, List.all_eq_true]
  constructor
  · intro h x hx
    obtain ⟨i, hi, e⟩ := List.getElem_of_mem hx
    have := h i (List.mem_range.mpr hi)
    rw [List.getD_eq_getElem?_getD, List.getElem?_eq_getElem hi] at this
    simpa [e] using this
  · intro h i hi
    have hi := List.mem_range.mp hi
    rw [List.getD_eq_getElem?_getD, List.getElem?_eq_getElem hi]
    exact h _ (List.getElem_mem hi)
theorem any_range (bs : List Bool) : ((List.range bs.length).any fun i => bs.getD i true) = bs.any id := by
  rw [Bool.eq_iff_iff, List.any_eq_true, List.any_eq_true]
  constructor
  · rintro ⟨i, hi, h⟩
    have hi := List.mem_range.mp hi
    rw [List.getD_eq_getElem?_getD, List.getElem?_eq_getElem hi] at h
    exact ⟨_, List.getElem_mem hi, h⟩
  · rintro ⟨x, hx, h⟩
    obtain ⟨i, hi, e⟩ := List.getElem_of_mem hx
    refine ⟨i, List.mem_range.mpr hi, ?_⟩
    rw [List.getD_eq_getElem?_getD, List.getElem?_eq_getElem hi]
    simpa [e] using h
noncomputable def mAll (K : PySem.W.Frag) (f : List Bool → Bool) : List V → Hp → VK → Prop := fun vs H Q => match vs with
  | [.ref p] => ∃ bs : List Bool, SqL K H p (bs.map V.bl) ∧ Q (.bl (f bs)) H
  | _ => False
theorem list_walk {pins : List (Addr × Obj)} {s : Shared} {σ : St} {H : Hp} {p : Addr} {bs : List Bool} {Q : VK} (hc : X.calm = true) (I : Inv X pins σ H s) (hs : SqL X.K H p (bs.map V.bl)) (f : (Nat → Bool) → Nat → Bool) (q : Q (.bl (f (fun i => bs.getD i true) bs.length)) H) {E : Value → Shared → Prop} :
    wpAny (model X.prog X.w) X.A.in1 (pyIter (.ref p)) (fun it s2 => ∃ J fp wr n P St tr, it = .ref J ∧ Walks X.prog X.w X.A.in1 J fp wr n P St ∧ St 0 s2.heap ∧ TruthOf X.prog X.w X.A.in1 P tr ∧
      ∀ h' tk, (∀ b o, b ∉ wr → s2.heap.get? b = some o → h'.get? b = some o) → EP X pins σ Q (.bool (f tr n)) { s2 with heap := h', toks := tk }) E s := by
  obtain ⟨its, r, pl, hz⟩ := I.list hs
  have e := vals_bl r
  subst e
  have hl : p < s.heap.objs.size := by
    obtain ⟨o, n, h1, _⟩ := pl
    exact Heap.lt_size h1
  refine wpAny_pyIter_list pl.isList ?_
  refine ⟨s.heap.objs.size, [s.heap.objs.size, p], [s.heap.objs.size], (bs.map Value.bool).toArray.size, _, _, fun i => bs.getD i true, rfl, Walks.list (A := X.A.in1) (show X.A.in1.handled = none from I.ok.hd hc) s.heap.objs.size p (Nat.ne_of_lt hl) (bs.map Value.bool).toArray,
    ⟨⟨_, Heap.get?_push_size _ rfl, rfl, rfl⟩, pl.isList.at fun o e => Heap.get?_push_of_some _ e⟩, fun i v s' Q' E' hv hq => ?_, fun h' tk hk => ?_⟩
  · have hv : (bs.map Value.bool).toArray[i]? = some v := hv
    rw [List.getElem?_toArray, List.getElem?_map] at hv
    cases e : bs[i]? with
    | none => rw [e] at hv; cases hv
    | some b =>
      rw [e] at hv
      have hv : Value.bool b = v := Option.some.inj hv
      subst hv
      have hq : Q' (bs.getD i true) s' := hq
      rw [List.getD_eq_getElem?_getD, e] at hq
      exact wpAny_truthy_bool hq
  · refine ⟨.bl _, H, I.kept (fun b o e => hk b o ?_ (Heap.get?_push_of_some _ e)), rfl, by simpa using q⟩
    intro z
    have z : b = s.heap.objs.size := by simpa using z
    exact absurd (Heap.lt_size e) (by rw [z]; exact Nat.lt_irrefl _)
theorem mc_all (hc : X.calm = true) : CallR X (.builtin "all") (mAll X.K fun bs => bs.all id) := by
  intro pins s σ H xs us Q I r h
  unfold mAll at h
  split at h
  · obtain ⟨u, rfl, r1⟩ := vals1 r
    cases r1
    obtain ⟨bs, hs, q⟩ := h
    exact call_all_walk (list_walk hc I hs (fun tr n => (List.range n).all tr) (by rw [all_range]; exact q))
  · exact h.elim
theorem mc_any (hc : X.calm = true) : CallR X (.builtin "any") (mAll X.K fun bs => bs.any id) := by
  intro pins s σ H xs us Q I r h
  unfold mAll at h
  split at h
  · obtain ⟨u, rfl, r1⟩ := vals1 r
    cases r1
    obtain ⟨bs, hs, q⟩ := h
    exact call_any_walk (list_walk hc I hs (fun tr n => (List.range n).any tr) (by rw [any_range]; exact q))
  · exact h.elim
end
end L2
set_option Elab.async false
set_option linter.all false
set_option maxRecDepth 100000
set_option maxHeartbeats 4000000
namespace L2
open PySem PySem.Spec PyProof.Rows
section
variable {X : Cx} {a b c e : Expr} {ta tb tc te : TE} {pos : Pos}
noncomputable def mNotV (K : PySem.W.Frag) (ta : TE) : TE := fun σ H Q => ta σ H (mTru K fun b H' => Q (.bl (!b)) H')
theorem me_not (ha : PE X a ta) : PE X (.UnaryOp .Not a pos) (mNotV X.K ta) := by
  intro pins s σ H Q I h
  refine UnaryOp_ (thn (ha pins s σ H _ I h) fun v s1 ⟨x, H1, I1, r1, q1⟩ => ?_)
  exact not_of (thn (tru_ok pins s1 σ H1 x v _ I1 r1 (mTru_to q1)) fun b s2 ⟨H2, I2, q2⟩ => ⟨.bl (!b), H2, I2, rfl, q2⟩)
noncomputable def mAppend : V → List V → Hp → VK → Prop := fun x vs H Q => match x, vs with
  | .ref l, [y] => ∃ xs, H l = some (.lst xs) ∧ xs.length < sizeLine ∧ Q .non (upd H l (.lst (xs ++ [y])))
  | _, _ => False
theorem mm_append : MtR X "list.append" mAppend := by
  intro pins s σ H x xs v us Q I rx rs h
  refine mt_append pins s σ H x xs v us Q I rx rs ?_
  unfold mAppend at h
  split at h
  · obtain ⟨ys, h1, h2, h3⟩ := h
    exact ⟨_, ys, _, rfl, rfl, h1, h2, h3⟩
  · exact h.elim
noncomputable def mUn (g : Int → Int) : V → Hp → VK → Prop := fun x H Q => match x with | .int i => Q (.int (g i)) H | _ => False
theorem mu_neg : UnR X (unaryOp .USub) (mUn fun i => -i) := by
  intro pins s σ H x v Q I rx h
  refine un_neg pins s σ H x v Q I rx ?_
  cases x <;> first | exact (show False from h).elim | exact ⟨_, rfl, h⟩
end
section
variable {X : Cx}
theorem pe_gstr {x : Str} {z : Str} {tk : Tok} {pos : Pos} (hg : Gl X x) (hm : X.mg x = some (.str z tk)) (hd : (x == ("__debug__" : Str)) = false := by decide) : PE X (.Name x pos) (tC (.str z)) := pe_glob hg hm ⟨tk, rfl⟩ hd
theorem pe_gint {x : Str} {z : Int} {tk : Tok} {pos : Pos} (hg : Gl X x) (hm : X.mg x = some (.int z tk)) (hd : (x == ("__debug__" : Str)) = false := by decide) : PE X (.Name x pos) (tC (.int z)) := pe_glob hg hm ⟨tk, rfl⟩ hd
end
section
variable {X : Cx} {a b c e o : Expr} {es : List Expr} {ta tb tc te to : TE} {t : TA} {pos : Pos} {tg l : Expr} {tl : TE}
theorem pe_bty {x : Str} {n : String} {pos : Pos} (hg : Gl X x) (hm : X.mg x = none) (hv : bootBuiltins x = some (.type n)) (hn : x ≠ "__name__" := by decide) (hd : (x == ("__debug__" : Str)) = false := by decide) : PE X (.Name x pos) (tC (.ty n)) := pe_bltn hg hm hv rfl hn hd
theorem ko_add (K : PySem.W.Frag) (h : X.K = K) : OpR X (binaryOp .Add) (mAdd K) := h ▸ mo_add
theorem kt_tru (K : PySem.W.Frag) (h : X.K = K) (ha : PE X a ta) (he : ∀ whole, isTrue a X.env whole = (do let v ← whole; standAt a.pos; holding [v] (truthy v)) := by intro _; rfl) : PT X a (mTrue K ta) := h ▸ mt_tru ha he
theorem ke_not (K : PySem.W.Frag) (h : X.K = K) (ha : PE X a ta) : PE X (.UnaryOp .Not a pos) (mNotV K ta) := h ▸ me_not ha
theorem ki_seq (K : PySem.W.Frag) (h : X.K = K) : IxR X (mIx K) := h ▸ mi_seq
theorem kc_len (K : PySem.W.Frag) (h : X.K = K) : CallR X (.builtin "len") (mLen K) := h ▸ mc_len
theorem kc_all (K : PySem.W.Frag) (h : X.K = K) (hc : X.calm = true) : CallR X (.builtin "all") (mAll K fun bs => bs.all id) := h ▸ mc_all hc
theorem kc_any (K : PySem.W.Frag) (h : X.K = K) (hc : X.calm = true) : CallR X (.builtin "any") (mAll K fun bs => bs.any id) := h ▸ mc_any hc
theorem kpi_list (K : PySem.W.Frag) (h : X.K = K) (hl : PE X l tl) : PI X tg l (iList K tl) := h ▸ pi_list hl
theorem ke_bm0 (K : PySem.W.Frag) (h : X.K = K) {name : Str} {apos cpos : Pos} {T id : String} {r : V → List V → Hp → VK → Prop} (pa : PlainAttrs T) (slot : Slot T name id) (hty : typeOf (.builtin id) = pure (.type "method_descriptor")) (hm : MtR X id r) (ho : PE X o to)
    (hbase : attributeBase o name X.env (eval o X.env) = eval o X.env := by rfl) (hline : (apos.endLine == cpos.line) = true := by rfl) : PE X (.Call (.Attribute o name apos) [] [] cpos) (tBM0 K T r to) := h ▸ pe_bm0 pa slot hty hm ho hbase hline
theorem ke_bm (K : PySem.W.Frag) (h : X.K = K) {name : Str} {apos cpos : Pos} {T id : String} {r : V → List V → Hp → VK → Prop} (pa : PlainAttrs T) (slot : Slot T name id) (hty : typeOf (.builtin id) = pure (.type "method_descriptor")) (hm : MtR X id r) (ho : PE X o to) (ha : PA X (e :: es) t)
    (hbase : attributeBase o name X.env (eval o X.env) = eval o X.env := by rfl)
    (hfew : ((backTo cpos (starEach (e :: es) X.env)).all (fun x => !x.1) && (backToKw cpos (keywordEach [] X.env)).all (fun x => x.1.isSome)
      && decide ((e :: es).length + ([] : List Keyword).length + (if ([] : List Keyword).isEmpty then 0 else 1) < 30)) = true := by rfl)
    (hline : (apos.endLine == cpos.line) = true := by rfl) (hs : starEach (e :: es) X.env = (false, eval e X.env) :: starEach es X.env := by rfl) (hplain : (backTo cpos (starEach es X.env)).any (·.1) = false := by rfl) :
    PE X (.Call (.Attribute o name apos) (e :: es) [] cpos) (tBM K T r to t) := h ▸ pe_bm pa slot hty hm ho ha hbase hfew hline hs hplain
theorem xor_n {b c : Bool} (h : (false ^^ b) = c) : b = c := by cases b <;> exact h
end
theorem atI_lt {α : Type} {xs : List α} {i : Int} (h0 : 0 ≤ i) (h1 : i < (xs.length : Int)) : ∃ v, atI xs i = some v ∧ xs[i.toNat]? = some v := by
  have hk : i.toNat < xs.length := by omega
  have ek : i = ((i.toNat : Nat) : Int) := by omega
  have q : xs[i.toNat]? = some xs[i.toNat] := List.getElem?_eq_getElem hk
  refine ⟨xs[i.toNat], ?_, q⟩
  have := atI_nat q
  rw [← ek] at this
  exact this
theorem same_new {H : Hp} {p : Addr} (h : H p = none) (o : HO) : Same H (upd H p o) := fun b u q => by rw [upd_ne (ne_of_none q h)]; exact q
theorem same_upd {H H' : Hp} {p : Addr} {o : HO} (e : Same H H') (h : H p = none) : Same H (upd H' p o) := fun b u q => by rw [upd_ne (ne_of_none q h)]; exact e b u q
theorem Same.tup {K : PySem.W.Frag} {H H' : Hp} {a : Addr} {xs : List V} (e : Same H H') (h : SqT K H a xs) : SqT K H' a xs := by
  rcases h with (h | ⟨o, h⟩) | h
  · exact .inl (.inl (e _ _ h))
  · exact .inl (.inr ⟨o, e _ _ h⟩)
  · exact .inr h
theorem cdiv_i {i j : Int} (h1 : 0 < j) (h2 : j < 1073741824) : CDiv i j := ⟨h1, h2⟩
theorem mulOk_right {i j : Int} (h : -(2 ^ 64) < j ∧ j < 2 ^ 64) : IntMulOk i j := CMul.ok (.inr h)
theorem mulOk_left {i j : Int} (h : -(2 ^ 64) < i ∧ i < 2 ^ 64) : IntMulOk i j := CMul.ok (.inl h)
section
variable {K : PySem.W.Frag} {σ : St} {H : Hp} {Q : VK} {D : Ends} {ta tb tc te : TE} {t u : TS} {A B : TT} {P : Bool → Hp → Prop} {v x y : V} {i j : Int} {n : Nat} {b : Bool} {p q : Str}
theorem mVar_i (h : σ[n]? = some (some v)) (k : Q v H) : mVar n σ H Q := by unfold mVar; rw [h]; exact k
theorem tC_i (k : Q v H) : tC v σ H Q := k
theorem tOp_i {r : R2} (k : ta σ H fun x H1 => tb σ H1 fun y H2 => r x y H2 Q) : tOp r ta tb σ H Q := k
theorem tUn_i {r : V → Hp → VK → Prop} (k : ta σ H fun x H1 => r x H1 Q) : tUn r ta σ H Q := k
theorem mUn_i {g : Int → Int} (k : Q (.int (g i)) H) : mUn g (.int i) H Q := k
theorem m20_i {g : Int → Int → V} (k : Q (g i j) H) : m20 g (.int i) (.int j) H Q := k
theorem m2_i {C : Int → Int → Prop} {g : Int → Int → V} (c : C i j) (k : Q (g i j) H) : m2 C g (.int i) (.int j) H Q := ⟨c, k⟩
theorem mAdd_i (k : Q (.int (i + j)) H) : mAdd K (.int i) (.int j) H Q := k
theorem mAdd_s (c : p.length + q.length ≤ sizeLine) (k : Q (.str (p ++ q)) H) : mAdd K (.str p) (.str q) H Q := ⟨c, k⟩
theorem mMul_i (c : IntMulOk i j) (k : Q (.int (i * j)) H) : mMul (.int i) (.int j) H Q := ⟨c, k⟩
theorem mEq_i (k : Q (.bl (b ^^ decide (i = j))) H) : mEq b (.int i) (.int j) H Q := k
theorem mEq_s (k : Q (.bl (b ^^ decide (p = q))) H) : mEq b (.str p) (.str q) H Q := k
theorem mEq_b {c d : Bool} (k : Q (.bl (b ^^ decide (c = d))) H) : mEq b (.bl c) (.bl d) H Q := k
theorem mInS_i (k : Q (.bl (b ^^ inS p q)) H) : mInS b (.str p) (.str q) H Q := k
theorem mB_i (k : P b H) : mB P (.bl b) H := k
theorem mTest_i (k : ta σ H (mB P)) : mTest ta σ H P := k
theorem mTrue_i (k : ta σ H (mTru K P)) : mTrue K ta σ H P := k
theorem mTru_b (k : P b H) : mTru K P (.bl b) H := k
theorem mChain_i {r r' : R2} (k : ta σ H fun x H1 => tb σ H1 fun y H2 => r x y H2 (mB fun k H3 => if k = true then tc σ H3 fun w' H4 => r' y w' H4 Q else Q (.bl false) H3)) : mChain r r' ta tb tc σ H Q := k
theorem mAndV_i (k : ta σ H (mB fun c H1 => if c = true then tb σ H1 Q else Q (.bl false) H1)) : mAndV ta tb σ H Q := k
theorem mOrV_i (k : ta σ H (mB fun c H1 => if c = true then Q (.bl true) H1 else tb σ H1 Q)) : mOrV ta tb σ H Q := k
theorem mNotV_i (k : ta σ H (mTru K fun b H' => Q (.bl (!b)) H')) : mNotV K ta σ H Q := k
theorem tIf_i (k : A σ H fun c H1 => if c = true then ta σ H1 Q else tb σ H1 Q) : tIf A ta tb σ H Q := k
theorem tAnd_i (k : A σ H fun c H1 => if c = true then B σ H1 P else P false H1) : tAnd A B σ H P := k
theorem tOr_i (k : A σ H fun c H1 => if c = true then P true H1 else B σ H1 P) : tOr A B σ H P := k
theorem tNot_i (k : A σ H fun c H1 => P (!c) H1) : tNot A σ H P := k
theorem tSeq_i (k : t { D with nx := u D } σ H) : tSeq t u D σ H := k
theorem tNext_i (k : D.nx σ H) : tNext D σ H := k
theorem tRet_i (k : te σ H D.rt) : tRet te D σ H := k
theorem tIfS_i (k : A σ H fun b H1 => if b = true then t D σ H1 else u D σ H1) : tIfS A t u D σ H := k
theorem tAsg_i {g : TG} (k : te σ H fun x H1 => g x σ H1 D.nx) : tAsg te g D σ H := k
theorem tDrop_i (k : te σ H fun _ H1 => D.nx σ H1) : tDrop te D σ H := k
theorem gName_i {N : St → Hp → Prop} (k : N (σ.set n (some v)) H) : gName n v σ H N := k
theorem tCB_i {r : List V → Hp → VK → Prop} {a : TA} (k : a σ H fun vs H1 => r vs H1 Q) : tCB r a σ H Q := k
theorem tCons_i {a : TA} {R : List V → Hp → Prop} (k : ta σ H fun x H1 => a σ H1 fun xs H2 => R (x :: xs) H2) : tCons ta a σ H R := k
theorem tNil_i {R : List V → Hp → Prop} (k : R [] H) : tNil σ H R := k
theorem tBM_i {T : String} {r : V → List V → Hp → VK → Prop} {a : TA} (k : ta σ H fun x H1 => tyV K T x H1 ∧ a σ H1 fun xs H2 => r x xs H2 Q) : tBM K T r ta a σ H Q := k
theorem tBM0_i {T : String} {r : V → List V → Hp → VK → Prop} (k : ta σ H fun x H1 => tyV K T x H1 ∧ r x [] H1 Q) : tBM0 K T r ta σ H Q := k
theorem tTup_i {a : TA} (k : a σ H fun xs H1 => xs.length ≤ sizeLine ∧ ∀ p, H1 p = none → Q (.ref p) (upd H1 p (.tup xs))) : tTup a σ H Q := k
theorem tLst_i {a : TA} (k : a σ H fun xs H1 => xs.length ≤ sizeLine ∧ ∀ p, H1 p = none → Q (.ref p) (upd H1 p (.lst xs))) : tLst a σ H Q := k
theorem tSl_i {r : V → Option Int → Option Int → Hp → VK → Prop} {tl th : TO} (k : te σ H fun x H1 => tl σ H1 fun l H2 => th σ H2 fun u H3 => r x l u H3 Q) : tSl r te tl th σ H Q := k
theorem tNoPart_i {R : Option Int → Hp → Prop} (k : R none H) : tNoPart σ H R := k
theorem mPart_i {R : Option Int → Hp → Prop} (k : te σ H (mI R)) : mPart te σ H R := k
theorem mI_i {R : Option Int → Hp → Prop} (k : R (some i) H) : mI R (.int i) H := k
theorem mSlS_i {lo hi : Option Int} (c : p.length ≤ sizeLine) (k : Q (.str (cutS p lo hi)) H) : mSlS (.str p) lo hi H Q := ⟨c, k⟩
theorem mLen_s (c : p.length ≤ sizeLine) (k : Q (.int p.length) H) : mLen K [.str p] H Q := ⟨c, k⟩
theorem mLen_l {a : Addr} {xs : List V} (c : SqL K H a xs) (k : Q (.int xs.length) H) : mLen K [.ref a] H Q := .inl ⟨xs, c, k⟩
theorem mIx_l {a : Addr} {xs : List V} (c : SqL K H a xs) (e : atI xs i = some v) (k : Q v H) : mIx K (.ref a) (.int i) H Q := .inl ⟨xs, v, c, e, k⟩
theorem mIx_t {a : Addr} {xs : List V} (c : SqT K H a xs) (e : atI xs i = some v) (k : Q v H) : mIx K (.ref a) (.int i) H Q := .inr ⟨xs, v, c, e, k⟩
theorem mIx_s {c : Nat} (z : p.length ≤ sizeLine) (e : atI p.cps.toList i = some c) (k : Q (.str ⟨#[c]⟩) H) : mIx K (.str p) (.int i) H Q := ⟨z, c, e, k⟩
theorem mAppend_i {a : Addr} {xs : List V} (e : H a = some (.lst xs)) (c : xs.length < sizeLine) (k : Q .non (upd H a (.lst (xs ++ [v])))) : mAppend (.ref a) [v] H Q := ⟨xs, e, c, k⟩
theorem iteB {c d : Prop} (h1 : b = true → c) (h2 : b = false → d) : if b = true then c else d := by
  cases b with
  | true => exact h1 rfl
  | false => exact h2 rfl
theorem tCall0_i {sp : Sp} {E : XK} {a : TA} (k : a σ H fun vs H1 => sp vs H1 Q E) : tCall sp [] E a σ H Q := by
  unfold tCall
  have e : (fun (vs : List V) (H1 : Hp) => sp (vs ++ []) H1 Q E) = fun vs H1 => sp vs H1 Q E := by funext vs H1; rw [List.append_nil]
  rw [e]; exact k
theorem tFor_i {wi : TI} {g : TG} (k : wi σ H fun J H1 => ForW J g t D σ H1) : tFor wi g t D σ H := k
theorem iStr_i {R : It → Hp → Prop} (k : ta σ H fun v H1 => ∃ x, v = .str x ∧ R (Its x) H1) : iStr ta σ H R := k
theorem iList_i {R : It → Hp → Prop} (k : ta σ H fun x H1 => ∃ a, x = .ref a ∧ (∃ xs, SqL K H1 a xs) ∧ R (Itl K a) H1) : iList K ta σ H R := k
theorem iTup_i {R : It → Hp → Prop} (k : ta σ H fun x H1 => ∃ a, x = .ref a ∧ (∃ xs, SqT K H1 a xs) ∧ R (Itt K a) H1) : iTup K ta σ H R := k
theorem iRng1_i {a : TA} {R : It → Hp → Prop} (k : a σ H fun vs H1 => ∃ j : Int, vs = [.int j] ∧ -(2 ^ 62) ≤ j ∧ j < 2 ^ 62 ∧ R (Itr 0 j.toNat) H1) : iRng1 a σ H R := k
theorem tComp_i {wi : TI} {tt : TT} (k : wi σ H fun J H1 => ∀ D, H1 D = none → CompW J tt te σ Q D H1) : tComp wi tt te σ H Q := k
theorem seq_rest (Post : St → Hp → Prop) (h1 : ∀ σ' H', Post σ' H' → u D σ' H') (h2 : (∀ σ' H', Post σ' H' → u D σ' H') → t { D with nx := u D } σ H) : tSeq t u D σ H := h2 h1
theorem ix_str_lt {z : Str} {i : Int} (h0 : 0 ≤ i) (h1 : i < (z.length : Int)) : ∃ c, atI z.cps.toList i = some c := by
  obtain ⟨c, hc, _⟩ := atI_lt (xs := z.cps.toList) h0 (by simp only [Array.length_toList]; exact h1)
  exact ⟨c, hc⟩
end
end L2
set_option Elab.async false
set_option linter.all false
set_option maxRecDepth 100000
set_option maxHeartbeats 4000000
namespace L2
open PySem PySem.Spec PyProof.Rows
mutual
inductive Den (K : PySem.W.Frag) (H : Hp) : V → PyData → Prop
  | non : Den K H .non .none
  | bl (b : Bool) : Den K H (.bl b) (.bool b)
  | int (i : Int) : Den K H (.int i) (.int i)
  | str (x : Str) : Den K H (.str x) (.str x)
  | tup {a : Addr} {us : List V} {ds : List PyData} : SqT K H a us → DenL K H us ds → Den K H (.ref a) (.tuple ds)
inductive DenL (K : PySem.W.Frag) (H : Hp) : List V → List PyData → Prop
  | nil : DenL K H [] []
  | cons {u : V} {us : List V} {d : PyData} {ds : List PyData} : Den K H u d → DenL K H us ds → DenL K H (u :: us) (d :: ds)
end
mutual
theorem Den.monoT {K : PySem.W.Frag} {H H' : Hp} (e : ∀ a xs, SqT K H a xs → SqT K H' a xs) : ∀ {v : V} {d : PyData}, Den K H v d → Den K H' v d
  | _, _, .non => .non
  | _, _, .bl b => .bl b
  | _, _, .int i => .int i
  | _, _, .str x => .str x
  | _, _, .tup h l => .tup (e _ _ h) (DenL.monoT e l)
theorem DenL.monoT {K : PySem.W.Frag} {H H' : Hp} (e : ∀ a xs, SqT K H a xs → SqT K H' a xs) : ∀ {v : List V} {d : List PyData}, DenL K H v d → DenL K H' v d
  | _, _, .nil => .nil
  | _, _, .cons h l => .cons (Den.monoT e h) (DenL.monoT e l)
end
theorem Den.mono {K : PySem.W.Frag} {H H' : Hp} (e : Same H H') {v : V} {d : PyData} (h : Den K H v d) : Den K H' v d := h.monoT fun _ _ q => e.tup q
theorem DenL.mono {K : PySem.W.Frag} {H H' : Hp} (e : Same H H') {v : List V} {d : List PyData} (h : DenL K H v d) : DenL K H' v d := h.monoT fun _ _ q => e.tup q
theorem tup_lst {K : PySem.W.Frag} {H : Hp} {p : Addr} {ys : List V} {o : HO} (h : H p = some (.lst ys)) : ∀ a xs, SqT K H a xs → SqT K (upd H p o) a xs := fun a xs q => by
  rcases q with (q | ⟨o', q⟩) | q
  · exact .inl (.inl (by rw [upd_ne (ne_of q h (fun z => by cases z))]; exact q))
  · exact .inl (.inr ⟨o', by rw [upd_ne (ne_of q h (fun z => by cases z))]; exact q⟩)
  · exact .inr q
theorem Den.lst {K : PySem.W.Frag} {H : Hp} {p : Addr} {ys : List V} {o : HO} (h : H p = some (.lst ys)) {v : V} {d : PyData} (q : Den K H v d) : Den K (upd H p o) v d := q.monoT (tup_lst h)
theorem DenL.lst {K : PySem.W.Frag} {H : Hp} {p : Addr} {ys : List V} {o : HO} (h : H p = some (.lst ys)) {v : List V} {d : List PyData} (q : DenL K H v d) : DenL K (upd H p o) v d := q.monoT (tup_lst h)
section
variable {K : PySem.W.Frag} {H : Hp}
theorem DenL.length : ∀ {us : List V} {ds : List PyData}, DenL K H us ds → us.length = ds.length
  | _, _, .nil => rfl
  | _, _, .cons _ l => by rw [List.length_cons, List.length_cons, DenL.length l]
theorem DenL.get : ∀ {us : List V} {ds : List PyData} {i : Nat} {u : V}, DenL K H us ds → us[i]? = some u → ∃ d, ds[i]? = some d ∧ Den K H u d
  | _, _, _, _, .nil, e => by simp at e
  | _, _, 0, _, .cons h _, e => by simp at e; subst e; exact ⟨_, rfl, h⟩
  | _, _, i + 1, u, .cons _ l, e => by
    obtain ⟨d, h1, h2⟩ := DenL.get (i := i) (u := u) l (by simpa using e)
    exact ⟨d, by simpa using h1, h2⟩
theorem DenL.append : ∀ {us vs : List V} {ds es : List PyData}, DenL K H us ds → DenL K H vs es → DenL K H (us ++ vs) (ds ++ es)
  | _, _, _, _, .nil, l => l
  | _, _, _, _, .cons h t, l => .cons h (DenL.append t l)
theorem DenL.take : ∀ {us : List V} {ds : List PyData} (n : Nat), DenL K H us ds → DenL K H (us.take n) (ds.take n)
  | _, _, 0, _ => .nil
  | _, _, _ + 1, .nil => .nil
  | _, _, n + 1, .cons h t => .cons h (DenL.take n t)
theorem DenL.drop : ∀ {us : List V} {ds : List PyData} (n : Nat), DenL K H us ds → DenL K H (us.drop n) (ds.drop n)
  | _, _, 0, l => l
  | _, _, _ + 1, .nil => .nil
  | _, _, n + 1, .cons _ t => DenL.drop n t
end
section
variable {X : Cx} {pins : List (Addr × Obj)} {σ : St} {H : Hp} {s : Shared}
theorem depthAll_get : ∀ {ds : List PyData} {i : Nat} {d : PyData}, ds[i]? = some d → d.depth ≤ PyData.depthAll ds
  | [], _, _, e => by simp at e
  | x :: r, 0, d, e => by simp at e; subst e; unfold PyData.depthAll; omega
  | x :: r, i + 1, d, e => by
    have := depthAll_get (ds := r) (i := i) (d := d) (by simpa using e)
    unfold PyData.depthAll; omega
theorem eq_same (I : Inv X pins σ H s) : ∀ (n : Nat) (A : Around) (d : PyData) (v v' : V) (u u' : Value), d.depth ≤ n → A.units + n < cLine → Den X.K H v d → Den X.K H v' d → RelV v u → RelV v' u' → SeqAt.EqAt A s u u' true := by
  intro n
  induction n with
  | zero =>
    intro A d v v' u u' hd hu h h' r r'
    cases h with
    | non => cases h'; cases r; cases r'; exact SeqAt.EqAt.same _
    | bl b => cases h'; cases r; cases r'; exact SeqAt.EqAt.same _
    | int i =>
      cases h'
      obtain ⟨t, rfl⟩ := r
      obtain ⟨t', rfl⟩ := r'
      have := SeqAt.EqAt.int_int (A := A) (s := s) i t i t'
      simpa using this
    | str x =>
      cases h'
      obtain ⟨t, rfl⟩ := r
      obtain ⟨t', rfl⟩ := r'
      have := SeqAt.EqAt.str_str (A := A) (s := s) x t x t'
      simpa using this
    | tup _ _ => simp [PyData.depth] at hd
  | succ n ih =>
    intro A d v v' u u' hd hu h h' r r'
    cases h with
    | non => cases h'; cases r; cases r'; exact SeqAt.EqAt.same _
    | bl b => cases h'; cases r; cases r'; exact SeqAt.EqAt.same _
    | int i =>
      cases h'
      obtain ⟨t, rfl⟩ := r
      obtain ⟨t', rfl⟩ := r'
      have := SeqAt.EqAt.int_int (A := A) (s := s) i t i t'
      simpa using this
    | str x =>
      cases h'
      obtain ⟨t, rfl⟩ := r
      obtain ⟨t', rfl⟩ := r'
      have := SeqAt.EqAt.str_str (A := A) (s := s) x t x t'
      simpa using this
    | @tup a us ds hs hl =>
      cases h' with
      | @tup b us' _ hs' hl' =>
        cases r
        cases r'
        by_cases e : a = b
        · subst e; exact SeqAt.EqAt.same _
        · obtain ⟨its, rv, p, _⟩ := I.tuple hs
          obtain ⟨its', rv', p', _⟩ := I.tuple hs'
          have l1 := rv.length
          have l2 := rv'.length
          have l3 := hl.length
          have l4 := hl'.length
          have hd' : PyData.depthAll ds ≤ n := by simp only [PyData.depth] at hd; omega
          have key := SeqAt.RcAt.tuples (A := A) (e := fun _ => true) (show s.heap.IsTuple a its.toArray from p) (show s.heap.IsTuple b its'.toArray from p') (by omega) (fun j h1 h2 => by
            have h1 : j < its.length := by simpa using h1
            have h2 : j < its'.length := by simpa using h2
            have x1 : us[j]? = some us[j] := List.getElem?_eq_getElem (by omega)
            have x2 : us'[j]? = some us'[j] := List.getElem?_eq_getElem (by omega)
            obtain ⟨d, e1, d1⟩ := hl.get x1
            obtain ⟨d', e2, d2⟩ := hl'.get x2
            rw [e1] at e2; cases e2
            obtain ⟨w1, y1, z1⟩ := rv.get x1
            obtain ⟨w2, y2, z2⟩ := rv'.get x2
            have q1 : its.toArray[j] = w1 := by
              have := List.getElem?_eq_getElem h1
              rw [y1] at this
              simpa using (Option.some.inj this).symm
            have q2 : its'.toArray[j] = w2 := by
              have := List.getElem?_eq_getElem h2
              rw [y2] at this
              simpa using (Option.some.inj this).symm
            rw [q1, q2]
            exact ih A.in1 d _ _ _ _ (Nat.le_trans (depthAll_get e1) hd') (by show A.units + 1 + n < cLine; omega) d1 d2 z1 z2)
          have e3 : its.toArray.size = its'.toArray.size := by simp only [List.size_toArray]; omega
          rw [e3] at key
          have e4 : ((List.range (min its'.toArray.size its'.toArray.size)).all (fun _ => true) && its'.toArray.size == its'.toArray.size) = true := by simp
          rw [e4] at key
          exact SeqAt.EqAt.of_refs e key
end
section
variable {X : Cx} {a b c e : Expr} {ta tb tc te : TE} {pos : Pos} {tg l : Expr} {tl : TE}
theorem room150 {k : Nat} {A : Around} (hr : Room k A) : A.units + 150 < cLine := by have := hr.un; omega
noncomputable def mMin : List V → Hp → VK → Prop := fun vs H Q => ∃ i j, vs = [.int i, .int j] ∧ Q (.int (if j < i then j else i)) H
theorem mc_min (hc : X.calm = true) : CallR X (.builtin "min") mMin := call_min2 hc
noncomputable def mMax : List V → Hp → VK → Prop := fun vs H Q => ∃ i j, vs = [.int i, .int j] ∧ Q (.int (if j > i then j else i)) H
end
open PySem.AutoSeq1 in
open PySem.MeetsSeq PySem.MeetsSeq2 PySem.MeetsSeq3 in
section
variable {X : Cx}
end
section
variable {prog : Program} {w : World} {A : Around} {E : Value → Shared → Prop} {s : Shared}
end
section
variable {X : Cx}
end
section
variable {σ : St} {H : Hp} {D : Ends} {t : TS} {c : TT}
noncomputable def WhileW (c : TT) (t : TS) (D : Ends) (σ : St) (H : Hp) : Prop := tWhile c t D σ H
theorem tWhile_i (k : WhileW c t D σ H) : tWhile c t D σ H := k
end
end L2
set_option Elab.async false
set_option linter.all false
set_option maxRecDepth 100000
set_option maxHeartbeats 4000000
namespace L2
open PySem PySem.Spec PyProof.Rows
theorem kit_ty {K : PySem.W.Frag} {T n : String} {b : Bool} (h : (if (Value.type T == Value.type n) = true then some true else if PySem.W.kitMeta n = true then (fastBuiltinMro T).map (·.contains (.type n)) else none) = some b) : PySem.W.kitOne K (.type T) (.type n) = some b := h
section
variable {X : Cx} {a : Expr} {ta : TE}
noncomputable def tyN (K : PySem.W.Frag) (H : Hp) : V → String → Prop
  | .non, T => T = "NoneType"
  | .bl _, T => T = "bool"
  | .int _, T => T = "int"
  | .str _, T => T = "str"
  | .ref p, T => (T = "list" ∧ ∃ xs, SqL K H p xs) ∨ (T = "tuple" ∧ ∃ xs, SqT K H p xs) ∨ (T = "dict" ∧ ∃ kvs, H p = some (.dK kvs))
  | _, _ => False
noncomputable def mIs (K : PySem.W.Frag) : List V → Hp → VK → Prop := fun vs H Q => ∃ x n T b, vs = [x, .ty n] ∧ tyN K H x T ∧ (∀ K' : PySem.W.Frag, PySem.W.kitOne K' (.type T) (.type n) = some b) ∧ Q (.bl b) H
theorem kc_is (K : PySem.W.Frag) (hK : X.K = K) : CallR X (.builtin "isinstance") (mIs K) := by
  subst hK
  intro pins s σ H xs us Q I r h
  obtain ⟨x, n, T, b, rfl, ht, hk, q⟩ := h
  obtain ⟨u, w', rfl, r1, r2⟩ := vals2 r
  cases r2
  have fin : ∀ tk, EP X pins σ Q (.bool b) { s with toks := tk } := fun tk => ⟨.bl b, H, I.tok _, rfl, q⟩
  cases x with
  | non => cases ht; exact isinst_ok I r1 .non (hk _) fin
  | bl y => cases ht; exact isinst_ok I r1 (.bl y) (hk _) fin
  | int i => cases ht; exact isinst_ok I r1 (.int i) (hk _) fin
  | str z => cases ht; exact isinst_ok I r1 (.str z) (hk _) fin
  | ref p =>
    cases r1
    rcases ht with ⟨rfl, xs, hs⟩ | ⟨rfl, xs, hs⟩ | ⟨rfl, kvs, hs⟩
    · obtain ⟨its, _, ⟨o, n', h1, h2, _⟩, _⟩ := I.list hs
      exact PySem.W.kia_one PySem.W.kitx_list I.kIn ⟨o, h1, h2⟩ (hk _) (fun z => nomatch z) fin
    · obtain ⟨its, _, ⟨o, h1, h2, _⟩, _⟩ := I.tuple hs
      exact PySem.W.kia_one PySem.W.kitx_tuple I.kIn ⟨o, h1, h2⟩ (hk _) (fun z => nomatch z) fin
    · exact isinst_ok (x := .ref p) I rfl (.dK hs) (hk _) fin
  | _ => exact (show False from ht).elim
end
section
variable {K : PySem.W.Frag} {H : Hp} {Q : VK} {i : Int} {p : Str} {b : Bool} {a : Addr} {xs : List V}
theorem is_str (k : Q (.bl true) H) : mIs K [.str p, .ty "str"] H Q := ⟨_, _, _, true, rfl, rfl, fun _ => kit_same _ _, k⟩
theorem is_int (k : Q (.bl true) H) : mIs K [.int i, .ty "int"] H Q := ⟨_, _, _, true, rfl, rfl, fun _ => kit_same _ _, k⟩
theorem is_bool (k : Q (.bl true) H) : mIs K [.bl b, .ty "bool"] H Q := ⟨_, _, _, true, rfl, rfl, fun _ => kit_same _ _, k⟩
theorem is_int_bool (k : Q (.bl false) H) : mIs K [.int i, .ty "bool"] H Q := ⟨_, _, _, false, rfl, rfl, fun _ => kit_ty (by decide +kernel), k⟩
theorem atI_mem {α : Type} {xs : List α} {i : Int} {v : α} (h : atI xs i = some v) : v ∈ xs := by
  obtain ⟨j, _, e, _⟩ := atI_get h
  exact List.mem_of_getElem? e
theorem str_app (l m : List Nat) : (⟨l.toArray⟩ : Str) ++ ⟨m.toArray⟩ = ⟨(l ++ m).toArray⟩ := by
  apply Str.ext'
  show l.toArray ++ m.toArray = (l ++ m).toArray
  simp
theorem str_len (l : List Nat) : (⟨l.toArray⟩ : Str).length = l.length := by simp [Str.length]
theorem ints_at {ns : List Int} {i : Int} {v : V} (h : atI (ns.map V.int) i = some v) : ∃ n, v = .int n := by
  have := atI_mem h
  obtain ⟨n, _, e⟩ := List.mem_map.mp this
  exact ⟨n, e.symm⟩
theorem ints_get {ns : List Int} {i : Nat} (h : i < (ns.map V.int).length) : ∃ n, (ns.map V.int).getD i .non = .int n := by
  rw [List.length_map] at h
  rw [List.getD_eq_getElem?_getD, List.getElem?_map, List.getElem?_eq_getElem h]
  exact ⟨_, rfl⟩
theorem mMin_i {j : Int} (k : Q (.int (if j < i then j else i)) H) : mMin [.int i, .int j] H Q := ⟨i, j, rfl, k⟩
theorem iRng2_i {σ : St} {ta : TA} {R : It → Hp → Prop} (k : ta σ H fun vs H1 => ∃ i j : Int, vs = [.int i, .int j] ∧ (-(2 ^ 62) ≤ i ∧ i < 2 ^ 62 ∧ -(2 ^ 62) ≤ j ∧ j < 2 ^ 62) ∧ R (Itr i (j - i).toNat) H1) : iRng2 ta σ H R := k
end
end L2
set_option Elab.async false
set_option linter.all false
set_option maxRecDepth 100000
set_option maxHeartbeats 4000000
namespace L2
open PySem PySem.Spec PyProof.Rows
section
variable {X : Cx}
end
noncomputable abbrev markS : Str := Str.ofString "+-*/:<=>&^?@#!;$"
noncomputable abbrev one (c : Nat) : Str := ⟨#[c]⟩
noncomputable abbrev sp_l_cell_at (K : PySem.W.Frag) : Sp := fun vs H Q _ => match vs with | [.ref a, .int k] => ∃ ns : List Int, SqL K H a (ns.map V.int) ∧ 0 ≤ k ∧ k ≤ 1000 ∧ ∀ v, Q (.int v) H | _ => False
noncomputable abbrev sp_l_stream : Sp := fun vs H Q _ => match vs with | [.int c, .int m] => 0 ≤ m ∧ m ≤ 100 ∧ ∀ (p : Addr) (ns : List Int) (H' : Hp), ns.length = m.toNat → Same H H' → H' p = some (.lst (ns.map V.int)) → Q (.ref p) H' | _ => False
noncomputable abbrev sp_l_cells (K : PySem.W.Frag) : Sp := fun vs H Q _ => match vs with
  | [.ref a, .int at_, .int m] => ∃ ns : List Int, SqL K H a (ns.map V.int) ∧ ns.length ≤ 63 ∧ 0 ≤ at_ ∧ at_ ≤ 100 ∧ 0 ≤ m ∧ m ≤ 100 ∧ ∀ (p : Addr) (cs : List Int) (H' : Hp), cs.length ≤ m.toNat → Same H H' → H' p = some (.lst (cs.map V.int)) → Q (.ref p) H'
  | _ => False
noncomputable abbrev sp_l_whole : Sp := fun vs H Q _ => match vs with | [.int n] => Q (.bl true) H | _ => False
noncomputable abbrev sp_l_mark : Sp := fun vs H Q _ => match vs with | [.int c] => ∀ z : List Nat, 1 ≤ z.length → z.length ≤ 3 → (∀ y ∈ z, y ∈ markS.cps.toList) → z ≠ [60, 45] → Q (.str ⟨z.toArray⟩) H | _ => False
theorem ln {n : Nat} (h : n ≤ 100000) : n ≤ sizeLine := by rw [sizeLine_eq]; omega
theorem ln1 {n : Nat} (h : n < 100000) : n < sizeLine := by rw [sizeLine_eq]; omega
theorem arrow_eq : Str.ofString "<-" = ⟨[60, 45].toArray⟩ := by decide +kernel
theorem back_eq : Str.ofString "->" = ⟨[45, 62].toArray⟩ := by decide +kernel
theorem mk16 : markS.length = 16 := by decide +kernel
end L2
set_option Elab.async false
set_option linter.all false
set_option maxRecDepth 100000
set_option maxHeartbeats 4000000
namespace L2
open PySem PySem.Spec PyProof.Rows
section
variable {X : Cx} {e : Expr} {te : TE} {pos : Pos}
noncomputable def mAug (i : Nat) (te : TE) (ti : TIp) : TS := fun D σ H => ∃ x, σ[i]? = some (some x) ∧ te σ H fun y H1 => ti x y H1 fun z H2 => D.nx (σ.set i (some z)) H2
noncomputable def mIAdd : TIp := fun x y H Q => match x, y with
  | .int i, .int j => Q (.int (i + j)) H
  | .str i, .str j => i.length + j.length ≤ sizeLine ∧ Q (.str (i ++ j)) H
  | _, _ => False
end
section
variable {σ : St} {H : Hp} {Q : VK} {D : Ends} {te : TE} {n : Nat} {v : V} {i j : Int}
theorem mAug_i {ti : TIp} (h : σ[n]? = some (some v)) (k : te σ H fun y H1 => ti v y H1 fun z H2 => D.nx (σ.set n (some z)) H2) : mAug n te ti D σ H := ⟨v, h, k⟩
theorem mIAdd_i (k : Q (.int (i + j)) H) : mIAdd (.int i) (.int j) H Q := k
end
inductive Trm where
  | num (n : Int)
  | any (x : Str)
  | app (sg : Str) (ks : List Trm)
noncomputable abbrev numS : Str := Str.ofString "num"
noncomputable abbrev anyS : Str := Str.ofString "any"
noncomputable abbrev appS : Str := Str.ofString "app"
mutual
noncomputable def Trm.data : Trm → PyData
  | .num n => .tuple [.str numS, .int n]
  | .any x => .tuple [.str anyS, .str x]
  | .app sg ks => .tuple [.str appS, .str sg, .tuple (Trm.dataL ks)]
noncomputable def Trm.dataL : List Trm → List PyData
  | [] => []
  | t :: r => t.data :: Trm.dataL r
end
mutual
noncomputable def Trm.size : Trm → Nat
  | .num _ => 1
  | .any _ => 1
  | .app _ ks => 1 + Trm.sizeL ks
noncomputable def Trm.sizeL : List Trm → Nat
  | [] => 0
  | t :: r => t.size + Trm.sizeL r
end
section
variable {K : PySem.W.Frag} {H : Hp} {v : V}
theorem DenL.snoc {us : List V} {ds : List PyData} {d : PyData} (h : DenL K H us (ds ++ [d])) : ∃ us' u, us = us' ++ [u] ∧ DenL K H us' ds ∧ Den K H u d := by
  induction ds generalizing us with
  | nil =>
    cases h with
    | cons h1 h2 =>
      cases h2
      exact ⟨[], _, rfl, .nil, h1⟩
  | cons x r ih =>
    cases h with
    | cons h1 h2 =>
      obtain ⟨us', u, rfl, a, b⟩ := ih h2
      exact ⟨_ :: us', u, rfl, .cons h1 a, b⟩
theorem DenL.at {us : List V} {ds : List PyData} {i : Int} {d : PyData} (h : DenL K H us ds) (e : atI ds i = some d) : ∃ u, atI us i = some u ∧ Den K H u d := by
  obtain ⟨j, h1, h2, h3, h4, h5⟩ := atI_get e
  have hl := h.length
  have hj : j < us.length := by omega
  obtain ⟨d', e1, e2⟩ := h.get (List.getElem?_eq_getElem hj)
  rw [h2] at e1
  cases e1
  refine ⟨us[j], ?_, e2⟩
  unfold atI at e ⊢
  rw [hl]
  cases q : ixN ds.length i with
  | none => rw [q] at e; cases e
  | some k =>
    rw [q] at e
    have := (ixN_seq q).1
    rw [h1] at this
    cases this
    exact List.getElem?_eq_getElem hj
end
end L2
set_option Elab.async false
set_option linter.all false
set_option maxRecDepth 100000
set_option maxHeartbeats 4000000
namespace L2
open PySem PySem.Spec PyProof.Rows
noncomputable def Itv (K : PySem.W.Frag) (a : Addr) (n : Nat) : It := ⟨fun i H => ∃ xs, SqL K H a xs ∧ xs.length = n ∧ i < n, fun i H x H' => H' = H ∧ ∀ xs, SqL K H a xs → xs[n - 1 - i]? = some x, fun i _ => i = n⟩
section
variable {X : Cx} {tg : Expr}
noncomputable def iRev (K : PySem.W.Frag) (ta : TA) : TI := fun σ H R => ta σ H fun vs H1 => ∃ a xs, vs = [.ref a] ∧ SqL K H1 a xs ∧ R (Itv K a xs.length) H1
end
theorem iRev_i {K : PySem.W.Frag} {σ : St} {H : Hp} {ta : TA} {R : It → Hp → Prop} (k : ta σ H fun vs H1 => ∃ a xs, vs = [.ref a] ∧ SqL K H1 a xs ∧ R (Itv K a xs.length) H1) : iRev K ta σ H R := k
end L2
set_option Elab.async false
set_option linter.all false
set_option maxRecDepth 100000
set_option maxHeartbeats 4000000
namespace L2
open PySem PySem.Spec PyProof.Rows
section
variable {X : Cx}
theorem mMax_i {i j : Int} {H : Hp} {Q : VK} (k : Q (.int (if j > i then j else i)) H) : mMax [.int i, .int j] H Q := ⟨i, j, rfl, k⟩
end
end L2
set_option Elab.async false
set_option linter.all false
set_option maxRecDepth 100000
set_option maxHeartbeats 4000000
namespace L2
open PySem PySem.Spec PyProof.Rows
section
variable {X : Cx}
noncomputable def mUpd : V → List V → Hp → VK → Prop := fun x vs H Q => ∃ (a b : Addr) (kvs more : List (Key × V)), x = .ref a ∧ vs = [.ref b] ∧ a ≠ b ∧ H a = some (.dK kvs) ∧ H b = some (.dK more) ∧ kvs.length + more.length ≤ sizeLine ∧ Q .non (upd H a (.dK (mergeK kvs more)))
theorem mm_update : MtR X "dict.update" mUpd := by
  intro pins s σ H x vs v us Q I rx rv h
  obtain ⟨a, b, kvs, more, rfl, rfl, hab, ha, hb, hz, q⟩ := h
  cases rx
  obtain ⟨u, rfl, ru⟩ := rv.one
  cases ru
  obtain ⟨z1, d1, vs1, r1, dd1⟩ := dk_of I.hok ha
  obtain ⟨z2, d2, vs2, r2, dd2⟩ := dk_of I.hok hb
  have hl := length_mergeK more kvs
  refine call_meetsIn PySem.F.slot_dict_update dd1.typeIs PySem.F.entry_dict_update (PySem.F.args_dict_update_2 _ _) (meets_dict_update (mixKind X.prog X.w) a b hab d2) ⟨vs1, vs2, dd1, dd2, by rw [← r1.length, ← r2.length]; exact hz, fun h' g1 g2 hs => ?_⟩
  refine ⟨.non, _, ?_, rfl, q⟩
  have he : ∃ q, h'.get? a = some q := let ⟨q, _, _, hq, _⟩ := g1; ⟨q, hq⟩
  exact d_write I (by rw [ha]; exact True.intro) hs he (dk_new (by omega) d1 (r2.merge r1) g1)
theorem mUpd_i {a b : Addr} {kvs more : List (Key × V)} {H : Hp} {Q : VK} (hab : a ≠ b) (ha : H a = some (.dK kvs)) (hb : H b = some (.dK more)) (hz : kvs.length + more.length ≤ sizeLine) (k : Q .non (upd H a (.dK (mergeK kvs more)))) : mUpd (.ref a) [.ref b] H Q := ⟨a, b, kvs, more, rfl, rfl, hab, ha, hb, hz, k⟩
end
end L2
namespace L2
open PySem PySem.Spec PyProof.Rows
section
variable {X : Cx}
noncomputable def rDIn (n : Bool) : R2 := fun x y H Q => ∃ a o, y = .ref a ∧ DGet H a x o ∧ Q (.bl (n ^^ o.isSome)) H
theorem ko_inD (hu : X.A.units + 1 < cLine) : OpR X (compareOp .In) (rDIn false) := by
  intro pins s σ H x y v u Q I rx ry h
  obtain ⟨a, o, rfl, g, q⟩ := h
  cases ry
  exact d_in hu I g rx fun s3 I3 => ⟨.bl _, H, I3, rfl, by simpa using q⟩
end
section
variable {σ : St} {H : Hp} {Q : VK} {D : Ends} {td ty tx tv : TE}
theorem tDGet_i (k : td σ H fun x H1 => ty σ H1 fun y H2 => ∃ a v, x = .ref a ∧ DGet H2 a y (some v) ∧ Q v H2) : tDGet td ty σ H Q := k
theorem tDGet2_i (k : td σ H fun x H1 => ∃ a, x = .ref a ∧ IsD H1 a ∧ ty σ H1 fun y H2 => tx σ H2 fun z H3 => ∃ o, DGet H3 a y o ∧ Q (o.getD z) H3) : tDGet2 td ty tx σ H Q := k
theorem sDPut_i (k : tv σ H fun v H1 => td σ H1 fun x H2 => ty σ H2 fun y H3 => ∃ a H4, x = .ref a ∧ DPut H3 a y v H4 ∧ D.nx σ H4) : sDPut td ty tv D σ H := k
theorem tDisp_i {trs : List (TE × TE)} (k : ∀ p, H p = none → tPairs trs σ (upd H p (.dK [])) fun ps H2 => H2 p = some (.dK []) ∧ ∃ kvs : List (Key × V), ps = kvs.map (fun kv => (kV kv.1, kv.2)) ∧ kvs.length ≤ 15 ∧ Q (.ref p) (upd H2 p (.dK (mergeK [] kvs)))) : tDisp trs σ H Q := k
theorem tPairs_c {tk tv : TE} {r : List (TE × TE)} {R : List (V × V) → Hp → Prop} (k : tk σ H fun x H1 => tv σ H1 fun y H2 => tPairs r σ H2 fun ps H3 => R ((x, y) :: ps) H3) : tPairs ((tk, tv) :: r) σ H R := k
theorem tPairs_n {R : List (V × V) → Hp → Prop} (k : R [] H) : tPairs [] σ H R := k
end
end L2
set_option Elab.async false
set_option linter.all false
set_option maxRecDepth 100000
set_option maxHeartbeats 4000000
namespace L2
open PySem PySem.Spec PyProof.Rows
section
variable {X : Cx}
noncomputable def mIsN (n : Bool) : R2 := fun x y H Q => y = .non ∧ Q (.bl (n ^^ decide (x = .non))) H
theorem mo_notN : OpR X (compareOp .IsNot) (mIsN true) := op_notN.imp fun _ _ _ _ h => ⟨h.1, by have := h.2; rwa [Bool.true_xor] at this⟩
theorem isN_non {n : Bool} {H : Hp} {Q : VK} (k : Q (.bl (!n)) H) : mIsN n .non .non H Q := ⟨rfl, by rw [decide_eq_true rfl, Bool.xor_true]; exact k⟩
theorem isN_ref {n : Bool} {a : Addr} {H : Hp} {Q : VK} (k : Q (.bl n) H) : mIsN n (.ref a) .non H Q := ⟨rfl, by rw [decide_eq_false (fun z => by cases z), Bool.xor_false]; exact k⟩
noncomputable def mInt : List V → Hp → VK → Prop := fun vs H Q => match vs with
  | [.int i] => Q (.int i) H
  | [.bl b] => Q (.int (if b then 1 else 0)) H
  | _ => False
theorem mInt_b {b : Bool} {H : Hp} {Q : VK} (k : Q (.int (if b then 1 else 0)) H) : mInt [.bl b] H Q := k
end
noncomputable def But (p : Addr) (H H' : Hp) : Prop := ∀ b o, b ≠ p → H b = some o → H' b = some o
theorem But.refl (p : Addr) (H : Hp) : But p H H := fun _ _ _ h => h
theorem But.trans {p : Addr} {H H1 H2 : Hp} (a : But p H H1) (b : But p H1 H2) : But p H H2 := fun c o n h => b c o n (a c o n h)
theorem But.tup {K : PySem.W.Frag} {p : Addr} {H H' : Hp} {ys : List V} (e : But p H H') (hp : H p = some (.lst ys)) {a : Addr} {xs : List V} (h : SqT K H a xs) : SqT K H' a xs := by
  rcases h with (h | ⟨o, h⟩) | h
  · exact .inl (.inl (e _ _ (fun z => by subst z; rw [hp] at h; cases h) h))
  · exact .inl (.inr ⟨o, e _ _ (fun z => by subst z; rw [hp] at h; cases h) h⟩)
  · exact .inr h
end L2
set_option Elab.async false
set_option linter.all false
set_option maxRecDepth 100000
set_option maxHeartbeats 4000000
namespace L2
open PySem PySem.Spec PyProof.Rows
section
variable {X : Cx} {pins : List (Addr × Obj)} {σ : St} {H : Hp} {s : Shared} {h' : Heap}
end
noncomputable def Ite (K : PySem.W.Frag) (a : Addr) (n : Nat) : It := ⟨fun i H => i < n ∧ ∃ xs, SqL K H a xs ∧ xs.length = n, fun i H v H' => ∃ T x, H T = none ∧ v = .ref T ∧ H' = upd H T (.tup [.int i, x]) ∧ ∀ xs, SqL K H a xs → xs[i]? = some x, fun i H => i = n ∧ ∃ xs, SqL K H a xs ∧ xs.length = n⟩
section
variable {X : Cx}
noncomputable def iEnum (K : PySem.W.Frag) (ta : TA) : TI := fun σ H R => ta σ H fun vs H1 => ∃ a xs, vs = [.ref a] ∧ SqL K H1 a xs ∧ R (Ite K a xs.length) H1
end
theorem iEnum_i {K : PySem.W.Frag} {σ : St} {H : Hp} {ta : TA} {R : It → Hp → Prop} (k : ta σ H fun vs H1 => ∃ a xs, vs = [.ref a] ∧ SqL K H1 a xs ∧ R (Ite K a xs.length) H1) : iEnum K ta σ H R := k
end L2
set_option Elab.async false
set_option linter.all false
set_option maxRecDepth 100000
set_option maxHeartbeats 4000000
namespace L2
open PySem PySem.Spec PyProof.Rows PySem.W
noncomputable def RawD (h : Heap) (a : Addr) (es : Array DictEntry) (ep : Nat) : Prop := ∃ o, h.get? a = some o ∧ o.ExactDict ∧ o.data = .dict es ep
theorem RawD.on {h h' : Heap} {a : Addr} {es : Array DictEntry} {ep : Nat} (x : RawD h a es ep) (k : ∀ o, h.get? a = some o → h'.get? a = some o) : RawD h' a es ep := let ⟨o, p, r⟩ := x; ⟨o, k o p, r⟩
theorem RawD.lt {h : Heap} {a : Addr} {es : Array DictEntry} {ep : Nat} (x : RawD h a es ep) : a < h.objs.size := let ⟨_, p, _⟩ := x; Heap.lt_size p
theorem RawD.ty {s : Shared} {a : Addr} {es : Array DictEntry} {ep : Nat} (x : RawD s.heap a es ep) : s.TypeIs (.ref a) "dict" := let ⟨o, p, c, _⟩ := x; ⟨o, p, c.1⟩
section
variable {prog : Program} {w : World} {A : Around} {E : Value → Shared → Prop} {s : Shared} {d : Addr} {es : Array DictEntry} {ep : Nat}
end
end L2
set_option Elab.async false
set_option linter.all false
set_option maxRecDepth 100000
set_option maxHeartbeats 4000000
namespace L2
open PySem PySem.Spec PyProof.Rows PySem.W
section
variable {X : Cx}
theorem paired_get {α β : Type} {R : α → β → Prop} : ∀ {xs : List α} {ys : List β}, Paired R xs ys → ∀ (i : Nat) (x : α), xs[i]? = some x → ∃ y, ys[i]? = some y ∧ R x y
  | _, _, .nil, i, x, h => by simp at h
  | _, _, .cons r t, 0, x, h => by simp at h; subst h; exact ⟨_, rfl, r⟩
  | _, _, .cons r t, i + 1, x, h => by simpa using paired_get t i x (by simpa using h)
theorem paired_back {α β : Type} {R : α → β → Prop} : ∀ {xs : List α} {ys : List β}, Paired R xs ys → ∀ (i : Nat) (y : β), ys[i]? = some y → ∃ x, xs[i]? = some x ∧ R x y
  | _, _, .nil, i, x, h => by simp at h
  | _, _, .cons r t, 0, x, h => by simp at h; subst h; exact ⟨_, rfl, r⟩
  | _, _, .cons r t, i + 1, x, h => by simpa using paired_back t i x (by simpa using h)
theorem kV_rel {P : Program} {w : World} {k : Key} {u : Value} (h : (mixKind P w).is k u = true) : RelV (kV k) u := by
  cases u with
  | int i t =>
    cases k with
    | inl j =>
      have e : (Sum.inl i : Key) = Sum.inl j := (mixKind P w).inj _ _ _ (mixKind_int P w i t) h
      cases e
      exact ⟨t, rfl⟩
    | inr x => exact nomatch (show (Sum.inl i : Key) = Sum.inr x from (mixKind P w).inj _ _ _ (mixKind_int P w i t) h)
  | str x t =>
    cases k with
    | inr j =>
      have e : (Sum.inr x : Key) = Sum.inr j := (mixKind P w).inj _ _ _ (mixKind_str P w x t) h
      cases e
      exact ⟨t, rfl⟩
    | inl i => exact nomatch (show (Sum.inr x : Key) = Sum.inl i from (mixKind P w).inj _ _ _ (mixKind_str P w x t) h)
  | _ => cases k <;> exact absurd (show false = true from h) Bool.false_ne_true
noncomputable def mLstK : List V → Hp → VK → Prop := fun vs H Q => ∃ a kvs, vs = [.ref a] ∧ Rd H a (.dK kvs) ∧ ∀ p : Addr, H p = none → Q (.ref p) (upd H p (.lst (kvs.map fun kv => kV kv.1)))
theorem vals_of_get : ∀ {xs : List V} {us : List Value}, us.length = xs.length → (∀ (j : Nat) (v : Value), us[j]? = some v → ∃ x, xs[j]? = some x ∧ RelV x v) → Vals xs us
  | [], [], _, _ => .nil
  | x :: r, u :: t, hl, h => by
    obtain ⟨y, h1, h2⟩ := h 0 u rfl
    simp at h1
    subst h1
    exact .cons h2 (vals_of_get (by simpa using hl) fun j v e => by simpa using h (j + 1) v (by simpa using e))
  | [], _ :: _, hl, _ => by simp at hl
  | _ :: _, [], hl, _ => by simp at hl
theorem mc_listK (hc : X.calm = true) : CallR X (.type "list") mLstK := by
  intro pins s σ H vs us Q I r h
  obtain ⟨a, kvs, rfl, ha, q⟩ := h
  obtain ⟨u, rfl, r1⟩ := vals1 r
  cases r1
  obtain ⟨z, lo, xs, rel, dd⟩ := dk_rd I.hok ha
  obtain ⟨ep, dd⟩ := dd.dictAt
  have hlx := rel.length
  refine kdl_call (kdl_dict (knd := mixKind X.prog X.w) lo) (I.ok.hd hc) dd (by omega) fun h' tk acc c hk hS hacc => ?_
  refine ⟨.ref s.heap.objs.size, _, I.laid (a := s.heap.objs.size) (o := .lst (kvs.map fun kv => kV kv.1)) (t' := tk) hk (Nat.le_refl _) ⟨by simp; omega, acc.toList, c, ?_, by simpa using hS⟩, rfl, q _ (I.hok.fresh (Nat.le_refl _))⟩
  refine vals_of_get (by rw [Array.length_toList, hacc.1, List.length_map, hlx]) fun j v e => ?_
  obtain ⟨k, x, h1, h2⟩ := hacc.2 j v (by rw [← Array.getElem?_toList]; exact e)
  obtain ⟨kv, h3, h4, h5⟩ := paired_back rel j (k, x) h1
  refine ⟨kV k, by rw [List.getElem?_map, h3]; exact congrArg (fun z => some (kV z)) h4, ?_⟩
  exact kV_rel h2
end
end L2
set_option Elab.async false
set_option linter.all false
set_option maxRecDepth 100000
set_option maxHeartbeats 4000000
namespace L2
open PySem PySem.Spec PyProof.Rows PySem.W
open PySem.AutoSeq1 (wpAny_loadPart')
noncomputable def EqIn (prog : Program) (w : World) (A : Around) (s : Shared) (y x : Value) : Prop := ∀ (E : Value → Shared → Prop) (Q : Bool → Shared → Prop), Q true s → wpAny (model prog w) A (eqBool y x) Q E s
section
variable {prog : Program} {w : World} {A : Around} {E : Value → Shared → Prop} {s : Shared}
theorem EqIn.at {y x : Value} (h : SeqAt.EqAt A s y x true) : EqIn prog w A s y x := fun E Q q => h prog w E Q q
variable {K : Type} [DecidableEq K] {knd : HeapKind prog w K}
end
section
variable {X : Cx}
end
end L2
set_option Elab.async false
set_option linter.all false
set_option maxRecDepth 100000
set_option maxHeartbeats 4000000
namespace L2
open PySem PySem.Spec PyProof.Rows PySem.W
section
variable {X : Cx}
noncomputable abbrev VView (r a : Addr) : HO := .ext fun h => h.IsValuesView r a
theorem raw_values {prog : Program} {w : World} (d : Addr) (hd : (d == sysModules) = false) : MeetsIn prog w (Builtin.«dict.values» ⟨[.ref d], []⟩) (fun _ R s => (∃ es ep, RawD s.heap d es ep) ∧ R (.ok (.ret (.ref s.heap.objs.size))) { s with heap := s.heap.push { cls := .type "dict_values", data := .fields #[.ref d] } }) :=
  .of_wp fun A R s ⟨⟨es, ep, hm⟩, h⟩ => by
    (refine wpAny_bind ?_; unfold Builtin.Dict.noArgs; refine wpAny_bind (wpAny_notOrdered_dict hm.ty ?_); show wpAny _ _ (pure d) _ _ s; refine wpAny_pure ?_)
    (show wpAny _ _ (Builtin.Dict.showsAll d >>= _) _ _ s; unfold Builtin.Dict.showsAll; rw [if_neg (by rw [hd]; exact Bool.false_ne_true)]; exact wpAny_bind (wpAny_pure (wpAny_bind (wpAny_newObj_type (wpAny_pure ⟨_, rfl, h⟩)))))
end
section
variable {K : PySem.W.Frag} {σ : St} {H : Hp} {Q : VK} {D : Ends} {a : Addr} {xs : List V} {n : Nat}
theorem gCons_i {t : TG} {u : TGs} {v : V} {r : List V} {N : St → Hp → Prop} (k : t v σ H fun σ' H' => u r σ' H' N) : gCons t u (v :: r) σ H N := ⟨v, r, rfl, k⟩
theorem gNil_i {N : St → Hp → Prop} (k : N σ H) : gNil [] σ H N := ⟨rfl, k⟩
end
end L2
set_option Elab.async false
set_option linter.all false
set_option maxRecDepth 100000
set_option maxHeartbeats 4000000
namespace L2
open PySem PySem.Spec PyProof.Rows PySem.W
section
variable {X : Cx}
end
end L2
set_option Elab.async false
set_option linter.all false
set_option maxRecDepth 100000
set_option maxHeartbeats 4000000
namespace Att
open PySem PySem.W PySem.Calls PyProof.Rows
end Att
namespace L2
open PySem PySem.Spec PyProof.Rows
end L2
set_option Elab.async false
set_option linter.all false
set_option maxRecDepth 100000
set_option maxHeartbeats 4000000
namespace L2
open PySem PySem.Spec PyProof.Rows PySem.W
structure QE (X : Cx) (e : Expr) (t : TE) : Prop where
  pe : PE X e t
structure QP (X : Cx) (pos : Pos) (keys : List (Option Expr)) (values : List Expr) (trs : List (TE × TE)) : Prop where
  pp : PPs X pos keys values trs
structure QS (X : Cx) (st : Stmt) (t : TS) : Prop where
  ps : PS X st t
structure QSs (X : Cx) (l : List Stmt) (t : TS) : Prop where
  pss : PSs X l t
section
variable {X : Cx} {pos pos' : Pos} {e k v : Expr} {te tk tv : TE} {st : Stmt} {rest : List Stmt} {t u : TS}
theorem qp_nil : QP X pos [] [] [] := ⟨pps_nil⟩
theorem qp_cons {ks : List (Option Expr)} {vs : List Expr} {trs : List (TE × TE)} (hk : PE X k tk) (hv : PE X v tv) (hr : QP X pos ks vs trs) : QP X pos (some k :: ks) (v :: vs) ((tk, tv) :: trs) := ⟨pps_cons hk hv hr.pp⟩
theorem qe_disp {keys : List (Option Expr)} {values : List Expr} {trs : List (TE × TE)} (h : QP X pos keys values trs) (hall : keys.all (·.isSome) = true) (hl : keys.length = values.length) (h0 : keys ≠ []) (h15 : keys.length ≤ 15) : QE X (.Dict keys values pos) (tDisp trs) := ⟨pe_disp h.pp hall hl h0 h15⟩
theorem qs_set {i : Nat} {x : Str} (hN : X.N.Nodup) (hi : X.N[i]? = some x) (hx : Loc X.env.scope x) (he : QE X e te) (hs : swapsWith e (some (.Name x pos')) pos.line X.env = pure false) (hf : X.fn x = true ∨ X.env.scope.names.lookup x = some .local) : QS X (.Assign [.Name x pos'] e pos) (tAsg te (gName i)) := ⟨ps_set hN hi hx he.pe hs hf⟩
theorem qs_upd (K : PySem.W.Frag) (hK : X.K = K) {o : Expr} {to : TE} {apos cpos : Pos} (ho : PE X o to) (he : QE X e te)
    (hbase : attributeBase o "update" X.env (eval o X.env) = eval o X.env)
    (hfew : ((backTo cpos (starEach [e] X.env)).all (fun x => !x.1) && (backToKw cpos (keywordEach [] X.env)).all (fun x => x.1.isSome) && decide (([e] : List Expr).length + ([] : List Keyword).length + (if ([] : List Keyword).isEmpty then 0 else 1) < 30)) = true)
    (hline : (apos.endLine == cpos.line) = true) (hs : starEach [e] X.env = (false, eval e X.env) :: starEach [] X.env) (hplain : (backTo cpos (starEach [] X.env)).any (·.1) = false) (hsw : swapsWith (.Call (.Attribute o "update" apos) [e] [] cpos) none pos.line X.env = pure false) :
    QS X (.Expr (.Call (.Attribute o "update" apos) [e] [] cpos) pos) (tDrop (tBM K "dict" mUpd to (tCons te tNil))) :=
  ⟨ps_expr (ke_bm K hK PySem.F.plainAttrs_dict PySem.F.slot_dict_update PySem.F.type_dict_update mm_update ho (pa_cons he.pe pa_nil hs) hbase hfew hline hs hplain) hsw⟩
theorem qss_cons (h1 : QS X st t) (h2 : QSs X rest u) : QSs X (st :: rest) (tSeq t u) := ⟨pss_cons h1.ps h2.pss⟩
theorem qss_one (h1 : QS X st t) : QSs X [st] t := ⟨pss_one h1.ps⟩
end
section
variable {X : Cx} {pos : Pos} {e : Expr} {te : TE}
noncomputable def tF3 (a b : Str) (te : TE) : TE := fun σ H Q => a.length ≤ sizeLine ∧ te σ H fun x H1 => ∃ y, x = .str y ∧ a.length + y.length + b.length ≤ sizeLine ∧ Q (.str (a ++ y ++ b)) H1
theorem pe_f3 {a b : Str} {j1 j2 p1 p2 p3} (he : PE X e te) : PE X (.JoinedStr [.Constant (.str a) j1 p1, .FormattedValue e (-1) none p2, .Constant (.str b) j2 p3] pos) (tF3 a b te) := by
  intro pins s σ H Q I h
  refine JoinedStr_many (joinParts_cons (Calls.Constant_str ?_))
  have hz : ∀ {x : Str}, x.length ≤ sizeLine → (Str.empty ++ x).length ≤ sizeLine := fun {x} q => by rw [strLen_append]; show 0 + x.length ≤ _; omega
  have ea : ∀ x : Str, Str.empty ++ x = x := fun x => by apply Str.ext'; show (#[] : Array Nat) ++ x.cps = x.cps; simp
  obtain ⟨ha, h⟩ := h
  · refine ⟨hz ha, joinParts_cons (FormattedValue_plain (thn (he pins _ σ H _ (I.tok _) h) fun v s1 ⟨x, H1, I1, r1, q1⟩ => ?_))⟩
    obtain ⟨y, rfl, hl, q⟩ := q1
    obtain ⟨t, rfl⟩ := r1
    refine formatField_str (fun t' tk => ?_) (by omega)
    rw [ea]
    refine ⟨by rw [strLen_append]; omega, ?_⟩
    show wpAny _ _ (joinParts (a ++ y) [eval (.Constant (.str b) j2 p3) X.env]) _ _ _
    refine joinParts_cons (Calls.Constant_str ⟨by rw [strLen_append, strLen_append]; omega, joinParts_nil ?_ (by rw [strLen_append, strLen_append]; omega)⟩)
    exact ⟨.str (a ++ y ++ b), H1, (I1.tok _).tok _, ⟨_, rfl⟩, q⟩
end
section
variable {X : Cx} {tg : Expr}
noncomputable def iSeq (K : PySem.W.Frag) (tl : TE) : TI := fun σ H R => tl σ H fun x H1 => ∃ a, x = .ref a ∧ ((∃ xs, SqL K H1 a xs ∧ R (Itl K a) H1) ∨ ∃ xs, SqT K H1 a xs ∧ R (Itt K a) H1)
theorem iSeq_i {K : PySem.W.Frag} {σ : St} {H : Hp} {ta : TE} {R : It → Hp → Prop} (k : ta σ H fun x H1 => ∃ a, x = .ref a ∧ ((∃ xs, SqL K H1 a xs ∧ R (Itl K a) H1) ∨ ∃ xs, SqT K H1 a xs ∧ R (Itt K a) H1)) : iSeq K ta σ H R := k
noncomputable def mAbs : List V → Hp → VK → Prop := fun vs H Q => ∃ i, vs = [.int i] ∧ Q (.int (if i < 0 then -i else i)) H
theorem mAbs_i {i : Int} {H : Hp} {Q : VK} (k : Q (.int (if i < 0 then -i else i)) H) : mAbs [.int i] H Q := ⟨i, rfl, k⟩
end
end L2
set_option Elab.async false
set_option linter.all false
set_option maxRecDepth 100000
set_option maxHeartbeats 4000000
namespace L2
open PySem PySem.Spec PyProof.Rows PySem.W
noncomputable def TbIs (h : Heap) (T : Addr) : Prop := ∃ oT ts, h.get? T = some oT ∧ oT.data = .fields ts ∧ ts[3]? = some Value.none
structure Left (fs : List Addr) (ea : Addr) (o : Obj) (ok : Addr → Prop) (h h' : Heap) : Prop where
  keep : ∀ b u, b ≠ ea → ¬ ok b → b ∉ fs → h.get? b = some u → h'.get? b = some u
  slot : ∀ b u, b ≠ ea → ¬ ok b → h.get? b = some u → ∃ sl, h'.get? b = some { u with slots := sl }
  there : ∀ b u, h.get? b = some u → ∃ u', h'.get? b = some u'
  tb : ∃ T, h.objs.size ≤ T ∧ TbIs h' T ∧ h'.get? ea = some (o.mapFields (·.setIfInBounds 1 (.ref T)))
theorem mf_data {o : Obj} {vs : Array Value} (f : Array Value → Array Value) (h : o.data = .fields vs) : (o.mapFields f).data = .fields (f vs) := Obj.data_mapFields h f
theorem mf_dict (o : Obj) (f : Array Value → Array Value) : (o.mapFields f).dict = o.dict := by
  unfold Obj.mapFields
  split <;> rfl
section
variable {M : Model} {A : Around} {E : Value → Shared → Prop}
theorem leave_entry {s : Shared} {base : Heap} {env : Env} {outer : List Env} {L ea : Addr} {o : Obj} {vs : Array Value} {hd0 : Value} {had : Bool} {Q : Unit → Shared → Prop}
    (fr : A.frames = some (env :: outer)) (ff : s.heap.FunFrames base (env :: outer)) (fe : env.frame = some L) (ge : s.heap.get? ea = some o) (gd : o.data = .fields vs) (g1 : 1 < vs.size)
    (q : ∀ h', Left (frs (env :: outer)) ea o (fun _ => False) s.heap h' → Q () { s with heap := h' }) :
    wpAny M A (do let a ← frameOf env; let pl ← entryPlaceOf L had; let b ← EntryCells.newEntry hd0 a .none (rawInt L) .none pl; setField (.ref ea) 1 b) (fun _ s1 => wpAny M A (setFlight (.ref ea) none) Q E s1) E s := by
  have nea : ea ∉ frs (env :: outer) := fun z => by
    obtain ⟨_, u, hu, hn⟩ := ff.mem z
    rw [ge] at hu
    cases hu
    exact hn vs gd
  refine wpAny_bind (wpAny_frameOf_fun fr ff fe fun hA sA => ?_)
  refine wpAny_bind (wpAny_entryPlaceOf fun pl hpl => ?_)
  unfold EntryCells.newEntry newFields
  refine wpAny_bind (wpAny_newObj_type ?_ (hpl.sizeOk5 _ _ _ _ _))
  generalize hob : ({ cls := .type "traceback", dict := none, data := .fields ([hd0, .ref L, .none, rawInt L, .none] ++ (if pl.isEmpty then List.replicate 6 Value.none else pl)).toArray } : Obj) = ob
  have obd : ob.data = .fields ([hd0, .ref L, .none, rawInt L, .none] ++ (if pl.isEmpty then List.replicate 6 Value.none else pl)).toArray := by rw [← hob]
  have eA : hA.get? ea = some o := (sA.2.1 ea nea).trans ge
  have eB := Heap.get?_push_of_some (h := hA) ob eA
  have nT : hA.objs.size ≠ ea := Nat.ne_of_gt (Heap.lt_size eA)
  refine wpAny_setField eB gd g1 ?_
  have dC := mf_data (·.setIfInBounds 1 (Value.ref hA.objs.size)) gd
  have eC := Heap.get?_update_self (Obj.mapFields (·.setIfInBounds 1 (Value.ref hA.objs.size))) eB (Obj.isFreed_of_fields dC)
  have tC := (Heap.get?_update_other (hA.push ob) (Obj.mapFields (·.setIfInBounds 1 (Value.ref hA.objs.size))) (Ne.symm nT)).trans (Heap.get?_push_size hA (by cases ob; cases hob; rfl))
  have sz3 : 3 < ([hd0, .ref L, .none, rawInt L, .none] ++ (if pl.isEmpty then List.replicate 6 Value.none else pl)).toArray.size := by
    simp only [List.size_toArray, List.length_append, List.length_cons, List.length_nil]
    omega
  unfold setFlight
  refine wpAny_bind (wpAny_field eC dC (x := .ref hA.objs.size) (by simp [g1]) ?_)
  rw [if_pos (show (Value.ref hA.objs.size != Value.none) = true from by simp)]
  refine wpAny_setField tC obd sz3 (q _ ?_)
  have kept : ∀ b u, b ≠ ea → hA.get? b = some u → (((hA.push ob).update ea (Obj.mapFields (·.setIfInBounds 1 (Value.ref hA.objs.size)))).update hA.objs.size (Obj.mapFields (·.setIfInBounds 3 ((none : Option Addr).elim Value.none fun f => rawInt f)))).get? b = some u := fun b u hb hu => by
    rw [Heap.get?_update_other _ _ (Nat.ne_of_gt (Heap.lt_size hu)), Heap.get?_update_other _ _ (Ne.symm hb)]
    exact Heap.get?_push_of_some _ hu
  refine ⟨fun b u hb _ hf hu => kept b u hb ((sA.2.1 b hf).trans hu), fun b u hb _ hu => ?_, fun b u hu => ?_, hA.objs.size, ?_, ?_, ?_⟩
  · obtain ⟨sl, e⟩ := sA.2.2 b u hu
    exact ⟨sl, kept b _ hb e⟩
  · by_cases hb : b = ea
    · subst hb
      exact ⟨_, by rw [Heap.get?_update_other _ _ nT]; exact eC⟩
    · obtain ⟨sl, e⟩ := sA.2.2 b u hu
      exact ⟨_, kept b _ hb e⟩
  · rw [sA.1]
    exact Nat.le_refl _
  · exact ⟨_, _, Heap.get?_update_self _ tC (Obj.isFreed_of_fields (mf_data _ obd)), mf_data _ obd, by simp [sz3]⟩
  · rw [Heap.get?_update_other _ _ nT]
    exact eC
theorem leave_any {s : Shared} {base : Heap} {env : Env} {outer : List Env} {L ea : Addr} {o : Obj} {vs : Array Value} {ok : Addr → Prop} {Q : Unit → Shared → Prop}
    (fr : A.frames = some (env :: outer)) (ff : s.heap.FunFrames base (env :: outer)) (fe : env.frame = some L) (ge : s.heap.get? ea = some o) (gd : o.data = .fields vs)
    (tb : vs[1]? = some .none ∨ ∃ T, vs[1]? = some (.ref T) ∧ T ≠ ea ∧ ok T ∧ TbIs s.heap T)
    (q : ∀ h', Left (frs (env :: outer)) ea o ok s.heap h' → Q () { s with heap := h' }) : wpAny M A (noteFrame (.ref ea) env) (fun _ s1 => wpAny M A (setFlight (.ref ea) none) Q E s1) E s := by
  unfold noteFrame
  simp only [fe]
  rcases tb with g | ⟨T, g, nT, kT, oT, ts, hT, dT, t3⟩
  · refine wpAny_bind (wpAny_field ge gd g ?_)
    rw [if_neg (by decide)]
    refine leave_entry fr ff fe ge gd (Array.getElem?_eq_some_iff.mp g).1 fun h' l => q h' ⟨fun b u hb _ => l.keep b u hb id, fun b u hb _ => l.slot b u hb id, l.there, l.tb⟩
  · refine wpAny_bind (wpAny_field ge gd g ?_)
    rw [if_pos (show (Value.ref T != Value.none) = true from by simp)]
    refine wpAny_bind (wpAny_field hT dT t3 ?_)
    rw [if_neg (show ¬ ((Value.none == rawInt L) = true) from by simp [rawInt])]
    refine wpAny_bind (wpAny_setField hT dT (Array.getElem?_eq_some_iff.mp t3).1 ?_)
    have oth : ∀ b, b ≠ T → (s.heap.update T (Obj.mapFields (·.setIfInBounds 3 Value.none))).get? b = s.heap.get? b := fun b hb => Heap.get?_update_other _ _ (Ne.symm hb)
    have self := Heap.get?_update_self (Obj.mapFields (·.setIfInBounds 3 Value.none)) hT (Obj.isFreed_of_fields (mf_data _ dT))
    have nrec : ∀ b u, s.heap.get? b = some u → (∀ ws, u.data ≠ .fields ws) → b ≠ T := fun b u hu hn z => by
      subst z
      rw [hT] at hu
      cases hu
      exact hn ts dT
    refine leave_entry fr (ff.of_keeps fun b u hu hn => ⟨u, (oth b (nrec b u hu hn)).trans hu, rfl⟩) fe ((oth ea (Ne.symm nT)).trans ge) gd (Array.getElem?_eq_some_iff.mp g).1 fun h' l => q h' ⟨fun b u hb hk hf hu => l.keep b u hb id hf ((oth b (fun z => hk (z ▸ kT))).trans hu), fun b u hb hk hu => l.slot b u hb id ((oth b (fun z => hk (z ▸ kT))).trans hu), fun b u hu => ?_, ?_⟩
    · by_cases hb : b = T
      · subst hb
        exact l.there b _ self
      · exact l.there b u ((oth b hb).trans hu)
    · obtain ⟨T2, h1, h2, h3⟩ := l.tb
      exact ⟨T2, by rw [Heap.size_after_update] at h1; exact h1, h2, h3⟩
end
end L2
set_option Elab.async false
set_option linter.all false
set_option maxRecDepth 100000
set_option maxHeartbeats 4000000
namespace L2
open PySem PySem.W
noncomputable abbrev newS : String := "ValueError.__new__"
structure XCls (K : Frag) (C : Addr) (bm : List Value) : Prop where
  obj : ∃ nm q N bs sn sub ab col dd k0 k1 k2 k3 k5, K.lookup C = some (excClassObj nm q C N bs bm true sn sub ab col dd k0 k1 k2 k3 k5 newS)
  hasV : bm.contains (.type "ValueError") = true
  hasB : bm.contains (.type "BaseException") = true
  noA : bm.contains (.type "AttributeError") = false
  noN : bm.contains (.type "NameError") = false
section
variable {prog : Program} {w : World} {A : Around} {E : Value → Shared → Prop} {R : Result → Shared → Prop} {h : Heap} {g : Array GenState} {d : Drawn} {t : Nat} {os : OsState}
variable {nm q : Str} {C N : Addr} {bs bm : List Value} {sn : List Str} {sub : List Value} {ab : Bool} {col : Option Bool} {dd : Option Addr} {k0 k1 k2 k3 k5 : Option Value}
theorem x_check (hV : bm.contains (.type "ValueError") = true) {rest : List Value} {Q : Unit → Shared → Prop} (hC : h.get? C = some (excClassObj nm q C N bs bm true sn sub ab col dd k0 k1 k2 k3 k5 newS)) (hq : Q () ⟨h, g, d, t, os⟩) :
    wpAny (model prog w) A (checkBuiltinCall newS ⟨.ref C :: rest, []⟩) Q E ⟨h, g, d, t, os⟩ := by
  have F := PySem.F.excBase_ValueError
  have hc : (Value.ref C :: bm).contains (.type "ValueError") = true := by rw [List.contains_cons, hV, Bool.or_true]
  have hs := F.noStar
  simp only [checkBuiltinCall, F.newKind, F.newSplit, F.newRow]
  repeat (first | refine wpAny_loadPart_at hC ?_ | (refine wpAny_isSubtype_exc hC ?_; rw [hc]) | refine wpAny_staticBase_exc hC ?_ | refine wpAny_madeBy_exc hC ?_ | simp only [bne_self_eq_false, Bool.false_eq_true, if_false] | wp_step)
  exact hq
theorem x_new (hV : bm.contains (.type "ValueError") = true) (hA : bm.contains (.type "AttributeError") = false) (hN : bm.contains (.type "NameError") = false) {rest : List Value} (hC : h.get? C = some (excClassObj nm q C N bs bm true sn sub ab col dd k0 k1 k2 k3 k5 newS))
    (hq : R (.ok (.ret (.ref (h.objs.size + 1)))) ⟨(h.push { cls := .type "tuple", data := .seq rest.toArray }).push { cls := .ref C, data := .fields #[.ref h.objs.size, .none, .none, .none, .bool false, .none] }, g, d, t, os⟩) (hl : rest.length ≤ sizeLine) :
    codeAny (model prog w) A (.builtin newS ⟨.ref C :: rest, []⟩) R ⟨h, g, d, t, os⟩ := by
  have F := PySem.F.excBase_ValueError
  have he := F.ends
  have c1 : (Value.ref C :: bm).contains (.type "ValueError") = true := by rw [List.contains_cons, hV, Bool.or_true]
  have c2 : (Value.ref C :: bm).contains (.type "AttributeError") = false := by rw [List.contains_cons, hA]; rfl
  have c3 : (Value.ref C :: bm).contains (.type "NameError") = false := by rw [List.contains_cons, hN]; rfl
  refine codeAny_builtinAt F.entry ?_
  unfold Builtin.«BaseException.__new__»
  refine wpAt_bind ?_
  show wpAt _ _ _ (stack >>= _) _ _ _
  refine wpAt_bind (wpAt_stack fun p below => wpAt_of_wpAny ?_)
  wp_walk
  refine wpAt_of_wpAny ?_
  rw [F.owner]
  repeat (first | with_reducible refine wpAny_madeHere_exc F.canon hC ?_ | with_reducible refine wpAny_loadPart_at hC ?_ | (with_reducible refine wpAny_isSubtype_exc hC ?_; first | rw [c1] | rw [c2] | rw [c3]) | wp_step)
  show R _ _
  rw [Heap.size_push]
  exact hq
theorem x_tcall {K : Frag} {fI : Addr} (KX : K.In h) (X : XCls K C bm) (hI : findIn K (.ref C) "__init__" = some (some (.ref fI))) (hf : typeIn K (.ref fI) = some (.type "function")) {rest : List Value} {Q : PySem.Fin → Shared → Prop} (hl : rest.length ≤ sizeLine)
    (hq : wpAny (model prog w) A (call (.ref fI) (.ref (h.objs.size + 1) :: rest)) (fun r s' => r = .none ∧ Q (.done (.ret (.ref (h.objs.size + 1)))) s') E ⟨((h.push { cls := .type "tuple", data := .seq rest.toArray }).push { cls := .ref C, data := .fields #[.ref h.objs.size, .none, .none, .none, .bool false, .none] }), g, d, t, os⟩) :
    wpAny (model prog w) A (Builtin.«type.__call__» ⟨.ref C :: rest, []⟩) Q E ⟨h, g, d, t, os⟩ := by
  obtain ⟨nm, q, N, bs, sn, sub, ab, col, dd, k0, k1, k2, k3, k5, hC'⟩ := X.obj
  have hC := KX _ _ hC'
  have F := PySem.F.excBase_ValueError
  repeat (first | with_reducible refine wpAny_loadPart_at hC ?_ | with_reducible refine wpAny_madeBy_exc hC ?_ | wp_step)
  refine codeAny_call_builtin_code (Code.quiet_builtin _ F.quiet) (x_check X.hasV hC ?_)
  refine x_new X.hasV X.noA X.noN hC ?_ hl
  show wpAny _ _ _ _ _ _
  have kp : ∀ b o, h.get? b = some o → ((h.push { cls := .type "tuple", data := .seq rest.toArray }).push { cls := .ref C, data := .fields #[.ref h.objs.size, .none, .none, .none, .bool false, .none] }).get? b = some o := fun b o e => Heap.get?_push_of_some _ (Heap.get?_push_of_some _ e)
  have hC2 := kp _ _ hC
  have KX2 : K.In ((h.push { cls := .type "tuple", data := .seq rest.toArray }).push { cls := .ref C, data := .fields #[.ref h.objs.size, .none, .none, .none, .bool false, .none] }) := KX.keeps kp
  have hget : ((h.push { cls := .type "tuple", data := .seq rest.toArray }).push { cls := .ref C, data := .fields #[.ref h.objs.size, .none, .none, .none, .bool false, .none] }).get? (h.objs.size + 1) = some { cls := .ref C, data := .fields #[.ref h.objs.size, .none, .none, .none, .bool false, .none] } := by heap_get
  have cC : (Value.ref C :: bm).contains (.ref C) = true := by simp
  unfold isInstance
  repeat (first | with_reducible refine wpAny_loadPart_at hget ?_ | (with_reducible refine wpAny_isSubtype_exc hC2 ?_; rw [cC]) | wp_step)
  show wpAny _ _ (typeLookup (.ref C) _) _ _ _
  refine (looks_findIn KX2 hI).here ?_
  refine wpAny_holding (wpAny_bind ((bind_fn KX2 _ hf).here ?_))
  refine wpAny_bind (wpAny_mono hq (fun r s' hr => ?_) fun _ _ x => x)
  obtain ⟨rfl, hQ⟩ := hr
  wp_walk
  exact hQ
theorem x_call {K : Frag} {fI : Addr} (KX : K.In h) (X : XCls K C bm) (hI : findIn K (.ref C) "__init__" = some (some (.ref fI))) (hf : typeIn K (.ref fI) = some (.type "function")) {rest : List Value} {Q : Value → Shared → Prop} (hl : rest.length ≤ sizeLine)
    (hq : wpAny (model prog w) (A.under (.builtin "type.__call__" ⟨.ref C :: rest, []⟩)) (call (.ref fI) (.ref (h.objs.size + 1) :: rest)) (fun r s' => r = .none ∧ Q (.ref (h.objs.size + 1)) s') E ⟨((h.push { cls := .type "tuple", data := .seq rest.toArray }).push { cls := .ref C, data := .fields #[.ref h.objs.size, .none, .none, .none, .bool false, .none] }), g, d, t, os⟩) :
    wpAny (model prog w) A (call (.ref C) rest) Q E ⟨h, g, d, t, os⟩ := by
  obtain ⟨nm, q, N, bs, sn, sub, ab, col, dd, k0, k1, k2, k3, k5, hC'⟩ := X.obj
  have hC := KX _ _ hC'
  have f1 := tc_lookup
  have f2 := tc_bind (.ref C)
  have hT : (⟨h, g, d, t, os⟩ : Shared).TypeIs (.ref C) "type" := ⟨_, hC, rfl⟩
  refine wpAny_call (codeAny_of_tree ?_)
  show wpAny _ _ (callAny (.ref C) _) _ _ _
  repeat (any_goals (first | assumption | with_reducible refine wpAny_loadPart_at hC ?_ | wp_step))
  refine ⟨rfl, ?_⟩
  exact codeAny_call_builtin_at (Code.quiet_builtin _ (by decide +kernel)) entry_typeCall (wpAny_check_type_call_sub hC (x_tcall KX X hI hf hl hq))
end
end L2
set_option Elab.async false
set_option linter.all false
set_option maxRecDepth 100000
set_option maxHeartbeats 4000000
namespace L2
open PySem PySem.W
section
variable {prog : Program} {w : World} {A : Around} {E : Value → Shared → Prop} {R : Result → Shared → Prop} {h : Heap} {g : Array GenState} {d : Drawn} {t : Nat} {os : OsState} {K : Frag} {C e : Addr} {bm : List Value} {o : Obj} {vs : Array Value}
theorem x_init (KX : K.In h) (X : XCls K C bm) (he : h.get? e = some o) (hc : o.cls = .ref C) (hd : o.data = .fields vs) {t0 : Addr} (h0 : vs[0]? = some (.ref t0)) {v : Value} {Q : Value → Shared → Prop}
    (hq : Q .none ⟨(h.push { cls := .type "tuple", data := .seq [v].toArray }).update e (Obj.mapFields (·.setIfInBounds 0 (.ref h.objs.size))), g, d, t, os⟩) :
    wpAny (model prog w) A (call (.builtin "ValueError.__init__") [.ref e, v]) Q E ⟨h, g, d, t, os⟩ := by
  obtain ⟨nm, q, N, bs, sn, sub, ab, col, dd, k0, k1, k2, k3, k5, hC'⟩ := X.obj
  have hC := KX _ _ hC'
  have F := PySem.F.excBase_ValueError
  have c1 : (Value.ref C :: bm).contains (.type "ValueError") = true := by rw [List.contains_cons, X.hasV, Bool.or_true]
  have hs := F.noStar
  have ck : ∀ Q' : Unit → Shared → Prop, Q' () ⟨h, g, d, t, os⟩ → ∀ A' E', wpAny (model prog w) A' (checkBuiltinCall "ValueError.__init__" ⟨[.ref e, v], []⟩) Q' E' ⟨h, g, d, t, os⟩ := by
    intro Q' hq' A' E'
    simp only [checkBuiltinCall, F.initKind, F.initSplit, F.initRow]
    repeat (first | (with_reducible refine wpAny_loadPart_at he ?_; rw [hc]) | with_reducible refine wpAny_loadPart_at hC ?_ | (with_reducible refine wpAny_isSubtype_exc hC ?_; rw [c1]) | wp_step)
    exact hq'
  refine wpAny_call (codeAny_call_builtin F.init.plain F.initEntry (ck _ ?_ _ _))
  unfold Builtin.«BaseException.__init__»
  dsimp only
  rw [if_neg (by simp)]
  unfold newTuple Builtin.BaseException.bexcPut
  have hz : 0 < vs.size := (Array.getElem?_eq_some_iff.mp h0).1
  have he1 := Heap.get?_push_of_some (h := h) { cls := .type "tuple", data := .seq [v].toArray } he
  refine wpAny_bind (wpAny_newObj_type (wpAny_bind (wpAny_bind (wpAny_field he1 hd h0 (wpAny_bind (wpAny_setField he1 hd hz ?_))))) (by show [v].toArray.size ≤ sizeLine; rw [List.size_toArray, sizeLine_eq]; simp))
  exact wpAny_letGo (wpAny_pure hq)
theorem x_raise {M : Model} {env : Env} {s : Shared} {x : Sem Value} {Q : Flow → Shared → Prop} (hh : A.handled = none)
    (hx : wpAny M A x (fun v s1 => ∃ e o vs C bm, v = .ref e ∧ XCls K C bm ∧ K.In s1.heap ∧ s1.heap.get? e = some o ∧ o.cls = .ref C ∧ o.data = .fields vs ∧ vs[1]? = some .none ∧ E (.ref e) s1) E s) :
    wpAny M A (raiseStmt env (some x) none) Q E s := by
  unfold raiseStmt
  refine wpAny_bind (wpAny_mono hx (fun v s1 h1 => ?_) fun _ _ x => x)
  obtain ⟨e, o, vs, C, bm, rfl, X, KX, he, hc, hd, h1, hE⟩ := h1
  obtain ⟨hp, g, d, tk, os⟩ := s1
  obtain ⟨nm, q, N, bs, sn, sub, ab, col, dd, k0, k1, k2, k3, k5, hC'⟩ := X.obj
  have hC := KX _ _ hC'
  have cB : (Value.ref C :: bm).contains (.type "BaseException") = true := by rw [List.contains_cons, X.hasB, Bool.or_true]
  obtain ⟨oc, od, odt, osl⟩ := o
  dsimp only at hc hd
  subst hc hd
  repeat (first | with_reducible refine wpAny_loadPart_at he ?_ | with_reducible refine wpAny_loadPart_at hC ?_ | (with_reducible refine wpAny_isSubtype_exc hC ?_; rw [cB]) | (with_reducible refine wpAny_field he rfl h1 ?_) | wp_step)
  exact wpAny_raiseNew_none hh hE
theorem x_get (KX : K.In h) (X : XCls K C bm) (ga : findIn K (.ref C) "__getattribute__" = some (some (.builtin "BaseException.__getattribute__"))) (gx : findIn K (.ref C) "__getattr__" = some none) {name : Str} (hn : findIn K (.ref C) name = some none)
    (he : h.get? e = some o) (hc : o.cls = .ref C) {dx : Addr} (hdx : o.dict = some dx) (hd : o.data = .fields vs) {mA : Str → Option Value} (hm : h.Ns1 dx mA) {v : Value} (hv : mA name = some v) (hh : handedIn v = true) {expr : Bool} {Q : Value → Shared → Prop} (hq : Q v ⟨h, g, d, t + 1, os⟩) :
    wpAny (model prog w) A (getAttr (.ref e) name expr) Q E ⟨h, g, d, t, os⟩ := by
  obtain ⟨nm, q, N, bs, sn, sub, ab, col, dd, k0, k1, k2, k3, k5, hC'⟩ := X.obj
  have hC := KX _ _ hC'
  have cB : (Value.ref C :: bm).contains (.type "BaseException") = true := by rw [List.contains_cons, X.hasB, Bool.or_true]
  have FB := PySem.F.excAttr_ValueError
  obtain ⟨oc, od, odt, osl⟩ := o
  dsimp only at hc hd hdx
  subst hc hd hdx
  have f3 := FB.ga.bind (.ref e)
  have hx0 : (expr && onTheHeap (Value.builtin "BaseException.__getattribute__")) = false := by cases expr <;> rfl
  have hx2 : (Value.builtin "BaseException.__getattribute__" == Value.builtin "object.__getattribute__") = false := by decide +kernel
  have hx1 : (onTheHeap (Value.ref C) && Value.builtin "BaseException.__getattribute__" == Value.builtin "object.__getattribute__") = false := by rw [hx2]; rfl
  unfold getAttr getAttrBy
  repeat (any_goals (first | assumption | with_reducible refine wpAny_loadPart_at he ?_ | with_reducible refine (looks_findIn KX ga).here ?_ | with_reducible refine (looks_findIn KX gx).here ?_ | wp_step))
  have hk : builtinKind "BaseException.__getattribute__" = some .slot := by decide +kernel
  have hsp : splitId "BaseException.__getattribute__" = some ("BaseException", "__getattribute__") := by decide +kernel
  have hargs := PySem.F.args_bexc_ga (.ref e) (.str name t)
  have ck : ∀ (Q' : Unit → Shared → Prop) (u : Nat), Q' () ⟨h, g, d, u, os⟩ → ∀ A' E', wpAny (model prog w) A' (checkBuiltinCall "BaseException.__getattribute__" ⟨[.ref e, .str name t], []⟩) Q' E' ⟨h, g, d, u, os⟩ := by
    intro Q' u hq' A' E'
    simp only [checkBuiltinCall, hk, hsp]
    refine wpAny_bind ?_
    unfold isInstance
    repeat (first | with_reducible refine wpAny_loadPart_at he ?_ | (with_reducible refine wpAny_isSubtype_exc hC ?_; rw [cB]) | wp_step)
    exact hq'
  refine codeAny_call_builtin FB.ga.plain PySem.F.entry_bexc_ga (ck _ _ ?_ _ _)
  obtain ⟨od, hod, hl⟩ := lookIn_ns hm
  have J : InstAt h e ⟨.ref C, some dx, .fields vs, osl⟩ C (some od) := ⟨he, rfl, rfl, hod⟩
  have hdI : hasDictIn K C = true := by unfold hasDictIn clsIn; rw [show List.lookup C K = _ from hC']; rfl
  have L0 := J.type (M := model prog w)
  have L1 := looks_find (M := model prog w) KX J (findObj_own hdI hn rfl (by rw [hl, hv]))
  unfold Builtin.«object.__getattribute__»
  refine wpAny_bind (wpAny_of_eq (a := (Value.ref e, [Value.str name t])) rfl ?_)
  refine wpAny_bind (wpAny_pure (wpAny_bind (L0.at (wpAny_bind (L1.at ?_)))))
  refine wpAny_pure ?_
  show wpAny _ _ (handedOut v) _ _ _
  rw [handedOut_of hh]
  exact wpAny_pure hq
theorem x_refuse (self : Value) (what : Str) : ∀ l : List Value, (∀ v ∈ l, ∃ a, v = Value.ref a) → ∀ r, refuseLoop self what (l ++ r) = refuseLoop self what r
  | [], _, _ => rfl
  | v :: l, h, r => by
    obtain ⟨a, rfl⟩ := h v List.mem_cons_self
    rw [List.cons_append, refuseLoop_ref, x_refuse self what l (fun v hv => h v (List.mem_cons_of_mem _ hv)) r]
noncomputable def XUp (bm : List Value) : Prop := ∃ l : List Value, (∀ v ∈ l, ∃ a, v = Value.ref a) ∧ bm = l ++ [.type "ValueError", .type "Exception", .type "BaseException", .type "object"]
theorem x_set (KX : K.In h) (X : XCls K C bm) (U : XUp bm) (sa : findIn K (.ref C) "__setattr__" = some (some (.builtin "object.__setattr__"))) {name : Str} (hn : findIn K (.ref C) name = some none)
    (he : h.get? e = some o) (hc : o.cls = .ref C) (hd : o.data = .fields vs) {mA : Str → Option Value} {ns : List Str} (hw : PySem.Within mA ns) (hz : ns.length ≤ 1000) (hm : (o.dict = none ∧ ∀ n, mA n = none) ∨ ∃ dx, o.dict = some dx ∧ dx ≠ e ∧ h.Ns1 dx mA) {v : Value} {Q : Unit → Shared → Prop}
    (hq : ∀ h' dx tk, (o.dict = some dx ∨ (o.dict = none ∧ h.objs.size ≤ dx)) → h'.get? e = some { o with dict := some dx } → dx ≠ e → h'.Ns1 dx (fun y => if y = name then some v else mA y) → (∀ b u, b ≠ e → b ≠ dx → h.get? b = some u → h'.get? b = some u) → Q () ⟨h', g, d, tk, os⟩) :
    wpAny (model prog w) A (setAttr (.ref e) name v) Q E ⟨h, g, d, t, os⟩ := by
  obtain ⟨nm, q, N, bs, sn, sub, ab, col, dd, k0, k1, k2, k3, k5, hC'⟩ := X.obj
  have hC := KX _ _ hC'
  obtain ⟨l, hl, hbm⟩ := U
  have SF := PySem.F.store_ValueError
  have hpass : refuseLoop (.ref e) "__setattr__" (.ref C :: bm) = pure () := by
    rw [refuseLoop_ref, hbm, x_refuse _ _ l hl]
    exact SF.passes (.ref e)
  have cO : (Value.ref C :: bm).contains (.type "object") = true := by rw [List.contains_cons, hbm]; simp
  obtain ⟨oc, od, odt, osl⟩ := o
  dsimp only at hc hd
  subst hc hd
  have f3 := SF.slot.bind (.ref e)
  have ck : ∀ (Q' : Unit → Shared → Prop) (u : Nat) (nv : Value), Q' () ⟨h, g, d, u, os⟩ → ∀ A' E', wpAny (model prog w) A' (checkBuiltinCall "object.__setattr__" ⟨[.ref e, nv, v], []⟩) Q' E' ⟨h, g, d, u, os⟩ := by
    intro Q' u nv hq' A' E'
    have ha := SF.args (.ref e) nv v
    simp only [checkBuiltinCall, SF.kind, SF.split]
    refine wpAny_bind ?_
    unfold isInstance
    repeat (first | with_reducible refine wpAny_loadPart_at he ?_ | (with_reducible refine wpAny_isSubtype_exc hC ?_; rw [cO]) | wp_step)
    exact hq'
  unfold setAttr callSpecial? specialOf
  repeat (any_goals (first | assumption | with_reducible refine wpAny_loadPart_at he ?_ | with_reducible refine (looks_findIn KX sa).here ?_ | wp_step))
  refine codeAny_call_builtin SF.slot.plain SF.entry (ck _ _ _ ?_ _ _)
  unfold Builtin.«object.__setattr__»
  repeat (first | rw [refuse_eq] | rw [hpass] | with_reducible refine wpAny_loadPart_at he ?_ | with_reducible refine wpAny_mroOf_exc hC ?_ | with_reducible refine (looks_findIn KX hn).here ?_ | wp_step)
  rcases hm with ⟨hdn, hmA⟩ | ⟨dx, hdx, hne, hns⟩
  · dsimp only at hdn
    subst hdn
    dsimp only
    rw [if_neg (by simp [typeHasDict])]
    have he1 : (h.push { cls := .type "dict", data := .dict #[] }).get? e = some ⟨.ref C, none, .fields vs, osl⟩ := Heap.get?_push_of_some _ he
    have nes : e ≠ h.objs.size := Nat.ne_of_lt (Heap.lt_size he)
    refine wpAny_bind (wpAny_alloc' ?_)
    refine wpAny_bind (wpAny_update' he1 ?_)
    refine wpAny_pure ?_
    have gd := (Heap.get?_update_ne (h.push { cls := .type "dict", data := .dict #[] }) h.objs.size e (fun o => { cls := o.cls, dict := some h.objs.size, data := o.data, slots := o.slots }) nes.symm).trans (Heap.get?_push_at rfl rfl)
    have nd : ((h.push { cls := .type "dict", data := .dict #[] }).update e fun o => { cls := o.cls, dict := some h.objs.size, data := o.data, slots := o.slots }).Ns h.objs.size (fun _ => none) := ⟨_, #[], _, gd, rfl, fun _ z => absurd z (by simp), fun _ => rfl⟩
    show wpAny _ _ (Builtin.ObjectAttr.storeInDict h.objs.size (.str name _) name v) _ _ _
    unfold Builtin.ObjectAttr.storeInDict Builtin.ObjectAttr.newKeyGuard
    refine wpAny_bind (wpAny_pure (wpAny_bind (wpAny_nsSet1 (Heap.Ns1.of_empty nd) fun h' hn' hs => ?_)))
    obtain ⟨oD, esD, epD, hoD, hdD, hcD⟩ := hn'.count (PySem.Within.cons name v PySem.Within.nil)
    refine wpAny_bind (wpAny_lookBehind hoD (by rw [hdD]; exact pastItsLine_dict (Nat.le_trans hcD (by rw [List.length_cons, List.length_nil, sizeLine_eq]; omega))) ?_)
    wp_walk
    have ge' : h'.get? e = some ⟨.ref C, some h.objs.size, .fields vs, osl⟩ := (hs.2 e nes).trans (Heap.get?_update_self _ he1 rfl)
    refine hq h' h.objs.size _ (.inr ⟨rfl, Nat.le_refl _⟩) ge' nes.symm ?_ (fun b u hb hbd hu => ?_)
    · obtain ⟨o', es, ep, e1, e2, e3, eu, e4⟩ := hn'
      exact ⟨o', es, ep, e1, e2, e3, eu, fun y => by rw [e4 y]; by_cases hy : y = name <;> simp [hy, hmA]⟩
    · exact (hs.2 b hbd).trans ((Heap.get?_update_ne _ _ _ _ hb).trans (Heap.get?_push_of_some _ hu))
  · dsimp only at hdx
    subst hdx
    dsimp only
    refine wpAny_pure ?_
    show wpAny _ _ (Builtin.ObjectAttr.storeInDict dx (.str name _) name v) _ _ _
    unfold Builtin.ObjectAttr.storeInDict Builtin.ObjectAttr.newKeyGuard
    refine wpAny_bind (wpAny_pure (wpAny_bind (wpAny_nsSet1 hns fun h' hn' hs => ?_)))
    obtain ⟨oD, esD, epD, hoD, hdD, hcD⟩ := hn'.count (PySem.Within.cons name v hw)
    refine wpAny_bind (wpAny_lookBehind hoD (by rw [hdD]; exact pastItsLine_dict (Nat.le_trans hcD (by rw [List.length_cons, sizeLine_eq]; omega))) ?_)
    wp_walk
    exact hq h' dx _ (.inl rfl) ((hs.2 e hne.symm).trans he) hne hn' (fun b u hb hbd hu => (hs.2 b hbd).trans hu)
theorem x_match (KX : K.In h) (X : XCls K C bm) (he : h.get? e = some o) (hc : o.cls = .ref C) {C' : Addr} {bm' : List Value} (X' : XCls K C' bm') {Q : Bool → Shared → Prop} (hq : Q ((Value.ref C :: bm).contains (.ref C')) ⟨h, g, d, t, os⟩) :
    wpAny (model prog w) A (excMatches (.ref e) (.ref C')) Q E ⟨h, g, d, t, os⟩ := by
  obtain ⟨nm, q, N, bs, sn, sub, ab, col, dd, k0, k1, k2, k3, k5, hC'⟩ := X.obj
  have hC := KX _ _ hC'
  obtain ⟨nm', q', N', bs', sn', sub', ab', col', dd', l0, l1, l2, l3, l5, hD'⟩ := X'.obj
  have hD := KX _ _ hD'
  have cB : (Value.ref C' :: bm').contains (.type "BaseException") = true := by rw [List.contains_cons, X'.hasB, Bool.or_true]
  have f := tc_notTuple
  generalize hb : (Value.ref C :: bm).contains (.ref C') = b at hq
  unfold excMatches
  repeat (first | (with_reducible refine wpAny_loadPart_at he ?_; rw [hc]) | with_reducible refine wpAny_loadPart_at hD ?_ | (with_reducible refine wpAny_isSubtype_exc hD ?_; rw [cB]) | (with_reducible refine wpAny_isSubtype_exc hC ?_; rw [hb]) | wp_step)
  cases b <;> (wp_walk; exact hq)
end
end L2
set_option Elab.async false
set_option linter.all false
set_option maxRecDepth 100000
set_option maxHeartbeats 4000000
namespace L2
open PySem PySem.Spec PyProof.Rows PySem.W
noncomputable def XFp (e C : Addr) (dx : Option Addr) (fr : Bool) (h : Heap) : Prop := ∃ o vs t0 x, h.get? e = some o ∧ o.cls = .ref C ∧ o.dict = dx ∧ o.data = .fields vs ∧ vs[0]? = some (Value.ref t0) ∧ vs[1]? = some x ∧ (fr = true → x = .none)
noncomputable def XF (e C : Addr) (dx : Option Addr) (fr : Bool) : HO := .ext (XFp e C dx fr)
theorem XFp.on {e C : Addr} {dx : Option Addr} {fr : Bool} {h h' : Heap} (x : XFp e C dx fr h) (k : ∀ o, h.get? e = some o → h'.get? e = some o) : XFp e C dx fr h' := by
  obtain ⟨o, vs, t0, y, a, b⟩ := x
  exact ⟨o, vs, t0, y, k o a, b⟩
theorem xf_ok {P : Program} {w : World} {H : Hp} {h : Heap} {e C : Addr} {dx : Option Addr} {fr : Bool} (x : XFp e C dx fr h) : ObjOk P w H h e (XF e C dx fr) := ⟨x, let ⟨o, _, _, _, a, _⟩ := x; ⟨o, a⟩, fun _ _ z k => z.on k⟩
theorem xf_of {P : Program} {w : World} {H : Hp} {h : Heap} {e C : Addr} {dx : Option Addr} {fr : Bool} (ok : HOk P w H h) (a : H e = some (XF e C dx fr)) : XFp e C dx fr h := (ok e _ a).1
theorem upd_self {H : Hp} {a : Addr} {o : HO} (h : H a = some o) : upd H a o = H := by
  funext b
  by_cases e : b = a
  · subst e; rw [upd_same, h]
  · rw [upd_ne e]
noncomputable def TbOf (s : Shared) (ea : Addr) (H' : Hp) (h : Heap) : Prop := ∃ o vs T, h.get? ea = some o ∧ o.data = .fields vs ∧ vs[1]? = some (Value.ref T) ∧ T ≠ ea ∧ s.heap.objs.size ≤ T ∧ H' T = none ∧ TbIs h T
noncomputable def CXo (P : Program) (w : World) : CXT := fun outer H s E e s' => ∃ ea C dx H', e = .ref ea ∧ H' ea = some (XF ea C dx false) ∧ s'.os = s.os ∧ AllBare s'.gens ∧ Un (frs outer) [] H H' s.heap s'.heap ∧ HOk P w H' s'.heap ∧ TbOf s ea H' s'.heap ∧ E (.ref C) (some ea) H'
section
variable {X : Cx} {pins : List (Addr × Obj)} {σ : St} {H : Hp} {s : Shared}
noncomputable def TOk (X : Cx) (pins : List (Addr × Obj)) (H : Hp) (T : Addr) : Prop := X.s₀.heap.objs.size ≤ T ∧ T ≠ X.env.locals ∧ (∀ x c, X.env.cells.lookup x = some c → c ≠ T) ∧ (∀ p ∈ X.pn ++ pins, p.1 ≠ T) ∧ H T = none
theorem inv_left {h' : Heap} {ea C : Addr} {dx : Option Addr} {fr : Bool} {o : Obj} {ok : Addr → Prop} {ch : List Addr} (I : Inv X pins σ H s) (hx : H ea = some (XF ea C dx fr)) (ge : s.heap.get? ea = some o) (l : Left (frs X.stack) ea o ok s.heap h') (hok : ∀ T, ok T → T ∈ ch) (hch : ∀ T ∈ ch, TOk X pins H T) (hnew : fr = false) :
    Inv X pins σ H { s with heap := h' } := by
  subst hnew
  have ntr : ∀ b u, H b = some u → ¬ ok b := fun b u e z => by rw [(hch b (hok b z)).2.2.2.2] at e; cases e
  have nfr : ∀ b u, H b = some u → b ∉ frs X.stack := fun b u e z => by rw [I.stkFree b z] at e; cases e
  have hk : HOk X.prog X.w H h' := fun a u e => by
    by_cases ha : a = ea
    · subst ha
      rw [hx] at e
      cases e
      obtain ⟨o', vs, t0, y, a1, a2, a3, a4, a5, a6, _⟩ := xf_of I.hok hx
      rw [ge] at a1
      cases a1
      obtain ⟨T, _, _, gT⟩ := l.tb
      refine xf_ok ⟨_, _, t0, .ref T, gT, ?_, ?_, mf_data _ a4, ?_, ?_, fun z => by cases z⟩
      · rw [Obj.cls_mapFields]; exact a2
      · rw [mf_dict]; exact a3
      · rw [Array.getElem?_setIfInBounds_ne (by decide)]; exact a5
      · have := (Array.getElem?_eq_some_iff.mp a6).1
        simp [this]
    · refine (I.hok a u e).stay (fun b v hb q => ?_) (fun _ q => q) fun _ _ q => q
      rcases hb with rfl | hb
      · exact l.keep b v ha (ntr b u e) (nfr b u e) q
      · refine l.keep b v (fun z => ?_) (ntr b _ hb) (nfr b _ hb) q
        rw [z, hx] at hb
        cases hb
  refine I.step (g' := s.gens) (d' := s.drawn) (t' := s.toks) (ch := ch) (fun b hb => ⟨.inr (hch b hb).1, (hch b hb).2.1, (hch b hb).2.2.1, (hch b hb).2.2.2.1⟩) (fun b u hL hf hc e n => ?_) (fun b u hL hf hc e n => ?_) (fun _ _ _ _ n => n) (fun b u hc e => l.there b u e) (fun _ _ e => e) (fun _ _ _ e => e) (fun b ps e => ⟨#[], by rw [e]; simp⟩) (fun m hm => ?_) hk I.bare
  · refine l.keep b u (fun z => by rw [z, hx] at n; cases n) (fun z => hc (hok b z)) (fun z => ?_) e
    rcases List.mem_cons.mp (I.stkSub b z) with z | z
    · exact hL z
    · exact hf z
  · exact l.slot b u (fun z => by rw [z, hx] at n; cases n) (fun z => hc (hok b z)) e
  · obtain ⟨u, es, ep, e, r⟩ := hm
    obtain ⟨sl, e2⟩ := l.slot _ u (fun z => by have := I.free; rw [z, hx] at this; cases this) (fun z => (hch _ (hok _ z)).2.1 rfl) e
    exact ⟨_, es, ep, e2, r⟩
theorem tok_new {T : Addr} (I : Inv X pins σ H s) (h : s.heap.objs.size ≤ T) {H' : Hp} (hn : H' T = none) : TOk X pins H' T := by
  refine ⟨Nat.le_trans I.sz h, fun z => ?_, fun x c e z => ?_, fun p hp z => ?_, hn⟩
  · rw [z] at h; exact absurd I.lt (Nat.not_lt.mpr h)
  · obtain ⟨v, o, ho, _⟩ := I.cell x c e
    rw [z] at ho
    exact absurd (Heap.lt_size ho) (Nat.not_lt.mpr h)
  · obtain ⟨hp1, _⟩ := I.pin p hp
    rw [z] at hp1
    exact absurd (Heap.lt_size hp1) (Nat.not_lt.mpr h)
theorem tb_left {ea : Addr} {o : Obj} {vs : Array Value} {ok : Addr → Prop} {fs : List Addr} {h' : Heap} (I : Inv X pins σ H s) (ge : s.heap.get? ea = some o) (gd : o.data = .fields vs) (g1 : 1 < vs.size) (l : Left fs ea o ok s.heap h') : TbOf s ea H h' := by
  obtain ⟨T, h1, h2, h3⟩ := l.tb
  exact ⟨_, _, T, h3, mf_data _ gd, by simp [g1], fun z => absurd (Heap.lt_size ge) (by rw [← z]; exact Nat.not_lt.mpr h1), h1, I.hok.fresh h1, h2⟩
end
section
variable {P : Program} {w : World} {K : Frag} {mg : Str → Option Value} {base : Heap} {N : List Str} {qual : Str} {scope : Scope} {f : Addr} {cd : Value} {A : Around} {outer : List Env} {s : Shared} {H : Hp} {E : XK}
theorem xe_of {pins : List (Addr × Obj)} {σ : St} {H' : Hp} {s2 : Shared} {ea C : Addr} {dx : Option Addr} (I : Inv (cxOf (CXo P w) P w K mg base N qual scope f cd A outer s H E) pins σ H' s2) (hx : H' ea = some (XF ea C dx false))
    (tb : ∀ vs o, s2.heap.get? ea = some o → o.data = .fields vs → vs[1]? = some .none ∨ ∃ T, vs[1]? = some (.ref T) ∧ T ≠ ea ∧ TOk (cxOf (CXo P w) P w K mg base N qual scope f cd A outer s H E) pins H' T ∧ TbIs s2.heap T) (hE : E (.ref C) (some ea) H') :
    (cxOf (CXo P w) P w K mg base N qual scope f cd A outer s H E).xe (.ref ea) s2 := by
  obtain ⟨o, vs, t0, y, a1, a2, a3, a4, a5, a6, _⟩ := xf_of I.hok hx
  have g1 := (Array.getElem?_eq_some_iff.mp a6).1
  show wpAny _ _ (leaving _ (.ref ea)) _ _ s2
  have fin : ∀ (ok : Addr → Prop) (ch : List Addr) (h' : Heap), (∀ T, ok T → T ∈ ch) → (∀ T ∈ ch, TOk (cxOf (CXo P w) P w K mg base N qual scope f cd A outer s H E) pins H' T) → Left (frs (cxOf (CXo P w) P w K mg base N qual scope f cd A outer s H E).stack) ea o ok s2.heap h' → CXo P w outer H s E (.ref ea) { s2 with heap := h' } := fun ok ch h' hok hch l => by
    have I2 := inv_left I hx a1 l hok hch rfl
    refine ⟨ea, C, dx, H', rfl, hx, I2.os, I2.bare, I2.base, I2.hok, ?_, hE⟩
    obtain ⟨o2, vs2, T, b1, b2, b3, b4, b5, b6, b7⟩ := tb_left I a1 a4 g1 l
    exact ⟨o2, vs2, T, b1, b2, b3, b4, Nat.le_trans I.sz b5, b6, b7⟩
  refine wpAny_bind ?_
  rcases tb vs o a1 a4 with z | ⟨T, z1, z2, z3, z4⟩
  · exact leave_any (ok := fun _ => False) I.ok.frames I.stack rfl a1 a4 (.inl z) fun h' l => fin _ [] h' (fun _ z => z.elim) (fun _ z => absurd z List.not_mem_nil) l
  · exact leave_any (ok := fun b => b = T) I.ok.frames I.stack rfl a1 a4 (.inr ⟨T, z1, z2, rfl, z4⟩) fun h' l => fin _ [T] h' (fun _ z => List.mem_singleton.mpr z) (fun b z => by rw [List.mem_singleton.mp z]; exact z3) l
end
end L2
set_option Elab.async false
set_option linter.all false
set_option maxRecDepth 100000
set_option maxHeartbeats 4000000
namespace L2
open PySem PySem.Spec PyProof.Rows PySem.W
section
variable {X : Cx} {pins : List (Addr × Obj)} {σ : St} {H : Hp} {s : Shared} {pos apos np : Pos} {a b o e value : Expr} {es : List Expr} {t : TA} {te ta tv : TE} {f x : Str}
theorem boot_ValueError : bootBuiltins "ValueError" = some (.type "ValueError") := by rfl
noncomputable def tBInit (K : Frag) (t : TA) : TE := fun σ H Q => t σ H fun vs H2 => ∃ e C dx fr bm y, vs = [.ref e, y] ∧ H2 e = some (XF e C dx fr) ∧ XCls K C bm ∧ Q .non H2
theorem pe_binit {pl : Sem Bool} (hg : Gl X "ValueError") (hm : X.mg "ValueError" = none) (ha : PA X [a, b] t) (hst : starEach [a, b] X.env = (false, eval a X.env) :: starEach [b] X.env := by rfl) (hpl : (backTo pos (starEach [b] X.env)).any (·.1) = false := by rfl)
    (ht : eval (.Call (.Attribute (.Name "ValueError" np) "__init__" apos) [a, b] [] pos) X.env = (do
      let ov ← eval (.Name "ValueError" np) X.env
      standAt apos.atName
      let (f, first) ← holding [ov] (getMethod ov "__init__" pl)
      callWith pos f first (backTo pos (starEach [a, b] X.env)) (backToKw pos (keywordEach [] X.env))) := by rfl) :
    PE X (.Call (.Attribute (.Name "ValueError" np) "__init__" apos) [a, b] [] pos) (tBInit X.K t) := by
  intro pins s σ H Q I h
  refine PySem.W.methodCall_KW (pl := pl) (thn ((pe_bty (X := X) (pos := np) hg hm boot_ValueError) pins s σ H (fun v H1 => v = .ty "ValueError" ∧ H1 = H) I ⟨rfl, rfl⟩) fun u s1 ⟨y, H1, I1, ry, e1, e2⟩ => ?_) ht
  subst e1 e2
  obtain rfl : u = Value.type "ValueError" := ry
  obtain ⟨m, F⟩ := I1.fr
  refine method_type F I1.ok.mod.kin (by kernel_rfl) (by decide +kernel) (v := .builtin "ValueError.__init__") (by kernel_rfl) (by decide +kernel) ?_
  have I2 := I1.tok (s1.toks + 1)
  refine callWith_builtin1 (thn (ha pos pins _ σ H1 _ I2 h) fun us s2 ⟨vs, H2, I3, r, q⟩ => ?_) hst hpl
  obtain ⟨ea, C, dx, fr, bm, y, rfl, hx, Xc, q⟩ := q
  obtain ⟨u1, us1, rfl, r1, r2⟩ : ∃ u1 us1, us = u1 :: us1 ∧ RelV (.ref ea) u1 ∧ Vals [y] us1 := by cases r with | cons p q => exact ⟨_, _, rfl, p, q⟩
  obtain ⟨u2, rfl, r3⟩ := r2.one
  obtain rfl : u1 = Value.ref ea := r1
  obtain ⟨ob, ws, t0, z, a1, a2, a3, a4, a5, a6, a7⟩ := xf_of I3.hok hx
  obtain ⟨hp, g, d, tk, os⟩ := s2
  refine x_init I3.kIn Xc a1 a2 a4 a5 ?_
  refine ⟨.non, H2, ?_, rfl, q⟩
  have k1 : ∀ b u, b ≠ ea → hp.get? b = some u → ((hp.push { cls := .type "tuple", data := .seq [u2].toArray }).update ea (Obj.mapFields (·.setIfInBounds 0 (.ref hp.objs.size)))).get? b = some u := fun b u hb hu => by
    rw [Heap.get?_update_other _ _ (Ne.symm hb)]
    exact Heap.get?_push_of_some _ hu
  have k2 := Heap.get?_update_self (Obj.mapFields (·.setIfInBounds 0 (.ref hp.objs.size))) (Heap.get?_push_of_some { cls := .type "tuple", data := .seq [u2].toArray } a1) (Obj.isFreed_of_fields (mf_data _ a4))
  have sz0 := (Array.getElem?_eq_some_iff.mp a5).1
  have := I3.write (t' := tk) (o := XF ea C dx fr) (x := ea) (e := ea) (by rw [hx]; exact True.intro) (.inl rfl) k1 ⟨_, k2⟩ (xf_ok ⟨_, _, hp.objs.size, z, k2, by rw [Obj.cls_mapFields]; exact a2, by rw [mf_dict]; exact a3, mf_data _ a4, by simp [sz0], by rw [Array.getElem?_setIfInBounds_ne (by decide)]; exact a6, a7⟩)
  rw [upd_self hx] at this
  exact this
structure XAttr (K : Frag) (C : Addr) : Prop where
  ga : findIn K (.ref C) "__getattribute__" = some (some (.builtin "BaseException.__getattribute__"))
  gx : findIn K (.ref C) "__getattr__" = some none
  sa : findIn K (.ref C) "__setattr__" = some (some (.builtin "object.__setattr__"))
noncomputable def tXSet (K : Frag) (ta tv : TE) (f : Str) : TS := fun D σ H => tv σ H fun y H1 => ta σ H1 fun x H2 => ∃ e C bm fr, x = .ref e ∧ XCls K C bm ∧ XUp bm ∧ XAttr K C ∧ NoAttr K C f ∧
  ((H2 e = some (XF e C none fr) ∧ ∀ dx, H2 dx = none → dx ≠ e → D.nx σ (upd (upd H2 dx (.xd [(f, y)])) e (XF e C (some dx) fr))) ∨ (∃ dx fs, H2 e = some (XF e C (some dx) fr) ∧ H2 dx = some (.xd fs) ∧ fs.length ≤ 900 ∧ D.nx σ (upd H2 dx (.xd (putF f y fs)))))
theorem within_of {mA : Str → Option Value} {fs : List (Str × V)} (h : ∀ f, RelO (fs.lookup f) (mA f)) : PySem.Within mA (fs.map (·.1)) := fun y hy => by
  cases e : fs.lookup y with
  | none =>
    have := h y
    rw [e] at this
    exact absurd (RelO.none_of this) hy
  | some v =>
    have := List.mem_map_of_mem (f := (·.1)) (PySem.mem_of_lookup e)
    exact this
theorem ps_xset (ha : PE X o ta) (hv : PE X value tv) (hs : swapsWith value (some (.Attribute o f apos)) pos.line X.env = pure false := by rfl) : PS X (.Assign [.Attribute o f apos] value pos) (tXSet X.K ta tv f) := by
  intro pins s σ H D I h
  refine plainObj_wpAny_Assign_Attribute (thn (hv pins s σ H _ I h) fun u s1 ⟨y, H1, I1, ry, q⟩ => thn (ha pins s1 σ H1 _ I1 q) fun ov s2 ⟨x, H2, I2, rx, ea, C, bm, fr, ex, Xc, U, Xa, n, q2⟩ => ?_) hs
  subst ex
  obtain rfl : ov = Value.ref ea := rx
  obtain ⟨hp, g, d, tk, os⟩ := s2
  rcases q2 with ⟨hx, q3⟩ | ⟨dx, fs, hx, hd, hl, q3⟩
  · obtain ⟨ob, ws, t0, z, a1, a2, a3, a4, a5, a6, a7⟩ := xf_of I2.hok hx
    refine x_set (mA := fun _ => none) (ns := []) I2.kIn Xc U Xa.sa n a1 a2 a4 (fun y hy => absurd rfl hy) (by simp) (.inl ⟨a3, fun _ => rfl⟩) fun h' dx tk' hdx g1 g2 g3 g4 => ?_
    have hsz : hp.objs.size ≤ dx := by
      rcases hdx with z | z
      · rw [a3] at z; cases z
      · exact z.2
    refine ⟨σ, _, ?_, q3 dx (I2.hok.fresh hsz) g2⟩
    have gg : ∀ b u, b ≠ ea → hp.get? b = some u → h'.get? b = some u := fun b u hb hu => g4 b u hb (Nat.ne_of_lt (Nat.lt_of_lt_of_le (Heap.lt_size hu) hsz)) hu
    have hfree := I2.hok.fresh hsz
    have okd : ObjOk X.prog X.w (upd (upd H2 dx (.xd [(f, y)])) ea (XF ea C (some dx) fr)) h' dx (.xd [(f, y)]) := ⟨_, g3, fun k => by
      by_cases hk : k = f
      · subst hk
        simp only [List.lookup, beq_self_eq_true, if_true]
        exact ry
      · have hb : (k == f) = false := beq_eq_false_iff_ne.mpr hk
        simp only [List.lookup, hb, if_neg hk]
        exact trivial⟩
    have okh : HOk X.prog X.w (upd (upd H2 dx (.xd [(f, y)])) ea (XF ea C (some dx) fr)) h' := fun b v hb => by
      by_cases h1 : b = ea
      · subst h1
        rw [upd_same] at hb
        cases hb
        exact xf_ok ⟨_, ws, t0, z, g1, a2, rfl, a4, a5, a6, a7⟩
      · rw [upd_ne h1] at hb
        by_cases h2 : b = dx
        · subst h2
          rw [upd_same] at hb
          cases hb
          exact okd
        · rw [upd_ne h2] at hb
          have nd : ∀ c u, H2 c = some u → c ≠ dx := fun c u hc z => by rw [z, hfree] at hc; cases hc
          refine (I2.hok b v hb).stay (fun c w' hc qq => gg c w' ?_ qq) (fun c qq => ?_) fun c xs qq => ?_
          · rcases hc with rfl | hc
            · exact h1
            · exact fun zz => by rw [zz, hx] at hc; cases hc
          · rw [upd_ne (fun zz => by rw [zz, hx] at qq; cases qq), upd_ne (nd c _ qq)]; exact qq
          · rw [upd_ne (fun zz => by rw [zz, hx] at qq; cases qq), upd_ne (nd c _ qq)]; exact qq
    refine I2.un (t' := tk') ?_ okh
    refine ⟨fun b u e n hb hx' => gg b u (fun zz => by rw [zz, hx] at n; cases n) e, fun b u e n hb hx' => ⟨u.slots, gg b u (fun zz => by rw [zz, hx] at n; cases n) e⟩, fun b u e n hx' => ?_, fun b u e hx' => ?_, fun b xs e => ?_, fun b u xs e => ?_, fun b ps e => ⟨#[], ?_⟩⟩
    · rw [upd_ne (fun zz => by rw [zz, hx] at n; cases n), upd_ne (Nat.ne_of_lt (Nat.lt_of_lt_of_le (Heap.lt_size e) hsz))]; exact n
    · by_cases h1 : b = ea
      · subst h1; exact ⟨_, g1⟩
      · exact ⟨u, gg b u h1 e⟩
    · rw [upd_ne (fun zz => by rw [zz, hx] at e; cases e), upd_ne (fun zz => by rw [zz, hfree] at e; cases e)]; exact e
    · rw [upd_ne (fun zz => by rw [zz, hx] at e; cases e), upd_ne (fun zz => by rw [zz, hfree] at e; cases e)]; exact e
    · rw [upd_ne (fun zz => by rw [zz, hx] at e; cases e), upd_ne (fun zz => by rw [zz, hfree] at e; cases e), e]; simp
  · obtain ⟨ob, ws, t0, z, a1, a2, a3, a4, a5, a6, a7⟩ := xf_of I2.hok hx
    obtain ⟨mA, hm, hr⟩ := (show ObjOk X.prog X.w H2 hp dx (.xd fs) from I2.hok dx _ hd)
    have hne : dx ≠ ea := fun zz => by rw [zz, hx] at hd; cases hd
    refine x_set (mA := mA) (ns := fs.map (·.1)) I2.kIn Xc U Xa.sa n a1 a2 a4 (within_of hr) (by rw [List.length_map]; omega) (.inr ⟨dx, a3, hne, hm⟩) fun h' dx' tk' hdx g1 g2 g3 g4 => ?_
    obtain rfl : dx' = dx := by
      rcases hdx with z | z
      · rw [a3] at z; exact (Option.some.inj z).symm
      · rw [a3] at z; cases z.1
    refine ⟨σ, _, ?_, q3⟩
    have gg : ∀ b u, b ≠ dx' → hp.get? b = some u → h'.get? b = some u := fun b u hb hu => by
      by_cases h1 : b = ea
      · subst h1
        rw [a1] at hu
        cases hu
        rw [g1, ← a3]
      · exact g4 b u h1 hb hu
    have nw : ObjOk X.prog X.w (upd H2 dx' (.xd (putF f y fs))) h' dx' (.xd (putF f y fs)) := ⟨_, g3, fun k => by
      rw [lookup_putF]
      by_cases hk : k = f
      · rw [if_pos hk, if_pos hk]
        exact ry
      · rw [if_neg hk, if_neg hk]
        exact hr k⟩
    have okh : HOk X.prog X.w (upd H2 dx' (.xd (putF f y fs))) h' := fun b v hb => by
      by_cases h1 : b = dx'
      · subst h1
        rw [upd_same] at hb
        cases hb
        exact nw
      · rw [upd_ne h1] at hb
        refine (I2.hok b v hb).stay (fun c w' hc qq => gg c w' ?_ qq) (fun c qq => ?_) fun c xs qq => ?_
        · rcases hc with rfl | hc
          · exact h1
          · exact fun zz => by rw [zz, hd] at hc; cases hc
        · rw [upd_ne (fun zz => by rw [zz, hd] at qq; cases qq)]; exact qq
        · rw [upd_ne (fun zz => by rw [zz, hd] at qq; cases qq)]; exact qq
    refine I2.un (t' := tk') ?_ okh
    refine ⟨fun b u e n hb hx' => gg b u (fun zz => by rw [zz, hd] at n; cases n) e, fun b u e n hb hx' => ⟨u.slots, gg b u (fun zz => by rw [zz, hd] at n; cases n) e⟩, fun b u e n hx' => ?_, fun b u e hx' => ?_, fun b xs e => ?_, fun b u xs e => ?_, fun b ps e => ⟨#[], ?_⟩⟩
    · rw [upd_ne (fun zz => by rw [zz, hd] at n; cases n)]; exact n
    · by_cases h1 : b = dx'
      · subst h1
        exact let ⟨u, _, _, e, _⟩ := g3; ⟨u, e⟩
      · exact ⟨u, gg b u h1 e⟩
    · rw [upd_ne (fun zz => by rw [zz, hd] at e; cases e)]; exact e
    · rw [upd_ne (fun zz => by rw [zz, hd] at e; cases e)]; exact e
    · rw [upd_ne (fun zz => by rw [zz, hd] at e; cases e), e]; simp
noncomputable def tXGet (K : Frag) (ta : TE) (f : Str) : TE := fun σ H Q => ta σ H fun x H1 => ∃ e C bm dx fs fr v, x = .ref e ∧ H1 e = some (XF e C (some dx) fr) ∧ XCls K C bm ∧ XAttr K C ∧ NoAttr K C f ∧ H1 dx = some (.xd fs) ∧ fs.lookup f = some v ∧ Q v H1
theorem pe_xget (he : PE X e ta) (hb : attributeBase e f X.env (eval e X.env) = eval e X.env := by rfl) : PE X (.Attribute e f pos) (tXGet X.K ta f) := by
  intro pins s σ H Q I h
  refine attr_of hb (thn (he pins s σ H _ I h) fun u s1 ⟨x, H1, I1, rx, ea, C, bm, dx, fs, fr, v, ex, hx, Xc, Xa, n, hd, l, q⟩ => ?_)
  subst ex
  obtain rfl : u = Value.ref ea := rx
  obtain ⟨hp, g, d, tk, os⟩ := s1
  obtain ⟨ob, ws, t0, z, a1, a2, a3, a4, a5, a6, a7⟩ := xf_of I1.hok hx
  obtain ⟨mA, hm, hr⟩ := (show ObjOk X.prog X.w H1 hp dx (.xd fs) from I1.hok dx _ hd)
  obtain ⟨u, hu, ru⟩ := RelO.some_of (v := v) (o := mA f) (by rw [← l]; exact hr f)
  exact x_get I1.kIn Xc Xa.ga Xa.gx n a1 a2 a3 a4 hm hu (handed_of ru) ⟨v, H1, I1.tok _, ru, q⟩
end
end L2
set_option Elab.async false
set_option linter.all false
set_option maxRecDepth 100000
set_option maxHeartbeats 4000000
namespace L2
open PySem PySem.Spec PyProof.Rows PySem.W
section
variable {X : Cx} {CX : CXT} {k : Nat} {f C : Addr} {fd : FuncData} {ps : List Str} {sp : Sp} {dvs : List V} {ds : List Value} {E : XK} {x m : Str} {p pos apos np : Pos} {e o : Expr} {es : List Expr} {ta te : TE} {t : TA} {bm : List Value}
structure XMk (K : Frag) (C : Addr) (bm : List Value) (f : Addr) : Prop where
  cls : XCls K C bm
  init : findIn K (.ref C) "__init__" = some (some (.ref f))
  fn : typeIn K (.ref f) = some (.type "function")
  kp : keepIn K (.ref C) = true
theorem run_exc {pins : List (Addr × Obj)} {σ : St} {H : Hp} {s : Shared} {Q : VK} {us : List Value} {vs : List V} (M : XMk X.K C bm f) (F : FnOk X.prog X.w X.K X.mg X.base CX k f fd ps sp) (hr : Room (k + 1) X.A) (hb : Binds X.K fd ps ds) (hd : Vals dvs ds)
    (hx : Passes CX X E) (I : Inv X pins σ H s) (r : Vals vs us) (hl0 : us.length ≤ 1000)
    (h : ∀ e, H e = none → sp (.ref e :: (vs ++ dvs)) (upd H e (XF e C none true)) (fun v H2 => v = .non ∧ Q (.ref e) H2) E) :
    wpAny (model X.prog X.w) X.A (call (.ref C) us) (EP X pins σ Q) X.xe s := by
  obtain ⟨hp, g, d, tk, os⟩ := s
  have hq := h (hp.objs.size + 1) (I.hok.fresh (Nat.le_succ _))
  have I2 : Inv X pins σ (upd H (hp.objs.size + 1) (XF (hp.objs.size + 1) C none true)) ⟨(hp.push { cls := .type "tuple", data := .seq us.toArray }).push { cls := .ref C, data := .fields #[.ref hp.objs.size, .none, .none, .none, .bool false, .none] }, g, d, tk, os⟩ := by
    refine I.laid (t' := tk) (fun b u e => Heap.get?_push_of_some _ (Heap.get?_push_of_some _ e)) (Nat.le_succ _) (xf_ok ⟨{ cls := .ref C, data := .fields #[.ref hp.objs.size, .none, .none, .none, .bool false, .none] }, #[.ref hp.objs.size, .none, .none, .none, .bool false, .none], hp.objs.size, .none, ?_, rfl, rfl, rfl, rfl, rfl, fun _ => rfl⟩)
    heap_get
  have r2 : Vals (V.ref (hp.objs.size + 1) :: (vs ++ dvs)) (Value.ref (hp.objs.size + 1) :: (us ++ ds)) := .cons rfl (r.append hd)
  have hl : (Value.ref (hp.objs.size + 1) :: us ++ ds).length = ps.length := by
    have q := r2.length
    rw [F.len _ _ _ _ hq] at q
    exact q.symm
  refine x_call I.kIn M.cls M.init M.fn (by rw [sizeLine_eq]; omega) (wpAny_call (codeAny_mono (F.run _ X.stack _ _ ⟨Value.ref (hp.objs.size + 1) :: us, []⟩ (Value.ref (hp.objs.size + 1) :: (us ++ ds)) _ _ E (hr.make C us []) (I2.env0.make C us []) (hb _ (Value.ref (hp.objs.size + 1) :: us) I2.kIn hl) r2 hq) fun r s' hq' => ?_))
  cases r with
  | error e => exact hx pins σ _ _ e s' I2 hq'
  | ok fl =>
    cases fl with
    | ret u =>
      obtain ⟨v, H', I3, rv, ev, q3⟩ := I2.after hq'
      subst ev
      exact ⟨rv, ⟨V.ref (hp.objs.size + 1), H', I3, rfl, q3⟩⟩
    | next => exact False.elim hq'
    | brk => exact False.elim hq'
    | cont => exact False.elim hq'
noncomputable def tXMake (C : Addr) (sp : Sp) (dvs : List V) (E : XK) (t : TA) : TE := fun σ H Q => t σ H fun vs H1 => vs.length ≤ 1000 ∧ ∀ e, H1 e = none → sp (.ref e :: (vs ++ dvs)) (upd H1 e (XF e C none true)) (fun v H2 => v = .non ∧ Q (.ref e) H2) E
theorem pe_xmake (M : XMk X.K C bm f) (F : FnOk X.prog X.w X.K X.mg X.base CX k f fd ps sp) (hr : Room (k + 1) X.A) (hg : Gl X x) (hm : X.mg x = some (.ref C)) (hb : Binds X.K fd ps ds) (hd : Vals dvs ds) (hx : Passes CX X E)
    (ha : PA X (e :: es) t) (hdb : (x == ("__debug__" : Str)) = false := by decide) (he : starEach (e :: es) X.env = (false, eval e X.env) :: starEach es X.env := by rfl) (hpl : (backTo pos (starEach es X.env)).any (·.1) = false := by rfl) :
    PE X (.Call (.Name x p) (e :: es) [] pos) (tXMake C sp dvs E t) := by
  intro pins s σ H Q I h
  refine wpAny_Call_Name_kw (ld_glob I hg hm ?_ hdb)
  refine PySem.W.callWith_K (h₀ := X.base) I.ok.mod.kin M.kp (thn (ha pos pins s σ H _ I h) fun us s1 ⟨vs, H1, I1, r, ql, q⟩ => ⟨I1.kIn, ?_⟩) he hpl
  exact run_exc M F hr hb hd hx I1 r (show us.length ≤ 1000 by rw [← r.length]; exact ql) q
noncomputable def XeOk (X : Cx) (EX : XK) : Prop := ∀ (pins : List (Addr × Obj)) (σ : St) (H : Hp) (s : Shared) (ea C : Addr) (dx : Option Addr), Inv X pins σ H s → H ea = some (XF ea C dx false) → (∃ o vs, s.heap.get? ea = some o ∧ o.data = .fields vs ∧ vs[1]? = some Value.none) → EX (.ref C) (some ea) H → X.xe (.ref ea) s
theorem xeOk_cx {P : Program} {w : World} {K : Frag} {mg : Str → Option Value} {base : Heap} {N : List Str} {qual : Str} {scope : Scope} {f : Addr} {cd : Value} {A : Around} {outer : List Env} {s : Shared} {H : Hp} {E : XK} : XeOk (cxOf (CXo P w) P w K mg base N qual scope f cd A outer s H E) E := fun pins σ H' s2 ea C dx I hx ⟨o, vs, g1, g2, g3⟩ hE =>
  xe_of I hx (fun vs' o' c1 c2 => .inl (by rw [g1] at c1; cases c1; rw [g2] at c2; cases c2; exact g3)) hE
noncomputable def tRaise (EX : XK) (K : Frag) (te : TE) : TS := fun _ σ H => te σ H fun v H1 => ∃ e C dx bm, v = .ref e ∧ XCls K C bm ∧ H1 e = some (XF e C dx true) ∧ EX (.ref C) (some e) (upd H1 e (XF e C dx false))
theorem ps_raise {EX : XK} (hc : X.calm = true) (hE : XeOk X EX) (he : PE X e te) : PS X (.Raise (some e) none pos) (tRaise EX X.K te) := by
  intro pins s σ H D I h
  show wpAny _ _ (do standAt pos; raiseStmt X.env (some (do let v ← eval e X.env; standAt pos; pure v)) none) _ _ s
  refine wpAny_bind (wpAny_standAt (x_raise (K := X.K) (I.ok.hd hc) (wpAny_bind (thn (he pins s σ H _ I h) fun v s1 ⟨y, H1, I1, ry, q⟩ => wpAny_bind (wpAny_standAt (wpAny_pure ?_))))))
  obtain ⟨ea, C, dx, bm, rfl, Xc, hx, hq⟩ := q
  obtain rfl : v = Value.ref ea := ry
  obtain ⟨ob, ws, t0, z, a1, a2, a3, a4, a5, a6, a7⟩ := xf_of I1.hok hx
  have a6 : ws[1]? = some Value.none := by rw [a6, a7 rfl]
  refine ⟨ea, ob, ws, C, bm, rfl, Xc, I1.kIn, a1, a2, a4, a6, ?_⟩
  have I2 : Inv X pins σ (upd H1 ea (XF ea C dx false)) s1 := by
    have := I1.write (t' := s1.toks) (h' := s1.heap) (o := XF ea C dx false) (x := ea) (e := ea) (by rw [hx]; exact True.intro) (.inl rfl) (fun _ _ _ z => z) ⟨_, a1⟩ (xf_ok ⟨ob, ws, t0, .none, a1, a2, a3, a4, a5, a6, fun z => by cases z⟩)
    exact this
  exact hE pins σ _ s1 ea C dx I2 upd_same ⟨ob, ws, a1, a4, a6⟩ hq
end
theorem Fun.okX {P : Program} {w : World} {K : Frag} {mg : Str → Option Value} {base : Heap} {x qual : Str} {st : Stmt} {f : Addr} {fd : FuncData} {N ps : List Str} {k : Nat} {sp : Sp} (F : Fun K x qual st f fd) (S : FnScope N ps (defScope st)) (len : ∀ vs H Q E, sp vs H Q E → vs.length = ps.length)
    (hbody : ∀ (cdv : Value) (A : Around) (outer : List Env) (s : Shared) (H : Hp) (vs : List V) (Q : VK) (E : XK), Room k (A.deeper (envOfC qual (defScope st) s.heap.objs.size f cdv)) → sp vs H Q E →
      ∃ t, PSs (cxOf (CXo P w) P w K mg base N qual (defScope st) f cdv A outer s H E) (defBody st) t ∧ t { nx := fun _ H' => Q .non H', rt := Q } (start N vs) H) : FnOk P w K mg base (CXo P w) (k + 1) f fd ps sp := by
  obtain ⟨oc, od, kV, doc, pm, an, cdv, ct, osl, rfl, lk, hcd⟩ := F.ex
  exact fn_of lk hcd S len fun A outer s H vs Q E hr hsp => hbody cdv A outer s H vs Q E hr hsp
end L2
set_option Elab.async false
set_option linter.all false
set_option maxRecDepth 100000
set_option maxHeartbeats 4000000
namespace L2
open PySem PySem.Spec PyProof.Rows PySem.W
noncomputable def Cx.inX (X : Cx) (ea : Addr) : Cx := { X with A := X.A.mark (some (.ref ea)), calm := false, xe := fun _ _ => False }
section
variable {X : Cx} {pins : List (Addr × Obj)} {σ : St} {H : Hp} {s : Shared} {ea : Addr}
theorem Inv.inX (I : Inv X pins σ H s) (ea : Addr) : Inv (X.inX ea) pins σ H s :=
  ⟨⟨I.ok.mod, I.ok.kind, I.ok.glob, I.ok.blt, I.ok.above, I.ok.inj, I.ok.has, I.ok.cab, (fun z => by cases z), I.ok.frames, I.ok.stk, I.ok.exf, I.ok.bs, I.ok.bsz, I.ok.noex, I.ok.exfs, I.ok.funs, I.ok.frf⟩, I.os, I.bare, I.base, I.loc, I.cell, I.free, I.freeC, I.pin, I.hok, I.len⟩
theorem Inv.outX (ok : X.Ok) (I : Inv (X.inX ea) pins σ H s) : Inv X pins σ H s := ⟨ok, I.os, I.bare, I.base, I.loc, I.cell, I.free, I.freeC, I.pin, I.hok, I.len⟩
theorem SP.outX (ok : X.Ok) {D : Ends} {f : Flow} {s' : Shared} (h : SP (X.inX ea) pins D f s') : SP X pins D f s' := by
  cases f with
  | next => obtain ⟨σ', H', I, q⟩ := h; exact ⟨σ', H', I.outX ok, q⟩
  | brk => obtain ⟨σ', H', I, q⟩ := h; exact ⟨σ', H', I.outX ok, q⟩
  | cont => obtain ⟨σ', H', I, q⟩ := h; exact ⟨σ', H', I.outX ok, q⟩
  | ret u => obtain ⟨v, σ', H', I, r, q⟩ := h; exact ⟨v, σ', H', I.outX ok, r, q⟩
theorem gone_ok {M : Model} {A : Around} {E : Value → Shared → Prop} {n : Nat} {nm : Str} {pos : Pos} {Q : Unit → Shared → Prop} (I : Inv X pins σ H s) (hN : X.N.Nodup) (hn : X.N[n]? = some nm) (hk : X.env.kindOf nm = some .local) (h : ∀ s', Inv X pins (σ.set n none) H s' → Q () s') :
    wpAny M A (do bindName X.env nm .none; unbindBehindTheSuite X.env nm pos) Q E s := by
  obtain ⟨m, hm, hl⟩ := id I.loc
  have hcls : (X.env.scope.kind == .class || (X.env.scope.kind == .module && X.env.locals != X.env.globals)) = false := by rw [I.ok.kind]; rfl
  refine wpAny_nameGoes_keeps hk hm hcls fun h' v hm' hs => h _ ?_
  have ne0 : ∀ b o, X.s₀.heap.get? b = some o → b ≠ X.env.locals := fun b o e => Nat.ne_of_lt (Nat.lt_of_lt_of_le (Heap.lt_size e) I.ok.above)
  refine ⟨I.ok, I.os, I.bare, ⟨fun b o e n hb hx => (hs.2 b (ne0 b o e)).trans (I.base.keep b o e n hb hx), fun b o e n hb hx => ?_, I.base.free, fun b o e hx => ?_, I.base.tups, I.base.frzs, I.base.tbls⟩, ⟨_, hm', fun j y v' e1 e2 e3 => ?_⟩, fun y c e => ?_, I.free, I.freeC, fun p hp => ?_, fun b u e => ?_, by simpa using I.len⟩
  · obtain ⟨sl, e1⟩ := I.base.slot b o e n hb hx
    exact ⟨sl, (hs.2 b (ne0 b o e)).trans e1⟩
  · obtain ⟨o', e1⟩ := I.base.there b o e hx
    exact ⟨o', (hs.2 b (ne0 b o e)).trans e1⟩
  · by_cases hj : j = n
    · subst hj
      have hlt : j < σ.length := by rw [I.len]; exact (List.getElem?_eq_some_iff.mp hn).1
      rw [List.getElem?_set_self hlt] at e2
      cases e2
    · rw [List.getElem?_set_ne (Ne.symm hj)] at e2
      obtain ⟨u', r', q⟩ := hl j y v' e1 e2 e3
      refine ⟨u', r', ?_⟩
      rcases q with ⟨k, e⟩ | ⟨k, c, e, z⟩
      · refine .inl ⟨k, ?_⟩
        have : y ≠ nm := fun e => hj (nodup_ix hN e1 (e ▸ hn))
        simp [this, e]
      · exact .inr ⟨k, c, e, z.sameBut hs (I.cne y c e)⟩
  · obtain ⟨w', z⟩ := I.cell y c e
    exact ⟨w', z.sameBut hs (I.cne y c e)⟩
  · obtain ⟨e, n', ne, nf, d⟩ := I.pin p hp
    exact ⟨(hs.2 p.1 ne).trans e, n', ne, nf, d⟩
  · refine (I.hok b u e).stay (fun c w' hc q => (hs.2 c ?_).trans q) (fun _ q => q) fun _ _ q => q
    rintro rfl
    rcases hc with z | z
    · rw [← z, I.free] at e; cases e
    · rw [I.free] at z; cases z
theorem fly_ok {M : Model} {A : Around} {E : Value → Shared → Prop} {T : Addr} {o : Obj} {vs : Array Value} {Q : Unit → Shared → Prop} (I : Inv X pins σ H s) (ge : s.heap.get? ea = some o) (gd : o.data = .fields vs) (g1 : vs[1]? = some (.ref T)) (hT : TOk X pins H T) (tb : TbIs s.heap T)
    (q : ∀ s', Inv X pins σ H s' → Q () s') : wpAny M A (setFlight (.ref ea) none) Q E s := by
  obtain ⟨oT, ts, h1, h2, h3⟩ := tb
  unfold setFlight
  refine wpAny_bind (wpAny_field ge gd g1 ?_)
  rw [if_pos (show (Value.ref T != Value.none) = true from by simp)]
  refine wpAny_setField h1 h2 (Array.getElem?_eq_some_iff.mp h3).1 (q _ ?_)
  exact I.turned (t' := s.toks) (it := T) (fun b u hb hu => by rw [Heap.get?_update_other _ _ (Ne.symm hb)]; exact hu) hT.2.2.2.2 hT.2.1 (.inr hT.1) hT.2.2.1 hT.2.2.2.1
noncomputable abbrev Ends.gone (D : Ends) (n : Nat) : Ends := { nx := fun σ' H' => D.nx (σ'.set n none) H', rt := D.rt, bk := fun σ' H' => D.bk (σ'.set n none) H', ct := fun σ' H' => D.ct (σ'.set n none) H' }
noncomputable def MetAt (X : Cx) (pins : List (Addr × Obj)) (H : Hp) (ea : Addr) (h : Heap) : Prop := ∃ o vs T, h.get? ea = some o ∧ o.data = .fields vs ∧ vs[1]? = some (Value.ref T) ∧ T ≠ ea ∧ TOk X pins H T ∧ TbIs h T
theorem handle_as {C C' : Addr} {dx : Option Addr} {bm bm' : List Value} {cx nm : Str} {cp hpos : Pos} {n : Nat} {b0 : Stmt} {suite : List Stmt} {ts : TS} {D : Ends} (hst : X.stack = X.env :: X.outer) (hfr : X.env.frame = some X.env.locals) (I : Inv X pins σ H s) (hx : H ea = some (XF ea C dx false)) (tb : MetAt X pins H ea s.heap)
    (Xc : XCls X.K C bm) (Xd : XCls X.K C' bm') (hm : (Value.ref C :: bm).contains (.ref C') = true) (hg : Gl X cx) (hmc : X.mg cx = some (.ref C')) (hdb : (cx == ("__debug__" : Str)) = false) (hN : X.N.Nodup) (hn : X.N[n]? = some nm) (hk : X.env.kindOf nm = some .local) (hloc : Loc X.env.scope nm) (hf : X.fn nm = true ∨ X.env.scope.names.lookup nm = some .local)
    (hs : PSs (X.inX ea) (b0 :: suite) ts) (h : ts (D.gone n) (σ.set n (some (.ref ea))) H) :
    wpAny (model X.prog X.w) X.A (noteFrame (.ref ea) X.env) (fun _ s2 => wpAny (model X.prog X.w) X.A (setFlight (.ref ea) none) (fun _ s3 => wpAny (model X.prog X.w) X.A (handleBy (.ref ea) X.env [.ExceptHandler (some (.Name cx cp)) (some nm) (b0 :: suite) hpos]) (SP X pins D) X.xe s3) X.xe s2) X.xe s := by
  obtain ⟨o, vs, T, a1, a2, a3, a4, a5, a6⟩ := tb
  have frs' : X.A.frames = some (X.env :: X.outer) := by rw [← hst]; exact I.ok.frames
  have ff : s.heap.FunFrames X.base (X.env :: X.outer) := by rw [← hst]; exact I.stack
  refine leave_any (ok := fun b => b = T) frs' ff hfr a1 a2 (.inr ⟨T, a3, a4, rfl, a6⟩) fun h' l => ?_
  rw [← hst] at l
  have I2 := inv_left I hx a1 l (ch := [T]) (fun _ z => List.mem_singleton.mpr z) (fun b z => by rw [List.mem_singleton.mp z]; exact a5) rfl
  obtain ⟨o2, vs2, T2, c1, c2, c3, c4, c5, c6, c7⟩ := tb_left I a1 a2 (Array.getElem?_eq_some_iff.mp a3).1 l
  have c8 : TOk X pins H T2 := tok_new I c5 c6
  generalize hs3 : ({ s with heap := h' } : Shared) = s3 at I2
  have c1 : s3.heap.get? ea = some o2 := by rw [← hs3]; exact c1
  have c7 : TbIs s3.heap T2 := by rw [← hs3]; exact c7
  refine wpAny_handleBy_cons (codeAny_handlers_test (ld_glob (X := X.inX ea) (I2.inX ea) hg hmc ?_ hdb)) (by intro q; cases q)
  obtain ⟨ob, ws, t0, z, d1, d2, d3, d4, d5, d6, d7⟩ := xf_of I2.hok hx
  obtain ⟨hp, g, d, tk, os⟩ := s3
  refine x_match I2.kIn Xc d1 d2 Xd ?_
  rw [hm]
  refine codeAny_handlers_suite_as ?_
  refine fly_ok I2 c1 c2 c3 c8 c7 fun s5 I5 => ?_
  refine store_ok I5 hN hn hloc (v := .ref ea) rfl (fun s6 I6 => ?_) hf
  refine wpAny_mono (hs pins s6 _ H (D.gone n) (I6.inX ea) h) (fun f s7 q7 => ?_) fun _ _ z => z.elim
  have ok := I.ok
  cases f with
  | next => obtain ⟨σ', H', I', q⟩ := q7; exact gone_ok (I'.outX ok) hN hn hk fun s8 I8 => ⟨_, H', I8, q⟩
  | brk => obtain ⟨σ', H', I', q⟩ := q7; exact gone_ok (I'.outX ok) hN hn hk fun s8 I8 => ⟨_, H', I8, q⟩
  | cont => obtain ⟨σ', H', I', q⟩ := q7; exact gone_ok (I'.outX ok) hN hn hk fun s8 I8 => ⟨_, H', I8, q⟩
  | ret u => obtain ⟨v, σ', H', I', r, q⟩ := q7; exact gone_ok (I'.outX ok) hN hn hk fun s8 I8 => ⟨v, _, H', I8, r, q⟩
theorem handle_bare {C C' : Addr} {dx : Option Addr} {bm bm' : List Value} {cx : Str} {cp hpos : Pos} {b0 : Stmt} {suite : List Stmt} {ts : TS} {D : Ends} (hst : X.stack = X.env :: X.outer) (hfr : X.env.frame = some X.env.locals) (I : Inv X pins σ H s) (hx : H ea = some (XF ea C dx false)) (tb : MetAt X pins H ea s.heap)
    (Xc : XCls X.K C bm) (Xd : XCls X.K C' bm') (hm : (Value.ref C :: bm).contains (.ref C') = true) (hg : Gl X cx) (hmc : X.mg cx = some (.ref C')) (hdb : (cx == ("__debug__" : Str)) = false)
    (hs : PSs (X.inX ea) (b0 :: suite) ts) (h : ts D σ H) :
    wpAny (model X.prog X.w) X.A (noteFrame (.ref ea) X.env) (fun _ s2 => wpAny (model X.prog X.w) X.A (setFlight (.ref ea) none) (fun _ s3 => wpAny (model X.prog X.w) X.A (handleBy (.ref ea) X.env [.ExceptHandler (some (.Name cx cp)) none (b0 :: suite) hpos]) (SP X pins D) X.xe s3) X.xe s2) X.xe s := by
  obtain ⟨o, vs, T, a1, a2, a3, a4, a5, a6⟩ := tb
  have frs' : X.A.frames = some (X.env :: X.outer) := by rw [← hst]; exact I.ok.frames
  have ff : s.heap.FunFrames X.base (X.env :: X.outer) := by rw [← hst]; exact I.stack
  refine leave_any (ok := fun b => b = T) frs' ff hfr a1 a2 (.inr ⟨T, a3, a4, rfl, a6⟩) fun h' l => ?_
  rw [← hst] at l
  have I2 := inv_left I hx a1 l (ch := [T]) (fun _ z => List.mem_singleton.mpr z) (fun b z => by rw [List.mem_singleton.mp z]; exact a5) rfl
  obtain ⟨o2, vs2, T2, c1, c2, c3, c4, c5, c6, c7⟩ := tb_left I a1 a2 (Array.getElem?_eq_some_iff.mp a3).1 l
  have c8 : TOk X pins H T2 := tok_new I c5 c6
  generalize hs3 : ({ s with heap := h' } : Shared) = s3 at I2
  have c1 : s3.heap.get? ea = some o2 := by rw [← hs3]; exact c1
  have c7 : TbIs s3.heap T2 := by rw [← hs3]; exact c7
  refine wpAny_handleBy_cons (codeAny_handlers_test (ld_glob (X := X.inX ea) (I2.inX ea) hg hmc ?_ hdb)) (by intro q; cases q)
  obtain ⟨ob, ws, t0, z, d1, d2, d3, d4, d5, d6, d7⟩ := xf_of I2.hok hx
  obtain ⟨hp, g, d, tk, os⟩ := s3
  refine x_match I2.kIn Xc d1 d2 Xd ?_
  rw [hm]
  refine codeAny_handlers_suite ?_
  refine fly_ok I2 c1 c2 c3 c8 c7 fun s5 I5 => ?_
  refine wpAny_mono (hs pins s5 _ H D (I5.inX ea) h) (fun f s7 q7 => ?_) fun _ _ z => z.elim
  exact q7.outX I.ok
end
section
variable {X : Cx} {k : Nat} {f C' : Addr} {fd : FuncData} {ps : List Str} {sp : Sp} {dvs : List V} {ds : List Value} {x y nm cx : Str} {p pos apos cp hpos py tpos : Pos} {e : Expr} {es : List Expr} {t : TA} {bm' : List Value} {b0 : Stmt} {suite : List Stmt} {ts : TS} {i n : Nat}
noncomputable def tTry (K : Frag) (C' : Addr) (sp : Sp) (dvs : List V) (t : TA) (ok : Ends → St → V → Hp → Prop) (hd : Ends → St → Addr → Hp → Prop) : TS := fun D σ H => t σ H fun vs H1 => sp (vs ++ dvs) H1 (fun v H2 => ok D σ v H2) (fun c eo H2 => ∀ ea, eo = some ea → ∃ C dx bm, c = .ref C ∧ H2 ea = some (XF ea C dx false) ∧ XCls K C bm ∧ (Value.ref C :: bm).contains (.ref C') = true ∧ hd D σ ea H2)
theorem try_call {pins : List (Addr × Obj)} {s : Shared} {σ : St} {H : Hp} {D : Ends} {ok : Ends → St → V → Hp → Prop} {hd : Ends → St → Addr → Hp → Prop} {Eh : Value → Shared → Prop} (F : FnOk X.prog X.w X.K X.mg X.base (CXo X.prog X.w) k f fd ps sp) (hr : Room k X.A) (hg : Gl X x) (hm : X.mg x = some (.ref f)) (hk : keepIn X.K (.ref f) = true) (hb : Binds X.K fd ps ds) (hvd : Vals dvs ds) (ha : PA X.nox (e :: es) t)
    (hE : ∀ ea C dx bm H' s', Inv X pins σ H' s' → H' ea = some (XF ea C dx false) → MetAt X pins H' ea s'.heap → XCls X.K C bm → (Value.ref C :: bm).contains (.ref C') = true → hd D σ ea H' → Eh (.ref ea) s')
    (I : Inv X pins σ H s) (h : tTry X.K C' sp dvs t ok hd D σ H) (hdb : (x == ("__debug__" : Str)) = false) (he : starEach (e :: es) X.env = (false, eval e X.env) :: starEach es X.env) (hpl : (backTo pos (starEach es X.env)).any (·.1) = false) :
    wpAny (model X.prog X.w) X.A (eval (.Call (.Name x p) (e :: es) [] pos) X.env) (EP X pins σ (ok D σ)) Eh s := by
  refine wpAny_Call_Name_kw (ld_glob I hg hm ?_ hdb)
  refine PySem.W.callWith_K (h₀ := X.base) I.ok.mod.kin hk (wpAny_mono (ha pos pins s σ H _ (I.wish _) h) (fun us s1 ⟨vs, H1, I1, r, q⟩ => ⟨I1.kIn, ?_⟩) fun _ _ z => z.elim) he hpl
  have I1 := I1.unwish
  have r2 : Vals (vs ++ dvs) (us ++ ds) := r.append hvd
  have hl : (us ++ ds).length = ps.length := by rw [← r2.length]; exact F.len _ _ _ _ q
  refine wpAny_call (codeAny_mono (F.run X.A X.stack s1 H1 ⟨us, []⟩ (us ++ ds) (vs ++ dvs) _ _ hr I1.env0 (hb s1 us I1.kIn hl) r2 q) fun r s' hq => ?_)
  cases r with
  | error e =>
    obtain ⟨ea, C, dx, H', rfl, hx, os, bare, un, hok, tb, hu⟩ := hq
    have I2 := I1.call' (ch := []) os un hok bare (fun _ z => absurd z List.not_mem_nil)
    obtain ⟨o, vs', T, b1, b2, b3, b4, b5, b6, b7⟩ := tb
    obtain ⟨C2, dx2, bm, e1, e2, e3, e4, e5⟩ := hu ea rfl
    exact hE ea C2 dx2 bm H' s' I2 e2 ⟨o, vs', T, b1, b2, b3, b4, tok_new I1 b5 b6, b7⟩ e3 e4 e5
  | ok fl =>
    cases fl with
    | ret u => exact I1.after hq
    | next => exact False.elim hq
    | brk => exact False.elim hq
    | cont => exact False.elim hq
theorem try_set {pins : List (Addr × Obj)} {s : Shared} {σ : St} {D : Ends} {Eh : Value → Shared → Prop} (hN : X.N.Nodup) (hi : X.N[i]? = some y) (hy : Loc X.env.scope y) (hf : X.fn y = true ∨ X.env.scope.names.lookup y = some .local) (hs : swapsWith e (some (.Name y py)) pos.line X.env = pure false)
    (h : wpAny (model X.prog X.w) X.A (eval e X.env) (EP X pins σ fun v H2 => D.nx (σ.set i (some v)) H2) Eh s) :
    wpAny (model X.prog X.w) X.A (execs [.Assign [.Name y py] e pos] X.env) (fun f s1 => match f with | .next => wpAny (model X.prog X.w) X.A (execs [] X.env) (SP X pins D) X.xe s1 | f => SP X pins D f s1) Eh s := by
  refine wpAny_execs_cons (wpAny_Assign_Name (thn h fun v s1 ⟨z, H1, I1, r1, q1⟩ => ?_) hs)
  exact store_ok I1 hN hi hy r1 (fun s2 I2 => wpAny_execs_nil (wpAny_execs_nil ⟨_, H1, I2, q1⟩)) hf
theorem ps_tryset (hst : X.stack = X.env :: X.outer) (hfr : X.env.frame = some X.env.locals) (F : FnOk X.prog X.w X.K X.mg X.base (CXo X.prog X.w) k f fd ps sp) (hr : Room k X.A) (hg : Gl X x) (hm : X.mg x = some (.ref f)) (hk : keepIn X.K (.ref f) = true) (hb : Binds X.K fd ps ds) (hvd : Vals dvs ds) (ha : PA X.nox (e :: es) t)
    (hN : X.N.Nodup) (hi : X.N[i]? = some y) (hy : Loc X.env.scope y) (hgc : Gl X cx) (hmc : X.mg cx = some (.ref C')) (Xd : XCls X.K C' bm') (hs : ∀ ea, PSs (X.inX ea) (b0 :: suite) ts)
    (hf : X.fn y = true ∨ X.env.scope.names.lookup y = some .local := by first | exact .inl rfl | exact .inr rfl) (hsw : swapsWith (.Call (.Name x p) (e :: es) [] pos) (some (.Name y py)) apos.line X.env = pure false := by rfl) (hdb : (x == ("__debug__" : Str)) = false := by decide) (hdc : (cx == ("__debug__" : Str)) = false := by decide)
    (he : starEach (e :: es) X.env = (false, eval e X.env) :: starEach es X.env := by rfl) (hpl : (backTo pos (starEach es X.env)).any (·.1) = false := by rfl) :
    PS X (.Try [.Assign [.Name y py] (.Call (.Name x p) (e :: es) [] pos) apos] [.ExceptHandler (some (.Name cx cp)) none (b0 :: suite) hpos] [] [] tpos) (tTry X.K C' sp dvs t (fun D σ v H2 => D.nx (σ.set i (some v)) H2) (fun D σ ea H2 => ts D σ H2)) := by
  intro pins s σ H D I h
  refine wpAny_Try_except (try_set hN hi hy hf hsw (try_call (D := D) F hr hg hm hk hb hvd ha (fun ea C dx bm H' s' I' hx tb Xc hc hh => ?_) I h hdb he hpl))
  exact handle_bare hst hfr I' hx tb Xc Xd hc hgc hmc hdc (hs ea) hh
theorem try_drop {pins : List (Addr × Obj)} {s : Shared} {σ : St} {H : Hp} {D : Ends} {Eh : Value → Shared → Prop} (hs : swapsWith e none pos.line X.env = pure false)
    (h : wpAny (model X.prog X.w) X.A (eval e X.env) (EP X pins σ fun v H2 => D.nx σ H2) Eh s) (I : Inv X pins σ H s) :
    wpAny (model X.prog X.w) X.A (execs [.Expr e pos] X.env) (fun f s1 => match f with | .next => wpAny (model X.prog X.w) X.A (execs [] X.env) (SP X pins D) X.xe s1 | f => SP X pins D f s1) Eh s := by
  refine wpAny_execs_cons (wpAny_Expr_any (thn h fun v s1 ⟨z, H1, I1, r1, q1⟩ => wpAny_execs_nil (wpAny_execs_nil ⟨_, H1, I1, q1⟩)) ?_ hs)
  have := I.ok.kind
  simp [interactive, this]
theorem ps_trydo_as (hst : X.stack = X.env :: X.outer) (hfr : X.env.frame = some X.env.locals) (F : FnOk X.prog X.w X.K X.mg X.base (CXo X.prog X.w) k f fd ps sp) (hr : Room k X.A) (hg : Gl X x) (hm : X.mg x = some (.ref f)) (hk : keepIn X.K (.ref f) = true) (hb : Binds X.K fd ps ds) (hvd : Vals dvs ds) (ha : PA X.nox (e :: es) t)
    (hN : X.N.Nodup) (hgc : Gl X cx) (hmc : X.mg cx = some (.ref C')) (Xd : XCls X.K C' bm') (hn : X.N[n]? = some nm) (hkn : X.env.kindOf nm = some .local) (hlo : Loc X.env.scope nm) (hs : ∀ ea, PSs (X.inX ea) (b0 :: suite) ts)
    (hfn : X.fn nm = true ∨ X.env.scope.names.lookup nm = some .local := by first | exact .inl rfl | exact .inr rfl) (hsw : swapsWith (.Call (.Name x p) (e :: es) [] pos) none apos.line X.env = pure false := by rfl) (hdb : (x == ("__debug__" : Str)) = false := by decide) (hdc : (cx == ("__debug__" : Str)) = false := by decide)
    (he : starEach (e :: es) X.env = (false, eval e X.env) :: starEach es X.env := by rfl) (hpl : (backTo pos (starEach es X.env)).any (·.1) = false := by rfl) :
    PS X (.Try [.Expr (.Call (.Name x p) (e :: es) [] pos) apos] [.ExceptHandler (some (.Name cx cp)) (some nm) (b0 :: suite) hpos] [] [] tpos) (tTry X.K C' sp dvs t (fun D σ v H2 => D.nx σ H2) (fun D σ ea H2 => ts (D.gone n) (σ.set n (some (.ref ea))) H2)) := by
  intro pins s σ H D I h
  refine wpAny_Try_except (try_drop hsw (try_call (D := D) F hr hg hm hk hb hvd ha (fun ea C dx bm H' s' I' hx tb Xc hc hh => ?_) I h hdb he hpl) I)
  exact handle_as hst hfr I' hx tb Xc Xd hc hgc hmc hdc hN hn hkn hlo hfn (hs ea) hh
end
end L2
set_option Elab.async false
set_option linter.all false
set_option maxRecDepth 100000
set_option maxHeartbeats 4000000
namespace L2
open PySem PySem.Spec PyProof.Rows PySem.W
structure FunD (K : Frag) (x qual : Str) (st : Stmt) (f : Addr) (fd : FuncData) (dV : Value) : Prop where
  ex : ∃ (oc : Value) (od : Option Addr) (kV doc pm : Value) (an : Option Addr) (cdv ct : Value) (osl : Array (Option Value)),
    fd = fnOf x qual (defArgs st) (defBody st) (defScope st) dV kV doc pm an cdv ct ∧ K.lookup f = some ⟨oc, od, .func fd, osl⟩ ∧ codeIn K cdv qual = true
  kp : keepIn K (.ref f) = true
section
variable {P : Program} {w : World} {K : Frag} {mg : Str → Option Value} {base : Heap}
theorem FunD.ok {dV : Value} {x qual : Str} {st : Stmt} {f : Addr} {fd : FuncData} {N ps : List Str} {k : Nat} {sp : Sp} (F : FunD K x qual st f fd dV) (S : FnScope N ps (defScope st)) (len : ∀ vs H Q E, sp vs H Q E → vs.length = ps.length)
    (hbody : ∀ (cdv : Value) (A : Around) (outer : List Env) (s : Shared) (H : Hp) (vs : List V) (Q : VK) (E : XK), Room k (A.deeper (envOfC qual (defScope st) s.heap.objs.size f cdv)) → sp vs H Q E →
      ∃ t, PSs (cxOf CX0 P w K mg base N qual (defScope st) f cdv A outer s H E).nox (defBody st) t ∧ t { nx := fun _ H' => Q .non H', rt := Q } (start N vs) H) : FnOk P w K mg base CX0 (k + 1) f fd ps sp := by
  obtain ⟨oc, od, kV, doc, pm, an, cdv, ct, osl, rfl, lk, hcd⟩ := F.ex
  refine fn_of lk hcd S len fun A outer s H vs Q E hr hsp => ?_
  obtain ⟨t, h, q⟩ := hbody cdv A outer s H vs Q E hr hsp
  exact ⟨t, h.nox, q⟩
theorem funD_mk {dV : Value} {x qual : Str} {st : Stmt} {f : Addr} {oc : Value} {od an : Option Addr} {osl : Array (Option Value)} {kV doc pm cdv ct : Value} (l : K.lookup f = some ⟨oc, od, .func (fnOf x qual (defArgs st) (defBody st) (defScope st) dV kV doc pm an cdv ct), osl⟩)
    (c : codeIn K cdv qual = true) (k : keepIn K (.ref f) = true) : FunD K x qual st f (fnOf x qual (defArgs st) (defBody st) (defScope st) dV kV doc pm an cdv ct) dV := ⟨⟨oc, od, kV, doc, pm, an, cdv, ct, osl, rfl, l, c⟩, k⟩
end
end L2
set_option Elab.async false
set_option linter.all false
set_option maxRecDepth 100000
set_option maxHeartbeats 4000000
namespace L2
open PySem PySem.Spec PyProof.Rows PySem.W
section
variable {X : Cx}
theorem ke_xget {e : Expr} {f : Str} {pos : Pos} {ta : TE} (K : Frag) (h : X.K = K) (he : PE X e ta) (hb : attributeBase e f X.env (eval e X.env) = eval e X.env := by rfl) : PE X (.Attribute e f pos) (tXGet K ta f) := h ▸ pe_xget he hb
theorem ko_ninV (K : Frag) (h : X.K = K) : OpR X (compareOp .NotIn) (rIn K true) := h ▸ op_notIn_seq
end
theorem inV_strs (x : Str) : ∀ xs : List Str, inV (.str x) (xs.map V.str) = decide (x ∈ xs)
  | [] => by simp [inV]
  | y :: r => by
    have ih := inV_strs x r
    unfold inV at ih ⊢
    rw [List.map_cons, List.any_cons, ih]
    by_cases h : y = x
    · subst h; simp [eqV]
    · have h2 : x ≠ y := fun z => h z.symm
      simp [eqV, h, h2]
section
variable {K : Frag} {σ : St} {H : Hp} {Q : VK} {D : Ends} {t : TA} {te ta tv : TE} {f : Str} {sp : Sp} {dvs : List V} {E EX : XK} {C C' : Addr}
theorem tRaise_i (k : te σ H fun v H1 => ∃ e C dx bm, v = .ref e ∧ XCls K C bm ∧ H1 e = some (XF e C dx true) ∧ EX (.ref C) (some e) (upd H1 e (XF e C dx false))) : tRaise EX K te D σ H := k
theorem tXMake_i (k : t σ H fun vs H1 => vs.length ≤ 1000 ∧ ∀ e, H1 e = none → sp (.ref e :: (vs ++ dvs)) (upd H1 e (XF e C none true)) (fun v H2 => v = .non ∧ Q (.ref e) H2) E) : tXMake C sp dvs E t σ H Q := k
theorem tTry_i {ok : Ends → St → V → Hp → Prop} {hd : Ends → St → Addr → Hp → Prop} (k : t σ H fun vs H1 => sp (vs ++ dvs) H1 (fun v H2 => ok D σ v H2) (fun c eo H2 => ∀ ea, eo = some ea → ∃ C dx bm, c = .ref C ∧ H2 ea = some (XF ea C dx false) ∧ XCls K C bm ∧ (Value.ref C :: bm).contains (.ref C') = true ∧ hd D σ ea H2)) : tTry K C' sp dvs t ok hd D σ H := k
theorem tXGet_i (k : ta σ H fun x H1 => ∃ e C bm dx fs fr v, x = .ref e ∧ H1 e = some (XF e C (some dx) fr) ∧ XCls K C bm ∧ XAttr K C ∧ NoAttr K C f ∧ H1 dx = some (.xd fs) ∧ fs.lookup f = some v ∧ Q v H1) : tXGet K ta f σ H Q := k
theorem tBInit_i (k : t σ H fun vs H2 => ∃ e C dx fr bm y, vs = [.ref e, y] ∧ H2 e = some (XF e C dx fr) ∧ XCls K C bm ∧ Q .non H2) : tBInit K t σ H Q := k
theorem tXSet_i (k : tv σ H fun y H1 => ta σ H1 fun x H2 => ∃ e C bm fr, x = .ref e ∧ XCls K C bm ∧ XUp bm ∧ XAttr K C ∧ NoAttr K C f ∧
  ((H2 e = some (XF e C none fr) ∧ ∀ dx, H2 dx = none → dx ≠ e → D.nx σ (upd (upd H2 dx (.xd [(f, y)])) e (XF e C (some dx) fr))) ∨ (∃ dx fs, H2 e = some (XF e C (some dx) fr) ∧ H2 dx = some (.xd fs) ∧ fs.length ≤ 900 ∧ D.nx σ (upd H2 dx (.xd (putF f y fs)))))) : tXSet K ta tv f D σ H := k
end
noncomputable def rowS : Str := Str.ofString "row"
structure Born (H H' : Hp) (e C : Addr) (fr : Bool) (fs : List (Str × V)) : Prop where
  ex : ∃ dx, H dx = none ∧ dx ≠ e ∧ H' e = some (XF e C (some dx) fr) ∧ H' dx = some (.xd fs)
  keep : ∀ b, b ≠ e → ∀ o, H b = some o → H' b = some o
noncomputable def IsX (H : Hp) (ea C : Addr) (fs : List (Str × V)) : Prop := ∃ dx, H ea = some (XF ea C (some dx) false) ∧ H dx = some (.xd fs)
theorem IsX.mono {H H' : Hp} {ea C : Addr} {fs : List (Str × V)} (h : IsX H ea C fs) (s : Same H H') : IsX H' ea C fs := by
  obtain ⟨dx, a, b⟩ := h
  exact ⟨dx, s _ _ a, s _ _ b⟩
noncomputable abbrev sp_TrailError_init (K : Frag) : Sp := fun vs H Q _ => match vs with
  | [.ref e, v, .int r] => ∃ C bm fr, XCls K C bm ∧ XUp bm ∧ XAttr K C ∧ NoAttr K C rowS ∧ H e = some (XF e C none fr) ∧ ∀ H', Born H H' e C fr [(rowS, .int r)] → Q .non H'
  | _ => False
theorem born_raise {H H1 H2 : Hp} {e C : Addr} {fs : List (Str × V)} (hn : H e = none) (s : Same H H1) (h1 : H1 e = none) (b : Born (upd H1 e (XF e C none true)) H2 e C true fs) : ∃ dx, H2 e = some (XF e C dx true) ∧ IsX (upd H2 e (XF e C dx false)) e C fs ∧ Same H (upd H2 e (XF e C dx false)) := by
  obtain ⟨⟨dx, a1, a2, a3, a4⟩, k⟩ := b
  refine ⟨some dx, a3, ⟨dx, upd_same, by rw [upd_ne a2]; exact a4⟩, fun c o hc => ?_⟩
  have hce : c ≠ e := fun z => by rw [z, hn] at hc; cases hc
  rw [upd_ne hce]
  exact k c hce o (by rw [upd_ne hce]; exact s c o hc)
end L2
set_option Elab.async false
set_option linter.all false
set_option maxRecDepth 100000
set_option maxHeartbeats 4000000
namespace L2
open PySem PySem.Spec PyProof.Rows PySem.W
structure RoomN (k : Nat) (A : Around) : Prop where
  dp : A.depth + 3 * k + 5 < recursionLimit
  un : A.units + 16 * k + 200 < cLine
theorem RoomN.mono {j k : Nat} {A : Around} (r : RoomN k A) (h : j ≤ k) : RoomN j A := ⟨by have := r.dp; omega, by have := r.un; omega⟩
theorem RoomN.deeper {k : Nat} {A : Around} (r : RoomN (k + 1) A) (env : Env) : RoomN k (A.deeper env) :=
  ⟨by have := r.dp; show A.depth + 1 + 3 * k + 5 < _; omega, by have := r.un; show A.units + 3 + 16 * k + 200 < _; omega⟩
theorem RoomN.depth {k : Nat} {A : Around} (r : RoomN k A) : A.depth < recursionLimit := by have := r.dp; omega
theorem Room.marked {k : Nat} {A : Around} (r : Room k A) (v : Option Value) : RoomN k (A.mark v) := ⟨r.dp, r.un⟩
theorem RoomN.of {k : Nat} {A : Around} (r : Room k A) : RoomN k A := ⟨r.dp, r.un⟩
structure FnOkN (P : Program) (w : World) (K : Frag) (mg : Str → Option Value) (base : Heap) (k : Nat) (f : Addr) (fd : FuncData) (ps : List Str) (sp : Sp) : Prop where
  len : ∀ vs H Q E, sp vs H Q E → vs.length = ps.length
  run : ∀ (A : Around) (outer : List Env) (s : Shared) (H : Hp) (args : Args) (us : List Value) (vs : List V) (Q : VK) (E : XK), RoomN k A → Env0 P w K mg base A outer s H → BindsTo s fd args (ps.zip us) → Vals vs us → sp vs H Q E →
    codeAny (model P w) A (.call (.ref f) args) (CR CX0 outer P w H s Q E) s
theorem FnOkN.fn {P : Program} {w : World} {K : Frag} {mg : Str → Option Value} {base : Heap} {k : Nat} {f : Addr} {fd : FuncData} {ps : List Str} {sp : Sp} (F : FnOkN P w K mg base k f fd ps sp) : FnOk P w K mg base CX0 k f fd ps sp :=
  ⟨F.len, fun A outer s H args us vs Q E hr => F.run A outer s H args us vs Q E (.of hr)⟩
noncomputable def cxN (P : Program) (w : World) (K : Frag) (mg : Str → Option Value) (base : Heap) (N : List Str) (qual : Str) (scope : Scope) (f : Addr) (cd : Value) (A : Around) (outer : List Env) (s : Shared) (H : Hp) (E : XK) : Cx :=
  { cxOf CX0 P w K mg base N qual scope f cd A outer s H E with calm := false, xe := fun _ _ => False }
section
variable {P : Program} {w : World} {K : Frag} {mg : Str → Option Value} {base : Heap} {N ps : List Str} {qual : Str} {scope : Scope} {f : Addr} {cd : Value} {A : Around} {outer : List Env} {s s1 : Shared} {H : Hp} {E : XK} {us : List Value} {vs : List V}
theorem inv_startN (S : FnScope N ps scope) (e0 : Env0 P w K mg base A outer s H) (hl : vs.length = ps.length) (r : Vals vs us)
    (x : InCallC s s.heap.objs.size (bindL (envOfC qual scope s.heap.objs.size f cd).kindOf (ps.zip us) fun _ => none) (cellsFrom (s.heap.objs.size + 1) scope.names []) (bindC (envOfC qual scope s.heap.objs.size f cd).kindOf (ps.zip us) fun _ => none) s1) :
    Inv (cxN P w K mg base N qual scope f cd A outer s H E) [] (start N vs) H s1 := by
  have e1 : Env0 P w K mg base { A with handled := none } outer s H := ⟨e0.frames, e0.mod, e0.bs, e0.bsz, e0.funs, e0.frf, e0.hok, e0.bare⟩
  have I := inv_start (CX := CX0) (E := E) S rfl e1 hl r x
  exact ⟨⟨I.ok.mod, I.ok.kind, I.ok.glob, I.ok.blt, I.ok.above, I.ok.inj, I.ok.has, I.ok.cab, (fun z => by cases z), Around.frames_deeper e0.frames, I.ok.stk, I.ok.exf, I.ok.bs, I.ok.bsz, I.ok.noex, I.ok.exfs, I.ok.funs, I.ok.frf⟩, I.os, I.bare, I.base, I.loc, I.cell, I.free, I.freeC, I.pin, I.hok, I.len⟩
end
theorem fn_ofN {P : Program} {w : World} {K : PySem.W.Frag} {mg : Str → Option Value} {base : Heap} {k : Nat} {f : Addr} {name qual : Str} {params : Arguments} {body : List Stmt} {scope : Scope} {dV kV doc pm cdv ct oc : Value} {an od : Option Addr}
    {osl : Array (Option Value)} {N ps : List Str} {sp : Sp} (lk : K.lookup f = some ⟨oc, od, .func (PySem.W.fnOf name qual params body scope dV kV doc pm an cdv ct), osl⟩) (hcd : PySem.W.codeIn K cdv qual = true) (S : FnScope N ps scope)
    (len : ∀ vs H Q E, sp vs H Q E → vs.length = ps.length)
    (hbody : ∀ (A : Around) (outer : List Env) (s : Shared) (H : Hp) (vs : List V) (Q : VK) (E : XK), RoomN k (A.deeper (envOfC qual scope s.heap.objs.size f cdv)) → sp vs H Q E →
      ∃ t, PSs (cxN P w K mg base N qual scope f cdv A outer s H E) body t ∧ t { nx := fun _ H' => Q .non H', rt := Q } (start N vs) H) :
    FnOkN P w K mg base (k + 1) f (PySem.W.fnOf name qual params body scope dV kV doc pm an cdv ct) ps sp := by
  refine ⟨len, fun A outer s H args us vs Q E hr e0 hb r hsp => ?_⟩
  have hl := len _ _ _ _ hsp
  have KX : K.In s.heap := e0.mod.kin.keeps fun b o e => (e0.bs b o e).1
  have lim : s.heap.NoLimit := e0.mod.nolimit.keeps fun b o e => (e0.bs b o e).1
  have hkind : ∀ y ∈ ps.zip us, scope.names.lookup y.1 = some .local ∨ (scope.names.lookup y.1 = some .cell ∧ ((cellsFrom (s.heap.objs.size + 1) scope.names []).lookup y.1).isSome = true) := fun ⟨n, v⟩ hy => by
    rcases S.par n (List.of_mem_zip hy).1 with q | q
    · exact .inl q
    · exact .inr ⟨q, PySem.W.cellsFrom_some _ _ _ (.inl q)⟩
  refine codeAny_call_function hr.depth (KX _ _ lk) rfl S.co S.gen rfl (PySem.W.codeRec_of KX hcd) (hb _ _ _ _ ?_)
  refine wpAny_newFunctionEnv_cells S.kind hkind fun env he s1 x => ?_
  subst he
  refine ⟨lim.keeps x.toInCall.keep, codeAny_func ?_⟩
  obtain ⟨t, ht, hq⟩ := hbody A outer s H vs Q E (hr.deeper _) hsp
  have I : Inv (cxN P w K mg base N qual scope f cdv A outer s H E) [] (start N vs) H s1 := inv_startN S e0 hl r x
  refine wpAny_mono (ht [] s1 (start N vs) H _ I hq) (fun fl s' hs => ?_) fun e s' hs => hs.elim
  have fin : ∀ {σ' : St} {H' : Hp} {v : V} {u : Value}, Inv (cxN P w K mg base N qual scope f cdv A outer s H E) [] σ' H' s' → RelV v u → Q v H' → CE outer P w H s Q u s' :=
    fun {σ' H' v u} J rv q => ⟨v, H', J.os, J.bare, J.base, J.hok, rv, q⟩
  cases fl with
  | ret u =>
    obtain ⟨v, σ', H', J, rv, q⟩ := hs
    exact fin J rv q
  | next =>
    obtain ⟨σ', H', J, q⟩ := hs
    exact fin (v := V.non) (u := Value.none) J rfl q
  | brk =>
    obtain ⟨_, _, _, q⟩ := hs
    exact False.elim q
  | cont =>
    obtain ⟨_, _, _, q⟩ := hs
    exact False.elim q
theorem Fun.okN {P : Program} {w : World} {K : Frag} {mg : Str → Option Value} {base : Heap} {x qual : Str} {st : Stmt} {f : Addr} {fd : FuncData} {N ps : List Str} {k : Nat} {sp : Sp} (F : Fun K x qual st f fd) (S : FnScope N ps (defScope st)) (len : ∀ vs H Q E, sp vs H Q E → vs.length = ps.length)
    (hbody : ∀ (cdv : Value) (A : Around) (outer : List Env) (s : Shared) (H : Hp) (vs : List V) (Q : VK) (E : XK), RoomN k (A.deeper (envOfC qual (defScope st) s.heap.objs.size f cdv)) → sp vs H Q E →
      ∃ t, PSs (cxN P w K mg base N qual (defScope st) f cdv A outer s H E) (defBody st) t ∧ t { nx := fun _ H' => Q .non H', rt := Q } (start N vs) H) : FnOkN P w K mg base (k + 1) f fd ps sp := by
  obtain ⟨oc, od, kV, doc, pm, an, cdv, ct, osl, rfl, lk, hcd⟩ := F.ex
  exact fn_ofN lk hcd S len fun A outer s H vs Q E hr hsp => hbody cdv A outer s H vs Q E hr hsp
section
variable {X : Cx} {k : Nat} {f : Addr} {fd : FuncData} {ps : List Str} {sp : Sp} {dvs : List V} {ds : List Value} {x : Str} {p pos : Pos} {e : Expr} {es : List Expr} {t : TA}
theorem run_fnN {pins : List (Addr × Obj)} {σ : St} {H : Hp} {s : Shared} {Q : VK} {us : List Value} {vs : List V} (F : FnOkN X.prog X.w X.K X.mg X.base k f fd ps sp) (hr : RoomN k X.A) (hb : Binds X.K fd ps ds) (hd : Vals dvs ds)
    (I : Inv X pins σ H s) (r : Vals vs us) (h : sp (vs ++ dvs) H Q E0) : wpAny (model X.prog X.w) X.A (call (.ref f) us) (EP X pins σ Q) X.xe s := by
  have r2 : Vals (vs ++ dvs) (us ++ ds) := r.append hd
  have hl : (us ++ ds).length = ps.length := by rw [← r2.length]; exact F.len _ _ _ _ h
  refine wpAny_call (codeAny_mono (F.run X.A X.stack s H ⟨us, []⟩ (us ++ ds) (vs ++ dvs) Q E0 hr I.env0 (hb s us I.kIn hl) r2 h) fun r s' hq => ?_)
  cases r with
  | error e => exact (show False from hq).elim
  | ok fl =>
    cases fl with
    | ret u => exact I.after hq
    | next => exact False.elim hq
    | brk => exact False.elim hq
    | cont => exact False.elim hq
theorem pe_callN (F : FnOkN X.prog X.w X.K X.mg X.base k f fd ps sp) (hr : RoomN k X.A) (hg : Gl X x) (hm : X.mg x = some (.ref f)) (hk : PySem.W.keepIn X.K (.ref f) = true) (hb : Binds X.K fd ps ds) (hd : Vals dvs ds)
    (ha : PA X (e :: es) t) (hdb : (x == ("__debug__" : Str)) = false := by decide) (he : starEach (e :: es) X.env = (false, eval e X.env) :: starEach es X.env := by rfl) (hpl : (backTo pos (starEach es X.env)).any (·.1) = false := by rfl) :
    PE X (.Call (.Name x p) (e :: es) [] pos) (tCall sp dvs E0 t) := by
  intro pins s σ H Q I h
  refine wpAny_Call_Name_kw (ld_glob I hg hm ?_ hdb)
  refine PySem.W.callWith_K (h₀ := X.base) I.ok.mod.kin hk (thn (ha pos pins s σ H _ I h) fun us s1 ⟨vs, H1, I1, r, q⟩ => ⟨I1.kIn, ?_⟩) he hpl
  exact run_fnN F hr hb hd I1 r q
end
structure XIs (K : Frag) (C : Addr) : Prop where
  ha : findIn K (.ref C) "__class__" = some (some (.builtin "object.__class__"))
  hn : specialIn K (.builtin "object.__class__") "__get__" = some (some (.builtin "getset_descriptor.__get__"))
  htk : takesIn K (.builtin "object.__class__") = some true
  hm : mroIn K C (.type "object") = some true
section
variable {prog : Program} {w : World} {A : Around} {E : Value → Shared → Prop} {s : Shared} {K : Frag} {C e : Addr} {bm : List Value} {ox od : Obj}
theorem x_class {Q : Option Value → Shared → Prop} (KX : K.In s.heap) (X : XCls K C bm) (XA : XAttr K C) (Z : XIs K C) (J : InstAt s.heap e ox C (some od)) (hq : Q (some (.ref C)) { s with toks := s.toks + 1 }) :
    wpAny (model prog w) A (getAttr? (.ref e) "__class__") Q E s := by
  obtain ⟨h, g, d, t, os⟩ := s
  obtain ⟨oxc, oxd, oxt, oxs⟩ := ox
  have hoc0 : oxc = .ref C := J.cls
  subst hoc0
  have KX : K.In h := KX
  have J : InstAt h e ⟨.ref C, oxd, oxt, oxs⟩ C (some od) := J
  obtain ⟨nm, q, N, bs, sn, sub, ab, col, dd, k0, k1, k2, k3, k5, hC'⟩ := X.obj
  have hC := KX _ _ hC'
  have cB : (Value.ref C :: bm).contains (.type "BaseException") = true := by rw [List.contains_cons, X.hasB, Bool.or_true]
  have FB := PySem.F.excAttr_ValueError
  have he : h.get? e = some ⟨.ref C, oxd, oxt, oxs⟩ := J.at_
  have ga := XA.ga
  have gx := XA.gx
  have f3 := FB.ga.bind (.ref e)
  have hx0 : (false && onTheHeap (Value.builtin "BaseException.__getattribute__")) = false := rfl
  have hx2 : (Value.builtin "BaseException.__getattribute__" == Value.builtin "object.__getattribute__") = false := by decide +kernel
  have hx1 : (onTheHeap (Value.ref C) && Value.builtin "BaseException.__getattribute__" == Value.builtin "object.__getattribute__") = false := by rw [hx2]; rfl
  have L0 := J.type (M := model prog w)
  have hcs : (clsIn K C).isSome = true := by unfold clsIn; rw [show List.lookup C K = _ from hC']; rfl
  have L1 := looks_find (M := model prog w) KX J (findObj_data hcs Z.ha Z.hn Z.htk)
  unfold getAttr? getAttrBy? getAttrBy
  repeat (any_goals (first | assumption | with_reducible refine wpAny_loadPart_at he ?_ | with_reducible refine (looks_findIn KX ga).here ?_ | with_reducible refine (looks_findIn KX gx).here ?_ | wp_step | dsimp only))
  have hk : builtinKind "BaseException.__getattribute__" = some .slot := by decide +kernel
  have hsp : splitId "BaseException.__getattribute__" = some ("BaseException", "__getattribute__") := by decide +kernel
  have hargs := PySem.F.args_bexc_ga (.ref e) (.str "__class__" t)
  have ck : ∀ (Q' : Unit → Shared → Prop) (u : Nat), Q' () ⟨h, g, d, u, os⟩ → ∀ A' E', wpAny (model prog w) A' (checkBuiltinCall "BaseException.__getattribute__" ⟨[.ref e, .str "__class__" t], []⟩) Q' E' ⟨h, g, d, u, os⟩ := by
    intro Q' u hq' A' E'
    simp only [checkBuiltinCall, hk, hsp]
    refine wpAny_bind ?_
    unfold isInstance
    repeat (first | with_reducible refine wpAny_loadPart_at he ?_ | (with_reducible refine wpAny_isSubtype_exc hC ?_; rw [cB]) | wp_step)
    exact hq'
  refine codeAny_call_builtin FB.ga.plain PySem.F.entry_bexc_ga (ck _ _ ?_ _ _)
  unfold Builtin.«object.__getattribute__»
  refine wpAny_bind (wpAny_of_eq (a := (Value.ref e, [Value.str "__class__" t])) rfl ?_)
  refine wpAny_bind (wpAny_pure (wpAny_bind (L0.at (wpAny_bind (L1.at ?_)))))
  show wpAny _ _ (holding [Value.builtin "object.__class__"] (call (.builtin "getset_descriptor.__get__") [.builtin "object.__class__", .ref e, .ref C]) >>= ret) _ _ _
  refine wpAny_bind (wpAny_holding (wpAny_call (class_get (od := some od) KX J Z.hm ?_)))
  refine wpAny_pure ?_
  exact handed_on rfl (wpAny_pure hq)
theorem kitx_x (X : XCls K C bm) (XA : XAttr K C) (Z : XIs K C) : KitX K (.ref e) (.ref C) (fun h => ∃ ox od, InstAt h e ox C (some od)) where
  ty := fun _ _ _ I => by obtain ⟨ox, od, I⟩ := I; exact I.type
  it := fun _ _ KX _ => by
    obtain ⟨nm, q, N, bs, sn, sub, ab, col, dd, k0, k1, k2, k3, k5, hC'⟩ := X.obj
    intro A' Q' E' s' k q
    unfold isType loadHead
    exact wpAny_bind (wpAny_loadPart (k _ _ (KX _ _ hC')) (wpAny_pure q))
  ne := fun h tp dd its n sl KX htp => by
    obtain ⟨nm, q, N, bs, sn, sub, ab, col, dd, k0, k1, k2, k3, k5, hC'⟩ := X.obj
    refine Bool.eq_false_iff.mpr fun q => ?_
    have e : C = tp := Value.ref.inj (beq_iff_eq.mp q)
    subst e
    have z := (KX _ _ hC').symm.trans htp
    exact nomatch (show Data.cls _ = Data.seq its.toArray n from congrArg Obj.data (Option.some.inj z))
  ca := fun KX I k => by obtain ⟨ox, od, I⟩ := I; exact x_class KX X XA Z I k
end
section
variable {X : Cx}
noncomputable def isOf (K : Frag) (C : Addr) (b : Bool) : V → Prop
  | .ref D => kitOne K (.ref C) (.ref D) = some b
  | .ty T => kitOne K (.ref C) (.type T) = some b
  | _ => False
noncomputable def mIsX (K : Frag) : List V → Hp → VK → Prop := fun vs H Q => ∃ ea C dx fr bm fs c b, vs = [.ref ea, c] ∧ H ea = some (XF ea C (some dx) fr) ∧ H dx = some (.xd fs) ∧ XCls K C bm ∧ XAttr K C ∧ XIs K C ∧ isOf K C b c ∧ Q (.bl b) H
theorem kc_isX (K : Frag) (hK : X.K = K) : CallR X (.builtin "isinstance") (mIsX K) := by
  subst hK
  intro pins s σ H xs us Q I r h
  obtain ⟨ea, C, dx, fr, bm, fs, c, b, rfl, hx, hd, Xc, Xa, Z, hc, q⟩ := h
  obtain ⟨u, w', rfl, r1, r2⟩ := vals2 r
  obtain rfl : u = Value.ref ea := r1
  have fin : ∀ tk, EP X pins σ Q (.bool b) { s with toks := tk } := fun tk => ⟨.bl b, H, I.tok _, rfl, q⟩
  obtain ⟨ob, ws, t0, z, a1, a2, a3, a4, a5, a6, a7⟩ := xf_of I.hok hx
  obtain ⟨mA, hm, hr⟩ := (show ObjOk X.prog X.w H s.heap dx (.xd fs) from I.hok dx _ hd)
  obtain ⟨od, hod, hl⟩ := lookIn_ns hm
  obtain ⟨oc, odi, odt, osl⟩ := ob
  dsimp only at a2 a3 a4
  subst a2 a3 a4
  have J : ∃ ox od, InstAt s.heap ea ox C (some od) := ⟨⟨.ref C, some dx, .fields ws, osl⟩, od, a1, rfl, rfl, hod⟩
  cases c with
  | ref D =>
    obtain rfl : w' = Value.ref D := r2
    exact kia_one (kitx_x Xc Xa Z) I.kIn J hc (fun z => nomatch z) fin
  | ty T =>
    obtain rfl : w' = Value.type T := r2
    exact kia_one (kitx_x Xc Xa Z) I.kIn J hc (fun z => nomatch z) fin
  | _ => exact (show False from hc).elim
theorem isX_i {K : Frag} {H : Hp} {Q : VK} {ea C dx : Addr} {fr : Bool} {bm : List Value} {fs : List (Str × V)} {c : V} {b : Bool} (h1 : H ea = some (XF ea C (some dx) fr)) (h2 : H dx = some (.xd fs)) (Xc : XCls K C bm) (Xa : XAttr K C) (Z : XIs K C) (h : isOf K C b c) (k : Q (.bl b) H) : mIsX K [.ref ea, c] H Q :=
  ⟨ea, C, dx, fr, bm, fs, c, b, rfl, h1, h2, Xc, Xa, Z, h, k⟩
theorem tPar_i {i j : Nat} {ta : TA} {D : Ends} {σ : St} {H : Hp} (k : ta σ H fun vs H1 => ∃ v w, vs = [v, w] ∧ D.nx ((σ.set i (some v)).set j (some w)) H1) : tPar i j ta D σ H := k
end
end L2
set_option Elab.async false
set_option linter.all false
set_option maxRecDepth 100000
set_option maxHeartbeats 4000000
namespace L2
open PySem PySem.Spec PyProof.Rows
section
variable {X : Cx} {pins : List (Addr × Obj)} {σ : St} {H : Hp} {s : Shared} {h' : Heap}
end
noncomputable def Izp (K : PySem.W.Frag) (a b : Addr) (n m : Nat) : It := ⟨fun i H => i < min n m ∧ ∃ xs ys, SqL K H a xs ∧ SqL K H b ys ∧ xs.length = n ∧ ys.length = m, fun i H v H' => ∃ T x y, H T = none ∧ v = .ref T ∧ H' = upd H T (.tup [x, y]) ∧ (∀ xs, SqL K H a xs → xs[i]? = some x) ∧ (∀ ys, SqL K H b ys → ys[i]? = some y), fun i H => i = min n m ∧ ∃ xs ys, SqL K H a xs ∧ SqL K H b ys ∧ xs.length = n ∧ ys.length = m⟩
section
variable {X : Cx}
noncomputable def iZip (K : PySem.W.Frag) (ta : TA) : TI := fun σ H R => ta σ H fun vs H1 => ∃ a b xs ys, vs = [.ref a, .ref b] ∧ SqL K H1 a xs ∧ SqL K H1 b ys ∧ R (Izp K a b xs.length ys.length) H1
end
theorem iZip_i {K : PySem.W.Frag} {σ : St} {H : Hp} {ta : TA} {R : It → Hp → Prop} (k : ta σ H fun vs H1 => ∃ a b xs ys, vs = [.ref a, .ref b] ∧ SqL K H1 a xs ∧ SqL K H1 b ys ∧ R (Izp K a b xs.length ys.length) H1) : iZip K ta σ H R := k
end L2
set_option Elab.async false
set_option linter.all false
set_option maxRecDepth 100000
set_option maxHeartbeats 4000000
namespace L2
open PySem PySem.Spec PyProof.Rows
section
variable {X : Cx} {pos : Pos} {e : Expr} {te : TE}
noncomputable def tF3i (te : TE) : TE := fun σ H Q => te σ H fun x H1 => ∃ i : Int, x = .int i ∧ i.natAbs.log2 < 1920 ∧ (Str.ofString (toString i)).length ≤ 100 ∧ ∀ z : Str, Q (.str z) H1
theorem tF3i_i {σ : St} {H : Hp} {Q : VK} (k : te σ H fun x H1 => ∃ i : Int, x = .int i ∧ i.natAbs.log2 < 1920 ∧ (Str.ofString (toString i)).length ≤ 100 ∧ ∀ z : Str, Q (.str z) H1) : tF3i te σ H Q := k
end
noncomputable def onX (H : Hp) (C : Addr) (E : XK) : Prop := ∀ ea H', Same H H' → IsX H' ea C [(rowS, .int 0)] → E (.ref C) (some ea) H'
theorem onX.mono {H H1 : Hp} {C : Addr} {E : XK} (h : onX H C E) (s : Same H H1) : onX H1 C E := fun ea H' s' i => h ea H' (s.trans s') i
theorem look_row1 (a : V) : List.lookup (Str.ofString "row") [(rowS, a)] = some a := by
  have h1 : (Str.ofString "row" == rowS) = true := by decide +kernel
  simp only [List.lookup, h1]
end L2
set_option Elab.async false
set_option linter.all false
set_option maxRecDepth 100000
set_option maxHeartbeats 4000000
namespace L2
open PySem PySem.Spec PyProof.Rows
section
variable {X : Cx} {es rest : List Expr} {k : Nat} {pos : Pos} {env : Env} {te : TE} {t : TA}
noncomputable def notStar : Expr → Bool
  | .Starred _ _ => false
  | _ => true
theorem star_any {e : Expr} (h : notStar e = true) : starEach (e :: rest) env = (false, eval e env) :: starEach rest env := by
  rw [starEach]
  intro a p z
  rw [z] at h
  cases h
theorem pa_con {e : Expr} (ha : PE X e te) (hr : PA X rest t) (h : notStar e = true := by rfl) : PA X (e :: rest) (tCons te t) := pa_cons ha hr (star_any h)
theorem sw_lst {n : Option Expr} {l : Nat} : swapsWith (.List es pos) n l env = pure false := rfl
theorem sw_bin {a b : Expr} {op : Operator} {n : Option Expr} {l : Nat} : swapsWith (.BinOp a op b pos) n l env = pure false := rfl
theorem sw_sub {a b : Expr} {n : Option Expr} {l : Nat} : swapsWith (.Subscript a b pos) n l env = pure false := rfl
theorem sw_call {a : Expr} {kw : List Keyword} {n : Option Expr} {l : Nat} : swapsWith (.Call a es kw pos) n l env = pure false := rfl
end
structure QA (X : Cx) (es : List Expr) (t : TA) : Prop where
  pa : PA X es t
section
variable {X : Cx} {a b e : Expr} {es rest : List Expr} {k : Nat} {pos pos' : Pos} {te ta tb : TE} {t : TA} {u v : TS} {st : Stmt} {x : Str}
theorem qe_of (h : PE X e te) : QE X e te := ⟨h⟩
theorem qs_of (h : PS X st u) : QS X st u := ⟨h⟩
theorem qa_nil : QA X [] tNil := ⟨pa_nil⟩
theorem qa_con (ha : QE X e te) (hr : QA X rest t) (h : notStar e = true) : QA X (e :: rest) (tCons te t) := ⟨pa_cons ha.pe hr.pa (star_any h)⟩
theorem qe_tup (h : QA X es t) : QE X (.Tuple es k pos) (tTup t) := ⟨pe_tup h.pa⟩
theorem qe_lst (h : QA X es t) : QE X (.List es pos) (tLst t) := ⟨pe_lst h.pa⟩
theorem qs_if {c : Expr} {l m : List Stmt} {tc : TT} (hc : PT X c tc) (ha : QSs X l u) (hb : QSs X m v) : QS X (.If c l m pos) (tIfS tc u v) := ⟨ps_if hc ha.pss hb.pss⟩
theorem qss_nil : QSs X [] tNext := ⟨pss_nil⟩
end
end L2
set_option Elab.async false
set_option linter.all false
set_option maxRecDepth 100000
set_option maxHeartbeats 4000000
namespace L2
open PySem PySem.Spec PyProof.Rows PySem.W
theorem vals_ref : ∀ {ds : List Addr} {us : List Value}, Vals (ds.map V.ref) us → us = ds.map Value.ref
  | [], _, .nil => rfl
  | d :: ds, _, .cons r t => by
    have e := vals_ref t
    obtain rfl : _ = Value.ref d := r
    rw [e]
    rfl
section
variable {X : Cx}
noncomputable def mIsXT (K : Frag) : List V → Hp → VK → Prop := fun vs H Q => ∃ ea C dx fr bm fs tp, ∃ (ds : List Addr) (b : Bool), vs = [.ref ea, .ref tp] ∧ H ea = some (XF ea C (some dx) fr) ∧ H dx = some (.xd fs) ∧ XCls K C bm ∧ XAttr K C ∧ XIs K C ∧ SqT K H tp (ds.map V.ref) ∧ kitAny K (.ref C) (ds.map Value.ref) = some b ∧ Q (.bl b) H
theorem kc_isXT (K : Frag) (hK : X.K = K) : CallR X (.builtin "isinstance") (mIsXT K) := by
  subst hK
  intro pins s σ H xs us Q I r h
  obtain ⟨ea, C, dx, fr, bm, fs, tp, ds, b, rfl, hx, hd, Xc, Xa, Z, ht, hc, q⟩ := h
  obtain ⟨u, w', rfl, r1, r2⟩ := vals2 r
  obtain rfl : u = Value.ref ea := r1
  obtain rfl : w' = Value.ref tp := r2
  have fin : ∀ tk, EP X pins σ Q (.bool b) { s with toks := tk } := fun tk => ⟨.bl b, H, I.tok _, rfl, q⟩
  obtain ⟨ob, ws, t0, z, a1, a2, a3, a4, a5, a6, a7⟩ := xf_of I.hok hx
  obtain ⟨mA, hm, hr⟩ := (show ObjOk X.prog X.w H s.heap dx (.xd fs) from I.hok dx _ hd)
  obtain ⟨od, hod, hl⟩ := lookIn_ns hm
  obtain ⟨oc, odi, odt, osl⟩ := ob
  dsimp only at a2 a3 a4
  subst a2 a3 a4
  have J : ∃ ox od, InstAt s.heap ea ox C (some od) := ⟨⟨.ref C, some dx, .fields ws, osl⟩, od, a1, rfl, rfl, hod⟩
  obtain ⟨its, rv, ⟨⟨c1, c2, c3, c4⟩, g1, g2, n, g3⟩, _⟩ := I.tuple ht
  dsimp only at g2 g3
  subst g2 g3
  have e := vals_ref rv
  subst e
  exact kia_tup (kitx_x Xc Xa Z) I.kIn J g1 hc (fun z => nomatch z) fin
theorem isXT_i {K : Frag} {H : Hp} {Q : VK} {ea C dx tp : Addr} {fr : Bool} {bm : List Value} {fs : List (Str × V)} (ds : List Addr) {b : Bool} (h1 : H ea = some (XF ea C (some dx) fr)) (h2 : H dx = some (.xd fs)) (Xc : XCls K C bm) (Xa : XAttr K C) (Z : XIs K C) (ht : SqT K H tp (ds.map V.ref)) (h : kitAny K (.ref C) (ds.map Value.ref) = some b) (k : Q (.bl b) H) : mIsXT K [.ref ea, .ref tp] H Q :=
  ⟨ea, C, dx, fr, bm, fs, tp, ds, b, rfl, h1, h2, Xc, Xa, Z, ht, h, k⟩
end
section
variable {X : Cx} {pos : Pos} {e : Expr} {te : TE}
noncomputable def tFr (te : TE) : TE := fun σ H Q => te σ H fun x H1 => ∃ y, x = .str y ∧ (∀ c ∈ y.cps.toList, c < 16 ^ 8) ∧ y.length ≤ 5000 ∧ ∀ z : Str, Q (.str z) H1
theorem tFr_i {σ : St} {H : Hp} {Q : VK} (k : te σ H fun x H1 => ∃ y, x = .str y ∧ (∀ c ∈ y.cps.toList, c < 16 ^ 8) ∧ y.length ≤ 5000 ∧ ∀ z : Str, Q (.str z) H1) : tFr te σ H Q := k
noncomputable def tF2 (te : TE) : TE := fun σ H Q => te σ H fun x H1 => ∃ y, x = .str y ∧ y.length ≤ 5000 ∧ ∀ z : Str, Q (.str z) H1
theorem tF2_i {σ : St} {H : Hp} {Q : VK} (k : te σ H fun x H1 => ∃ y, x = .str y ∧ y.length ≤ 5000 ∧ ∀ z : Str, Q (.str z) H1) : tF2 te σ H Q := k
end
end L2
set_option Elab.async false
set_option linter.all false
set_option maxRecDepth 100000
set_option maxHeartbeats 4000000
namespace L2
open PySem PySem.Spec PyProof.Rows PySem.W
namespace FD
end FD
section
variable {prog : Program} {w : World} {A : Around} {R : Result → Shared → Prop}
noncomputable def TupsAt {K : Type} [DecidableEq K] (knd : PySem.KeyKind prog w K) (ts : List Addr) (kvs : List (K × Value)) (h : Heap) : Prop := ∀ (i : Nat) (T : Addr), ts[i]? = some T → ∃ (kk : K) (key val : Value), kvs[i]? = some (kk, val) ∧ knd.is kk key = true ∧ IsTup h T #[key, val]
theorem TupsAt.keep {K : Type} [DecidableEq K] {knd : PySem.KeyKind prog w K} {ts : List Addr} {kvs : List (K × Value)} {h h' : Heap} (x : TupsAt knd ts kvs h) (k : ∀ T ∈ ts, ∀ o, h.get? T = some o → h'.get? T = some o) : TupsAt knd ts kvs h' := fun i T e => by
  obtain ⟨kk, key, val, e1, e2, o, ho, r⟩ := x i T e
  exact ⟨kk, key, val, e1, e2, o, k T (List.mem_of_getElem? e) o ho, r⟩
end
section
variable {X : Cx}
end
end L2
set_option Elab.async false
set_option linter.all false
set_option maxRecDepth 100000
set_option maxHeartbeats 4000000
namespace L2
open PySem PySem.Spec PyProof.Rows PySem.W
section
variable {X : Cx}
noncomputable def dEqK (K : Frag) (n : Bool) : R2 := fun x y H Q => ∃ (a b : Addr) (ka kb : List (Key × V)), x = .ref a ∧ y = .ref b ∧ H a = some (.dK ka) ∧ H b = some (.dK kb) ∧ ka.length = kb.length ∧ (∀ k v, (k, v) ∈ ka → ∃ v' d, valV kb k = some v' ∧ Den K H v d ∧ Den K H v' d ∧ d.depth ≤ 140) ∧ Q (.bl (!n)) H
theorem keq_hits {pins : List (Addr × Obj)} {σ : St} {H : Hp} {s : Shared} (I : Inv X pins σ H s) {A : Around} (hu : A.units + 150 < cLine) {kb : List (Key × V)} {vb : List (Key × Value)} (rb : KV kb vb) :
    ∀ {ka : List (Key × V)} {va : List (Key × Value)}, KV ka va → (∀ k v, (k, v) ∈ ka → ∃ v' d, valV kb k = some v' ∧ Den X.K H v d ∧ Den X.K H v' d ∧ d.depth ≤ 140) → KeqHits A.in1 s vb va true
  | [], [], _, _ => .nil
  | (k, v) :: r, (k', u) :: m, .cons h t, hx => by
    obtain ⟨e1, e2⟩ := h
    have e1 : k = k' := e1
    subst e1
    obtain ⟨v', d, f1, f2, f3, f4⟩ := hx k v List.mem_cons_self
    have hv := rb.val k
    rw [f1] at hv
    obtain ⟨u', g1, g2⟩ := RelO.some_of (v := v') (o := valueAt vb k) hv
    have he : SeqAt.EqAt A.in1 s u u' true := eq_same I 140 A.in1 d v v' u u' f4 (by show A.units + 1 + 140 < cLine; omega) f2 f3 e2 g2
    have := KeqHits.hit (k := k) (v := u) g1 he (keq_hits I hu rb t fun k2 v2 h2 => hx k2 v2 (List.mem_cons_of_mem _ h2))
    simpa using this
theorem ko_eqK (K : Frag) (hK : X.K = K) (hu : X.A.units + 150 < cLine) : OpR X (compareOp .Eq) (dEqK K false) := by
  subst hK
  intro pins s σ H x y v u Q I rx ry h
  obtain ⟨a, b, ka, kb, rfl, rfl, ha, hb, hl, hx, k⟩ := h
  cases rx
  cases ry
  obtain ⟨z1, hd1, va, ra, da⟩ := dk_of I.hok ha
  obtain ⟨z2, hd2, vb, rb, db⟩ := dk_of I.hok hb
  refine keq_eq hd1 hd2 da db (by omega) (fun _ => keq_hits I hu rb ra hx) ?_
  have e : (va.length == vb.length && true) = true := by
    rw [← Paired.length ra, ← Paired.length rb, hl]; simp
  rw [e]
  exact ⟨.bl true, H, I, rfl, k⟩
theorem ko_neK (K : Frag) (hK : X.K = K) (hu : X.A.units + 150 < cLine) : OpR X (compareOp .NotEq) (dEqK K true) := by
  subst hK
  intro pins s σ H x y v u Q I rx ry h
  obtain ⟨a, b, ka, kb, rfl, rfl, ha, hb, hl, hx, k⟩ := h
  cases rx
  cases ry
  obtain ⟨z1, hd1, va, ra, da⟩ := dk_of I.hok ha
  obtain ⟨z2, hd2, vb, rb, db⟩ := dk_of I.hok hb
  refine keq_ne hd1 hd2 da db (by omega) (fun _ => keq_hits I hu rb ra hx) ?_
  have e : (va.length == vb.length && true) = true := by
    rw [← Paired.length ra, ← Paired.length rb, hl]; simp
  rw [e]
  exact ⟨.bl false, H, I, rfl, k⟩
noncomputable def mDictK : List V → Hp → VK → Prop := fun vs H Q => ∃ (a : Addr) (kvs : List (Key × V)), vs = [.ref a] ∧ H a = some (.dK kvs) ∧ ∀ p, H p = none → Q (.ref p) (upd H p (.dK kvs))
theorem mc_dictK : CallR X (.type "dict") mDictK := by
  intro pins s σ H xs us Q I r h
  obtain ⟨a, kvs, rfl, ha, q⟩ := h
  obtain ⟨u, rfl, r1⟩ := vals1 r
  obtain rfl : u = Value.ref a := r1
  exact d_copyOf I (.inl ha) fun p s' hp I' => ⟨.ref p, _, I', rfl, q p hp⟩
end
noncomputable abbrev Rws := List (Str × Trm)
noncomputable def PutsOk (K : Frag) (H : Hp) (kvs : List (Key × V)) (rows : Rws) : Prop := Paired (fun (p : Key × V) (q : Str × Trm) => p.1 = Sum.inr q.1 ∧ Den K H p.2 q.2.data) kvs rows
noncomputable def lookR (rows : Rws) (x : Str) : Option Trm := (rows.find? fun r => decide (r.1 = x)).map (·.2)
noncomputable def putR (rows : Rws) (x : Str) (t : Trm) : Rws := if (rows.any fun r => decide (r.1 = x)) = true then rows.map (fun r => if r.1 = x then (r.1, t) else r) else rows ++ [(x, t)]
section
variable {K : Frag} {H H' : Hp} {kvs : List (Key × V)} {rows : Rws}
theorem PutsOk.mono (h : PutsOk K H kvs rows) (s : Same H H') : PutsOk K H' kvs rows := Paired.mapP h fun _ _ z => ⟨z.1, z.2.mono s⟩
theorem PutsOk.monoT (h : PutsOk K H kvs rows) (e : ∀ a xs, SqT K H a xs → SqT K H' a xs) : PutsOk K H' kvs rows := Paired.mapP h fun _ _ z => ⟨z.1, z.2.monoT e⟩
theorem PutsOk.len (h : PutsOk K H kvs rows) : kvs.length = rows.length := Paired.length h
theorem key_inr (a b : Str) : ((Sum.inr a : Key) = Sum.inr b) ↔ a = b := ⟨fun h => Sum.inr.inj h, fun h => by rw [h]⟩
theorem PutsOk.get : ∀ {kvs : List (Key × V)} {rows : Rws}, PutsOk K H kvs rows → ∀ x : Str, (lookR rows x = none ∧ valV kvs (Sum.inr x) = none) ∨ ∃ t v, lookR rows x = some t ∧ valV kvs (Sum.inr x) = some v ∧ Den K H v t.data
  | [], [], _, x => .inl ⟨rfl, rfl⟩
  | (k, v) :: kr, (y, t) :: rr, .cons h r, x => by
    obtain ⟨e1, e2⟩ := h
    have e1 : k = Sum.inr y := e1
    subst e1
    by_cases hx : y = x
    · subst hx
      refine .inr ⟨t, v, ?_, ?_, e2⟩
      · simp [lookR]
      · simp [valV]
    · have ih := PutsOk.get r x
      have n1 : lookR ((y, t) :: rr) x = lookR rr x := by simp [lookR, hx]
      have n2 : valV ((Sum.inr y, v) :: kr) (Sum.inr x) = valV kr (Sum.inr x) := by simp [valV, hx]
      rw [n1, n2]
      exact ih
theorem PutsOk.any : ∀ {kvs : List (Key × V)} {rows : Rws}, PutsOk K H kvs rows → ∀ x : Str, (kvs.any fun kv => decide (kv.1 = Sum.inr x)) = rows.any fun r => decide (r.1 = x)
  | [], [], _, x => rfl
  | (k, v) :: kr, (y, t) :: rr, .cons h r, x => by
    have e1 : k = Sum.inr y := h.1
    subst e1
    rw [List.any_cons, List.any_cons, PutsOk.any r x]
    congr 1
    exact decide_eq_decide.mpr (key_inr y x)
theorem PutsOk.put (h : PutsOk K H kvs rows) {x : Str} {v : V} {t : Trm} (d : Den K H v t.data) : PutsOk K H (putK kvs (Sum.inr x) v) (putR rows x t) := by
  unfold putK putR
  rw [h.any x]
  split
  · rename_i hz0
    clear hz0
    induction kvs generalizing rows with
    | nil => cases rows with | nil => exact .nil | cons _ _ => cases h
    | cons p r ih =>
      cases rows with
      | nil => cases h
      | cons q m =>
        cases h with
        | cons e f =>
          refine .cons ?_ (ih f)
          dsimp only
          obtain ⟨e1, e2⟩ := e
          by_cases hx : q.1 = x
          · rw [if_pos hx, if_pos (by rw [e1, hx])]
            exact ⟨e1, d⟩
          · rw [if_neg hx, if_neg (by rw [e1]; exact fun z => hx (Sum.inr.inj z))]
            exact ⟨e1, e2⟩
  · rename_i hz0
    clear hz0
    induction kvs generalizing rows with
    | nil => cases rows with | nil => exact .cons ⟨rfl, d⟩ .nil | cons _ _ => cases h
    | cons p r ih =>
      cases rows with
      | nil => cases h
      | cons q m =>
        cases h with
        | cons e f => exact .cons e (ih f)
theorem PutsOk.mem : ∀ {kvs : List (Key × V)} {rows : Rws}, PutsOk K H kvs rows → ∀ {k : Key} {v : V}, (k, v) ∈ kvs → ∃ x t, (x, t) ∈ rows ∧ k = Sum.inr x ∧ Den K H v t.data
  | [], [], _, k, v, hm => by simp at hm
  | p :: kr, q :: rr, .cons h r, k, v, hm => by
    rcases List.mem_cons.mp hm with e | e
    · subst e
      exact ⟨q.1, q.2, by simp, h.1, h.2⟩
    · obtain ⟨x, t, h1, h2, h3⟩ := PutsOk.mem r e
      exact ⟨x, t, List.mem_cons_of_mem _ h1, h2, h3⟩
end
end L2
set_option Elab.async false
set_option linter.all false
set_option maxRecDepth 100000
set_option maxHeartbeats 4000000
namespace L2
open PySem PySem.Spec PyProof.Rows PySem.W
section
variable {X : Cx} {pins : List (Addr × Obj)} {σ : St} {H : Hp} {s : Shared}
end
section
variable {X : Cx}
end
end L2
set_option Elab.async false
set_option linter.all false
set_option maxRecDepth 100000
set_option maxHeartbeats 4000000
namespace L2
open PySem PySem.Spec PyProof.Rows PySem.W
section
variable {prog : Program} {w : World} {A : Around} {E : Value → Shared → Prop} {s : Shared}
noncomputable abbrev IsZipF (h : Heap) (z TI TO : Addr) (f0 : Value) (f1 : Bool) : Prop :=
  h.get? z = some { cls := .type "zip", dict := none, data := .fields #[f0, .bool f1, .bool false, .ref TI, .ref TO], slots := #[] }
end
end L2
set_option Elab.async false
set_option linter.all false
set_option maxRecDepth 100000
set_option maxHeartbeats 4000000
namespace L2
open PySem PySem.Spec PyProof.Rows PySem.W
section
variable {prog : Program} {w : World} {A : Around} {E : Value → Shared → Prop} {s : Shared}
noncomputable def ZS (h : Heap) (z TI TO i1 i2 t1 t2 S : Addr) (i : Nat) : Prop :=
  ((IsZip h z TI TO .none ∧ ∃ a b, IsPair h TO a b) ∨ ∃ (T : Addr) (f1 : Bool) (o : Obj), IsZipF h z TI TO (rawInt T) f1 ∧ h.get? T = some o ∧ T ≠ z ∧ T ≠ TO ∧ T ≠ i1 ∧ T ≠ i2 ∧ T ≠ S) ∧ IsPair h TI (.ref i1) (.ref i2) ∧ h.IsTupleIter i1 t1 i ∧ h.IsTupleIter i2 t2 i
theorem ZS.keep {h h' : Heap} {z TI TO i1 i2 t1 t2 S : Addr} {i : Nat} (st : ZS h z TI TO i1 i2 t1 t2 S i) (k : ∀ c o, c ≠ S → h.get? c = some o → h'.get? c = some o) (n : S ≠ z ∧ S ≠ TI ∧ S ≠ TO ∧ S ≠ i1 ∧ S ≠ i2) : ZS h' z TI TO i1 i2 t1 t2 S i := by
  obtain ⟨q, hTI, h1, h2⟩ := st
  refine ⟨?_, k _ _ n.2.1.symm hTI, h1.at fun o e => k _ o n.2.2.2.1.symm e, h2.at fun o e => k _ o n.2.2.2.2.symm e⟩
  rcases q with ⟨hz, a, b, hTO⟩ | ⟨T, f1, o, hz, hT, d⟩
  · exact .inl ⟨k _ _ n.1.symm hz, a, b, k _ _ n.2.2.1.symm hTO⟩
  · exact .inr ⟨T, f1, o, k _ _ n.1.symm hz, k _ _ d.2.2.2.2 hT, d⟩
end
section
variable {X : Cx} {pins : List (Addr × Obj)} {σ : St}
end
end L2
set_option Elab.async false
set_option linter.all false
set_option maxRecDepth 100000
set_option maxHeartbeats 4000000
namespace L2
open PySem PySem.Spec PyProof.Rows PySem.W
section
variable {X : Cx}
noncomputable def mDClr : V → List V → Hp → VK → Prop := fun x vs H Q => ∃ (a : Addr) (kvs : List (Key × V)), x = .ref a ∧ vs = [] ∧ H a = some (.dK kvs) ∧ Q .non (upd H a (.dK []))
theorem mm_dclr : MtR X "dict.clear" mDClr := by
  intro pins s σ H x vs v us Q I rx rv h
  obtain ⟨a, kvs, rfl, rfl, ha, q⟩ := h
  cases rx
  cases rv
  exact d_clear I ha fun s' I' => ⟨.non, _, I', rfl, q⟩
end
end L2
set_option Elab.async false
set_option linter.all false
set_option maxRecDepth 100000
set_option maxHeartbeats 4000000
namespace L2
open PySem PySem.Spec PyProof.Rows PySem.W
section
variable {X : Cx} {tg : Expr}
noncomputable def NFz (X : Cx) (a : Addr) : Prop := ∀ o u, X.H₀ a ≠ some (.frz o u)
theorem Inv.thaw {pins : List (Addr × Obj)} {σ : St} {H : Hp} {s : Shared} {a : Addr} {o : Obj} {kvs : List (Key × V)} (I : Inv X pins σ H s) (nf : NFz X a) (hH : H a = some (.frz o (.dK kvs))) : Inv X pins σ (upd H a (.dK kvs)) s := by
  have ne0 : ∀ b, H b = none → b ≠ a := fun b h z => by rw [z, hH] at h; cases h
  have ne1 : ∀ b u, H b = some u → (∀ o' u', u ≠ .frz o' u') → b ≠ a := fun b u h n z => by
    rw [z, hH] at h
    exact n _ _ (Option.some.inj h).symm
  have hok := I.hok
  refine { I with base := ⟨I.base.keep, I.base.slot, fun b o' g h e => ?_, I.base.there, fun b xs e => ?_, fun b o' u e => ?_, fun b ps e => ?_⟩, free := ?_, freeC := fun x c e => ?_, pin := fun p hp => ?_, hok := fun b u e => ?_ }
  · have := I.base.free b o' g h e
    rw [upd_ne (ne0 b this)]
    exact this
  · have := I.base.tups b xs e
    rw [upd_ne (ne1 b _ this (fun _ _ z => by cases z))]
    exact this
  · have := I.base.frzs b o' u e
    have nb : b ≠ a := fun z => by subst z; exact nf o' u e
    rw [upd_ne nb]
    exact this
  · obtain ⟨more, this⟩ := I.base.tbls b ps e
    refine ⟨more, ?_⟩
    rw [upd_ne (ne1 b _ this (fun _ _ z => by cases z))]
    exact this
  · rw [upd_ne (ne0 _ I.free)]
    exact I.free
  · have := I.freeC x c e
    rw [upd_ne (ne0 _ this)]
    exact this
  · obtain ⟨h1, h2, h3⟩ := I.pin p hp
    refine ⟨h1, ?_, h3⟩
    rw [upd_ne (ne0 _ h2)]
    exact h2
  · by_cases hb : b = a
    · subst hb
      rw [upd_same] at e
      cases e
      exact (hok b _ hH).2
    · rw [upd_ne hb] at e
      refine (hok b u e).stay (fun c v _ q => q) (fun c q => ?_) fun c xs q => ?_
      · rw [upd_ne (ne1 c _ q (fun _ _ z => by cases z))]; exact q
      · rw [upd_ne (ne1 c _ q (fun _ _ z => by cases z))]; exact q
noncomputable def mIsDK : List V → Hp → VK → Prop := fun vs H Q => ∃ p kvs, vs = [.ref p, .ty "dict"] ∧ H p = some (.dK kvs) ∧ Q (.bl true) H
theorem mc_isDK : CallR X (.builtin "isinstance") mIsDK := by
  intro pins s σ H xs us Q I r h
  obtain ⟨p, kvs, rfl, hp, q⟩ := h
  obtain ⟨u, w', rfl, r1, r2⟩ := vals2 r
  cases r2
  exact isinst_ok (x := .ref p) I r1 (.dK hp) (kit_same _ _) fun tk => ⟨.bl true, H, I.tok _, rfl, q⟩
end
end L2
set_option Elab.async false
set_option linter.all false
set_option maxRecDepth 100000
set_option maxHeartbeats 4000000
namespace L2
open PySem PySem.Spec PyProof.Rows PySem.W
section
variable {X : Cx}
end
end L2
set_option Elab.async false
set_option linter.all false
set_option maxRecDepth 100000
set_option maxHeartbeats 4000000
namespace L2
open PySem PySem.Spec PyProof.Rows PySem.W
noncomputable def IsRv (h : Heap) (a t : Addr) (i : Int) : Prop := ∃ o, h.get? a = some o ∧ o.cls = .type "reversed" ∧ o.data = .fields #[.ref t, rawInt i]
theorem IsRv.typeIs {s : Shared} {a t : Addr} {i : Int} (x : IsRv s.heap a t i) : s.TypeIs (.ref a) "reversed" := let ⟨o, ho, hc, _⟩ := x; ⟨o, ho, hc⟩
theorem IsRv.at {h h' : Heap} {a l : Addr} {i : Int} (x : IsRv h a l i) (e : ∀ o, h.get? a = some o → h'.get? a = some o) : IsRv h' a l i := let ⟨o, ho, r⟩ := x; ⟨o, e _ ho, r⟩
section
variable {prog : Program} {w : World} {A : Around} {E : Value → Shared → Prop} {s : Shared}
end
end L2
set_option Elab.async false
set_option linter.all false
set_option maxRecDepth 100000
set_option maxHeartbeats 4000000
namespace L2
open PySem PySem.Spec PyProof.Rows PySem.W
section
variable {X : Cx}
end
end L2
set_option Elab.async false
set_option linter.all false
set_option maxRecDepth 100000
set_option maxHeartbeats 4000000
namespace L2
open PySem PySem.Spec PyProof.Rows PySem.W
section
variable {X : Cx} {pos : Pos} {e e2 : Expr} {te te2 : TE}
end
section
variable {X : Cx}
end
end L2
set_option Elab.async false
set_option linter.all false
set_option maxRecDepth 100000
set_option maxHeartbeats 4000000
namespace L2
open PySem PySem.Spec PyProof.Rows
section
variable {X : Cx}
end
section
variable {X : Cx}
end
section
variable {K : PySem.W.Frag} {σ : St} {H : Hp} {Q : VK} {D : Ends} {ta tv : TE} {t : TA} {f m : Str} {C : Addr} {sp : Sp} {dvs : List V} {E : XK}
end
end L2
set_option Elab.async false
set_option linter.all false
set_option maxRecDepth 100000
set_option maxHeartbeats 4000000
namespace L2
open PySem PySem.Spec PyProof.Rows PySem.W
section
variable {X : Cx}
noncomputable def KD (P : Program) (w : World) (K : PySem.W.Frag) (a : Addr) (kvs : List (Key × V)) : Prop := ∀ h : Heap, K.In h → ∃ vs, KV kvs vs ∧ h.DictOf (mixKind P w) a vs
inductive DRow (pm : Params) : List DictEntry → List (Key × V) → List (Key × Value) → Prop
  | nil : DRow pm [] [] []
  | cons {x : Str} {t : Tok} {v : V} {u : Value} {es : List DictEntry} {kvs : List (Key × V)} {vs : List (Key × Value)} : RelV v u → DRow pm es kvs vs → DRow pm (⟨PyData.keyHash pm x, .str x t, u⟩ :: es) ((Sum.inr x, v) :: kvs) ((Sum.inr x, u) :: vs)
theorem DRow.facts {P : Program} {w : World} {es : List DictEntry} {kvs : List (Key × V)} {vs : List (Key × Value)} (d : DRow w.params es kvs vs) : KV kvs vs ∧ (∀ e ∈ es, ∃ k, (mixKind P w).is k e.key = true ∧ e.hash = (mixKind P w).hash k) ∧ Pairs (mixKind P w) es vs ∧ vs.map (·.1) = kvs.map (·.1) := by
  induction d with
  | nil => exact ⟨.nil, fun e he => by simp at he, .nil, rfl⟩
  | @cons x t v u es kvs vs r d ih =>
    obtain ⟨h1, h2, h3, h4⟩ := ih
    refine ⟨.cons ⟨rfl, r⟩ h1, fun e he => ?_, .cons (keyIs_str x t) rfl h3, by rw [List.map_cons, List.map_cons, h4]⟩
    rcases List.mem_cons.mp he with z | z
    · subst z
      exact ⟨Sum.inr x, keyIs_str x t, rfl⟩
    · exact h2 e z
theorem kd_of {P : Program} {w : World} {K : PySem.W.Frag} {a : Addr} {es : List DictEntry} {n : Nat} {kvs : List (Key × V)} {vs : List (Key × Value)} (h : K.lookup a = some ⟨.type "dict", none, .dict es.toArray n, #[]⟩) (d : DRow w.params es kvs vs) (hn : (kvs.map (·.1)).Nodup) : KD P w K a kvs := fun hp hi => by
  obtain ⟨h1, h2, h3, h4⟩ := d.facts (P := P)
  exact ⟨vs, h1, _, _, _, hi a _ h, ⟨rfl, rfl, rfl⟩, rfl, fun e he => h2 e (by simpa using he), by simpa using h3, by rw [h4]; exact hn⟩
end
end L2
set_option Elab.async false
set_option linter.all false
set_option maxRecDepth 100000
set_option maxHeartbeats 4000000
namespace L2
open PySem PySem.Spec PyProof.Rows PySem.W
section
variable {X : Cx}
noncomputable def mValsK : V → List V → Hp → VK → Prop := fun x vs H Q => ∃ a kvs, x = .ref a ∧ vs = [] ∧ H a = some (.dK kvs) ∧ ∀ p, H p = none → Q (.ref p) (upd H p (VView p a))
theorem mm_valuesK : MtR X "dict.values" mValsK := by
  intro pins s σ H x vs v us Q I rx rv h
  obtain ⟨a, kvs, rfl, rfl, ha, q⟩ := h
  cases rx
  cases rv
  obtain ⟨_, lo, xs, _, dd⟩ := dk_of I.hok ha
  obtain ⟨ep, o, es, ho, hx, hd, hk, hpr, hn⟩ := dd.dictAt
  have raw : RawD s.heap a es ep := ⟨o, ho, hx, hd⟩
  refine call_meetsIn PySem.F.slot_dict_values raw.ty PySem.F.entry_dict_values (PySem.F.args_dict_values_1 _) (raw_values a lo) ⟨⟨es, ep, raw⟩, ?_⟩
  have hnew : (s.heap.push { cls := .type "dict_values", data := .fields #[.ref a] }).IsValuesView s.heap.objs.size a := ⟨_, Heap.get?_push_size _ rfl, rfl, rfl⟩
  refine ⟨.ref s.heap.objs.size, _, I.laid (a := s.heap.objs.size) (o := VView s.heap.objs.size a) (t' := s.toks) (fun b u e => Heap.get?_push_of_some _ e) (Nat.le_refl _) ⟨hnew, ⟨_, Heap.get?_push_size _ rfl⟩, fun h1 h2 p k => ?_⟩, rfl, q _ (I.hok.fresh (Nat.le_refl _))⟩
  obtain ⟨o, e, r⟩ := p
  exact ⟨o, k o e, r⟩
end
noncomputable def Itvl (a : Addr) (o : Obj) (kvs : List (Key × V)) : It := ⟨fun i H => i < kvs.length ∧ H a = some (.frz o (.dK kvs)), fun i H x H' => H' = H ∧ ∃ k, kvs[i]? = some (k, x), fun i H => i = kvs.length ∧ H a = some (.frz o (.dK kvs))⟩
theorem at_frz {P : Program} {w : World} {H : Hp} {h : Heap} {a : Addr} {o : Obj} {kvs : List (Key × V)} {es : Array DictEntry} {ep : Nat} (hd : o.data = .dict es ep) (hok : ObjOk P w H h a (.frz o (.dK kvs))) :
    ∃ vs, KV kvs vs ∧ h.DictAt (mixKind P w) a vs ep := by
  obtain ⟨ho, z, lo, vs, rel, dd⟩ := hok
  obtain ⟨ep', hm⟩ := dd.dictAt
  obtain ⟨o', es', ho', hx, hd', hk, hpr, hn⟩ := id hm
  rw [ho] at ho'
  cases ho'
  rw [hd] at hd'
  cases hd'
  exact ⟨vs, rel, hm⟩
theorem turn_vals {P : Program} {w : World} {K : PySem.W.Frag} {tg : Expr} (a it : Addr) (o : Obj) (kvs : List (Key × V)) (es : Array DictEntry) (ep : Nat) (hd : o.data = .dict es ep) : Turn P w K tg (Itvl a o kvs) [it] it (fun i h => h.IsValIter it a i kvs.length ep) where
  mem := by simp
  obj := fun i h st b hb => by
    have e : b = it := by simpa using hb
    subst e
    obtain ⟨o, e, c, d⟩ := st
    exact ⟨o, e, fun v z => by rw [d] at z; cases z⟩
  keep := fun i h h' st k => by
    obtain ⟨o, e, c⟩ := st
    exact ⟨o, k it (by simp) o e, c⟩
  item := by
    intro X hP hw hK hc i pins s σ H E I hf st hg
    subst hP hw hK
    obtain ⟨hi, hH⟩ := hg
    obtain ⟨vs, rel, hm⟩ := at_frz hd (I.hok a _ hH)
    obtain ⟨f0, f1, f2, f3, f4, f5⟩ := hf it (by simp)
    have hlx := rel.length
    rw [hlx] at st
    obtain ⟨p, hp⟩ : ∃ p, vs[i]? = some p := ⟨vs[i]'(by omega), List.getElem?_eq_getElem (by omega)⟩
    obtain ⟨kv, h3, h4, h5⟩ := paired_back rel i p hp
    refine wpAny_pyNext_values_item st hm (k := p.1) (v := p.2) hp fun h' st' sb => ?_
    have I1 : Inv X pins σ H { s with heap := h' } := I.turned (t' := s.toks) (fun b o hb e => (sb.2 b hb).trans e) f0 f1 f3 f4 f5
    rw [← hlx] at st'
    obtain ⟨o2, e, c, d⟩ := id st'
    exact ⟨_, rfl, go_of (s := { s with heap := h' }) e c d (by decide) ⟨kv.2, H, I1, h5, ⟨rfl, kv.1, h3⟩, st', fun b hb => (hf b hb).1⟩⟩
  done := by
    intro X hP hw hK hc i pins s σ H E I hf st hg
    subst hP hw hK
    obtain ⟨f0, f1, f2, f3, f4, f5⟩ := hf it (by simp)
    obtain ⟨hi, hH⟩ := hg
    obtain ⟨vs, rel, hm⟩ := at_frz hd (I.hok a _ hH)
    have hlx := rel.length
    rw [hi, hlx] at st
    exact wpAny_pyNext_values_end (I.ok.hd hc) st hm (by simp) fun h' eb => ⟨rfl, I.turned (t' := s.toks) (fun b o hb e => eb b o hb e) f0 f1 f3 f4 f5⟩
  self := fun _ _ _ _ _ st h => wpAny_pyIter_valiter st h
theorem row_vals {a : Addr} {o : Obj} {kvs : List (Key × V)} : Row (Itvl a o kvs) kvs.length (fun i => ((kvs[i]?).map (·.2)).getD .non) (fun H => H a = some (.frz o (.dK kvs))) := ⟨fun i H h q => ⟨h, q⟩, fun i H v H' hi q h => by
  obtain ⟨e, k, h1⟩ := h
  refine ⟨e, ?_⟩
  rw [h1]
  rfl, fun H q => ⟨rfl, q⟩⟩
section
variable {X : Cx} {tg : Expr}
noncomputable def iVals (NF : Addr → Prop) (tl : TE) : TI := fun σ H R => tl σ H fun x H1 => ∃ r a kvs, x = .ref r ∧ H1 r = some (VView r a) ∧ H1 a = some (.dK kvs) ∧ ∀ o, NF a → R (Itvl a o kvs) (upd H1 a (.frz o (.dK kvs)))
theorem pi_vals {l : Expr} {tl : TE} (hl : PE X l tl) : PI X tg l (iVals (NFz X) tl) := by
  intro pins s σ H R I h
  refine thn (hl pins s σ H _ I h) fun u s1 ⟨x, H1, I1, r1, r, a, kvs, ex, hr, ha, q⟩ => ?_
  subst ex
  cases r1
  obtain ⟨hview, _⟩ := (show ObjOk X.prog X.w H1 s1.heap r (VView r a) from I1.hok r _ hr)
  obtain ⟨z, lo, vs, rel, dd⟩ := dk_of I1.hok ha
  obtain ⟨ep, hm⟩ := dd.dictAt
  obtain ⟨o, es, ho, hx, hd, hk, hpr, hn⟩ := id hm
  have hlx := rel.length
  have nf : NFz X a := fun o' u' e => by
    have := I1.base.frzs a o' u' e
    rw [ha] at this
    cases this
  have I2 : Inv X pins σ (upd H1 a (.frz o (.dK kvs))) s1 := I1.write (t' := s1.toks) (h' := s1.heap) (x := a) (e := a) (by rw [ha]; exact True.intro) (.inl rfl) (fun b q hb e => e) ⟨o, ho⟩ ⟨ho, z, lo, vs, rel, dd⟩
  refine wpAny_pyIter_values hview hm ?_
  refine ⟨s1.heap.objs.size, [s1.heap.objs.size], _, _, _, rfl, I2.kept (t' := s1.toks) fun b q e => Heap.get?_push_of_some _ e, turn_vals a _ o kvs es ep hd, ⟨_, Heap.get?_push_size _ rfl, rfl, ?_⟩, fun b hb => ?_, q o nf⟩
  · rw [hlx]
    rfl
  have e : b = s1.heap.objs.size := by simpa using hb
  subst e
  exact I2.fpOk (Nat.le_refl _) (I2.hok.fresh (Nat.le_refl _))
theorem iVals_i {NF : Addr → Prop} {tl : TE} {σ : St} {H : Hp} {R : It → Hp → Prop} (k : tl σ H fun x H1 => ∃ r a kvs, x = .ref r ∧ H1 r = some (VView r a) ∧ H1 a = some (.dK kvs) ∧ ∀ o, NF a → R (Itvl a o kvs) (upd H1 a (.frz o (.dK kvs)))) : iVals NF tl σ H R := k
noncomputable def tThawE (NF : Addr → Prop) (t : TE) : TE := fun σ H Q => t σ H fun v H' => ∃ a o kvs, NF a ∧ H' a = some (.frz o (.dK kvs)) ∧ Q v (upd H' a (.dK kvs))
theorem pe_thawE {e : Expr} {t : TE} (h : PE X e t) : PE X e (tThawE (NFz X) t) := by
  intro pins s σ H Q I q
  refine thn (h pins s σ H _ I q) fun u s1 ⟨v, H', I', rv, a, o, kvs, nf, hH, q'⟩ => ?_
  exact ⟨v, _, I'.thaw nf hH, rv, q'⟩
theorem tThawE_i {NF : Addr → Prop} {t : TE} {σ : St} {H : Hp} {Q : VK} (k : t σ H fun v H' => ∃ a o kvs, NF a ∧ H' a = some (.frz o (.dK kvs)) ∧ Q v (upd H' a (.dK kvs))) : tThawE NF t σ H Q := k
noncomputable def tThawR (NF : Addr → Prop) (t : TS) : TS := fun D σ H => t { nx := fun σ' H' => ∃ a o kvs, NF a ∧ H' a = some (.frz o (.dK kvs)) ∧ D.nx σ' (upd H' a (.dK kvs)), rt := fun v H' => ∃ a o kvs, NF a ∧ H' a = some (.frz o (.dK kvs)) ∧ D.rt v (upd H' a (.dK kvs)), bk := D.bk, ct := D.ct } σ H
theorem ps_thawR {st : Stmt} {t : TS} (h : PS X st t) : PS X st (tThawR (NFz X) t) := by
  intro pins s σ H D I q
  refine thn (h pins s σ H _ I q) fun f s1 r => ?_
  cases f with
  | next =>
    obtain ⟨σ', H', I', a, o, kvs, nf, hH, q'⟩ := r
    exact ⟨σ', _, I'.thaw nf hH, q'⟩
  | brk => exact r
  | cont => exact r
  | ret u =>
    obtain ⟨v, σ', H', I', rv, a, o, kvs, nf, hH, q'⟩ := r
    exact ⟨v, σ', _, I'.thaw nf hH, rv, q'⟩
theorem tThawR_i {NF : Addr → Prop} {t : TS} {D : Ends} {σ : St} {H : Hp} (k : t { nx := fun σ' H' => ∃ a o kvs, NF a ∧ H' a = some (.frz o (.dK kvs)) ∧ D.nx σ' (upd H' a (.dK kvs)), rt := fun v H' => ∃ a o kvs, NF a ∧ H' a = some (.frz o (.dK kvs)) ∧ D.rt v (upd H' a (.dK kvs)), bk := D.bk, ct := D.ct } σ H) : tThawR NF t D σ H := k
noncomputable def mDictKD (a : Addr) (kvs : List (Key × V)) : List V → Hp → VK → Prop := fun vs H Q => vs = [.ref a] ∧ ∀ p, H p = none → Q (.ref p) (upd H p (.dK kvs))
theorem mc_dictKD {a : Addr} {kvs : List (Key × V)} (D : KD X.prog X.w X.K a kvs) (hd : (a == sysModules) = false) (hz : kvs.length ≤ sizeLine) : CallR X (.type "dict") (mDictKD a kvs) := by
  intro pins s σ H xs us Q I r h
  obtain ⟨rfl, q⟩ := h
  obtain ⟨u, rfl, r1⟩ := vals1 r
  obtain rfl : u = Value.ref a := r1
  obtain ⟨vs, rel, dd⟩ := D s.heap (I.mod.kin.keeps I.bk)
  refine kt_call_dict hd dd (by rw [← rel.length]; exact hz) fun h' dd' hs => ?_
  refine ⟨.ref s.heap.objs.size, _, I.laid (a := s.heap.objs.size) (o := .dK kvs) (t' := s.toks) (fun b q hq => ?_) (Nat.le_refl _) (dk_new hz (beq_eq_false_iff_ne.mpr (Ne.symm (Nat.ne_of_lt I.big))) rel dd'), rfl, q _ (I.hok.fresh (Nat.le_refl _))⟩
  exact (hs.2 b (Nat.ne_of_lt (Heap.lt_size hq))).trans (Heap.get?_push_of_some _ hq)
theorem mDictKD_i {a : Addr} {kvs : List (Key × V)} {H : Hp} {Q : VK} (k : ∀ p, H p = none → Q (.ref p) (upd H p (.dK kvs))) : mDictKD a kvs [.ref a] H Q := ⟨rfl, k⟩
end
section
variable {X : Cx} {pos : Pos} {e e2 : Expr} {te te2 : TE}
noncomputable def showV : V → Prop
  | .non => True
  | .bl _ => True
  | .int i => i.natAbs.log2 < 1920 ∧ (Str.ofString (toString i)).length ≤ 1000
  | .str y => (∀ c ∈ y.cps.toList, c < 16 ^ 8) ∧ y.length ≤ 5000
  | _ => False
noncomputable def tFrV (te : TE) : TE := fun σ H Q => te σ H fun x H1 => showV x ∧ ∀ z : Str, Q (.str z) H1
theorem repr_flat {A : Around} {E : Value → Shared → Prop} {s1 : Shared} {P : Program} {w : World} {x : V} {v : Value} (r1 : RelV x v) (hx : showV x) (QQ : Value → Shared → Prop) (k : ∀ (y' : Str) t tk, y'.length ≤ 90000 → QQ (.str y' t) { s1 with toks := tk }) : wpAny (model P w) A (pyReprObj v) QQ E s1 := by
  have z9 : 100000 ≤ sizeLine := by decide
  cases x with
  | non =>
    obtain rfl : v = Value.none := r1
    exact pyReprObj_none (k _ _ _ (by decide +kernel))
  | bl b =>
    obtain rfl : v = Value.bool b := r1
    exact pyReprObj_bool (k _ _ _ (by cases b <;> decide +kernel))
  | int i =>
    obtain ⟨t, rfl⟩ := r1
    exact pyReprObj_int hx.1 (k _ _ _ (Nat.le_trans hx.2 (by decide)))
  | str y =>
    obtain ⟨t, rfl⟩ := r1
    have hl := hx.2
    have hy := PySem.StrLaws.reprText_len y hx.1
    exact pyReprObj_str (k _ _ _ (by omega)) (by omega)
  | byt _ => exact hx.elim
  | flt _ => exact hx.elim
  | ref _ => exact hx.elim
  | ty _ => exact hx.elim
theorem pe_frV {b : Str} {j2 p2 p3} (he : PE X e te) (hb : b.length ≤ 1000 := by decide +kernel) : PE X (.JoinedStr [.FormattedValue e 114 none p2, .Constant (.str b) j2 p3] pos) (tFrV te) := by
  intro pins s σ H Q I h
  have z9 : 100000 ≤ sizeLine := by decide
  have ea : ∀ x : Str, Str.empty ++ x = x := fun x => by apply Str.ext'; show (#[] : Array Nat) ++ x.cps = x.cps; simp
  refine JoinedStr_many (joinParts_cons (wpAny_FormattedValue_repr (thn (he pins _ σ H _ I h) fun v s1 ⟨x, H1, I1, r1, q1⟩ => ?_)))
  obtain ⟨hx, q⟩ := q1
  refine repr_flat r1 hx _ fun y' t tk hy => ?_
  refine formatField_str (fun t' tk => ?_) (by omega)
  have hz : (Str.empty ++ y').length ≤ sizeLine := by rw [ea]; omega
  refine ⟨hz, ?_⟩
  rw [ea]
  show wpAny _ _ (joinParts y' [eval (.Constant (.str b) j2 p3) X.env]) _ _ _
  refine joinParts_cons (Calls.Constant_str ⟨by rw [strLen_append]; omega, joinParts_nil ?_ (by rw [strLen_append]; omega)⟩)
  exact ⟨.str (y' ++ b), H1, ((I1.tok _).tok _).tok _, ⟨_, rfl⟩, q _⟩
theorem tFrV_i {σ : St} {H : Hp} {Q : VK} (k : te σ H fun x H1 => showV x ∧ ∀ z : Str, Q (.str z) H1) : tFrV te σ H Q := k
noncomputable def tF4 (te te2 : TE) : TE := fun σ H Q => te σ H fun x H1 => ∃ i : Int, x = .int i ∧ i.natAbs.log2 < 1920 ∧ (Str.ofString (toString i)).length ≤ 1000 ∧ te2 σ H1 fun x2 H2 => ∃ y, x2 = .str y ∧ y.length ≤ 5000 ∧ ∀ z : Str, Q (.str z) H2
theorem pe_f4 {a b : Str} {j1 j2 p1 p2 p3 p4} (he : PE X e te) (he2 : PE X e2 te2) (ha : a.length ≤ 1000 := by decide +kernel) (hb : b.length ≤ 1000 := by decide +kernel) : PE X (.JoinedStr [.Constant (.str a) j1 p1, .FormattedValue e (-1) none p2, .Constant (.str b) j2 p3, .FormattedValue e2 (-1) none p4] pos) (tF4 te te2) := by
  intro pins s σ H Q I h
  have z9 : 100000 ≤ sizeLine := by decide
  refine JoinedStr_many (joinParts_cons (Calls.Constant_str ?_))
  have hz : ∀ {x : Str}, x.length ≤ sizeLine → (Str.empty ++ x).length ≤ sizeLine := fun {x} q => by rw [strLen_append]; show 0 + x.length ≤ _; omega
  have ea : ∀ x : Str, Str.empty ++ x = x := fun x => by apply Str.ext'; show (#[] : Array Nat) ++ x.cps = x.cps; simp
  refine ⟨hz (by omega), joinParts_cons (FormattedValue_plain (thn (he pins _ σ H _ (I.tok _) h) fun v s1 ⟨x, H1, I1, r1, q1⟩ => ?_))⟩
  obtain ⟨i, rfl, hl, hy, q⟩ := q1
  obtain ⟨t, rfl⟩ := r1
  refine formatField_int_small hl ?_
  rw [ea]
  generalize Str.ofString (toString i) = y at hy ⊢
  refine ⟨by rw [strLen_append]; omega, ?_⟩
  show wpAny _ _ (joinParts (a ++ y) [eval (.Constant (.str b) j2 p3) X.env, eval (.FormattedValue e2 (-1) none p4) X.env]) _ _ _
  refine joinParts_cons (Calls.Constant_str ⟨by rw [strLen_append, strLen_append]; omega, joinParts_cons (FormattedValue_plain (thn (he2 pins _ σ H1 _ ((I1.tok _).tok _) q) fun v2 s2 ⟨x2, H2, I2, r2, q2⟩ => ?_))⟩)
  obtain ⟨y2, rfl, hl2, q2⟩ := q2
  obtain ⟨t2, rfl⟩ := r2
  refine formatField_str (fun t' tk => ?_) (by omega)
  refine ⟨by rw [strLen_append, strLen_append, strLen_append]; omega, ?_⟩
  refine joinParts_nil ?_ (by rw [strLen_append, strLen_append, strLen_append]; omega)
  exact ⟨.str (a ++ y ++ b ++ y2), H2, (I2.tok _).tok _, ⟨_, rfl⟩, q2 _⟩
theorem tF4_i {σ : St} {H : Hp} {Q : VK} (k : te σ H fun x H1 => ∃ i : Int, x = .int i ∧ i.natAbs.log2 < 1920 ∧ (Str.ofString (toString i)).length ≤ 1000 ∧ te2 σ H1 fun x2 H2 => ∃ y, x2 = .str y ∧ y.length ≤ 5000 ∧ ∀ z : Str, Q (.str z) H2) : tF4 te te2 σ H Q := k
end
end L2
set_option Elab.async false
set_option linter.all false
set_option maxRecDepth 100000
set_option maxHeartbeats 4000000
namespace My
open PySem PySem.Spec PyProof.Rows L2
local macro_rules | `(tactic| walk_at "stq") => `(tactic| first | refine tAsg_i ?_ | refine gName_i ?_ | refine tRet_i ?_ | refine tIfS_i ?_ | refine tNext_i ?_ | refine tDrop_i ?_ | refine mTest_i ?_ | refine mTrue_i ?_ | refine mTru_b ?_ | refine mB_i ?_ | refine tOp_i ?_ | refine tUn_i ?_ | refine mUn_i ?_ | refine m20_i ?_ | refine mAdd_i ?_ | refine mEq_i ?_ | refine mEq_s ?_ | refine mEq_b ?_ | refine mInS_i ?_ | (refine' mVar_i ?hv ?_; (case hv => with_unfolding_all rfl)) | refine tC_i ?_ | refine mChain_i ?_ | refine mAndV_i ?_ | refine mOrV_i ?_ | refine mNotV_i ?_ | refine tIf_i ?_ | refine tAnd_i ?_ | refine tOr_i ?_ | refine tNot_i ?_ | refine tCB_i ?_ | refine tCall0_i ?_ | refine tCons_i ?_ | refine tNil_i ?_ | refine tBM_i ?_ | refine tBM0_i ?_ | refine tTup_i ?_ | refine tLst_i ?_ | refine tSl_i ?_ | refine tNoPart_i ?_ | refine mPart_i ?_ | refine mI_i ?_ | refine is_str ?_ | refine is_bool ?_ | refine is_int ?_ | refine is_int_bool ?_ | refine mMin_i ?_ | refine isN_non ?_ | refine isN_ref ?_ | refine mInt_b ?_ | refine mMax_i ?_ | refine tDGet_i ?_ | refine tDGet2_i ?_ | refine sDPut_i ?_ | refine tDisp_i ?_ | refine tPairs_c ?_ | refine tPairs_n ?_ | refine iRng2_i ?_ | refine iRev_i ?_ | refine iEnum_i ?_ | refine iSeq_i ?_ | refine mAbs_i ?_ | refine gCons_i ?_ | refine gNil_i ?_ | refine tWhile_i ?_ | (refine' mAug_i ?hw ?_; (case hw => with_unfolding_all rfl)) | refine mIAdd_i ?_ | refine tFor_i ?_ | refine tThawR_i ?_ | refine tFrV_i ?_ | refine tF4_i ?_ | refine tThawE_i ?_ | refine iVals_i ?_ | refine tRaise_i ?_ | refine tXMake_i ?_ | refine tTry_i ?_ | refine tXGet_i ?_ | refine tBInit_i ?_ | refine tXSet_i ?_ | refine tPar_i ?_ | refine tF3i_i ?_ | refine iZip_i ?_ | refine tFr_i ?_ | refine tF2_i ?_ | refine iSeq_i ?_ | refine iStr_i ?_ | refine iList_i ?_ | refine iTup_i ?_ | refine iRng1_i ?_ | refine tComp_i ?_ | (refine m2_i ?hc ?_; (case hc => first | (show (0 : Int) < _; decide) | exact cdiv_i (by decide) (by decide))))
local macro_rules | `(tactic| walk_at "stp") => `(tactic| repeat (with_reducible first | refine tSeq_i ?_ | walk_at "stq"))
local macro_rules | `(tactic| walk_at "stm") => `(tactic| repeat (with_reducible walk_at "stq"))
noncomputable def top (i : Nat) : Stmt := PySem.Challenge.pw_goaltrail_k04_signs_told.main.body.getD i (.Pass ⟨0, 0, 0, 0⟩)
noncomputable abbrev s_TrailError_init : Stmt := inClass (top 1) 0
noncomputable abbrev s_is_mark : Stmt := top 10
noncomputable abbrev s_first_signs : Stmt := top 15
noncomputable abbrev s_is_rank : Stmt := top 16
noncomputable abbrev s_has_other_side : Stmt := top 17
noncomputable abbrev s_with_sign : Stmt := top 18
noncomputable abbrev s_l_cell_at : Stmt := top 20
noncomputable abbrev s_l_whole : Stmt := top 21
noncomputable abbrev s_l_stream : Stmt := top 22
noncomputable abbrev s_l_cells : Stmt := top 23
noncomputable abbrev s_l_mark : Stmt := top 24
noncomputable abbrev s_l_nine : Stmt := top 25
noncomputable abbrev s_l_some_mark : Stmt := top 26
noncomputable abbrev s_l_told_by : Stmt := top 27
noncomputable abbrev s_l_takes : Stmt := top 28
noncomputable abbrev s_l_only_no_sign : Stmt := top 29
noncomputable abbrev s_l_refused : Stmt := top 30
noncomputable abbrev s_l_made : Stmt := top 31
noncomputable abbrev s_law : Stmt := top 32
theorem sc_TrailError_init : FnScope ["self", "words", "row"] ["self", "words", "row"] (defScope s_TrailError_init) := ⟨rfl, rfl, rfl, by decide +kernel, rfl, by decide +kernel, by decide +kernel⟩
theorem sc_is_mark : FnScope ["text"] ["text"] (defScope s_is_mark) := ⟨rfl, rfl, rfl, by decide +kernel, rfl, by decide +kernel, by decide +kernel⟩
theorem sc_first_signs : FnScope [] [] (defScope s_first_signs) := ⟨rfl, rfl, rfl, by decide +kernel, rfl, by decide +kernel, by decide +kernel⟩
theorem sc_is_rank : FnScope ["rank"] ["rank"] (defScope s_is_rank) := ⟨rfl, rfl, rfl, by decide +kernel, rfl, by decide +kernel, by decide +kernel⟩
theorem sc_has_other_side : FnScope ["signs", "rank", "side"] ["signs", "rank", "side"] (defScope s_has_other_side) := ⟨rfl, rfl, rfl, by decide +kernel, rfl, by decide +kernel, by decide +kernel⟩
theorem sc_with_sign : FnScope ["signs", "mark", "rank", "side", "table"] ["signs", "mark", "rank", "side"] (defScope s_with_sign) := ⟨rfl, rfl, rfl, by decide +kernel, rfl, by decide +kernel, by decide +kernel⟩
theorem sc_l_cell_at : FnScope ["_law_script", "_law_k"] ["_law_script", "_law_k"] (defScope s_l_cell_at) := ⟨rfl, rfl, rfl, by decide +kernel, rfl, by decide +kernel, by decide +kernel⟩
theorem sc_l_whole : FnScope ["_law_found"] ["_law_found"] (defScope s_l_whole) := ⟨rfl, rfl, rfl, by decide +kernel, rfl, by decide +kernel, by decide +kernel⟩
theorem sc_l_stream : FnScope ["_law_cell", "_law_many", "_law_found", "_law_number", "_law_k"] ["_law_cell", "_law_many"] (defScope s_l_stream) := ⟨rfl, rfl, rfl, by decide +kernel, rfl, by decide +kernel, by decide +kernel⟩
theorem sc_l_cells : FnScope ["_law_script", "_law_at", "_law_many"] ["_law_script", "_law_at", "_law_many"] (defScope s_l_cells) := ⟨rfl, rfl, rfl, by decide +kernel, rfl, by decide +kernel, by decide +kernel⟩
theorem sc_l_mark : FnScope ["_law_cell", "_law_some", "_law_text"] ["_law_cell"] (defScope s_l_mark) := ⟨rfl, rfl, rfl, by decide +kernel, rfl, by decide +kernel, by decide +kernel⟩
theorem sc_l_nine : FnScope ["_law_table"] [] (defScope s_l_nine) := ⟨rfl, rfl, rfl, by decide +kernel, rfl, by decide +kernel, by decide +kernel⟩
theorem sc_l_some_mark : FnScope ["_law_cell", "_law_table", "_law_mark_here"] ["_law_cell", "_law_table"] (defScope s_l_some_mark) := ⟨rfl, rfl, rfl, by decide +kernel, rfl, by decide +kernel, by decide +kernel⟩
theorem sc_l_told_by : FnScope ["_law_cell", "_law_table", "_law_mark_here", "_law_number", "_law_rank", "_law_side", "_law_odd"] ["_law_cell", "_law_table"] (defScope s_l_told_by) := ⟨rfl, rfl, rfl, by decide +kernel, rfl, by decide +kernel, by decide +kernel⟩
theorem sc_l_takes : FnScope ["_law_table", "_law_mark_here", "_law_rank", "_law_side", "_law_sign", "_law_held"] ["_law_table", "_law_mark_here", "_law_rank", "_law_side"] (defScope s_l_takes) := ⟨rfl, rfl, rfl, by decide +kernel, rfl, by decide +kernel, by decide +kernel⟩
theorem sc_l_only_no_sign : FnScope ["_law_e"] ["_law_e"] (defScope s_l_only_no_sign) := ⟨rfl, rfl, rfl, by decide +kernel, rfl, by decide +kernel, by decide +kernel⟩
theorem sc_l_refused : FnScope ["_law_table", "_law_told", "_law_good", "_law_e"] ["_law_table", "_law_told"] (defScope s_l_refused) := ⟨rfl, rfl, rfl, by decide +kernel, rfl, by decide +kernel, by decide +kernel⟩
theorem sc_l_made : FnScope ["_law_table", "_law_told", "_law_made_here"] ["_law_table", "_law_told"] (defScope s_l_made) := ⟨rfl, rfl, rfl, by decide +kernel, rfl, by decide +kernel, by decide +kernel⟩
theorem sc_law : FnScope ["_law_script", "_law_table", "_law_due", "_law_given", "_law_no", "_law_cell", "_law_told", "_law_made_here", "_law_pair", "_law_last"] ["_law_script"] (defScope s_law) := ⟨rfl, rfl, rfl, by decide +kernel, rfl, by decide +kernel, by decide +kernel⟩
set_option genInjectivity false in
structure Ad where
  k_TrailError : Addr
  k_NoText : Addr
  k_NoSign : Addr
  k_NoRule : Addr
  k_Big : Addr
  a_TrailError_init : Addr
  d_TrailError_init : FuncData
  v_TrailError_init : Addr
  w_TrailError_init_0 : Tok
  a_is_mark : Addr
  d_is_mark : FuncData
  a_first_signs : Addr
  d_first_signs : FuncData
  a_is_rank : Addr
  d_is_rank : FuncData
  a_has_other_side : Addr
  d_has_other_side : FuncData
  a_with_sign : Addr
  d_with_sign : FuncData
  a_l_cell_at : Addr
  d_l_cell_at : FuncData
  a_l_whole : Addr
  d_l_whole : FuncData
  a_l_stream : Addr
  d_l_stream : FuncData
  a_l_cells : Addr
  d_l_cells : FuncData
  a_l_mark : Addr
  d_l_mark : FuncData
  a_l_nine : Addr
  d_l_nine : FuncData
  a_l_some_mark : Addr
  d_l_some_mark : FuncData
  a_l_told_by : Addr
  d_l_told_by : FuncData
  a_l_takes : Addr
  d_l_takes : FuncData
  a_l_only_no_sign : Addr
  d_l_only_no_sign : FuncData
  a_l_refused : Addr
  d_l_refused : FuncData
  a_l_made : Addr
  d_l_made : FuncData
  a_law : Addr
  d_law : FuncData
  t_ARROW : Tok
  t_MOST_MARK_SIGNS : Tok
  t_MARK_SIGNS : Tok
  c_FIRST : Addr
  c_FIRST_0 : Addr
  c_FIRST_1 : Addr
  c_FIRST_2 : Addr
  c_FIRST_3 : Addr
  c_FIRST_4 : Addr
  c_FIRST_5 : Addr
  c_FIRST_6 : Addr
  c_FIRST_7 : Addr
  c_FIRST_8 : Addr
  t_MOST_RANK : Tok
  c_SIDES : Addr
structure Txt (K : PySem.W.Frag) (mg : Str → Option Value) (t : Ad) : Prop where
  m_TrailError : mg "TrailError" = some (.ref t.k_TrailError)
  x_TrailError : XCls K t.k_TrailError [.type "ValueError", .type "Exception", .type "BaseException", .type "object"]
  u_TrailError : XUp [.type "ValueError", .type "Exception", .type "BaseException", .type "object"]
  at_TrailError : XAttr K t.k_TrailError
  no_TrailError_row : NoAttr K t.k_TrailError "row"
  mk_TrailError : XMk K t.k_TrailError [.type "ValueError", .type "Exception", .type "BaseException", .type "object"] t.a_TrailError_init
  m_NoText : mg "NoText" = some (.ref t.k_NoText)
  x_NoText : XCls K t.k_NoText [.ref t.k_TrailError, .type "ValueError", .type "Exception", .type "BaseException", .type "object"]
  u_NoText : XUp [.ref t.k_TrailError, .type "ValueError", .type "Exception", .type "BaseException", .type "object"]
  at_NoText : XAttr K t.k_NoText
  no_NoText_row : NoAttr K t.k_NoText "row"
  mk_NoText : XMk K t.k_NoText [.ref t.k_TrailError, .type "ValueError", .type "Exception", .type "BaseException", .type "object"] t.a_TrailError_init
  m_NoSign : mg "NoSign" = some (.ref t.k_NoSign)
  x_NoSign : XCls K t.k_NoSign [.ref t.k_TrailError, .type "ValueError", .type "Exception", .type "BaseException", .type "object"]
  u_NoSign : XUp [.ref t.k_TrailError, .type "ValueError", .type "Exception", .type "BaseException", .type "object"]
  at_NoSign : XAttr K t.k_NoSign
  no_NoSign_row : NoAttr K t.k_NoSign "row"
  mk_NoSign : XMk K t.k_NoSign [.ref t.k_TrailError, .type "ValueError", .type "Exception", .type "BaseException", .type "object"] t.a_TrailError_init
  is_NoSign : XIs K t.k_NoSign
  iz_NoSign_ValueError : PySem.W.kitOne K (.ref t.k_NoSign) (.type "ValueError") = some true
  iz_NoSign_NoSign : PySem.W.kitOne K (.ref t.k_NoSign) (.ref t.k_NoSign) = some true
  iy_NoSign_NoText_NoRule_Big : PySem.W.kitAny K (.ref t.k_NoSign) [.ref t.k_NoText, .ref t.k_NoRule, .ref t.k_Big] = some false
  m_NoRule : mg "NoRule" = some (.ref t.k_NoRule)
  x_NoRule : XCls K t.k_NoRule [.ref t.k_TrailError, .type "ValueError", .type "Exception", .type "BaseException", .type "object"]
  u_NoRule : XUp [.ref t.k_TrailError, .type "ValueError", .type "Exception", .type "BaseException", .type "object"]
  at_NoRule : XAttr K t.k_NoRule
  no_NoRule_row : NoAttr K t.k_NoRule "row"
  mk_NoRule : XMk K t.k_NoRule [.ref t.k_TrailError, .type "ValueError", .type "Exception", .type "BaseException", .type "object"] t.a_TrailError_init
  m_Big : mg "Big" = some (.ref t.k_Big)
  x_Big : XCls K t.k_Big [.ref t.k_TrailError, .type "ValueError", .type "Exception", .type "BaseException", .type "object"]
  u_Big : XUp [.ref t.k_TrailError, .type "ValueError", .type "Exception", .type "BaseException", .type "object"]
  at_Big : XAttr K t.k_Big
  no_Big_row : NoAttr K t.k_Big "row"
  mk_Big : XMk K t.k_Big [.ref t.k_TrailError, .type "ValueError", .type "Exception", .type "BaseException", .type "object"] t.a_TrailError_init
  F_TrailError_init : FunD K "__init__" "TrailError.__init__" s_TrailError_init t.a_TrailError_init t.d_TrailError_init (.ref t.v_TrailError_init)
  b_TrailError_init : Binds K t.d_TrailError_init ["self", "words", "row"] []
  bd_TrailError_init : Binds K t.d_TrailError_init ["self", "words", "row"] [.int 0 t.w_TrailError_init_0]
  F_is_mark : Fun K "is_mark" "is_mark" s_is_mark t.a_is_mark t.d_is_mark
  b_is_mark : Binds K t.d_is_mark ["text"] []
  m_is_mark : mg "is_mark" = some (.ref t.a_is_mark)
  F_first_signs : Fun K "first_signs" "first_signs" s_first_signs t.a_first_signs t.d_first_signs
  b_first_signs : Binds K t.d_first_signs [] []
  m_first_signs : mg "first_signs" = some (.ref t.a_first_signs)
  F_is_rank : Fun K "is_rank" "is_rank" s_is_rank t.a_is_rank t.d_is_rank
  b_is_rank : Binds K t.d_is_rank ["rank"] []
  m_is_rank : mg "is_rank" = some (.ref t.a_is_rank)
  F_has_other_side : Fun K "has_other_side" "has_other_side" s_has_other_side t.a_has_other_side t.d_has_other_side
  b_has_other_side : Binds K t.d_has_other_side ["signs", "rank", "side"] []
  m_has_other_side : mg "has_other_side" = some (.ref t.a_has_other_side)
  F_with_sign : Fun K "with_sign" "with_sign" s_with_sign t.a_with_sign t.d_with_sign
  b_with_sign : Binds K t.d_with_sign ["signs", "mark", "rank", "side"] []
  m_with_sign : mg "with_sign" = some (.ref t.a_with_sign)
  F_l_cell_at : Fun K "_law_cell_at" "_law_cell_at" s_l_cell_at t.a_l_cell_at t.d_l_cell_at
  b_l_cell_at : Binds K t.d_l_cell_at ["_law_script", "_law_k"] []
  m_l_cell_at : mg "_law_cell_at" = some (.ref t.a_l_cell_at)
  F_l_whole : Fun K "_law_whole" "_law_whole" s_l_whole t.a_l_whole t.d_l_whole
  b_l_whole : Binds K t.d_l_whole ["_law_found"] []
  m_l_whole : mg "_law_whole" = some (.ref t.a_l_whole)
  F_l_stream : Fun K "_law_stream" "_law_stream" s_l_stream t.a_l_stream t.d_l_stream
  b_l_stream : Binds K t.d_l_stream ["_law_cell", "_law_many"] []
  m_l_stream : mg "_law_stream" = some (.ref t.a_l_stream)
  F_l_cells : Fun K "_law_cells" "_law_cells" s_l_cells t.a_l_cells t.d_l_cells
  b_l_cells : Binds K t.d_l_cells ["_law_script", "_law_at", "_law_many"] []
  m_l_cells : mg "_law_cells" = some (.ref t.a_l_cells)
  F_l_mark : Fun K "_law_mark" "_law_mark" s_l_mark t.a_l_mark t.d_l_mark
  b_l_mark : Binds K t.d_l_mark ["_law_cell"] []
  m_l_mark : mg "_law_mark" = some (.ref t.a_l_mark)
  F_l_nine : Fun K "_law_nine" "_law_nine" s_l_nine t.a_l_nine t.d_l_nine
  b_l_nine : Binds K t.d_l_nine [] []
  m_l_nine : mg "_law_nine" = some (.ref t.a_l_nine)
  F_l_some_mark : Fun K "_law_some_mark" "_law_some_mark" s_l_some_mark t.a_l_some_mark t.d_l_some_mark
  b_l_some_mark : Binds K t.d_l_some_mark ["_law_cell", "_law_table"] []
  m_l_some_mark : mg "_law_some_mark" = some (.ref t.a_l_some_mark)
  F_l_told_by : Fun K "_law_told_by" "_law_told_by" s_l_told_by t.a_l_told_by t.d_l_told_by
  b_l_told_by : Binds K t.d_l_told_by ["_law_cell", "_law_table"] []
  m_l_told_by : mg "_law_told_by" = some (.ref t.a_l_told_by)
  F_l_takes : Fun K "_law_takes" "_law_takes" s_l_takes t.a_l_takes t.d_l_takes
  b_l_takes : Binds K t.d_l_takes ["_law_table", "_law_mark_here", "_law_rank", "_law_side"] []
  m_l_takes : mg "_law_takes" = some (.ref t.a_l_takes)
  F_l_only_no_sign : Fun K "_law_only_no_sign" "_law_only_no_sign" s_l_only_no_sign t.a_l_only_no_sign t.d_l_only_no_sign
  b_l_only_no_sign : Binds K t.d_l_only_no_sign ["_law_e"] []
  m_l_only_no_sign : mg "_law_only_no_sign" = some (.ref t.a_l_only_no_sign)
  F_l_refused : Fun K "_law_refused" "_law_refused" s_l_refused t.a_l_refused t.d_l_refused
  b_l_refused : Binds K t.d_l_refused ["_law_table", "_law_told"] []
  m_l_refused : mg "_law_refused" = some (.ref t.a_l_refused)
  F_l_made : Fun K "_law_made" "_law_made" s_l_made t.a_l_made t.d_l_made
  b_l_made : Binds K t.d_l_made ["_law_table", "_law_told"] []
  m_l_made : mg "_law_made" = some (.ref t.a_l_made)
  F_law : Fun K "law" "law" s_law t.a_law t.d_law
  b_law : Binds K t.d_law ["_law_script"] []
  m_law : mg "law" = some (.ref t.a_law)
  n_ValueError : mg "ValueError" = none
  n_all : mg "all" = none
  n_any : mg "any" = none
  n_bool : mg "bool" = none
  n_dict : mg "dict" = none
  n_int : mg "int" = none
  n_isinstance : mg "isinstance" = none
  n_len : mg "len" = none
  n_list : mg "list" = none
  n_min : mg "min" = none
  n_range : mg "range" = none
  n_str : mg "str" = none
  m_ARROW : mg "ARROW" = some (.str (PySem.Str.ofString "<-") t.t_ARROW)
  m_MOST_MARK_SIGNS : mg "MOST_MARK_SIGNS" = some (.int 3 t.t_MOST_MARK_SIGNS)
  m_MARK_SIGNS : mg "MARK_SIGNS" = some (.str (PySem.Str.ofString "+-*/:<=>&^?@#!;$") t.t_MARK_SIGNS)
  m_FIRST : mg "FIRST" = some (.ref t.c_FIRST)
  q_FIRST_0 : ∀ H : Hp, SqT K H t.c_FIRST_0 [.int 15, .str (PySem.Str.ofString "none")]
  q_FIRST_1 : ∀ H : Hp, SqT K H t.c_FIRST_1 [.int 15, .str (PySem.Str.ofString "none")]
  q_FIRST_2 : ∀ H : Hp, SqT K H t.c_FIRST_2 [.int 15, .str (PySem.Str.ofString "none")]
  q_FIRST_3 : ∀ H : Hp, SqT K H t.c_FIRST_3 [.int 15, .str (PySem.Str.ofString "none")]
  q_FIRST_4 : ∀ H : Hp, SqT K H t.c_FIRST_4 [.int 10, .str (PySem.Str.ofString "left")]
  q_FIRST_5 : ∀ H : Hp, SqT K H t.c_FIRST_5 [.int 10, .str (PySem.Str.ofString "left")]
  q_FIRST_6 : ∀ H : Hp, SqT K H t.c_FIRST_6 [.int 8, .str (PySem.Str.ofString "left")]
  q_FIRST_7 : ∀ H : Hp, SqT K H t.c_FIRST_7 [.int 8, .str (PySem.Str.ofString "left")]
  q_FIRST_8 : ∀ H : Hp, SqT K H t.c_FIRST_8 [.int 8, .str (PySem.Str.ofString "left")]
  e_FIRST : (t.c_FIRST == sysModules) = false
  m_MOST_RANK : mg "MOST_RANK" = some (.int 20 t.t_MOST_RANK)
  m_SIDES : mg "SIDES" = some (.ref t.c_SIDES)
  q_SIDES : ∀ H : Hp, SqT K H t.c_SIDES [.str (PySem.Str.ofString "left"), .str (PySem.Str.ofString "right"), .str (PySem.Str.ofString "none")]
theorem kvn_FIRST : ([Sum.inr (PySem.Str.ofString "="), Sum.inr (PySem.Str.ofString ":="), Sum.inr (PySem.Str.ofString "<"), Sum.inr (PySem.Str.ofString "<="), Sum.inr (PySem.Str.ofString "+"), Sum.inr (PySem.Str.ofString "-"), Sum.inr (PySem.Str.ofString "*"), Sum.inr (PySem.Str.ofString "/"), Sum.inr (PySem.Str.ofString "/:")] : List Key).Nodup := by decide +kernel
noncomputable def kv_FIRST (t : Ad) : List (Key × V) := [(Sum.inr (PySem.Str.ofString "="), .ref t.c_FIRST_0), (Sum.inr (PySem.Str.ofString ":="), .ref t.c_FIRST_1), (Sum.inr (PySem.Str.ofString "<"), .ref t.c_FIRST_2), (Sum.inr (PySem.Str.ofString "<="), .ref t.c_FIRST_3), (Sum.inr (PySem.Str.ofString "+"), .ref t.c_FIRST_4), (Sum.inr (PySem.Str.ofString "-"), .ref t.c_FIRST_5), (Sum.inr (PySem.Str.ofString "*"), .ref t.c_FIRST_6), (Sum.inr (PySem.Str.ofString "/"), .ref t.c_FIRST_7), (Sum.inr (PySem.Str.ofString "/:"), .ref t.c_FIRST_8)]
noncomputable abbrev leftS : Str := Str.ofString "left"
noncomputable abbrev rightS : Str := Str.ofString "right"
noncomputable abbrev noneS : Str := Str.ofString "none"
noncomputable abbrev R3 := Str × Int × Str
noncomputable def TabOk (K : PySem.W.Frag) (H : Hp) (kvs : List (Key × V)) (rows : List R3) : Prop := Paired (fun (p : Key × V) (q : R3) => p.1 = Sum.inr q.1 ∧ ∃ b, p.2 = .ref b ∧ SqT K H b [.int q.2.1, .str q.2.2]) kvs rows
section
variable {K : PySem.W.Frag} {H H' : Hp} {kvs : List (Key × V)} {rows : List R3}
theorem TabOk.monoT (h : TabOk K H kvs rows) (e : ∀ a xs, SqT K H a xs → SqT K H' a xs) : TabOk K H' kvs rows := Paired.mapP h fun _ _ z => ⟨z.1, z.2.elim fun b hb => ⟨b, hb.1, e _ _ hb.2⟩⟩
theorem TabOk.mono (h : TabOk K H kvs rows) (s : Same H H') : TabOk K H' kvs rows := h.monoT fun _ _ q => s.tup q
theorem TabOk.len (h : TabOk K H kvs rows) : kvs.length = rows.length := Paired.length h
noncomputable def hasM (rows : List R3) (x : Str) : Bool := rows.any fun q => decide (q.1 = x)
noncomputable def otherS (rows : List R3) (i : Int) (y : Str) : Bool := rows.any fun q => decide (q.2.1 = i) && !decide (q.2.2 = y)
theorem TabOk.has : ∀ {kvs : List (Key × V)} {rows : List R3}, TabOk K H kvs rows → ∀ x : Str, (valV kvs (Sum.inr x)).isSome = hasM rows x
  | [], [], _, x => rfl
  | (k, v) :: kr, q :: rr, .cons h r, x => by
    have e1 : k = Sum.inr q.1 := h.1
    subst e1
    have ih := TabOk.has r x
    unfold hasM at ih ⊢
    rw [List.any_cons]
    by_cases hx : q.1 = x
    · rw [valV_pos (by rw [hx]), decide_eq_true hx]; rfl
    · rw [valV_neg (fun z => hx (Sum.inr.inj z)), decide_eq_false hx, ih]; rfl
theorem pair_snoc {α β : Type} {R : α → β → Prop} {x : α} {y : β} (r : R x y) : ∀ {xs : List α} {ys : List β}, Paired R xs ys → Paired R (xs ++ [x]) (ys ++ [y])
  | _, _, .nil => .cons r .nil
  | _, _, .cons h t => .cons h (pair_snoc r t)
theorem TabOk.snoc {x y : Str} {i : Int} {b : Addr} (h : TabOk K H kvs rows) (n : hasM rows x = false) (hb : SqT K H b [.int i, .str y]) : TabOk K H (putK kvs (Sum.inr x) (.ref b)) (rows ++ [(x, i, y)]) := by
  have e : valV kvs (Sum.inr x) = none := by
    have := h.has x
    rw [n] at this
    exact Option.isSome_eq_false_iff.mp this |> Option.isNone_iff_eq_none.mp
  rw [putK_new _ e]
  exact pair_snoc ⟨rfl, b, rfl, hb⟩ h
theorem TabOk.val : ∀ {kvs : List (Key × V)} {rows : List R3}, TabOk K H kvs rows → (rows.map (·.1)).Nodup → ∀ q ∈ rows, ∃ b, valV kvs (Sum.inr q.1) = some (.ref b) ∧ SqT K H b [.int q.2.1, .str q.2.2]
  | [], [], _, _, q, hq => by simp at hq
  | (k, v) :: kr, p :: rr, .cons h r, hn, q, hq => by
    obtain ⟨e1, b, e2, hb⟩ := h
    have e1 : k = Sum.inr p.1 := e1
    have e2 : v = .ref b := e2
    subst e1 e2
    rw [List.map_cons, List.nodup_cons] at hn
    rcases List.mem_cons.mp hq with rfl | hq
    · exact ⟨b, valV_pos rfl, hb⟩
    · rw [valV_neg (fun z => hn.1 (by rw [Sum.inr.inj z]; exact List.mem_map.mpr ⟨q, hq, rfl⟩))]
      exact TabOk.val r hn.2 q hq
theorem tab_den {b : Addr} {i : Int} {y : Str} (h : SqT K H b [.int i, .str y]) : Den K H (.ref b) (.tuple [.int i, .str y]) := .tup h (.cons (.int _) (.cons (.str _) .nil))
theorem paired_mem {α β : Type} {R : α → β → Prop} : ∀ {xs : List α} {ys : List β}, Paired R xs ys → ∀ x ∈ xs, ∃ y ∈ ys, R x y
  | _, _, .nil, x, h => by simp at h
  | _, _, .cons r t, x, h => by
    rcases List.mem_cons.mp h with rfl | h
    · exact ⟨_, List.mem_cons_self, r⟩
    · obtain ⟨y, h1, h2⟩ := paired_mem t x h
      exact ⟨y, List.mem_cons_of_mem _ h1, h2⟩
theorem tab_eq {kb : List (Key × V)} {a b : Addr} {n : Bool} {Q : VK} (h1 : TabOk K H kvs rows) (h2 : TabOk K H kb rows) (hn : (rows.map (·.1)).Nodup) (ha : H a = some (.dK kvs)) (hb : H b = some (.dK kb)) (k : Q (.bl (!n)) H) : dEqK K n (.ref a) (.ref b) H Q := by
  refine ⟨a, b, kvs, kb, rfl, rfl, ha, hb, by rw [h1.len, h2.len], fun k v hk => ?_, k⟩
  obtain ⟨q, hq, e1, b', e2, hb'⟩ := paired_mem h1 _ hk
  have e1 : k = Sum.inr q.1 := e1
  have e2 : v = .ref b' := e2
  subst e1 e2
  obtain ⟨c, hc, hc'⟩ := h2.val hn q hq
  exact ⟨_, _, hc, tab_den hb', tab_den hc', by simp [PyData.depth, PyData.depthAll]⟩
theorem tup_dk {p : Addr} {ys : List (Key × V)} {o : HO} (h : H p = some (.dK ys)) : ∀ a xs, SqT K H a xs → SqT K (upd H p o) a xs := fun a xs q => by
  rcases q with (q | ⟨o', q⟩) | q
  · exact .inl (.inl (by rw [upd_ne (ne_of q h (fun z => by cases z))]; exact q))
  · exact .inl (.inr ⟨o', by rw [upd_ne (ne_of q h (fun z => by cases z))]; exact q⟩)
  · exact .inr q
end
theorem mergeK_new : ∀ (more kvs : List (Key × V)), (∀ p ∈ more, valV kvs p.1 = none) → (more.map (·.1)).Nodup → mergeK kvs more = kvs ++ more
  | [], kvs, _, _ => (List.append_nil _).symm
  | p :: r, kvs, h, hn => by
    rw [List.map_cons, List.nodup_cons] at hn
    show mergeK (putK kvs p.1 p.2) r = _
    rw [putK_new _ (h p List.mem_cons_self), mergeK_new r _ (fun q hq => ?_) hn.2, List.append_assoc]
    · rfl
    · have e : p.1 ≠ q.1 := fun z => hn.1 (by rw [z]; exact List.mem_map.mpr ⟨q, hq, rfl⟩)
      rw [valV_snoc _ _ _ _ (h p List.mem_cons_self), if_neg (Ne.symm e)]
      exact h q (List.mem_cons_of_mem _ hq)
noncomputable def nine : List R3 := [(Str.ofString "=", 15, noneS), (Str.ofString ":=", 15, noneS), (Str.ofString "<", 15, noneS), (Str.ofString "<=", 15, noneS), (Str.ofString "+", 10, leftS), (Str.ofString "-", 10, leftS), (Str.ofString "*", 8, leftS), (Str.ofString "/", 8, leftS), (Str.ofString "/:", 8, leftS)]
noncomputable def plainS (x : Str) : Prop := x.length ≤ 20 ∧ ∀ c ∈ x.cps.toList, c < 200
instance (x : Str) : Decidable (plainS x) := by unfold plainS; infer_instance
noncomputable def RW (rows : List R3) : Prop := rows ≠ [] ∧ (rows.map (·.1)).Nodup ∧ ∀ q ∈ rows, plainS q.1
theorem nine_ok : RW nine ∧ nine.length = 9 := by
  refine ⟨⟨by decide +kernel, by decide +kernel, ?_⟩, by decide +kernel⟩
  have h : ∀ q ∈ nine.map (·.1), plainS q := by decide +kernel
  exact fun q hq => h _ (List.mem_map.mpr ⟨q, hq, rfl⟩)
theorem RW.snoc {rows : List R3} {x y : Str} {i : Int} (h : RW rows) (n : hasM rows x = false) (hx : plainS x) : RW (rows ++ [(x, i, y)]) := by
  refine ⟨by simp, ?_, fun q hq => ?_⟩
  · rw [List.map_append, List.nodup_append]
    refine ⟨h.2.1, by simp, fun a ha b hb e => ?_⟩
    obtain ⟨q, hq, rfl⟩ := List.mem_map.mp ha
    have hb : b = x := by simpa using hb
    subst hb
    unfold hasM at n
    exact of_decide_eq_false (List.any_eq_false.mp n q hq |> Bool.eq_false_iff.mpr) e
  · rcases List.mem_append.mp hq with hq | hq
    · exact h.2.2 q hq
    · rw [List.mem_singleton.mp hq]; exact hx
noncomputable def marked (z : Str) : Bool := (decide ((1 : Int) ≤ z.length) && decide ((z.length : Int) ≤ 3)) && ((!decide (z = Str.ofString "<-")) && z.cps.toList.all fun c => inS (one c) markS)
noncomputable def sideB (y : Str) : Bool := decide (y ∈ [leftS, rightS, noneS])
noncomputable def takeB (rows : List R3) : V → V → V → Bool
  | .str x, .int i, .str y => marked x && (!hasM rows x && ((decide (1 ≤ i) && decide (i ≤ 20)) && (sideB y && !otherS rows i y)))
  | _, _, _ => false
noncomputable def markV : V → Bool | .str x => marked x | _ => false
noncomputable def rankV : V → Bool | .int i => decide (1 ≤ i) && decide (i ≤ 20) | _ => false
noncomputable def sideV : V → Bool | .str y => sideB y | _ => false
noncomputable def isI : V → Bool | .int _ => true | _ => false
noncomputable def mOk (m : V) : Prop := m = .non ∨ ∃ x, m = .str x ∧ plainS x
noncomputable def rOk (r : V) : Prop := r = .non ∨ r = .bl true ∨ r = .str (Str.ofString "7") ∨ ∃ i : Int, r = .int i ∧ -(10 ^ 12) < i ∧ i < 10 ^ 12
theorem int_short {i : Int} (h0 : -(10 ^ 12) < i) (h1 : i < 10 ^ 12) : i.natAbs.log2 < 1920 ∧ (Str.ofString (toString i)).length ≤ 1000 := by
  have hn : i.natAbs < 10 ^ 12 := by omega
  refine ⟨?_, ?_⟩
  · by_cases h : i.natAbs = 0
    · rw [h]; decide
    · exact Nat.lt_trans ((Nat.log2_lt h).mpr (Nat.lt_of_lt_of_le hn (show 10 ^ 12 ≤ 2 ^ 40 by decide))) (by decide)
  · have e := int_text_length_le10 (k := 12) (by decide) hn
    rw [PySem.ofString_length]
    omega
theorem mOk.show {m : V} (h : mOk m) : showV m := by
  rcases h with rfl | ⟨x, rfl, h1, h2⟩
  · trivial
  · exact ⟨fun c hc => Nat.lt_trans (h2 c hc) (by decide), Nat.le_trans h1 (by decide)⟩
theorem rOk.show {r : V} (h : rOk r) : showV r := by
  rcases h with rfl | rfl | rfl | ⟨i, rfl, h1, h2⟩
  · trivial
  · trivial
  · exact ⟨by decide +kernel, by decide +kernel⟩
  · exact int_short h1 h2
theorem rOk.flat {r : V} (h : rOk r) : flatV r = true := by rcases h with rfl | rfl | rfl | ⟨i, rfl, _⟩ <;> rfl
theorem mOk.flat {r : V} (h : mOk r) : flatV r = true := by rcases h with rfl | ⟨i, rfl, _⟩ <;> rfl
theorem take_m {rows : List R3} {m r s : V} (h : markV m = false) : takeB rows m r s = false := by
  cases m <;> cases r <;> cases s <;> first | rfl | (show (marked _ && _) = false; rw [show marked _ = false from h]; rfl)
theorem take_h {rows : List R3} {x : Str} {r s : V} (h : hasM rows x = true) : takeB rows (.str x) r s = false := by
  cases r <;> cases s <;> first | rfl | (show (_ && (!hasM rows x && _)) = false; rw [h]; simp)
theorem take_r {rows : List R3} {m r s : V} (h : rankV r = false) : takeB rows m r s = false := by
  cases m <;> cases r <;> cases s <;> first | rfl | (show (_ && (_ && ((decide _ && decide _) && _))) = false; rw [show (decide _ && decide _) = false from h]; simp)
theorem take_s {rows : List R3} {m r s : V} (h : sideV s = false) : takeB rows m r s = false := by
  cases m <;> cases r <;> cases s <;> first | rfl | (show (_ && (_ && (_ && (sideB _ && _)))) = false; rw [show sideB _ = false from h]; simp)
theorem take_o {rows : List R3} {m : V} {i : Int} {y : Str} (h : otherS rows i y = true) : takeB rows m (.int i) (.str y) = false := by
  cases m <;> first | rfl | (show (_ && (_ && (_ && (_ && !otherS rows i y)))) = false; rw [h]; simp)
theorem take_t {rows : List R3} {x y : Str} {i : Int} (h1 : marked x = true) (h2 : hasM rows x = false) (h3 : rankV (.int i) = true) (h4 : sideB y = true) (h5 : otherS rows i y = false) : takeB rows (.str x) (.int i) (.str y) = true := by
  show (marked x && (!hasM rows x && ((decide (1 ≤ i) && decide (i ≤ 20)) && (sideB y && !otherS rows i y)))) = true
  rw [h1, h2, show (decide (1 ≤ i) && decide (i ≤ 20)) = true from h3, h4, h5]
  rfl
theorem take_back {rows : List R3} {m r s : V} (h : takeB rows m r s = true) : ∃ x i y, m = .str x ∧ r = .int i ∧ s = .str y ∧ hasM rows x = false := by
  cases m <;> cases r <;> cases s <;> first | (exact absurd h Bool.false_ne_true) | skip
  rename_i x i y
  refine ⟨x, i, y, rfl, rfl, rfl, ?_⟩
  have h : (marked x && (!hasM rows x && ((decide (1 ≤ i) && decide (i ≤ 20)) && (sideB y && !otherS rows i y)))) = true := h
  cases e : hasM rows x with
  | false => rfl
  | true => rw [e] at h; simp at h
theorem sideV_in {s : V} (h : mOk s) : inV s ([leftS, rightS, noneS].map V.str) = sideV s := by
  rcases h with rfl | ⟨x, rfl, _⟩
  · rfl
  · exact inV_strs x _
section
variable {K : PySem.W.Frag} {H : Hp} {Q : VK}
theorem is_non_str (k : Q (.bl false) H) : mIs K [.non, .ty "str"] H Q := ⟨_, _, _, false, rfl, rfl, fun _ => kit_ty (by decide +kernel), k⟩
theorem is_non_int (k : Q (.bl false) H) : mIs K [.non, .ty "int"] H Q := ⟨_, _, _, false, rfl, rfl, fun _ => kit_ty (by decide +kernel), k⟩
theorem is_str_int {x : Str} (k : Q (.bl false) H) : mIs K [.str x, .ty "int"] H Q := ⟨_, _, _, false, rfl, rfl, fun _ => kit_ty (by decide +kernel), k⟩
theorem is_bl_int {b : Bool} (k : Q (.bl true) H) : mIs K [.bl b, .ty "int"] H Q := ⟨_, _, _, true, rfl, rfl, fun _ => kit_ty (by decide +kernel), k⟩
end
noncomputable def madeK (K : PySem.W.Frag) (H : Hp) (Q : VK) (F : Prop) (rows : List R3) (m r s : V) : Bool → Prop
  | true => ∀ (x : Str) (i : Int) (y : Str) (p : Addr) (kv : List (Key × V)) (H' : Hp), m = .str x → r = .int i → s = .str y → H p = none → Same H H' → H' p = some (.dK kv) → TabOk K H' kv (rows ++ [(x, i, y)]) → Q (.ref p) H'
  | false => F
noncomputable def TabAt (K : PySem.W.Frag) (H : Hp) (a : Addr) (rows : List R3) : Prop := ∃ kvs, H a = some (.dK kvs) ∧ TabOk K H kvs rows
theorem TabAt.mono {K : PySem.W.Frag} {H H' : Hp} {a : Addr} {rows : List R3} (h : TabAt K H a rows) (s : Same H H') : TabAt K H' a rows := h.elim fun kvs z => ⟨kvs, s _ _ z.1, z.2.mono s⟩
noncomputable abbrev sp_is_mark : Sp := fun vs H Q _ => match vs with | [m] => mOk m ∧ ∀ H', Same H H' → Q (.bl (markV m)) H' | _ => False
noncomputable abbrev sp_first_signs (K : PySem.W.Frag) : Sp := fun vs H Q _ => match vs with | [] => ∀ (p : Addr) (H' : Hp), H p = none → Same H H' → TabAt K H' p nine → Q (.ref p) H' | _ => False
noncomputable abbrev sp_is_rank : Sp := fun vs H Q _ => match vs with | [r] => rOk r ∧ Q (.bl (rankV r)) H | _ => False
noncomputable abbrev sp_has_other_side (K : PySem.W.Frag) : Sp := fun vs H Q _ => match vs with | [.ref a, .int i, .str y] => ∃ rows, TabAt K H a rows ∧ rows.length ≤ 50 ∧ ∀ H', Same H H' → Q (.bl (otherS rows i y)) H' | _ => False
noncomputable abbrev sp_with_sign (K : PySem.W.Frag) (C : Addr) : Sp := fun vs H Q E => match vs with | [.ref a, m, r, s] => ∃ rows, TabAt K H a rows ∧ rows.length ≤ 50 ∧ mOk m ∧ rOk r ∧ mOk s ∧ madeK K H Q (onX H C E) rows m r s (takeB rows m r s) | _ => False
noncomputable abbrev sp_l_whole : Sp := fun vs H Q _ => match vs with | [v] => flatV v = true ∧ Q (.bl (isI v)) H | _ => False
noncomputable abbrev sp_l_nine (K : PySem.W.Frag) : Sp := fun vs H Q _ => match vs with | [] => ∀ (p : Addr) (H' : Hp), H p = none → Same H H' → TabAt K H' p nine → Q (.ref p) H' | _ => False
noncomputable abbrev sp_l_some_mark (K : PySem.W.Frag) : Sp := fun vs H Q _ => match vs with | [.int c, .ref a] => ∃ rows, TabAt K H a rows ∧ rows.length ≤ 50 ∧ RW rows ∧ ∀ (x : Str) (H' : Hp), Same H H' → plainS x → Q (.str x) H' | _ => False
noncomputable abbrev sp_l_told_by (K : PySem.W.Frag) : Sp := fun vs H Q _ => match vs with | [.int c, .ref a] => ∃ rows, TabAt K H a rows ∧ rows.length ≤ 50 ∧ RW rows ∧ ∀ (td : Addr) (m r s : V) (H' : Hp), Same H H' → SqT K H' td [m, r, s] → mOk m → rOk r → mOk s → Q (.ref td) H' | _ => False
noncomputable abbrev sp_l_takes (K : PySem.W.Frag) : Sp := fun vs H Q _ => match vs with | [.ref a, m, r, s] => ∃ rows, TabAt K H a rows ∧ rows.length ≤ 50 ∧ mOk m ∧ rOk r ∧ mOk s ∧ ∀ H', Same H H' → Q (.bl (takeB rows m r s)) H' | _ => False
noncomputable abbrev sp_l_only_no_sign (K : PySem.W.Frag) (C : Addr) : Sp := fun vs H Q _ => match vs with | [.ref ea] => IsX H ea C [(rowS, .int 0)] ∧ ∀ H', Same H H' → Q (.bl true) H' | _ => False
noncomputable def ToldAt (K : PySem.W.Frag) (H : Hp) (td : Addr) (m r s : V) : Prop := SqT K H td [m, r, s] ∧ mOk m ∧ rOk r ∧ mOk s
noncomputable abbrev sp_l_refused (K : PySem.W.Frag) : Sp := fun vs H Q _ => match vs with | [.ref a, .ref td] => ∃ rows m r s, TabAt K H a rows ∧ rows.length ≤ 50 ∧ ToldAt K H td m r s ∧ takeB rows m r s = false ∧ ∀ H', Same H H' → Q (.bl true) H' | _ => False
noncomputable abbrev sp_l_made (K : PySem.W.Frag) : Sp := fun vs H Q _ => match vs with | [.ref a, .ref td] => ∃ rows m r s, TabAt K H a rows ∧ rows.length ≤ 50 ∧ ToldAt K H td m r s ∧ madeK K H Q (∀ H', Same H H' → Q .non H') rows m r s (takeB rows m r s) | _ => False
noncomputable abbrev sp_law (K : PySem.W.Frag) : Sp := fun vs H Q _ => match vs with | [.ref a] => ∃ ns : List Int, SqL K H a (ns.map V.int) ∧ ns.length ≤ 63 ∧ ∀ H', Q (.bl true) H' | _ => False
section
variable {P : Program} {w : World} {K : PySem.W.Frag} {mg : Str → Option Value} {base : Heap} {t : Ad}
theorem ok_TrailError_init (T : Txt K mg t)  : FnOk P w K mg base CX0 1 t.a_TrailError_init t.d_TrailError_init ["self", "words", "row"] (sp_TrailError_init K) := by
  refine T.F_TrailError_init.ok sc_TrailError_init (fun vs H Q E h => ?_) (fun cdv A outer s H vs Q E hr h => ?_)
  · unfold sp_TrailError_init at h
    split at h
    · rfl
    · exact h.elim
  unfold sp_TrailError_init at h
  split at h
  rotate_left
  · exact h.elim
  refine ⟨_, (pss_cons (ps_expr (pe_binit rfl T.n_ValueError (pa_con (mv 0) (pa_con (mv 1) pa_nil)))) (pss_one (ps_xset (mv 0) (mv 2)))), ?_⟩
  rename_i e v r
  obtain ⟨C, bm, fr, Xc, U, Xa, n1, hx, q⟩ := h
  walk_at "stp"
  refine ⟨e, C, none, fr, bm, v, rfl, hx, Xc, ?_⟩
  walk_at "stp"
  refine ⟨e, C, bm, fr, rfl, Xc, U, Xa, n1, .inl ⟨hx, fun dx hdx hne => ?_⟩⟩
  refine q _ ⟨⟨dx, hdx, hne, upd_same, by rw [upd_ne hne]; exact upd_same⟩, fun b hb o ho => ?_⟩
  rw [upd_ne hb, upd_ne (fun z => by rw [z, hdx] at ho; cases ho)]
  exact ho
theorem all_get (z : Str) (f : Nat → Bool) : ((List.range z.cps.size).map fun k => f (z.cps.getD k 0)).all id = z.cps.toList.all f := by
  rw [Bool.eq_iff_iff, List.all_eq_true, List.all_eq_true]
  constructor
  · intro h c hc
    obtain ⟨i, hi, e⟩ := List.getElem_of_mem hc
    have hi' : i < z.cps.size := by simpa using hi
    have := h (f (z.cps.getD i 0)) (List.mem_map.mpr ⟨i, List.mem_range.mpr hi', rfl⟩)
    rw [Array.getD_eq_getD_getElem?, ← Array.getElem?_toList, List.getElem?_eq_getElem hi] at this
    simpa [e] using this
  · intro h b hb
    obtain ⟨i, hi, rfl⟩ := List.mem_map.mp hb
    have hi := List.mem_range.mp hi
    rw [Array.getD_eq_getD_getElem?, Array.getElem?_eq_getElem hi]
    exact h _ (by simp)
theorem ok_is_mark (T : Txt K mg t)  : FnOk P w K mg base CX0 1 t.a_is_mark t.d_is_mark ["text"] (sp_is_mark) := by
  refine T.F_is_mark.ok sc_is_mark (fun vs H Q E h => ?_) (fun cdv A outer s H vs Q E hr h => ?_)
  · unfold sp_is_mark at h
    split at h
    · rfl
    · exact h.elim
  unfold sp_is_mark at h
  split at h
  rotate_left
  · exact h.elim
  refine ⟨_, (pss_cons (ps_if (PW.pt (pw_or (pt_not (kt_tru K rfl (pe_callB (kc_is K rfl) rfl T.n_isinstance boot_isinstance (pa_con (mv 0) (pa_con (pe_bty rfl T.n_str boot_str) pa_nil))))) (pw_or1 (pt_not (mt_chain mo_le mo_le pe_int (pe_callB (kc_len K rfl) rfl T.n_len PySem.boot_len (pa_con (mv 0) pa_nil)) (pe_gint rfl T.m_MOST_MARK_SIGNS)))))) (pss_one (ps_ret pe_bl)) pss_nil) (pss_one (ps_ret (me_and (pe_cmpR mo_ne (mv 0) (pe_gstr rfl T.m_ARROW) (nomark _)) (pe_one (pe_callB (kc_all K rfl rfl) rfl T.n_all boot_all (pa_con (pe_comp rfl (pi_str (mv 0)) (comp_sc (defScope s_is_mark) ["text"] ["text"] rfl rfl (by decide +kernel)) (fun _ _ _ _ _ => pts_nil) (fun _ _ _ _ _ => (pe_cmpR mo_inS (mv 0) (pe_gstr rfl T.m_MARK_SIGNS) (by with_unfolding_all rfl)))) pa_nil))))))), ?_⟩
  rename_i m
  obtain ⟨hm, q⟩ := h
  rcases hm with rfl | ⟨z, rfl, hz, hp⟩
  · walk_at "stp"
    refine is_non_str ?_
    walk_at "stp"
    refine iteT ?_
    walk_at "stp"
    exact q H (Same.refl H)
  have q : ∀ H', Same H H' → Q (.bl (marked z)) H' := q
  walk_at "stp"
  refine iteF ?_
  walk_at "stp"
  refine mLen_s (ln (by omega)) ?_
  walk_at "stp"
  unfold marked at q
  have lo : decide ((1 : Int) ≤ z.length) = false ∨ decide ((1 : Int) ≤ z.length) = true ∧ decide ((z.length : Int) ≤ 3) = false → Q (.bl false) H := fun c => by
    have q := q H (Same.refl H)
    rcases c with c | ⟨c1, c2⟩
    · rw [c] at q; simpa using q
    · rw [c1, c2] at q; simpa using q
  refine iteB (fun e => ?_) (fun e => ?_)
  rotate_left
  · walk_at "stp"
    exact lo (.inl e)
  walk_at "stp"
  refine iteB (fun e2 => ?_) (fun e2 => ?_)
  · walk_at "stp"
    refine lo (.inr ⟨e, ?_⟩)
    cases d : decide ((z.length : Int) ≤ 3) with
    | false => rfl
    | true => rw [d] at e2; cases e2
  have e2 : decide ((z.length : Int) ≤ 3) = true := by
    cases d : decide ((z.length : Int) ≤ 3) with
    | true => rfl
    | false => rw [d] at e2; cases e2
  rw [e, e2] at q
  simp only [Bool.and_self, Bool.true_and] at q
  walk_at "stp"
  refine iteB (fun e3 => ?_) (fun e3 => ?_)
  rotate_left
  · have e3 : decide (z = Str.ofString "<-") = true := by simpa using e3
    rw [e3] at q
    exact q H (Same.refl H)
  have e3 : decide (z = Str.ofString "<-") = false := by simpa using e3
  rw [e3] at q
  simp only [Bool.not_false, Bool.true_and] at q
  walk_at "stp"
  refine ⟨z, rfl, fun D hD => ?_⟩
  refine comp_row (row_str z) (fun i ys H' => Same H H' ∧ ys = ((List.range i).map fun k => inS (one (z.cps.getD k 0)) markS).map V.bl ∧ H' D = some (.lst ys)) (ln (by unfold Str.length at hz; omega)) ⟨same_new hD _, rfl, upd_same⟩ (fun _ _ _ _ => trivial) (fun i ys H' Q' hi hl hP k => ?_) (fun ys H' hl hP => ?_)
  · obtain ⟨h1, h2, h3⟩ := hP
    walk_at "stp"
    rw [Bool.false_xor]
    refine k _ _ h3 ⟨same_upd h1 hD, ?_, upd_same⟩
    rw [List.range_succ, List.map_append, List.map_append, h2]
    rfl
  · obtain ⟨h1, h2, h3⟩ := hP
    walk_at "stp"
    refine ⟨_, SqL.of (h2 ▸ h3), ?_⟩
    have := q H' h1
    rw [← all_get z (fun c => inS (one c) markS)] at this
    exact this
end
section
variable {P : Program} {w : World} {K : PySem.W.Frag} {mg : Str → Option Value} {base : Heap} {t : Ad}
theorem ok_first_signs (T : Txt K mg t) (D : KD P w K t.c_FIRST (kv_FIRST t))  : FnOk P w K mg base CX0 1 t.a_first_signs t.d_first_signs [] (sp_first_signs K) := by
  refine T.F_first_signs.ok sc_first_signs (fun vs H Q E h => ?_) (fun cdv A outer s H vs Q E hr h => ?_)
  · unfold sp_first_signs at h
    split at h
    · rfl
    · exact h.elim
  unfold sp_first_signs at h
  split at h
  rotate_left
  · exact h.elim
  refine ⟨_, (pss_one (ps_ret (pe_callTy (mc_dictKD D T.e_FIRST (ln (by show 9 ≤ 100000; decide))) rfl T.n_dict boot_dict (pa_con (pe_glob (v := .ref t.c_FIRST) rfl T.m_FIRST rfl) pa_nil)))), ?_⟩
  have q := h
  walk_at "stp"
  refine mDictKD_i fun p hp => ?_
  exact q p _ hp (same_new hp _) ⟨_, upd_same, (.cons ⟨rfl, _, rfl, T.q_FIRST_0 _⟩ (.cons ⟨rfl, _, rfl, T.q_FIRST_1 _⟩ (.cons ⟨rfl, _, rfl, T.q_FIRST_2 _⟩ (.cons ⟨rfl, _, rfl, T.q_FIRST_3 _⟩ (.cons ⟨rfl, _, rfl, T.q_FIRST_4 _⟩ (.cons ⟨rfl, _, rfl, T.q_FIRST_5 _⟩ (.cons ⟨rfl, _, rfl, T.q_FIRST_6 _⟩ (.cons ⟨rfl, _, rfl, T.q_FIRST_7 _⟩ (.cons ⟨rfl, _, rfl, T.q_FIRST_8 _⟩ .nil)))))))))⟩
theorem ok_is_rank (T : Txt K mg t)  : FnOk P w K mg base CX0 1 t.a_is_rank t.d_is_rank ["rank"] (sp_is_rank) := by
  refine T.F_is_rank.ok sc_is_rank (fun vs H Q E h => ?_) (fun cdv A outer s H vs Q E hr h => ?_)
  · unfold sp_is_rank at h
    split at h
    · rfl
    · exact h.elim
  unfold sp_is_rank at h
  split at h
  rotate_left
  · exact h.elim
  refine ⟨_, (pss_one (ps_ret (me_and (pe_callB (kc_is K rfl) rfl T.n_isinstance boot_isinstance (pa_con (mv 0) (pa_con (pe_bty rfl T.n_int boot_int) pa_nil))) (me_and (ke_not K rfl (pe_callB (kc_is K rfl) rfl T.n_isinstance boot_isinstance (pa_con (mv 0) (pa_con (pe_bty rfl T.n_bool boot_bool) pa_nil)))) (pe_one (me_chain mo_le mo_le pe_int (mv 0) (pe_gint rfl T.m_MOST_RANK))))))), ?_⟩
  rename_i r
  obtain ⟨hr0, q⟩ := h
  rcases hr0 with rfl | rfl | rfl | ⟨i, rfl, _⟩
  · walk_at "stp"
    refine is_non_int ?_
    walk_at "stp"
    exact q
  · walk_at "stp"
    refine is_bl_int ?_
    walk_at "stp"
    refine iteT ?_
    walk_at "stp"
    exact q
  · walk_at "stp"
    refine is_str_int ?_
    walk_at "stp"
    exact q
  · walk_at "stp"
    refine iteT ?_
    walk_at "stp"
    refine iteT ?_
    walk_at "stp"
    refine iteB (fun e => ?_) (fun e => ?_)
    · walk_at "stp"
      have q : Q (.bl (decide (1 ≤ i) && decide (i ≤ 20))) H := q
      rw [e, Bool.true_and] at q
      exact q
    · walk_at "stp"
      have q : Q (.bl (decide (1 ≤ i) && decide (i ≤ 20))) H := q
      rw [e, Bool.false_and] at q
      exact q
theorem ok_has_other_side (T : Txt K mg t)  : FnOk P w K mg base CX0 1 t.a_has_other_side t.d_has_other_side ["signs", "rank", "side"] (sp_has_other_side K) := by
  refine T.F_has_other_side.ok sc_has_other_side (fun vs H Q E h => ?_) (fun cdv A outer s H vs Q E hr h => ?_)
  · unfold sp_has_other_side at h
    split at h
    · rfl
    · exact h.elim
  unfold sp_has_other_side at h
  split at h
  rotate_left
  · exact h.elim
  refine ⟨_, (pss_one (ps_ret (pe_callB (kc_any K rfl rfl) rfl T.n_any boot_any (pa_con (pe_thawE (pe_comp rfl (pi_vals (ke_bm0 K rfl PySem.F.plainAttrs_dict PySem.F.slot_dict_values PySem.F.type_dict_values mm_valuesK (mv 0))) (comp_sc (defScope s_has_other_side) ["signs", "rank", "side"] ["signs", "rank", "side"] rfl rfl (by decide +kernel)) (fun _ _ _ _ _ => pts_nil) (fun _ _ _ _ _ => (me_and (pe_cmpR mo_eq (pe_ix (ki_seq K rfl) (mv 0) pe_int (fun _ _ => rfl)) (mv 2) (nomark _)) (pe_one (pe_cmpR mo_ne (pe_ix (ki_seq K rfl) (mv 0) pe_int (fun _ _ => rfl)) (mv 3) (nomark _))))))) pa_nil)))), ?_⟩
  rename_i a i y
  obtain ⟨rows, ⟨kvs, HA, tb⟩, hl, q⟩ := h
  have hlen := tb.len
  walk_at "stp"
  refine ⟨.inr (.inr (.inl ⟨rfl, .inl ⟨_, HA⟩⟩)), ?_⟩
  refine ⟨a, kvs, rfl, rfl, HA, fun p hp => ?_⟩
  have sp : Same H (upd H p (VView p a)) := same_new hp _
  have kp : (upd H p (VView p a)) p = some (VView p a) := upd_same
  generalize upd H p (VView p a) = HV at sp kp ⊢
  refine ⟨p, a, kvs, rfl, kp, sp _ _ HA, fun o nf D hD => ?_⟩
  have fr0 : (upd HV a (.frz o (.dK kvs))) a = some (.frz o (.dK kvs)) := upd_same
  have sT0 : ∀ b xs, SqT K H b xs → SqT K (upd HV a (.frz o (.dK kvs))) b xs := fun b xs z => tup_dk (sp _ _ HA) b xs (sp.tup z)
  have sO0 : ∀ b u, b ≠ a → H b = some u → (upd HV a (.frz o (.dK kvs))) b = some u := fun b u n z => by rw [upd_ne n]; exact sp _ _ z
  generalize upd HV a (.frz o (.dK kvs)) = HW at fr0 sT0 sO0 hD ⊢
  have hDa : a ≠ D := ne_of_none fr0 hD
  have hDH : H D = none := by
    cases e : H D with
    | none => rfl
    | some u => rw [sO0 D u (Ne.symm hDa) e] at hD; cases hD
  refine comp_row row_vals (fun k ys H' => Same HW H' ∧ ys = ((rows.take k).map fun q => decide (q.2.1 = i) && !decide (q.2.2 = y)).map V.bl ∧ H' D = some (.lst ys)) (ln (by omega)) ⟨same_new hD _, rfl, upd_same⟩ (fun k ys H' hP => hP.1 _ _ fr0) (fun k ys H' Q' hi hl2 hP kk => ?_) (fun ys H' hl2 hP => ?_)
  · obtain ⟨g1, g2, g3⟩ := hP
    have hx : kvs[k]? = some kvs[k] := List.getElem?_eq_getElem hi
    obtain ⟨r, hr1, e1, c, e2, hc⟩ := paired_get tb k _ hx
    rw [hx]
    simp only [Option.map_some, Option.getD_some]
    rw [e2]
    have hc' := g1.tup (sT0 _ _ hc)
    have et : ((rows.take (k + 1)).map fun q => decide (q.2.1 = i) && !decide (q.2.2 = y)) = ((rows.take k).map fun q => decide (q.2.1 = i) && !decide (q.2.2 = y)) ++ [decide (r.2.1 = i) && !decide (r.2.2 = y)] := by
      rw [List.take_add_one, hr1, List.map_append]
      rfl
    walk_at "stp"
    refine mIx_t hc' (v := .int r.2.1) rfl ?_
    walk_at "stp"
    rw [Bool.false_xor]
    refine iteB (fun e => ?_) (fun e => ?_)
    · walk_at "stp"
      refine mIx_t hc' (v := .str r.2.2) rfl ?_
      walk_at "stp"
      refine kk _ _ g3 ⟨same_upd g1 hD, ?_, upd_same⟩
      rw [et, e, g2, List.map_append, Bool.true_and, Bool.true_xor]
      rfl
    · walk_at "stp"
      refine kk _ _ g3 ⟨same_upd g1 hD, ?_, upd_same⟩
      rw [et, e, g2, List.map_append]
      rfl
  · obtain ⟨g1, g2, g3⟩ := hP
    rw [hlen, List.take_length] at g2
    refine ⟨a, o, kvs, nf, g1 _ _ fr0, ?_⟩
    walk_at "stp"
    refine ⟨_, SqL.of ((upd_ne (Ne.symm hDa)).trans (g2 ▸ g3)), ?_⟩
    have e : (rows.map fun q => decide (q.2.1 = i) && !decide (q.2.2 = y)).any id = otherS rows i y := by
      rw [List.any_map]
      rfl
    have hS : Same H (upd H' a (.dK kvs)) := fun b u z => by
      by_cases n : b = a
      · subst n
        rw [HA] at z
        rw [← z]
        exact upd_same
      · rw [upd_ne n]
        exact g1 _ _ (sO0 b u n z)
    have := q _ hS
    rw [← e] at this
    exact this
end
section
variable {P : Program} {w : World} {K : PySem.W.Frag} {mg : Str → Option Value} {base : Heap} {t : Ad}
theorem ok_with_sign (T : Txt K mg t) (G_has_other_side : FnOk P w K mg base CX0 1 t.a_has_other_side t.d_has_other_side ["signs", "rank", "side"] (sp_has_other_side K)) (G_is_mark : FnOk P w K mg base CX0 1 t.a_is_mark t.d_is_mark ["text"] (sp_is_mark)) (G_TrailError_init : FnOk P w K mg base CX0 1 t.a_TrailError_init t.d_TrailError_init ["self", "words", "row"] (sp_TrailError_init K)) (G_is_rank : FnOk P w K mg base CX0 1 t.a_is_rank t.d_is_rank ["rank"] (sp_is_rank)) : FnOk P w K mg base (CXo P w) 3 t.a_with_sign t.d_with_sign ["signs", "mark", "rank", "side"] (sp_with_sign K t.k_NoSign) := by
  refine T.F_with_sign.okX sc_with_sign (fun vs H Q E h => ?_) (fun cdv A outer s H vs Q E hr h => ?_)
  · unfold sp_with_sign at h
    split at h
    · rfl
    · exact h.elim
  unfold sp_with_sign at h
  split at h
  rotate_left
  · exact h.elim
  refine ⟨_, (pss_cons (ps_if (pt_not (kt_tru K rfl (pe_call G_is_mark (hr.mono (by first | decide | omega)) rfl T.m_is_mark T.F_is_mark.kp T.b_is_mark .nil pass0 (pa_con (mv 1) pa_nil)))) (pss_one (ps_raise rfl xeOk_cx (pe_xmake T.mk_NoSign G_TrailError_init (hr.mono (by first | decide | omega)) rfl T.m_NoSign T.bd_TrailError_init (show Vals [V.int 0] [Value.int 0 t.w_TrailError_init_0] from (.cons ⟨_, rfl⟩ .nil)) pass0 (pa_con (pe_frV (mv 1)) pa_nil)))) pss_nil) (pss_cons (ps_if (mt_cmp (ko_inD (hu_of hr)) (mv 1) (mv 0) (by with_unfolding_all rfl)) (pss_one (ps_raise rfl xeOk_cx (pe_xmake T.mk_NoSign G_TrailError_init (hr.mono (by first | decide | omega)) rfl T.m_NoSign T.bd_TrailError_init (show Vals [V.int 0] [Value.int 0 t.w_TrailError_init_0] from (.cons ⟨_, rfl⟩ .nil)) pass0 (pa_con (pe_f3 (mv 1)) pa_nil)))) pss_nil) (pss_cons (ps_if (pt_not (kt_tru K rfl (pe_call G_is_rank (hr.mono (by first | decide | omega)) rfl T.m_is_rank T.F_is_rank.kp T.b_is_rank .nil pass0 (pa_con (mv 2) pa_nil)))) (pss_one (ps_raise rfl xeOk_cx (pe_xmake T.mk_NoSign G_TrailError_init (hr.mono (by first | decide | omega)) rfl T.m_NoSign T.bd_TrailError_init (show Vals [V.int 0] [Value.int 0 t.w_TrailError_init_0] from (.cons ⟨_, rfl⟩ .nil)) pass0 (pa_con (pe_frV (mv 2)) pa_nil)))) pss_nil) (pss_cons (ps_if (mt_cmp (ko_ninV K rfl) (mv 3) (pe_glob (v := .ref t.c_SIDES) rfl T.m_SIDES rfl) (by with_unfolding_all rfl)) (pss_one (ps_raise rfl xeOk_cx (pe_xmake T.mk_NoSign G_TrailError_init (hr.mono (by first | decide | omega)) rfl T.m_NoSign T.bd_TrailError_init (show Vals [V.int 0] [Value.int 0 t.w_TrailError_init_0] from (.cons ⟨_, rfl⟩ .nil)) pass0 (pa_con (pe_frV (mv 3)) pa_nil)))) pss_nil) (pss_cons (ps_if (kt_tru K rfl (pe_call G_has_other_side (hr.mono (by first | decide | omega)) rfl T.m_has_other_side T.F_has_other_side.kp T.b_has_other_side .nil pass0 (pa_con (mv 0) (pa_con (mv 2) (pa_con (mv 3) pa_nil))))) (pss_one (ps_raise rfl xeOk_cx (pe_xmake T.mk_NoSign G_TrailError_init (hr.mono (by first | decide | omega)) rfl T.m_NoSign T.bd_TrailError_init (show Vals [V.int 0] [Value.int 0 t.w_TrailError_init_0] from (.cons ⟨_, rfl⟩ .nil)) pass0 (pa_con (pe_f4 (mv 2) (mv 3)) pa_nil)))) pss_nil) (pss_cons (ps_set (i := 4) (hs := sw_call) sc_with_sign.nd rfl (by first | exact Or.inl rfl | exact Or.inr rfl) (pe_callTy mc_dictK rfl T.n_dict boot_dict (pa_con (mv 0) pa_nil))) (pss_cons (ps_dput (hu_of hr) (mv 4) (mv 1) (pe_tup (pa_con (mv 2) (pa_con (mv 3) pa_nil))) rfl) (pss_one (ps_ret (mv 4)))))))))), ?_⟩
  rename_i a m r sd
  obtain ⟨rows, ⟨kvs, HA, tb⟩, hl, hm, hr0, hsd, q⟩ := h
  have hlen := tb.len
  walk_at "stp"
  refine ⟨hm, fun H1 s1 => ?_⟩
  walk_at "stp"
  refine iteB (fun e => ?_) (fun e => ?_)
  · have e : markV m = false := by simpa using e
    rw [take_m e] at q
    have q : onX H t.k_NoSign E := q
    walk_at "stp"
    refine ⟨hm.show, fun z => ?_⟩
    walk_at "stp"
    refine ⟨by simp, fun ea hea => ?_⟩
    refine ⟨t.k_NoSign, _, true, T.x_NoSign, T.u_NoSign, T.at_NoSign, T.no_NoSign_row, upd_same, fun H9 b9 => ⟨rfl, ?_⟩⟩
    obtain ⟨dx9, h91, h92, h93⟩ := born_raise hea (Same.refl _) hea b9
    refine ⟨ea, t.k_NoSign, dx9, _, rfl, T.x_NoSign, h91, ?_⟩
    exact q ea _ (s1.trans h93) h92
  have e : markV m = true := by simpa using e
  obtain ⟨x, rfl, hx⟩ : ∃ x, m = .str x ∧ plainS x := by
    rcases hm with rfl | ⟨x, rfl, hx⟩
    · cases e
    · exact ⟨x, rfl, hx⟩
  have e : marked x = true := e
  walk_at "stp"
  refine ⟨a, _, rfl, .inl ⟨kvs, .inr x, .inl (s1 _ _ HA), rfl, rfl⟩, ?_⟩
  rw [tb.has x, Bool.false_xor]
  walk_at "stp"
  refine iteB (fun e1 => ?_) (fun e1 => ?_)
  · rw [take_h e1] at q
    have q : onX H t.k_NoSign E := q
    walk_at "stp"
    refine ⟨ln (by decide +kernel), ?_⟩
    walk_at "stp"
    refine ⟨x, rfl, ln ?_, ?_⟩
    · have h1 := hx.1
      have l1 : (Str.ofString "the mark ").length = 9 := by decide +kernel
      have l2 : (Str.ofString " stands already").length = 15 := by decide +kernel
      omega
    walk_at "stp"
    refine ⟨by simp, fun ea hea => ?_⟩
    refine ⟨t.k_NoSign, _, true, T.x_NoSign, T.u_NoSign, T.at_NoSign, T.no_NoSign_row, upd_same, fun H9 b9 => ⟨rfl, ?_⟩⟩
    obtain ⟨dx9, h91, h92, h93⟩ := born_raise hea (Same.refl _) hea b9
    refine ⟨ea, t.k_NoSign, dx9, _, rfl, T.x_NoSign, h91, ?_⟩
    exact q ea _ (s1.trans h93) h92
  walk_at "stp"
  refine ⟨hr0, ?_⟩
  walk_at "stp"
  refine iteB (fun e2 => ?_) (fun e2 => ?_)
  · have e2 : rankV r = false := by simpa using e2
    rw [take_r e2] at q
    have q : onX H t.k_NoSign E := q
    walk_at "stp"
    refine ⟨hr0.show, fun z => ?_⟩
    walk_at "stp"
    refine ⟨by simp, fun ea hea => ?_⟩
    refine ⟨t.k_NoSign, _, true, T.x_NoSign, T.u_NoSign, T.at_NoSign, T.no_NoSign_row, upd_same, fun H9 b9 => ⟨rfl, ?_⟩⟩
    obtain ⟨dx9, h91, h92, h93⟩ := born_raise hea (Same.refl _) hea b9
    refine ⟨ea, t.k_NoSign, dx9, _, rfl, T.x_NoSign, h91, ?_⟩
    exact q ea _ (s1.trans h93) h92
  have e2 : rankV r = true := by simpa using e2
  obtain ⟨i, rfl, hi0, hi1⟩ : ∃ i : Int, r = .int i ∧ -(10 ^ 12) < i ∧ i < 10 ^ 12 := by
    rcases hr0 with rfl | rfl | rfl | ⟨i, rfl, h0, h1⟩
    · cases e2
    · cases e2
    · cases e2
    · exact ⟨i, rfl, h0, h1⟩
  walk_at "stp"
  refine ⟨_, _, rfl, .inr (T.q_SIDES _), hsd.flat, rfl, ?_⟩
  rw [if_pos rfl, show inV sd [V.str (Str.ofString "left"), V.str (Str.ofString "right"), V.str (Str.ofString "none")] = sideV sd from sideV_in hsd]
  walk_at "stp"
  refine iteB (fun e3 => ?_) (fun e3 => ?_)
  · have e3 : sideV sd = false := by simpa using e3
    rw [take_s e3] at q
    have q : onX H t.k_NoSign E := q
    walk_at "stp"
    refine ⟨hsd.show, fun z => ?_⟩
    walk_at "stp"
    refine ⟨by simp, fun ea hea => ?_⟩
    refine ⟨t.k_NoSign, _, true, T.x_NoSign, T.u_NoSign, T.at_NoSign, T.no_NoSign_row, upd_same, fun H9 b9 => ⟨rfl, ?_⟩⟩
    obtain ⟨dx9, h91, h92, h93⟩ := born_raise hea (Same.refl _) hea b9
    refine ⟨ea, t.k_NoSign, dx9, _, rfl, T.x_NoSign, h91, ?_⟩
    exact q ea _ (s1.trans h93) h92
  have e3 : sideV sd = true := by simpa using e3
  obtain ⟨y, rfl, hy⟩ : ∃ y, sd = .str y ∧ plainS y := by
    rcases hsd with rfl | ⟨x, rfl, hx⟩
    · cases e3
    · exact ⟨x, rfl, hx⟩
  walk_at "stp"
  refine ⟨rows, ⟨kvs, s1 _ _ HA, tb.mono s1⟩, hl, fun H2 s2 => ?_⟩
  have s12 := s1.trans s2
  walk_at "stp"
  refine iteB (fun e4 => ?_) (fun e4 => ?_)
  · rw [take_o e4] at q
    have q : onX H t.k_NoSign E := q
    walk_at "stp"
    refine ⟨i, rfl, (int_short hi0 hi1).1, (int_short hi0 hi1).2, ?_⟩
    walk_at "stp"
    refine ⟨y, rfl, Nat.le_trans hy.1 (by decide), fun z => ?_⟩
    walk_at "stp"
    refine ⟨by simp, fun ea hea => ?_⟩
    refine ⟨t.k_NoSign, _, true, T.x_NoSign, T.u_NoSign, T.at_NoSign, T.no_NoSign_row, upd_same, fun H9 b9 => ⟨rfl, ?_⟩⟩
    obtain ⟨dx9, h91, h92, h93⟩ := born_raise hea (Same.refl _) hea b9
    refine ⟨ea, t.k_NoSign, dx9, _, rfl, T.x_NoSign, h91, ?_⟩
    exact q ea _ (s12.trans h93) h92
  rw [take_t e e1 e2 e3 e4] at q
  walk_at "stp"
  refine ⟨a, kvs, rfl, s12 _ _ HA, fun p hp => ?_⟩
  have sp : Same H2 (upd H2 p (.dK kvs)) := same_new hp _
  have kp : (upd H2 p (.dK kvs)) p = some (.dK kvs) := upd_same
  generalize upd H2 p (.dK kvs) = H3 at sp kp ⊢
  walk_at "stp"
  refine ⟨ln (by show 2 ≤ 100000; decide), fun p4 hp4 => ?_⟩
  have sp4 : Same H3 (upd H3 p4 (.tup [.int i, .str y])) := same_new hp4 _
  have kp4 : (upd H3 p4 (.tup [.int i, .str y])) p4 = some (.tup [.int i, .str y]) := upd_same
  generalize upd H3 p4 (.tup [.int i, .str y]) = H4 at sp4 kp4 ⊢
  walk_at "stp"
  have kp' := sp4 _ _ kp
  refine ⟨p, _, rfl, .inl ⟨kvs, .inr x, kp', rfl, ln1 (by omega), rfl⟩, ?_⟩
  walk_at "stp"
  have s13 := s12.trans sp
  have pn : H p = none := s12.free hp
  have tb' := (tb.mono (s13.trans sp4)).snoc (b := p4) (i := i) (y := y) e1 (SqT.of kp4)
  exact q x i y p _ _ rfl rfl rfl pn (same_upd (s13.trans sp4) pn) upd_same (tb'.monoT (tup_dk kp'))
end
section
variable {P : Program} {w : World} {K : PySem.W.Frag} {mg : Str → Option Value} {base : Heap} {t : Ad}
theorem ok_l_cell_at (T : Txt K mg t)  : FnOk P w K mg base CX0 1 t.a_l_cell_at t.d_l_cell_at ["_law_script", "_law_k"] (sp_l_cell_at K) := by
  refine T.F_l_cell_at.ok sc_l_cell_at (fun vs H Q E h => ?_) (fun cdv A outer s H vs Q E hr h => ?_)
  · unfold sp_l_cell_at at h
    split at h
    · rfl
    · exact h.elim
  unfold sp_l_cell_at at h
  split at h
  rotate_left
  · exact h.elim
  refine ⟨_, (pss_cons (ps_if (mt_cmp mo_ge (mv 1) (pe_callB (kc_len K rfl) rfl T.n_len PySem.boot_len (pa_con (mv 0) pa_nil)) (nomark _)) (pss_one (ps_ret pe_int)) pss_nil) (pss_cons (ps_if (mt_chain mo_lt mo_lt (pe_un mu_neg pe_int) (pe_ix (ki_seq K rfl) (mv 0) (mv 1) (fun _ _ => rfl)) pe_int) (pss_one (ps_ret (pe_op mo_mod (pe_op mo_mul (pe_op mo_pow (pe_op (ko_add K rfl) (pe_op (ko_add K rfl) (pe_ix (ki_seq K rfl) (mv 0) (mv 1) (fun _ _ => rfl)) pe_int) (pe_op mo_mul pe_int (mv 1))) pe_int) pe_int) pe_int))) pss_nil) (pss_one (ps_ret (pe_ix (ki_seq K rfl) (mv 0) (mv 1) (fun _ _ => rfl)))))), ?_⟩
  rename_i a k
  obtain ⟨ns, hS, h0, h1, q⟩ := h
  walk_at "stp"
  refine mLen_l hS ?_
  walk_at "stp"
  refine iteB (fun e => ?_) (fun e => ?_)
  · walk_at "stp"
    exact q _
  · walk_at "stp"
    have hk : k < ((ns.map V.int).length : Int) := by
      have := of_decide_eq_false e
      omega
    obtain ⟨v, hv, hv2⟩ := atI_lt (xs := ns.map V.int) h0 hk
    obtain ⟨x, rfl⟩ := ints_at hv
    refine mIx_l hS hv ?_
    walk_at "stp"
    refine iteB (fun e1 => ?_) (fun e1 => ?_)
    · walk_at "stp"
      refine iteB (fun e2 => ?_) (fun e2 => ?_)
      · walk_at "stp"
        refine mIx_l hS hv ?_
        walk_at "stp"
        refine mMul_i (mulOk_left (by decide)) ?_
        walk_at "stp"
        have b1 := of_decide_eq_true e1
        have b2 := of_decide_eq_true e2
        refine m2_i (C := CPow) ⟨by decide, by decide, by omega⟩ ?_
        walk_at "stp"
        refine mMul_i (mulOk_right (by decide)) ?_
        walk_at "stp"
        exact q _
      · walk_at "stp"
        refine mIx_l hS hv ?_
        exact q _
    · walk_at "stp"
      refine iteF ?_
      walk_at "stp"
      refine mIx_l hS hv ?_
      exact q _
theorem ok_l_stream (T : Txt K mg t)  : FnOk P w K mg base CX0 1 t.a_l_stream t.d_l_stream ["_law_cell", "_law_many"] (sp_l_stream) := by
  refine T.F_l_stream.ok sc_l_stream (fun vs H Q E h => ?_) (fun cdv A outer s H vs Q E hr h => ?_)
  · unfold sp_l_stream at h
    split at h
    · rfl
    · exact h.elim
  unfold sp_l_stream at h
  split at h
  rotate_left
  · exact h.elim
  refine ⟨_, (pss_cons (ps_set (i := 2) (hs := sw_lst) sc_l_stream.nd rfl (by first | exact Or.inl rfl | exact Or.inr rfl) (pe_lst pa_nil)) (pss_cons (ps_set (i := 3) (hs := sw_bin) sc_l_stream.nd rfl (by first | exact Or.inl rfl | exact Or.inr rfl) (pe_op mo_mod (mv 0) pe_int)) (pss_cons (ps_for PassesOwn.never rfl (pi_range1 rfl T.n_range (pa_con (mv 1) pa_nil)) (pg_name (i := 4) sc_l_stream.nd rfl (by first | exact Or.inl rfl | exact Or.inr rfl)) (pss_cons (ps_set (i := 3) (hs := sw_bin) sc_l_stream.nd rfl (by first | exact Or.inl rfl | exact Or.inr rfl) (pe_op mo_mod (pe_op (ko_add K rfl) (pe_op (ko_add K rfl) (pe_op mo_mul (mv 3) pe_int) pe_int) (mv 4)) pe_int)) (pss_one (ps_expr (ke_bm K rfl PySem.F.plainAttrs_list PySem.F.slot_list_append PySem.F.type_list_append mm_append (mv 2) (pa_con (mv 3) pa_nil)))))) (pss_one (ps_ret (mv 2)))))), ?_⟩
  rename_i c m
  obtain ⟨h0, h1, q⟩ := h
  walk_at "stp"
  refine ⟨Nat.zero_le _, fun p hp => ?_⟩
  walk_at "stp"
  refine ⟨m, rfl, by omega, by omega, ?_⟩
  refine for_row (row_range 0 m.toNat) (fun i σ' H' => ∃ (v4 : Option V) (x : Int) (ns : List Int), σ' = [some (.int c), some (.int m), some (.ref p), some (.int x), v4] ∧ ns.length = i ∧ Same H H' ∧ H' p = some (.lst (ns.map V.int))) ⟨none, _, [], rfl, rfl, same_new hp _, upd_same⟩ (fun _ _ _ _ => trivial) (fun i σ' H' hi hP => ?_) (fun σ' H' hP => ?_)
  · obtain ⟨v4, x, ns, rfl, hl, h2, h3⟩ := hP
    walk_at "stp"
    refine mMul_i (mulOk_right (by decide)) ?_
    walk_at "stp"
    refine ⟨.inl ⟨rfl, _, SqL.of h3⟩, ?_⟩
    walk_at "stp"
    refine mAppend_i h3 (ln1 (by rw [List.length_map]; omega)) ?_
    refine ⟨_, _, ns ++ [(x * 48271 + 12820163 + (0 + (i : Int))) % 2147483647], rfl, by rw [List.length_append, hl]; rfl, same_upd h2 hp, ?_⟩
    rw [upd_same, List.map_append]
    rfl
  · obtain ⟨v4, x, ns, rfl, hl, h2, h3⟩ := hP
    walk_at "stp"
    exact q p ns H' hl h2 h3
theorem ok_l_cells (T : Txt K mg t) (G_l_stream : FnOk P w K mg base CX0 1 t.a_l_stream t.d_l_stream ["_law_cell", "_law_many"] (sp_l_stream)) (G_l_cell_at : FnOk P w K mg base CX0 1 t.a_l_cell_at t.d_l_cell_at ["_law_script", "_law_k"] (sp_l_cell_at K)) : FnOk P w K mg base CX0 2 t.a_l_cells t.d_l_cells ["_law_script", "_law_at", "_law_many"] (sp_l_cells K) := by
  refine T.F_l_cells.ok sc_l_cells (fun vs H Q E h => ?_) (fun cdv A outer s H vs Q E hr h => ?_)
  · unfold sp_l_cells at h
    split at h
    · rfl
    · exact h.elim
  unfold sp_l_cells at h
  split at h
  rotate_left
  · exact h.elim
  refine ⟨_, (pss_cons (ps_if (mt_cmp mo_eq (pe_op mo_mod (pe_call G_l_cell_at (hr.mono (by first | decide | omega)) rfl T.m_l_cell_at T.F_l_cell_at.kp T.b_l_cell_at .nil pass0 (pa_con (mv 0) (pa_con pe_int pa_nil))) pe_int) pe_int (nomark _)) (pss_one (ps_ret (pe_call G_l_stream (hr.mono (by first | decide | omega)) rfl T.m_l_stream T.F_l_stream.kp T.b_l_stream .nil pass0 (pa_con (pe_call G_l_cell_at (hr.mono (by first | decide | omega)) rfl T.m_l_cell_at T.F_l_cell_at.kp T.b_l_cell_at .nil pass0 (pa_con (mv 0) (pa_con (mv 1) pa_nil))) (pa_con (pe_op mo_mod (pe_op mo_fdiv (pe_call G_l_cell_at (hr.mono (by first | decide | omega)) rfl T.m_l_cell_at T.F_l_cell_at.kp T.b_l_cell_at .nil pass0 (pa_con (mv 0) (pa_con pe_int pa_nil))) pe_int) (pe_op (ko_add K rfl) (mv 2) pe_int)) pa_nil))))) pss_nil) (pss_one (ps_ret (pe_comp rfl (pi_range2 rfl T.n_range (pa_con (mv 1) (pa_con (pe_callB (mc_min rfl) rfl T.n_min boot_min (pa_con (pe_callB (kc_len K rfl) rfl T.n_len PySem.boot_len (pa_con (mv 0) pa_nil)) (pa_con (pe_op (ko_add K rfl) (mv 1) (mv 2)) pa_nil))) pa_nil))) (comp_sc (defScope s_l_cells) ["_law_script", "_law_at", "_law_many"] ["_law_script", "_law_at", "_law_many"] rfl rfl (by decide +kernel)) (fun _ _ _ _ _ => pts_nil) (fun _ _ _ _ _ => (pe_call G_l_cell_at (hr.mono (by first | decide | omega)) rfl T.m_l_cell_at T.F_l_cell_at.kp T.b_l_cell_at .nil pass0 (pa_con (mv 1) (pa_con (mv 0) pa_nil)))))))), ?_⟩
  rename_i a at_ m
  obtain ⟨ns, hS, hn, h0, h1, h2, h3, q⟩ := h
  walk_at "stp"
  refine ⟨ns, hS, by omega, by omega, fun c0 => ?_⟩
  walk_at "stp"
  refine iteB (fun e => ?_) (fun e => ?_)
  · walk_at "stp"
    refine ⟨ns, hS, h0, by omega, fun c1 => ?_⟩
    walk_at "stp"
    refine ⟨ns, hS, by omega, by omega, fun c2 => ?_⟩
    walk_at "stp"
    refine m2_i (show (0 : Int) < m + 1 by omega) ?_
    walk_at "stp"
    have b1 := Int.emod_nonneg (c2 / 4) (show m + 1 ≠ 0 by omega)
    have b2 := Int.emod_lt_of_pos (c2 / 4) (show 0 < m + 1 by omega)
    exact ⟨b1, by omega, fun p cs H' hl hs hp => q p cs H' (by omega) hs hp⟩
  · walk_at "stp"
    refine mLen_l hS ?_
    walk_at "stp"
    rw [List.length_map]
    obtain ⟨hi, hhi, hb⟩ : ∃ hi : Int, (if at_ + m < (ns.length : Int) then at_ + m else (ns.length : Int)) = hi ∧ hi ≤ at_ + m ∧ 0 ≤ hi ∧ hi ≤ 63 := ⟨_, rfl, by split <;> omega⟩
    rw [hhi]
    refine ⟨at_, hi, rfl, ⟨by omega, by omega, by omega, by omega⟩, fun D hD => ?_⟩
    refine comp_row (row_range at_ (hi - at_).toNat) (fun i ys H' => Same H H' ∧ (∃ cs : List Int, ys = cs.map V.int) ∧ H' D = some (.lst ys)) (ln (by omega)) ⟨same_new hD _, ⟨[], rfl⟩, upd_same⟩ (fun _ _ _ _ => trivial) (fun i ys H' Q' hi' hl' hP k => ?_) (fun ys H' hl' hP => ?_)
    · obtain ⟨g1, ⟨cs, g2⟩, g3⟩ := hP
      walk_at "stp"
      refine ⟨ns, g1.seq hS, by omega, by omega, fun v => ?_⟩
      exact k _ _ g3 ⟨same_upd g1 hD, ⟨cs ++ [v], by rw [g2, List.map_append]; rfl⟩, upd_same⟩
    · obtain ⟨g1, ⟨cs, g2⟩, g3⟩ := hP
      refine q D cs H' ?_ g1 (g2 ▸ g3)
      have := congrArg List.length g2
      rw [List.length_map, hl'] at this
      omega
theorem ok_l_mark (T : Txt K mg t)  : FnOk P w K mg base CX0 1 t.a_l_mark t.d_l_mark ["_law_cell"] (sp_l_mark) := by
  refine T.F_l_mark.ok sc_l_mark (fun vs H Q E h => ?_) (fun cdv A outer s H vs Q E hr h => ?_)
  · unfold sp_l_mark at h
    split at h
    · rfl
    · exact h.elim
  unfold sp_l_mark at h
  split at h
  rotate_left
  · exact h.elim
  refine ⟨_, (pss_cons (ps_set (i := 1) sc_l_mark.nd rfl (by first | exact Or.inl rfl | exact Or.inr rfl) pe_str) (pss_cons (ps_set (i := 2) (hs := sw_bin) sc_l_mark.nd rfl (by first | exact Or.inl rfl | exact Or.inr rfl) (pe_op (ko_add K rfl) (pe_op (ko_add K rfl) (pe_ix (ki_seq K rfl) (mv 1) (pe_op mo_mod (mv 0) pe_int) (fun _ _ => rfl)) (pe_ix (ki_seq K rfl) (mv 1) (pe_op mo_mod (pe_op mo_fdiv (mv 0) pe_int) pe_int) (fun _ _ => rfl))) (pe_ix (ki_seq K rfl) (mv 1) (pe_op mo_mod (pe_op mo_fdiv (mv 0) pe_int) pe_int) (fun _ _ => rfl)))) (pss_cons (ps_set (i := 2) (hs := sw_sub) sc_l_mark.nd rfl (by first | exact Or.inl rfl | exact Or.inr rfl) (pe_slice ms_str (mv 2) po_none (mp_some (pe_op (ko_add K rfl) pe_int (pe_op mo_mod (pe_op mo_fdiv (mv 0) pe_int) pe_int))))) (pss_cons (ps_if (mt_cmp mo_eq (mv 2) pe_str (nomark _)) (pss_one (ps_ret pe_str)) pss_nil) (pss_one (ps_ret (mv 2))))))), ?_⟩
  rename_i c
  have one_ix : ∀ n : Int, ∃ y, atI markS.cps.toList (n % 16) = some y := fun n =>
    ix_str_lt (z := markS) (Int.emod_nonneg n (by decide)) (by rw [mk16]; exact Int.emod_lt_of_pos n (by decide))
  obtain ⟨x1, h1⟩ := one_ix c
  obtain ⟨x2, h2⟩ := one_ix (c / 48)
  obtain ⟨x3, h3⟩ := one_ix (c / 768)
  have l16 : markS.length ≤ sizeLine := ln (by rw [mk16]; decide)
  walk_at "stp"
  refine mIx_s l16 h1 ?_
  walk_at "stp"
  refine mIx_s l16 h2 ?_
  walk_at "stp"
  refine mAdd_s (ln (by show 1 + 1 ≤ 100000; decide)) ?_
  walk_at "stp"
  refine mIx_s l16 h3 ?_
  walk_at "stp"
  refine mAdd_s (ln (by show 2 + 1 ≤ 100000; decide)) ?_
  walk_at "stp"
  refine mSlS_i (ln (by show 3 ≤ 100000; decide)) ?_
  walk_at "stp"
  have b1 := Int.emod_nonneg (c / 16) (show (3 : Int) ≠ 0 by decide)
  have b2 := Int.emod_lt_of_pos (c / 16) (show (0 : Int) < 3 by decide)
  have hz : ∃ z : List Nat, cutS (((⟨#[x1]⟩ : Str) ++ ⟨#[x2]⟩) ++ ⟨#[x3]⟩) none (some (1 + c / 16 % 3)) = ⟨z.toArray⟩ ∧ 1 ≤ z.length ∧ z.length ≤ 3 ∧ ∀ y ∈ z, y ∈ markS.cps.toList := by
    have m1 := atI_mem h1
    have m2 := atI_mem h2
    have m3 := atI_mem h3
    have e : ((⟨#[x1]⟩ : Str) ++ ⟨#[x2]⟩) ++ ⟨#[x3]⟩ = ⟨[x1, x2, x3].toArray⟩ := by
      rw [show (⟨#[x1]⟩ : Str) = ⟨[x1].toArray⟩ from rfl, show (⟨#[x2]⟩ : Str) = ⟨[x2].toArray⟩ from rfl, show (⟨#[x3]⟩ : Str) = ⟨[x3].toArray⟩ from rfl, str_app, str_app]
      rfl
    rw [e]
    have : c / 16 % 3 = 0 ∨ c / 16 % 3 = 1 ∨ c / 16 % 3 = 2 := by omega
    rcases this with e | e | e <;> rw [e]
    · exact ⟨[x1], rfl, by simp, by simp, fun y hy => by rw [List.mem_singleton.mp hy]; exact m1⟩
    · refine ⟨[x1, x2], rfl, by simp, by simp, fun y hy => ?_⟩
      simp only [List.mem_cons, List.not_mem_nil, or_false] at hy
      rcases hy with rfl | rfl
      · exact m1
      · exact m2
    · refine ⟨[x1, x2, x3], rfl, by simp, by simp, fun y hy => ?_⟩
      simp only [List.mem_cons, List.not_mem_nil, or_false] at hy
      rcases hy with rfl | rfl | rfl
      · exact m1
      · exact m2
      · exact m3
  obtain ⟨z, hz, z1, z2, z3⟩ := hz
  rw [hz]
  refine iteB (fun e => ?_) (fun e => ?_)
  · walk_at "stp"
    rw [back_eq]
    exact h [45, 62] (by decide) (by decide) (by decide +kernel) (by decide)
  · walk_at "stp"
    refine h z z1 z2 z3 fun k => ?_
    subst k
    have := of_decide_eq_false (xor_n e)
    exact this arrow_eq.symm
theorem ok_l_whole (T : Txt K mg t)  : FnOkN P w K mg base 1 t.a_l_whole t.d_l_whole ["_law_found"] (sp_l_whole) := by
  refine T.F_l_whole.okN sc_l_whole (fun vs H Q E h => ?_) (fun cdv A outer s H vs Q E hr h => ?_)
  · unfold sp_l_whole at h
    split at h
    · rfl
    · exact h.elim
  unfold sp_l_whole at h
  split at h
  rotate_left
  · exact h.elim
  refine ⟨_, (pss_one (ps_ret (me_and (pe_callB (kc_is K rfl) rfl T.n_isinstance boot_isinstance (pa_con (mv 0) (pa_con (pe_bty rfl T.n_int boot_int) pa_nil))) (pe_one (ke_not K rfl (pe_callB (kc_is K rfl) rfl T.n_isinstance boot_isinstance (pa_con (mv 0) (pa_con (pe_bty rfl T.n_bool boot_bool) pa_nil)))))))), ?_⟩
  rename_i v
  obtain ⟨hf, q⟩ := h
  cases v with
  | non =>
    walk_at "stp"
    refine is_non_int ?_
    walk_at "stp"
    refine iteF ?_
    exact q
  | bl b =>
    walk_at "stp"
    refine is_bl_int ?_
    walk_at "stp"
    refine iteT ?_
    walk_at "stp"
    exact q
  | int i =>
    walk_at "stp"
    refine iteT ?_
    walk_at "stp"
    exact q
  | str x =>
    walk_at "stp"
    refine is_str_int ?_
    walk_at "stp"
    refine iteF ?_
    exact q
  | byt _ => cases hf
  | flt _ => cases hf
  | ref _ => cases hf
  | ty _ => cases hf
theorem paired_app {α β : Type} {R : α → β → Prop} {xs2 : List α} {ys2 : List β} (h2 : Paired R xs2 ys2) : ∀ {xs : List α} {ys : List β}, Paired R xs ys → Paired R (xs ++ xs2) (ys ++ ys2)
  | _, _, .nil => h2
  | _, _, .cons h t => .cons h (paired_app h2 t)
theorem mergeK_keys (more kvs : List (Key × V)) (h : ∀ k ∈ more.map (·.1), k ∉ kvs.map (·.1)) (hn : (more.map (·.1)).Nodup) : mergeK kvs more = kvs ++ more := mergeK_new more kvs (fun p hp => by
  cases e : valV kvs p.1 with
  | none => rfl
  | some v => exact absurd (valV_in e) (h _ (List.mem_map.mpr ⟨p, hp, rfl⟩))) hn
theorem nd1 : ([Sum.inr (Str.ofString "="), Sum.inr (Str.ofString ":="), Sum.inr (Str.ofString "<"), Sum.inr (Str.ofString "<="), Sum.inr (Str.ofString "+")] : List Key).Nodup := by decide +kernel
theorem nd2 : ([Sum.inr (Str.ofString "-"), Sum.inr (Str.ofString "*"), Sum.inr (Str.ofString "/"), Sum.inr (Str.ofString "/:")] : List Key).Nodup := by decide +kernel
theorem dj12 : ∀ k ∈ ([Sum.inr (Str.ofString "-"), Sum.inr (Str.ofString "*"), Sum.inr (Str.ofString "/"), Sum.inr (Str.ofString "/:")] : List Key), k ∉ ([Sum.inr (Str.ofString "="), Sum.inr (Str.ofString ":="), Sum.inr (Str.ofString "<"), Sum.inr (Str.ofString "<="), Sum.inr (Str.ofString "+")] : List Key) := fun k hk z => (List.nodup_append.mp (show (([Sum.inr (Str.ofString "="), Sum.inr (Str.ofString ":="), Sum.inr (Str.ofString "<"), Sum.inr (Str.ofString "<="), Sum.inr (Str.ofString "+")] : List Key) ++ ([Sum.inr (Str.ofString "-"), Sum.inr (Str.ofString "*"), Sum.inr (Str.ofString "/"), Sum.inr (Str.ofString "/:")] : List Key)).Nodup by decide +kernel)).2.2 k z k hk rfl
theorem ok_l_nine (T : Txt K mg t)  : FnOk P w K mg base CX0 1 t.a_l_nine t.d_l_nine [] (sp_l_nine K) := by
  refine T.F_l_nine.ok sc_l_nine (fun vs H Q E h => ?_) (fun cdv A outer s H vs Q E hr h => ?_)
  · unfold sp_l_nine at h
    split at h
    · rfl
    · exact h.elim
  unfold sp_l_nine at h
  split at h
  rotate_left
  · exact h.elim
  refine ⟨_, (@QSs.pss _ _ _ (qss_cons (qs_set (i := 0) sc_l_nine.nd rfl (by first | exact Or.inl rfl | exact Or.inr rfl) (qe_disp (qp_cons pe_str (pe_tup (pa_cons pe_int (pa_cons pe_str pa_nil))) (qp_cons pe_str (pe_tup (pa_cons pe_int (pa_cons pe_str pa_nil))) (qp_cons pe_str (pe_tup (pa_cons pe_int (pa_cons pe_str pa_nil))) (qp_cons pe_str (pe_tup (pa_cons pe_int (pa_cons pe_str pa_nil))) (qp_cons pe_str (pe_tup (pa_cons pe_int (pa_cons pe_str pa_nil))) qp_nil))))) rfl rfl (by simp) (by decide)) rfl (by first | exact .inl rfl | exact .inr rfl)) (qss_cons (qs_upd K rfl (mv 0) (qe_disp (qp_cons pe_str (pe_tup (pa_cons pe_int (pa_cons pe_str pa_nil))) (qp_cons pe_str (pe_tup (pa_cons pe_int (pa_cons pe_str pa_nil))) (qp_cons pe_str (pe_tup (pa_cons pe_int (pa_cons pe_str pa_nil))) (qp_cons pe_str (pe_tup (pa_cons pe_int (pa_cons pe_str pa_nil))) qp_nil)))) rfl rfl (by simp) (by decide)) rfl rfl rfl rfl rfl rfl) (qss_one (qs_of (ps_ret (mv 0))))))), ?_⟩
  have q := h
  walk_at "stp"
  refine fun p hp => ?_
  have sp : Same H (upd H p (.dK [])) := same_new hp _
  have kp : (upd H p (.dK [])) p = some (.dK []) := upd_same
  generalize upd H p (.dK []) = Hp0 at sp kp ⊢
  walk_at "stp"
  refine ⟨ln (by show 2 ≤ 100000; decide), fun a0 ha0 => ?_⟩
  have sa0 : Same Hp0 (upd Hp0 a0 (.tup [.int 15, .str (Str.ofString "none")])) := same_new ha0 _
  have ka0 : (upd Hp0 a0 (.tup [.int 15, .str (Str.ofString "none")])) a0 = some (.tup [.int 15, .str (Str.ofString "none")]) := upd_same
  generalize upd Hp0 a0 (.tup [.int 15, .str (Str.ofString "none")]) = Ha0 at sa0 ka0 ⊢
  walk_at "stp"
  refine ⟨ln (by show 2 ≤ 100000; decide), fun a1 ha1 => ?_⟩
  have sa1 : Same Ha0 (upd Ha0 a1 (.tup [.int 15, .str (Str.ofString "none")])) := same_new ha1 _
  have ka1 : (upd Ha0 a1 (.tup [.int 15, .str (Str.ofString "none")])) a1 = some (.tup [.int 15, .str (Str.ofString "none")]) := upd_same
  generalize upd Ha0 a1 (.tup [.int 15, .str (Str.ofString "none")]) = Ha1 at sa1 ka1 ⊢
  walk_at "stp"
  refine ⟨ln (by show 2 ≤ 100000; decide), fun a2 ha2 => ?_⟩
  have sa2 : Same Ha1 (upd Ha1 a2 (.tup [.int 15, .str (Str.ofString "none")])) := same_new ha2 _
  have ka2 : (upd Ha1 a2 (.tup [.int 15, .str (Str.ofString "none")])) a2 = some (.tup [.int 15, .str (Str.ofString "none")]) := upd_same
  generalize upd Ha1 a2 (.tup [.int 15, .str (Str.ofString "none")]) = Ha2 at sa2 ka2 ⊢
  walk_at "stp"
  refine ⟨ln (by show 2 ≤ 100000; decide), fun a3 ha3 => ?_⟩
  have sa3 : Same Ha2 (upd Ha2 a3 (.tup [.int 15, .str (Str.ofString "none")])) := same_new ha3 _
  have ka3 : (upd Ha2 a3 (.tup [.int 15, .str (Str.ofString "none")])) a3 = some (.tup [.int 15, .str (Str.ofString "none")]) := upd_same
  generalize upd Ha2 a3 (.tup [.int 15, .str (Str.ofString "none")]) = Ha3 at sa3 ka3 ⊢
  walk_at "stp"
  refine ⟨ln (by show 2 ≤ 100000; decide), fun a4 ha4 => ?_⟩
  have sa4 : Same Ha3 (upd Ha3 a4 (.tup [.int 10, .str (Str.ofString "left")])) := same_new ha4 _
  have ka4 : (upd Ha3 a4 (.tup [.int 10, .str (Str.ofString "left")])) a4 = some (.tup [.int 10, .str (Str.ofString "left")]) := upd_same
  generalize upd Ha3 a4 (.tup [.int 10, .str (Str.ofString "left")]) = Ha4 at sa4 ka4 ⊢
  walk_at "stp"
  have kp1 := (sa0.trans (sa1.trans (sa2.trans (sa3.trans sa4)))) _ _ kp
  refine ⟨kp1, [((Sum.inr (Str.ofString "=") : Key), V.ref a0), ((Sum.inr (Str.ofString ":=") : Key), V.ref a1), ((Sum.inr (Str.ofString "<") : Key), V.ref a2), ((Sum.inr (Str.ofString "<=") : Key), V.ref a3), ((Sum.inr (Str.ofString "+") : Key), V.ref a4)], rfl, by simp, ?_⟩
  rw [mergeK_keys [((Sum.inr (Str.ofString "=") : Key), V.ref a0), ((Sum.inr (Str.ofString ":=") : Key), V.ref a1), ((Sum.inr (Str.ofString "<") : Key), V.ref a2), ((Sum.inr (Str.ofString "<=") : Key), V.ref a3), ((Sum.inr (Str.ofString "+") : Key), V.ref a4)] [] (fun _ _ z => by cases z) nd1, List.nil_append]
  have t1 : TabOk K Ha4 [((Sum.inr (Str.ofString "=") : Key), V.ref a0), ((Sum.inr (Str.ofString ":=") : Key), V.ref a1), ((Sum.inr (Str.ofString "<") : Key), V.ref a2), ((Sum.inr (Str.ofString "<=") : Key), V.ref a3), ((Sum.inr (Str.ofString "+") : Key), V.ref a4)] (nine.take 5) := (.cons ⟨rfl, _, rfl, SqT.of ((sa1.trans (sa2.trans (sa3.trans sa4))) _ _ ka0)⟩ (.cons ⟨rfl, _, rfl, SqT.of ((sa2.trans (sa3.trans sa4)) _ _ ka1)⟩ (.cons ⟨rfl, _, rfl, SqT.of ((sa3.trans sa4) _ _ ka2)⟩ (.cons ⟨rfl, _, rfl, SqT.of (sa4 _ _ ka3)⟩ (.cons ⟨rfl, _, rfl, SqT.of ((Same.refl _) _ _ ka4)⟩ .nil)))))
  have t1 := t1.monoT (tup_dk (o := .dK [((Sum.inr (Str.ofString "=") : Key), V.ref a0), ((Sum.inr (Str.ofString ":=") : Key), V.ref a1), ((Sum.inr (Str.ofString "<") : Key), V.ref a2), ((Sum.inr (Str.ofString "<=") : Key), V.ref a3), ((Sum.inr (Str.ofString "+") : Key), V.ref a4)]) kp1)
  have kpA : (upd Ha4 p (.dK [((Sum.inr (Str.ofString "=") : Key), V.ref a0), ((Sum.inr (Str.ofString ":=") : Key), V.ref a1), ((Sum.inr (Str.ofString "<") : Key), V.ref a2), ((Sum.inr (Str.ofString "<=") : Key), V.ref a3), ((Sum.inr (Str.ofString "+") : Key), V.ref a4)])) p = some (.dK [((Sum.inr (Str.ofString "=") : Key), V.ref a0), ((Sum.inr (Str.ofString ":=") : Key), V.ref a1), ((Sum.inr (Str.ofString "<") : Key), V.ref a2), ((Sum.inr (Str.ofString "<=") : Key), V.ref a3), ((Sum.inr (Str.ofString "+") : Key), V.ref a4)]) := upd_same
  have spA : Same H (upd Ha4 p (.dK [((Sum.inr (Str.ofString "=") : Key), V.ref a0), ((Sum.inr (Str.ofString ":=") : Key), V.ref a1), ((Sum.inr (Str.ofString "<") : Key), V.ref a2), ((Sum.inr (Str.ofString "<=") : Key), V.ref a3), ((Sum.inr (Str.ofString "+") : Key), V.ref a4)])) := same_upd (sp.trans (sa0.trans (sa1.trans (sa2.trans (sa3.trans sa4))))) hp
  generalize upd Ha4 p (.dK [((Sum.inr (Str.ofString "=") : Key), V.ref a0), ((Sum.inr (Str.ofString ":=") : Key), V.ref a1), ((Sum.inr (Str.ofString "<") : Key), V.ref a2), ((Sum.inr (Str.ofString "<=") : Key), V.ref a3), ((Sum.inr (Str.ofString "+") : Key), V.ref a4)]) = HA at t1 kpA spA ⊢
  walk_at "stp"
  refine ⟨.inr (.inr (.inl ⟨rfl, .inl ⟨_, kpA⟩⟩)), ?_⟩
  walk_at "stp"
  refine fun p2 hp2 => ?_
  have sp2 : Same HA (upd HA p2 (.dK [])) := same_new hp2 _
  have kp2 : (upd HA p2 (.dK [])) p2 = some (.dK []) := upd_same
  have hne : p ≠ p2 := ne_of_none kpA hp2
  generalize upd HA p2 (.dK []) = Hp1 at sp2 kp2 ⊢
  walk_at "stp"
  refine ⟨ln (by show 2 ≤ 100000; decide), fun b0 hb0 => ?_⟩
  have sb0 : Same Hp1 (upd Hp1 b0 (.tup [.int 10, .str (Str.ofString "left")])) := same_new hb0 _
  have kb0 : (upd Hp1 b0 (.tup [.int 10, .str (Str.ofString "left")])) b0 = some (.tup [.int 10, .str (Str.ofString "left")]) := upd_same
  generalize upd Hp1 b0 (.tup [.int 10, .str (Str.ofString "left")]) = Hb0 at sb0 kb0 ⊢
  walk_at "stp"
  refine ⟨ln (by show 2 ≤ 100000; decide), fun b1 hb1 => ?_⟩
  have sb1 : Same Hb0 (upd Hb0 b1 (.tup [.int 8, .str (Str.ofString "left")])) := same_new hb1 _
  have kb1 : (upd Hb0 b1 (.tup [.int 8, .str (Str.ofString "left")])) b1 = some (.tup [.int 8, .str (Str.ofString "left")]) := upd_same
  generalize upd Hb0 b1 (.tup [.int 8, .str (Str.ofString "left")]) = Hb1 at sb1 kb1 ⊢
  walk_at "stp"
  refine ⟨ln (by show 2 ≤ 100000; decide), fun b2 hb2 => ?_⟩
  have sb2 : Same Hb1 (upd Hb1 b2 (.tup [.int 8, .str (Str.ofString "left")])) := same_new hb2 _
  have kb2 : (upd Hb1 b2 (.tup [.int 8, .str (Str.ofString "left")])) b2 = some (.tup [.int 8, .str (Str.ofString "left")]) := upd_same
  generalize upd Hb1 b2 (.tup [.int 8, .str (Str.ofString "left")]) = Hb2 at sb2 kb2 ⊢
  walk_at "stp"
  refine ⟨ln (by show 2 ≤ 100000; decide), fun b3 hb3 => ?_⟩
  have sb3 : Same Hb2 (upd Hb2 b3 (.tup [.int 8, .str (Str.ofString "left")])) := same_new hb3 _
  have kb3 : (upd Hb2 b3 (.tup [.int 8, .str (Str.ofString "left")])) b3 = some (.tup [.int 8, .str (Str.ofString "left")]) := upd_same
  generalize upd Hb2 b3 (.tup [.int 8, .str (Str.ofString "left")]) = Hb3 at sb3 kb3 ⊢
  walk_at "stp"
  have kp3 := (sb0.trans (sb1.trans (sb2.trans sb3))) _ _ kp2
  have kpB := (sp2.trans (sb0.trans (sb1.trans (sb2.trans sb3)))) _ _ kpA
  have hp2H : H p2 = none := spA.free hp2
  refine ⟨kp3, [((Sum.inr (Str.ofString "-") : Key), V.ref b0), ((Sum.inr (Str.ofString "*") : Key), V.ref b1), ((Sum.inr (Str.ofString "/") : Key), V.ref b2), ((Sum.inr (Str.ofString "/:") : Key), V.ref b3)], rfl, by simp, ?_⟩
  rw [mergeK_keys [((Sum.inr (Str.ofString "-") : Key), V.ref b0), ((Sum.inr (Str.ofString "*") : Key), V.ref b1), ((Sum.inr (Str.ofString "/") : Key), V.ref b2), ((Sum.inr (Str.ofString "/:") : Key), V.ref b3)] [] (fun _ _ z => by cases z) nd2, List.nil_append]
  have t2 : TabOk K Hb3 [((Sum.inr (Str.ofString "-") : Key), V.ref b0), ((Sum.inr (Str.ofString "*") : Key), V.ref b1), ((Sum.inr (Str.ofString "/") : Key), V.ref b2), ((Sum.inr (Str.ofString "/:") : Key), V.ref b3)] (nine.drop 5) := (.cons ⟨rfl, _, rfl, SqT.of ((sb1.trans (sb2.trans sb3)) _ _ kb0)⟩ (.cons ⟨rfl, _, rfl, SqT.of ((sb2.trans sb3) _ _ kb1)⟩ (.cons ⟨rfl, _, rfl, SqT.of (sb3 _ _ kb2)⟩ (.cons ⟨rfl, _, rfl, SqT.of ((Same.refl _) _ _ kb3)⟩ .nil))))
  have t3 : TabOk K Hb3 ([((Sum.inr (Str.ofString "=") : Key), V.ref a0), ((Sum.inr (Str.ofString ":=") : Key), V.ref a1), ((Sum.inr (Str.ofString "<") : Key), V.ref a2), ((Sum.inr (Str.ofString "<=") : Key), V.ref a3), ((Sum.inr (Str.ofString "+") : Key), V.ref a4)] ++ [((Sum.inr (Str.ofString "-") : Key), V.ref b0), ((Sum.inr (Str.ofString "*") : Key), V.ref b1), ((Sum.inr (Str.ofString "/") : Key), V.ref b2), ((Sum.inr (Str.ofString "/:") : Key), V.ref b3)]) (nine.take 5 ++ nine.drop 5) := paired_app t2 (t1.mono (sp2.trans (sb0.trans (sb1.trans (sb2.trans sb3)))))
  have t3 := t3.monoT (tup_dk (o := .dK [((Sum.inr (Str.ofString "-") : Key), V.ref b0), ((Sum.inr (Str.ofString "*") : Key), V.ref b1), ((Sum.inr (Str.ofString "/") : Key), V.ref b2), ((Sum.inr (Str.ofString "/:") : Key), V.ref b3)]) kp3)
  walk_at "stp"
  have kpC : (upd Hb3 p2 (.dK [((Sum.inr (Str.ofString "-") : Key), V.ref b0), ((Sum.inr (Str.ofString "*") : Key), V.ref b1), ((Sum.inr (Str.ofString "/") : Key), V.ref b2), ((Sum.inr (Str.ofString "/:") : Key), V.ref b3)])) p = some (.dK [((Sum.inr (Str.ofString "=") : Key), V.ref a0), ((Sum.inr (Str.ofString ":=") : Key), V.ref a1), ((Sum.inr (Str.ofString "<") : Key), V.ref a2), ((Sum.inr (Str.ofString "<=") : Key), V.ref a3), ((Sum.inr (Str.ofString "+") : Key), V.ref a4)]) := by rw [upd_ne hne]; exact kpB
  refine mUpd_i hne kpC upd_same (ln (by show 9 ≤ 100000; decide)) ?_
  rw [mergeK_keys [((Sum.inr (Str.ofString "-") : Key), V.ref b0), ((Sum.inr (Str.ofString "*") : Key), V.ref b1), ((Sum.inr (Str.ofString "/") : Key), V.ref b2), ((Sum.inr (Str.ofString "/:") : Key), V.ref b3)] [((Sum.inr (Str.ofString "=") : Key), V.ref a0), ((Sum.inr (Str.ofString ":=") : Key), V.ref a1), ((Sum.inr (Str.ofString "<") : Key), V.ref a2), ((Sum.inr (Str.ofString "<=") : Key), V.ref a3), ((Sum.inr (Str.ofString "+") : Key), V.ref a4)] dj12 nd2]
  have t3 := t3.monoT (tup_dk (o := .dK ([((Sum.inr (Str.ofString "=") : Key), V.ref a0), ((Sum.inr (Str.ofString ":=") : Key), V.ref a1), ((Sum.inr (Str.ofString "<") : Key), V.ref a2), ((Sum.inr (Str.ofString "<=") : Key), V.ref a3), ((Sum.inr (Str.ofString "+") : Key), V.ref a4)] ++ [((Sum.inr (Str.ofString "-") : Key), V.ref b0), ((Sum.inr (Str.ofString "*") : Key), V.ref b1), ((Sum.inr (Str.ofString "/") : Key), V.ref b2), ((Sum.inr (Str.ofString "/:") : Key), V.ref b3)])) kpC)
  have sB := same_upd (o := .dK ([((Sum.inr (Str.ofString "=") : Key), V.ref a0), ((Sum.inr (Str.ofString ":=") : Key), V.ref a1), ((Sum.inr (Str.ofString "<") : Key), V.ref a2), ((Sum.inr (Str.ofString "<=") : Key), V.ref a3), ((Sum.inr (Str.ofString "+") : Key), V.ref a4)] ++ [((Sum.inr (Str.ofString "-") : Key), V.ref b0), ((Sum.inr (Str.ofString "*") : Key), V.ref b1), ((Sum.inr (Str.ofString "/") : Key), V.ref b2), ((Sum.inr (Str.ofString "/:") : Key), V.ref b3)])) (same_upd (o := .dK [((Sum.inr (Str.ofString "-") : Key), V.ref b0), ((Sum.inr (Str.ofString "*") : Key), V.ref b1), ((Sum.inr (Str.ofString "/") : Key), V.ref b2), ((Sum.inr (Str.ofString "/:") : Key), V.ref b3)]) (spA.trans (sp2.trans (sb0.trans (sb1.trans (sb2.trans sb3))))) hp2H) hp
  walk_at "stp"
  exact q p _ hp sB ⟨_, upd_same, t3⟩
end
section
variable {P : Program} {w : World} {K : PySem.W.Frag} {mg : Str → Option Value} {base : Heap} {t : Ad}
theorem cut_sub (z : List Nat) (lo hi : Option Int) : ∃ w : List Nat, cutS ⟨z.toArray⟩ lo hi = ⟨w.toArray⟩ ∧ w.length ≤ z.length ∧ ∀ c ∈ w, c ∈ z := by
  refine ⟨_, rfl, ?_, fun c hc => ?_⟩
  · simp only [List.length_take, List.length_drop]
    omega
  · exact List.mem_of_mem_drop (List.mem_of_mem_take hc)
theorem plain_l {l : List Nat} (h : l.length ≤ 20) (g : ∀ c ∈ l, c < 200) : plainS ⟨l.toArray⟩ := ⟨by rw [str_len]; exact h, fun c hc => g c (by simpa using hc)⟩
theorem mark_plain : ∀ c ∈ markS.cps.toList, c < 200 := by decide +kernel
theorem plain_app {l : List Nat} {y : Str} (h : l.length ≤ 10) (g : ∀ c ∈ l, c < 200) (hy : plainS y) (hl : y.length ≤ 10) : plainS ((⟨l.toArray⟩ : Str) ++ y) := by
  refine ⟨by rw [strLen_append, str_len]; omega, fun c hc => ?_⟩
  have e : ((⟨l.toArray⟩ : Str) ++ y).cps = l.toArray ++ y.cps := rfl
  rw [e, Array.toList_append, List.mem_append] at hc
  rcases hc with hc | hc
  · exact g c (by simpa using hc)
  · exact hy.2 c hc
theorem strs_at {xs : List Str} {i : Int} (h : ∀ x ∈ xs, plainS x) (h0 : 0 ≤ i) (h1 : i < (xs.length : Int)) : ∃ x, atI (xs.map V.str) i = some (.str x) ∧ plainS x := by
  obtain ⟨v, hv, hv2⟩ := atI_lt (xs := xs.map V.str) h0 (by rw [List.length_map]; exact h1)
  obtain ⟨x, hx, rfl⟩ := List.mem_map.mp (atI_mem hv)
  exact ⟨x, hv, h x hx⟩
theorem lits_plain : ∀ x ∈ [Str.ofString "", Str.ofString "+*=+", Str.ofString "<-", Str.ofString "a", Str.ofString "~", Str.ofString " ", Str.ofString "|", Str.ofString "<->+"], plainS x ∧ x.length ≤ 10 := by decide +kernel
theorem ok_l_some_mark (T : Txt K mg t) (G_l_mark : FnOk P w K mg base CX0 1 t.a_l_mark t.d_l_mark ["_law_cell"] (sp_l_mark)) : FnOk P w K mg base CX0 2 t.a_l_some_mark t.d_l_some_mark ["_law_cell", "_law_table"] (sp_l_some_mark K) := by
  refine T.F_l_some_mark.ok sc_l_some_mark (fun vs H Q E h => ?_) (fun cdv A outer s H vs Q E hr h => ?_)
  · unfold sp_l_some_mark at h
    split at h
    · rfl
    · exact h.elim
  unfold sp_l_some_mark at h
  split at h
  rotate_left
  · exact h.elim
  refine ⟨_, (pss_cons (ps_if (mt_cmp mo_eq (pe_op mo_mod (mv 0) pe_int) pe_int (nomark _)) (pss_one (ps_ret (pe_ix (ki_seq K rfl) (pe_callTy (mc_listK rfl) rfl T.n_list boot_list (pa_con (mv 1) pa_nil)) (pe_op mo_mod (pe_op mo_fdiv (mv 0) pe_int) (pe_callB call_lenD rfl T.n_len PySem.boot_len (pa_con (mv 1) pa_nil))) (fun _ _ => rfl)))) pss_nil) (pss_cons (ps_if (mt_cmp mo_eq (pe_op mo_mod (mv 0) pe_int) pe_int (nomark _)) (pss_cons (ps_set (i := 2) (hs := sw_call) sc_l_some_mark.nd rfl (by first | exact Or.inl rfl | exact Or.inr rfl) (pe_call G_l_mark (hr.mono (by first | decide | omega)) rfl T.m_l_mark T.F_l_mark.kp T.b_l_mark .nil pass0 (pa_con (pe_op mo_fdiv (mv 0) pe_int) pa_nil))) (pss_one (ps_ret (pe_ix (ki_seq K rfl) (pe_lst (pa_con pe_str (pa_con (pe_op (ko_add K rfl) (mv 2) pe_str) (pa_con pe_str (pa_con pe_str (pa_con (pe_op (ko_add K rfl) (pe_slice ms_str (mv 2) po_none (mp_some pe_int)) pe_str) (pa_con pe_str (pa_con pe_str (pa_con (pe_op (ko_add K rfl) (pe_slice ms_str (mv 2) po_none (mp_some pe_int)) pe_str) (pa_con pe_str (pa_con pe_str pa_nil))))))))))) (pe_op mo_mod (pe_op mo_fdiv (mv 0) pe_int) pe_int) (fun _ _ => rfl))))) pss_nil) (pss_one (ps_ret (pe_call G_l_mark (hr.mono (by first | decide | omega)) rfl T.m_l_mark T.F_l_mark.kp T.b_l_mark .nil pass0 (pa_con (pe_op mo_fdiv (mv 0) pe_int) pa_nil)))))), ?_⟩
  rename_i c a
  obtain ⟨rows, ⟨kvs, HA, tb⟩, hl, hw, q⟩ := h
  have hlen := tb.len
  have hpos : 0 < rows.length := List.length_pos_iff.mpr hw.1
  walk_at "stp"
  refine iteB (fun e => ?_) (fun e => ?_)
  · walk_at "stp"
    refine ⟨a, kvs, rfl, .inl HA, fun p hp => ?_⟩
    walk_at "stp"
    have sp := same_new hp (.lst (kvs.map fun kv => kV kv.1))
    refine ⟨a, kvs, rfl, sp _ _ HA, ?_⟩
    refine m2_i (show (0 : Int) < (kvs.length : Int) by omega) ?_
    have b1 := Int.emod_nonneg (c / 6) (show (kvs.length : Int) ≠ 0 by omega)
    have b2 := Int.emod_lt_of_pos (c / 6) (show 0 < (kvs.length : Int) by omega)
    obtain ⟨v, hv, hv2⟩ := atI_lt (xs := kvs.map fun kv => kV kv.1) b1 (by rw [List.length_map]; exact b2)
    refine mIx_l (SqL.of upd_same) hv ?_
    obtain ⟨kv, h1, rfl⟩ := List.mem_map.mp (atI_mem hv)
    obtain ⟨r, hr1, e1, _⟩ := paired_mem tb _ h1
    rw [e1]
    exact q r.1 _ sp (hw.2.2 r hr1)
  walk_at "stp"
  refine iteB (fun e1 => ?_) (fun e1 => ?_)
  · walk_at "stp"
    refine fun z z1 z2 z3 _ => ?_
    have zp : ∀ y ∈ z, y < 200 := fun y hy => mark_plain y (z3 y hy)
    have hz' : (⟨z.toArray⟩ : Str).length ≤ sizeLine := ln (by rw [str_len]; omega)
    have ll : (Str.ofString "+*=+").length = 4 := by decide +kernel
    have la : (Str.ofString "a").length = 1 := by decide +kernel
    have lb : (Str.ofString " ").length = 1 := by decide +kernel
    walk_at "stp"
    refine mAdd_s (ln (by rw [str_len, ll]; omega)) ?_
    walk_at "stp"
    refine mSlS_i hz' ?_
    obtain ⟨u, hu, hu1, hu2⟩ := cut_sub z none (some 1)
    rw [hu]
    walk_at "stp"
    refine mAdd_s (ln (by rw [str_len, la]; omega)) ?_
    walk_at "stp"
    refine mSlS_i hz' ?_
    obtain ⟨u', hu', hu1', hu2'⟩ := cut_sub z none (some 2)
    rw [hu']
    walk_at "stp"
    refine mAdd_s (ln (by rw [str_len, lb]; omega)) ?_
    walk_at "stp"
    refine ⟨ln (by show 10 ≤ 100000; decide), fun p hp => ?_⟩
    walk_at "stp"
    have lp := lits_plain
    obtain ⟨x, hx, px⟩ := strs_at (xs := [Str.ofString "", (⟨z.toArray⟩ : Str) ++ Str.ofString "+*=+", Str.ofString "<-", Str.ofString "a", (⟨u.toArray⟩ : Str) ++ Str.ofString "a", Str.ofString "~", Str.ofString " ", (⟨u'.toArray⟩ : Str) ++ Str.ofString " ", Str.ofString "|", Str.ofString "<->+"]) (i := c / 6 % 10) (fun x hx => by
      simp only [List.mem_cons, List.not_mem_nil, or_false] at hx
      rcases hx with rfl | rfl | rfl | rfl | rfl | rfl | rfl | rfl | rfl | rfl
      · exact (lp _ (by simp)).1
      · exact plain_app (by omega) zp (lp _ (by simp)).1 (lp _ (by simp)).2
      · exact (lp _ (by simp)).1
      · exact (lp _ (by simp)).1
      · exact plain_app (by omega) (fun y hy => zp y (hu2 y hy)) (lp _ (by simp)).1 (lp _ (by simp)).2
      · exact (lp _ (by simp)).1
      · exact (lp _ (by simp)).1
      · exact plain_app (by omega) (fun y hy => zp y (hu2' y hy)) (lp _ (by simp)).1 (lp _ (by simp)).2
      · exact (lp _ (by simp)).1
      · exact (lp _ (by simp)).1) (by omega) (by show c / 6 % 10 < 10; omega)
    refine mIx_l (SqL.of upd_same) hx ?_
    exact q x _ (same_new hp _) px
  · walk_at "stp"
    refine fun z z1 z2 z3 _ => ?_
    exact q _ H (Same.refl H) (plain_l (by omega) fun y hy => mark_plain y (z3 y hy))
end
section
variable {P : Program} {w : World} {K : PySem.W.Frag} {mg : Str → Option Value} {base : Heap} {t : Ad}
theorem sides_plain : ∀ x ∈ [Str.ofString "left", Str.ofString "right", Str.ofString "none", Str.ofString "left", Str.ofString "right", Str.ofString "none", Str.ofString "left", Str.ofString "right", Str.ofString "none", Str.ofString "none", Str.ofString "Left"], plainS x := by decide +kernel
theorem rk {i : Int} (h0 : -10 ≤ i) (h1 : i ≤ 10 ^ 9) : rOk (.int i) := .inr (.inr (.inr ⟨i, rfl, by omega, by omega⟩))
theorem ok_l_told_by (T : Txt K mg t) (G_l_some_mark : FnOk P w K mg base CX0 2 t.a_l_some_mark t.d_l_some_mark ["_law_cell", "_law_table"] (sp_l_some_mark K)) : FnOk P w K mg base CX0 3 t.a_l_told_by t.d_l_told_by ["_law_cell", "_law_table"] (sp_l_told_by K) := by
  refine T.F_l_told_by.ok sc_l_told_by (fun vs H Q E h => ?_) (fun cdv A outer s H vs Q E hr h => ?_)
  · unfold sp_l_told_by at h
    split at h
    · rfl
    · exact h.elim
  unfold sp_l_told_by at h
  split at h
  rotate_left
  · exact h.elim
  refine ⟨_, (@QSs.pss _ _ _ (qss_cons (qs_of (ps_set (i := 2) (hs := sw_call) sc_l_told_by.nd rfl (by first | exact Or.inl rfl | exact Or.inr rfl) (pe_call G_l_some_mark (hr.mono (by first | decide | omega)) rfl T.m_l_some_mark T.F_l_some_mark.kp T.b_l_some_mark .nil pass0 (pa_con (mv 0) (pa_con (mv 1) pa_nil))))) (qss_cons (qs_of (ps_set (i := 3) (hs := sw_bin) sc_l_told_by.nd rfl (by first | exact Or.inl rfl | exact Or.inr rfl) (pe_op mo_fdiv (mv 0) pe_int))) (qss_cons (qs_of (ps_set (i := 4) (hs := sw_bin) sc_l_told_by.nd rfl (by first | exact Or.inl rfl | exact Or.inr rfl) (pe_op (ko_add K rfl) pe_int (pe_op mo_mod (pe_op mo_fdiv (mv 3) pe_int) pe_int)))) (qss_cons (qs_if (mt_cmp mo_eq (pe_op mo_mod (pe_op mo_fdiv (mv 3) pe_int) pe_int) pe_int (nomark _)) (qss_one (qs_of (ps_set (i := 4) (hs := sw_bin) sc_l_told_by.nd rfl (by first | exact Or.inl rfl | exact Or.inr rfl) (pe_op mo_sub (pe_op mo_mod (pe_op mo_fdiv (mv 3) pe_int) pe_int) pe_int)))) qss_nil) (qss_cons (qs_if (mt_cmp mo_eq (pe_op mo_mod (pe_op mo_fdiv (mv 3) pe_int) pe_int) pe_int (nomark _)) (qss_one (qs_of (ps_set (i := 4) (hs := sw_bin) sc_l_told_by.nd rfl (by first | exact Or.inl rfl | exact Or.inr rfl) (pe_op mo_sub (pe_op mo_mod (pe_op mo_fdiv (mv 3) pe_int) (pe_op mo_pow pe_int pe_int)) pe_int)))) qss_nil) (qss_cons (qs_of (ps_set (i := 5) (hs := sw_sub) sc_l_told_by.nd rfl (by first | exact Or.inl rfl | exact Or.inr rfl) (pe_ix (ki_seq K rfl) (pe_lst (pa_con pe_str (pa_con pe_str (pa_con pe_str (pa_con pe_str (pa_con pe_str (pa_con pe_str (pa_con pe_str (pa_con pe_str (pa_con pe_str (pa_con pe_str (pa_con pe_str pa_nil)))))))))))) (pe_op mo_mod (mv 3) pe_int) (fun _ _ => rfl)))) (qss_cons (qs_if (PW.pt (pw_and (mt_cmp mo_eq (pe_op mo_mod (pe_op mo_fdiv (mv 3) pe_int) pe_int) pe_int (nomark _)) (pw_and1 (mt_cmp mo_eq (pe_op mo_mod (pe_op mo_fdiv (mv 3) pe_int) pe_int) pe_int (nomark _))))) (qss_cons (qs_set (i := 6) sc_l_told_by.nd rfl (by first | exact Or.inl rfl | exact Or.inr rfl) (qe_lst (qa_con (qe_tup (qa_con (qe_of (mv 2)) (qa_con (qe_of pe_bl) (qa_con (qe_of (mv 5)) qa_nil rfl) rfl) rfl)) (qa_con (qe_tup (qa_con (qe_of (mv 2)) (qa_con (qe_of pe_str) (qa_con (qe_of (mv 5)) qa_nil rfl) rfl) rfl)) (qa_con (qe_tup (qa_con (qe_of (mv 2)) (qa_con (qe_of pe_non) (qa_con (qe_of (mv 5)) qa_nil rfl) rfl) rfl)) (qa_con (qe_tup (qa_con (qe_of pe_non) (qa_con (qe_of (mv 4)) (qa_con (qe_of (mv 5)) qa_nil rfl) rfl) rfl)) (qa_con (qe_tup (qa_con (qe_of (mv 2)) (qa_con (qe_of (mv 4)) (qa_con (qe_of pe_non) qa_nil rfl) rfl) rfl)) qa_nil rfl) rfl) rfl) rfl) rfl)) sw_lst (by first | exact Or.inl rfl | exact Or.inr rfl)) (qss_one (qs_of (ps_ret (pe_ix (ki_seq K rfl) (mv 6) (pe_op mo_mod (pe_op mo_fdiv (mv 3) pe_int) pe_int) (fun _ _ => rfl)))))) qss_nil) (qss_one (qs_of (ps_ret (pe_tup (pa_con (mv 2) (pa_con (mv 4) (pa_con (mv 5) pa_nil))))))))))))))), ?_⟩
  rename_i c a
  obtain ⟨rows, tb, hl, hw, q⟩ := h
  (with_reducible refine tSeq_i ?_)
  walk_at "stm"
  refine ⟨rows, tb, hl, hw, fun x H1 s1 hx => ?_⟩
  walk_at "stm"
  (with_reducible refine tSeq_i ?_)
  walk_at "stm"
  generalize c / 98304 = n
  (with_reducible refine tSeq_i ?_)
  walk_at "stm"
  (with_reducible refine seq_rest (fun σ' J => ∃ rr : Int, σ' = [some (.int c), some (.ref a), some (.str x), some (.int n), some (.int rr), none, none] ∧ -10 ≤ rr ∧ rr ≤ 10 ^ 9 ∧ J = H1) (fun σ' J hP => ?_) (fun kz => ?_))
  rotate_left
  · walk_at "stm"
    refine iteB (fun e => ?_) (fun e => ?_)
    · walk_at "stm"
      exact kz _ _ ⟨_, rfl, by omega, by omega, rfl⟩
    · walk_at "stm"
      exact kz _ _ ⟨_, rfl, by omega, by omega, rfl⟩
  obtain ⟨r1, rfl, hr1, hr2, rfl⟩ := hP
  (with_reducible refine seq_rest (fun σ' J' => ∃ rr : Int, σ' = [some (.int c), some (.ref a), some (.str x), some (.int n), some (.int rr), none, none] ∧ -10 ≤ rr ∧ rr ≤ 10 ^ 9 ∧ J' = J) (fun σ' J' hP => ?_) (fun kz => ?_))
  rotate_left
  · walk_at "stm"
    refine iteB (fun e => ?_) (fun e => ?_)
    · walk_at "stm"
      refine m2_i (C := CPow) ⟨by decide, by decide, by decide⟩ ?_
      walk_at "stm"
      have b1 := Int.emod_nonneg (n / 1100) (show (10 : Int) ^ (9 : Int).toNat ≠ 0 by decide)
      have b2 := Int.emod_lt_of_pos (n / 1100) (show (0 : Int) < 10 ^ (9 : Int).toNat by decide)
      have e9 : (10 : Int) ^ (9 : Int).toNat = 10 ^ 9 := by decide
      exact kz _ _ ⟨_, rfl, by omega, by omega, rfl⟩
    · walk_at "stm"
      exact kz _ _ ⟨_, rfl, hr1, hr2, rfl⟩
  obtain ⟨rr, rfl, hr1, hr2, rfl⟩ := hP
  walk_at "stp"
  refine ⟨ln (by show 11 ≤ 100000; decide), fun p9 hp9 => ?_⟩
  have sp9 : Same J' (upd J' p9 (.lst [.str (Str.ofString "left"), .str (Str.ofString "right"), .str (Str.ofString "none"), .str (Str.ofString "left"), .str (Str.ofString "right"), .str (Str.ofString "none"), .str (Str.ofString "left"), .str (Str.ofString "right"), .str (Str.ofString "none"), .str (Str.ofString "none"), .str (Str.ofString "Left")])) := same_new hp9 _
  have kp9 : (upd J' p9 (.lst [.str (Str.ofString "left"), .str (Str.ofString "right"), .str (Str.ofString "none"), .str (Str.ofString "left"), .str (Str.ofString "right"), .str (Str.ofString "none"), .str (Str.ofString "left"), .str (Str.ofString "right"), .str (Str.ofString "none"), .str (Str.ofString "none"), .str (Str.ofString "Left")])) p9 = some (.lst [.str (Str.ofString "left"), .str (Str.ofString "right"), .str (Str.ofString "none"), .str (Str.ofString "left"), .str (Str.ofString "right"), .str (Str.ofString "none"), .str (Str.ofString "left"), .str (Str.ofString "right"), .str (Str.ofString "none"), .str (Str.ofString "none"), .str (Str.ofString "Left")]) := upd_same
  generalize upd J' p9 (.lst [.str (Str.ofString "left"), .str (Str.ofString "right"), .str (Str.ofString "none"), .str (Str.ofString "left"), .str (Str.ofString "right"), .str (Str.ofString "none"), .str (Str.ofString "left"), .str (Str.ofString "right"), .str (Str.ofString "none"), .str (Str.ofString "none"), .str (Str.ofString "Left")]) = J at sp9 kp9 ⊢
  walk_at "stp"
  obtain ⟨y, hy, py⟩ := strs_at (xs := [Str.ofString "left", Str.ofString "right", Str.ofString "none", Str.ofString "left", Str.ofString "right", Str.ofString "none", Str.ofString "left", Str.ofString "right", Str.ofString "none", Str.ofString "none", Str.ofString "Left"]) (i := n % 11) sides_plain (by omega) (by show n % 11 < 11; omega)
  refine mIx_l (SqL.of kp9) hy ?_
  have s2 := s1.trans sp9
  have mx : mOk (.str x) := .inr ⟨x, rfl, hx⟩
  have my : mOk (.str y) := .inr ⟨y, rfl, py⟩
  have mr : rOk (.int rr) := rk hr1 hr2
  walk_at "stp"
  have fin : ∀ (J2 : Hp), Same J J2 → ∀ p4, J2 p4 = some (.tup [.str x, .int rr, .str y]) → Q (.ref p4) J2 := fun J2 sJ p4 h4 => q p4 _ _ _ J2 (s2.trans sJ) (SqT.of h4) mx mr my
  refine iteB (fun e => ?_) (fun e => ?_)
  rotate_left
  · walk_at "stp"
    refine iteF ?_
    walk_at "stp"
    exact ⟨ln (by show 3 ≤ 100000; decide), fun p hp => fin _ (same_new hp _) p upd_same⟩
  walk_at "stp"
  refine iteB (fun e2 => ?_) (fun e2 => ?_)
  rotate_left
  · walk_at "stp"
    exact ⟨ln (by show 3 ≤ 100000; decide), fun p hp => fin _ (same_new hp _) p upd_same⟩
  · walk_at "stp"
    refine ⟨ln (by show 3 ≤ 100000; decide), fun p0 hp0 => ?_⟩
    have sp0 : Same J (upd J p0 (.tup [.str x, .bl true, .str y])) := same_new hp0 _
    have kp0 : (upd J p0 (.tup [.str x, .bl true, .str y])) p0 = some (.tup [.str x, .bl true, .str y]) := upd_same
    generalize upd J p0 (.tup [.str x, .bl true, .str y]) = J0 at sp0 kp0 ⊢
    walk_at "stp"
    refine ⟨ln (by show 3 ≤ 100000; decide), fun p1 hp1 => ?_⟩
    have sp1 : Same J0 (upd J0 p1 (.tup [.str x, .str (Str.ofString "7"), .str y])) := same_new hp1 _
    have kp1 : (upd J0 p1 (.tup [.str x, .str (Str.ofString "7"), .str y])) p1 = some (.tup [.str x, .str (Str.ofString "7"), .str y]) := upd_same
    generalize upd J0 p1 (.tup [.str x, .str (Str.ofString "7"), .str y]) = J1 at sp1 kp1 ⊢
    walk_at "stp"
    refine ⟨ln (by show 3 ≤ 100000; decide), fun p2 hp2 => ?_⟩
    have sp2 : Same J1 (upd J1 p2 (.tup [.str x, .non, .str y])) := same_new hp2 _
    have kp2 : (upd J1 p2 (.tup [.str x, .non, .str y])) p2 = some (.tup [.str x, .non, .str y]) := upd_same
    generalize upd J1 p2 (.tup [.str x, .non, .str y]) = J2 at sp2 kp2 ⊢
    walk_at "stp"
    refine ⟨ln (by show 3 ≤ 100000; decide), fun p3 hp3 => ?_⟩
    have sp3 : Same J2 (upd J2 p3 (.tup [.non, .int rr, .str y])) := same_new hp3 _
    have kp3 : (upd J2 p3 (.tup [.non, .int rr, .str y])) p3 = some (.tup [.non, .int rr, .str y]) := upd_same
    generalize upd J2 p3 (.tup [.non, .int rr, .str y]) = J3 at sp3 kp3 ⊢
    walk_at "stp"
    refine ⟨ln (by show 3 ≤ 100000; decide), fun p4 hp4 => ?_⟩
    have sp4 : Same J3 (upd J3 p4 (.tup [.str x, .int rr, .non])) := same_new hp4 _
    have kp4 : (upd J3 p4 (.tup [.str x, .int rr, .non])) p4 = some (.tup [.str x, .int rr, .non]) := upd_same
    generalize upd J3 p4 (.tup [.str x, .int rr, .non]) = J4 at sp4 kp4 ⊢
    walk_at "stp"
    refine ⟨ln (by show 5 ≤ 100000; decide), fun pl hpl => ?_⟩
    have spl : Same J4 (upd J4 pl (.lst [.ref p0, .ref p1, .ref p2, .ref p3, .ref p4])) := same_new hpl _
    have kpl : (upd J4 pl (.lst [.ref p0, .ref p1, .ref p2, .ref p3, .ref p4])) pl = some (.lst [.ref p0, .ref p1, .ref p2, .ref p3, .ref p4]) := upd_same
    generalize upd J4 pl (.lst [.ref p0, .ref p1, .ref p2, .ref p3, .ref p4]) = J5 at spl kpl ⊢
    walk_at "stp"
    have hi : n / 2200 % 5 = 0 ∨ n / 2200 % 5 = 1 ∨ n / 2200 % 5 = 2 ∨ n / 2200 % 5 = 3 ∨ n / 2200 % 5 = 4 := by omega
    have s25 := s2.trans (sp0.trans (sp1.trans (sp2.trans (sp3.trans (sp4.trans spl)))))
    rcases hi with z | z | z | z | z <;> rw [z]
    · refine mIx_l (SqL.of kpl) (v := .ref p0) rfl ?_
      exact q p0 _ _ _ _ s25 (SqT.of ((sp1.trans (sp2.trans (sp3.trans (sp4.trans spl)))) _ _ kp0)) mx (.inr (.inl rfl)) my
    · refine mIx_l (SqL.of kpl) (v := .ref p1) rfl ?_
      exact q p1 _ _ _ _ s25 (SqT.of ((sp2.trans (sp3.trans (sp4.trans spl))) _ _ kp1)) mx (.inr (.inr (.inl rfl))) my
    · refine mIx_l (SqL.of kpl) (v := .ref p2) rfl ?_
      exact q p2 _ _ _ _ s25 (SqT.of ((sp3.trans (sp4.trans spl)) _ _ kp2)) mx (.inl rfl) my
    · refine mIx_l (SqL.of kpl) (v := .ref p3) rfl ?_
      exact q p3 _ _ _ _ s25 (SqT.of ((sp4.trans spl) _ _ kp3)) (.inl rfl) mr my
    · refine mIx_l (SqL.of kpl) (v := .ref p4) rfl ?_
      exact q p4 _ _ _ _ s25 (SqT.of (spl _ _ kp4)) mx mr (.inl rfl)
end
section
variable {P : Program} {w : World} {K : PySem.W.Frag} {mg : Str → Option Value} {base : Heap} {t : Ad}
theorem mk_arrow {x : Str} (h : decide (x = Str.ofString "<-") = true) : marked x = false := by
  unfold marked
  rw [h]
  simp
theorem mk_len {x : Str} (h : (decide ((1 : Int) ≤ x.length) && decide ((x.length : Int) ≤ 3)) = false) : marked x = false := by
  unfold marked
  rw [h]
  rfl
theorem mk_all {x : Str} (h : (x.cps.toList.all fun c => inS (one c) markS) = false) : marked x = false := by
  unfold marked
  rw [h, Bool.and_false, Bool.and_false]
theorem mk_yes {x : Str} (h1 : (decide ((1 : Int) ≤ x.length) && decide ((x.length : Int) ≤ 3)) = true) (h2 : decide (x = Str.ofString "<-") = false) (h3 : (x.cps.toList.all fun c => inS (one c) markS) = true) : marked x = true := by
  unfold marked
  rw [h1, h2, h3]
  rfl
theorem ok_l_takes (T : Txt K mg t) (G_l_whole : FnOkN P w K mg base 1 t.a_l_whole t.d_l_whole ["_law_found"] (sp_l_whole)) : FnOk P w K mg base CX0 2 t.a_l_takes t.d_l_takes ["_law_table", "_law_mark_here", "_law_rank", "_law_side"] (sp_l_takes K) := by
  refine T.F_l_takes.ok sc_l_takes (fun vs H Q E h => ?_) (fun cdv A outer s H vs Q E hr h => ?_)
  · unfold sp_l_takes at h
    split at h
    · rfl
    · exact h.elim
  unfold sp_l_takes at h
  split at h
  rotate_left
  · exact h.elim
  refine ⟨_, (pss_cons (ps_if (PW.pt (pw_or (pt_not (kt_tru K rfl (pe_callB (kc_is K rfl) rfl T.n_isinstance boot_isinstance (pa_con (mv 1) (pa_con (pe_bty rfl T.n_str boot_str) pa_nil))))) (pw_or (mt_cmp mo_eq (mv 1) pe_str (nomark _)) (pw_or (mt_cmp (ko_inD (hu_of hr)) (mv 1) (mv 0) (by with_unfolding_all rfl)) (pw_or1 (pt_not (mt_chain mo_le mo_le pe_int (pe_callB (kc_len K rfl) rfl T.n_len PySem.boot_len (pa_con (mv 1) pa_nil)) pe_int))))))) (pss_one (ps_ret pe_bl)) pss_nil) (pss_cons (ps_for PassesOwn.never rfl (pi_str (mv 1)) (pg_name (i := 4) sc_l_takes.nd rfl (by first | exact Or.inl rfl | exact Or.inr rfl)) (pss_one (ps_if (mt_cmp mo_ninS (mv 4) pe_str (by with_unfolding_all rfl)) (pss_one (ps_ret pe_bl)) pss_nil))) (pss_cons (ps_if (PW.pt (pw_or (pt_not (kt_tru K rfl (pe_call G_l_whole.fn (hr.mono (by first | decide | omega)) rfl T.m_l_whole T.F_l_whole.kp T.b_l_whole .nil pass0 (pa_con (mv 2) pa_nil)))) (pw_or (pt_not (mt_chain mo_le mo_le pe_int (mv 2) pe_int)) (pw_or1 (mt_cmp (ko_ninV K rfl) (mv 3) (pe_lst (pa_con pe_str (pa_con pe_str (pa_con pe_str pa_nil)))) (by with_unfolding_all rfl)))))) (pss_one (ps_ret pe_bl)) pss_nil) (pss_cons (ps_thawR (ps_for PassesOwn.never rfl (pi_vals (ke_bm0 K rfl PySem.F.plainAttrs_dict PySem.F.slot_dict_values PySem.F.type_dict_values mm_valuesK (mv 0))) (pg_name (i := 5) sc_l_takes.nd rfl (by first | exact Or.inl rfl | exact Or.inr rfl)) (pss_one (ps_if (PW.pt (pw_and (mt_cmp mo_eq (pe_ix (ki_seq K rfl) (mv 5) pe_int (fun _ _ => rfl)) (mv 2) (nomark _)) (pw_and1 (mt_cmp mo_ne (pe_ix (ki_seq K rfl) (mv 5) pe_int (fun _ _ => rfl)) (mv 3) (nomark _))))) (pss_one (ps_ret pe_bl)) pss_nil)))) (pss_one (ps_ret pe_bl)))))), ?_⟩
  rename_i a m r sd
  obtain ⟨rows, ⟨kvs, HA, tb⟩, hl, hm, hr0, hsd, q⟩ := h
  have hlen := tb.len
  have qf : takeB rows m r sd = false → ∀ H', Same H H' → Q (.bl false) H' := fun e => by rw [e] at q; exact q
  rcases hm with rfl | ⟨x, rfl, hx⟩
  · walk_at "stp"
    refine is_non_str ?_
    walk_at "stp"
    refine iteT ?_
    walk_at "stp"
    exact qf rfl H (Same.refl H)
  have hxl : x.length ≤ 20 := hx.1
  walk_at "stp"
  refine iteF ?_
  walk_at "stp"
  rw [Bool.false_xor]
  refine iteB (fun e => ?_) (fun e => ?_)
  · walk_at "stp"
    exact qf (take_m (mk_arrow e)) H (Same.refl H)
  walk_at "stp"
  refine ⟨a, _, rfl, .inl ⟨kvs, .inr x, .inl HA, rfl, rfl⟩, ?_⟩
  rw [tb.has x, Bool.false_xor]
  walk_at "stp"
  refine iteB (fun e1 => ?_) (fun e1 => ?_)
  · walk_at "stp"
    exact qf (take_h e1) H (Same.refl H)
  walk_at "stp"
  refine mLen_s (ln (by omega)) ?_
  walk_at "stp"
  refine iteB (fun e2 => ?_) (fun e2 => ?_)
  rotate_left
  · walk_at "stp"
    refine iteT ?_
    walk_at "stp"
    exact qf (take_m (mk_len (by rw [e2]; rfl))) H (Same.refl H)
  walk_at "stp"
  refine iteB (fun e3 => ?_) (fun e3 => ?_)
  · walk_at "stp"
    have e3 : decide ((x.length : Int) ≤ 3) = false := by simpa using e3
    exact qf (take_m (mk_len (by rw [e2, e3]; rfl))) H (Same.refl H)
  have e3 : decide ((x.length : Int) ≤ 3) = true := by simpa using e3
  walk_at "stp"
  refine ⟨x, rfl, ?_⟩
  refine for_row (row_str x) (fun k σ' H' => ∃ o : Option V, σ' = [some (.ref a), some (.str x), some r, some sd, o, none] ∧ H' = H ∧ ((x.cps.toList.take k).all fun c => inS (one c) markS) = true) ⟨none, rfl, rfl, rfl⟩ (fun _ _ _ _ => trivial) (fun k σ' H' hi hP => ?_) (fun σ' H' hP => ?_)
  · obtain ⟨o, rfl, rfl, hall⟩ := hP
    have hi2 : k < x.cps.toList.length := by simpa using hi
    have hg : x.cps.getD k 0 = x.cps.toList[k] := by
      rw [Array.getD_eq_getD_getElem?, ← Array.getElem?_toList, List.getElem?_eq_getElem hi2]
      rfl
    walk_at "stp"
    refine iteB (fun e4 => ?_) (fun e4 => ?_)
    · walk_at "stp"
      refine qf (take_m (mk_all ?_)) _ (Same.refl _)
      refine Bool.eq_false_iff.mpr fun z => ?_
      have := List.all_eq_true.mp z _ (List.getElem_mem hi2)
      rw [← hg] at this
      rw [show inS ⟨#[x.cps.getD k 0]⟩ (Str.ofString "+-*/:<=>&^?@#!;$") = true from this] at e4
      cases e4
    · (with_reducible refine tNext_i ?_)
      refine ⟨_, rfl, rfl, ?_⟩
      rw [List.take_add_one, List.getElem?_eq_getElem hi2, List.all_append, hall]
      have e4 : inS (one x.cps.toList[k]) markS = true := by
        rw [← hg]
        simpa using e4
      show (true && (inS (one x.cps.toList[k]) markS && true)) = true
      rw [e4]
      rfl
  obtain ⟨o, rfl, rfl, hall⟩ := hP
  rw [show x.cps.size = x.cps.toList.length by simp, List.take_length] at hall
  have hmk : marked x = true := mk_yes (by rw [e2, e3]; rfl) e hall
  walk_at "stp"
  refine ⟨hr0.flat, ?_⟩
  walk_at "stp"
  refine iteB (fun e5 => ?_) (fun e5 => ?_)
  · walk_at "stp"
    refine qf (take_r ?_) _ (Same.refl _)
    cases r <;> first | rfl | cases e5
  obtain ⟨i, rfl⟩ : ∃ i, r = .int i := by
    cases r <;> first | exact ⟨_, rfl⟩ | cases e5
  walk_at "stp"
  refine iteB (fun e6 => ?_) (fun e6 => ?_)
  rotate_left
  · walk_at "stp"
    refine iteT ?_
    walk_at "stp"
    exact qf (take_r (by show (decide (1 ≤ i) && decide (i ≤ 20)) = false; rw [e6]; rfl)) _ (Same.refl _)
  walk_at "stp"
  refine iteB (fun e7 => ?_) (fun e7 => ?_)
  · walk_at "stp"
    have e7 : decide (i ≤ 20) = false := by simpa using e7
    exact qf (take_r (by show (decide (1 ≤ i) && decide (i ≤ 20)) = false; rw [e7, Bool.and_false])) _ (Same.refl _)
  have e7 : decide (i ≤ 20) = true := by simpa using e7
  have hrk : rankV (.int i) = true := by show (decide (1 ≤ i) && decide (i ≤ 20)) = true; rw [e6, e7]; rfl
  walk_at "stp"
  refine ⟨ln (by show 3 ≤ 100000; decide), fun p1 hp1 => ?_⟩
  have sp1 : Same H' (upd H' p1 (.lst [.str (Str.ofString "left"), .str (Str.ofString "right"), .str (Str.ofString "none")])) := same_new hp1 _
  have kp1 : (upd H' p1 (.lst [.str (Str.ofString "left"), .str (Str.ofString "right"), .str (Str.ofString "none")])) p1 = some (.lst [.str (Str.ofString "left"), .str (Str.ofString "right"), .str (Str.ofString "none")]) := upd_same
  generalize upd H' p1 (.lst [.str (Str.ofString "left"), .str (Str.ofString "right"), .str (Str.ofString "none")]) = H1 at sp1 kp1 ⊢
  walk_at "stp"
  refine ⟨p1, _, rfl, .inl (SqL.of kp1), hsd.flat, rfl, ?_⟩
  rw [if_pos rfl, show inV sd [V.str (Str.ofString "left"), V.str (Str.ofString "right"), V.str (Str.ofString "none")] = sideV sd from sideV_in hsd]
  walk_at "stp"
  refine iteB (fun e8 => ?_) (fun e8 => ?_)
  · have e8 : sideV sd = false := by simpa using e8
    walk_at "stp"
    exact qf (take_s e8) _ sp1
  have e8 : sideV sd = true := by simpa using e8
  obtain ⟨y, rfl, hy⟩ : ∃ y, sd = .str y ∧ plainS y := by
    rcases hsd with rfl | ⟨x, rfl, hx⟩
    · cases e8
    · exact ⟨x, rfl, hx⟩
  have e8 : sideB y = true := e8
  have HA1 := sp1 _ _ HA
  have tb1 := tb.mono sp1
  walk_at "stp"
  refine ⟨.inr (.inr (.inl ⟨rfl, .inl ⟨_, HA1⟩⟩)), ?_⟩
  refine ⟨a, kvs, rfl, rfl, HA1, fun p hp => ?_⟩
  have sp : Same H1 (upd H1 p (VView p a)) := same_new hp _
  have kp : (upd H1 p (VView p a)) p = some (VView p a) := upd_same
  generalize upd H1 p (VView p a) = HV at sp kp ⊢
  refine ⟨p, a, kvs, rfl, kp, sp _ _ HA1, fun o2 nf => ?_⟩
  have fr0 : (upd HV a (.frz o2 (.dK kvs))) a = some (.frz o2 (.dK kvs)) := upd_same
  have sT0 : ∀ b xs, SqT K H1 b xs → SqT K (upd HV a (.frz o2 (.dK kvs))) b xs := fun b xs z => tup_dk (sp _ _ HA1) b xs (sp.tup z)
  have sO0 : ∀ b u, b ≠ a → H1 b = some u → (upd HV a (.frz o2 (.dK kvs))) b = some u := fun b u n z => by rw [upd_ne n]; exact sp _ _ z
  generalize upd HV a (.frz o2 (.dK kvs)) = HW at fr0 sT0 sO0 ⊢
  have hS : Same H' (upd HW a (.dK kvs)) := fun b u z => by
    by_cases n : b = a
    · subst n
      rw [HA] at z
      rw [← z]
      exact upd_same
    · rw [upd_ne n]
      exact sO0 b u n (sp1 _ _ z)
  refine for_row row_vals (fun k σ' J => ∃ o3 : Option V, σ' = [some (.ref a), some (.str x), some (.int i), some (.str y), o, o3] ∧ J = HW ∧ ((rows.take k).any fun q => decide (q.2.1 = i) && !decide (q.2.2 = y)) = false) ⟨none, rfl, rfl, rfl⟩ (fun k σ' J hP => by obtain ⟨_, _, rfl, _⟩ := hP; exact fr0) (fun k σ' J hi hP => ?_) (fun σ' J hP => ?_)
  · obtain ⟨o3, rfl, rfl, hno⟩ := hP
    have hx2 : kvs[k]? = some kvs[k] := List.getElem?_eq_getElem hi
    obtain ⟨r0, hr1, e1', c, e2', hc⟩ := paired_get tb1 k _ hx2
    rw [hx2]
    simp only [Option.map_some, Option.getD_some]
    rw [e2']
    have hc' := sT0 _ _ hc
    have hmem : r0 ∈ rows := List.mem_of_getElem? hr1
    walk_at "stp"
    refine mIx_t hc' (v := .int r0.2.1) rfl ?_
    walk_at "stp"
    rw [Bool.false_xor]
    have nxt : (decide (r0.2.1 = i) && !decide (r0.2.2 = y)) = false → ((rows.take (k + 1)).any fun q => decide (q.2.1 = i) && !decide (q.2.2 = y)) = false := fun z => by
      rw [List.take_add_one, hr1, List.any_append, hno]
      simpa using z
    refine iteB (fun f1 => ?_) (fun f1 => ?_)
    rotate_left
    · walk_at "stp"
      refine iteF ?_
      (with_reducible refine tNext_i ?_)
      exact ⟨_, rfl, rfl, nxt (by rw [f1]; rfl)⟩
    walk_at "stp"
    refine mIx_t hc' (v := .str r0.2.2) rfl ?_
    walk_at "stp"
    rw [Bool.true_xor]
    refine iteB (fun f2 => ?_) (fun f2 => ?_)
    rotate_left
    · (with_reducible refine tNext_i ?_)
      exact ⟨_, rfl, rfl, nxt (by rw [f2, Bool.and_false])⟩
    · walk_at "stp"
      refine ⟨a, o2, kvs, nf, fr0, ?_⟩
      refine qf (take_o ?_) _ hS
      unfold otherS
      exact List.any_eq_true.mpr ⟨r0, hmem, by rw [f1, f2]; rfl⟩
  · obtain ⟨o3, rfl, rfl, hno⟩ := hP
    rw [hlen, List.take_length] at hno
    refine ⟨a, o2, kvs, nf, fr0, ?_⟩
    walk_at "stp"
    rw [take_t hmk e1 hrk e8 hno] at q
    exact q _ hS
end
section
variable {P : Program} {w : World} {K : PySem.W.Frag} {mg : Str → Option Value} {base : Heap} {t : Ad}
theorem ok_l_only_no_sign (T : Txt K mg t) (G_l_whole : FnOkN P w K mg base 1 t.a_l_whole t.d_l_whole ["_law_found"] (sp_l_whole)) : FnOkN P w K mg base 2 t.a_l_only_no_sign t.d_l_only_no_sign ["_law_e"] (sp_l_only_no_sign K t.k_NoSign) := by
  refine T.F_l_only_no_sign.okN sc_l_only_no_sign (fun vs H Q E h => ?_) (fun cdv A outer s H vs Q E hr h => ?_)
  · unfold sp_l_only_no_sign at h
    split at h
    · rfl
    · exact h.elim
  unfold sp_l_only_no_sign at h
  split at h
  rotate_left
  · exact h.elim
  refine ⟨_, (pss_cons (ps_if (PW.pt (pw_or (kt_tru K rfl (pe_callB (kc_isXT K rfl) rfl T.n_isinstance boot_isinstance (pa_con (mv 0) (pa_con (pe_tup (pa_con (pe_glob (v := .ref t.k_NoText) rfl T.m_NoText rfl) (pa_con (pe_glob (v := .ref t.k_NoRule) rfl T.m_NoRule rfl) (pa_con (pe_glob (v := .ref t.k_Big) rfl T.m_Big rfl) pa_nil)))) pa_nil)))) (pw_or1 (pt_not (kt_tru K rfl (pe_callB (kc_isX K rfl) rfl T.n_isinstance boot_isinstance (pa_con (mv 0) (pa_con (pe_bty rfl T.n_ValueError boot_ValueError) pa_nil)))))))) (pss_one (ps_ret pe_bl)) pss_nil) (pss_one (ps_ret (me_and (pe_callB (kc_isX K rfl) rfl T.n_isinstance boot_isinstance (pa_con (mv 0) (pa_con (pe_glob (v := .ref t.k_NoSign) rfl T.m_NoSign rfl) pa_nil))) (me_and (pe_callN G_l_whole (hr.mono (by first | decide | omega)) rfl T.m_l_whole T.F_l_whole.kp T.b_l_whole .nil (pa_con (ke_xget K rfl (mv 0)) pa_nil)) (pe_one (pe_cmpR mo_eq (ke_xget K rfl (mv 0)) pe_int (nomark _)))))))), ?_⟩
  rename_i ea
  obtain ⟨i0, q⟩ := h
  obtain ⟨dx, x1, x2⟩ := i0
  walk_at "stp"
  refine ⟨ln (by show 3 ≤ 100000; decide), fun p1 hp1 => ?_⟩
  have sp1 : Same H (upd H p1 (.tup [.ref t.k_NoText, .ref t.k_NoRule, .ref t.k_Big])) := same_new hp1 _
  have kp1 : (upd H p1 (.tup [.ref t.k_NoText, .ref t.k_NoRule, .ref t.k_Big])) p1 = some (.tup [.ref t.k_NoText, .ref t.k_NoRule, .ref t.k_Big]) := upd_same
  generalize upd H p1 (.tup [.ref t.k_NoText, .ref t.k_NoRule, .ref t.k_Big]) = H1 at sp1 kp1 ⊢
  walk_at "stp"
  refine isXT_i [t.k_NoText, t.k_NoRule, t.k_Big] (sp1 _ _ x1) (sp1 _ _ x2) T.x_NoSign T.at_NoSign T.is_NoSign (SqT.of kp1) T.iy_NoSign_NoText_NoRule_Big ?_
  walk_at "stp"
  refine iteF ?_
  walk_at "stp"
  refine isX_i (C := t.k_NoSign) (sp1 _ _ x1) (sp1 _ _ x2) T.x_NoSign T.at_NoSign T.is_NoSign T.iz_NoSign_ValueError ?_
  walk_at "stp"
  refine iteF ?_
  walk_at "stp"
  refine isX_i (C := t.k_NoSign) (sp1 _ _ x1) (sp1 _ _ x2) T.x_NoSign T.at_NoSign T.is_NoSign T.iz_NoSign_NoSign ?_
  walk_at "stp"
  refine iteT ?_
  walk_at "stp"
  refine ⟨ea, t.k_NoSign, _, dx, _, false, .int 0, rfl, sp1 _ _ x1, T.x_NoSign, T.at_NoSign, T.no_NoSign_row, sp1 _ _ x2, look_row1 _, ?_⟩
  walk_at "stp"
  refine ⟨rfl, ?_⟩
  walk_at "stp"
  refine iteT ?_
  walk_at "stp"
  refine ⟨ea, t.k_NoSign, _, dx, _, false, .int 0, rfl, sp1 _ _ x1, T.x_NoSign, T.at_NoSign, T.no_NoSign_row, sp1 _ _ x2, look_row1 _, ?_⟩
  walk_at "stp"
  exact q _ sp1
theorem ok_l_refused (T : Txt K mg t) (G_with_sign : FnOk P w K mg base (CXo P w) 3 t.a_with_sign t.d_with_sign ["signs", "mark", "rank", "side"] (sp_with_sign K t.k_NoSign)) (G_l_only_no_sign : FnOkN P w K mg base 2 t.a_l_only_no_sign t.d_l_only_no_sign ["_law_e"] (sp_l_only_no_sign K t.k_NoSign)) : FnOk P w K mg base CX0 4 t.a_l_refused t.d_l_refused ["_law_table", "_law_told"] (sp_l_refused K) := by
  refine T.F_l_refused.ok sc_l_refused (fun vs H Q E h => ?_) (fun cdv A outer s H vs Q E hr h => ?_)
  · unfold sp_l_refused at h
    split at h
    · rfl
    · exact h.elim
  unfold sp_l_refused at h
  split at h
  rotate_left
  · exact h.elim
  refine ⟨_, (pss_cons (ps_set (i := 2) sc_l_refused.nd rfl (by first | exact Or.inl rfl | exact Or.inr rfl) pe_bl) (pss_cons (ps_trydo_as (n := 3) rfl rfl G_with_sign (hr.mono (by first | decide | omega)) rfl T.m_with_sign T.F_with_sign.kp T.b_with_sign .nil (pa_con (mv 0) (pa_con (pe_ix (ki_seq K rfl) (mv 1) pe_int (fun _ _ => rfl)) (pa_con (pe_ix (ki_seq K rfl) (mv 1) pe_int (fun _ _ => rfl)) (pa_con (pe_ix (ki_seq K rfl) (mv 1) pe_int (fun _ _ => rfl)) pa_nil)))) sc_l_refused.nd rfl T.m_TrailError T.x_TrailError rfl rfl (by first | exact Or.inl rfl | exact Or.inr rfl) (fun ea => (pss_one (ps_set (i := 2) (hs := sw_call) sc_l_refused.nd rfl (by first | exact Or.inl rfl | exact Or.inr rfl) (pe_callN G_l_only_no_sign ((hr.mono (by first | decide | omega)).marked _) rfl T.m_l_only_no_sign T.F_l_only_no_sign.kp T.b_l_only_no_sign .nil (pa_con (mv 3) pa_nil)))))) (pss_one (ps_ret (mv 2))))), ?_⟩
  rename_i a td
  obtain ⟨rows, m, r, sd, tb, hl, ⟨ht, hm, hr0, hsd⟩, hno, q⟩ := h
  walk_at "stp"
  refine mIx_t ht (v := m) rfl ?_
  walk_at "stp"
  refine mIx_t ht (v := r) rfl ?_
  walk_at "stp"
  refine mIx_t ht (v := sd) rfl ?_
  walk_at "stp"
  refine ⟨rows, tb, hl, hm, hr0, hsd, ?_⟩
  rw [hno]
  refine fun ea H1 s1 i1 ea' e' => ?_
  cases e'
  have i1' := i1
  obtain ⟨dx, x1, x2⟩ := i1
  refine ⟨t.k_NoSign, some dx, _, rfl, x1, T.x_NoSign, by simp, ?_⟩
  walk_at "stp"
  refine ⟨i1', fun H2 s2 => ?_⟩
  walk_at "stp"
  exact q H2 (s1.trans s2)
theorem ok_l_made (T : Txt K mg t) (G_with_sign : FnOk P w K mg base (CXo P w) 3 t.a_with_sign t.d_with_sign ["signs", "mark", "rank", "side"] (sp_with_sign K t.k_NoSign)) : FnOk P w K mg base CX0 4 t.a_l_made t.d_l_made ["_law_table", "_law_told"] (sp_l_made K) := by
  refine T.F_l_made.ok sc_l_made (fun vs H Q E h => ?_) (fun cdv A outer s H vs Q E hr h => ?_)
  · unfold sp_l_made at h
    split at h
    · rfl
    · exact h.elim
  unfold sp_l_made at h
  split at h
  rotate_left
  · exact h.elim
  refine ⟨_, (pss_cons (ps_set (i := 2) sc_l_made.nd rfl (by first | exact Or.inl rfl | exact Or.inr rfl) pe_non) (pss_cons (ps_tryset (i := 2) rfl rfl G_with_sign (hr.mono (by first | decide | omega)) rfl T.m_with_sign T.F_with_sign.kp T.b_with_sign .nil (pa_con (mv 0) (pa_con (pe_ix (ki_seq K rfl) (mv 1) pe_int (fun _ _ => rfl)) (pa_con (pe_ix (ki_seq K rfl) (mv 1) pe_int (fun _ _ => rfl)) (pa_con (pe_ix (ki_seq K rfl) (mv 1) pe_int (fun _ _ => rfl)) pa_nil)))) sc_l_made.nd rfl (by first | exact Or.inl rfl | exact Or.inr rfl) rfl T.m_NoSign T.x_NoSign (fun ea => (pss_one (ps_set (i := 2) sc_l_made.nd rfl (by first | exact Or.inl rfl | exact Or.inr rfl) pe_non)))) (pss_one (ps_ret (mv 2))))), ?_⟩
  rename_i a td
  obtain ⟨rows, m, r, sd, tb, hl, ⟨ht, hm, hr0, hsd⟩, q⟩ := h
  walk_at "stp"
  refine mIx_t ht (v := m) rfl ?_
  walk_at "stp"
  refine mIx_t ht (v := r) rfl ?_
  walk_at "stp"
  refine mIx_t ht (v := sd) rfl ?_
  walk_at "stp"
  refine ⟨rows, tb, hl, hm, hr0, hsd, ?_⟩
  cases hg : takeB rows m r sd with
  | true =>
    rw [hg] at q
    refine fun x i y p kv H' e1 e2 e3 hp s1 k1 t1 => ?_
    walk_at "stp"
    exact q x i y p kv H' e1 e2 e3 hp s1 k1 t1
  | false =>
    rw [hg] at q
    refine fun ea H1 s1 i1 ea' e' => ?_
    cases e'
    have i1' := i1
    obtain ⟨dx, x1, x2⟩ := i1
    refine ⟨t.k_NoSign, some dx, _, rfl, x1, T.x_NoSign, by simp, ?_⟩
    walk_at "stp"
    exact q H1 s1
end
noncomputable def Keep (K : PySem.W.Frag) (da : Addr) (H H' : Hp) : Prop := (∀ a xs, SqT K H a xs → SqT K H' a xs) ∧ ∀ a k, a ≠ da → H a = some (.dK k) → H' a = some (.dK k)
section
variable {K : PySem.W.Frag} {da : Addr} {H H' H2 : Hp}
theorem Keep.same (s : Same H H') : Keep K da H H' := ⟨fun a xs q => s.tup q, fun a k _ h => s _ _ h⟩
theorem Keep.trans (s : Keep K da H H') (r : Keep K da H' H2) : Keep K da H H2 := ⟨fun a xs q => r.1 _ _ (s.1 _ _ q), fun a k n h => r.2 _ _ n (s.2 _ _ n h)⟩
theorem Keep.lst {p : Addr} {xs : List V} {o : HO} (h : H p = some (.lst xs)) : Keep K da H (upd H p o) := ⟨tup_lst h, fun a k _ q => by rw [upd_ne (ne_of q h (fun z => by cases z))]; exact q⟩
theorem Keep.dk {k : List (Key × V)} {o : HO} (h : H da = some (.dK k)) : Keep K da H (upd H da o) := ⟨tup_dk h, fun a k n q => by rw [upd_ne n]; exact q⟩
theorem TabAt.keep {a : Addr} {rows : List R3} (h : TabAt K H a rows) (n : a ≠ da) (s : Keep K da H H') : TabAt K H' a rows := h.elim fun kvs z => ⟨kvs, s.2 _ _ n z.1, z.2.monoT s.1⟩
noncomputable def GivenAt (K : PySem.W.Frag) (H : Hp) (da : Addr) (u : V) : Prop := ∃ g a b rows, u = .ref g ∧ SqT K H g [.ref a, .ref b] ∧ TabAt K H a rows ∧ TabAt K H b rows ∧ (rows.map (·.1)).Nodup ∧ a ≠ da ∧ b ≠ da
noncomputable def NoAt (K : PySem.W.Frag) (H : Hp) (da : Addr) (u : V) : Prop := ∃ g a td rows m r s, u = .ref g ∧ SqT K H g [.ref a, .ref td] ∧ TabAt K H a rows ∧ rows.length ≤ 50 ∧ ToldAt K H td m r s ∧ takeB rows m r s = false ∧ a ≠ da
theorem GivenAt.keep {u : V} (h : GivenAt K H da u) (s : Keep K da H H') : GivenAt K H' da u := by
  obtain ⟨g, a, b, rows, e, h1, h2, h3, h4, h5, h6⟩ := h
  exact ⟨g, a, b, rows, e, s.1 _ _ h1, h2.keep h5 s, h3.keep h6 s, h4, h5, h6⟩
theorem NoAt.keep {u : V} (h : NoAt K H da u) (s : Keep K da H H') : NoAt K H' da u := by
  obtain ⟨g, a, td, rows, m, r, sd, e, h1, h2, h3, ⟨h4, h7⟩, h5, h6⟩ := h
  exact ⟨g, a, td, rows, m, r, sd, e, s.1 _ _ h1, h2.keep h6 s, h3, ⟨s.1 _ _ h4, h7⟩, h5, h6⟩
structure S4 (K : PySem.W.Frag) (H : Hp) (ta da gp np : Addr) (rows : List R3) (gs ns : List V) : Prop where
  tt : TabAt K H ta rows
  td : TabAt K H da rows
  rw : RW rows
  ne : ta ≠ da
  kg : H gp = some (.lst gs)
  kn : H np = some (.lst ns)
  gv : ∀ u ∈ gs, GivenAt K H da u
  nv : ∀ u ∈ ns, NoAt K H da u
theorem S4.same {ta gp np : Addr} {rows : List R3} {gs ns : List V} (h : S4 K H ta da gp np rows gs ns) (s : Same H H') : S4 K H' ta da gp np rows gs ns :=
  ⟨h.tt.mono s, h.td.mono s, h.rw, h.ne, s _ _ h.kg, s _ _ h.kn, fun u hu => (h.gv u hu).keep (.same s), fun u hu => (h.nv u hu).keep (.same s)⟩
theorem TabAt.lst {a p : Addr} {rows : List R3} {xs : List V} {o : HO} (h : TabAt K H a rows) (g : H p = some (.lst xs)) : TabAt K (upd H p o) a rows := h.elim fun k z => ⟨k, by rw [upd_ne (ne_of z.1 g (fun e => by cases e))]; exact z.1, z.2.monoT (tup_lst g)⟩
theorem TabAt.fresh {a p : Addr} {rows : List R3} (h : TabAt K H a rows) (g : H p = none) : a ≠ p := h.elim fun k z => ne_of_none z.1 g
end
section
variable {P : Program} {w : World} {K : PySem.W.Frag} {mg : Str → Option Value} {base : Heap} {t : Ad}
theorem ok_law (T : Txt K mg t) (G_first_signs : FnOk P w K mg base CX0 1 t.a_first_signs t.d_first_signs [] (sp_first_signs K)) (G_l_nine : FnOk P w K mg base CX0 1 t.a_l_nine t.d_l_nine [] (sp_l_nine K)) (G_l_cells : FnOk P w K mg base CX0 2 t.a_l_cells t.d_l_cells ["_law_script", "_law_at", "_law_many"] (sp_l_cells K)) (G_l_made : FnOk P w K mg base CX0 4 t.a_l_made t.d_l_made ["_law_table", "_law_told"] (sp_l_made K)) (G_l_told_by : FnOk P w K mg base CX0 3 t.a_l_told_by t.d_l_told_by ["_law_cell", "_law_table"] (sp_l_told_by K)) (G_l_takes : FnOk P w K mg base CX0 2 t.a_l_takes t.d_l_takes ["_law_table", "_law_mark_here", "_law_rank", "_law_side"] (sp_l_takes K)) (G_l_refused : FnOk P w K mg base CX0 4 t.a_l_refused t.d_l_refused ["_law_table", "_law_told"] (sp_l_refused K)) : FnOk P w K mg base CX0 5 t.a_law t.d_law ["_law_script"] (sp_law K) := by
  refine T.F_law.ok sc_law (fun vs H Q E h => ?_) (fun cdv A outer s H vs Q E hr h => ?_)
  · unfold sp_law at h
    split at h
    · rfl
    · exact h.elim
  unfold sp_law at h
  split at h
  rotate_left
  · exact h.elim
  refine ⟨_, (pss_cons (ps_set (i := 1) (hs := sw_call) sc_law.nd rfl (by first | exact Or.inl rfl | exact Or.inr rfl) (pe_call0 G_first_signs (hr.mono (by first | decide | omega)) rfl T.m_first_signs T.F_first_signs.kp T.b_first_signs .nil pass0)) (pss_cons (ps_set (i := 2) (hs := sw_call) sc_law.nd rfl (by first | exact Or.inl rfl | exact Or.inr rfl) (pe_call0 G_l_nine (hr.mono (by first | decide | omega)) rfl T.m_l_nine T.F_l_nine.kp T.b_l_nine .nil pass0)) (pss_cons (ps_if (PW.pt (pw_or (pt_not (kt_tru K rfl (pe_callB mc_isDK rfl T.n_isinstance boot_isinstance (pa_con (mv 1) (pa_con (pe_bty rfl T.n_dict boot_dict) pa_nil))))) (pw_or1 (mt_cmp (ko_neK K rfl (room150 hr)) (mv 1) (mv 2) (nomark _))))) (pss_one (ps_ret pe_bl)) pss_nil) (pss_cons (ps_set (i := 3) (hs := sw_lst) sc_law.nd rfl (by first | exact Or.inl rfl | exact Or.inr rfl) (pe_lst (pa_con (pe_tup (pa_con (mv 1) (pa_con (pe_callTy mc_dictK rfl T.n_dict boot_dict (pa_con (mv 2) pa_nil)) pa_nil))) pa_nil))) (pss_cons (ps_set (i := 4) (hs := sw_lst) sc_law.nd rfl (by first | exact Or.inl rfl | exact Or.inr rfl) (pe_lst pa_nil)) (pss_cons (ps_for PassesOwn.never rfl (kpi_list K rfl (pe_call G_l_cells (hr.mono (by first | decide | omega)) rfl T.m_l_cells T.F_l_cells.kp T.b_l_cells .nil pass0 (pa_con (mv 0) (pa_con pe_int (pa_con pe_int pa_nil))))) (pg_name (i := 5) sc_law.nd rfl (by first | exact Or.inl rfl | exact Or.inr rfl)) (pss_cons (ps_set (i := 6) (hs := sw_call) sc_law.nd rfl (by first | exact Or.inl rfl | exact Or.inr rfl) (pe_call G_l_told_by (hr.mono (by first | decide | omega)) rfl T.m_l_told_by T.F_l_told_by.kp T.b_l_told_by .nil pass0 (pa_con (mv 5) (pa_con (mv 2) pa_nil)))) (pss_cons (ps_set (i := 7) (hs := sw_call) sc_law.nd rfl (by first | exact Or.inl rfl | exact Or.inr rfl) (pe_call G_l_made (hr.mono (by first | decide | omega)) rfl T.m_l_made T.F_l_made.kp T.b_l_made .nil pass0 (pa_con (mv 1) (pa_con (mv 6) pa_nil)))) (pss_one (ps_if (pt_not (kt_tru K rfl (pe_call G_l_takes (hr.mono (by first | decide | omega)) rfl T.m_l_takes T.F_l_takes.kp T.b_l_takes .nil pass0 (pa_con (mv 2) (pa_con (pe_ix (ki_seq K rfl) (mv 6) pe_int (fun _ _ => rfl)) (pa_con (pe_ix (ki_seq K rfl) (mv 6) pe_int (fun _ _ => rfl)) (pa_con (pe_ix (ki_seq K rfl) (mv 6) pe_int (fun _ _ => rfl)) pa_nil))))))) (pss_cons (ps_expr (ke_bm K rfl PySem.F.plainAttrs_list PySem.F.slot_list_append PySem.F.type_list_append mm_append (mv 4) (pa_con (pe_tup (pa_con (mv 1) (pa_con (mv 6) pa_nil))) pa_nil))) (pss_one (ps_if (PW.pt (pw_or (mt_cmp mo_notN (mv 7) pe_non (nomark _)) (pw_or1 (pt_not (kt_tru K rfl (pe_call G_l_refused (hr.mono (by first | decide | omega)) rfl T.m_l_refused T.F_l_refused.kp T.b_l_refused .nil pass0 (pa_con (mv 1) (pa_con (mv 6) pa_nil)))))))) (pss_one (ps_ret pe_bl)) pss_nil))) (pss_cons (ps_dput (hu_of hr) (mv 2) (pe_ix (ki_seq K rfl) (mv 6) pe_int (fun _ _ => rfl)) (pe_tup (pa_con (pe_ix (ki_seq K rfl) (mv 6) pe_int (fun _ _ => rfl)) (pa_con (pe_ix (ki_seq K rfl) (mv 6) pe_int (fun _ _ => rfl)) pa_nil))) rfl) (pss_cons (ps_if (PW.pt (pw_or (pt_not (kt_tru K rfl (pe_callB mc_isDK rfl T.n_isinstance boot_isinstance (pa_con (mv 7) (pa_con (pe_bty rfl T.n_dict boot_dict) pa_nil))))) (pw_or1 (mt_cmp (ko_neK K rfl (room150 hr)) (mv 7) (mv 2) (nomark _))))) (pss_one (ps_ret pe_bl)) pss_nil) (pss_cons (ps_set (i := 1) sc_law.nd rfl (by first | exact Or.inl rfl | exact Or.inr rfl) (mv 7)) (pss_one (ps_expr (ke_bm K rfl PySem.F.plainAttrs_list PySem.F.slot_list_append PySem.F.type_list_append mm_append (mv 3) (pa_con (pe_tup (pa_con (mv 1) (pa_con (pe_callTy mc_dictK rfl T.n_dict boot_dict (pa_con (mv 2) pa_nil)) pa_nil))) pa_nil)))))))))))) (pss_cons (ps_for PassesOwn.never rfl (kpi_list K rfl (mv 4)) (pg_name (i := 8) sc_law.nd rfl (by first | exact Or.inl rfl | exact Or.inr rfl)) (pss_one (ps_if (pt_not (kt_tru K rfl (pe_call G_l_refused (hr.mono (by first | decide | omega)) rfl T.m_l_refused T.F_l_refused.kp T.b_l_refused .nil pass0 (pa_con (pe_ix (ki_seq K rfl) (mv 8) pe_int (fun _ _ => rfl)) (pa_con (pe_ix (ki_seq K rfl) (mv 8) pe_int (fun _ _ => rfl)) pa_nil))))) (pss_one (ps_ret pe_bl)) pss_nil))) (pss_cons (ps_set (i := 9) (hs := sw_call) sc_law.nd rfl (by first | exact Or.inl rfl | exact Or.inr rfl) (pe_call G_l_made (hr.mono (by first | decide | omega)) rfl T.m_l_made T.F_l_made.kp T.b_l_made .nil pass0 (pa_con (mv 1) (pa_con (pe_tup (pa_con pe_str (pa_con pe_int (pa_con pe_str pa_nil)))) pa_nil)))) (pss_cons (ps_if (mt_cmp mo_notN (mv 9) pe_non (nomark _)) (pss_one (ps_expr (ke_bm0 K rfl PySem.F.plainAttrs_dict PySem.F.slot_dict_clear PySem.F.type_dict_clear mm_dclr (mv 9)))) pss_nil) (pss_cons (ps_expr (ke_bm0 K rfl PySem.F.plainAttrs_dict PySem.F.slot_dict_clear PySem.F.type_dict_clear mm_dclr (pe_call0 G_first_signs (hr.mono (by first | decide | omega)) rfl T.m_first_signs T.F_first_signs.kp T.b_first_signs .nil pass0))) (pss_cons (ps_for PassesOwn.never rfl (kpi_list K rfl (mv 3)) (pg_name (i := 8) sc_law.nd rfl (by first | exact Or.inl rfl | exact Or.inr rfl)) (pss_one (ps_if (mt_cmp (ko_neK K rfl (room150 hr)) (pe_ix (ki_seq K rfl) (mv 8) pe_int (fun _ _ => rfl)) (pe_ix (ki_seq K rfl) (mv 8) pe_int (fun _ _ => rfl)) (nomark _)) (pss_one (ps_ret pe_bl)) pss_nil))) (pss_one (ps_ret (pe_cmpR (ko_eqK K rfl (room150 hr)) (pe_call0 G_first_signs (hr.mono (by first | decide | omega)) rfl T.m_first_signs T.F_first_signs.kp T.b_first_signs .nil pass0) (pe_call0 G_l_nine (hr.mono (by first | decide | omega)) rfl T.m_l_nine T.F_l_nine.kp T.b_l_nine .nil pass0) (nomark _))))))))))))))), ?_⟩
  rename_i a
  obtain ⟨ns0, hS, hn0, q⟩ := h
  walk_at "stp"
  refine fun ta0 H1 hta0 s1 tt1 => ?_
  walk_at "stp"
  refine fun da H2 hda s2 td2 => ?_
  have tt2 := tt1.mono s2
  have ne2 : ta0 ≠ da := tt1.fresh hda
  obtain ⟨kt, kt1, kt2⟩ := id tt2
  obtain ⟨kd, kd1, kd2⟩ := id td2
  walk_at "stp"
  refine ⟨ta0, kt, rfl, kt1, ?_⟩
  walk_at "stp"
  refine iteF ?_
  walk_at "stp"
  refine tab_eq kt2 kd2 nine_ok.1.2.1 kt1 kd1 ?_
  walk_at "stp"
  refine iteF ?_
  walk_at "stp"
  refine ⟨da, kd, rfl, kd1, fun c0 hc0 => ?_⟩
  have s3 : Same H2 (upd H2 c0 (.dK kd)) := same_new hc0 _
  have k3 : (upd H2 c0 (.dK kd)) c0 = some (.dK kd) := upd_same
  generalize upd H2 c0 (.dK kd) = H3 at s3 k3 ⊢
  walk_at "stp"
  refine ⟨ln (by show 2 ≤ 100000; decide), fun g0 hg0 => ?_⟩
  have sg0 : Same H3 (upd H3 g0 (.tup [.ref ta0, .ref c0])) := same_new hg0 _
  have kg0 : (upd H3 g0 (.tup [.ref ta0, .ref c0])) g0 = some (.tup [.ref ta0, .ref c0]) := upd_same
  generalize upd H3 g0 (.tup [.ref ta0, .ref c0]) = H4 at sg0 kg0 ⊢
  walk_at "stp"
  refine ⟨ln (by show 1 ≤ 100000; decide), fun gp hgp => ?_⟩
  have sgp : Same H4 (upd H4 gp (.lst [.ref g0])) := same_new hgp _
  have kgp : (upd H4 gp (.lst [.ref g0])) gp = some (.lst [.ref g0]) := upd_same
  generalize upd H4 gp (.lst [.ref g0]) = H5 at sgp kgp ⊢
  walk_at "stp"
  refine ⟨ln (by show 0 ≤ 100000; decide), fun np hnp => ?_⟩
  have snp : Same H5 (upd H5 np (.lst [])) := same_new hnp _
  have knp : (upd H5 np (.lst [])) np = some (.lst []) := upd_same
  generalize upd H5 np (.lst []) = H6 at snp knp ⊢
  walk_at "stp"
  have s06 := s1.trans (s2.trans (s3.trans (sg0.trans (sgp.trans snp))))
  refine ⟨ns0, s06.seq hS, hn0, by omega, by omega, by omega, by omega, fun pc cs H7 hl7 s7 k7 => ?_⟩
  have hl7 : cs.length ≤ 24 := hl7
  have s27 := s3.trans (sg0.trans (sgp.trans (snp.trans s7)))
  have st0 : S4 K H7 ta0 da gp np nine [.ref g0] [] := ⟨tt2.mono s27, td2.mono s27, nine_ok.1, ne2, (snp.trans s7) _ _ kgp, s7 _ _ knp, fun u hu => by
    have e : u = .ref g0 := by simpa using hu
    subst e
    exact ⟨g0, ta0, c0, nine, rfl, SqT.of ((sgp.trans (snp.trans s7)) _ _ kg0), tt2.mono s27, ⟨kd, (sg0.trans (sgp.trans (snp.trans s7))) _ _ k3, kd2.mono s27⟩, nine_ok.1.2.1, ne2, Ne.symm (ne_of_none kd1 hc0)⟩, fun u hu => by simp at hu⟩
  have ne_gp : gp ≠ pc := ne_of st0.kg k7 (fun z => by
    cases cs with
    | nil => simp at z
    | cons c r => simp at z)
  have ne_np : cs ≠ [] → np ≠ pc := fun hc => ne_of st0.kn k7 (fun z => by
    cases cs with
    | nil => exact hc rfl
    | cons c r => simp at z)
  walk_at "stp"
  refine ⟨pc, rfl, ⟨_, SqL.of k7⟩, ?_⟩
  refine for_row (row_list (xs := cs.map V.int)) (fun k σ' J => ∃ (ta : Addr) (rows : List R3) (gs ns : List V) (o5 o6 o7 : Option V), σ' = [some (.ref a), some (.ref ta), some (.ref da), some (.ref gp), some (.ref np), o5, o6, o7, none, none] ∧ S4 K J ta da gp np rows gs ns ∧ rows.length ≤ 9 + k ∧ gs.length ≤ 1 + k ∧ ns.length ≤ k ∧ J pc = some (.lst (cs.map V.int)) ∧ gp ≠ pc ∧ (cs ≠ [] → np ≠ pc) ∧ gp ≠ np) ⟨ta0, nine, [.ref g0], [], none, none, none, rfl, st0, by rw [nine_ok.2]; omega, by simp, by simp, k7, ?_, ?_, ?_⟩ (fun k σ' J hP => by obtain ⟨_, _, _, _, _, _, _, _, _, _, _, _, z, _⟩ := hP; exact SqL.of z) (fun k σ' J hi hP => ?_) (fun σ' J hP => ?_)
  · exact ne_gp
  · exact ne_np
  · exact ne_of_none kgp hnp
  · obtain ⟨ta, rows, gs, ns, o5, o6, o7, rfl, st, l1, l2, l3, kc, n1, n2, n3⟩ := hP
    have hk24 : k < 24 := by
      rw [List.length_map] at hi
      omega
    have n2' : np ≠ pc := n2 (fun z => by rw [z] at hi; exact absurd hi (Nat.not_lt_zero _))
    obtain ⟨cell, hcell⟩ := ints_get hi
    rw [hcell]
    walk_at "stp"
    refine ⟨rows, st.td, by omega, st.rw, fun td m r sd J1 t1 ht hm hr0 hsd => ?_⟩
    have st1 := st.same t1
    walk_at "stp"
    refine ⟨rows, m, r, sd, st1.tt, by omega, ⟨ht, hm, hr0, hsd⟩, ?_⟩
    cases hg : takeB rows m r sd with
    | true =>
      refine fun x i y p kv J2 e1 e2 e3 hp t2 k2 tb2 => ?_
      subst e1 e2 e3
      obtain ⟨_, _, _, ex, _, _, hno⟩ := take_back hg
      cases ex
      have hx : plainS x := by
        rcases hm with h | ⟨x', h, hx⟩
        · cases h
        · cases h; exact hx
      have st2 := st1.same t2
      have ht2 := t2.tup ht
      walk_at "stp"
      refine mIx_t ht2 (v := .str x) rfl ?_
      walk_at "stp"
      refine mIx_t ht2 (v := .int i) rfl ?_
      walk_at "stp"
      refine mIx_t ht2 (v := .str y) rfl ?_
      walk_at "stp"
      refine ⟨rows, st2.td, by omega, hm, hr0, hsd, fun J3 t3 => ?_⟩
      rw [hg]
      have st3 := st2.same t3
      have ht3 := t3.tup ht2
      walk_at "stp"
      refine iteF ?_
      walk_at "stp"
      refine mIx_t ht3 (v := .int i) rfl ?_
      walk_at "stp"
      refine mIx_t ht3 (v := .str y) rfl ?_
      walk_at "stp"
      refine ⟨ln (by show 2 ≤ 100000; decide), fun p4 hp4 => ?_⟩
      have sp4 : Same J3 (upd J3 p4 (.tup [.int i, .str y])) := same_new hp4 _
      have kp4 : (upd J3 p4 (.tup [.int i, .str y])) p4 = some (.tup [.int i, .str y]) := upd_same
      generalize upd J3 p4 (.tup [.int i, .str y]) = J4 at sp4 kp4 ⊢
      walk_at "stp"
      have st4 := st3.same sp4
      obtain ⟨kd4, kd5, kd6⟩ := id st4.td
      have hlen := kd6.len
      refine mIx_t (sp4.tup ht3) (v := .str x) rfl ?_
      refine ⟨da, _, rfl, .inl ⟨kd4, .inr x, kd5, rfl, ln1 (by omega), rfl⟩, ?_⟩
      have pn : J1 p = none := hp
      have pd : p ≠ da := fun z => by
        subst z
        obtain ⟨_, z, _⟩ := st1.td
        rw [pn] at z
        cases z
      have k4 : J4 p = some (.dK kv) := (t3.trans sp4) _ _ k2
      have tb4 := tb2.mono (t3.trans sp4)
      have tbd := kd6.snoc (b := p4) (i := i) (y := y) hno (SqT.of kp4)
      have kp5 : Keep K da J4 (upd J4 da (.dK (putK kd4 (.inr x) (.ref p4)))) := .dk kd5
      have k5 : (upd J4 da (.dK (putK kd4 (.inr x) (.ref p4)))) p = some (.dK kv) := kp5.2 _ _ pd k4
      have kd7 : (upd J4 da (.dK (putK kd4 (.inr x) (.ref p4)))) da = some (.dK (putK kd4 (.inr x) (.ref p4))) := upd_same
      have tbd := tbd.monoT kp5.1
      have tb5 := tb4.monoT kp5.1
      have rw5 := st.rw.snoc (i := i) (y := y) hno hx
      have kg5 : (upd J4 da (.dK (putK kd4 (.inr x) (.ref p4)))) gp = some (.lst gs) := by rw [upd_ne (ne_of st4.kg kd5 (fun z => by cases z))]; exact st4.kg
      have kn5 : (upd J4 da (.dK (putK kd4 (.inr x) (.ref p4)))) np = some (.lst ns) := by rw [upd_ne (ne_of st4.kn kd5 (fun z => by cases z))]; exact st4.kn
      have kc4 := (t1.trans (t2.trans (t3.trans sp4))) _ _ kc
      have kc5 : (upd J4 da (.dK (putK kd4 (.inr x) (.ref p4)))) pc = some (.lst (cs.map V.int)) := by rw [upd_ne (ne_of kc4 kd5 (fun z => by cases z))]; exact kc4
      generalize upd J4 da (.dK (putK kd4 (.inr x) (.ref p4))) = J5 at kp5 k5 kd7 tbd tb5 kg5 kn5 kc5 ⊢
      generalize putK kd4 (.inr x) (.ref p4) = kd8 at kd7 tbd
      walk_at "stp"
      refine ⟨p, kv, rfl, k5, ?_⟩
      walk_at "stp"
      refine iteF ?_
      walk_at "stp"
      refine tab_eq tb5 tbd rw5.2.1 k5 kd7 ?_
      walk_at "stp"
      refine iteF ?_
      walk_at "stp"
      refine ⟨.inl ⟨rfl, _, SqL.of kg5⟩, ?_⟩
      walk_at "stp"
      refine ⟨da, kd8, rfl, kd7, fun c6 hc6 => ?_⟩
      have t6 : Same J5 (upd J5 c6 (.dK kd8)) := same_new hc6 _
      have k6 : (upd J5 c6 (.dK kd8)) c6 = some (.dK kd8) := upd_same
      have c6d : c6 ≠ da := Ne.symm (ne_of_none kd7 hc6)
      generalize upd J5 c6 (.dK kd8) = J6 at t6 k6 ⊢
      walk_at "stp"
      refine ⟨ln (by show 2 ≤ 100000; decide), fun p7 hp7 => ?_⟩
      have sp7 : Same J6 (upd J6 p7 (.tup [.ref p, .ref c6])) := same_new hp7 _
      have kp7 : (upd J6 p7 (.tup [.ref p, .ref c6])) p7 = some (.tup [.ref p, .ref c6]) := upd_same
      generalize upd J6 p7 (.tup [.ref p, .ref c6]) = J7 at sp7 kp7 ⊢
      walk_at "stp"
      have t57 := t6.trans sp7
      have kg7 := t57 _ _ kg5
      refine mAppend_i kg7 (ln1 (by omega)) ?_
      have kl : Keep K da J7 (upd J7 gp (.lst (gs ++ [.ref p7]))) := .lst kg7
      have kall : Keep K da J4 (upd J7 gp (.lst (gs ++ [.ref p7]))) := kp5.trans ((Keep.same t57).trans kl)
      have tt9 : TabAt K (upd J7 gp (.lst (gs ++ [.ref p7]))) p (rows ++ [(x, i, y)]) := TabAt.lst ⟨kv, t57 _ _ k5, tb5.mono t57⟩ kg7
      refine ⟨p, rows ++ [(x, i, y)], gs ++ [.ref p7], ns, _, _, _, rfl, ⟨tt9, TabAt.lst ⟨kd8, t57 _ _ kd7, tbd.mono t57⟩ kg7, rw5, pd, upd_same, ?_, fun u hu => ?_, fun u hu => (st4.nv u hu).keep kall⟩, ?_, ?_, ?_, ?_, n1, n2, n3⟩
      · rw [upd_ne (Ne.symm n3)]
        exact t57 _ _ kn5
      · rcases List.mem_append.mp hu with hu | hu
        · exact (st4.gv u hu).keep kall
        · have e : u = .ref p7 := by simpa using hu
          subst e
          exact ⟨p7, p, c6, rows ++ [(x, i, y)], rfl, tup_lst kg7 _ _ (SqT.of kp7), tt9, TabAt.lst ⟨kd8, sp7 _ _ k6, tbd.mono t57⟩ kg7, rw5.2.1, pd, c6d⟩
      · rw [List.length_append, List.length_singleton]; omega
      · rw [List.length_append, List.length_singleton]; omega
      · omega
      · rw [upd_ne (Ne.symm n1)]
        exact t57 _ _ kc5
    | false =>
      refine fun J2 t2 => ?_
      have st2 := st1.same t2
      have ht2 := t2.tup ht
      walk_at "stp"
      refine mIx_t ht2 (v := m) rfl ?_
      walk_at "stp"
      refine mIx_t ht2 (v := r) rfl ?_
      walk_at "stp"
      refine mIx_t ht2 (v := sd) rfl ?_
      walk_at "stp"
      refine ⟨rows, st2.td, by omega, hm, hr0, hsd, fun J3 t3 => ?_⟩
      rw [hg]
      have st3 := st2.same t3
      have ht3 := t3.tup ht2
      walk_at "stp"
      refine iteT ?_
      walk_at "stp"
      refine ⟨.inl ⟨rfl, _, SqL.of st3.kn⟩, ?_⟩
      walk_at "stp"
      refine ⟨ln (by show 2 ≤ 100000; decide), fun p4 hp4 => ?_⟩
      have sp4 : Same J3 (upd J3 p4 (.tup [.ref ta, .ref td])) := same_new hp4 _
      have kp4 : (upd J3 p4 (.tup [.ref ta, .ref td])) p4 = some (.tup [.ref ta, .ref td]) := upd_same
      generalize upd J3 p4 (.tup [.ref ta, .ref td]) = J4 at sp4 kp4 ⊢
      walk_at "stp"
      have st4 := st3.same sp4
      refine mAppend_i st4.kn (ln1 (by omega)) ?_
      have kc4 := (t1.trans (t2.trans (t3.trans sp4))) _ _ kc
      have kl : Keep K da J4 (upd J4 np (.lst (ns ++ [.ref p4]))) := .lst st4.kn
      have tt5 := st4.tt.lst (o := .lst (ns ++ [.ref p4])) st4.kn
      have ht5 : ToldAt K (upd J4 np (.lst (ns ++ [.ref p4]))) td m r sd := ⟨kl.1 _ _ (sp4.tup ht3), hm, hr0, hsd⟩
      have kg5 : (upd J4 np (.lst (ns ++ [.ref p4]))) gp = some (.lst gs) := by rw [upd_ne n3]; exact st4.kg
      have kc5 : (upd J4 np (.lst (ns ++ [.ref p4]))) pc = some (.lst (cs.map V.int)) := by rw [upd_ne (Ne.symm n2')]; exact kc4
      have st5 : S4 K (upd J4 np (.lst (ns ++ [.ref p4]))) ta da gp np rows gs (ns ++ [.ref p4]) := ⟨tt5, st4.td.lst st4.kn, st4.rw, st4.ne, kg5, upd_same, fun u hu => (st4.gv u hu).keep kl, fun u hu => by
        rcases List.mem_append.mp hu with hu | hu
        · exact (st4.nv u hu).keep kl
        · have e : u = .ref p4 := by simpa using hu
          subst e
          exact ⟨p4, ta, td, rows, m, r, sd, rfl, kl.1 _ _ (SqT.of kp4), tt5, by omega, ht5, hg, st4.ne⟩⟩
      generalize upd J4 np (.lst (ns ++ [.ref p4])) = J5 at tt5 ht5 kg5 kc5 st5 ⊢
      walk_at "stp"
      refine iteF ?_
      walk_at "stp"
      refine ⟨rows, m, r, sd, tt5, by omega, ht5, hg, fun J6 t6 => ?_⟩
      walk_at "stp"
      refine iteF ?_
      (with_reducible refine tNext_i ?_)
      exact ⟨ta, rows, gs, ns ++ [.ref p4], _, _, _, rfl, st5.same t6, by omega, by omega, by rw [List.length_append, List.length_singleton]; omega, t6 _ _ kc5, n1, n2, n3⟩
  obtain ⟨ta, rows, gs, ns, o5, o6, o7, rfl, st, l1, l2, l3, kc, n1, n2, n3⟩ := hP
  rw [List.length_map] at l1 l2 l3
  walk_at "stp"
  refine ⟨np, rfl, ⟨_, SqL.of st.kn⟩, ?_⟩
  refine for_row (row_list (xs := ns)) (fun k σ' J2 => ∃ o8 : Option V, σ' = [some (.ref a), some (.ref ta), some (.ref da), some (.ref gp), some (.ref np), o5, o6, o7, o8, none] ∧ Same J J2) ⟨none, rfl, Same.refl _⟩ (fun k σ' J2 hP => by obtain ⟨_, _, z⟩ := hP; exact SqL.of (z _ _ st.kn)) (fun k σ' J2 hi hP => ?_) (fun σ' J2 hP => ?_)
  · obtain ⟨o8, rfl, t2⟩ := hP
    have hx : ns[k]? = some ns[k] := List.getElem?_eq_getElem hi
    have hgd : ns.getD k .non = ns[k] := by rw [List.getD_eq_getElem?_getD, hx]; rfl
    rw [hgd]
    obtain ⟨g, a1, td, rs, m, r, sd, e, h1, h2, h3, h4, h5, h6⟩ := (st.same t2).nv _ (List.getElem_mem hi)
    rw [e]
    walk_at "stp"
    refine mIx_t h1 (v := .ref a1) rfl ?_
    walk_at "stp"
    refine mIx_t h1 (v := .ref td) rfl ?_
    walk_at "stp"
    refine ⟨rs, m, r, sd, h2, h3, h4, h5, fun J3 t3 => ?_⟩
    walk_at "stp"
    refine iteF ?_
    (with_reducible refine tNext_i ?_)
    exact ⟨_, rfl, t2.trans t3⟩
  obtain ⟨o8, rfl, t2⟩ := hP
  have st2 := st.same t2
  (with_reducible refine seq_rest (fun σ' J4 => ∃ vl : V, σ' = [some (.ref a), some (.ref ta), some (.ref da), some (.ref gp), some (.ref np), o5, o6, o7, o8, some vl] ∧ Same J2 J4 ∧ (vl = .non ∨ ∃ p kv, vl = .ref p ∧ J2 p = none ∧ J4 p = some (.dK kv))) (fun σ' J4 hP => ?_) (fun kz => ?_))
  rotate_left
  · walk_at "stm"
    refine ⟨ln (by show 3 ≤ 100000; decide), fun p3 hp3 => ?_⟩
    have sp3 : Same J2 (upd J2 p3 (.tup [.str (Str.ofString "$$?"), .int 20, .str (Str.ofString "none")])) := same_new hp3 _
    have kp3 : (upd J2 p3 (.tup [.str (Str.ofString "$$?"), .int 20, .str (Str.ofString "none")])) p3 = some (.tup [.str (Str.ofString "$$?"), .int 20, .str (Str.ofString "none")]) := upd_same
    generalize upd J2 p3 (.tup [.str (Str.ofString "$$?"), .int 20, .str (Str.ofString "none")]) = J3 at sp3 kp3 ⊢
    walk_at "stm"
    have st3 := st2.same sp3
    have hlast : ToldAt K J3 p3 (.str (Str.ofString "$$?")) (.int 20) (.str (Str.ofString "none")) := ⟨SqT.of kp3, .inr ⟨_, rfl, by decide +kernel⟩, .inr (.inr (.inr ⟨20, rfl, by decide, by decide⟩)), .inr ⟨_, rfl, by decide +kernel⟩⟩
    refine ⟨rows, _, _, _, st3.tt, by omega, hlast, ?_⟩
    cases hg : takeB rows (.str (Str.ofString "$$?")) (.int 20) (.str (Str.ofString "none")) with
    | true =>
      refine fun x i y p kv J4 e1 e2 e3 hp t4 k4 tb4 => ?_
      walk_at "stm"
      exact kz _ _ ⟨.ref p, rfl, sp3.trans t4, .inr ⟨p, kv, rfl, sp3.free hp, k4⟩⟩
    | false =>
      refine fun J4 t4 => ?_
      walk_at "stm"
      exact kz _ _ ⟨.non, rfl, sp3.trans t4, .inl rfl⟩
  obtain ⟨vl, rfl, t4, hv⟩ := hP
  (with_reducible refine seq_rest (fun σ' J5 => σ' = [some (.ref a), some (.ref ta), some (.ref da), some (.ref gp), some (.ref np), o5, o6, o7, o8, some vl] ∧ Same J2 J5) (fun σ' J5 hP => ?_) (fun kz => ?_))
  rotate_left
  · rcases hv with rfl | ⟨p, kv, rfl, hp, kp⟩
    · walk_at "stm"
      refine iteF ?_
      (with_reducible refine tNext_i ?_)
      exact kz _ _ ⟨rfl, t4⟩
    · walk_at "stm"
      refine iteT ?_
      walk_at "stm"
      refine ⟨.inr (.inr (.inl ⟨rfl, .inl ⟨_, kp⟩⟩)), ?_⟩
      refine ⟨p, kv, rfl, rfl, kp, ?_⟩
      exact kz _ _ ⟨rfl, same_upd t4 hp⟩
  obtain ⟨rfl, t5⟩ := hP
  walk_at "stp"
  refine fun p6 J6 hp6 t6 tb6 => ?_
  obtain ⟨kv6, k6, _⟩ := tb6
  walk_at "stp"
  refine ⟨.inr (.inr (.inl ⟨rfl, .inl ⟨_, k6⟩⟩)), ?_⟩
  refine ⟨p6, kv6, rfl, rfl, k6, ?_⟩
  have t7 : Same J2 (upd J6 p6 (.dK [])) := t5.trans (same_upd t6 hp6)
  generalize upd J6 p6 (.dK []) = J7 at t7 ⊢
  have st7 := st2.same t7
  walk_at "stp"
  refine ⟨gp, rfl, ⟨_, SqL.of st7.kg⟩, ?_⟩
  refine for_row (row_list (xs := gs)) (fun k σ' J8 => ∃ o8 : Option V, σ' = [some (.ref a), some (.ref ta), some (.ref da), some (.ref gp), some (.ref np), o5, o6, o7, o8, some vl] ∧ J8 = J7) ⟨_, rfl, rfl⟩ (fun k σ' J8 hP => by obtain ⟨_, _, z⟩ := hP; subst z; exact SqL.of st7.kg) (fun k σ' J8 hi hP => ?_) (fun σ' J8 hP => ?_)
  · obtain ⟨o8, rfl, rfl⟩ := hP
    have hx : gs[k]? = some gs[k] := List.getElem?_eq_getElem hi
    have hgd : gs.getD k .non = gs[k] := by rw [List.getD_eq_getElem?_getD, hx]; rfl
    rw [hgd]
    obtain ⟨g, a1, b1, rs, e, h1, ⟨ka, h2, h3⟩, ⟨kb, h4, h5⟩, h6, h7, h8⟩ := st7.gv _ (List.getElem_mem hi)
    rw [e]
    walk_at "stp"
    refine mIx_t h1 (v := .ref a1) rfl ?_
    walk_at "stp"
    refine mIx_t h1 (v := .ref b1) rfl ?_
    refine tab_eq h3 h5 h6 h2 h4 ?_
    walk_at "stp"
    refine iteF ?_
    (with_reducible refine tNext_i ?_)
    exact ⟨_, rfl, rfl⟩
  obtain ⟨o8, rfl, rfl⟩ := hP
  walk_at "stp"
  refine fun p8 J9 hp8 t8 tb8 => ?_
  walk_at "stp"
  refine fun p9 J10 hp9 t9 tb9 => ?_
  obtain ⟨k1, h1, h2⟩ := tb8.mono t9
  obtain ⟨k2, h3, h4⟩ := tb9
  exact tab_eq h2 h4 nine_ok.1.2.1 h1 h3 (q _)
end
section
variable {P : Program} {w : World} {K : PySem.W.Frag} {mg : Str → Option Value} {base : Heap} {t : Ad}
theorem ok_all (T : Txt K mg t) (D : KD P w K t.c_FIRST (kv_FIRST t)) : FnOk P w K mg base CX0 5 t.a_law t.d_law ["_law_script"] (sp_law K) := by
  have h_TrailError_init := ok_TrailError_init (P := P) (w := w) (base := base) T
  have h_is_mark := ok_is_mark (P := P) (w := w) (base := base) T
  have h_first_signs := ok_first_signs (base := base) T D
  have h_is_rank := ok_is_rank (P := P) (w := w) (base := base) T
  have h_has_other_side := ok_has_other_side (P := P) (w := w) (base := base) T
  have h_l_cell_at := ok_l_cell_at (P := P) (w := w) (base := base) T
  have h_l_whole := ok_l_whole (P := P) (w := w) (base := base) T
  have h_l_stream := ok_l_stream (P := P) (w := w) (base := base) T
  have h_l_mark := ok_l_mark (P := P) (w := w) (base := base) T
  have h_l_nine := ok_l_nine (P := P) (w := w) (base := base) T
  have h_l_cells := ok_l_cells T h_l_stream h_l_cell_at
  have h_l_some_mark := ok_l_some_mark T h_l_mark
  have h_l_takes := ok_l_takes T h_l_whole
  have h_l_only_no_sign := ok_l_only_no_sign T h_l_whole
  have h_with_sign := ok_with_sign T h_has_other_side h_is_mark h_TrailError_init h_is_rank
  have h_l_told_by := ok_l_told_by T h_l_some_mark
  have h_l_refused := ok_l_refused T h_with_sign h_l_only_no_sign
  have h_l_made := ok_l_made T h_with_sign
  exact ok_law T h_first_signs h_l_nine h_l_cells h_l_made h_l_told_by h_l_takes h_l_refused
end
theorem txt_mk {w0 : World} {K : PySem.W.Frag} {h : Heap} {mg : Str → Option Value} (X : K.In h) (G : h.Ns mainGlobals mg)
    {k_TrailError : Addr}
    {nm_TrailError q_TrailError : Str} {N_TrailError : Addr} {bs_TrailError : List Value} {sn_TrailError : List Str} {sub_TrailError : List Value} {ab_TrailError : Bool} {col_TrailError : Option Bool} {dd_TrailError : Option Addr} {k0_TrailError k1_TrailError k2_TrailError k3_TrailError k5_TrailError : Option Value}
    {k_NoText : Addr}
    {nm_NoText q_NoText : Str} {N_NoText : Addr} {bs_NoText : List Value} {sn_NoText : List Str} {sub_NoText : List Value} {ab_NoText : Bool} {col_NoText : Option Bool} {dd_NoText : Option Addr} {k0_NoText k1_NoText k2_NoText k3_NoText k5_NoText : Option Value}
    {k_NoSign : Addr}
    {nm_NoSign q_NoSign : Str} {N_NoSign : Addr} {bs_NoSign : List Value} {sn_NoSign : List Str} {sub_NoSign : List Value} {ab_NoSign : Bool} {col_NoSign : Option Bool} {dd_NoSign : Option Addr} {k0_NoSign k1_NoSign k2_NoSign k3_NoSign k5_NoSign : Option Value}
    {k_NoRule : Addr}
    {nm_NoRule q_NoRule : Str} {N_NoRule : Addr} {bs_NoRule : List Value} {sn_NoRule : List Str} {sub_NoRule : List Value} {ab_NoRule : Bool} {col_NoRule : Option Bool} {dd_NoRule : Option Addr} {k0_NoRule k1_NoRule k2_NoRule k3_NoRule k5_NoRule : Option Value}
    {k_Big : Addr}
    {nm_Big q_Big : Str} {N_Big : Addr} {bs_Big : List Value} {sn_Big : List Str} {sub_Big : List Value} {ab_Big : Bool} {col_Big : Option Bool} {dd_Big : Option Addr} {k0_Big k1_Big k2_Big k3_Big k5_Big : Option Value}
    {f0 : Addr} {od0 an0 : Option Addr} {sl0 : Array (Option Value)} {oc0 kV0 dc0 pm0 cd0 ct0 : Value}
    {v0 : Addr} {vd0 : Option Addr} {vn0 : Nat} {vs0 : Array (Option Value)} {w0_0 : Tok}
    {f1 : Addr} {od1 an1 : Option Addr} {sl1 : Array (Option Value)} {oc1 kV1 dc1 pm1 cd1 ct1 : Value}
    {f2 : Addr} {od2 an2 : Option Addr} {sl2 : Array (Option Value)} {oc2 kV2 dc2 pm2 cd2 ct2 : Value}
    {f3 : Addr} {od3 an3 : Option Addr} {sl3 : Array (Option Value)} {oc3 kV3 dc3 pm3 cd3 ct3 : Value}
    {f4 : Addr} {od4 an4 : Option Addr} {sl4 : Array (Option Value)} {oc4 kV4 dc4 pm4 cd4 ct4 : Value}
    {f5 : Addr} {od5 an5 : Option Addr} {sl5 : Array (Option Value)} {oc5 kV5 dc5 pm5 cd5 ct5 : Value}
    {f6 : Addr} {od6 an6 : Option Addr} {sl6 : Array (Option Value)} {oc6 kV6 dc6 pm6 cd6 ct6 : Value}
    {f7 : Addr} {od7 an7 : Option Addr} {sl7 : Array (Option Value)} {oc7 kV7 dc7 pm7 cd7 ct7 : Value}
    {f8 : Addr} {od8 an8 : Option Addr} {sl8 : Array (Option Value)} {oc8 kV8 dc8 pm8 cd8 ct8 : Value}
    {f9 : Addr} {od9 an9 : Option Addr} {sl9 : Array (Option Value)} {oc9 kV9 dc9 pm9 cd9 ct9 : Value}
    {f10 : Addr} {od10 an10 : Option Addr} {sl10 : Array (Option Value)} {oc10 kV10 dc10 pm10 cd10 ct10 : Value}
    {f11 : Addr} {od11 an11 : Option Addr} {sl11 : Array (Option Value)} {oc11 kV11 dc11 pm11 cd11 ct11 : Value}
    {f12 : Addr} {od12 an12 : Option Addr} {sl12 : Array (Option Value)} {oc12 kV12 dc12 pm12 cd12 ct12 : Value}
    {f13 : Addr} {od13 an13 : Option Addr} {sl13 : Array (Option Value)} {oc13 kV13 dc13 pm13 cd13 ct13 : Value}
    {f14 : Addr} {od14 an14 : Option Addr} {sl14 : Array (Option Value)} {oc14 kV14 dc14 pm14 cd14 ct14 : Value}
    {f15 : Addr} {od15 an15 : Option Addr} {sl15 : Array (Option Value)} {oc15 kV15 dc15 pm15 cd15 ct15 : Value}
    {f16 : Addr} {od16 an16 : Option Addr} {sl16 : Array (Option Value)} {oc16 kV16 dc16 pm16 cd16 ct16 : Value}
    {f17 : Addr} {od17 an17 : Option Addr} {sl17 : Array (Option Value)} {oc17 kV17 dc17 pm17 cd17 ct17 : Value}
    {f18 : Addr} {od18 an18 : Option Addr} {sl18 : Array (Option Value)} {oc18 kV18 dc18 pm18 cd18 ct18 : Value}
    {t_ARROW : Tok}
    {t_MOST_MARK_SIGNS : Tok}
    {t_MARK_SIGNS : Tok}
    {c_FIRST : Addr}
    {nd_FIRST : Nat} {tk_FIRST_0 : Tok} {tk_FIRST_1 : Tok} {tk_FIRST_2 : Tok} {tk_FIRST_3 : Tok} {tk_FIRST_4 : Tok} {tk_FIRST_5 : Tok} {tk_FIRST_6 : Tok} {tk_FIRST_7 : Tok} {tk_FIRST_8 : Tok}
    {c_FIRST_0 : Addr} {od_FIRST_0 : Option Addr} {n_FIRST_0 : Nat} {sl_FIRST_0 : Array (Option Value)} {t_FIRST_0_0 : Tok} {t_FIRST_0_1 : Tok}
    {c_FIRST_1 : Addr} {od_FIRST_1 : Option Addr} {n_FIRST_1 : Nat} {sl_FIRST_1 : Array (Option Value)} {t_FIRST_1_0 : Tok} {t_FIRST_1_1 : Tok}
    {c_FIRST_2 : Addr} {od_FIRST_2 : Option Addr} {n_FIRST_2 : Nat} {sl_FIRST_2 : Array (Option Value)} {t_FIRST_2_0 : Tok} {t_FIRST_2_1 : Tok}
    {c_FIRST_3 : Addr} {od_FIRST_3 : Option Addr} {n_FIRST_3 : Nat} {sl_FIRST_3 : Array (Option Value)} {t_FIRST_3_0 : Tok} {t_FIRST_3_1 : Tok}
    {c_FIRST_4 : Addr} {od_FIRST_4 : Option Addr} {n_FIRST_4 : Nat} {sl_FIRST_4 : Array (Option Value)} {t_FIRST_4_0 : Tok} {t_FIRST_4_1 : Tok}
    {c_FIRST_5 : Addr} {od_FIRST_5 : Option Addr} {n_FIRST_5 : Nat} {sl_FIRST_5 : Array (Option Value)} {t_FIRST_5_0 : Tok} {t_FIRST_5_1 : Tok}
    {c_FIRST_6 : Addr} {od_FIRST_6 : Option Addr} {n_FIRST_6 : Nat} {sl_FIRST_6 : Array (Option Value)} {t_FIRST_6_0 : Tok} {t_FIRST_6_1 : Tok}
    {c_FIRST_7 : Addr} {od_FIRST_7 : Option Addr} {n_FIRST_7 : Nat} {sl_FIRST_7 : Array (Option Value)} {t_FIRST_7_0 : Tok} {t_FIRST_7_1 : Tok}
    {c_FIRST_8 : Addr} {od_FIRST_8 : Option Addr} {n_FIRST_8 : Nat} {sl_FIRST_8 : Array (Option Value)} {t_FIRST_8_0 : Tok} {t_FIRST_8_1 : Tok}
    {t_MOST_RANK : Tok}
    {c_SIDES : Addr} {od_SIDES : Option Addr} {n_SIDES : Nat} {sl_SIDES : Array (Option Value)} {t_SIDES_0 : Tok} {t_SIDES_1 : Tok} {t_SIDES_2 : Tok}
    (ac_TrailError : PySem.W.nsIn K mainGlobals "TrailError" = some (some (.ref k_TrailError)))
    (oc_TrailError : K.lookup k_TrailError = some (excClassObj nm_TrailError q_TrailError k_TrailError N_TrailError bs_TrailError [.type "ValueError", .type "Exception", .type "BaseException", .type "object"] true sn_TrailError sub_TrailError ab_TrailError col_TrailError dd_TrailError k0_TrailError k1_TrailError k2_TrailError k3_TrailError k5_TrailError newS))
    (ga_TrailError : PySem.W.findIn K (.ref k_TrailError) "__getattribute__" = some (some (.builtin "BaseException.__getattribute__")))
    (gx_TrailError : PySem.W.findIn K (.ref k_TrailError) "__getattr__" = some none)
    (sa_TrailError : PySem.W.findIn K (.ref k_TrailError) "__setattr__" = some (some (.builtin "object.__setattr__")))
    (na_TrailError_row : PySem.W.findIn K (.ref k_TrailError) "row" = some none)
    (in_TrailError : PySem.W.findIn K (.ref k_TrailError) "__init__" = some (some (.ref f0)))
    (kc_TrailError : PySem.W.keepIn K (.ref k_TrailError) = true)
    (ac_NoText : PySem.W.nsIn K mainGlobals "NoText" = some (some (.ref k_NoText)))
    (oc_NoText : K.lookup k_NoText = some (excClassObj nm_NoText q_NoText k_NoText N_NoText bs_NoText [.ref k_TrailError, .type "ValueError", .type "Exception", .type "BaseException", .type "object"] true sn_NoText sub_NoText ab_NoText col_NoText dd_NoText k0_NoText k1_NoText k2_NoText k3_NoText k5_NoText newS))
    (ga_NoText : PySem.W.findIn K (.ref k_NoText) "__getattribute__" = some (some (.builtin "BaseException.__getattribute__")))
    (gx_NoText : PySem.W.findIn K (.ref k_NoText) "__getattr__" = some none)
    (sa_NoText : PySem.W.findIn K (.ref k_NoText) "__setattr__" = some (some (.builtin "object.__setattr__")))
    (na_NoText_row : PySem.W.findIn K (.ref k_NoText) "row" = some none)
    (in_NoText : PySem.W.findIn K (.ref k_NoText) "__init__" = some (some (.ref f0)))
    (kc_NoText : PySem.W.keepIn K (.ref k_NoText) = true)
    (ac_NoSign : PySem.W.nsIn K mainGlobals "NoSign" = some (some (.ref k_NoSign)))
    (oc_NoSign : K.lookup k_NoSign = some (excClassObj nm_NoSign q_NoSign k_NoSign N_NoSign bs_NoSign [.ref k_TrailError, .type "ValueError", .type "Exception", .type "BaseException", .type "object"] true sn_NoSign sub_NoSign ab_NoSign col_NoSign dd_NoSign k0_NoSign k1_NoSign k2_NoSign k3_NoSign k5_NoSign newS))
    (ga_NoSign : PySem.W.findIn K (.ref k_NoSign) "__getattribute__" = some (some (.builtin "BaseException.__getattribute__")))
    (gx_NoSign : PySem.W.findIn K (.ref k_NoSign) "__getattr__" = some none)
    (sa_NoSign : PySem.W.findIn K (.ref k_NoSign) "__setattr__" = some (some (.builtin "object.__setattr__")))
    (na_NoSign_row : PySem.W.findIn K (.ref k_NoSign) "row" = some none)
    (in_NoSign : PySem.W.findIn K (.ref k_NoSign) "__init__" = some (some (.ref f0)))
    (kc_NoSign : PySem.W.keepIn K (.ref k_NoSign) = true)
    (ja_NoSign : PySem.W.findIn K (.ref k_NoSign) "__class__" = some (some (.builtin "object.__class__")))
    (jn_NoSign : PySem.W.specialIn K (.builtin "object.__class__") "__get__" = some (some (.builtin "getset_descriptor.__get__")))
    (jt_NoSign : PySem.W.takesIn K (.builtin "object.__class__") = some true)
    (jm_NoSign : PySem.W.mroIn K k_NoSign (.type "object") = some true)
    (ac_NoRule : PySem.W.nsIn K mainGlobals "NoRule" = some (some (.ref k_NoRule)))
    (oc_NoRule : K.lookup k_NoRule = some (excClassObj nm_NoRule q_NoRule k_NoRule N_NoRule bs_NoRule [.ref k_TrailError, .type "ValueError", .type "Exception", .type "BaseException", .type "object"] true sn_NoRule sub_NoRule ab_NoRule col_NoRule dd_NoRule k0_NoRule k1_NoRule k2_NoRule k3_NoRule k5_NoRule newS))
    (ga_NoRule : PySem.W.findIn K (.ref k_NoRule) "__getattribute__" = some (some (.builtin "BaseException.__getattribute__")))
    (gx_NoRule : PySem.W.findIn K (.ref k_NoRule) "__getattr__" = some none)
    (sa_NoRule : PySem.W.findIn K (.ref k_NoRule) "__setattr__" = some (some (.builtin "object.__setattr__")))
    (na_NoRule_row : PySem.W.findIn K (.ref k_NoRule) "row" = some none)
    (in_NoRule : PySem.W.findIn K (.ref k_NoRule) "__init__" = some (some (.ref f0)))
    (kc_NoRule : PySem.W.keepIn K (.ref k_NoRule) = true)
    (ac_Big : PySem.W.nsIn K mainGlobals "Big" = some (some (.ref k_Big)))
    (oc_Big : K.lookup k_Big = some (excClassObj nm_Big q_Big k_Big N_Big bs_Big [.ref k_TrailError, .type "ValueError", .type "Exception", .type "BaseException", .type "object"] true sn_Big sub_Big ab_Big col_Big dd_Big k0_Big k1_Big k2_Big k3_Big k5_Big newS))
    (ga_Big : PySem.W.findIn K (.ref k_Big) "__getattribute__" = some (some (.builtin "BaseException.__getattribute__")))
    (gx_Big : PySem.W.findIn K (.ref k_Big) "__getattr__" = some none)
    (sa_Big : PySem.W.findIn K (.ref k_Big) "__setattr__" = some (some (.builtin "object.__setattr__")))
    (na_Big_row : PySem.W.findIn K (.ref k_Big) "row" = some none)
    (in_Big : PySem.W.findIn K (.ref k_Big) "__init__" = some (some (.ref f0)))
    (kc_Big : PySem.W.keepIn K (.ref k_Big) = true)
    (iz_NoSign_ValueError : PySem.W.kitOne K (.ref k_NoSign) (.type "ValueError") = some true)
    (iz_NoSign_NoSign : PySem.W.kitOne K (.ref k_NoSign) (.ref k_NoSign) = some true)
    (iy_NoSign_NoText_NoRule_Big : PySem.W.kitAny K (.ref k_NoSign) [.ref k_NoText, .ref k_NoRule, .ref k_Big] = some false)
    (l0 : K.lookup f0 = some ⟨oc0, od0, .func (PySem.W.fnOf "__init__" "TrailError.__init__" (defArgs s_TrailError_init) (defBody s_TrailError_init) (defScope s_TrailError_init) (.ref v0) kV0 dc0 pm0 an0 cd0 ct0), sl0⟩)
    (c0 : PySem.W.codeIn K cd0 "TrailError.__init__" = true)
    (k0 : PySem.W.keepIn K (.ref f0) = true)
    (v0_ : K.lookup v0 = some ⟨.type "tuple", vd0, .seq #[.int 0 w0_0] vn0, vs0⟩)
    (fn0 : PySem.W.typeIn K (.ref f0) = some (.type "function"))
    (a1 : PySem.W.nsIn K mainGlobals "is_mark" = some (some (.ref f1)))
    (l1 : K.lookup f1 = some ⟨oc1, od1, .func (PySem.W.fnOf "is_mark" "is_mark" (defArgs s_is_mark) (defBody s_is_mark) (defScope s_is_mark) .none kV1 dc1 pm1 an1 cd1 ct1), sl1⟩)
    (c1 : PySem.W.codeIn K cd1 "is_mark" = true)
    (k1 : PySem.W.keepIn K (.ref f1) = true)
    (a2 : PySem.W.nsIn K mainGlobals "first_signs" = some (some (.ref f2)))
    (l2 : K.lookup f2 = some ⟨oc2, od2, .func (PySem.W.fnOf "first_signs" "first_signs" (defArgs s_first_signs) (defBody s_first_signs) (defScope s_first_signs) .none kV2 dc2 pm2 an2 cd2 ct2), sl2⟩)
    (c2 : PySem.W.codeIn K cd2 "first_signs" = true)
    (k2 : PySem.W.keepIn K (.ref f2) = true)
    (a3 : PySem.W.nsIn K mainGlobals "is_rank" = some (some (.ref f3)))
    (l3 : K.lookup f3 = some ⟨oc3, od3, .func (PySem.W.fnOf "is_rank" "is_rank" (defArgs s_is_rank) (defBody s_is_rank) (defScope s_is_rank) .none kV3 dc3 pm3 an3 cd3 ct3), sl3⟩)
    (c3 : PySem.W.codeIn K cd3 "is_rank" = true)
    (k3 : PySem.W.keepIn K (.ref f3) = true)
    (a4 : PySem.W.nsIn K mainGlobals "has_other_side" = some (some (.ref f4)))
    (l4 : K.lookup f4 = some ⟨oc4, od4, .func (PySem.W.fnOf "has_other_side" "has_other_side" (defArgs s_has_other_side) (defBody s_has_other_side) (defScope s_has_other_side) .none kV4 dc4 pm4 an4 cd4 ct4), sl4⟩)
    (c4 : PySem.W.codeIn K cd4 "has_other_side" = true)
    (k4 : PySem.W.keepIn K (.ref f4) = true)
    (a5 : PySem.W.nsIn K mainGlobals "with_sign" = some (some (.ref f5)))
    (l5 : K.lookup f5 = some ⟨oc5, od5, .func (PySem.W.fnOf "with_sign" "with_sign" (defArgs s_with_sign) (defBody s_with_sign) (defScope s_with_sign) .none kV5 dc5 pm5 an5 cd5 ct5), sl5⟩)
    (c5 : PySem.W.codeIn K cd5 "with_sign" = true)
    (k5 : PySem.W.keepIn K (.ref f5) = true)
    (a6 : PySem.W.nsIn K mainGlobals "_law_cell_at" = some (some (.ref f6)))
    (l6 : K.lookup f6 = some ⟨oc6, od6, .func (PySem.W.fnOf "_law_cell_at" "_law_cell_at" (defArgs s_l_cell_at) (defBody s_l_cell_at) (defScope s_l_cell_at) .none kV6 dc6 pm6 an6 cd6 ct6), sl6⟩)
    (c6 : PySem.W.codeIn K cd6 "_law_cell_at" = true)
    (k6 : PySem.W.keepIn K (.ref f6) = true)
    (a7 : PySem.W.nsIn K mainGlobals "_law_whole" = some (some (.ref f7)))
    (l7 : K.lookup f7 = some ⟨oc7, od7, .func (PySem.W.fnOf "_law_whole" "_law_whole" (defArgs s_l_whole) (defBody s_l_whole) (defScope s_l_whole) .none kV7 dc7 pm7 an7 cd7 ct7), sl7⟩)
    (c7 : PySem.W.codeIn K cd7 "_law_whole" = true)
    (k7 : PySem.W.keepIn K (.ref f7) = true)
    (a8 : PySem.W.nsIn K mainGlobals "_law_stream" = some (some (.ref f8)))
    (l8 : K.lookup f8 = some ⟨oc8, od8, .func (PySem.W.fnOf "_law_stream" "_law_stream" (defArgs s_l_stream) (defBody s_l_stream) (defScope s_l_stream) .none kV8 dc8 pm8 an8 cd8 ct8), sl8⟩)
    (c8 : PySem.W.codeIn K cd8 "_law_stream" = true)
    (k8 : PySem.W.keepIn K (.ref f8) = true)
    (a9 : PySem.W.nsIn K mainGlobals "_law_cells" = some (some (.ref f9)))
    (l9 : K.lookup f9 = some ⟨oc9, od9, .func (PySem.W.fnOf "_law_cells" "_law_cells" (defArgs s_l_cells) (defBody s_l_cells) (defScope s_l_cells) .none kV9 dc9 pm9 an9 cd9 ct9), sl9⟩)
    (c9 : PySem.W.codeIn K cd9 "_law_cells" = true)
    (k9 : PySem.W.keepIn K (.ref f9) = true)
    (a10 : PySem.W.nsIn K mainGlobals "_law_mark" = some (some (.ref f10)))
    (l10 : K.lookup f10 = some ⟨oc10, od10, .func (PySem.W.fnOf "_law_mark" "_law_mark" (defArgs s_l_mark) (defBody s_l_mark) (defScope s_l_mark) .none kV10 dc10 pm10 an10 cd10 ct10), sl10⟩)
    (c10 : PySem.W.codeIn K cd10 "_law_mark" = true)
    (k10 : PySem.W.keepIn K (.ref f10) = true)
    (a11 : PySem.W.nsIn K mainGlobals "_law_nine" = some (some (.ref f11)))
    (l11 : K.lookup f11 = some ⟨oc11, od11, .func (PySem.W.fnOf "_law_nine" "_law_nine" (defArgs s_l_nine) (defBody s_l_nine) (defScope s_l_nine) .none kV11 dc11 pm11 an11 cd11 ct11), sl11⟩)
    (c11 : PySem.W.codeIn K cd11 "_law_nine" = true)
    (k11 : PySem.W.keepIn K (.ref f11) = true)
    (a12 : PySem.W.nsIn K mainGlobals "_law_some_mark" = some (some (.ref f12)))
    (l12 : K.lookup f12 = some ⟨oc12, od12, .func (PySem.W.fnOf "_law_some_mark" "_law_some_mark" (defArgs s_l_some_mark) (defBody s_l_some_mark) (defScope s_l_some_mark) .none kV12 dc12 pm12 an12 cd12 ct12), sl12⟩)
    (c12 : PySem.W.codeIn K cd12 "_law_some_mark" = true)
    (k12 : PySem.W.keepIn K (.ref f12) = true)
    (a13 : PySem.W.nsIn K mainGlobals "_law_told_by" = some (some (.ref f13)))
    (l13 : K.lookup f13 = some ⟨oc13, od13, .func (PySem.W.fnOf "_law_told_by" "_law_told_by" (defArgs s_l_told_by) (defBody s_l_told_by) (defScope s_l_told_by) .none kV13 dc13 pm13 an13 cd13 ct13), sl13⟩)
    (c13 : PySem.W.codeIn K cd13 "_law_told_by" = true)
    (k13 : PySem.W.keepIn K (.ref f13) = true)
    (a14 : PySem.W.nsIn K mainGlobals "_law_takes" = some (some (.ref f14)))
    (l14 : K.lookup f14 = some ⟨oc14, od14, .func (PySem.W.fnOf "_law_takes" "_law_takes" (defArgs s_l_takes) (defBody s_l_takes) (defScope s_l_takes) .none kV14 dc14 pm14 an14 cd14 ct14), sl14⟩)
    (c14 : PySem.W.codeIn K cd14 "_law_takes" = true)
    (k14 : PySem.W.keepIn K (.ref f14) = true)
    (a15 : PySem.W.nsIn K mainGlobals "_law_only_no_sign" = some (some (.ref f15)))
    (l15 : K.lookup f15 = some ⟨oc15, od15, .func (PySem.W.fnOf "_law_only_no_sign" "_law_only_no_sign" (defArgs s_l_only_no_sign) (defBody s_l_only_no_sign) (defScope s_l_only_no_sign) .none kV15 dc15 pm15 an15 cd15 ct15), sl15⟩)
    (c15 : PySem.W.codeIn K cd15 "_law_only_no_sign" = true)
    (k15 : PySem.W.keepIn K (.ref f15) = true)
    (a16 : PySem.W.nsIn K mainGlobals "_law_refused" = some (some (.ref f16)))
    (l16 : K.lookup f16 = some ⟨oc16, od16, .func (PySem.W.fnOf "_law_refused" "_law_refused" (defArgs s_l_refused) (defBody s_l_refused) (defScope s_l_refused) .none kV16 dc16 pm16 an16 cd16 ct16), sl16⟩)
    (c16 : PySem.W.codeIn K cd16 "_law_refused" = true)
    (k16 : PySem.W.keepIn K (.ref f16) = true)
    (a17 : PySem.W.nsIn K mainGlobals "_law_made" = some (some (.ref f17)))
    (l17 : K.lookup f17 = some ⟨oc17, od17, .func (PySem.W.fnOf "_law_made" "_law_made" (defArgs s_l_made) (defBody s_l_made) (defScope s_l_made) .none kV17 dc17 pm17 an17 cd17 ct17), sl17⟩)
    (c17 : PySem.W.codeIn K cd17 "_law_made" = true)
    (k17 : PySem.W.keepIn K (.ref f17) = true)
    (a18 : PySem.W.nsIn K mainGlobals "law" = some (some (.ref f18)))
    (l18 : K.lookup f18 = some ⟨oc18, od18, .func (PySem.W.fnOf "law" "law" (defArgs s_law) (defBody s_law) (defScope s_law) .none kV18 dc18 pm18 an18 cd18 ct18), sl18⟩)
    (c18 : PySem.W.codeIn K cd18 "law" = true)
    (k18 : PySem.W.keepIn K (.ref f18) = true)
    (z0 : PySem.W.nsIn K mainGlobals "ValueError" = some none)
    (z1 : PySem.W.nsIn K mainGlobals "all" = some none)
    (z2 : PySem.W.nsIn K mainGlobals "any" = some none)
    (z3 : PySem.W.nsIn K mainGlobals "bool" = some none)
    (z4 : PySem.W.nsIn K mainGlobals "dict" = some none)
    (z5 : PySem.W.nsIn K mainGlobals "int" = some none)
    (z6 : PySem.W.nsIn K mainGlobals "isinstance" = some none)
    (z7 : PySem.W.nsIn K mainGlobals "len" = some none)
    (z8 : PySem.W.nsIn K mainGlobals "list" = some none)
    (z9 : PySem.W.nsIn K mainGlobals "min" = some none)
    (z10 : PySem.W.nsIn K mainGlobals "range" = some none)
    (z11 : PySem.W.nsIn K mainGlobals "str" = some none)
    (y0 : PySem.W.nsIn K mainGlobals "ARROW" = some (some (.str (PySem.Str.ofString "<-") t_ARROW)))
    (y1 : PySem.W.nsIn K mainGlobals "MOST_MARK_SIGNS" = some (some (.int 3 t_MOST_MARK_SIGNS)))
    (y2 : PySem.W.nsIn K mainGlobals "MARK_SIGNS" = some (some (.str (PySem.Str.ofString "+-*/:<=>&^?@#!;$") t_MARK_SIGNS)))
    (y3 : PySem.W.nsIn K mainGlobals "FIRST" = some (some (.ref c_FIRST)))
    (dd_FIRST : K.lookup c_FIRST = some ⟨.type "dict", none, .dict (List.toArray [⟨PyData.keyHash w0.params (PySem.Str.ofString "="), .str (PySem.Str.ofString "=") tk_FIRST_0, .ref c_FIRST_0⟩, ⟨PyData.keyHash w0.params (PySem.Str.ofString ":="), .str (PySem.Str.ofString ":=") tk_FIRST_1, .ref c_FIRST_1⟩, ⟨PyData.keyHash w0.params (PySem.Str.ofString "<"), .str (PySem.Str.ofString "<") tk_FIRST_2, .ref c_FIRST_2⟩, ⟨PyData.keyHash w0.params (PySem.Str.ofString "<="), .str (PySem.Str.ofString "<=") tk_FIRST_3, .ref c_FIRST_3⟩, ⟨PyData.keyHash w0.params (PySem.Str.ofString "+"), .str (PySem.Str.ofString "+") tk_FIRST_4, .ref c_FIRST_4⟩, ⟨PyData.keyHash w0.params (PySem.Str.ofString "-"), .str (PySem.Str.ofString "-") tk_FIRST_5, .ref c_FIRST_5⟩, ⟨PyData.keyHash w0.params (PySem.Str.ofString "*"), .str (PySem.Str.ofString "*") tk_FIRST_6, .ref c_FIRST_6⟩, ⟨PyData.keyHash w0.params (PySem.Str.ofString "/"), .str (PySem.Str.ofString "/") tk_FIRST_7, .ref c_FIRST_7⟩, ⟨PyData.keyHash w0.params (PySem.Str.ofString "/:"), .str (PySem.Str.ofString "/:") tk_FIRST_8, .ref c_FIRST_8⟩]) nd_FIRST, #[]⟩)
    (y3_0 : K.lookup c_FIRST_0 = some ⟨.type "tuple", od_FIRST_0, .seq #[.int 15 t_FIRST_0_0, .str (PySem.Str.ofString "none") t_FIRST_0_1] n_FIRST_0, sl_FIRST_0⟩)
    (y3_1 : K.lookup c_FIRST_1 = some ⟨.type "tuple", od_FIRST_1, .seq #[.int 15 t_FIRST_1_0, .str (PySem.Str.ofString "none") t_FIRST_1_1] n_FIRST_1, sl_FIRST_1⟩)
    (y3_2 : K.lookup c_FIRST_2 = some ⟨.type "tuple", od_FIRST_2, .seq #[.int 15 t_FIRST_2_0, .str (PySem.Str.ofString "none") t_FIRST_2_1] n_FIRST_2, sl_FIRST_2⟩)
    (y3_3 : K.lookup c_FIRST_3 = some ⟨.type "tuple", od_FIRST_3, .seq #[.int 15 t_FIRST_3_0, .str (PySem.Str.ofString "none") t_FIRST_3_1] n_FIRST_3, sl_FIRST_3⟩)
    (y3_4 : K.lookup c_FIRST_4 = some ⟨.type "tuple", od_FIRST_4, .seq #[.int 10 t_FIRST_4_0, .str (PySem.Str.ofString "left") t_FIRST_4_1] n_FIRST_4, sl_FIRST_4⟩)
    (y3_5 : K.lookup c_FIRST_5 = some ⟨.type "tuple", od_FIRST_5, .seq #[.int 10 t_FIRST_5_0, .str (PySem.Str.ofString "left") t_FIRST_5_1] n_FIRST_5, sl_FIRST_5⟩)
    (y3_6 : K.lookup c_FIRST_6 = some ⟨.type "tuple", od_FIRST_6, .seq #[.int 8 t_FIRST_6_0, .str (PySem.Str.ofString "left") t_FIRST_6_1] n_FIRST_6, sl_FIRST_6⟩)
    (y3_7 : K.lookup c_FIRST_7 = some ⟨.type "tuple", od_FIRST_7, .seq #[.int 8 t_FIRST_7_0, .str (PySem.Str.ofString "left") t_FIRST_7_1] n_FIRST_7, sl_FIRST_7⟩)
    (y3_8 : K.lookup c_FIRST_8 = some ⟨.type "tuple", od_FIRST_8, .seq #[.int 8 t_FIRST_8_0, .str (PySem.Str.ofString "left") t_FIRST_8_1] n_FIRST_8, sl_FIRST_8⟩)
    (ee_FIRST : (c_FIRST == sysModules) = false)
    (y4 : PySem.W.nsIn K mainGlobals "MOST_RANK" = some (some (.int 20 t_MOST_RANK)))
    (y5 : PySem.W.nsIn K mainGlobals "SIDES" = some (some (.ref c_SIDES)))
    (y5_0 : K.lookup c_SIDES = some ⟨.type "tuple", od_SIDES, .seq #[.str (PySem.Str.ofString "left") t_SIDES_0, .str (PySem.Str.ofString "right") t_SIDES_1, .str (PySem.Str.ofString "none") t_SIDES_2] n_SIDES, sl_SIDES⟩)
    : ∃ t : Ad, Txt K mg t ∧ (∀ P : Program, KD P w0 K t.c_FIRST (kv_FIRST t)) ∧ ∀ (s : Shared) (u : Value), BindsTo s t.d_law ⟨[u], []⟩ [("_law_script", u)] := by
  have F0 := funD_mk (st := s_TrailError_init) l0 c0 k0
  have F1 := fun_mk (st := s_is_mark) l1 c1 k1
  have F2 := fun_mk (st := s_first_signs) l2 c2 k2
  have F3 := fun_mk (st := s_is_rank) l3 c3 k3
  have F4 := fun_mk (st := s_has_other_side) l4 c4 k4
  have F5 := fun_mk (st := s_with_sign) l5 c5 k5
  have F6 := fun_mk (st := s_l_cell_at) l6 c6 k6
  have F7 := fun_mk (st := s_l_whole) l7 c7 k7
  have F8 := fun_mk (st := s_l_stream) l8 c8 k8
  have F9 := fun_mk (st := s_l_cells) l9 c9 k9
  have F10 := fun_mk (st := s_l_mark) l10 c10 k10
  have F11 := fun_mk (st := s_l_nine) l11 c11 k11
  have F12 := fun_mk (st := s_l_some_mark) l12 c12 k12
  have F13 := fun_mk (st := s_l_told_by) l13 c13 k13
  have F14 := fun_mk (st := s_l_takes) l14 c14 k14
  have F15 := fun_mk (st := s_l_only_no_sign) l15 c15 k15
  have F16 := fun_mk (st := s_l_refused) l16 c16 k16
  have F17 := fun_mk (st := s_l_made) l17 c17 k17
  have F18 := fun_mk (st := s_law) l18 c18 k18
  exact ⟨⟨k_TrailError, k_NoText, k_NoSign, k_NoRule, k_Big, f0, _, v0, w0_0, f1, _, f2, _, f3, _, f4, _, f5, _, f6, _, f7, _, f8, _, f9, _, f10, _, f11, _, f12, _, f13, _, f14, _, f15, _, f16, _, f17, _, f18, _, t_ARROW, t_MOST_MARK_SIGNS, t_MARK_SIGNS, c_FIRST, c_FIRST_0, c_FIRST_1, c_FIRST_2, c_FIRST_3, c_FIRST_4, c_FIRST_5, c_FIRST_6, c_FIRST_7, c_FIRST_8, t_MOST_RANK, c_SIDES⟩, ⟨PySem.W.mg_of X G ac_TrailError,
    ⟨⟨nm_TrailError, q_TrailError, N_TrailError, bs_TrailError, sn_TrailError, sub_TrailError, ab_TrailError, col_TrailError, dd_TrailError, k0_TrailError, k1_TrailError, k2_TrailError, k3_TrailError, k5_TrailError, oc_TrailError⟩, by simp, by simp, by simp, by simp⟩,
    ⟨[], by simp, rfl⟩,
    ⟨ga_TrailError, gx_TrailError, sa_TrailError⟩,
    na_TrailError_row,
    ⟨⟨⟨nm_TrailError, q_TrailError, N_TrailError, bs_TrailError, sn_TrailError, sub_TrailError, ab_TrailError, col_TrailError, dd_TrailError, k0_TrailError, k1_TrailError, k2_TrailError, k3_TrailError, k5_TrailError, oc_TrailError⟩, by simp, by simp, by simp, by simp⟩, in_TrailError, fn0, kc_TrailError⟩,
    PySem.W.mg_of X G ac_NoText,
    ⟨⟨nm_NoText, q_NoText, N_NoText, bs_NoText, sn_NoText, sub_NoText, ab_NoText, col_NoText, dd_NoText, k0_NoText, k1_NoText, k2_NoText, k3_NoText, k5_NoText, oc_NoText⟩, by simp, by simp, by simp, by simp⟩,
    ⟨[.ref k_TrailError], by simp, rfl⟩,
    ⟨ga_NoText, gx_NoText, sa_NoText⟩,
    na_NoText_row,
    ⟨⟨⟨nm_NoText, q_NoText, N_NoText, bs_NoText, sn_NoText, sub_NoText, ab_NoText, col_NoText, dd_NoText, k0_NoText, k1_NoText, k2_NoText, k3_NoText, k5_NoText, oc_NoText⟩, by simp, by simp, by simp, by simp⟩, in_NoText, fn0, kc_NoText⟩,
    PySem.W.mg_of X G ac_NoSign,
    ⟨⟨nm_NoSign, q_NoSign, N_NoSign, bs_NoSign, sn_NoSign, sub_NoSign, ab_NoSign, col_NoSign, dd_NoSign, k0_NoSign, k1_NoSign, k2_NoSign, k3_NoSign, k5_NoSign, oc_NoSign⟩, by simp, by simp, by simp, by simp⟩,
    ⟨[.ref k_TrailError], by simp, rfl⟩,
    ⟨ga_NoSign, gx_NoSign, sa_NoSign⟩,
    na_NoSign_row,
    ⟨⟨⟨nm_NoSign, q_NoSign, N_NoSign, bs_NoSign, sn_NoSign, sub_NoSign, ab_NoSign, col_NoSign, dd_NoSign, k0_NoSign, k1_NoSign, k2_NoSign, k3_NoSign, k5_NoSign, oc_NoSign⟩, by simp, by simp, by simp, by simp⟩, in_NoSign, fn0, kc_NoSign⟩,
    ⟨ja_NoSign, jn_NoSign, jt_NoSign, jm_NoSign⟩,
    iz_NoSign_ValueError,
    iz_NoSign_NoSign,
    iy_NoSign_NoText_NoRule_Big,
    PySem.W.mg_of X G ac_NoRule,
    ⟨⟨nm_NoRule, q_NoRule, N_NoRule, bs_NoRule, sn_NoRule, sub_NoRule, ab_NoRule, col_NoRule, dd_NoRule, k0_NoRule, k1_NoRule, k2_NoRule, k3_NoRule, k5_NoRule, oc_NoRule⟩, by simp, by simp, by simp, by simp⟩,
    ⟨[.ref k_TrailError], by simp, rfl⟩,
    ⟨ga_NoRule, gx_NoRule, sa_NoRule⟩,
    na_NoRule_row,
    ⟨⟨⟨nm_NoRule, q_NoRule, N_NoRule, bs_NoRule, sn_NoRule, sub_NoRule, ab_NoRule, col_NoRule, dd_NoRule, k0_NoRule, k1_NoRule, k2_NoRule, k3_NoRule, k5_NoRule, oc_NoRule⟩, by simp, by simp, by simp, by simp⟩, in_NoRule, fn0, kc_NoRule⟩,
    PySem.W.mg_of X G ac_Big,
    ⟨⟨nm_Big, q_Big, N_Big, bs_Big, sn_Big, sub_Big, ab_Big, col_Big, dd_Big, k0_Big, k1_Big, k2_Big, k3_Big, k5_Big, oc_Big⟩, by simp, by simp, by simp, by simp⟩,
    ⟨[.ref k_TrailError], by simp, rfl⟩,
    ⟨ga_Big, gx_Big, sa_Big⟩,
    na_Big_row,
    ⟨⟨⟨nm_Big, q_Big, N_Big, bs_Big, sn_Big, sub_Big, ab_Big, col_Big, dd_Big, k0_Big, k1_Big, k2_Big, k3_Big, k5_Big, oc_Big⟩, by simp, by simp, by simp, by simp⟩, in_Big, fn0, kc_Big⟩,
    F0,
    fun s us KX hl => by obtain ⟨_, _, _, rfl⟩ := L2.ex3 (show us.length = 3 by simpa using hl); exact .of_defaults (T := v0) rfl (KX _ _ v0_) rfl rfl rfl,
    fun s us KX hl => by obtain ⟨_, _, rfl⟩ := L2.ex2 (show us.length = 2 by simpa using hl); exact .of_defaults (T := v0) rfl (KX _ _ v0_) rfl rfl rfl,
    F1,
    F1.binds (ps := ["text"]) (fun _ _ _ _ _ _ us hl => L2.us1 (P := fun us => bindArgs _ ⟨us, []⟩ = pure ((["text"] : List Str).zip us)) hl fun _ => rfl),
    PySem.W.mg_of X G a1,
    F2,
    F2.binds (ps := []) (fun _ _ _ _ _ _ us hl => L2.us0 (P := fun us => bindArgs _ ⟨us, []⟩ = pure (([] : List Str).zip us)) hl <| rfl),
    PySem.W.mg_of X G a2,
    F3,
    F3.binds (ps := ["rank"]) (fun _ _ _ _ _ _ us hl => L2.us1 (P := fun us => bindArgs _ ⟨us, []⟩ = pure ((["rank"] : List Str).zip us)) hl fun _ => rfl),
    PySem.W.mg_of X G a3,
    F4,
    F4.binds (ps := ["signs", "rank", "side"]) (fun _ _ _ _ _ _ us hl => L2.us3 (P := fun us => bindArgs _ ⟨us, []⟩ = pure ((["signs", "rank", "side"] : List Str).zip us)) hl fun _ _ _ => rfl),
    PySem.W.mg_of X G a4,
    F5,
    F5.binds (ps := ["signs", "mark", "rank", "side"]) (fun _ _ _ _ _ _ us hl => L2.us4 (P := fun us => bindArgs _ ⟨us, []⟩ = pure ((["signs", "mark", "rank", "side"] : List Str).zip us)) hl fun _ _ _ _ => rfl),
    PySem.W.mg_of X G a5,
    F6,
    F6.binds (ps := ["_law_script", "_law_k"]) (fun _ _ _ _ _ _ us hl => L2.us2 (P := fun us => bindArgs _ ⟨us, []⟩ = pure ((["_law_script", "_law_k"] : List Str).zip us)) hl fun _ _ => rfl),
    PySem.W.mg_of X G a6,
    F7,
    F7.binds (ps := ["_law_found"]) (fun _ _ _ _ _ _ us hl => L2.us1 (P := fun us => bindArgs _ ⟨us, []⟩ = pure ((["_law_found"] : List Str).zip us)) hl fun _ => rfl),
    PySem.W.mg_of X G a7,
    F8,
    F8.binds (ps := ["_law_cell", "_law_many"]) (fun _ _ _ _ _ _ us hl => L2.us2 (P := fun us => bindArgs _ ⟨us, []⟩ = pure ((["_law_cell", "_law_many"] : List Str).zip us)) hl fun _ _ => rfl),
    PySem.W.mg_of X G a8,
    F9,
    F9.binds (ps := ["_law_script", "_law_at", "_law_many"]) (fun _ _ _ _ _ _ us hl => L2.us3 (P := fun us => bindArgs _ ⟨us, []⟩ = pure ((["_law_script", "_law_at", "_law_many"] : List Str).zip us)) hl fun _ _ _ => rfl),
    PySem.W.mg_of X G a9,
    F10,
    F10.binds (ps := ["_law_cell"]) (fun _ _ _ _ _ _ us hl => L2.us1 (P := fun us => bindArgs _ ⟨us, []⟩ = pure ((["_law_cell"] : List Str).zip us)) hl fun _ => rfl),
    PySem.W.mg_of X G a10,
    F11,
    F11.binds (ps := []) (fun _ _ _ _ _ _ us hl => L2.us0 (P := fun us => bindArgs _ ⟨us, []⟩ = pure (([] : List Str).zip us)) hl <| rfl),
    PySem.W.mg_of X G a11,
    F12,
    F12.binds (ps := ["_law_cell", "_law_table"]) (fun _ _ _ _ _ _ us hl => L2.us2 (P := fun us => bindArgs _ ⟨us, []⟩ = pure ((["_law_cell", "_law_table"] : List Str).zip us)) hl fun _ _ => rfl),
    PySem.W.mg_of X G a12,
    F13,
    F13.binds (ps := ["_law_cell", "_law_table"]) (fun _ _ _ _ _ _ us hl => L2.us2 (P := fun us => bindArgs _ ⟨us, []⟩ = pure ((["_law_cell", "_law_table"] : List Str).zip us)) hl fun _ _ => rfl),
    PySem.W.mg_of X G a13,
    F14,
    F14.binds (ps := ["_law_table", "_law_mark_here", "_law_rank", "_law_side"]) (fun _ _ _ _ _ _ us hl => L2.us4 (P := fun us => bindArgs _ ⟨us, []⟩ = pure ((["_law_table", "_law_mark_here", "_law_rank", "_law_side"] : List Str).zip us)) hl fun _ _ _ _ => rfl),
    PySem.W.mg_of X G a14,
    F15,
    F15.binds (ps := ["_law_e"]) (fun _ _ _ _ _ _ us hl => L2.us1 (P := fun us => bindArgs _ ⟨us, []⟩ = pure ((["_law_e"] : List Str).zip us)) hl fun _ => rfl),
    PySem.W.mg_of X G a15,
    F16,
    F16.binds (ps := ["_law_table", "_law_told"]) (fun _ _ _ _ _ _ us hl => L2.us2 (P := fun us => bindArgs _ ⟨us, []⟩ = pure ((["_law_table", "_law_told"] : List Str).zip us)) hl fun _ _ => rfl),
    PySem.W.mg_of X G a16,
    F17,
    F17.binds (ps := ["_law_table", "_law_told"]) (fun _ _ _ _ _ _ us hl => L2.us2 (P := fun us => bindArgs _ ⟨us, []⟩ = pure ((["_law_table", "_law_told"] : List Str).zip us)) hl fun _ _ => rfl),
    PySem.W.mg_of X G a17,
    F18,
    F18.binds (ps := ["_law_script"]) (fun _ _ _ _ _ _ us hl => L2.us1 (P := fun us => bindArgs _ ⟨us, []⟩ = pure ((["_law_script"] : List Str).zip us)) hl fun _ => rfl),
    PySem.W.mg_of X G a18,
    PySem.W.mg_none_of X G z0,
    PySem.W.mg_none_of X G z1,
    PySem.W.mg_none_of X G z2,
    PySem.W.mg_none_of X G z3,
    PySem.W.mg_none_of X G z4,
    PySem.W.mg_none_of X G z5,
    PySem.W.mg_none_of X G z6,
    PySem.W.mg_none_of X G z7,
    PySem.W.mg_none_of X G z8,
    PySem.W.mg_none_of X G z9,
    PySem.W.mg_none_of X G z10,
    PySem.W.mg_none_of X G z11,
    PySem.W.mg_of X G y0,
    PySem.W.mg_of X G y1,
    PySem.W.mg_of X G y2,
    PySem.W.mg_of X G y3,
    fun _ => .inr ⟨_, _, _, y3_0, rfl, rfl, ln (by simp), (.cons ⟨_, rfl⟩ (.cons ⟨_, rfl⟩ .nil))⟩,
    fun _ => .inr ⟨_, _, _, y3_1, rfl, rfl, ln (by simp), (.cons ⟨_, rfl⟩ (.cons ⟨_, rfl⟩ .nil))⟩,
    fun _ => .inr ⟨_, _, _, y3_2, rfl, rfl, ln (by simp), (.cons ⟨_, rfl⟩ (.cons ⟨_, rfl⟩ .nil))⟩,
    fun _ => .inr ⟨_, _, _, y3_3, rfl, rfl, ln (by simp), (.cons ⟨_, rfl⟩ (.cons ⟨_, rfl⟩ .nil))⟩,
    fun _ => .inr ⟨_, _, _, y3_4, rfl, rfl, ln (by simp), (.cons ⟨_, rfl⟩ (.cons ⟨_, rfl⟩ .nil))⟩,
    fun _ => .inr ⟨_, _, _, y3_5, rfl, rfl, ln (by simp), (.cons ⟨_, rfl⟩ (.cons ⟨_, rfl⟩ .nil))⟩,
    fun _ => .inr ⟨_, _, _, y3_6, rfl, rfl, ln (by simp), (.cons ⟨_, rfl⟩ (.cons ⟨_, rfl⟩ .nil))⟩,
    fun _ => .inr ⟨_, _, _, y3_7, rfl, rfl, ln (by simp), (.cons ⟨_, rfl⟩ (.cons ⟨_, rfl⟩ .nil))⟩,
    fun _ => .inr ⟨_, _, _, y3_8, rfl, rfl, ln (by simp), (.cons ⟨_, rfl⟩ (.cons ⟨_, rfl⟩ .nil))⟩,
    ee_FIRST,
    PySem.W.mg_of X G y4,
    PySem.W.mg_of X G y5,
    fun _ => .inr ⟨_, _, _, y5_0, rfl, rfl, ln (by simp), (.cons ⟨_, rfl⟩ (.cons ⟨_, rfl⟩ (.cons ⟨_, rfl⟩ .nil)))⟩⟩, fun P => kd_of dd_FIRST (.cons rfl (.cons rfl (.cons rfl (.cons rfl (.cons rfl (.cons rfl (.cons rfl (.cons rfl (.cons rfl .nil))))))))) kvn_FIRST, fun s u => .of_eq rfl⟩
theorem walk {l : PySem.W.OpenLaw} {q : Program} {loose : List Str} {XP : (Str → Option Value) → Heap → Prop} {YP : World → Heap → Prop} {d : DefRec} {K : Params → PySem.W.Frag} (hn : l.most = some 63) (hdf : d.params.defaults = [])
    (hY : ∀ (w : World) (h : Heap), YP w h → (K w.params).In h)
    (F : ∀ (w : World) (mg : Str → Option Value) (fa : Addr) (h : Heap), (K w.params).In h → h.Ns mainGlobals mg → mg d.name = some (.ref fa) →
      ∃ fd : FuncData, (∀ (s : Shared) (u : Value), BindsTo s fd ⟨[u], []⟩ [("_law_script", u)]) ∧ ∀ base : Heap, (K w.params).In base → base.Ns mainGlobals mg → FnOk l.prog w (K w.params) mg base CX0 5 fa fd ["_law_script"] (sp_law (K w.params))) :
    PySem.W.WalkO q loose XP YP l.row.toRowW d [] (fun f vs => PySem.call f vs) :=
  L2.walk_of (n := 63) (k := 5) (x := "_law_script") (CX := fun _ => CX0) (sp := fun w => sp_law (K w.params)) hn (by decide) hdf ⟨rfl, by decide, by decide⟩ hY F (fun _ _ a ns hl hO hS => ⟨ns, hS, hl, fun _ => rfl⟩) fun _ _ _ _ _ z => z
end My
open PySem PySem.W PyProof.Rows
set_option maxRecDepth 100000 in
set_option maxHeartbeats 0 in
theorem PySem.Challenge.cw_goaltrail_k04_signs_told_holds : PySem.Challenge.rw_goaltrail_k04_signs_told.Holds := by
  w_on; o_law; k_head; (case hw => w_witness2)
  k_fill
  refine My.walk (l := PySem.Challenge.rw_goaltrail_k04_signs_told) rfl rfl (fun w h Y => PySem.W.kIn_of Y) ?F
  case F =>
    intro w mg fa h KX G hmg
    have TT : ∃ t : My.Ad, My.Txt (L2.KOf KX) mg t ∧ (∀ P : Program, L2.KD P w (L2.KOf KX) t.c_FIRST (My.kv_FIRST t)) ∧ ∀ (s : Shared) (u : Value), BindsTo s t.d_law ⟨[u], []⟩ [("_law_script", u)] := by
      dsimp only [L2.KOf]
      refine' My.txt_mk (w0 := w) KX G ?ac_TrailError ?oc_TrailError ?ga_TrailError ?gx_TrailError ?sa_TrailError ?na_TrailError_row ?in_TrailError ?kc_TrailError ?ac_NoText ?oc_NoText ?ga_NoText ?gx_NoText ?sa_NoText ?na_NoText_row ?in_NoText ?kc_NoText ?ac_NoSign ?oc_NoSign ?ga_NoSign ?gx_NoSign ?sa_NoSign ?na_NoSign_row ?in_NoSign ?kc_NoSign ?ja_NoSign ?jn_NoSign ?jt_NoSign ?jm_NoSign ?ac_NoRule ?oc_NoRule ?ga_NoRule ?gx_NoRule ?sa_NoRule ?na_NoRule_row ?in_NoRule ?kc_NoRule ?ac_Big ?oc_Big ?ga_Big ?gx_Big ?sa_Big ?na_Big_row ?in_Big ?kc_Big ?iz_NoSign_ValueError ?iz_NoSign_NoSign ?iy_NoSign_NoText_NoRule_Big ?l0 ?c0 ?k0 ?v0_ ?fn0 ?a1 ?l1 ?c1 ?k1 ?a2 ?l2 ?c2 ?k2 ?a3 ?l3 ?c3 ?k3 ?a4 ?l4 ?c4 ?k4 ?a5 ?l5 ?c5 ?k5 ?a6 ?l6 ?c6 ?k6 ?a7 ?l7 ?c7 ?k7 ?a8 ?l8 ?c8 ?k8 ?a9 ?l9 ?c9 ?k9 ?a10 ?l10 ?c10 ?k10 ?a11 ?l11 ?c11 ?k11 ?a12 ?l12 ?c12 ?k12 ?a13 ?l13 ?c13 ?k13 ?a14 ?l14 ?c14 ?k14 ?a15 ?l15 ?c15 ?k15 ?a16 ?l16 ?c16 ?k16 ?a17 ?l17 ?c17 ?k17 ?a18 ?l18 ?c18 ?k18 ?z0 ?z1 ?z2 ?z3 ?z4 ?z5 ?z6 ?z7 ?z8 ?z9 ?z10 ?z11 ?y0 ?y1 ?y2 ?y3 ?dd_FIRST ?y3_0 ?y3_1 ?y3_2 ?y3_3 ?y3_4 ?y3_5 ?y3_6 ?y3_7 ?y3_8 ?ee_FIRST ?y4 ?y5 ?y5_0
      (case ac_TrailError => k_is)
      (case oc_TrailError => k_is)
      (case ga_TrailError => k_is)
      (case gx_TrailError => k_is)
      (case sa_TrailError => k_is)
      (case na_TrailError_row => k_is)
      (case in_TrailError => k_is)
      (case kc_TrailError => k_is)
      (case ac_NoText => k_is)
      (case oc_NoText => k_is)
      (case ga_NoText => k_is)
      (case gx_NoText => k_is)
      (case sa_NoText => k_is)
      (case na_NoText_row => k_is)
      (case in_NoText => k_is)
      (case kc_NoText => k_is)
      (case ac_NoSign => k_is)
      (case oc_NoSign => k_is)
      (case ga_NoSign => k_is)
      (case gx_NoSign => k_is)
      (case sa_NoSign => k_is)
      (case na_NoSign_row => k_is)
      (case in_NoSign => k_is)
      (case kc_NoSign => k_is)
      (case ja_NoSign => k_is)
      (case jn_NoSign => k_is)
      (case jt_NoSign => k_is)
      (case jm_NoSign => k_is)
      (case ac_NoRule => k_is)
      (case oc_NoRule => k_is)
      (case ga_NoRule => k_is)
      (case gx_NoRule => k_is)
      (case sa_NoRule => k_is)
      (case na_NoRule_row => k_is)
      (case in_NoRule => k_is)
      (case kc_NoRule => k_is)
      (case ac_Big => k_is)
      (case oc_Big => k_is)
      (case ga_Big => k_is)
      (case gx_Big => k_is)
      (case sa_Big => k_is)
      (case na_Big_row => k_is)
      (case in_Big => k_is)
      (case kc_Big => k_is)
      (case iz_NoSign_ValueError => kit_is)
      (case iz_NoSign_NoSign => kit_is)
      (case iy_NoSign_NoText_NoRule_Big => kit_is)
      (case l0 => k_is)
      (case c0 => k_is)
      (case k0 => k_is)
      (case v0_ => k_is)
      (case fn0 => k_is)
      (case a1 => k_is)
      (case l1 => k_is)
      (case c1 => k_is)
      (case k1 => k_is)
      (case a2 => k_is)
      (case l2 => k_is)
      (case c2 => k_is)
      (case k2 => k_is)
      (case a3 => k_is)
      (case l3 => k_is)
      (case c3 => k_is)
      (case k3 => k_is)
      (case a4 => k_is)
      (case l4 => k_is)
      (case c4 => k_is)
      (case k4 => k_is)
      (case a5 => k_is)
      (case l5 => k_is)
      (case c5 => k_is)
      (case k5 => k_is)
      (case a6 => k_is)
      (case l6 => k_is)
      (case c6 => k_is)
      (case k6 => k_is)
      (case a7 => k_is)
      (case l7 => k_is)
      (case c7 => k_is)
      (case k7 => k_is)
      (case a8 => k_is)
      (case l8 => k_is)
      (case c8 => k_is)
      (case k8 => k_is)
      (case a9 => k_is)
      (case l9 => k_is)
      (case c9 => k_is)
      (case k9 => k_is)
      (case a10 => k_is)
      (case l10 => k_is)
      (case c10 => k_is)
      (case k10 => k_is)
      (case a11 => k_is)
      (case l11 => k_is)
      (case c11 => k_is)
      (case k11 => k_is)
      (case a12 => k_is)
      (case l12 => k_is)
      (case c12 => k_is)
      (case k12 => k_is)
      (case a13 => k_is)
      (case l13 => k_is)
      (case c13 => k_is)
      (case k13 => k_is)
      (case a14 => k_is)
      (case l14 => k_is)
      (case c14 => k_is)
      (case k14 => k_is)
      (case a15 => k_is)
      (case l15 => k_is)
      (case c15 => k_is)
      (case k15 => k_is)
      (case a16 => k_is)
      (case l16 => k_is)
      (case c16 => k_is)
      (case k16 => k_is)
      (case a17 => k_is)
      (case l17 => k_is)
      (case c17 => k_is)
      (case k17 => k_is)
      (case a18 => k_is)
      (case l18 => k_is)
      (case c18 => k_is)
      (case k18 => k_is)
      (case z0 => k_is)
      (case z1 => k_is)
      (case z2 => k_is)
      (case z3 => k_is)
      (case z4 => k_is)
      (case z5 => k_is)
      (case z6 => k_is)
      (case z7 => k_is)
      (case z8 => k_is)
      (case z9 => k_is)
      (case z10 => k_is)
      (case z11 => k_is)
      (case y0 => k_is)
      (case y1 => k_is)
      (case y2 => k_is)
      (case y3 => k_is)
      (case dd_FIRST => k_is)
      (case y3_0 => k_is)
      (case y3_1 => k_is)
      (case y3_2 => k_is)
      (case y3_3 => k_is)
      (case y3_4 => k_is)
      (case y3_5 => k_is)
      (case y3_6 => k_is)
      (case y3_7 => k_is)
      (case y3_8 => k_is)
      (case ee_FIRST => rfl)
      (case y4 => k_is)
      (case y5 => k_is)
      (case y5_0 => k_is)
    obtain ⟨t, T, D_FIRST, e1⟩ := TT
    have e0 := hmg.symm.trans T.m_law
    cases e0
    exact ⟨t.d_law, e1, fun base kb nb => My.ok_all T (D_FIRST _)⟩
