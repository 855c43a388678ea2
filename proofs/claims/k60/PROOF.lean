import PyProof.Rows.All
import PyProof.StrBlock2
import PyProof.Rows.StrIntSpec
import KE.KItemsList
import KE.KDictLaws
import PyProof.SumWalkG
import KE.KRevIter
import PyProof.ListRange
import PyProof.Rows.SortWalk
import KE.KSortedM
import PyProof.Rows.SortStr
import KE.KIntText
import PyProof.Rows.ListMul
import PyProof.Rows.TupDisplay
import Wide.All
import OpenK.AllK
import Wide.FinOn
import Lean
import PyProof.EqAt
import PyProof.EqKinds
import PyProof.TupleCall
import PyProof.NeKinds
import PyProof.DictUpdate
import KE.KDictList
import KE.KEqDict
import PyProof.Draws
import PyProof.Rows.EnumRows
import PyProof.StationsW
import PyProof.ExcClass3
import PyProof.RulesAs
import PyProof.ExcBaseAll.ValueError
import PyProof.InstStoreFacts
import PyProof.ExcArgsOwn
import PyProof.NsDelKeeps
import KE.RegKIsAll
import PyProof.Rows.LoopZipPat
import PyProof.StrLawsRepr
import KE.KDictOf
import PyProof.WalksS
import PyProof.AttrMissHeap
import PySem.Challenge.RW_goaltrail_k60_layers_or_a_ring
set_option Elab.async false
set_option linter.all false
set_option maxRecDepth 100000
set_option genSizeOf false
set_option compiler.extract_closed false
namespace L2
open PySem PySem.Spec PyProof.Rows
theorem us0 {us : List Value} {P : List Value → Prop} (hl : us.length = 0) (h : P []) : P us := by cases us with | nil => exact h | cons a r => cases hl
theorem us1 {us : List Value} {P : List Value → Prop} (hl : us.length = 1) (h : ∀ a, P [a]) : P us := by cases us with | nil => cases hl | cons a r => exact us0 (P := fun r => P (a :: r)) (Nat.succ.inj hl) (h a)
theorem us2 {us : List Value} {P : List Value → Prop} (hl : us.length = 2) (h : ∀ a b, P [a, b]) : P us := by cases us with | nil => cases hl | cons a r => exact us1 (P := fun r => P (a :: r)) (Nat.succ.inj hl) (h a)
theorem us3 {us : List Value} {P : List Value → Prop} (hl : us.length = 3) (h : ∀ a b c, P [a, b, c]) : P us := by cases us with | nil => cases hl | cons a r => exact us2 (P := fun r => P (a :: r)) (Nat.succ.inj hl) (h a)
theorem us4 {us : List Value} {P : List Value → Prop} (hl : us.length = 4) (h : ∀ a b c d, P [a, b, c, d]) : P us := by cases us with | nil => cases hl | cons a r => exact us3 (P := fun r => P (a :: r)) (Nat.succ.inj hl) (h a)
theorem us5 {us : List Value} {P : List Value → Prop} (hl : us.length = 5) (h : ∀ a b c d e, P [a, b, c, d, e]) : P us := by cases us with | nil => cases hl | cons a r => exact us4 (P := fun r => P (a :: r)) (Nat.succ.inj hl) (h a)
theorem us6 {us : List Value} {P : List Value → Prop} (hl : us.length = 6) (h : ∀ a b c d e f, P [a, b, c, d, e, f]) : P us := by cases us with | nil => cases hl | cons a r => exact us5 (P := fun r => P (a :: r)) (Nat.succ.inj hl) (h a)
theorem ex1 {us : List Value} (hl : us.length = 1) : ∃ a, us = [a] := us1 (P := fun us => ∃ a', us = [a']) hl fun a => ⟨a, rfl⟩
theorem ex2 {us : List Value} (hl : us.length = 2) : ∃ a b, us = [a, b] := us2 (P := fun us => ∃ a' b', us = [a', b']) hl fun a b => ⟨a, b, rfl⟩
theorem ex3 {us : List Value} (hl : us.length = 3) : ∃ a b c, us = [a, b, c] := us3 (P := fun us => ∃ a' b' c', us = [a', b', c']) hl fun a b c => ⟨a, b, c, rfl⟩
theorem ex4 {us : List Value} (hl : us.length = 4) : ∃ a b c d, us = [a, b, c, d] := us4 (P := fun us => ∃ a' b' c' d', us = [a', b', c', d']) hl fun a b c d => ⟨a, b, c, d, rfl⟩
theorem ex5 {us : List Value} (hl : us.length = 5) : ∃ a b c d e, us = [a, b, c, d, e] := us5 (P := fun us => ∃ a' b' c' d' e', us = [a', b', c', d', e']) hl fun a b c d e => ⟨a, b, c, d, e, rfl⟩
theorem ex6 {us : List Value} (hl : us.length = 6) : ∃ a b c d e f, us = [a, b, c, d, e, f] := us6 (P := fun us => ∃ a' b' c' d' e' f', us = [a', b', c', d', e', f']) hl fun a b c d e f => ⟨a, b, c, d, e, f, rfl⟩
noncomputable abbrev Key := Sum Int Str
noncomputable def keyIs : Key → Value → Bool
  | .inl k, v => Value.isInt k v
  | .inr x, v => Value.isStrOf x v
noncomputable def keyH (w : World) : Key → Int
  | .inl k => hashInt k
  | .inr x => hashStr w x
theorem keyIs_shape : ∀ {k : Key} {v : Value}, keyIs k v = true → (∃ i t, k = Sum.inl i ∧ v = Value.int i t) ∨ (∃ x t, k = Sum.inr x ∧ v = Value.str x t)
  | .inl i, v, h => by
    obtain ⟨t, e⟩ := Value.isInt_shape (k := i) (v := v) h
    exact .inl ⟨i, t, rfl, e⟩
  | .inr x, v, h => by
    obtain ⟨t, e⟩ := Value.isStrOf_shape (x := x) (v := v) h
    exact .inr ⟨x, t, rfl, e⟩
theorem keyIs_int (i : Int) (t : Tok) : keyIs (.inl i) (.int i t) = true := by simp [keyIs, Value.isInt]
theorem keyIs_str (x : Str) (t : Tok) : keyIs (.inr x) (.str x t) = true := by simp [keyIs, Value.isStrOf]
theorem key_ll (a b : Int) : decide ((Sum.inl a : Key) = Sum.inl b) = (a == b) := by
  by_cases e : a = b
  · subst e; simp
  · have h : ¬ (Sum.inl a : Key) = Sum.inl b := fun q => e (Sum.inl.inj q)
    rw [decide_eq_false h]
    exact (beq_eq_false_iff_ne.mpr e).symm
theorem key_rr (a b : Str) : decide ((Sum.inr a : Key) = Sum.inr b) = decide (a = b) := by
  by_cases e : a = b
  · subst e; simp
  · have h : ¬ (Sum.inr a : Key) = Sum.inr b := fun q => e (Sum.inr.inj q)
    rw [decide_eq_false h, decide_eq_false e]
theorem key_lr (a : Int) (b : Str) : decide ((Sum.inl a : Key) = Sum.inr b) = false := decide_eq_false (fun q => nomatch q)
theorem key_rl (a : Str) (b : Int) : decide ((Sum.inr a : Key) = Sum.inl b) = false := decide_eq_false (fun q => nomatch q)
noncomputable def mixKind (prog : Program) (w : World) : PySem.KeyKind prog w Key where
  is := keyIs
  hash := keyH w
  inj := fun v a b ha hb => by
    rcases keyIs_shape ha with ⟨i, t, rfl, rfl⟩ | ⟨x, t, rfl, rfl⟩
    · rcases keyIs_shape hb with ⟨j, u, rfl, e⟩ | ⟨y, u, rfl, e⟩
      · injection e with e1 _; rw [e1]
      · exact nomatch e
    · rcases keyIs_shape hb with ⟨j, u, rfl, e⟩ | ⟨y, u, rfl, e⟩
      · exact nomatch e
      · injection e with e1 _; rw [e1]
  byValue := fun k v h => by
    rcases keyIs_shape h with ⟨i, t, rfl, rfl⟩ | ⟨x, t, rfl, rfl⟩ <;> rfl
  pyHash := fun hv h => by
    rcases keyIs_shape hv with ⟨i, t, rfl, rfl⟩ | ⟨x, t, rfl, rfl⟩
    · exact wpAny_pyHash_int h
    · exact wpAny_pyHash_str h
  eqBool := fun hu hv h => by
    rcases keyIs_shape hu with ⟨i, t, rfl, rfl⟩ | ⟨x, t, rfl, rfl⟩
    · rcases keyIs_shape hv with ⟨j, u, rfl, rfl⟩ | ⟨y, u, rfl, rfl⟩
      · rw [key_ll] at h; exact wpAny_eqBool_int h
      · rw [key_lr] at h; exact SeqAt.EqAt.int_str i t y u _ _ _ _ h
    · rcases keyIs_shape hv with ⟨j, u, rfl, rfl⟩ | ⟨y, u, rfl, rfl⟩
      · rw [key_rl] at h; exact SeqAt.EqAt.str_int x t j u _ _ _ _ h
      · rw [key_rr] at h; exact wpAny_eqBool_str h
  «strs» := fun k x t v h => by
    rcases keyIs_shape h with ⟨i, u, rfl, e⟩ | ⟨y, u, rfl, e⟩
    · exact nomatch e
    · injection e with e1 _
      subst e1
      cases v <;> rfl
theorem mixKind_int (prog : Program) (w : World) (i : Int) (t : Tok) : (mixKind prog w).is (.inl i) (.int i t) = true := keyIs_int i t
theorem mixKind_str (prog : Program) (w : World) (x : Str) (t : Tok) : (mixKind prog w).is (.inr x) (.str x t) = true := keyIs_str x t
end L2
namespace L2
open PySem PySem.Spec PyProof.Rows
inductive V where
  | non | bl (b : Bool) | int (i : Int) | str (x : Str) | byt (b : Array UInt8) | flt (b : UInt64) | ref (a : Addr) | ty (n : String)
  deriving DecidableEq
noncomputable def RelV : V → Value → Prop
  | .non, u => u = Value.none
  | .bl b, u => u = Value.bool b
  | .int i, u => ∃ t, u = Value.int i t
  | .str x, u => ∃ t, u = Value.str x t
  | .byt b, u => ∃ t, u = Value.bytes b t
  | .flt b, u => ∃ t, u = Value.float b t
  | .ref a, u => u = Value.ref a
  | .ty n, u => u = Value.type n
noncomputable abbrev Vals : List V → List Value → Prop := Paired RelV
theorem Vals.length {xs : List V} {us : List Value} (r : Vals xs us) : xs.length = us.length := Paired.length r
theorem Vals.get : ∀ {xs : List V} {us : List Value} {i : Nat} {x : V}, Vals xs us → xs[i]? = some x → ∃ u, us[i]? = some u ∧ RelV x u
  | _, _, _, _, .nil, e => by simp at e
  | _, _, 0, _, .cons r _, e => by simp at e; subst e; exact ⟨_, rfl, r⟩
  | _, _, i + 1, x, .cons _ t, e => by
    obtain ⟨u, h1, h2⟩ := Vals.get (i := i) (x := x) t (by simpa using e)
    exact ⟨u, by simpa using h1, h2⟩
theorem Vals.set {x : V} {u : Value} (r : RelV x u) : ∀ {xs : List V} {us : List Value} (i : Nat), Vals xs us → Vals (xs.set i x) (us.set i u)
  | _, _, _, .nil => .nil
  | _, _, 0, .cons _ t => .cons r t
  | _, _, i + 1, .cons q t => .cons q (Vals.set r i t)
theorem Vals.append : ∀ {xs ys : List V} {us ws : List Value}, Vals xs us → Vals ys ws → Vals (xs ++ ys) (us ++ ws)
  | _, _, _, _, .nil, s => s
  | _, _, _, _, .cons r t, s => .cons r (Vals.append t s)
theorem Vals.take : ∀ {xs : List V} {us : List Value} (n : Nat), Vals xs us → Vals (xs.take n) (us.take n)
  | _, _, 0, _ => .nil
  | _, _, _ + 1, .nil => .nil
  | _, _, n + 1, .cons r t => .cons r (Vals.take n t)
theorem Vals.drop : ∀ {xs : List V} {us : List Value} (n : Nat), Vals xs us → Vals (xs.drop n) (us.drop n)
  | _, _, 0, r => r
  | _, _, _ + 1, .nil => .nil
  | _, _, n + 1, .cons _ t => Vals.drop n t
theorem Vals.none_of : ∀ {xs : List V} {us : List Value} {i : Nat}, Vals xs us → xs[i]? = none → us[i]? = none := fun {xs us i} r e => by
  have h1 := r.length
  have h2 : xs.length ≤ i := List.getElem?_eq_none_iff.mp e
  exact List.getElem?_eq_none_iff.mpr (by omega)
noncomputable def RelO : Option V → Option Value → Prop
  | some v, some u => RelV v u
  | none, none => True
  | _, _ => False
noncomputable def KV {κ : Type} : List (κ × V) → List (κ × Value) → Prop := Paired fun (p : κ × V) (q : κ × Value) => p.1 = q.1 ∧ RelV p.2 q.2
noncomputable def kV : Key → V
  | .inl i => .int i
  | .inr x => .str x
inductive HO where
  | lst (xs : List V)
  | tup (xs : List V)
  | dK (kvs : List (Key × V)) | dT (kvs : List (List Key × V))
  | set (S : Int → Bool) (n : Nat)
  | ins (C dx : Addr) (fs : List (Str × V))
  | own (x : Addr)
  | xd (fs : List (Str × V))
  | met (f x : Addr)
  | rng (lo hi : Int)
  | frz (o : Obj) (u : HO)
  | tbl (ps : Array Value)
  | ext (φ : Heap → Prop)
noncomputable abbrev Hp := Addr → Option HO
noncomputable def upd (H : Hp) (a : Addr) (o : HO) : Hp := fun b => if b = a then some o else H b
theorem upd_same {H : Hp} {a : Addr} {o : HO} : upd H a o a = some o := by unfold upd; rw [if_pos rfl]
theorem upd_ne {H : Hp} {a b : Addr} {o : HO} (h : b ≠ a) : upd H a o b = H b := by unfold upd; rw [if_neg h]
theorem upd_upd {H : Hp} {a : Addr} {o u : HO} : upd (upd H a o) a u = upd H a u := by
  funext b; unfold upd; split <;> rfl
theorem ne_of {H : Hp} {a b : Addr} {o u : HO} (h : H a = some o) (h' : H b = some u) (d : o ≠ u) : a ≠ b := by
  intro e; subst e; rw [h] at h'; exact d (Option.some.inj h')
theorem ne_of_none {H : Hp} {a b : Addr} {o : HO} (h : H a = some o) (h' : H b = none) : a ≠ b := by
  intro e; subst e; rw [h] at h'; cases h'
section
variable (P : Program) (w : World)
noncomputable def ObjOk (H : Hp) (h : Heap) (a : Addr) : HO → Prop
  | .lst xs => xs.length ≤ sizeLine ∧ ∃ (its : List Value) (n : Nat), Vals xs its ∧ h.get? a = some { cls := .type "list", data := .seq its.toArray n }
  | .tup xs => xs.length ≤ sizeLine ∧ ∃ its : List Value, Vals xs its ∧ IsTup h a its.toArray
  | .dK kvs => kvs.length ≤ sizeLine ∧ (a == sysModules) = false ∧ ∃ vs, KV kvs vs ∧ h.DictOf (mixKind P w) a vs
  | .dT kvs => kvs.length ≤ sizeLine ∧ (a == sysModules) = false ∧ ∃ xs : List (List Key × Addr × Value),
      Paired (fun (p : List Key × V) (q : List Key × Addr × Value) => p.1 = q.1 ∧ H q.2.1 = some (.tup (p.1.map kV)) ∧ RelV p.2 q.2.2) kvs xs ∧
      ∃ o es ep, h.get? a = some o ∧ o.ExactDict ∧ o.data = .dict es ep ∧ es.toList = xs.map (entryOfKey (tupleKind (mixKind P w))) ∧ (xs.map (·.1)).Nodup
  | .set S n => h.SetOf (intKind P w) a S n
  | .ins C dx fs => H dx = some (.own a) ∧ fs.length ≤ 1000 ∧ dx ≠ a ∧ h.get? a = some (PySem.W.instObj C dx) ∧
      ∃ mA, h.Ns1 dx mA ∧ (∀ f, RelO (fs.lookup f) (mA f)) ∧ PySem.Within mA (fs.map (·.1))
  | .own _ => ∃ o, h.get? a = some o
  | .xd fs => ∃ mA, h.Ns1 a mA ∧ ∀ f, RelO (fs.lookup f) (mA f)
  | .rng lo hi => ∃ t u v, h.get? a = some { cls := .type "range", data := .fields #[.int lo t, .int hi u, .int 1 v] }
  | .frz o u => h.get? a = some o ∧ ObjOk H h a u
  | .tbl ps => h.get? a = some { cls := .none, data := .fields ps }
  | .met f x => h.get? a = some (PySem.W.methodObj (.ref f) (.ref x))
  | .ext φ => φ h ∧ (∃ o, h.get? a = some o) ∧ ∀ h1 h2 : Heap, φ h1 → (∀ o, h1.get? a = some o → h2.get? a = some o) → φ h2
noncomputable def HOk (H : Hp) (h : Heap) : Prop := ∀ a o, H a = some o → ObjOk P w H h a o
end
section
variable {P : Program} {w : World} {H H' : Hp} {h h' : Heap} {a : Addr} {o : HO}
theorem ObjOk.lt (x : ObjOk P w H h a o) : a < h.objs.size := by
  cases o with
  | lst xs => obtain ⟨_, _, _, _, e⟩ := x; exact Heap.lt_size e
  | tup xs => obtain ⟨_, _, _, p⟩ := x; exact p.lt
  | dK kvs => obtain ⟨_, _, _, _, o, _, _, e, _⟩ := x; exact Heap.lt_size e
  | dT kvs => obtain ⟨_, _, _, _, o, _, _, e, _⟩ := x; exact Heap.lt_size e
  | set S n => obtain ⟨o, _, _, _, e, _⟩ := x; exact Heap.lt_size e
  | ins C dx fs => obtain ⟨_, _, _, e, _⟩ := x; exact Heap.lt_size e
  | own y => obtain ⟨_, e⟩ := x; exact Heap.lt_size e
  | xd fs => obtain ⟨_, ⟨_, _, _, e, _⟩, _⟩ := x; exact Heap.lt_size e
  | rng lo hi => obtain ⟨_, _, _, e⟩ := x; exact Heap.lt_size e
  | frz ob u => obtain ⟨e, _⟩ := x; exact Heap.lt_size e
  | tbl ps => exact Heap.lt_size (show h.get? a = some _ from x)
  | met f y => exact Heap.lt_size (show h.get? a = some _ from x)
  | ext φ => obtain ⟨_, ⟨_, e⟩, _⟩ := x; exact Heap.lt_size e
theorem Paired.mapP {α β : Type} {F G : α → β → Prop} : ∀ {l₁ : List α} {l₂ : List β}, Paired F l₁ l₂ → (∀ a b, F a b → G a b) → Paired G l₁ l₂
  | _, _, .nil, _ => .nil
  | _, _, .cons r t, f => .cons (f _ _ r) (Paired.mapP t f)
theorem ObjOk.stay (x : ObjOk P w H h a o) (k : ∀ b u, (b = a ∨ H b = some (.own a)) → h.get? b = some u → h'.get? b = some u)
    (ho : ∀ b, H b = some (.own a) → H' b = some (.own a)) (ht : ∀ b xs, H b = some (.tup xs) → H' b = some (.tup xs)) : ObjOk P w H' h' a o := by
  induction o with
  | lst xs => obtain ⟨z, its, n, r, e⟩ := x; exact ⟨z, its, n, r, k _ _ (.inl rfl) e⟩
  | tup xs => obtain ⟨z, its, r, ob, e, c⟩ := x; exact ⟨z, its, r, ob, k _ _ (.inl rfl) e, c⟩
  | dK kvs => obtain ⟨z, y, vs, r, ob, es, ep, e, c⟩ := x; exact ⟨z, y, vs, r, ob, es, ep, k _ _ (.inl rfl) e, c⟩
  | dT kvs =>
    obtain ⟨z, y, xs, r, ob, es, ep, e, c⟩ := x
    exact ⟨z, y, xs, Paired.mapP r fun p q z => ⟨z.1, ht _ _ z.2.1, z.2.2⟩, ob, es, ep, k _ _ (.inl rfl) e, c⟩
  | set S n => obtain ⟨ob, es, ep, t, e, c⟩ := x; exact ⟨ob, es, ep, t, k _ _ (.inl rfl) e, c⟩
  | ins C dx fs =>
    obtain ⟨d, z, ne, e, mA, ⟨od, es, ep, e2, c⟩, r⟩ := x
    exact ⟨ho _ d, z, ne, k _ _ (.inl rfl) e, mA, ⟨od, es, ep, k _ _ (.inr d) e2, c⟩, r⟩
  | own y => obtain ⟨ob, e⟩ := x; exact ⟨ob, k _ _ (.inl rfl) e⟩
  | xd fs => obtain ⟨mA, ⟨od, es, ep, e, c⟩, r⟩ := x; exact ⟨mA, ⟨od, es, ep, k _ _ (.inl rfl) e, c⟩, r⟩
  | rng lo hi => obtain ⟨t, u, v, e⟩ := x; exact ⟨t, u, v, k _ _ (.inl rfl) e⟩
  | frz ob u ih => obtain ⟨e, q⟩ := x; exact ⟨k _ _ (.inl rfl) e, ih q⟩
  | tbl ps =>
    have e : h.get? a = some { cls := .none, data := .fields ps } := x
    show h'.get? a = some { cls := .none, data := .fields ps }
    exact k a _ (.inl rfl) e
  | met f y =>
    have e : h.get? a = some (PySem.W.methodObj (.ref f) (.ref y)) := x
    show h'.get? a = some (PySem.W.methodObj (.ref f) (.ref y))
    exact k a _ (.inl rfl) e
  | ext φ => obtain ⟨p, ⟨o, e⟩, st⟩ := x; exact ⟨st _ _ p fun o q => k _ _ (.inl rfl) q, ⟨o, k _ _ (.inl rfl) e⟩, st⟩
theorem HOk.lt (x : HOk P w H h) (e : H a = some o) : a < h.objs.size := (x a o e).lt
theorem HOk.fresh (x : HOk P w H h) (e : h.objs.size ≤ a) : H a = none := by
  cases q : H a with
  | none => rfl
  | some u => exact absurd (Nat.lt_of_lt_of_le (x.lt q) e) (Nat.lt_irrefl _)
theorem HOk.kept (x : HOk P w H h) (k : ∀ b u, h.get? b = some u → h'.get? b = some u) : HOk P w H h' := fun a o e =>
  (x a o e).stay (fun b u _ q => k b u q) (fun _ q => q) fun _ _ q => q
theorem HOk.laid (x : HOk P w H h) (k : ∀ b u, h.get? b = some u → h'.get? b = some u) (hp : h.objs.size ≤ a) (new : ObjOk P w (upd H a o) h' a o) : HOk P w (upd H a o) h' := fun b u e => by
  have hn := x.fresh hp
  by_cases hb : b = a
  · subst hb; rw [upd_same] at e; cases e; exact new
  · rw [upd_ne hb] at e
    exact (x b u e).stay (fun c v _ q => k c v q) (fun c q => by rw [upd_ne (ne_of_none q hn)]; exact q) fun c xs q => by rw [upd_ne (ne_of_none q hn)]; exact q
end
noncomputable def Rd (H : Hp) (a : Addr) (u : HO) : Prop := H a = some u ∨ ∃ o, H a = some (.frz o u)
theorem Rd.of {H : Hp} {a : Addr} {u : HO} (h : H a = some u) : Rd H a u := .inl h
theorem Rd.ok {P : Program} {w : World} {H : Hp} {h : Heap} {a : Addr} {u : HO} (r : Rd H a u) (x : HOk P w H h) : ObjOk P w H h a u := by
  rcases r with r | ⟨o, r⟩
  · exact x a u r
  · obtain ⟨_, q⟩ := x a _ r
    exact q
noncomputable def Mut : Option HO → Prop
  | some (.lst _) => True
  | some (.dK _) => True
  | some (.dT _) => True
  | some (.set _ _) => True
  | some (.ins _ _ _) => True
  | some (.ext _) => True
  | _ => False
section
variable {P : Program} {w : World} {H : Hp} {h h' : Heap} {x e : Addr} {o' : HO}
theorem HOk.write (ok : HOk P w H h) (mu : Mut (H x)) (he : e = x ∨ H e = some (.own x)) (k : ∀ b u, b ≠ e → h.get? b = some u → h'.get? b = some u) (heo : ∃ u, h'.get? e = some u)
    (new : ObjOk P w (upd H x o') h' x o') : HOk P w (upd H x o') h' := fun b u q => by
  have nown : ∀ c y, H c = some (.own y) → c ≠ x := fun c y r z => by subst z; rw [r] at mu; exact mu
  have ntup : ∀ c xs, H c = some (.tup xs) → c ≠ x := fun c xs r z => by subst z; rw [r] at mu; exact mu
  by_cases hb : b = x
  · subst hb; rw [upd_same] at q; cases q; exact new
  · rw [upd_ne hb] at q
    by_cases hbe : b = e
    · have q' : H b = some (.own x) := by
        rcases he with z | z
        · exact absurd (hbe.trans z) hb
        · rw [hbe]; exact z
      rw [q] at q'; cases q'
      obtain ⟨v, hv⟩ := heo
      exact ⟨v, by rw [hbe]; exact hv⟩
    · refine (ok b u q).stay (fun c v hc r => k c v ?_ r) (fun c r => by rw [upd_ne (nown c b r)]; exact r) fun c xs r => by rw [upd_ne (ntup c xs r)]; exact r
      rcases hc with rfl | hc
      · exact hbe
      · rintro rfl
        rcases he with z | z
        · exact nown c b hc z
        · rw [hc] at z; cases z; exact hb rfl
end
structure Un (fs ex : List Addr) (H H' : Hp) (h h' : Heap) : Prop where
  keep : ∀ b o, h.get? b = some o → H b = none → b ∉ fs → b ∉ ex → h'.get? b = some o
  slot : ∀ b o, h.get? b = some o → H b = none → b ∈ fs → b ∉ ex → ∃ sl, h'.get? b = some { o with slots := sl }
  free : ∀ b o, h.get? b = some o → H b = none → b ∉ ex → H' b = none
  there : ∀ b o, h.get? b = some o → b ∉ ex → ∃ o', h'.get? b = some o'
  tups : ∀ b xs, H b = some (.tup xs) → H' b = some (.tup xs)
  frzs : ∀ b o u, H b = some (.frz o u) → H' b = some (.frz o u)
  tbls : ∀ b ps, H b = some (.tbl ps) → ∃ more, H' b = some (.tbl (ps ++ more))
section
variable {fs fs' ex ex' : List Addr} {H H1 H2 : Hp} {h h1 h2 h' : Heap} {a x e : Addr} {o : HO}
theorem Un.any (u : Un fs ex H H1 h h1) {b : Addr} {ob : Obj} (q : h.get? b = some ob) (n : H b = none) (hx : b ∉ ex) : ∃ sl, h1.get? b = some { ob with slots := sl } := by
  by_cases hb : b ∈ fs
  · exact u.slot b ob q n hb hx
  · exact ⟨ob.slots, u.keep b ob q n hb hx⟩
theorem Un.trans (a : Un fs ex H H1 h h1) (b : Un fs ex H1 H2 h1 h2) : Un fs ex H H2 h h2 where
  keep := fun c ob q n hc hx => b.keep c ob (a.keep c ob q n hc hx) (a.free c ob q n hx) hc hx
  slot := fun c ob q n hc hx => by
    obtain ⟨sl, e1⟩ := a.slot c ob q n hc hx
    obtain ⟨sl', e2⟩ := b.slot c _ e1 (a.free c ob q n hx) hc hx
    exact ⟨sl', e2⟩
  free := fun c ob q n hx => by
    obtain ⟨o', e1⟩ := a.there c ob q hx
    exact b.free c o' e1 (a.free c ob q n hx) hx
  there := fun c ob q hx => by
    obtain ⟨o', e1⟩ := a.there c ob q hx
    exact b.there c o' e1 hx
  tups := fun c xs q => b.tups c xs (a.tups c xs q)
  frzs := fun c ob xs q => b.frzs c ob xs (a.frzs c ob xs q)
  tbls := fun c ps q => by
    obtain ⟨m1, e1⟩ := a.tbls c ps q
    obtain ⟨m2, e2⟩ := b.tbls c _ e1
    exact ⟨m1 ++ m2, by rw [e2, Array.append_assoc]⟩
theorem Un.kept (k : ∀ b u, h.get? b = some u → h'.get? b = some u) : Un fs ex H H h h' :=
  ⟨fun b ob q _ _ _ => k b ob q, fun b ob q _ _ _ => ⟨ob.slots, k b ob q⟩, fun _ _ _ n _ => n, fun b ob q _ => ⟨ob, k b ob q⟩, fun _ _ q => q, fun _ _ _ q => q, fun _ ps q => ⟨#[], by rw [q]; simp⟩⟩
theorem Un.refl : Un fs ex H H h h := Un.kept fun _ _ q => q
theorem Un.laid (k : ∀ b u, h.get? b = some u → h'.get? b = some u) (hp : h.objs.size ≤ a) (hn : H a = none) : Un fs ex H (upd H a o) h h' where
  keep := fun b u q _ _ _ => k b u q
  slot := fun b u q _ _ _ => ⟨u.slots, k b u q⟩
  free := fun b u q n _ => by rw [upd_ne (Nat.ne_of_lt (Nat.lt_of_lt_of_le (Heap.lt_size q) hp))]; exact n
  there := fun b u q _ => ⟨u, k b u q⟩
  tups := fun b xs q => by rw [upd_ne (ne_of_none q hn)]; exact q
  frzs := fun b u xs q => by rw [upd_ne (ne_of_none q hn)]; exact q
  tbls := fun b ps q => ⟨#[], by rw [upd_ne (ne_of_none q hn), q]; simp⟩
theorem Un.write (mu : Mut (H x)) (he : e = x ∨ H e = some (.own x)) (k : ∀ b u, b ≠ e → h.get? b = some u → h'.get? b = some u) (heo : ∃ u, h'.get? e = some u) : Un fs ex H (upd H x o) h h' := by
  have hx : ∀ b, H b = none → b ≠ x := fun b n z => by subst z; rw [n] at mu; exact mu
  have hb : ∀ b, H b = none → b ≠ e := fun b n z => by
    subst z
    rcases he with r | r
    · exact hx b n r
    · rw [n] at r; cases r
  have hm : ∀ b u, H b = some u → ¬ Mut (some u) → b ≠ x := fun b u q nm z => by subst z; rw [q] at mu; exact nm mu
  refine ⟨fun b u q n _ _ => k b u (hb b n) q, fun b u q n _ _ => ⟨u.slots, k b u (hb b n) q⟩, fun b u q n _ => by rw [upd_ne (hx b n)]; exact n, fun b u q _ => ?_,
    fun b xs q => by rw [upd_ne (hm b _ q fun z => z)]; exact q, fun b u xs q => by rw [upd_ne (hm b _ q fun z => z)]; exact q, fun b ps q => ⟨#[], by rw [upd_ne (hm b _ q fun z => z), q]; simp⟩⟩
  by_cases hbe : b = e
  · subst hbe; exact heo
  · exact ⟨u, k b u hbe q⟩
theorem Un.mono (u : Un fs ex H H1 h h1) (hs : ∀ b ∈ fs, b ∈ fs') (hx : ∀ b ∈ ex, b ∈ ex') : Un fs' ex' H H1 h h1 :=
  ⟨fun b ob q n hb he => u.keep b ob q n (fun z => hb (hs b z)) fun z => he (hx b z), fun _ _ q n _ he => u.any q n fun z => he (hx _ z), fun b ob q n he => u.free b ob q n fun z => he (hx b z), fun b ob q he => u.there b ob q fun z => he (hx b z), u.tups, u.frzs, u.tbls⟩
end
noncomputable def trk (h : Heap) (H : Hp) : List Addr := (List.range h.objs.size).filter fun a => (H a).isSome
noncomputable def hidT (h : Heap) (H : Hp) : Heap := PySem.W.hideAll h (trk h H)
theorem hidT_size (h : Heap) (H : Hp) : (hidT h H).objs.size = h.objs.size := PySem.W.hideAll_size _ _
theorem hidT_get {h : Heap} {H : Hp} {b : Addr} {o : Obj} (e : h.get? b = some o) (n : H b = none) : (hidT h H).get? b = some o :=
  PySem.W.hideAll_get _ e fun hm => by
    have q : (H b).isSome = true := (List.mem_filter.mp hm).2
    rw [n] at q; simp at q
theorem of_hidT {h : Heap} {H : Hp} {b : Addr} {o : Obj} (e : (hidT h H).get? b = some o) : h.get? b = some o ∧ H b = none := by
  have e' : h.get? b = some o := PySem.W.of_hideAll (trk h H) e
  refine ⟨e', ?_⟩
  cases q : H b with
  | none => rfl
  | some x =>
    have hm : b ∈ trk h H := List.mem_filter.mpr ⟨List.mem_range.mpr (Heap.lt_size e'), by simp [q]⟩
    have z : (hidT h H).get? b = none := PySem.W.hideAll_none (trk h H) hm
    rw [z] at e; cases e
noncomputable def allNews (g h : Heap) (L : Addr) : List (Addr × Obj) := (List.range h.objs.size).filterMap fun a => if a = L ∨ (g.get? a).isSome = true then none else (h.get? a).map fun o => (a, o)
noncomputable def rest (g h : Heap) (L d : Addr) : List (Addr × Obj) := (allNews g h L).filter fun p => decide (p.1 ≠ d)
end L2
namespace L2
open PySem PySem.Spec PyProof.Rows
structure Mod (K : PySem.W.Frag) (mg : Str → Option Value) (base : Heap) : Prop where
  kin : K.In base
  glob : base.Ns mainGlobals mg
  blt : ∃ mb, base.Ns builtinsNs mb ∧ ∀ x : Str, x ≠ "__name__" → mb x = bootBuiltins x
  nolimit : base.NoLimit
structure Cx where
  prog : Program
  w : World
  K : PySem.W.Frag
  mg : Str → Option Value
  base : Heap
  A : Around
  N : List Str
  s₀ : Shared
  H₀ : Hp
  env : Env
  outer : List Env
  stack : List Env
  ex : List Addr
  fn : Str → Bool
  calm : Bool
  pn : List (Addr × Obj)
  xe : Value → Shared → Prop
noncomputable def frs (l : List Env) : List Addr := l.filterMap (·.frame)
noncomputable abbrev Cx.fs (X : Cx) : List Addr := frs X.outer
noncomputable def Vis (sc : Scope) (x : Str) : Prop := sc.names.lookup x = some .local ∨ sc.names.lookup x = some .cell ∨ sc.names.lookup x = some .free
noncomputable def Loc (sc : Scope) (x : Str) : Prop := sc.names.lookup x = some .local ∨ sc.names.lookup x = some .cell
noncomputable def Look (env : Env) (h : Heap) (m : Str → Option Value) (x : Str) (u : Value) : Prop :=
  (env.kindOf x = some .local ∧ m x = some u) ∨ ((env.kindOf x = some .cell ∨ env.kindOf x = some .free) ∧ ∃ c, env.cells.lookup x = some c ∧ h.IsCell c (some u))
structure Cx.Ok (X : Cx) : Prop where
  mod : Mod X.K X.mg X.base
  kind : X.env.scope.kind = .function
  glob : X.env.globals = mainGlobals
  blt : X.env.builtins = builtinsNs
  above : X.s₀.heap.objs.size ≤ X.env.locals
  inj : ∀ x y c, X.env.cells.lookup x = some c → X.env.cells.lookup y = some c → x = y
  has : ∀ x, (X.env.kindOf x = some .cell ∨ X.env.kindOf x = some .free) → ∃ c, X.env.cells.lookup x = some c
  cab : ∀ x c, X.fn x = true → X.env.cells.lookup x = some c → X.s₀.heap.objs.size ≤ c
  hd : X.calm = true → X.A.handled = none
  frames : X.A.frames = some X.stack
  stk : X.stack = X.outer ∨ (X.stack = X.env :: X.outer ∧ X.env.frame = some X.env.locals)
  exf : ∀ b ∈ X.ex, b ≠ X.env.locals ∧ ∀ x c, X.env.cells.lookup x = some c → c ≠ b
  bs : ∀ b o, X.base.get? b = some o → X.s₀.heap.get? b = some o ∧ X.H₀ b = none
  bsz : X.base.objs.size ≤ X.s₀.heap.objs.size
  noex : ∀ b o, X.base.get? b = some o → b ∉ X.ex
  exfs : ∀ b ∈ X.ex, b ∉ X.fs
  funs : X.s₀.heap.FunFrames X.base X.outer
  frf : ∀ b ∈ X.fs, X.H₀ b = none
structure Inv (X : Cx) (pins : List (Addr × Obj)) (σ : List (Option V)) (H : Hp) (s : Shared) : Prop where
  ok : X.Ok
  os : s.os = X.s₀.os
  bare : AllBare s.gens
  base : Un X.fs X.ex X.H₀ H X.s₀.heap s.heap
  loc : ∃ m, s.heap.Ns X.env.locals m ∧ ∀ (i : Nat) (x : Str) (v : V), X.N[i]? = some x → σ[i]? = some (some v) → Vis X.env.scope x → ∃ u, RelV v u ∧ Look X.env s.heap m x u
  cell : ∀ x c, X.env.cells.lookup x = some c → ∃ v, s.heap.IsCell c v
  free : H X.env.locals = none
  freeC : ∀ x c, X.env.cells.lookup x = some c → H c = none
  pin : ∀ p ∈ X.pn ++ pins, s.heap.get? p.1 = some p.2 ∧ H p.1 = none ∧ p.1 ≠ X.env.locals ∧ p.1 ∉ X.fs ∧ ∀ v, p.2.data ≠ .cell v
  hok : HOk X.prog X.w H s.heap
  len : σ.length = X.N.length
section
variable {X : Cx} {pins : List (Addr × Obj)} {σ : List (Option V)} {H H' : Hp} {s : Shared} {h' : Heap}
theorem Cx.Ok.nofr (ok : X.Ok) {b : Addr} {o : Obj} (e : X.base.get? b = some o) : b ∉ X.fs := fun hb => by
  have := (ok.funs.mem hb).1
  rw [e] at this; cases this
theorem Inv.bs (I : Inv X pins σ H s) : ∀ b o, X.base.get? b = some o → s.heap.get? b = some o ∧ H b = none := fun b o e =>
  ⟨I.base.keep b o (I.ok.bs b o e).1 (I.ok.bs b o e).2 (I.ok.nofr e) (I.ok.noex b o e), I.base.free b o (I.ok.bs b o e).1 (I.ok.bs b o e).2 (I.ok.noex b o e)⟩
theorem Inv.bk (I : Inv X pins σ H s) : ∀ b o, X.base.get? b = some o → s.heap.get? b = some o := fun b o e => (I.bs b o e).1
theorem Inv.mod (I : Inv X pins σ H s) : Mod X.K X.mg X.base := I.ok.mod
theorem Inv.kIn (I : Inv X pins σ H s) : X.K.In s.heap := I.ok.mod.kin.keeps I.bk
theorem Inv.nolimit (I : Inv X pins σ H s) : s.heap.NoLimit := I.ok.mod.nolimit.keeps I.bk
theorem Inv.fr (I : Inv X pins σ H s) : ∃ m, Fr X.base X.env.locals s.heap m :=
  let ⟨m, hn, _⟩ := I.loc
  ⟨m, hn, I.bk, Nat.le_trans I.ok.bsz I.ok.above⟩
theorem Inv.lt (I : Inv X pins σ H s) : X.env.locals < s.heap.objs.size := let ⟨_, hn, _⟩ := I.loc; hn.lt
theorem Inv.sz (I : Inv X pins σ H s) : X.s₀.heap.objs.size ≤ s.heap.objs.size := Nat.le_trans I.ok.above (Nat.le_of_lt I.lt)
theorem Inv.nofs (I : Inv X pins σ H s) {a : Addr} (h : s.heap.objs.size ≤ a) : a ∉ X.fs := fun hb => by
  obtain ⟨_, o, ho, _⟩ := I.ok.funs.mem hb
  exact absurd (Nat.lt_of_lt_of_le (Heap.lt_size ho) (Nat.le_trans I.sz h)) (Nat.lt_irrefl _)
theorem Inv.cne (I : Inv X pins σ H s) : ∀ x c, X.env.cells.lookup x = some c → c ≠ X.env.locals := fun x c e z => by
  obtain ⟨v, o, ho, hd⟩ := I.cell x c e
  obtain ⟨m, ⟨o', es, ep, ho', hd', _⟩, _⟩ := I.loc
  rw [z, ho'] at ho; cases ho; rw [hd'] at hd; cases hd
theorem Inv.funs (I : Inv X pins σ H s) : s.heap.FunFrames X.base X.outer := by
  have all : ∀ (l : List Env), (∀ b ∈ frs l, b ∈ X.fs) → X.s₀.heap.FunFrames X.base l → s.heap.FunFrames X.base l := by
    intro l
    induction l with
    | nil => intro _ _; trivial
    | cons env r ih =>
      intro hs hl
      obtain ⟨hk, ⟨L, o, hf, hn, ho, hd⟩, hr⟩ := hl
      have hL : L ∈ X.fs := hs L (by unfold frs; rw [List.filterMap_cons, hf]; exact List.mem_cons_self)
      obtain ⟨sl, e⟩ := I.base.slot L o ho (I.ok.frf L hL) hL fun z => I.ok.exfs L z hL
      exact ⟨hk, ⟨L, _, hf, hn, e, hd⟩, ih (fun b hb => hs b (by unfold frs; rw [List.filterMap_cons, hf]; exact List.mem_cons_of_mem _ hb)) hr⟩
  exact all X.outer (fun _ hb => hb) I.ok.funs
theorem Inv.stack (I : Inv X pins σ H s) : s.heap.FunFrames X.base X.stack := by
  rcases I.ok.stk with e | ⟨e, hf⟩
  · rw [e]; exact I.funs
  · rw [e]
    obtain ⟨m, hn, _⟩ := I.loc
    refine .cons (by rw [I.ok.kind]; decide) hf hn ?_ I.funs
    exact Heap.get?_none_of_le (Nat.le_trans I.ok.bsz I.ok.above)
theorem Inv.stkSub (I : Inv X pins σ H s) : ∀ b ∈ frs X.stack, b ∈ X.env.locals :: X.fs := fun b hb => by
  rcases I.ok.stk with e | ⟨e, hf⟩
  · rw [e] at hb; exact List.mem_cons_of_mem _ hb
  · rw [e] at hb
    unfold frs at hb
    rw [List.filterMap_cons, hf] at hb
    exact hb
theorem Inv.stkFree (I : Inv X pins σ H s) : ∀ b ∈ frs X.stack, H b = none := fun b hb => by
  rcases List.mem_cons.mp (I.stkSub b hb) with e | hb
  · rw [e]; exact I.free
  · obtain ⟨_, o, ho, _⟩ := I.ok.funs.mem hb
    exact I.base.free b o ho (I.ok.frf b hb) fun z => I.ok.exfs b z hb
theorem Inv.step {g' : Array GenState} {t' : Nat} {d' : Drawn} {ch : List Addr} (I : Inv X pins σ H s)
    (hch : ∀ b ∈ ch, (b ∈ X.ex ∨ X.s₀.heap.objs.size ≤ b) ∧ b ≠ X.env.locals ∧ (∀ x c, X.env.cells.lookup x = some c → c ≠ b) ∧ ∀ p ∈ X.pn ++ pins, p.1 ≠ b)
    (keep : ∀ b o, b ≠ X.env.locals → b ∉ X.fs → b ∉ ch → s.heap.get? b = some o → H b = none → h'.get? b = some o)
    (slot : ∀ b o, b ≠ X.env.locals → b ∈ X.fs → b ∉ ch → s.heap.get? b = some o → H b = none → ∃ sl, h'.get? b = some { o with slots := sl }) (free : ∀ b o, b ∉ ch → s.heap.get? b = some o → H b = none → H' b = none)
    (there : ∀ b o, b ∉ ch → s.heap.get? b = some o → ∃ o', h'.get? b = some o')
    (tups : ∀ b xs, H b = some (.tup xs) → H' b = some (.tup xs)) (frzs : ∀ b o u, H b = some (.frz o u) → H' b = some (.frz o u)) (tbls : ∀ b ps, H b = some (.tbl ps) → ∃ more, H' b = some (.tbl (ps ++ more)))
    (ns : ∀ m, s.heap.Ns X.env.locals m → h'.Ns X.env.locals m) (hok : HOk X.prog X.w H' h') (hg : AllBare g') :
    Inv X pins σ H' { s with heap := h', gens := g', drawn := d', toks := t' } := by
  have neL : ∀ b o, X.s₀.heap.get? b = some o → b ≠ X.env.locals := fun b o e => Nat.ne_of_lt (Nat.lt_of_lt_of_le (Heap.lt_size e) I.ok.above)
  have neC : ∀ b o, X.s₀.heap.get? b = some o → b ∉ X.ex → b ∉ ch := fun b o e hx hb => by
    rcases (hch b hb).1 with z | z
    · exact hx z
    · exact absurd (Nat.lt_of_lt_of_le (Heap.lt_size e) z) (Nat.lt_irrefl _)
  have cellK : ∀ x c, X.env.cells.lookup x = some c → ∀ v, s.heap.IsCell c v → h'.IsCell c v := fun x c e v ⟨o, ho, hd⟩ => by
    have nch : c ∉ ch := fun z => (hch c z).2.2.1 x c e rfl
    by_cases hc : c ∈ X.fs
    · obtain ⟨sl, q⟩ := slot c o (I.cne x c e) hc nch ho (I.freeC x c e)
      exact ⟨_, q, hd⟩
    · exact ⟨o, keep c o (I.cne x c e) hc nch ho (I.freeC x c e), hd⟩
  refine ⟨I.ok, I.os, hg, ⟨fun b o e n hb hx => ?_, fun b o e n hb hx => ?_, fun b o e n hx => ?_, fun b o e hx => ?_, fun b xs e => tups b xs (I.base.tups b xs e), fun b o xs e => frzs b o xs (I.base.frzs b o xs e), fun b ps e => ?_⟩, ?_, fun x c e => ?_, ?_, fun x c e => ?_, fun p hp => ?_, hok, I.len⟩
  · exact keep b o (neL b o e) hb (neC b o e hx) (I.base.keep b o e n hb hx) (I.base.free b o e n hx)
  · obtain ⟨sl, e1⟩ := I.base.slot b o e n hb hx
    obtain ⟨sl', e2⟩ := slot b _ (neL b o e) hb (neC b o e hx) e1 (I.base.free b o e n hx)
    exact ⟨sl', e2⟩
  · obtain ⟨o', e1⟩ := I.base.there b o e hx
    exact free b o' (neC b o e hx) e1 (I.base.free b o e n hx)
  · obtain ⟨o', e1⟩ := I.base.there b o e hx
    exact there b o' (neC b o e hx) e1
  · obtain ⟨m1, e1⟩ := I.base.tbls b ps e
    obtain ⟨m2, e2⟩ := tbls b _ e1
    exact ⟨m1 ++ m2, by rw [e2, Array.append_assoc]⟩
  · obtain ⟨m, hn, hl⟩ := I.loc
    refine ⟨m, ns m hn, fun i x v e1 e2 e3 => ?_⟩
    obtain ⟨u, r, l⟩ := hl i x v e1 e2 e3
    refine ⟨u, r, ?_⟩
    rcases l with l | ⟨k, c, e, z⟩
    · exact .inl l
    · exact .inr ⟨k, c, e, cellK x c e _ z⟩
  · obtain ⟨v, z⟩ := I.cell x c e
    exact ⟨v, cellK x c e v z⟩
  · obtain ⟨m, ⟨o, _, _, ho, _⟩, _⟩ := I.loc
    exact free _ o (fun z => (hch _ z).2.1 rfl) ho I.free
  · obtain ⟨v, o, ho, hd⟩ := I.cell x c e
    exact free c o (fun z => (hch c z).2.2.1 x c e rfl) ho (I.freeC x c e)
  · obtain ⟨e, n, ne, nf, d⟩ := I.pin p hp
    have nch : p.1 ∉ ch := fun z => (hch p.1 z).2.2.2 p hp rfl
    exact ⟨keep p.1 p.2 ne nf nch e n, free p.1 p.2 nch e n, ne, nf, d⟩
theorem Inv.un {t' : Nat} (I : Inv X pins σ H s) (u : Un X.fs [] H H' s.heap h') (hok : HOk X.prog X.w H' h') : Inv X pins σ H' { s with heap := h', toks := t' } := by
  obtain ⟨m, ⟨o, es, ep, ho, r⟩, _⟩ := id I.loc
  obtain ⟨sl, hL⟩ := u.any ho I.free (by simp)
  exact I.step (g' := s.gens) (d' := s.drawn) (ch := []) (fun _ z => nomatch z) (fun b o _ hb _ e n => u.keep b o e n hb (by simp)) (fun b o _ hb _ e n => u.slot b o e n hb (by simp)) (fun b o _ e n => u.free b o e n (by simp)) (fun b o _ e => u.there b o e (by simp)) u.tups u.frzs u.tbls (fun m' hm => by
    obtain ⟨o', es', ep', ho', r'⟩ := hm
    rw [ho] at ho'; cases ho'
    exact ⟨_, es', ep', hL, r'⟩) hok I.bare
theorem Inv.call {g' : Array GenState} {t' : Nat} {d' : Drawn} {ch : List Addr} (I : Inv X pins σ H s) (u : Un (frs X.stack) ch H H' s.heap h') (hok : HOk X.prog X.w H' h') (hg : AllBare g')
    (hch : ∀ b ∈ ch, (b ∈ X.ex ∨ X.s₀.heap.objs.size ≤ b) ∧ b ≠ X.env.locals ∧ (∀ x c, X.env.cells.lookup x = some c → c ≠ b) ∧ ∀ p ∈ X.pn ++ pins, p.1 ≠ b) :
    Inv X pins σ H' { s with heap := h', gens := g', drawn := d', toks := t' } := by
  obtain ⟨m, ⟨o, es, ep, ho, r⟩, _⟩ := id I.loc
  obtain ⟨sl, hL⟩ := u.any ho I.free fun z => (hch _ z).2.1 rfl
  exact I.step (ch := ch) hch (fun b o hL hb hc e n => u.keep b o e n (fun z => (List.mem_cons.mp (I.stkSub b z)).elim hL hb) hc) (fun b o _ _ hc e n => u.any e n hc) (fun b o hc e n => u.free b o e n hc) (fun b o hc e => u.there b o e hc) u.tups u.frzs u.tbls (fun m' hm => by
    obtain ⟨o', es', ep', ho', r'⟩ := hm
    rw [ho] at ho'; cases ho'
    exact ⟨_, es', ep', hL, r'⟩) hok hg
theorem Inv.turned {t' : Nat} {it : Addr} (I : Inv X pins σ H s) (k : ∀ b o, b ≠ it → s.heap.get? b = some o → h'.get? b = some o) (hn : H it = none) (hL : it ≠ X.env.locals)
    (h1 : it ∈ X.ex ∨ X.s₀.heap.objs.size ≤ it) (h2 : ∀ x c, X.env.cells.lookup x = some c → c ≠ it) (h3 : ∀ p ∈ X.pn ++ pins, p.1 ≠ it) : Inv X pins σ H { s with heap := h', toks := t' } := by
  have nit : ∀ b u, H b = some u → b ≠ it := fun b u e z => by rw [z, hn] at e; cases e
  refine I.step (g' := s.gens) (d' := s.drawn) (ch := [it]) (fun b hb => ?_) (fun b o _ _ hc e _ => k b o (fun z => hc (by simp [z])) e) (fun b o _ _ hc e _ => ⟨o.slots, k b o (fun z => hc (by simp [z])) e⟩) (fun _ _ _ _ n => n)
    (fun b o hc e => ⟨o, k b o (fun z => hc (by simp [z])) e⟩) (fun _ _ e => e) (fun _ _ _ e => e) (fun b ps e => ⟨#[], by rw [e]; simp⟩) (fun m hm => ?_) (fun b u e => ?_) I.bare
  · have e : b = it := by simpa using hb
    subst e
    exact ⟨h1, hL, h2, h3⟩
  · obtain ⟨o, es, ep, ho, r⟩ := hm
    exact ⟨o, es, ep, k _ o (Ne.symm hL) ho, r⟩
  · refine (I.hok b u e).stay (fun c v hc q => k c v ?_ q) (fun _ q => q) fun _ _ q => q
    rcases hc with z | z
    · rw [z]; exact nit b u e
    · exact nit c _ z
theorem Inv.tok (I : Inv X pins σ H s) (t : Nat) : Inv X pins σ H { s with toks := t } := I.un (h' := s.heap) (t' := t) Un.refl I.hok
theorem Inv.kept {t' : Nat} (I : Inv X pins σ H s) (k : ∀ b u, s.heap.get? b = some u → h'.get? b = some u) : Inv X pins σ H { s with heap := h', toks := t' } := I.un (Un.kept k) (I.hok.kept k)
theorem Inv.laid {a : Addr} {o : HO} {t' : Nat} (I : Inv X pins σ H s) (k : ∀ b u, s.heap.get? b = some u → h'.get? b = some u) (hp : s.heap.objs.size ≤ a) (new : ObjOk X.prog X.w (upd H a o) h' a o) :
    Inv X pins σ (upd H a o) { s with heap := h', toks := t' } := I.un (Un.laid k hp (I.hok.fresh hp)) (I.hok.laid k hp new)
theorem Inv.write {x e : Addr} {o : HO} {t' : Nat} (I : Inv X pins σ H s) (mu : Mut (H x)) (he : e = x ∨ H e = some (.own x)) (k : ∀ b u, b ≠ e → s.heap.get? b = some u → h'.get? b = some u) (heo : ∃ u, h'.get? e = some u)
    (new : ObjOk X.prog X.w (upd H x o) h' x o) : Inv X pins σ (upd H x o) { s with heap := h', toks := t' } := I.un (Un.write mu he k heo) (I.hok.write mu he k heo new)
theorem Inv.pins_of {pins' : List (Addr × Obj)} (I : Inv X pins σ H s) (h : ∀ p ∈ pins', s.heap.get? p.1 = some p.2 ∧ H p.1 = none ∧ p.1 ≠ X.env.locals ∧ p.1 ∉ X.fs ∧ ∀ v, p.2.data ≠ .cell v) : Inv X pins' σ H s :=
  ⟨I.ok, I.os, I.bare, I.base, I.loc, I.cell, I.free, I.freeC, fun p hp => (List.mem_append.mp hp).elim (fun z => I.pin p (List.mem_append_left _ z)) (h p), I.hok, I.len⟩
theorem nodup_ix {N : List Str} (hN : N.Nodup) {i j : Nat} {x : Str} (a : N[i]? = some x) (b : N[j]? = some x) : i = j := by
  obtain ⟨h1, e1⟩ := List.getElem?_eq_some_iff.mp a
  obtain ⟨h2, e2⟩ := List.getElem?_eq_some_iff.mp b
  exact (List.getElem_inj hN).mp (e1.trans e2.symm)
theorem store_ok2 {M : Model} {A : Around} {E : Value → Shared → Prop} {i : Nat} {x : Str} {v : V} {u : Value} {Q : Unit → Shared → Prop} (I : Inv X pins σ H s) (hN : X.N.Nodup) (hi : X.N[i]? = some x) (hx : Loc X.env.scope x) (r : RelV v u)
    (h : ∀ s', Inv X pins (σ.set i (some v)) H s' → (∃ a, Heap.SameBut a s.heap s'.heap ∧ (a = X.env.locals ∨ X.env.cells.lookup x = some a)) → Q () s') (hf : X.fn x = true ∨ X.env.scope.names.lookup x = some .local := by first | exact .inl rfl | exact .inr rfl | assumption) : wpAny M A (storeName X.env x u) Q E s := by
  obtain ⟨m, hn, hl⟩ := id I.loc
  have hcls : (X.env.scope.kind == .class || (X.env.scope.kind == .module && X.env.locals != X.env.globals)) = false := by rw [I.ok.kind]; rfl
  have hiσ : i < σ.length := by rw [I.len]; exact (List.getElem?_eq_some_iff.mp hi).1
  have cne := I.cne
  have tracked : ∀ {a : Addr} {h' : Heap}, (∃ o, s.heap.get? a = some o ∧ H a = none) → Heap.SameBut a s.heap h' → HOk X.prog X.w H h' := fun {a h'} ha hs b ob e => by
    obtain ⟨_, _, hfree⟩ := ha
    refine (I.hok b ob e).stay (fun c w' hc q => (hs.2 c ?_).trans q) (fun _ q => q) fun _ _ q => q
    rintro rfl
    rcases hc with rfl | hc
    · rw [hfree] at e; cases e
    · rw [hfree] at hc; cases hc
  rcases hx with hk | hk
  · refine wpAny_storeName_local hk hn (fun h' hn' hs => ?_) hcls
    obtain ⟨oL, _, _, hoL, _⟩ := id hn
    refine h _ ⟨I.ok, I.os, I.bare, ⟨fun b o e n hb hx => ?_, fun b o e n hb hx => ?_, I.base.free, fun b o e hx => ?_, I.base.tups, I.base.frzs, I.base.tbls⟩, ⟨_, hn', fun j y v' e1 e2 e3 => ?_⟩, fun y c e => ?_, I.free, I.freeC, fun p hp => ?_, tracked ⟨oL, hoL, I.free⟩ hs, by simpa using I.len⟩ ⟨_, hs, .inl rfl⟩
    · exact (hs.2 b (Nat.ne_of_lt (Nat.lt_of_lt_of_le (Heap.lt_size e) I.ok.above))).trans (I.base.keep b o e n hb hx)
    · obtain ⟨sl, e1⟩ := I.base.slot b o e n hb hx
      exact ⟨sl, (hs.2 b (Nat.ne_of_lt (Nat.lt_of_lt_of_le (Heap.lt_size e) I.ok.above))).trans e1⟩
    · obtain ⟨o', e1⟩ := I.base.there b o e hx
      exact ⟨o', (hs.2 b (Nat.ne_of_lt (Nat.lt_of_lt_of_le (Heap.lt_size e) I.ok.above))).trans e1⟩
    · by_cases hj : j = i
      · subst hj
        rw [hi] at e1; cases e1
        rw [List.getElem?_set_self hiσ] at e2
        cases e2
        exact ⟨u, r, .inl ⟨hk, by simp⟩⟩
      · rw [List.getElem?_set_ne (Ne.symm hj)] at e2
        obtain ⟨u', r', q⟩ := hl j y v' e1 e2 e3
        refine ⟨u', r', ?_⟩
        rcases q with ⟨k, e⟩ | ⟨k, c, e, z⟩
        · refine .inl ⟨k, ?_⟩
          have : y ≠ x := fun e => hj (nodup_ix hN e1 (e ▸ hi))
          simp [this, e]
        · exact .inr ⟨k, c, e, z.sameBut hs (cne y c e)⟩
    · obtain ⟨w', z⟩ := I.cell y c e
      exact ⟨w', z.sameBut hs (cne y c e)⟩
    · obtain ⟨e, n, ne, nf, d⟩ := I.pin p hp
      exact ⟨(hs.2 p.1 ne).trans e, n, ne, nf, d⟩
  · have hfn : X.fn x = true := by
      rcases hf with z | z
      · exact z
      · rw [z] at hk; cases hk
    obtain ⟨c, hc⟩ := I.ok.has x (.inl hk)
    obtain ⟨w', z⟩ := I.cell x c hc
    refine wpAny_storeName_cell I.ok.kind hk hc z (fun h' hc' hs => ?_)
    obtain ⟨oc, hoc, hocd⟩ := id z
    refine h { s with heap := h' } ⟨I.ok, I.os, I.bare, ⟨fun b o e n hb hx => ?_, fun b o e n hb hx => ?_, I.base.free, fun b o e hx => ?_, I.base.tups, I.base.frzs, I.base.tbls⟩, ⟨m, hn.sameBut hs (Ne.symm (cne x c hc)), fun j y v' e1 e2 e3 => ?_⟩, fun y c' e => ?_, I.free, I.freeC, fun p hp => ?_, tracked ⟨oc, hoc, I.freeC x c hc⟩ hs, by simpa using I.len⟩ ⟨c, hs, .inr hc⟩
    · exact (hs.2 b (Nat.ne_of_lt (Nat.lt_of_lt_of_le (Heap.lt_size e) (I.ok.cab x c hfn hc)))).trans (I.base.keep b o e n hb hx)
    · obtain ⟨sl, e1⟩ := I.base.slot b o e n hb hx
      exact ⟨sl, (hs.2 b (Nat.ne_of_lt (Nat.lt_of_lt_of_le (Heap.lt_size e) (I.ok.cab x c hfn hc)))).trans e1⟩
    · obtain ⟨o', e1⟩ := I.base.there b o e hx
      exact ⟨o', (hs.2 b (Nat.ne_of_lt (Nat.lt_of_lt_of_le (Heap.lt_size e) (I.ok.cab x c hfn hc)))).trans e1⟩
    · by_cases hj : j = i
      · subst hj
        rw [hi] at e1; cases e1
        rw [List.getElem?_set_self hiσ] at e2
        cases e2
        exact ⟨u, r, .inr ⟨.inl hk, c, hc, hc'⟩⟩
      · rw [List.getElem?_set_ne (Ne.symm hj)] at e2
        obtain ⟨u', r', q⟩ := hl j y v' e1 e2 e3
        refine ⟨u', r', ?_⟩
        rcases q with q | ⟨k, c', e, z'⟩
        · exact .inl q
        · refine .inr ⟨k, c', e, z'.sameBut hs ?_⟩
          rintro rfl
          exact hj (nodup_ix hN e1 (I.ok.inj _ _ _ e hc ▸ hi))
    · by_cases hcc : c' = c
      · subst hcc; exact ⟨_, hc'⟩
      · obtain ⟨w2, z2⟩ := I.cell y c' e
        exact ⟨w2, z2.sameBut hs hcc⟩
    · obtain ⟨e, n, ne, nf, d⟩ := I.pin p hp
      refine ⟨(hs.2 p.1 ?_).trans e, n, ne, nf, d⟩
      intro q
      rw [q, hoc] at e
      have q' : oc = p.2 := Option.some.inj e
      exact d w' (by rw [← q']; exact hocd)
theorem store_ok {M : Model} {A : Around} {E : Value → Shared → Prop} {i : Nat} {x : Str} {v : V} {u : Value} {Q : Unit → Shared → Prop} (I : Inv X pins σ H s) (hN : X.N.Nodup) (hi : X.N[i]? = some x) (hx : Loc X.env.scope x) (r : RelV v u)
    (h : ∀ s', Inv X pins (σ.set i (some v)) H s' → Q () s') (hf : X.fn x = true ∨ X.env.scope.names.lookup x = some .local := by first | exact .inl rfl | exact .inr rfl | assumption) : wpAny M A (storeName X.env x u) Q E s :=
  store_ok2 I hN hi hx r (fun s' I' _ => h s' I') hf
theorem Inv.call' {s' : Shared} {ch : List Addr} (I : Inv X pins σ H s) (ho : s'.os = s.os) (u : Un (frs X.stack) ch H H' s.heap s'.heap) (hok : HOk X.prog X.w H' s'.heap) (hg : AllBare s'.gens)
    (hch : ∀ b ∈ ch, (b ∈ X.ex ∨ X.s₀.heap.objs.size ≤ b) ∧ b ≠ X.env.locals ∧ (∀ x c, X.env.cells.lookup x = some c → c ≠ b) ∧ ∀ p ∈ X.pn ++ pins, p.1 ≠ b) : Inv X pins σ H' s' := by
  obtain ⟨h', g', d', t', o'⟩ := s'
  have e : o' = s.os := ho
  subst e
  exact I.call (g' := g') (t' := t') (d' := d') u hok hg hch
end
noncomputable abbrev XK := Value → Option Addr → Hp → Prop
noncomputable abbrev St := List (Option V)
noncomputable abbrev VK := V → Hp → Prop
noncomputable abbrev TE := St → Hp → VK → Prop
noncomputable abbrev TT := St → Hp → (Bool → Hp → Prop) → Prop
noncomputable abbrev TA := St → Hp → (List V → Hp → Prop) → Prop
structure Ends where
  nx : St → Hp → Prop
  rt : VK
  bk : St → Hp → Prop := fun _ _ => False
  ct : St → Hp → Prop := fun _ _ => False
noncomputable abbrev TS := Ends → St → Hp → Prop
noncomputable def EP (X : Cx) (pins : List (Addr × Obj)) (σ : St) (Q : VK) (u : Value) (s' : Shared) : Prop := ∃ v H', Inv X pins σ H' s' ∧ RelV v u ∧ Q v H'
noncomputable def TP (X : Cx) (pins : List (Addr × Obj)) (σ : St) (Q : Bool → Hp → Prop) (b : Bool) (s' : Shared) : Prop := ∃ H', Inv X pins σ H' s' ∧ Q b H'
noncomputable def AP (X : Cx) (pins : List (Addr × Obj)) (σ : St) (Q : List V → Hp → Prop) (us : List Value) (s' : Shared) : Prop := ∃ vs H', Inv X pins σ H' s' ∧ Vals vs us ∧ Q vs H'
noncomputable def SP (X : Cx) (pins : List (Addr × Obj)) (D : Ends) (f : Flow) (s' : Shared) : Prop :=
  match f with
  | .next => ∃ σ' H', Inv X pins σ' H' s' ∧ D.nx σ' H'
  | .brk => ∃ σ' H', Inv X pins σ' H' s' ∧ D.bk σ' H'
  | .cont => ∃ σ' H', Inv X pins σ' H' s' ∧ D.ct σ' H'
  | .ret u => ∃ v σ' H', Inv X pins σ' H' s' ∧ RelV v u ∧ D.rt v H'
noncomputable def PE (X : Cx) (e : Expr) (t : TE) : Prop :=
  ∀ (pins : List (Addr × Obj)) (s : Shared) (σ : St) (H : Hp) (Q : VK), Inv X pins σ H s → t σ H Q → wpAny (model X.prog X.w) X.A (eval e X.env) (EP X pins σ Q) X.xe s
noncomputable def PT (X : Cx) (e : Expr) (t : TT) : Prop :=
  ∀ (pins : List (Addr × Obj)) (s : Shared) (σ : St) (H : Hp) (Q : Bool → Hp → Prop), Inv X pins σ H s → t σ H Q → wpAny (model X.prog X.w) X.A (isTrue e X.env (eval e X.env)) (TP X pins σ Q) X.xe s
noncomputable def PW (X : Cx) (e : Expr) (t : TT) : Prop :=
  ∀ (whole : Sem Value) (pins : List (Addr × Obj)) (s : Shared) (σ : St) (H : Hp) (Q : Bool → Hp → Prop), Inv X pins σ H s → t σ H Q → wpAny (model X.prog X.w) X.A (isTrue e X.env whole) (TP X pins σ Q) X.xe s
theorem PW.pt {X : Cx} {e : Expr} {t : TT} (h : PW X e t) : PT X e t := h _
noncomputable def PA (X : Cx) (es : List Expr) (t : TA) : Prop :=
  ∀ (pos : Pos) (pins : List (Addr × Obj)) (s : Shared) (σ : St) (H : Hp) (Q : List V → Hp → Prop), Inv X pins σ H s → t σ H Q → wpAny (model X.prog X.w) X.A (spliced (backTo pos (starEach es X.env))) (AP X pins σ Q) X.xe s
noncomputable def PS (X : Cx) (st : Stmt) (t : TS) : Prop :=
  ∀ (pins : List (Addr × Obj)) (s : Shared) (σ : St) (H : Hp) (D : Ends), Inv X pins σ H s → t D σ H → wpAny (model X.prog X.w) X.A (exec st X.env) (SP X pins D) X.xe s
noncomputable def PSs (X : Cx) (st : List Stmt) (t : TS) : Prop :=
  ∀ (pins : List (Addr × Obj)) (s : Shared) (σ : St) (H : Hp) (D : Ends), Inv X pins σ H s → t D σ H → wpAny (model X.prog X.w) X.A (execs st X.env) (SP X pins D) X.xe s
theorem thn {α : Type} {t : Sem α} {Q Q' : α → Shared → Prop} {M : Model} {A : Around} {E : Value → Shared → Prop} {s : Shared} (h : wpAny M A t Q E s) (hQ : ∀ a s, Q a s → Q' a s) : wpAny M A t Q' E s := wpAny_mono h hQ fun _ _ x => x
end L2
namespace L2
open PySem PySem.Spec PyProof.Rows
section
variable {X : Cx}
noncomputable def tVar (i : Nat) : TE := fun σ H Q => ∃ v, σ[i]? = some (some v) ∧ Q v H
noncomputable def tC (v : V) : TE := fun _ H Q => Q v H
theorem pe_var {i : Nat} {x : Str} {pos : Pos} (hN : X.N[i]? = some x) (hv : Vis X.env.scope x) (hd : (x == ("__debug__" : Str)) = false := by decide) (hcd : (x == ("__classdict__" : Str)) = false := by decide) : PE X (.Name x pos) (tVar i) := by
  intro pins s σ H Q I h
  obtain ⟨v, e, h⟩ := h
  obtain ⟨m, hn, hl⟩ := I.loc
  obtain ⟨u, r, l⟩ := hl i x v hN e hv
  have fin : EP X pins σ Q u s := ⟨v, H, I, r, h⟩
  rcases l with ⟨hk, hm⟩ | ⟨hk, c, hc, hcell⟩
  · exact wpAny_Name (wpAny_loadName_local I.ok.kind hk hn hm fin) hd
  · rcases hk with hk | hk
    · exact wpAny_Name (wpAny_loadName_cell I.ok.kind hk hc hcell fin) hd
    · exact wpAny_Name (wpAny_loadName_free I.ok.kind hk hc hcell fin hcd) hd
theorem pe_int {i j pos} : PE X (.Constant (.int i) j pos) (tC (.int i)) := fun _ _ _ H _ I h => wpAny_Constant_int ⟨.int i, H, I.tok _, ⟨_, rfl⟩, h⟩
theorem pe_bl {b j pos} : PE X (.Constant (.bool b) j pos) (tC (.bl b)) := fun _ _ _ H _ I h => Constant_bool ⟨.bl b, H, I, rfl, h⟩
theorem pe_non {j pos} : PE X (.Constant .none j pos) (tC .non) := fun _ _ _ H _ I h => Constant_none ⟨.non, H, I, rfl, h⟩
theorem pe_str {x j pos} : PE X (.Constant (.str x) j pos) (tC (.str x)) := fun _ _ _ H _ I h => Calls.Constant_str ⟨.str x, H, I.tok _, ⟨_, rfl⟩, h⟩
noncomputable def Gl (X : Cx) (x : Str) : Prop := X.env.kindOf x = some .globalImplicit
theorem ld_glob {E : Value → Shared → Prop} {pins : List (Addr × Obj)} {s : Shared} {σ : St} {H : Hp} {x : Str} {u : Value} {pos : Pos} {Q : Value → Shared → Prop} (I : Inv X pins σ H s) (hg : Gl X x) (hm : X.mg x = some u) (h : Q u s)
    (hd : (x == ("__debug__" : Str)) = false := by decide) : wpAny (model X.prog X.w) X.A (eval (.Name x pos) X.env) Q E s :=
  Calls.Name_function_global I.ok.kind hg (Calls.loadGlobal_global (by rw [I.ok.glob]; exact I.mod.glob.keeps I.bk) hm h) hd
theorem ld_blt {E : Value → Shared → Prop} {pins : List (Addr × Obj)} {s : Shared} {σ : St} {H : Hp} {x : Str} {u : Value} {pos : Pos} {Q : Value → Shared → Prop} (I : Inv X pins σ H s) (hg : Gl X x) (hm : X.mg x = none) (hv : bootBuiltins x = some u) (h : Q u s)
    (hn : x ≠ "__name__" := by decide) (hd : (x == ("__debug__" : Str)) = false := by decide) : wpAny (model X.prog X.w) X.A (eval (.Name x pos) X.env) Q E s := by
  obtain ⟨mb, h1, h2⟩ := I.mod.blt
  exact Calls.Name_function_global I.ok.kind hg (Calls.loadGlobal_builtin (by rw [I.ok.glob]; exact I.mod.glob.keeps I.bk) hm (by rw [I.ok.blt]; exact h1.keeps I.bk) ((h2 x hn).trans hv) h) hd
theorem pe_glob {x : Str} {v : V} {u : Value} {pos : Pos} (hg : Gl X x) (hm : X.mg x = some u) (r : RelV v u) (hd : (x == ("__debug__" : Str)) = false := by decide) : PE X (.Name x pos) (tC v) :=
  fun _ _ _ H _ I h => ld_glob I hg hm ⟨v, H, I, r, h⟩ hd
theorem pe_bltn {x : Str} {v : V} {u : Value} {pos : Pos} (hg : Gl X x) (hm : X.mg x = none) (hv : bootBuiltins x = some u) (r : RelV v u) (hn : x ≠ "__name__" := by decide) (hd : (x == ("__debug__" : Str)) = false := by decide) : PE X (.Name x pos) (tC v) :=
  fun _ _ _ H _ I h => ld_blt I hg hm hv ⟨v, H, I, r, h⟩ hn hd
variable {a b : Expr} {ta tb : TE} {pos : Pos}
noncomputable def tB (t : TE) : TT := fun σ H Q => t σ H fun x H1 => ∃ c, x = .bl c ∧ Q c H1
variable {tA tB' : TT} {rest : List Expr}
noncomputable def tAnd (t u : TT) : TT := fun σ H Q => t σ H fun c H1 => if c = true then u σ H1 Q else Q false H1
noncomputable def tOr (t u : TT) : TT := fun σ H Q => t σ H fun c H1 => if c = true then Q true H1 else u σ H1 Q
noncomputable def tNot (t : TT) : TT := fun σ H Q => t σ H fun c H1 => Q (!c) H1
theorem pw_and1 (ha : PT X a tA) : PW X (.BoolOp .And [a] pos) tA := by
  intro wh pins s σ H Q I h
  refine isTrue_and (thn (ha pins s σ H Q I h) fun c s1 e => ?_)
  cases c with
  | true => exact isTrue_and_nil e
  | false => exact e
theorem pw_or1 (ha : PT X a tA) : PW X (.BoolOp .Or [a] pos) tA := by
  intro wh pins s σ H Q I h
  refine isTrue_or (thn (ha pins s σ H Q I h) fun c s1 e => ?_)
  cases c with
  | false => exact isTrue_or_nil e
  | true => exact e
theorem pw_and (ha : PT X a tA) (hb : PW X (.BoolOp .And (b :: rest) pos) tB') : PW X (.BoolOp .And (a :: b :: rest) pos) (tAnd tA tB') := by
  intro wh pins s σ H Q I h
  refine isTrue_and (thn (ha pins s σ H _ I h) fun c s1 ⟨H1, I1, q1⟩ => ?_)
  cases c with
  | true => exact hb wh pins s1 σ H1 Q I1 q1
  | false => exact ⟨H1, I1, q1⟩
theorem pw_or (ha : PT X a tA) (hb : PW X (.BoolOp .Or (b :: rest) pos) tB') : PW X (.BoolOp .Or (a :: b :: rest) pos) (tOr tA tB') := by
  intro wh pins s σ H Q I h
  refine isTrue_or (thn (ha pins s σ H _ I h) fun c s1 ⟨H1, I1, q1⟩ => ?_)
  cases c with
  | true => exact ⟨H1, I1, q1⟩
  | false => exact hb wh pins s1 σ H1 Q I1 q1
theorem pt_not (ha : PT X a tA) : PT X (.UnaryOp .Not a pos) (tNot tA) := by
  intro pins s σ H Q I h
  exact isTrue_not (ha pins s σ H (fun c H1 => Q (!c) H1) I h)
noncomputable def tAndV (ta tb : TE) : TE := fun σ H Q => ta σ H fun x H1 => ∃ c, x = .bl c ∧ if c = true then tb σ H1 Q else Q (.bl false) H1
noncomputable def tOrV (ta tb : TE) : TE := fun σ H Q => ta σ H fun x H1 => ∃ c, x = .bl c ∧ if c = true then Q (.bl true) H1 else tb σ H1 Q
theorem pe_one {op} {t : TE} (h : PE X a t) : PE X (.BoolOp op [a] pos) t := fun pins s σ H Q I hw => BoolOp_one (h pins s σ H Q I hw)
theorem pe_and (ha : PE X a ta) (hb : PE X (.BoolOp .And (b :: rest) pos) tb) : PE X (.BoolOp .And (a :: b :: rest) pos) (tAndV ta tb) := by
  intro pins s σ H Q I h
  refine BoolOp_and (thn (ha pins s σ H _ I h) fun v s1 ⟨x, H1, I1, r1, q1⟩ => ?_)
  obtain ⟨c, rfl, q1⟩ := q1
  cases r1
  refine wpAny_truthy_bool ?_
  cases c with
  | true => exact hb pins s1 σ H1 Q I1 q1
  | false => exact ⟨.bl false, H1, I1, rfl, q1⟩
theorem pe_or (ha : PE X a ta) (hb : PE X (.BoolOp .Or (b :: rest) pos) tb) : PE X (.BoolOp .Or (a :: b :: rest) pos) (tOrV ta tb) := by
  intro pins s σ H Q I h
  refine BoolOp_or (thn (ha pins s σ H _ I h) fun v s1 ⟨x, H1, I1, r1, q1⟩ => ?_)
  obtain ⟨c, rfl, q1⟩ := q1
  cases r1
  refine wpAny_truthy_bool ?_
  cases c with
  | false => exact hb pins s1 σ H1 Q I1 q1
  | true => exact ⟨.bl true, H1, I1, rfl, q1⟩
noncomputable def tIf (t : TT) (ta tb : TE) : TE := fun σ H Q => t σ H fun c H1 => if c = true then ta σ H1 Q else tb σ H1 Q
theorem pe_ifExp {c : Expr} (hc : PT X c tA) (ha : PE X a ta) (hb : PE X b tb) : PE X (.IfExp c a b pos) (tIf tA ta tb) := by
  intro pins s σ H Q I h
  refine wpAny_IfExp (thn (hc pins s σ H _ I h) fun d s1 ⟨H1, I1, q1⟩ => ?_)
  cases d with
  | true => exact ha pins s1 σ H1 Q I1 q1
  | false => exact hb pins s1 σ H1 Q I1 q1
end
end L2
namespace L2
open PySem PySem.Spec PyProof.Rows
noncomputable def SqL (K : PySem.W.Frag) (H : Hp) (a : Addr) (xs : List V) : Prop :=
  Rd H a (.lst xs) ∨
    ∃ (o : Obj) (its : Array Value) (n : Nat), K.lookup a = some o ∧ o.cls = .type "list" ∧ o.dict = none ∧ o.data = .seq its n ∧ its.size ≤ sizeLine ∧ Vals xs its.toList
noncomputable def SqT (K : PySem.W.Frag) (H : Hp) (a : Addr) (xs : List V) : Prop :=
  Rd H a (.tup xs) ∨
    ∃ (o : Obj) (its : Array Value) (n : Nat), K.lookup a = some o ∧ o.cls = .type "tuple" ∧ o.data = .seq its n ∧ its.size ≤ sizeLine ∧ Vals xs its.toList
noncomputable def absV : Value → Option V
  | .none => some .non
  | .bool b => some (.bl b)
  | .int i _ => some (.int i)
  | .str x _ => some (.str x)
  | .bytes b _ => some (.byt b)
  | .float b _ => some (.flt b)
  | .ref a => some (.ref a)
  | .type n => some (.ty n)
  | _ => none
theorem RelV.abs {x : V} {u : Value} (r : RelV x u) : absV u = some x := by
  cases x with
  | non => cases r; rfl
  | bl _ => cases r; rfl
  | int _ => obtain ⟨t, rfl⟩ := r; rfl
  | str _ => obtain ⟨t, rfl⟩ := r; rfl
  | byt _ => obtain ⟨t, rfl⟩ := r; rfl
  | flt _ => obtain ⟨t, rfl⟩ := r; rfl
  | ref _ => cases r; rfl
  | ty _ => cases r; rfl
theorem RelV.inj {x y : V} {u : Value} (r : RelV x u) (q : RelV y u) : x = y := Option.some.inj (r.abs.symm.trans q.abs)
theorem Vals.inj : ∀ {xs ys : List V} {us : List Value}, Vals xs us → Vals ys us → xs = ys
  | _, _, _, .nil, .nil => rfl
  | _, _, _, .cons r t, .cons r' t' => by rw [r.inj r', Vals.inj t t']
section
variable {X : Cx} {pins : List (Addr × Obj)} {σ : St} {H : Hp} {s : Shared} {a : Addr} {xs ys : List V}
theorem SqL.of {K : PySem.W.Frag} (h : H a = some (.lst xs)) : SqL K H a xs := .inl (.inl h)
theorem SqT.of {K : PySem.W.Frag} (h : H a = some (.tup xs)) : SqT K H a xs := .inl (.inl h)
theorem Inv.list (I : Inv X pins σ H s) (h : SqL X.K H a xs) : ∃ its : List Value, Vals xs its ∧ PlainL s.heap a its.toArray ∧ xs.length ≤ sizeLine := by
  rcases h with h | ⟨o, its, n, hk, hc, hd, hs, hz, r⟩
  · obtain ⟨z, its, n, r, e⟩ := h.ok I.hok
    exact ⟨its, r, ⟨_, n, e, rfl, rfl, rfl⟩, z⟩
  · refine ⟨its.toList, r, ⟨o, n, I.kIn a o hk, hc, hd, by simpa using hs⟩, ?_⟩
    have e := r.length
    simp only [Array.length_toList] at e
    omega
theorem Inv.tuple (I : Inv X pins σ H s) (h : SqT X.K H a xs) : ∃ its : List Value, Vals xs its ∧ IsTup s.heap a its.toArray ∧ xs.length ≤ sizeLine := by
  rcases h with h | ⟨o, its, n, hk, hc, hs, hz, r⟩
  · obtain ⟨z, its, r, p⟩ := h.ok I.hok
    exact ⟨its, r, p, z⟩
  · refine ⟨its.toList, r, ⟨o, I.kIn a o hk, hc, n, by simpa using hs⟩, ?_⟩
    have e := r.length
    simp only [Array.length_toList] at e
    omega
theorem Inv.list_inj (I : Inv X pins σ H s) (h : SqL X.K H a xs) (h' : SqL X.K H a ys) : xs = ys := by
  obtain ⟨its, r, ⟨o, n, e, _, _, d⟩, _⟩ := I.list h
  obtain ⟨its', r', ⟨o', n', e', _, _, d'⟩, _⟩ := I.list h'
  rw [e] at e'; cases e'
  rw [d] at d'
  injection d' with d1 _
  have : its = its' := by simpa using congrArg Array.toList d1
  subst this
  exact r.inj r'
theorem Inv.tuple_inj (I : Inv X pins σ H s) (h : SqT X.K H a xs) (h' : SqT X.K H a ys) : xs = ys := by
  obtain ⟨its, r, ⟨o, e, _, n, d⟩, _⟩ := I.tuple h
  obtain ⟨its', r', ⟨o', e', _, n', d'⟩, _⟩ := I.tuple h'
  rw [e] at e'; cases e'
  rw [d] at d'
  injection d' with d1 _
  have : its = its' := by simpa using congrArg Array.toList d1
  subst this
  exact r.inj r'
end
noncomputable abbrev Cx.wish (X : Cx) (E : Value → Shared → Prop) : Cx := { X with xe := E }
noncomputable abbrev Cx.nox (X : Cx) : Cx := X.wish fun _ _ => False
theorem Cx.Ok.wish {X : Cx} (ok : X.Ok) (E : Value → Shared → Prop) : (X.wish E).Ok :=
  ⟨ok.mod, ok.kind, ok.glob, ok.blt, ok.above, ok.inj, ok.has, ok.cab, ok.hd, ok.frames, ok.stk, ok.exf, ok.bs, ok.bsz, ok.noex, ok.exfs, ok.funs, ok.frf⟩
theorem Cx.Ok.unwish {X : Cx} {E : Value → Shared → Prop} (ok : (X.wish E).Ok) : X.Ok :=
  ⟨ok.mod, ok.kind, ok.glob, ok.blt, ok.above, ok.inj, ok.has, ok.cab, ok.hd, ok.frames, ok.stk, ok.exf, ok.bs, ok.bsz, ok.noex, ok.exfs, ok.funs, ok.frf⟩
section
variable {X : Cx} {pins : List (Addr × Obj)} {σ : St} {H : Hp} {s : Shared} {E : Value → Shared → Prop}
theorem Inv.wish (I : Inv X pins σ H s) (E : Value → Shared → Prop) : Inv (X.wish E) pins σ H s := ⟨I.ok.wish E, I.os, I.bare, I.base, I.loc, I.cell, I.free, I.freeC, I.pin, I.hok, I.len⟩
theorem Inv.unwish (I : Inv (X.wish E) pins σ H s) : Inv X pins σ H s := ⟨I.ok.unwish, I.os, I.bare, I.base, I.loc, I.cell, I.free, I.freeC, I.pin, I.hok, I.len⟩
theorem SP.unwish {D : Ends} {f : Flow} {s' : Shared} (h : SP (X.wish E) pins D f s') : SP X pins D f s' := by
  cases f with
  | next => obtain ⟨σ', H', I, q⟩ := h; exact ⟨σ', H', I.unwish, q⟩
  | brk => obtain ⟨σ', H', I, q⟩ := h; exact ⟨σ', H', I.unwish, q⟩
  | cont => obtain ⟨σ', H', I, q⟩ := h; exact ⟨σ', H', I.unwish, q⟩
  | ret u => obtain ⟨v, σ', H', I, r, q⟩ := h; exact ⟨v, σ', H', I.unwish, r, q⟩
theorem PE.nox {e : Expr} {t : TE} (h : PE X.nox e t) : PE X e t := fun pins s σ H Q I hw =>
  wpAny_mono (h pins s σ H Q (I.wish _) hw) (fun _ _ ⟨v, H', I', r, q⟩ => ⟨v, H', I'.unwish, r, q⟩) fun _ _ z => False.elim z
theorem PT.nox {e : Expr} {t : TT} (h : PT X.nox e t) : PT X e t := fun pins s σ H Q I hw =>
  wpAny_mono (h pins s σ H Q (I.wish _) hw) (fun _ _ ⟨H', I', q⟩ => ⟨H', I'.unwish, q⟩) fun _ _ z => False.elim z
theorem PSs.nox {st : List Stmt} {t : TS} (h : PSs X.nox st t) : PSs X st t := fun pins s σ H D I hw =>
  wpAny_mono (h pins s σ H D (I.wish _) hw) (fun _ _ q => q.unwish) fun _ _ z => False.elim z
end
section
variable {X : Cx} {st : Stmt} {rest : List Stmt} {t u : TS} {e : Expr} {te : TE} {pos : Pos}
noncomputable def tNext : TS := fun D σ H => D.nx σ H
noncomputable def tSeq (t u : TS) : TS := fun D σ H => t { D with nx := u D } σ H
theorem pss_nil : PSs X [] tNext := fun _ _ σ H _ I h => wpAny_execs_nil ⟨σ, H, I, h⟩
theorem pss_cons (h1 : PS X st t) (h2 : PSs X rest u) : PSs X (st :: rest) (tSeq t u) := by
  intro pins s σ H D I h
  refine wpAny_execs_cons (thn (h1 pins s σ H { D with nx := u D } I h) fun f s1 q => ?_)
  cases f with
  | next =>
    obtain ⟨σ', H', I', q⟩ := q
    exact h2 pins s1 σ' H' D I' q
  | ret v => exact q
  | brk => exact q
  | cont => exact q
theorem pss_one (h1 : PS X st t) : PSs X [st] t := by
  intro pins s σ H D I h
  refine wpAny_execs_cons (thn (h1 pins s σ H D I h) fun f s1 q => ?_)
  cases f with
  | next => exact wpAny_execs_nil q
  | ret v => exact q
  | brk => exact q
  | cont => exact q
theorem ps_pass : PS X (.Pass pos) tNext := fun _ _ σ H _ I h => wpAny_Pass ⟨σ, H, I, h⟩
theorem Inv.quiet {pins : List (Addr × Obj)} {σ : St} {H : Hp} {s : Shared} (I : Inv X pins σ H s) : interactive X.env = false := by simp [interactive, I.ok.kind]
noncomputable def tDrop (te : TE) : TS := fun D σ H => te σ H fun _ H1 => D.nx σ H1
theorem ps_expr (he : PE X e te) (hs : swapsWith e none pos.line X.env = pure false := by rfl) : PS X (.Expr e pos) (tDrop te) := by
  intro pins s σ H D I h
  exact wpAny_Expr_any (thn (he pins s σ H _ I h) fun v s1 ⟨x, H1, I1, r1, q1⟩ => ⟨σ, H1, I1, q1⟩) I.quiet hs
noncomputable def tRet (te : TE) : TS := fun D σ H => te σ H D.rt
theorem ps_ret (he : PE X e te) : PS X (.Return (some e) pos) (tRet te) := by
  intro pins s σ H D I h
  exact wpAny_Return_some (thn (he pins s σ H _ I h) fun v s1 ⟨x, H1, I1, r1, q1⟩ => ⟨x, σ, H1, I1, r1, q1⟩)
noncomputable def tIfS (c : TT) (t u : TS) : TS := fun D σ H => c σ H fun b H1 => if b = true then t D σ H1 else u D σ H1
theorem ps_if {c : Expr} {a b : List Stmt} {tc : TT} (hc : PT X c tc) (ha : PSs X a t) (hb : PSs X b u) : PS X (.If c a b pos) (tIfS tc t u) := by
  intro pins s σ H D I h
  refine wpAny_If (thn (hc pins s σ H _ I h) fun d s1 ⟨H1, I1, q1⟩ => ?_)
  cases d with
  | true => exact ha pins s1 σ H1 D I1 q1
  | false => exact hb pins s1 σ H1 D I1 q1
end
noncomputable abbrev TG := V → St → Hp → (St → Hp → Prop) → Prop
noncomputable abbrev TGs := List V → St → Hp → (St → Hp → Prop) → Prop
noncomputable def PG (X : Cx) (target : Expr) (t : TG) : Prop :=
  ∀ (pins : List (Addr × Obj)) (s : Shared) (σ : St) (H : Hp) (v : V) (u : Value) (Q : St → Hp → Prop), Inv X pins σ H s → RelV v u → t v σ H Q →
    wpAny (model X.prog X.w) X.A (assign target X.env u) (fun _ s' => ∃ σ' H', Inv X pins σ' H' s' ∧ Q σ' H') X.xe s
noncomputable def PGs (X : Cx) (ts : List Expr) (t : TGs) : Prop :=
  ∀ (pins : List (Addr × Obj)) (s : Shared) (σ : St) (H : Hp) (vs : List V) (us : List Value) (Q : St → Hp → Prop), Inv X pins σ H s → Vals vs us → t vs σ H Q →
    wpAny (model X.prog X.w) X.A (assignInOrder ((assignEach ts X.env).map (·.2)) us) (fun _ s' => ∃ σ' H', Inv X pins σ' H' s' ∧ Q σ' H') X.xe s
noncomputable abbrev TIp := V → V → Hp → VK → Prop
section
variable {X : Cx} {pos : Pos}
noncomputable def gName (i : Nat) : TG := fun v σ H Q => Q (σ.set i (some v)) H
theorem pg_name {i : Nat} {x : Str} (hN : X.N.Nodup) (hi : X.N[i]? = some x) (hx : Loc X.env.scope x) (hf : X.fn x = true ∨ X.env.scope.names.lookup x = some .local := by first | exact .inl rfl | exact .inr rfl | assumption) : PG X (.Name x pos) (gName i) := by
  intro pins s σ H v u Q I r h
  exact wpAny_assign_Name (store_ok I hN hi hx r (fun s' I' => ⟨_, H, I', h⟩) hf)
noncomputable def gNil : TGs := fun vs σ H Q => vs = [] ∧ Q σ H
noncomputable def gCons (t : TG) (u : TGs) : TGs := fun vs σ H Q => ∃ v r, vs = v :: r ∧ t v σ H fun σ' H' => u r σ' H' Q
theorem pgs_nil : PGs X [] gNil := by
  intro pins s σ H vs us Q I r h
  obtain ⟨e, h⟩ := h
  subst e
  cases r
  exact assignInOrder_nil ⟨σ, H, I, h⟩
theorem pgs_cons {e : Expr} {es : List Expr} {t : TG} {u : TGs} (h1 : PG X e t) (h2 : PGs X es u)
    (hs : (assignEach (e :: es) X.env).map (·.2) = assign e X.env :: (assignEach es X.env).map (·.2) := by rfl) : PGs X (e :: es) (gCons t u) := by
  intro pins s σ H vs us Q I r h
  obtain ⟨v, vr, e1, h⟩ := h
  subst e1
  cases r with
  | cons r rr =>
    rw [hs]
    refine assignInOrder_cons (thn (h1 pins s σ H _ _ _ I r h) fun _ s1 ⟨σ1, H1, I1, q1⟩ => ?_)
    exact h2 pins s1 σ1 H1 _ _ Q I1 rr q1
noncomputable def gTup (K : PySem.W.Frag) (n : Nat) (t : TGs) : TG := fun v σ H Q => ∃ a xs, v = .ref a ∧ SqT K H a xs ∧ xs.length = n ∧ t xs σ H Q
theorem pg_tup {es : List Expr} {k : Nat} {t : TGs} {n : Nat} (hc : X.calm = true) (h : PGs X es t)
    (hn : (assignEach es X.env).length = n := by rfl) (hst : (assignEach es X.env).findIdx? (·.1) = none := by rfl) : PG X (.Tuple es k pos) (gTup X.K n t) := by
  intro pins s σ H v u Q I r hw
  obtain ⟨a, xs, e1, hq, hl, hw⟩ := hw
  subst e1
  cases r
  obtain ⟨its, rv, ht, hz⟩ := I.tuple hq
  refine assign_Tuple_tuple (I.ok.hd hc) ht (by simp [hn, ← hl, rv.length]) hst fun h' hx => ?_
  have I1 : Inv X pins σ H { s with heap := h' } := I.kept (t' := s.toks) fun b o e => hx b o (Nat.ne_of_lt (Heap.lt_size e)) e
  exact h pins _ σ H xs _ Q I1 (by simpa using rv) hw
noncomputable def tAsg (te : TE) (g : TG) : TS := fun D σ H => te σ H fun x H1 => g x σ H1 D.nx
theorem ps_set {i : Nat} {x : Str} {e : Expr} {te : TE} {pos' : Pos} (hN : X.N.Nodup) (hi : X.N[i]? = some x) (hx : Loc X.env.scope x) (he : PE X e te) (hs : swapsWith e (some (.Name x pos')) pos.line X.env = pure false := by rfl) (hf : X.fn x = true ∨ X.env.scope.names.lookup x = some .local := by first | exact .inl rfl | exact .inr rfl | assumption) :
    PS X (.Assign [.Name x pos'] e pos) (tAsg te (gName i)) := by
  intro pins s σ H D I h
  refine wpAny_Assign_Name (thn (he pins s σ H _ I h) fun v s1 ⟨y, H1, I1, r1, q1⟩ => ?_) hs
  exact store_ok I1 hN hi hx r1 (fun s2 I2 => ⟨_, H1, I2, q1⟩) hf
noncomputable def tPar (i j : Nat) (ta : TA) : TS := fun D σ H => ta σ H fun vs H1 => ∃ v w, vs = [v, w] ∧ D.nx ((σ.set i (some v)).set j (some w)) H1
end
section
variable {X : Cx} {pos : Pos}
noncomputable def tWhile (c : TT) (tb : TS) : TS := fun D σ H => ∃ W : Nat → St → Hp → Prop, (∃ m, W m σ H) ∧ ∀ m σ H, W m σ H →
  c σ H fun b H1 => if b = true then ∃ N : St → Hp → Prop, (∀ σ' H', N σ' H' → ∃ m', m' < m ∧ W m' σ' H') ∧ tb { D with nx := N, ct := N, bk := D.nx } σ H1 else D.nx σ H1
theorem ps_while {c : Expr} {body : List Stmt} {tc : TT} {tb : TS} (hp : PassesOwn (model X.prog X.w) X.A X.env X.xe) (hc : PT X c tc) (hb : PSs X body tb) : PS X (.While c body [] pos) (tWhile tc tb) := by
  intro pins s σ H D I h
  obtain ⟨W, ⟨m0, w0⟩, turn⟩ := h
  refine wpAny_While (codeAny_whileLoop (fun n s' => ∃ σ' H', Inv X pins σ' H' s' ∧ W n σ' H') ?_ m0 ⟨σ, H, I, w0⟩)
  rintro n s1 ⟨σ1, H1, I1, w1⟩
  refine wpAny_passesOwn hp (thn (hc pins s1 σ1 H1 _ I1 (turn n σ1 H1 w1)) fun b s2 ⟨H2, I2, q2⟩ => ?_)
  cases b with
  | true =>
    obtain ⟨N, hN, q2⟩ := q2
    rw [if_pos rfl]
    refine wpAny_passesOwn hp (thn (hb pins s2 σ1 H2 _ I2 q2) fun f s3 q3 => ?_)
    cases f with
    | next =>
      obtain ⟨σ3, H3, I3, n3⟩ := q3
      obtain ⟨m', hm, w3⟩ := hN σ3 H3 n3
      exact ⟨m', hm, σ3, H3, I3, w3⟩
    | cont =>
      obtain ⟨σ3, H3, I3, n3⟩ := q3
      obtain ⟨m', hm, w3⟩ := hN σ3 H3 n3
      exact ⟨m', hm, σ3, H3, I3, w3⟩
    | brk => exact q3
    | ret v => exact q3
  | false =>
    rw [if_neg Bool.false_ne_true]
    exact wpAny_execs_nil ⟨σ1, H2, I2, q2⟩
end
structure It where
  go : Nat → Hp → Prop
  yld : Nat → Hp → V → Hp → Prop
  stop : Nat → Hp → Prop
noncomputable def FpOk (X : Cx) (pins : List (Addr × Obj)) (H : Hp) (b : Addr) : Prop :=
  H b = none ∧ b ≠ X.env.locals ∧ b ∉ X.fs ∧ (b ∈ X.ex ∨ X.s₀.heap.objs.size ≤ b) ∧ (∀ x c, X.env.cells.lookup x = some c → c ≠ b) ∧ ∀ p ∈ X.pn ++ pins, p.1 ≠ b
theorem Inv.fpOk {X : Cx} {pins : List (Addr × Obj)} {σ : St} {H H' : Hp} {s : Shared} {b : Addr} (I : Inv X pins σ H s) (hb : s.heap.objs.size ≤ b) (hn : H' b = none) : FpOk X pins H' b := by
  refine ⟨hn, Nat.ne_of_gt (Nat.lt_of_lt_of_le I.lt hb), I.nofs hb, .inr (Nat.le_trans I.sz hb), fun x c e z => ?_, fun p hp z => ?_⟩
  · obtain ⟨v, q⟩ := I.cell x c e
    exact absurd (Nat.lt_of_lt_of_le q.lt (by rw [z]; exact hb)) (Nat.lt_irrefl _)
  · exact absurd (Nat.lt_of_lt_of_le (Heap.lt_size (I.pin p hp).1) (by rw [z]; exact hb)) (Nat.lt_irrefl _)
structure Turn (P : Program) (w : World) (K : PySem.W.Frag) (tg : Expr) (J : It) (fp : List Addr) (it : Addr) (tn : Nat → Heap → Prop) : Prop where
  mem : it ∈ fp
  obj : ∀ i h, tn i h → ∀ b ∈ fp, ∃ o, h.get? b = some o ∧ ∀ v, o.data ≠ .cell v
  keep : ∀ i h h', tn i h → (∀ b ∈ fp, ∀ o, h.get? b = some o → h'.get? b = some o) → tn i h'
  item : ∀ (X : Cx), X.prog = P → X.w = w → X.K = K → X.calm = true → ∀ (i : Nat) (pins : List (Addr × Obj)) (s : Shared) (σ : St) (H : Hp) (E : Value → Shared → Prop), Inv X pins σ H s → (∀ b ∈ fp, FpOk X pins H b) → tn i s.heap → J.go i H →
    wpAny (model P w) X.A (pyNext (.ref it)) (fun r s1 => ∃ u, r = some u ∧
      wpAny (model P w) X.A (letOwnedTupleGo tg (.ref it) u) (fun _ s2 => ∃ x H', Inv X pins σ H' s2 ∧ RelV x u ∧ J.yld i H x H' ∧ tn (i + 1) s2.heap ∧ ∀ b ∈ fp, H' b = none) E s1) E s
  done : ∀ (X : Cx), X.prog = P → X.w = w → X.K = K → X.calm = true → ∀ (i : Nat) (pins : List (Addr × Obj)) (s : Shared) (σ : St) (H : Hp) (E : Value → Shared → Prop), Inv X pins σ H s → (∀ b ∈ fp, FpOk X pins H b) → tn i s.heap → J.stop i H →
    wpAny (model P w) X.A (pyNext (.ref it)) (fun r s1 => r = none ∧ Inv X pins σ H s1) E s
  self : ∀ (A : Around) (i : Nat) (s : Shared) (Q : Value → Shared → Prop) (E : Value → Shared → Prop), tn i s.heap → Q (.ref it) s → wpAny (model P w) A (pyIter (.ref it)) Q E s
noncomputable abbrev TI := St → Hp → (It → Hp → Prop) → Prop
noncomputable def PIE (X : Cx) (pins : List (Addr × Obj)) (σ : St) (tg : Expr) (R : It → Hp → Prop) (itv : Value) (s2 : Shared) : Prop :=
  ∃ (it : Addr) (fp : List Addr) (tn : Nat → Heap → Prop) (J : It) (H' : Hp), itv = .ref it ∧ Inv X pins σ H' s2 ∧ Turn X.prog X.w X.K tg J fp it tn ∧ tn 0 s2.heap ∧ (∀ b ∈ fp, FpOk X pins H' b) ∧ R J H'
noncomputable def PI (X : Cx) (tg iter : Expr) (wi : TI) : Prop :=
  ∀ (pins : List (Addr × Obj)) (s : Shared) (σ : St) (H : Hp) (R : It → Hp → Prop), Inv X pins σ H s → wi σ H R →
    wpAny (model X.prog X.w) X.A (eval iter X.env) (fun v s1 => wpAny (model X.prog X.w) X.A (pyIter v) (PIE X pins σ tg R) X.xe s1) X.xe s
theorem go_of {M : Model} {A : Around} {E : Value → Shared → Prop} {s : Shared} {tg : Expr} {it : Addr} {u : Value} {o : Obj} {n : String} {vs : Array Value} {Q : Unit → Shared → Prop} (ho : s.heap.get? it = some o) (hc : o.cls = .type n) (hd : o.data = .fields vs)
    (hn : ["enumerate", "zip", "dict_itemiterator", "dict_reverseitemiterator", "odict_iterator", "itertools.zip_longest", "itertools.pairwise"].contains n = false) (hQ : Q () s) : wpAny M A (letOwnedTupleGo tg (.ref it) u) Q E s := by
  unfold letOwnedTupleGo
  cases tg <;> first
    | exact wpAny_pure hQ
    | (cases u <;> first
        | exact wpAny_pure hQ
        | (refine wpAny_bind (wpAny_load ho ?_)
           rw [hc, hd]
           show wpAny M A (if (["enumerate", "zip", "dict_itemiterator", "dict_reverseitemiterator", "odict_iterator", "itertools.zip_longest", "itertools.pairwise"].contains n && vs[0]? == some (rawInt _)) = true then _ else _) Q E s
           rw [if_neg (by intro h; rw [hn, Bool.false_and] at h; cases h)]
           exact wpAny_pure hQ))
noncomputable def Itl (K : PySem.W.Frag) (a : Addr) : It :=
  ⟨fun i H => ∃ xs x, SqL K H a xs ∧ xs[i]? = some x, fun i H x H' => H' = H ∧ ∀ xs, SqL K H a xs → xs[i]? = some x, fun i H => ∃ xs, SqL K H a xs ∧ xs.length ≤ i⟩
noncomputable def Itt (K : PySem.W.Frag) (a : Addr) : It :=
  ⟨fun i H => ∃ xs x, SqT K H a xs ∧ xs[i]? = some x, fun i H x H' => H' = H ∧ ∀ xs, SqT K H a xs → xs[i]? = some x, fun i H => ∃ xs, SqT K H a xs ∧ xs.length ≤ i⟩
noncomputable def Itr (lo : Int) (n : Nat) : It := ⟨fun i _ => i < n, fun i H x H' => H' = H ∧ x = .int (lo + i), fun i _ => n ≤ i⟩
theorem turn_list {P : Program} {w : World} {K : PySem.W.Frag} {tg : Expr} (a it : Addr) : Turn P w K tg (Itl K a) [it] it (fun i h => h.IsListIter it a i) where
  mem := by simp
  obj := fun i h st b hb => by
    have e : b = it := by simpa using hb
    subst e
    obtain ⟨o, e, c, d⟩ := st
    exact ⟨o, e, fun v z => by rw [d] at z; cases z⟩
  keep := fun i h h' st k => st.at fun o e => k it (by simp) o e
  item := by
    intro X hP hw hK hc i pins s σ H E I hf st hg
    subst hP hw hK
    obtain ⟨xs, x, hq, hx⟩ := hg
    obtain ⟨its, rv, p, hz⟩ := I.list hq
    obtain ⟨u, hu, ru⟩ := rv.get hx
    obtain ⟨f0, f1, f2, f3, f4, f5⟩ := hf it (by simp)
    refine wpAny_pyNext_list_item st p.isList (x := u) (by simpa using hu) fun h' st' sb => ?_
    have I1 : Inv X pins σ H { s with heap := h' } := I.turned (t' := s.toks) (fun b o hb e => (sb.2 b hb).trans e) f0 f1 f3 f4 f5
    obtain ⟨o, e, c, d⟩ := id st'
    exact ⟨u, rfl, go_of (s := { s with heap := h' }) e c d (by decide) ⟨x, H, I1, ru, ⟨rfl, fun ys hy => by rw [I.list_inj hy hq]; exact hx⟩, st', fun b hb => (hf b hb).1⟩⟩
  done := by
    intro X hP hw hK hc i pins s σ H E I hf st hg
    subst hP hw hK
    obtain ⟨xs, hq, hx⟩ := hg
    obtain ⟨its, rv, p, hz⟩ := I.list hq
    obtain ⟨f0, f1, f2, f3, f4, f5⟩ := hf it (by simp)
    have hl := rv.length
    exact wpAny_pyNext_list_end (I.ok.hd hc) st p.isList (by simp; omega) fun h' eb => ⟨rfl, I.turned (t' := s.toks) (fun b o hb e => eb b o hb e) f0 f1 f3 f4 f5⟩
  self := fun _ _ _ _ _ st h => wpAny_pyIter_listiter st h
theorem turn_tuple {P : Program} {w : World} {K : PySem.W.Frag} {tg : Expr} (a it : Addr) : Turn P w K tg (Itt K a) [it] it (fun i h => h.IsTupleIter it a i) where
  mem := by simp
  obj := fun i h st b hb => by
    have e : b = it := by simpa using hb
    subst e
    obtain ⟨o, e, c, d⟩ := st
    exact ⟨o, e, fun v z => by rw [d] at z; cases z⟩
  keep := fun i h h' st k => st.at fun o e => k it (by simp) o e
  item := by
    intro X hP hw hK hc i pins s σ H E I hf st hg
    subst hP hw hK
    obtain ⟨xs, x, hq, hx⟩ := hg
    obtain ⟨its, rv, p, hz⟩ := I.tuple hq
    obtain ⟨u, hu, ru⟩ := rv.get hx
    obtain ⟨f0, f1, f2, f3, f4, f5⟩ := hf it (by simp)
    refine wpAny_pyNext_tuple_item st (show s.heap.IsTuple a its.toArray from p) (x := u) (by simpa using hu) fun h' st' sb => ?_
    have I1 : Inv X pins σ H { s with heap := h' } := I.turned (t' := s.toks) (fun b o hb e => (sb.2 b hb).trans e) f0 f1 f3 f4 f5
    obtain ⟨o, e, c, d⟩ := id st'
    exact ⟨u, rfl, go_of (s := { s with heap := h' }) e c d (by decide) ⟨x, H, I1, ru, ⟨rfl, fun ys hy => by rw [I.tuple_inj hy hq]; exact hx⟩, st', fun b hb => (hf b hb).1⟩⟩
  done := by
    intro X hP hw hK hc i pins s σ H E I hf st hg
    subst hP hw hK
    obtain ⟨xs, hq, hx⟩ := hg
    obtain ⟨its, rv, p, hz⟩ := I.tuple hq
    obtain ⟨f0, f1, f2, f3, f4, f5⟩ := hf it (by simp)
    have hl := rv.length
    exact wpAny_pyNext_tuple_end (I.ok.hd hc) st (show s.heap.IsTuple a its.toArray from p) (by simp; omega) fun h' eb => ⟨rfl, I.turned (t' := s.toks) (fun b o hb e => eb b o hb e) f0 f1 f3 f4 f5⟩
  self := fun _ _ _ _ _ st h => wpAny_pyIter_tupleiter st h
theorem turn_range {P : Program} {w : World} {K : PySem.W.Frag} {tg : Expr} (it : Addr) (lo : Int) (n : Nat) : Turn P w K tg (Itr lo n) [it] it (fun i h => IsRangeIter h it (lo + (i : Nat) * 1) ((n : Int) - (i : Nat)) 1) where
  mem := by simp
  obj := fun i h st b hb => by
    have e : b = it := by simpa using hb
    subst e
    exact ⟨_, st, fun v z => by
      have z' : Data.fields _ = Data.cell v := z
      cases z'⟩
  keep := fun i h h' st k => k it (by simp) _ st
  item := by
    intro X hP hw hK hc i pins s σ H E I hf st hg
    subst hP hw hK
    obtain ⟨f0, f1, f2, f3, f4, f5⟩ := hf it (by simp)
    have W := Walks.range (prog := X.prog) (w := X.w) (I.ok.hd hc) it lo 1 n
    refine W.item i s _ _ hg st fun v h' tk hv st' kk => ?_
    obtain ⟨t, rfl⟩ := hv
    have I1 : Inv X pins σ H { s with heap := h', toks := tk } := I.turned (fun b o hb e => kk b o (by simpa using hb) e) f0 f1 f3 f4 f5
    refine ⟨_, rfl, go_of (s := { s with heap := h', toks := tk }) (n := "range_iterator") st' rfl rfl (by decide) ⟨.int (lo + i), H, I1, ⟨t, ?_⟩, ⟨rfl, rfl⟩, st', fun b hb => (hf b hb).1⟩⟩
    rw [Int.mul_one]
  done := by
    intro X hP hw hK hc i pins s σ H E I hf st hg
    subst hP hw hK
    obtain ⟨f0, f1, f2, f3, f4, f5⟩ := hf it (by simp)
    exact wpAny_pyNext_range_end (I.ok.hd hc) st (by have : n ≤ i := hg; omega) fun h' eb => ⟨rfl, I.turned (t' := s.toks) (fun b o hb e => eb b o hb e) f0 f1 f3 f4 f5⟩
  self := fun _ _ _ _ _ st h => wpAny_pyIter_rangeiter st h
end L2
namespace L2
open PySem PySem.Spec PyProof.Rows
section
variable {X : Cx} {tg : Expr}
noncomputable def iList (K : PySem.W.Frag) (tl : TE) : TI := fun σ H R => tl σ H fun x H1 => ∃ a, x = .ref a ∧ (∃ xs, SqL K H1 a xs) ∧ R (Itl K a) H1
noncomputable def iTup (K : PySem.W.Frag) (tl : TE) : TI := fun σ H R => tl σ H fun x H1 => ∃ a, x = .ref a ∧ (∃ xs, SqT K H1 a xs) ∧ R (Itt K a) H1
theorem pi_list {l : Expr} {tl : TE} (hl : PE X l tl) : PI X tg l (iList X.K tl) := by
  intro pins s σ H R I h
  refine thn (hl pins s σ H _ I h) fun v s1 ⟨x, H1, I1, r1, q1⟩ => ?_
  obtain ⟨a, e, ⟨xs, hq⟩, q⟩ := q1
  subst e
  cases r1
  obtain ⟨its, rv, p, hz⟩ := I1.list hq
  refine wpAny_pyIter_list p.isList ?_
  refine ⟨s1.heap.objs.size, [s1.heap.objs.size], _, _, H1, rfl, I1.kept (t' := s1.toks) fun b o e => Heap.get?_push_of_some _ e, turn_list a _, ⟨_, Heap.get?_push_size _ rfl, rfl, rfl⟩, fun b hb => ?_, q⟩
  have e : b = s1.heap.objs.size := by simpa using hb
  subst e
  exact I1.fpOk (Nat.le_refl _) (I1.hok.fresh (Nat.le_refl _))
theorem pi_tup {l : Expr} {tl : TE} (hl : PE X l tl) : PI X tg l (iTup X.K tl) := by
  intro pins s σ H R I h
  refine thn (hl pins s σ H _ I h) fun v s1 ⟨x, H1, I1, r1, q1⟩ => ?_
  obtain ⟨a, e, ⟨xs, hq⟩, q⟩ := q1
  subst e
  cases r1
  obtain ⟨its, rv, p, hz⟩ := I1.tuple hq
  refine wpAny_pyIter_tuple (show s1.heap.IsTuple a its.toArray from p) ?_
  refine ⟨s1.heap.objs.size, [s1.heap.objs.size], _, _, H1, rfl, I1.kept (t' := s1.toks) fun b o e => Heap.get?_push_of_some _ e, turn_tuple a _, ⟨_, Heap.get?_push_size _ rfl, rfl, rfl⟩, fun b hb => ?_, q⟩
  have e : b = s1.heap.objs.size := by simpa using hb
  subst e
  exact I1.fpOk (Nat.le_refl _) (I1.hok.fresh (Nat.le_refl _))
theorem range_it {pins : List (Addr × Obj)} {σ : St} {H : Hp} {s : Shared} {R : It → Hp → Prop} {E : Value → Shared → Prop} {lo hi : Int} {t u v : Tok} {tk : Nat} (I : Inv X pins σ H s) (h1 : -(2 ^ 62) ≤ lo) (h2 : lo < 2 ^ 62) (h3 : -(2 ^ 62) ≤ hi) (h4 : hi < 2 ^ 62)
    (q : R (Itr lo (hi - lo).toNat) H) : wpAny (model X.prog X.w) X.A (pyIter (.ref s.heap.objs.size)) (PIE X pins σ tg R) E { s with heap := s.heap.push { cls := .type "range", data := .fields #[.int lo t, .int hi u, .int 1 v] }, toks := tk } := by
  refine wpAny_pyIter_range (IsRange.new ..) (small_one h1 h2 h3 h4) ?_
  have I1 : Inv X pins σ H { s with heap := s.heap.push { cls := .type "range", data := .fields #[.int lo t, .int hi u, .int 1 v] }, toks := tk } := I.kept fun b o e => Heap.get?_push_of_some _ e
  refine ⟨(s.heap.push { cls := .type "range", data := .fields #[.int lo t, .int hi u, .int 1 v] }).objs.size, [(s.heap.push { cls := .type "range", data := .fields #[.int lo t, .int hi u, .int 1 v] }).objs.size], _, _, H, rfl,
    I1.kept (t' := tk) fun b o e => Heap.get?_push_of_some _ e, turn_range _ lo (hi - lo).toNat, ?_, fun b hb => ?_, q⟩
  · have e1 : lo + ((0 : Nat) : Int) * 1 = lo := by simp
    have e2 : (((hi - lo).toNat : Nat) : Int) - ((0 : Nat) : Int) = Builtin.Range.rangeSize lo hi 1 := by rw [rangeSize_one]; split <;> omega
    show IsRangeIter _ _ (lo + ((0 : Nat) : Int) * 1) ((((hi - lo).toNat : Nat) : Int) - ((0 : Nat) : Int)) 1
    rw [e1, e2]
    exact Heap.get?_push_size _ rfl
  · have e : b = (s.heap.push { cls := .type "range", data := .fields #[.int lo t, .int hi u, .int 1 v] }).objs.size := by simpa using hb
    subst e
    exact I1.fpOk (Nat.le_refl _) (I1.hok.fresh (Nat.le_refl _))
noncomputable def iRng1 (ta : TA) : TI := fun σ H R => ta σ H fun vs H1 => ∃ j : Int, vs = [.int j] ∧ -(2 ^ 62) ≤ j ∧ j < 2 ^ 62 ∧ R (Itr 0 j.toNat) H1
noncomputable def iRng2 (ta : TA) : TI := fun σ H R => ta σ H fun vs H1 => ∃ i j : Int, vs = [.int i, .int j] ∧ (-(2 ^ 62) ≤ i ∧ i < 2 ^ 62 ∧ -(2 ^ 62) ≤ j ∧ j < 2 ^ 62) ∧ R (Itr i (j - i).toNat) H1
theorem pi_range1 {a : Expr} {ta : TA} {p pos : Pos} (hg : Gl X "range") (hm : X.mg "range" = none) (ha : PA X [a] ta) (hs : starEach [a] X.env = [(false, eval a X.env)] := by rfl) : PI X tg (.Call (.Name "range" p) [a] [] pos) (iRng1 ta) := by
  intro pins s σ H R I h
  refine Call_ (ld_blt I hg hm boot_range (PyProof.Rows.callWith_type1 (thn (ha pos pins s σ H _ I h) fun us s1 ⟨vs, H1, I1, r1, q1⟩ => ?_) hs rfl))
  obtain ⟨j, e, q1, q2, q⟩ := q1
  subst e
  cases r1 with
  | cons r rr =>
    cases rr
    obtain ⟨t, rfl⟩ := r
    exact call_range_1 (range_it I1 (by omega) (by omega) q1 q2 (by simpa using q))
noncomputable def tFor (wi : TI) (g : TG) (tb : TS) : TS := fun D σ H => wi σ H fun J H1 => ∃ W : Nat → Nat → St → Hp → Prop, (∃ m, W 0 m σ H1) ∧ ∀ i m σ H, W i m σ H →
  (J.stop i H ∧ D.nx σ H) ∨ (J.go i H ∧ ∃ N : St → Hp → Prop, (∀ σ' H', N σ' H' → ∃ m', m' < m ∧ W (i + 1) m' σ' H') ∧ ∀ x H', J.yld i H x H' → g x σ H' fun σ2 H2 => tb { D with nx := N, ct := N, bk := D.nx } σ2 H2)
noncomputable def pinsAt (fp : List Addr) (h : Heap) : List (Addr × Obj) := fp.filterMap fun b => (h.get? b).map fun o => (b, o)
theorem mem_pinsAt {fp : List Addr} {h : Heap} {b : Addr} {o : Obj} (hb : b ∈ fp) (e : h.get? b = some o) : (b, o) ∈ pinsAt fp h := List.mem_filterMap.mpr ⟨b, hb, by rw [e]; rfl⟩
theorem of_pinsAt {fp : List Addr} {h : Heap} {p : Addr × Obj} (hp : p ∈ pinsAt fp h) : p.1 ∈ fp ∧ h.get? p.1 = some p.2 := by
  obtain ⟨b, hb, e⟩ := List.mem_filterMap.mp hp
  cases q : h.get? b with
  | none => rw [q] at e; cases e
  | some o =>
    rw [q] at e
    have e' : (b, o) = p := Option.some.inj e
    subst e'
    exact ⟨hb, q⟩
theorem Inv.pinned {pins : List (Addr × Obj)} {σ : St} {H : Hp} {s : Shared} {fp : List Addr} (I : Inv X pins σ H s) (hf : ∀ b ∈ fp, FpOk X pins H b) (ho : ∀ b ∈ fp, ∃ o, s.heap.get? b = some o ∧ ∀ v, o.data ≠ .cell v) : Inv X (pins ++ pinsAt fp s.heap) σ H s :=
  I.pins_of fun p hp => (List.mem_append.mp hp).elim (fun z => I.pin p (List.mem_append_right _ z)) fun z => by
    obtain ⟨hb, e⟩ := of_pinsAt z
    obtain ⟨f0, f1, f2, _⟩ := hf p.1 hb
    obtain ⟨o, e', d⟩ := ho p.1 hb
    rw [e] at e'; cases e'
    exact ⟨e, f0, f1, f2, d⟩
theorem Inv.unpinned {pins pl : List (Addr × Obj)} {σ : St} {H : Hp} {s : Shared} (I : Inv X (pins ++ pl) σ H s) : Inv X pins σ H s := I.pins_of fun p hp => I.pin p (List.mem_append_right _ (List.mem_append_left _ hp))
theorem ps_for {iter : Expr} {body : List Stmt} {wi : TI} {g : TG} {tb : TS} {pos : Pos} (hp : PassesOwn (model X.prog X.w) X.A X.env X.xe) (hc : X.calm = true) (hi : PI X tg iter wi) (hg : PG X tg g) (hb : PSs X body tb)
    (hs : ∀ x, foldedSetIterable iter X.env x = pure x := by intro _; rfl) : PS X (.For tg iter body [] pos) (tFor wi g tb) := by
  intro pins s σ H D I h
  refine wpAny_For (thn (hi pins s σ H _ I h) fun v s1 h1 => thn h1 fun itv s2 h2 => ?_) hs
  obtain ⟨it, fp, tn, J, H2, e, I2, T, st2, f2, W, ⟨m0, w0⟩, turn⟩ := h2
  subst e
  have stat : ∀ {H' : Hp}, (∀ b ∈ fp, H' b = none) → ∀ b ∈ fp, FpOk X pins H' b := fun hn b hb => ⟨hn b hb, (f2 b hb).2⟩
  refine codeAny_forLoop_any (fun n s' => ∃ i σ' H', Inv X pins σ' H' s' ∧ tn i s'.heap ∧ (∀ b ∈ fp, H' b = none) ∧ W i n σ' H') ?_ m0 ⟨0, σ, H2, I2, st2, fun b hb => (f2 b hb).1, w0⟩
  rintro n s3 ⟨i, σ3, H3, I3, st3, fr3, w3⟩
  rcases turn i n σ3 H3 w3 with ⟨stop, qn⟩ | ⟨go, N, hN, step⟩
  · refine wpAny_passesOwn hp (thn (T.done X rfl rfl rfl hc i pins s3 σ3 H3 X.xe I3 (stat fr3) st3 stop) fun r s4 ⟨hr, I4⟩ => ?_)
    subst hr
    exact wpAny_execs_nil ⟨σ3, H3, I4, qn⟩
  · refine wpAny_passesOwn hp (thn (T.item X rfl rfl rfl hc i pins s3 σ3 H3 X.xe I3 (stat fr3) st3 go) fun r s4 ⟨u, hr, h4⟩ => ?_)
    subst hr
    refine wpAny_passesOwn hp (thn h4 fun _ s5 ⟨x, H5, I5, r5, y5, st5, fr5⟩ => ?_)
    have I5' := I5.pinned (stat fr5) (T.obj _ _ st5)
    refine wpAny_passesOwn hp (thn (hg _ s5 σ3 H5 x u _ I5' r5 (step x H5 y5)) fun _ s6 ⟨σ6, H6, I6, q6⟩ => ?_)
    refine wpAny_passesOwn hp (thn (hb _ s6 σ6 H6 _ I6 q6) fun f s7 q7 => ?_)
    have again : ∀ {σ7 : St} {H7 : Hp}, Inv X (pins ++ pinsAt fp s5.heap) σ7 H7 s7 → N σ7 H7 → ∃ m, m < n ∧ ∃ i σ' H', Inv X pins σ' H' s7 ∧ tn i s7.heap ∧ (∀ b ∈ fp, H' b = none) ∧ W i m σ' H' := fun {σ7 H7} I7 n7 => by
      obtain ⟨m', hm, w7⟩ := hN σ7 H7 n7
      refine ⟨m', hm, i + 1, σ7, H7, I7.unpinned, T.keep _ _ _ st5 fun b hb o e => (I7.pin (b, o) (List.mem_append_right _ (List.mem_append_right _ (mem_pinsAt hb e)))).1, fun b hb => ?_, w7⟩
      obtain ⟨o, e, d⟩ := T.obj _ _ st5 b hb
      exact (I7.pin (b, o) (List.mem_append_right _ (List.mem_append_right _ (mem_pinsAt hb e)))).2.1
    cases f with
    | next => obtain ⟨σ7, H7, I7, n7⟩ := q7; exact again I7 n7
    | cont => obtain ⟨σ7, H7, I7, n7⟩ := q7; exact again I7 n7
    | brk => obtain ⟨σ7, H7, I7, q7⟩ := q7; exact ⟨σ7, H7, I7.unpinned, q7⟩
    | ret v => obtain ⟨x7, σ7, H7, I7, r7, q7⟩ := q7; exact ⟨x7, σ7, H7, I7.unpinned, r7, q7⟩
end
end L2
namespace L2
open PySem PySem.Spec PyProof.Rows
noncomputable abbrev R2 := V → V → Hp → VK → Prop
noncomputable def OpR (X : Cx) (f : Value → Value → Sem Value) (r : R2) : Prop :=
  ∀ (pins : List (Addr × Obj)) (s : Shared) (σ : St) (H : Hp) (x y : V) (v u : Value) (Q : VK), Inv X pins σ H s → RelV x v → RelV y u → r x y H Q →
    wpAny (model X.prog X.w) X.A (f v u) (EP X pins σ Q) X.xe s
noncomputable def CallR (X : Cx) (f : Value) (r : List V → Hp → VK → Prop) : Prop :=
  ∀ (pins : List (Addr × Obj)) (s : Shared) (σ : St) (H : Hp) (xs : List V) (us : List Value) (Q : VK), Inv X pins σ H s → Vals xs us → r xs H Q →
    wpAny (model X.prog X.w) X.A (call f us) (EP X pins σ Q) X.xe s
noncomputable def TruR (X : Cx) (r : V → Hp → (Bool → Hp → Prop) → Prop) : Prop :=
  ∀ (pins : List (Addr × Obj)) (s : Shared) (σ : St) (H : Hp) (x : V) (v : Value) (Q : Bool → Hp → Prop), Inv X pins σ H s → RelV x v → r x H Q →
    wpAny (model X.prog X.w) X.A (truthy v) (TP X pins σ Q) X.xe s
noncomputable def tOp (r : R2) (ta tb : TE) : TE := fun σ H Q => ta σ H fun x H1 => tb σ H1 fun y H2 => r x y H2 Q
noncomputable def tUn (r : V → Hp → VK → Prop) (ta : TE) : TE := fun σ H Q => ta σ H fun x H1 => r x H1 Q
noncomputable def rI (C : Int → Int → Prop) (g : Int → Int → V) : R2 := fun x y H Q => ∃ i j, x = .int i ∧ y = .int j ∧ C i j ∧ Q (g i j) H
noncomputable def rI0 (g : Int → Int → V) : R2 := fun x y H Q => ∃ i j, x = .int i ∧ y = .int j ∧ Q (g i j) H
section
variable {X : Cx} {a b c : Expr} {ta tb tc : TE} {pos : Pos}
theorem binT (ha : PE X a ta) (hb : PE X b tb) {pins : List (Addr × Obj)} {s : Shared} {σ : St} {H : Hp} {R : V → V → Hp → Prop} (I : Inv X pins σ H s)
    (h : ta σ H fun x H1 => tb σ H1 fun y H2 => R x y H2) {Q : Value → Shared → Prop} {f : Value → Value → Sem Value}
    (hf : ∀ v u s2 x y H2, Inv X pins σ H2 s2 → RelV x v → RelV y u → R x y H2 → wpAny (model X.prog X.w) X.A (f v u) Q X.xe s2) :
    wpAny (model X.prog X.w) X.A (eval a X.env) (fun v s₁ => wpAny (model X.prog X.w) X.A (eval b X.env) (fun u s₂ => wpAny (model X.prog X.w) X.A (f v u) Q X.xe s₂) X.xe s₁) X.xe s := by
  refine thn (ha pins s σ H _ I h) fun v s1 ⟨x, H1, I1, r1, q1⟩ => ?_
  refine thn (hb pins s1 σ H1 _ I1 q1) fun u s2 ⟨y, H2, I2, r2, q2⟩ => ?_
  exact hf v u s2 x y H2 I2 r1 r2 q2
theorem pe_op {op : Operator} {r : R2} (ho : OpR X (binaryOp op) r) (ha : PE X a ta) (hb : PE X b tb) : PE X (.BinOp a op b pos) (tOp r ta tb) := by
  intro pins s σ H Q I h
  exact wpAny_BinOp (binT ha hb I h fun v u s2 x y H2 I2 rx ry q => ho pins s2 σ H2 x y v u Q I2 rx ry q)
theorem opI {f : Value → Value → Sem Value} {C : Int → Int → Prop} {g : Int → Int → Int}
    (rule : ∀ (i j : Int) (t u : Tok) (s : Shared) (Q : Value → Shared → Prop) (E : Value → Shared → Prop), C i j → Q (.int (g i j) s.toks) { s with toks := s.toks + 1 } → wpAny (model X.prog X.w) X.A (f (.int i t) (.int j u)) Q E s) :
    OpR X f (rI C fun i j => .int (g i j)) := by
  intro pins s σ H x y v u Q I rx ry h
  obtain ⟨i, j, rfl, rfl, hc, q⟩ := h
  obtain ⟨t, rfl⟩ := rx
  obtain ⟨t', rfl⟩ := ry
  exact rule i j t t' s _ _ hc ⟨.int (g i j), H, I.tok _, ⟨_, rfl⟩, q⟩
theorem opI0 {f : Value → Value → Sem Value} {g : Int → Int → Int}
    (rule : ∀ (i j : Int) (t u : Tok) (s : Shared) (Q : Value → Shared → Prop) (E : Value → Shared → Prop), Q (.int (g i j) s.toks) { s with toks := s.toks + 1 } → wpAny (model X.prog X.w) X.A (f (.int i t) (.int j u)) Q E s) :
    OpR X f (rI0 fun i j => .int (g i j)) := by
  intro pins s σ H x y v u Q I rx ry h
  obtain ⟨i, j, rfl, rfl, q⟩ := h
  obtain ⟨t, rfl⟩ := rx
  obtain ⟨t', rfl⟩ := ry
  exact rule i j t t' s _ _ ⟨.int (g i j), H, I.tok _, ⟨_, rfl⟩, q⟩
theorem opB0 {f : Value → Value → Sem Value} {g : Int → Int → Bool}
    (rule : ∀ (i j : Int) (t u : Tok) (s : Shared) (Q : Value → Shared → Prop) (E : Value → Shared → Prop), Q (.bool (g i j)) s → wpAny (model X.prog X.w) X.A (f (.int i t) (.int j u)) Q E s) :
    OpR X f (rI0 fun i j => .bl (g i j)) := by
  intro pins s σ H x y v u Q I rx ry h
  obtain ⟨i, j, rfl, rfl, q⟩ := h
  obtain ⟨t, rfl⟩ := rx
  obtain ⟨t', rfl⟩ := ry
  exact rule i j t t' s _ _ ⟨.bl (g i j), H, I, rfl, q⟩
noncomputable def CDiv (i j : Int) : Prop := 0 < j ∧ j < 1073741824
noncomputable def CMul (i j : Int) : Prop := (-(2 ^ 64) < i ∧ i < 2 ^ 64) ∨ (-(2 ^ 64) < j ∧ j < 2 ^ 64)
theorem CMul.ok {i j : Int} (h : CMul i j) : IntMulOk i j := by
  rcases h with ⟨h1, h2⟩ | ⟨h1, h2⟩
  · exact .of_left (intBits_le_64 h1 h2)
  · exact .of_right (intBits_le_64 h1 h2)
theorem op_add : OpR X (binaryOp .Add) (rI0 fun i j => .int (i + j)) := opI0 fun _ _ _ _ _ _ _ q => add_int q
theorem op_sub : OpR X (binaryOp .Sub) (rI0 fun i j => .int (i - j)) := opI0 fun _ _ _ _ _ _ _ q => sub_int q
theorem op_fdiv : OpR X (binaryOp .FloorDiv) (rI CDiv fun i j => .int (i / j)) := opI fun i j _ _ _ _ _ hc q => by
  have h1 : (0 : Int) < j := hc.1
  have h2 : j < 1073741824 := hc.2
  exact floordiv_int (by omega) (by rw [Int.fdiv_eq_ediv_of_nonneg i (by omega)]; exact q) (.inl (PyProof.noPylong_small (by omega)))
theorem op_mod : OpR X (binaryOp .Mod) (rI (fun _ j => 0 < j) fun i j => .int (i % j)) := opI fun i j _ _ _ _ _ hc q => by
  have h1 : (0 : Int) < j := hc
  exact mod_int' (by omega) (by rw [Int.fmod_eq_emod_of_nonneg i (by omega)]; exact q)
end
noncomputable def scal : V → V → Bool
  | .non, .non => true | .non, .int _ => true | .int _, .non => true | .non, .bl _ => true | .bl _, .non => true | .non, .str _ => true | .str _, .non => true
  | .int _, .int _ => true | .bl _, .bl _ => true | .str _, .str _ => true | .byt _, .byt _ => true
  | .int _, .str _ => true | .str _, .int _ => true | .bl _, .str _ => true | .str _, .bl _ => true
  | _, _ => false
noncomputable def rEq : R2 := fun x y H Q => scal x y = true ∧ Q (.bl (decide (x = y))) H
noncomputable def rNe : R2 := fun x y H Q => scal x y = true ∧ Q (.bl (!decide (x = y))) H
theorem dec_int {i j : Int} : decide (V.int i = V.int j) = (i == j) := by
  rw [Bool.eq_iff_iff]
  simp
theorem dec_bl {i j : Bool} : decide (V.bl i = V.bl j) = (i == j) := by
  rw [Bool.eq_iff_iff]
  simp
theorem dec_str {i j : Str} : decide (V.str i = V.str j) = (i == j) := by
  rw [Bool.eq_iff_iff]
  simp
theorem dec_byt {i j : Array UInt8} : decide (V.byt i = V.byt j) = (i.toList == j.toList) := by
  rw [Bool.eq_iff_iff]
  cases i
  cases j
  simp
section
variable {X : Cx} {a b c : Expr} {ta tb tc : TE} {pos : Pos}
theorem fin_bl {pins : List (Addr × Obj)} {σ : St} {H : Hp} {s : Shared} {Q : VK} {k k' : Bool} (I : Inv X pins σ H s) (q : Q (.bl k) H) (e : k = k') : EP X pins σ Q (.bool k') s := by
  subst e
  exact ⟨.bl k, H, I, rfl, q⟩
theorem op_eq : OpR X (compareOp .Eq) rEq := by
  intro pins s σ H x y v u Q I rx ry h
  obtain ⟨hs, q⟩ := h
  cases x with
  | non =>
    cases rx
    cases y with
    | non => cases ry; exact PySem.EqNone.eq_none_none (fin_bl I q (by simp))
    | bl j => cases ry; exact PySem.EqNone.eq_none_bool (fin_bl I q (by simp))
    | int j => obtain ⟨t', rfl⟩ := ry; exact PySem.EqNone.eq_none_int (fin_bl I q (by simp))
    | str j => obtain ⟨t', rfl⟩ := ry; exact PySem.EqNone.eq_none_str (fin_bl I q (by simp))
    | _ => exact absurd (show false = true from hs) Bool.false_ne_true
  | bl i =>
    cases rx
    cases y with
    | non => cases ry; exact PySem.EqNone.eq_bool_none (fin_bl I q (by simp))
    | bl j => cases ry; exact eq_bool (fin_bl I q dec_bl)
    | str j => obtain ⟨t', rfl⟩ := ry; exact PySem.EqMixed.eq_bool_str (fin_bl I q (by simp))
    | _ => exact absurd (show false = true from hs) Bool.false_ne_true
  | int i =>
    obtain ⟨t, rfl⟩ := rx
    cases y with
    | non => cases ry; exact PySem.EqNone.eq_int_none (fin_bl I q (by simp))
    | int j => obtain ⟨t', rfl⟩ := ry; exact eq_int (fin_bl I q dec_int)
    | str j => obtain ⟨t', rfl⟩ := ry; exact PySem.EqMixed.eq_int_str (fin_bl I q (by simp))
    | _ => exact absurd (show false = true from hs) Bool.false_ne_true
  | str i =>
    obtain ⟨t, rfl⟩ := rx
    cases y with
    | non => cases ry; exact PySem.EqNone.eq_str_none (fin_bl I q (by simp))
    | bl j => cases ry; exact PySem.EqMixed.eq_str_bool (fin_bl I q (by simp))
    | int j => obtain ⟨t', rfl⟩ := ry; exact PySem.EqMixed.eq_str_int (fin_bl I q (by simp))
    | str j => obtain ⟨t', rfl⟩ := ry; exact eq_str (fin_bl I q dec_str)
    | _ => exact absurd (show false = true from hs) Bool.false_ne_true
  | byt i =>
    obtain ⟨t, rfl⟩ := rx
    cases y with
    | byt j => obtain ⟨t', rfl⟩ := ry; exact PySem.W.eq_bytes (fin_bl I q dec_byt)
    | _ => exact absurd (show false = true from hs) Bool.false_ne_true
  | _ => cases y <;> exact absurd (show false = true from hs) Bool.false_ne_true
theorem op_ne : OpR X (compareOp .NotEq) rNe := by
  intro pins s σ H x y v u Q I rx ry h
  obtain ⟨hs, q⟩ := h
  cases x with
  | non =>
    cases rx
    cases y with
    | non => cases ry; exact PySem.EqNone.ne_none_none (fin_bl I q (by simp))
    | bl j => cases ry; exact PySem.EqNone.ne_none_bool (fin_bl I q (by simp))
    | int j => obtain ⟨t', rfl⟩ := ry; exact PySem.EqNone.ne_none_int (fin_bl I q (by simp))
    | str j => obtain ⟨t', rfl⟩ := ry; exact PySem.EqNone.ne_none_str (fin_bl I q (by simp))
    | _ => exact absurd (show false = true from hs) Bool.false_ne_true
  | bl i =>
    cases rx
    cases y with
    | non => cases ry; exact PySem.EqNone.ne_bool_none (fin_bl I q (by simp))
    | bl j => cases ry; exact ne_bool (fin_bl I q (congrArg not dec_bl))
    | str j => obtain ⟨t', rfl⟩ := ry; exact PySem.EqMixed.ne_bool_str (fin_bl I q (by simp))
    | _ => exact absurd (show false = true from hs) Bool.false_ne_true
  | int i =>
    obtain ⟨t, rfl⟩ := rx
    cases y with
    | non => cases ry; exact PySem.EqNone.ne_int_none (fin_bl I q (by simp))
    | int j => obtain ⟨t', rfl⟩ := ry; exact ne_int (fin_bl I q (congrArg not dec_int))
    | str j => obtain ⟨t', rfl⟩ := ry; exact PySem.EqMixed.ne_int_str (fin_bl I q (by simp))
    | _ => exact absurd (show false = true from hs) Bool.false_ne_true
  | str i =>
    obtain ⟨t, rfl⟩ := rx
    cases y with
    | non => cases ry; exact PySem.EqNone.ne_str_none (fin_bl I q (by simp))
    | bl j => cases ry; exact PySem.EqMixed.ne_str_bool (fin_bl I q (by simp))
    | int j => obtain ⟨t', rfl⟩ := ry; exact PySem.EqMixed.ne_str_int (fin_bl I q (by simp))
    | str j => obtain ⟨t', rfl⟩ := ry; exact ne_str (fin_bl I q (congrArg not dec_str))
    | _ => exact absurd (show false = true from hs) Bool.false_ne_true
  | byt i =>
    obtain ⟨t, rfl⟩ := rx
    cases y with
    | byt j => obtain ⟨t', rfl⟩ := ry; exact PySem.W.ne_bytes (fin_bl I q (congrArg not dec_byt))
    | _ => exact absurd (show false = true from hs) Bool.false_ne_true
  | _ => cases y <;> exact absurd (show false = true from hs) Bool.false_ne_true
theorem op_lt : OpR X (compareOp .Lt) (rI0 fun i j => .bl (decide (i < j))) := opB0 fun _ _ _ _ _ _ _ q => lt_int q
theorem op_le : OpR X (compareOp .LtE) (rI0 fun i j => .bl (decide (i ≤ j))) := opB0 fun _ _ _ _ _ _ _ q => le_int q
theorem op_gt : OpR X (compareOp .Gt) (rI0 fun i j => .bl (decide (j < i))) := opB0 fun _ _ _ _ _ _ _ q => gt_int q
theorem op_in_str : OpR X (compareOp .In) (fun x y H Q => ∃ i j, x = .str i ∧ y = .str j ∧ Q (.bl (!(Builtin.Str.occurrences j i 0 j.length 1).isEmpty)) H) := by
  intro pins s σ H x y v u Q I rx ry h
  obtain ⟨i, j, rfl, rfl, q⟩ := h
  obtain ⟨t, rfl⟩ := rx
  obtain ⟨t', rfl⟩ := ry
  exact in_str (fin_bl I q rfl)
theorem op_notN : OpR X (compareOp .IsNot) (fun x y H Q => y = .non ∧ Q (.bl (!decide (x = .non))) H) := by
  intro pins s σ H x y v u Q I rx ry h
  obtain ⟨rfl, q⟩ := h
  cases ry
  refine isnot_none_gen (fin_bl I q ?_)
  cases x <;> first
    | (cases rx; rfl)
    | (obtain ⟨t, rfl⟩ := rx; rfl)
theorem OpR.or {f : Value → Value → Sem Value} {r r' : R2} (h : OpR X f r) (h' : OpR X f r') : OpR X f (fun x y H Q => r x y H Q ∨ r' x y H Q) := by
  intro pins s σ H x y v u Q I rx ry q
  rcases q with q | q
  · exact h pins s σ H x y v u Q I rx ry q
  · exact h' pins s σ H x y v u Q I rx ry q
theorem nomark (b : Expr) {op : CmpOp} (h : op ≠ .In := by decide) (h2 : op ≠ .NotIn := by decide) : behindInMarks op b = false := by
  have e1 : (op == CmpOp.In) = false := by cases op <;> first | rfl | exact absurd rfl h
  have e2 : (op == CmpOp.NotIn) = false := by cases op <;> first | rfl | exact absurd rfl h2
  cases b <;> simp [behindInMarks, e1, e2]
theorem pe_cmpR {op : CmpOp} {r : R2} (ho : OpR X (compareOp op) r) (ha : PE X a ta) (hb : PE X b tb) (hm : behindInMarks op b = false) : PE X (.Compare a [op] [b] pos) (tOp r ta tb) := by
  intro pins s σ H Q I h
  exact wpAny_Compare1 (binT ha hb I h fun v u s2 x y H2 I2 rx ry q => ho pins s2 σ H2 x y v u Q I2 rx ry q) hm
noncomputable def tTest (t : TE) : TT := fun σ H Q => t σ H fun x H' => ∃ k, x = .bl k ∧ Q k H'
theorem pt_cmpR {op : CmpOp} {r : R2} (ho : OpR X (compareOp op) r) (ha : PE X a ta) (hb : PE X b tb) (hm : behindInMarks op b = false) : PT X (.Compare a [op] [b] pos) (tTest (tOp r ta tb)) := by
  intro pins s σ H Q I h
  refine wpAny_isTrue_Compare1 (thn (ha pins s σ H _ I h) fun v s1 ⟨x, H1, I1, r1, q1⟩ => thn (hb pins s1 σ H1 _ I1 q1) fun u s2 ⟨y, H2, I2, r2, q2⟩ =>
    thn (ho pins s2 σ H2 x y v u _ I2 r1 r2 q2) fun c s3 ⟨z, H3, I3, r3, k, e, q3⟩ => ?_) hm
  subst e
  cases r3
  exact wpAny_truthy_bool ⟨H3, I3, q3⟩
noncomputable def tChain (r r' : R2) (ta tb tc : TE) : TE := fun σ H Q => ta σ H fun x H1 => tb σ H1 fun y H2 => r x y H2 fun z H3 => ∃ k, z = .bl k ∧
  (if k = true then tc σ H3 fun w' H4 => r' y w' H4 Q else Q (.bl false) H3)
theorem pt_chain {op op' : CmpOp} {r r' : R2} (ho : OpR X (compareOp op) r) (ho' : OpR X (compareOp op') r') (ha : PE X a ta) (hb : PE X b tb) (hc : PE X c tc)
    (hm : lastMarks [op, op'] [b, c] = false := by with_unfolding_all rfl) : PT X (.Compare a [op, op'] [b, c] pos) (tTest (tChain r r' ta tb tc)) := by
  intro pins s σ H Q I h
  refine isTrue_chain (thn (ha pins s σ H _ I h) fun v s1 ⟨x, H1, I1, r1, q1⟩ => test_link (thn (hb pins s1 σ H1 _ I1 q1) fun u s2 ⟨y, H2, I2, r2, q2⟩ =>
    thn (ho pins s2 σ H2 x y v u _ I2 r1 r2 q2) fun d s3 ⟨z, H3, I3, r3, k, e, q3⟩ => ?_)) hm
  subst e
  cases r3
  refine wpAny_truthy_bool ?_
  cases k with
  | false =>
    obtain ⟨k', e', q'⟩ := q3
    cases e'
    exact ite_ff ⟨H3, I3, q'⟩
  | true =>
    refine ite_tt (test_last (thn (hc pins s3 σ H3 _ I3 q3) fun w' s4 ⟨z', H4, I4, r4, q4⟩ => thn (ho' pins s4 σ H4 y z' u w' _ I4 r2 r4 q4) fun d' s5 ⟨z2, H5, I5, r5, k2, e2, q5⟩ => ?_))
    subst e2
    cases r5
    exact wpAny_truthy_bool ⟨H5, I5, q5⟩
noncomputable def TruV (K : PySem.W.Frag) (x : V) (H : Hp) (k : Bool) : Prop :=
  match x with
  | .non => k = false
  | .bl b => k = b
  | .int i => k = (i != 0)
  | .str y => y.length ≤ sizeLine ∧ k = ((y.length : Int) != 0)
  | .byt y => y.size ≤ sizeLine ∧ k = ((y.size : Int) != 0)
  | .ref p => (∃ xs, SqL K H p xs ∧ k = !xs.isEmpty) ∨ (∃ xs, SqT K H p xs ∧ k = !xs.isEmpty) ∨ ∃ kvs, H p = some (.dK kvs) ∧ k = !kvs.isEmpty
  | _ => False
theorem isEmpty_kv {κ : Type} {kvs : List (κ × V)} {vs : List (κ × Value)} (r : KV kvs vs) : (!vs.isEmpty) = !kvs.isEmpty := by
  cases r <;> rfl
theorem isEmpty_of {xs : List V} {its : List Value} (r : Vals xs its) : (!its.toArray.isEmpty) = !xs.isEmpty := by
  cases r <;> simp
theorem line63 : (sizeLine : Nat) < 2 ^ 63 := by rw [sizeLine_eq]; decide
theorem tru_ok : TruR X (fun x H Q => ∃ k, TruV X.K x H k ∧ Q k H) := by
  intro pins s σ H x v Q I rx h
  obtain ⟨k, e, q⟩ := h
  have hl := line63
  have hs : sizeLine = 16777216 := sizeLine_eq
  cases x with
  | non =>
    cases rx
    have e' : k = false := e
    subst e'
    exact truthy_none ⟨H, I, q⟩
  | bl b =>
    cases rx
    have e' : k = b := e
    subst e'
    exact wpAny_truthy_bool ⟨H, I, q⟩
  | int i =>
    obtain ⟨t, rfl⟩ := rx
    have e' : k = (i != 0) := e
    subst e'
    exact PySem.P.truthy_int ⟨H, I, q⟩
  | str y =>
    obtain ⟨t, rfl⟩ := rx
    obtain ⟨hy, e'⟩ : y.length ≤ sizeLine ∧ k = ((y.length : Int) != 0) := e
    subst e'
    exact PySem.P.truthy_str (by omega) ⟨H, I.tok _, q⟩
  | byt y =>
    obtain ⟨t, rfl⟩ := rx
    obtain ⟨hy, e'⟩ : y.size ≤ sizeLine ∧ k = ((y.size : Int) != 0) := e
    subst e'
    exact PySem.W.truthy_bytes (by omega) ⟨H, I.tok _, q⟩
  | ref p =>
    cases rx
    have e' : (∃ xs, SqL X.K H p xs ∧ k = !xs.isEmpty) ∨ (∃ xs, SqT X.K H p xs ∧ k = !xs.isEmpty) ∨ ∃ kvs, H p = some (.dK kvs) ∧ k = !kvs.isEmpty := e
    rcases e' with ⟨xs, hx, e'⟩ | ⟨xs, hx, e'⟩ | ⟨kvs, hx, e'⟩
    · subst e'
      obtain ⟨its, r, pl, hz⟩ := I.list hx
      have hlen := r.length
      exact wpAny_truthy_list pl.isList (by simp only [List.size_toArray]; omega) ⟨H, I.tok _, by rw [isEmpty_of r]; exact q⟩
    · subst e'
      obtain ⟨its, r, pl, hz⟩ := I.tuple hx
      have hlen := r.length
      exact truthy_tuple pl (by simp only [List.size_toArray]; omega) ⟨H, I.tok _, by rw [isEmpty_of r]; exact q⟩
    · subst e'
      obtain ⟨hz, hS, vs, r, m⟩ : kvs.length ≤ sizeLine ∧ (p == sysModules) = false ∧ ∃ vs, KV kvs vs ∧ s.heap.DictOf (mixKind X.prog X.w) p vs := I.hok p _ hx
      have hlen : kvs.length = vs.length := Paired.length r
      exact wpAny_truthy_dict hS m (by omega) ⟨H, I.tok _, by rw [isEmpty_kv r]; exact q⟩
  | _ => exact (show False from e).elim
theorem op_add_str : OpR X (binaryOp .Add) (fun x y H Q => ∃ i j, x = .str i ∧ y = .str j ∧ i.length + j.length ≤ sizeLine ∧ Q (.str (i ++ j)) H) := by
  intro pins s σ H x y v u Q I rx ry h
  obtain ⟨i, j, rfl, rfl, hz, q⟩ := h
  obtain ⟨t, rfl⟩ := rx
  obtain ⟨t', rfl⟩ := ry
  exact add_str (fun t' tk => ⟨.str (i ++ j), H, I.tok _, ⟨_, rfl⟩, q⟩) hz
theorem vals1 {x : V} {us : List Value} (r : Vals [x] us) : ∃ u, us = [u] ∧ RelV x u := by
  cases r with
  | cons r1 r2 => cases r2; exact ⟨_, rfl, r1⟩
theorem vals2 {x y : V} {us : List Value} (r : Vals [x, y] us) : ∃ u w', us = [u, w'] ∧ RelV x u ∧ RelV y w' := by
  cases r with
  | cons r1 r2 =>
    cases r2 with
    | cons r3 r4 => cases r4; exact ⟨_, _, rfl, r1, r3⟩
theorem call_min2 (hc : X.calm = true) : CallR X (.builtin "min") (fun xs H Q => ∃ i j, xs = [.int i, .int j] ∧ Q (.int (if j < i then j else i)) H) := by
  intro pins s σ H xs us Q I r h
  obtain ⟨i, j, rfl, q⟩ := h
  obtain ⟨u, w', rfl, ⟨t, rfl⟩, ⟨t', rfl⟩⟩ := vals2 r
  refine min_two_ints (I.ok.hd hc) fun h' tk k => ⟨_, H, I.kept k, ?_, q⟩
  by_cases hj : j < i
  · rw [if_pos hj, if_pos hj]; exact ⟨_, rfl⟩
  · rw [if_neg hj, if_neg hj]; exact ⟨_, rfl⟩
theorem call_int1 : CallR X (.type "int") (fun xs H Q => (∃ i, xs = [.int i] ∧ Q (.int i) H) ∨ ∃ k, xs = [.bl k] ∧ Q (.int (if k then 1 else 0)) H) := by
  intro pins s σ H xs us Q I r h
  rcases h with ⟨i, rfl, q⟩ | ⟨k, rfl, q⟩
  · obtain ⟨u, rfl, t, rfl⟩ := vals1 r
    exact call_int_int ⟨.int i, H, I, ⟨_, rfl⟩, q⟩
  · obtain ⟨u, rfl, r1⟩ := vals1 r
    cases r1
    exact call_int_bool ⟨.int (if k then 1 else 0), H, I.tok _, ⟨_, rfl⟩, q⟩
noncomputable def LenV (K : PySem.W.Frag) (x : V) (H : Hp) (n : Nat) : Prop :=
  match x with
  | .str y => y.length ≤ sizeLine ∧ n = y.length
  | .byt y => y.size ≤ sizeLine ∧ n = y.size
  | .ref p => (∃ xs, SqL K H p xs ∧ n = xs.length) ∨ ∃ xs, SqT K H p xs ∧ n = xs.length
  | _ => False
theorem call_len : CallR X (.builtin "len") (fun xs H Q => ∃ x n, xs = [x] ∧ LenV X.K x H n ∧ Q (.int n) H) := by
  intro pins s σ H xs us Q I r h
  obtain ⟨x, n, rfl, e, q⟩ := h
  obtain ⟨u, rfl, rx⟩ := vals1 r
  have hl := line63
  have hs : sizeLine = 16777216 := sizeLine_eq
  cases x with
  | str y =>
    obtain ⟨t, rfl⟩ := rx
    obtain ⟨hy, e'⟩ : y.length ≤ sizeLine ∧ n = y.length := e
    subst e'
    exact len_str (by omega) ⟨.int _, H, I.tok _, ⟨_, rfl⟩, q⟩
  | byt y =>
    obtain ⟨t, rfl⟩ := rx
    obtain ⟨hy, e'⟩ : y.size ≤ sizeLine ∧ n = y.size := e
    subst e'
    exact PySem.W.len_bytes (by omega) ⟨.int _, H, I.tok _, ⟨_, rfl⟩, q⟩
  | ref p =>
    cases rx
    have e' : (∃ xs, SqL X.K H p xs ∧ n = xs.length) ∨ ∃ xs, SqT X.K H p xs ∧ n = xs.length := e
    rcases e' with ⟨xs, hx, e'⟩ | ⟨xs, hx, e'⟩
    · subst e'
      obtain ⟨its, r', pl, hz⟩ := I.list hx
      have hlen := r'.length
      exact Calls.call_len_list pl.isList (by simp only [List.size_toArray]; omega) ⟨.int xs.length, H, I.tok _, ⟨_, by simp only [List.size_toArray]; rw [hlen]⟩, q⟩
    · subst e'
      obtain ⟨its, r', pl, hz⟩ := I.tuple hx
      have hlen := r'.length
      exact len_tuple pl (by simp only [List.size_toArray]; omega) ⟨.int xs.length, H, I.tok _, ⟨_, by simp only [List.size_toArray]; rw [hlen]⟩, q⟩
  | _ => exact (show False from e).elim
end
end L2
namespace L2
open PySem PySem.Spec PyProof.Rows
structure ObjM (h : Heap) (x dx C : Addr) (mA : Str → Option Value) : Prop where
  obj : h.get? x = some (PySem.W.instObj C dx)
  ns : h.Ns1 dx mA
  ne : dx ≠ x
theorem lookIn_ns {h : Heap} {dx : Addr} {mA : Str → Option Value} (n : h.Ns1 dx mA) : ∃ od, h.get? dx = some od ∧ ∀ name, PySem.W.lookIn name od = some (mA name) := by
  obtain ⟨o, es, ep, ho, hd, hk, _, hm⟩ := n
  refine ⟨o, ho, fun name => ?_⟩
  have e := hm name
  unfold nsFind findBy at e
  rw [← Array.find?_toList] at e
  unfold PySem.W.lookIn
  rw [hd]
  dsimp only
  split
  · rename_i y q
    rw [q] at e
    exact congrArg some e
  · rename_i q
    rw [q] at e
    have a : es.toList.any (·.refKey) = false := by
      rw [List.any_eq_false]
      intro y hy
      obtain ⟨z, t, hkey⟩ := hk y (Array.mem_toList_iff.mp hy)
      simp [DictEntry.refKey, hkey]
    have a' : ¬ es.toList.any (·.refKey) = true := by rw [a]; exact Bool.false_ne_true
    rw [if_neg a']
    exact congrArg some e
theorem ObjM.look {h : Heap} {x dx C : Addr} {mA : Str → Option Value} (I : ObjM h x dx C mA) : ∃ od, PySem.W.InstAt h x (PySem.W.instObj C dx) C (some od) ∧ ∀ name, PySem.W.lookIn name od = some (mA name) :=
  let ⟨od, ho, hl⟩ := lookIn_ns I.ns
  ⟨od, ⟨I.obj, rfl, rfl, ho⟩, hl⟩
section
variable {prog : Program} {w : World} {A : Around} {E : Value → Shared → Prop} {s : Shared} {K : PySem.W.Frag} {x dx C f : Addr} {mA : Str → Option Value} {name : Str} {v : Value}
end
noncomputable def putF (f : Str) (v : V) : List (Str × V) → List (Str × V)
  | [] => [(f, v)]
  | (g, x) :: r => if g = f then (g, v) :: r else (g, x) :: putF f v r
theorem lookup_putF (f g : Str) (v : V) : ∀ fs : List (Str × V), (putF f v fs).lookup g = if g = f then some v else fs.lookup g
  | [] => by
    show List.lookup g [(f, v)] = _
    by_cases h : g = f
    · have hb : (g == f) = true := beq_iff_eq.mpr h
      simp only [List.lookup, hb, if_pos h]
    · have hb : (g == f) = false := beq_eq_false_iff_ne.mpr h
      simp only [List.lookup, hb, if_neg h]
  | (k, x) :: r => by
    have ih := lookup_putF f g v r
    rw [show putF f v ((k, x) :: r) = (if k = f then (k, v) :: r else (k, x) :: putF f v r) from rfl]
    by_cases hk : k = f
    · rw [if_pos hk]
      by_cases h : g = k
      · have hb : (g == k) = true := beq_iff_eq.mpr h
        simp only [List.lookup, hb, if_pos (h.trans hk)]
      · have hb : (g == k) = false := beq_eq_false_iff_ne.mpr h
        simp only [List.lookup, hb, if_neg (fun e : g = f => h (e.trans hk.symm))]
    · rw [if_neg hk]
      by_cases h : g = k
      · have hb : (g == k) = true := beq_iff_eq.mpr h
        simp only [List.lookup, hb, if_neg (fun e : g = f => hk (h.symm.trans e))]
      · have hb : (g == k) = false := beq_eq_false_iff_ne.mpr h
        simp only [List.lookup, hb]
        exact ih
theorem RelO.some_of {v : V} {o : Option Value} (r : RelO (some v) o) : ∃ u, o = some u ∧ RelV v u := by
  cases o with
  | none => exact (show False from r).elim
  | some u => exact ⟨u, rfl, r⟩
theorem RelO.none_of {o : Option Value} (r : RelO none o) : o = none := by
  cases o with
  | none => rfl
  | some u => exact (show False from r).elim
theorem handed_of {v : V} {u : Value} (r : RelV v u) : PySem.W.handedIn u = true := by
  cases v with
  | non => cases (show u = Value.none from r); rfl
  | bl b => cases (show u = Value.bool b from r); rfl
  | int i => obtain ⟨t, e⟩ := (show ∃ t, u = Value.int i t from r); cases e; rfl
  | str x => obtain ⟨t, e⟩ := (show ∃ t, u = Value.str x t from r); cases e; rfl
  | byt b => obtain ⟨t, e⟩ := (show ∃ t, u = Value.bytes b t from r); cases e; rfl
  | flt b => obtain ⟨t, e⟩ := (show ∃ t, u = Value.float b t from r); cases e; rfl
  | ref a => cases (show u = Value.ref a from r); rfl
  | ty n => cases (show u = Value.type n from r); rfl
section
variable {P : Program} {w : World} {H H' : Hp} {h h' : Heap} {a C dx : Addr} {fs fs' : List (Str × V)}
theorem ins_get (hok : HOk P w H h) (e : H a = some (.ins C dx fs)) : ∃ mA, ObjM h a dx C mA ∧ (∀ f, RelO (fs.lookup f) (mA f)) ∧ PySem.Within mA (fs.map (·.1)) ∧ fs.length ≤ 1000 ∧ H dx = some (.own a) := by
  obtain ⟨d, z, ne, ob, mA, n, r, q⟩ := (show ObjOk P w H h a (.ins C dx fs) from hok a _ e)
  exact ⟨mA, ⟨ob, n, ne⟩, r, q, z, d⟩
end
structure Cls (K : PySem.W.Frag) (C : Addr) : Prop where
  pg : PySem.W.plainGet K C Str.empty = true
  hd : PySem.W.hasDictIn K C = true
  po : PySem.W.plainOver K C = true
  sa : PySem.W.findIn K (.ref C) "__setattr__" = some (some (.builtin "object.__setattr__"))
theorem Cls.get {K : PySem.W.Frag} {C : Addr} (c : Cls K C) (f : Str) : PySem.W.plainGet K C f = true := c.pg
noncomputable def NoAttr (K : PySem.W.Frag) (C : Addr) (f : Str) : Prop := PySem.W.findIn K (.ref C) f = some none
section
variable {X : Cx} {pins : List (Addr × Obj)} {σ : St} {H : Hp} {s : Shared} {a C dx : Addr} {fs : List (Str × V)} {f : Str} {v : V} {A : Around} {E : Value → Shared → Prop}
theorem Inv.made (I : Inv X pins σ H s) : Inv X pins σ (upd (upd H s.heap.objs.size (.own (s.heap.objs.size + 1))) (s.heap.objs.size + 1) (.ins C s.heap.objs.size []))
    { s with heap := (s.heap.push PySem.W.emptyDict).push (PySem.W.instObj C s.heap.objs.size) } := by
  have e1 : (s.heap.push PySem.W.emptyDict).get? s.heap.objs.size = some PySem.W.emptyDict := Heap.get?_push_size s.heap rfl
  have e2 : ((s.heap.push PySem.W.emptyDict).push (PySem.W.instObj C s.heap.objs.size)).get? (s.heap.objs.size + 1) = some (PySem.W.instObj C s.heap.objs.size) := by
    have := Heap.get?_push_size (s.heap.push PySem.W.emptyDict) (o := PySem.W.instObj C s.heap.objs.size) rfl
    rwa [Heap.size_push] at this
  have e3 : (s.heap.push PySem.W.emptyDict).Ns s.heap.objs.size (fun _ => none) := ⟨PySem.W.emptyDict, #[], _, e1, rfl, (fun e he => absurd he (by simp)), fun _ => rfl⟩
  have I1 := I.laid (a := s.heap.objs.size) (o := .own (s.heap.objs.size + 1)) (h' := s.heap.push PySem.W.emptyDict) (t' := s.toks) (fun b u q => Heap.get?_push_of_some _ q) (Nat.le_refl _) ⟨_, e1⟩
  refine I1.laid (a := s.heap.objs.size + 1) (o := .ins C s.heap.objs.size []) (t' := s.toks) (fun b u q => Heap.get?_push_of_some _ q) (Nat.le_of_eq (Heap.size_push _ _)) ?_
  have ne : s.heap.objs.size ≠ s.heap.objs.size + 1 := Nat.ne_of_lt (Nat.lt_succ_self _)
  refine ⟨by rw [upd_ne ne, upd_same], Nat.zero_le _, ne, e2, fun _ => none, (Heap.Ns1.of_empty e3).at fun o q => Heap.get?_push_of_some _ q, fun _ => True.intro, fun y hy => absurd rfl hy⟩
theorem attr_of {prog : Program} {w : World} {env : Env} {e : Expr} {f : Str} {pos : Pos} {s : Shared} {Q : Value → Shared → Prop} (hb : attributeBase e f env (eval e env) = eval e env)
    (h : wpAny (model prog w) A (eval e env) (fun o s₁ => wpAny (model prog w) A (getAttr o f true) Q E s₁) E s) : wpAny (model prog w) A (eval (.Attribute e f pos) env) Q E s :=
  Attribute_any_ h (by rw [arm_eval_Attribute, hb])
end
section
variable {X : Cx} {o e value : Expr} {f : Str} {pos pos' tpos : Pos} {ta tv : TE}
end
section
variable {X : Cx} {pins : List (Addr × Obj)} {σ : St} {H : Hp} {s : Shared} {A : Around} {E : Value → Shared → Prop} {Q : Value → Shared → Prop} {c : Value} {b : Bool}
inductive TyOf (K : PySem.W.Frag) (H : Hp) : V → Value → Prop where
  | non : TyOf K H .non (.type "NoneType")
  | bl (x : Bool) : TyOf K H (.bl x) (.type "bool")
  | int (i : Int) : TyOf K H (.int i) (.type "int")
  | str (x : Str) : TyOf K H (.str x) (.type "str")
  | flt (x : UInt64) : TyOf K H (.flt x) (.type "float")
  | lst {a : Addr} {xs : List V} (e : H a = some (.lst xs)) : TyOf K H (.ref a) (.type "list")
  | frz {a : Addr} {o : Obj} {xs : List V} (e : H a = some (.frz o (.lst xs))) : TyOf K H (.ref a) (.type "list")
  | tup {a : Addr} {xs : List V} (e : H a = some (.tup xs)) : TyOf K H (.ref a) (.type "tuple")
  | dK {a : Addr} {kvs : List (Key × V)} (e : H a = some (.dK kvs)) : TyOf K H (.ref a) (.type "dict")
  | dT {a : Addr} {kvs : List (List Key × V)} (e : H a = some (.dT kvs)) : TyOf K H (.ref a) (.type "dict")
  | ins {a C dx : Addr} {fs : List (Str × V)} (e : H a = some (.ins C dx fs)) (cl : Cls K C) (ha : PySem.W.findIn K (.ref C) "__class__" = some (some (.builtin "object.__class__")))
      (hn : PySem.W.specialIn K (.builtin "object.__class__") "__get__" = some (some (.builtin "getset_descriptor.__get__"))) (htk : PySem.W.takesIn K (.builtin "object.__class__") = some true)
      (hm : PySem.W.mroIn K C (.type "object") = some true) : TyOf K H (.ref a) (.ref C)
theorem isinst_ok {x : V} {u t : Value} (I : Inv X pins σ H s) (rx : RelV x u) (ty : TyOf X.K H x t) (e : PySem.W.kitOne X.K t c = some b) (h : ∀ tk, Q (.bool b) { s with toks := tk }) :
    wpAny (model X.prog X.w) A (call (.builtin "isinstance") [u, c]) Q E s := by
  cases ty with
  | non => cases (show u = Value.none from rx); exact PySem.W.kia_one PySem.W.kitx_none I.kIn True.intro e (fun z => nomatch z) h
  | bl y => cases (show u = Value.bool y from rx); exact PySem.W.kia_one PySem.W.kitx_bool I.kIn True.intro e (fun z => nomatch z) h
  | int i => obtain ⟨t, q⟩ := (show ∃ t, u = Value.int i t from rx); cases q; exact PySem.W.kia_one PySem.W.kitx_int I.kIn True.intro e (fun z => nomatch z) h
  | str y => obtain ⟨t, q⟩ := (show ∃ t, u = Value.str y t from rx); cases q; exact PySem.W.kia_one PySem.W.kitx_str I.kIn True.intro e (fun z => nomatch z) h
  | flt y => obtain ⟨t, q⟩ := (show ∃ t, u = Value.float y t from rx); cases q; exact PySem.W.kia_one PySem.W.kitx_float I.kIn True.intro e (fun z => nomatch z) h
  | @lst a xs ea =>
    cases (show u = Value.ref a from rx)
    obtain ⟨_, _, n, _, h1⟩ := (show ObjOk X.prog X.w H s.heap a (.lst xs) from I.hok a _ ea)
    exact PySem.W.kia_one PySem.W.kitx_list I.kIn ⟨_, h1, rfl⟩ e (fun z => nomatch z) h
  | @frz a ob xs ea =>
    cases (show u = Value.ref a from rx)
    obtain ⟨_, _, _, n, _, h1⟩ := (show ObjOk X.prog X.w H s.heap a (.frz ob (.lst xs)) from I.hok a _ ea)
    exact PySem.W.kia_one PySem.W.kitx_list I.kIn ⟨_, h1, rfl⟩ e (fun z => nomatch z) h
  | @tup a xs ea =>
    cases (show u = Value.ref a from rx)
    obtain ⟨_, _, _, p⟩ := (show ObjOk X.prog X.w H s.heap a (.tup xs) from I.hok a _ ea)
    obtain ⟨o, h1, h2, _⟩ := p
    exact PySem.W.kia_one PySem.W.kitx_tuple I.kIn ⟨o, h1, h2⟩ e (fun z => nomatch z) h
  | @dK a kvs ea =>
    cases (show u = Value.ref a from rx)
    obtain ⟨_, _, vs, _, p⟩ := (show ObjOk X.prog X.w H s.heap a (.dK kvs) from I.hok a _ ea)
    obtain ⟨o, es, ep, h1, h2, _⟩ := p
    exact PySem.W.kia_one PySem.W.kitx_dict I.kIn ⟨o, h1, h2.1⟩ e (fun z => nomatch z) h
  | @dT a kvs ea =>
    cases (show u = Value.ref a from rx)
    obtain ⟨_, _, xs, _, o, es, ep, h1, h2, _⟩ := (show ObjOk X.prog X.w H s.heap a (.dT kvs) from I.hok a _ ea)
    exact PySem.W.kia_one PySem.W.kitx_dict I.kIn ⟨o, h1, h2.1⟩ e (fun z => nomatch z) h
  | @ins a C dx fs ea cl ha hn htk hm =>
    cases (show u = Value.ref a from rx)
    obtain ⟨mA, O, _⟩ := ins_get I.hok ea
    obtain ⟨od, J, _⟩ := O.look
    exact PySem.W.kia_one (PySem.W.kitx_own (cl.get _) cl.hd ha hn htk hm) I.kIn J e (fun z => nomatch z) h
end
end L2
namespace L2
open PySem PySem.Spec PyProof.Rows
structure Room (k : Nat) (A : Around) : Prop where
  hd : A.handled = none
  dp : A.depth + 3 * k + 5 < recursionLimit
  un : A.units + 16 * k + 200 < cLine
theorem Room.mono {j k : Nat} {A : Around} (r : Room k A) (h : j ≤ k) : Room j A := ⟨r.hd, by have := r.dp; omega, by have := r.un; omega⟩
theorem Room.deeper {k : Nat} {A : Around} (r : Room (k + 1) A) (env : Env) : Room k (A.deeper env) :=
  ⟨r.hd, by have := r.dp; show A.depth + 1 + 3 * k + 5 < _; omega, by have := r.un; show A.units + 3 + 16 * k + 200 < _; omega⟩
theorem Room.in1 {k : Nat} {A : Around} (r : Room (k + 1) A) : Room k A.in1 :=
  ⟨r.hd, by have := r.dp; show A.depth + 3 * k + 5 < _; omega, by have := r.un; show A.units + 1 + 16 * k + 200 < _; omega⟩
theorem make_depth {A : Around} {C : Addr} {us : List Value} {kw : List (Str × Value)} : (A.under (.builtin "type.__call__" ⟨.ref C :: us, kw⟩)).depth = A.depth + 1 := by
  first | rfl | simp [Around.under, Code.weight, Code.isCreation, Code.isGuard, Code.isCaller, Code.frames, Code.isFrame, guardIds]
theorem make_units {A : Around} {C : Addr} {us : List Value} {kw : List (Str × Value)} : (A.under (.builtin "type.__call__" ⟨.ref C :: us, kw⟩)).units = A.units + 1 := by
  first | rfl | simp [Around.under, Code.cUnits, Code.frames, Code.isFrame]
theorem Room.make {k : Nat} {A : Around} (r : Room (k + 1) A) (C : Addr) (us : List Value) (kw : List (Str × Value)) : Room k (A.under (.builtin "type.__call__" ⟨.ref C :: us, kw⟩)) :=
  ⟨r.hd, by have := r.dp; rw [make_depth]; omega, by have := r.un; rw [make_units]; omega⟩
theorem Room.depth {k : Nat} {A : Around} (r : Room k A) : A.depth < recursionLimit := by have := r.dp; omega
theorem Room.units {k : Nat} {A : Around} (r : Room k A) : A.units + 64 < cLine := by have := r.un; omega
noncomputable def tNil : TA := fun _ H Q => Q [] H
noncomputable def tCons (ta : TE) (tr : TA) : TA := fun σ H Q => ta σ H fun x H1 => tr σ H1 fun xs H2 => Q (x :: xs) H2
section
variable {X : Cx} {e : Expr} {es : List Expr} {te : TE} {t : TA} {pos : Pos}
theorem pa_nil : PA X [] tNil := fun _ _ _ _ H Q I h => Calls.spliced_nil ⟨[], H, I, .nil, h⟩
theorem pa_cons (ha : PE X e te) (hr : PA X es t) (hs : starEach (e :: es) X.env = (false, eval e X.env) :: starEach es X.env := by rfl) : PA X (e :: es) (tCons te t) := by
  intro pos pins s σ H Q I h
  rw [hs]
  show wpAny _ _ (spliced ((false, eval e X.env) :: backTo pos (starEach es X.env))) _ _ s
  refine Calls.spliced_cons (thn (ha pins s σ H _ I h) fun u s1 ⟨x, H1, I1, r1, q1⟩ => ?_)
  exact thn (hr pos pins s1 σ H1 _ I1 q1) fun us s2 ⟨xs, H2, I2, r2, q2⟩ => ⟨x :: xs, H2, I2, .cons r1 r2, q2⟩
noncomputable def tTup (t : TA) : TE := fun σ H Q => t σ H fun xs H1 => xs.length ≤ sizeLine ∧ ∀ p, H1 p = none → Q (.ref p) (upd H1 p (.tup xs))
noncomputable def tLst (t : TA) : TE := fun σ H Q => t σ H fun xs H1 => xs.length ≤ sizeLine ∧ ∀ p, H1 p = none → Q (.ref p) (upd H1 p (.lst xs))
theorem pe_tup {x1} (h : PA X es t) : PE X (.Tuple es x1 pos) (tTup t) := by
  intro pins s σ H Q I hq
  refine wpAny_Tuple_spliced (thn (h pos pins s σ H _ I hq) fun us s1 ⟨xs, H1, I1, r, z, q⟩ => ⟨by rw [← r.length]; exact z, ?_⟩)
  have hf : H1 s1.heap.objs.size = none := I1.hok.fresh (Nat.le_refl _)
  refine ⟨.ref s1.heap.objs.size, upd H1 s1.heap.objs.size (.tup xs), I1.laid (t' := s1.toks) (fun b u e => Heap.get?_push_of_some _ e) (Nat.le_refl _) ?_, rfl, q _ hf⟩
  exact ⟨z, us, r, ⟨_, Heap.get?_push_size _ rfl, rfl, _, rfl⟩⟩
theorem pe_lst (h : PA X es t) : PE X (.List es pos) (tLst t) := by
  intro pins s σ H Q I hq
  refine wpAny_List_spliced (thn (h pos pins s σ H _ I hq) fun us s1 ⟨xs, H1, I1, r, z, q⟩ => ⟨by rw [← r.length]; exact z, ?_⟩)
  have hf : H1 s1.heap.objs.size = none := I1.hok.fresh (Nat.le_refl _)
  refine ⟨.ref s1.heap.objs.size, upd H1 s1.heap.objs.size (.lst xs), I1.laid (t' := s1.toks) (fun b u e => Heap.get?_push_of_some _ e) (Nat.le_refl _) ?_, rfl, q _ hf⟩
  exact ⟨z, us, 0, r, Heap.get?_push_size _ rfl⟩
end
noncomputable abbrev Sp := List V → Hp → VK → XK → Prop
noncomputable abbrev CXT := List Env → Hp → Shared → XK → Value → Shared → Prop
structure Env0 (P : Program) (w : World) (K : PySem.W.Frag) (mg : Str → Option Value) (base : Heap) (A : Around) (outer : List Env) (s : Shared) (H : Hp) : Prop where
  frames : A.frames = some outer
  mod : Mod K mg base
  bs : ∀ b o, base.get? b = some o → s.heap.get? b = some o ∧ H b = none
  bsz : base.objs.size ≤ s.heap.objs.size
  funs : s.heap.FunFrames base outer
  frf : ∀ b ∈ frs outer, H b = none
  hok : HOk P w H s.heap
  bare : AllBare s.gens
noncomputable def CE (outer : List Env) (P : Program) (w : World) (H : Hp) (s : Shared) (Q : VK) (u : Value) (s' : Shared) : Prop :=
  ∃ v H', s'.os = s.os ∧ AllBare s'.gens ∧ Un (frs outer) [] H H' s.heap s'.heap ∧ HOk P w H' s'.heap ∧ RelV v u ∧ Q v H'
noncomputable def CR (CX : CXT) (outer : List Env) (P : Program) (w : World) (H : Hp) (s : Shared) (Q : VK) (E : XK) (r : Result) (s' : Shared) : Prop :=
  match r with
  | .ok (.ret u) => CE outer P w H s Q u s'
  | .ok _ => False
  | .error e => CX outer H s E e s'
structure FnOk (P : Program) (w : World) (K : PySem.W.Frag) (mg : Str → Option Value) (base : Heap) (CX : CXT) (k : Nat) (f : Addr) (fd : FuncData) (ps : List Str) (sp : Sp) : Prop where
  len : ∀ vs H Q E, sp vs H Q E → vs.length = ps.length
  run : ∀ (A : Around) (outer : List Env) (s : Shared) (H : Hp) (args : Args) (us : List Value) (vs : List V) (Q : VK) (E : XK), Room k A → Env0 P w K mg base A outer s H → BindsTo s fd args (ps.zip us) → Vals vs us → sp vs H Q E →
    codeAny (model P w) A (.call (.ref f) args) (CR CX outer P w H s Q E) s
theorem FnOk.mono {P : Program} {w : World} {K : PySem.W.Frag} {mg : Str → Option Value} {base : Heap} {CX : CXT} {j k : Nat} {f : Addr} {fd : FuncData} {ps : List Str} {sp : Sp} (F : FnOk P w K mg base CX j f fd ps sp) (h : j ≤ k) :
    FnOk P w K mg base CX k f fd ps sp := ⟨F.len, fun A outer s H args us vs Q E hr => F.run A outer s H args us vs Q E (hr.mono h)⟩
theorem FnOk.imp {P : Program} {w : World} {K : PySem.W.Frag} {mg : Str → Option Value} {base : Heap} {CX : CXT} {k : Nat} {f : Addr} {fd : FuncData} {ps : List Str} {sp sp' : Sp} (F : FnOk P w K mg base CX k f fd ps sp)
    (h : ∀ vs H Q E, sp' vs H Q E → sp vs H Q E) : FnOk P w K mg base CX k f fd ps sp' :=
  ⟨fun vs H Q E q => F.len vs H Q E (h _ _ _ _ q), fun A outer s H args us vs Q E hr he hb hv hs => F.run A outer s H args us vs Q E hr he hb hv (h _ _ _ _ hs)⟩
theorem Env0.make {P : Program} {w : World} {K : PySem.W.Frag} {mg : Str → Option Value} {base : Heap} {A : Around} {outer : List Env} {s : Shared} {H : Hp} (e : Env0 P w K mg base A outer s H) (C : Addr) (us : List Value) (kw : List (Str × Value)) :
    Env0 P w K mg base (A.under (.builtin "type.__call__" ⟨.ref C :: us, kw⟩)) outer s H := ⟨by first | exact e.frames | (simpa [Around.under, Code.envs, Code.isFrame, pushEnvs] using e.frames), e.mod, e.bs, e.bsz, e.funs, e.frf, e.hok, e.bare⟩
theorem Env0.in1 {P : Program} {w : World} {K : PySem.W.Frag} {mg : Str → Option Value} {base : Heap} {A : Around} {outer : List Env} {s : Shared} {H : Hp} (e : Env0 P w K mg base A outer s H) :
    Env0 P w K mg base A.in1 outer s H := ⟨e.frames, e.mod, e.bs, e.bsz, e.funs, e.frf, e.hok, e.bare⟩
section
variable {X : Cx} {pins : List (Addr × Obj)} {σ : St} {H : Hp} {s s' : Shared}
theorem Inv.env0 (I : Inv X pins σ H s) : Env0 X.prog X.w X.K X.mg X.base X.A X.stack s H :=
  ⟨I.ok.frames, I.ok.mod, I.bs, Nat.le_trans I.ok.bsz I.sz, I.stack, I.stkFree, I.hok, I.bare⟩
theorem Inv.after {Q : VK} {u : Value} (I : Inv X pins σ H s) (h : CE X.stack X.prog X.w H s Q u s') : EP X pins σ Q u s' := by
  obtain ⟨v, H', os, bare, un, hok, r, q⟩ := h
  obtain ⟨hh, g, d, t, os'⟩ := s'
  obtain rfl : os' = s.os := os
  exact ⟨v, H', I.call (h' := hh) (g' := g) (d' := d) (t' := t) (ch := []) un hok bare (fun b z => absurd z (by simp)), r, q⟩
end
noncomputable def tCall (sp : Sp) (dvs : List V) (E : XK) (t : TA) : TE := fun σ H Q => t σ H fun vs H1 => sp (vs ++ dvs) H1 Q E
noncomputable def Binds (K : PySem.W.Frag) (fd : FuncData) (ps : List Str) (ds : List Value) : Prop :=
  ∀ (s : Shared) (us : List Value), K.In s.heap → (us ++ ds).length = ps.length → BindsTo s fd ⟨us, []⟩ (ps.zip (us ++ ds))
theorem Binds.all {K : PySem.W.Frag} {fd : FuncData} {ps : List Str} (h : ∀ us : List Value, us.length = ps.length → bindArgs fd ⟨us, []⟩ = pure (ps.zip us)) : Binds K fd ps [] := fun s us _ hl => by
  rw [List.append_nil] at hl ⊢
  exact .of_eq (h us hl)
noncomputable def Passes (CX : CXT) (X : Cx) (E : XK) : Prop := ∀ (pins : List (Addr × Obj)) (σ : St) (H : Hp) (s : Shared) (e : Value) (s' : Shared), Inv X pins σ H s → CX X.stack H s E e s' → X.xe e s'
section
variable {X : Cx} {CX : CXT} {k : Nat} {f C : Addr} {fd : FuncData} {ps : List Str} {sp : Sp} {dvs : List V} {ds : List Value} {E : XK} {x m : Str} {p pos apos : Pos} {e o : Expr} {es : List Expr} {ta : TE} {t : TA}
theorem run_fn {pins : List (Addr × Obj)} {σ : St} {H : Hp} {s : Shared} {Q : VK} {us : List Value} {vs : List V} (F : FnOk X.prog X.w X.K X.mg X.base CX k f fd ps sp) (hr : Room k X.A) (hb : Binds X.K fd ps ds) (hd : Vals dvs ds) (hx : Passes CX X E)
    (I : Inv X pins σ H s) (r : Vals vs us) (h : sp (vs ++ dvs) H Q E) : wpAny (model X.prog X.w) X.A (call (.ref f) us) (EP X pins σ Q) X.xe s := by
  have r2 : Vals (vs ++ dvs) (us ++ ds) := r.append hd
  have hl : (us ++ ds).length = ps.length := by rw [← r2.length]; exact F.len _ _ _ _ h
  refine wpAny_call (codeAny_mono (F.run X.A X.stack s H ⟨us, []⟩ (us ++ ds) (vs ++ dvs) Q E hr I.env0 (hb s us I.kIn hl) r2 h) fun r s' hq => ?_)
  cases r with
  | error e => exact hx pins σ H s e s' I hq
  | ok fl =>
    cases fl with
    | ret u => exact I.after hq
    | next => exact False.elim hq
    | brk => exact False.elim hq
    | cont => exact False.elim hq
theorem pe_call (F : FnOk X.prog X.w X.K X.mg X.base CX k f fd ps sp) (hr : Room k X.A) (hg : Gl X x) (hm : X.mg x = some (.ref f)) (hk : PySem.W.keepIn X.K (.ref f) = true) (hb : Binds X.K fd ps ds) (hd : Vals dvs ds) (hx : Passes CX X E)
    (ha : PA X (e :: es) t) (hdb : (x == ("__debug__" : Str)) = false := by decide) (he : starEach (e :: es) X.env = (false, eval e X.env) :: starEach es X.env := by rfl) (hpl : (backTo pos (starEach es X.env)).any (·.1) = false := by rfl) :
    PE X (.Call (.Name x p) (e :: es) [] pos) (tCall sp dvs E t) := by
  intro pins s σ H Q I h
  refine wpAny_Call_Name_kw (ld_glob I hg hm ?_ hdb)
  refine PySem.W.callWith_K (h₀ := X.base) I.ok.mod.kin hk (thn (ha pos pins s σ H _ I h) fun us s1 ⟨vs, H1, I1, r, q⟩ => ⟨I1.kIn, ?_⟩) he hpl
  exact run_fn F hr hb hd hx I1 r q
end
section
variable {X : Cx} {CX : CXT} {k : Nat} {f C : Addr} {fd : FuncData} {ps ks : List Str} {sp : Sp} {E : XK} {x m : Str} {p pos apos kpos : Pos} {e o : Expr} {es : List Expr} {kws : List Keyword} {te ta : TE} {t tk : TA} {nm : Option Str}
variable {g : List Value → List Value → List Value} {gV : List V → List V → List V}
end
structure FnScope (N P : List Str) (sc : Scope) : Prop where
  kind : sc.kind = .function
  co : sc.isCoroutine = false
  gen : sc.isGenerator = false
  nd : N.Nodup
  pre : N.take P.length = P
  par : ∀ x ∈ P, sc.names.lookup x = some .local ∨ sc.names.lookup x = some .cell
  nofree : ∀ y ∈ sc.names, y.2 ≠ .free
theorem bindL_out {kindOf : Str → Option NameKind} {x : Str} : ∀ {binds : List (Str × Value)} {m : Str → Option Value}, (∀ v, (x, v) ∉ binds) → bindL kindOf binds m x = m x
  | [], _, _ => rfl
  | (n, v) :: r, m, h => by
    unfold bindL
    rw [bindL_out fun w hw => h w (List.mem_cons_of_mem _ hw)]
    split
    · have : x ≠ n := by rintro rfl; exact h v List.mem_cons_self
      simp [this]
    · rfl
theorem bindC_out {kindOf : Str → Option NameKind} {x : Str} : ∀ {binds : List (Str × Value)} {m : Str → Option Value}, (∀ v, (x, v) ∉ binds) → bindC kindOf binds m x = m x
  | [], _, _ => rfl
  | (n, v) :: r, m, h => by
    unfold bindC
    rw [bindC_out fun w hw => h w (List.mem_cons_of_mem _ hw)]
    split
    · rfl
    · have : x ≠ n := by rintro rfl; exact h v List.mem_cons_self
      simp [this]
theorem bindL_get {kindOf : Str → Option NameKind} {x : Str} {v : Value} : ∀ {P : List Str} {vs : List Value} {i : Nat} {m : Str → Option Value}, P.Nodup → P[i]? = some x → vs[i]? = some v → kindOf x = some .local →
    bindL kindOf (P.zip vs) m x = some v
  | [], _, _, _, _, h, _, _ => by simp at h
  | _ :: _, [], _, _, _, _, h, _ => by simp at h
  | p :: P, w :: vs, 0, m, nd, h1, h2, hk => by
    simp at h1 h2; subst h1; subst h2
    show bindL kindOf ((p, w) :: P.zip vs) m p = _
    unfold bindL
    rw [bindL_out fun v hv => (List.nodup_cons.mp nd).1 (List.of_mem_zip hv).1, if_pos hk]
    simp
  | p :: P, w :: vs, i + 1, m, nd, h1, h2, hk => by
    show bindL kindOf ((p, w) :: P.zip vs) m x = _
    unfold bindL
    exact bindL_get (i := i) (List.nodup_cons.mp nd).2 (by simpa using h1) (by simpa using h2) hk
theorem bindC_get {kindOf : Str → Option NameKind} {x : Str} {v : Value} : ∀ {P : List Str} {vs : List Value} {i : Nat} {m : Str → Option Value}, P.Nodup → P[i]? = some x → vs[i]? = some v → kindOf x ≠ some .local →
    bindC kindOf (P.zip vs) m x = some v
  | [], _, _, _, _, h, _, _ => by simp at h
  | _ :: _, [], _, _, _, _, h, _ => by simp at h
  | p :: P, w :: vs, 0, m, nd, h1, h2, hk => by
    simp at h1 h2; subst h1; subst h2
    show bindC kindOf ((p, w) :: P.zip vs) m p = _
    unfold bindC
    rw [bindC_out fun v hv => (List.nodup_cons.mp nd).1 (List.of_mem_zip hv).1, if_neg hk]
    simp
  | p :: P, w :: vs, i + 1, m, nd, h1, h2, hk => by
    show bindC kindOf ((p, w) :: P.zip vs) m x = _
    unfold bindC
    exact bindC_get (i := i) (List.nodup_cons.mp nd).2 (by simpa using h1) (by simpa using h2) hk
noncomputable def start (N : List Str) (vs : List V) : St := vs.map some ++ List.replicate (N.length - vs.length) none
noncomputable def cxOf (CX : CXT) (P : Program) (w : World) (K : PySem.W.Frag) (mg : Str → Option Value) (base : Heap) (N : List Str) (qual : Str) (scope : Scope) (f : Addr) (cd : Value) (A : Around) (outer : List Env) (s : Shared) (H : Hp) (E : XK) : Cx where
  prog := P
  w := w
  K := K
  mg := mg
  base := base
  A := A.deeper (envOfC qual scope s.heap.objs.size f cd)
  N := N
  s₀ := s
  H₀ := H
  env := envOfC qual scope s.heap.objs.size f cd
  outer := outer
  stack := envOfC qual scope s.heap.objs.size f cd :: outer
  ex := []
  calm := true
  fn := fun _ => true
  pn := []
  xe := fun e s' => wpAny (model P w) (A.deeper (envOfC qual scope s.heap.objs.size f cd)) (leaving (envOfC qual scope s.heap.objs.size f cd) e) (fun _ s'' => CX outer H s E e s'') (fun e' s'' => CX outer H s E e' s'') s'
theorem cell_has {sc : Scope} {n : Nat} {x : Str} (h : sc.names.lookup x = some .cell) : ∃ c, (cellsFrom n sc.names []).lookup x = some c := by
  have q := PySem.W.cellsFrom_some sc.names n [] (.inl h)
  exact Option.isSome_iff_exists.mp q
theorem inv_start {CX : CXT} {P : Program} {w : World} {K : PySem.W.Frag} {mg : Str → Option Value} {base : Heap} {N ps : List Str} {qual : Str} {scope : Scope} {f : Addr} {cd : Value} {A : Around} {outer : List Env} {s s1 : Shared} {H : Hp} {E : XK} {us : List Value} {vs : List V}
    (S : FnScope N ps scope) (hd : A.handled = none) (e0 : Env0 P w K mg base A outer s H) (hl : vs.length = ps.length) (r : Vals vs us)
    (x : InCallC s s.heap.objs.size (bindL (envOfC qual scope s.heap.objs.size f cd).kindOf (ps.zip us) fun _ => none) (cellsFrom (s.heap.objs.size + 1) scope.names []) (bindC (envOfC qual scope s.heap.objs.size f cd).kindOf (ps.zip us) fun _ => none) s1) :
    Inv (cxOf CX P w K mg base N qual scope f cd A outer s H E) [] (start N vs) H s1 := by
  have hpl : ps.length ≤ N.length := by have := congrArg List.length S.pre; rw [List.length_take] at this; omega
  obtain ⟨h1, tk, rfl, hk⟩ := x.done
  have noA : ∀ b : Addr, b ∉ (cxOf CX P w K mg base N qual scope f cd A outer s H E).ex := fun b z => absurd (show b ∈ ([] : List Addr) from z) (by simp)
  refine ⟨⟨e0.mod, S.kind, rfl, rfl, Nat.le_refl _, fun y z c h1 h2 => ?_, fun y hy => ?_, fun y c _ h => ?_, fun _ => hd, Around.frames_deeper e0.frames, .inr ⟨rfl, rfl⟩, fun b z => absurd z (noA b), e0.bs, e0.bsz, fun b _ _ => noA b, fun b z => absurd z (noA b), e0.funs, e0.frf⟩,
    rfl, e0.bare, Un.kept hk, ⟨_, x.toInCall.ns, fun i y v h1 h2 h3 => ?_⟩, fun y c h => ⟨_, x.cell y c h⟩, e0.hok.fresh (Nat.le_refl _), fun y c h => ?_, fun p hp => absurd (show p ∈ ([] : List (Addr × Obj)) from hp) (by simp), e0.hok.kept hk, ?_⟩
  · exact name_of_addr x.apart (PySem.mem_of_lookup h1) (PySem.mem_of_lookup h2)
  · have hy : scope.names.lookup y = some .cell ∨ scope.names.lookup y = some .free := hy
    rcases hy with hy | hy
    · exact cell_has hy
    · exact absurd rfl (S.nofree _ (PySem.mem_of_lookup hy))
  · exact Nat.le_of_lt (x.above y c (PySem.mem_of_lookup h))
  · have hi : i < vs.length := by
      unfold start at h2
      by_cases hi : i < vs.length
      · exact hi
      · rw [List.getElem?_append_right (by simpa using hi)] at h2
        rw [List.getElem?_replicate] at h2
        split at h2 <;> cases h2
    have ha : vs[i]? = some v := by
      unfold start at h2
      rw [List.getElem?_append_left (by simpa using hi), List.getElem?_map] at h2
      cases e : vs[i]? with
      | none => rw [e] at h2; cases h2
      | some a => rw [e] at h2; cases h2; rfl
    obtain ⟨u, hu, rv⟩ := r.get ha
    have hp : ps[i]? = some y := by
      rw [← S.pre, List.getElem?_take_of_lt (by omega)]; exact h1
    have ndP : ps.Nodup := by rw [← S.pre]; exact S.nd.sublist (List.take_sublist _ _)
    refine ⟨u, rv, ?_⟩
    rcases S.par y (List.mem_of_getElem? hp) with k | k
    · exact .inl ⟨k, bindL_get ndP hp hu k⟩
    · obtain ⟨c, e⟩ := cell_has (n := s.heap.objs.size + 1) k
      refine .inr ⟨.inl k, c, e, ?_⟩
      have q := x.cell y c e
      rw [bindC_get ndP hp hu (by show scope.names.lookup y ≠ _; rw [k]; decide)] at q
      exact q
  · exact e0.hok.fresh (Nat.le_of_lt (x.above y c (PySem.mem_of_lookup h)))
  · unfold start
    show _ = N.length
    rw [List.length_append, List.length_map, List.length_replicate]
    omega
theorem fn_of {CX : CXT} {P : Program} {w : World} {K : PySem.W.Frag} {mg : Str → Option Value} {base : Heap} {k : Nat} {f : Addr} {name qual : Str} {params : Arguments} {body : List Stmt} {scope : Scope} {dV kV doc pm cdv ct oc : Value} {an od : Option Addr}
    {osl : Array (Option Value)} {N ps : List Str} {sp : Sp} (lk : K.lookup f = some ⟨oc, od, .func (PySem.W.fnOf name qual params body scope dV kV doc pm an cdv ct), osl⟩) (hcd : PySem.W.codeIn K cdv qual = true) (S : FnScope N ps scope)
    (len : ∀ vs H Q E, sp vs H Q E → vs.length = ps.length)
    (hbody : ∀ (A : Around) (outer : List Env) (s : Shared) (H : Hp) (vs : List V) (Q : VK) (E : XK), Room k (A.deeper (envOfC qual scope s.heap.objs.size f cdv)) → sp vs H Q E →
      ∃ t, PSs (cxOf CX P w K mg base N qual scope f cdv A outer s H E) body t ∧ t { nx := fun _ H' => Q .non H', rt := Q } (start N vs) H) :
    FnOk P w K mg base CX (k + 1) f (PySem.W.fnOf name qual params body scope dV kV doc pm an cdv ct) ps sp := by
  refine ⟨len, fun A outer s H args us vs Q E hr e0 hb r hsp => ?_⟩
  have hl := len _ _ _ _ hsp
  have KX : K.In s.heap := e0.mod.kin.keeps fun b o e => (e0.bs b o e).1
  have lim : s.heap.NoLimit := e0.mod.nolimit.keeps fun b o e => (e0.bs b o e).1
  have hkind : ∀ y ∈ ps.zip us, scope.names.lookup y.1 = some .local ∨ (scope.names.lookup y.1 = some .cell ∧ ((cellsFrom (s.heap.objs.size + 1) scope.names []).lookup y.1).isSome = true) := fun ⟨n, v⟩ hy => by
    rcases S.par n (List.of_mem_zip hy).1 with q | q
    · exact .inl q
    · exact .inr ⟨q, PySem.W.cellsFrom_some _ _ _ (.inl q)⟩
  refine codeAny_call_function hr.depth (KX _ _ lk) rfl S.co S.gen rfl (PySem.W.codeRec_of KX hcd) (hb _ _ _ _ ?_)
  refine wpAny_newFunctionEnv_cells S.kind hkind fun env he s1 x => ?_
  subst he
  refine ⟨lim.keeps x.toInCall.keep, codeAny_func ?_⟩
  obtain ⟨t, ht, hq⟩ := hbody A outer s H vs Q E (hr.deeper _) hsp
  have I : Inv (cxOf CX P w K mg base N qual scope f cdv A outer s H E) [] (start N vs) H s1 := inv_start S hr.hd e0 hl r x
  refine wpAny_mono (ht [] s1 (start N vs) H _ I hq) (fun fl s' hs => ?_) fun e s' hs => hs
  have fin : ∀ {σ' : St} {H' : Hp} {v : V} {u : Value}, Inv (cxOf CX P w K mg base N qual scope f cdv A outer s H E) [] σ' H' s' → RelV v u → Q v H' → CE outer P w H s Q u s' :=
    fun {σ' H' v u} J rv q => ⟨v, H', J.os, J.bare, J.base, J.hok, rv, q⟩
  cases fl with
  | ret u =>
    obtain ⟨v, σ', H', J, rv, q⟩ := hs
    exact fin J rv q
  | next =>
    obtain ⟨σ', H', J, q⟩ := hs
    exact fin (v := V.non) (u := Value.none) J rfl q
  | brk =>
    obtain ⟨_, _, _, q⟩ := hs
    exact False.elim q
  | cont =>
    obtain ⟨_, _, _, q⟩ := hs
    exact False.elim q
end L2
namespace L2
open PySem PySem.Spec PyProof.Rows
section
variable {X : Cx} {x : Str} {p pos : Pos} {e : Expr} {es : List Expr} {t : TA} {id T : String} {r : List V → Hp → VK → Prop}
noncomputable def tCB (r : List V → Hp → VK → Prop) (t : TA) : TE := fun σ H Q => t σ H fun vs H1 => r vs H1 Q
theorem pe_callB (hc : CallR X (.builtin id) r) (hg : Gl X x) (hm : X.mg x = none) (hv : bootBuiltins x = some (.builtin id)) (ha : PA X (e :: es) t) (hn : x ≠ "__name__" := by decide) (hdb : (x == ("__debug__" : Str)) = false := by decide)
    (he : starEach (e :: es) X.env = (false, eval e X.env) :: starEach es X.env := by rfl) (hpl : (backTo pos (starEach es X.env)).any (·.1) = false := by rfl) : PE X (.Call (.Name x p) (e :: es) [] pos) (tCB r t) := by
  intro pins s σ H Q I h
  refine wpAny_Call_Name_kw (ld_blt I hg hm hv ?_ hn hdb)
  exact PyProof.Rows.callWith_builtin1 (thn (ha pos pins s σ H _ I h) fun us s1 ⟨vs, H1, I1, r1, q1⟩ => hc pins s1 σ H1 vs us Q I1 r1 q1) he hpl
theorem pe_callTy (hc : CallR X (.type T) r) (hg : Gl X x) (hm : X.mg x = none) (hv : bootBuiltins x = some (.type T)) (ha : PA X (e :: es) t) (hn : x ≠ "__name__" := by decide) (hdb : (x == ("__debug__" : Str)) = false := by decide)
    (he : starEach (e :: es) X.env = (false, eval e X.env) :: starEach es X.env := by rfl) (hpl : (backTo pos (starEach es X.env)).any (·.1) = false := by rfl) : PE X (.Call (.Name x p) (e :: es) [] pos) (tCB r t) := by
  intro pins s σ H Q I h
  refine wpAny_Call_Name_kw (ld_blt I hg hm hv ?_ hn hdb)
  exact PyProof.Rows.callWith_type1 (thn (ha pos pins s σ H _ I h) fun us s1 ⟨vs, H1, I1, r1, q1⟩ => hc pins s1 σ H1 vs us Q I1 r1 q1) he hpl
end
end L2
namespace HT
open PySem PyProof.Rows
section
open PySem.SeqAt
open PySem.AutoSeq1 (wpAny_loadPart')
open PySem.MeetsSeq PySem.MeetsSeq2 PySem.MeetsSeq3
end
section
variable {prog : Program} {w : World} {A : Around} {E : Value → Shared → Prop} {s : Shared}
theorem cat_tup {t b : Addr} {vs ws : List Value} {Q : Value → Shared → Prop} (ht : IsTup s.heap t vs.toArray) (hb : IsTup s.heap b ws.toArray) (hv : vs ≠ [])
    (h1 : ws = [] → Q (.ref t) s) (h2 : ws ≠ [] → Q (.ref s.heap.objs.size) { s with heap := s.heap.push { cls := .type "tuple", data := .seq (vs ++ ws).toArray } })
    (hsz : vs.length + ws.length ≤ sizeLine) : wpAny (model prog w) A (binaryOp .Add (.ref t) (.ref b)) Q E s := by
  obtain ⟨⟨cls, dd, data, sl⟩, ho, hc, n, hd⟩ := id ht
  obtain ⟨⟨cls2, dd2, data2, sl2⟩, ho2, hc2, n2, hd2⟩ := id hb
  simp only at hc hd hc2 hd2
  subst hc hd hc2 hd2
  have e : vs.toArray ++ ws.toArray = (vs ++ ws).toArray := by simp
  by_cases hw : ws = []
  · exact concat_meets ⟨_, ho, rfl⟩ ⟨_, ho2, rfl⟩ noFill_tuple_add seq_tuple_add PySem.F.slot_tuple_add PySem.F.entry_tuple_add (PySem.F.args_tuple_add_2 _ _)
      (tuple_addW1 t b vs.toArray ws.toArray n n2 dd dd2 sl sl2 (by simpa using hv) (by simp [hw])) ⟨ho, ho2, h1 hw⟩
  · refine concat_meets ⟨_, ho, rfl⟩ ⟨_, ho2, rfl⟩ noFill_tuple_add seq_tuple_add PySem.F.slot_tuple_add PySem.F.entry_tuple_add (PySem.F.args_tuple_add_2 _ _)
      (tuple_addW2 t b vs.toArray ws.toArray n n2 dd dd2 sl sl2 (by simpa using hv) (by simpa using hw) (by rw [List.size_toArray, List.size_toArray]; exact hsz)) ⟨ho, ho2, ?_⟩
    rw [e]
    exact h2 hw
end
end HT
namespace L2
open PySem PySem.Spec PyProof.Rows
noncomputable abbrev TO := St → Hp → (Option Int → Hp → Prop) → Prop
noncomputable def tNoPart : TO := fun _ H Q => Q none H
section
variable {X : Cx} {e : Expr} {te : TE} {lo hi : Option Expr} {tl th : TO} {pos p2 : Pos}
noncomputable def SlR (X : Cx) (r : V → Option Int → Option Int → Hp → VK → Prop) : Prop :=
  ∀ (pins : List (Addr × Obj)) (s : Shared) (σ : St) (H : Hp) (x : V) (v vl vu : Value) (lo hi : Option Int) (sl : Addr) (Q : VK), Inv X pins σ H s → RelV x v → s.heap.IsSliceOf sl vl vu .none → IsPart vl lo → IsPart vu hi → r x lo hi H Q →
    ∃ T id, typeLookup (.type T) "__getitem__" = pure (some (.builtin id)) ∧ s.TypeIs v T ∧ wpAny (model X.prog X.w) X.A (getItem v (.ref sl)) (EP X pins σ Q) X.xe s
theorem SlR.or {r r' : V → Option Int → Option Int → Hp → VK → Prop} (h : SlR X r) (h' : SlR X r') : SlR X (fun x lo hi H Q => r x lo hi H Q ∨ r' x lo hi H Q) := by
  intro pins s σ H x v vl vu lo hi sl Q I rx hs pl pu q
  rcases q with q | q
  · exact h pins s σ H x v vl vu lo hi sl Q I rx hs pl pu q
  · exact h' pins s σ H x v vl vu lo hi sl Q I rx hs pl pu q
noncomputable def tSl (r : V → Option Int → Option Int → Hp → VK → Prop) (te : TE) (tl th : TO) : TE := fun σ H Q => te σ H fun x H1 => tl σ H1 fun l H2 => th σ H2 fun u H3 => r x l u H3 Q
noncomputable def rCatT (K : PySem.W.Frag) : R2 := fun x y H Q => ∃ a b xs ys, x = .ref a ∧ y = .ref b ∧ SqT K H a xs ∧ SqT K H b ys ∧ xs ≠ [] ∧ xs.length + ys.length ≤ sizeLine ∧
  (ys = [] → Q (.ref a) H) ∧ (ys ≠ [] → ∀ p, H p = none → Q (.ref p) (upd H p (.tup (xs ++ ys))))
theorem Vals.nil_iff {xs : List V} {us : List Value} (r : Vals xs us) : us = [] ↔ xs = [] := by
  cases r with
  | nil => simp
  | cons _ _ => simp
theorem op_catT : OpR X (binaryOp .Add) (rCatT X.K) := by
  intro pins s σ H x y v u Q I rx ry h
  obtain ⟨a, b, xs, ys, rfl, rfl, ha, hb, hx, hz, q1, q2⟩ := h
  cases rx
  cases ry
  obtain ⟨its, r1, p1, _⟩ := I.tuple ha
  obtain ⟨its2, r2, p2, _⟩ := I.tuple hb
  refine HT.cat_tup p1 p2 (fun z => hx (r1.nil_iff.mp z)) (fun z => ⟨.ref a, H, I, rfl, q1 (r2.nil_iff.mp z)⟩) (fun z => ?_) (by rw [← r1.length, ← r2.length]; exact hz)
  refine ⟨.ref s.heap.objs.size, _, I.laid (t' := s.toks) (o := .tup (xs ++ ys)) (fun b ob q => Heap.get?_push_of_some _ q) (Nat.le_refl _) ?_, rfl, q2 (fun w => z (r2.nil_iff.mpr w)) _ (I.hok.fresh (Nat.le_refl _))⟩
  exact ⟨by rw [List.length_append]; exact hz, _, r1.append r2, IsTup.new _ _⟩
end
end L2
namespace L2
open PySem PySem.Spec PyProof.Rows
noncomputable def ixN (n : Nat) (i : Int) : Option Nat := if 0 ≤ i then (if i < n then some i.toNat else none) else if -(n : Int) ≤ i then some (i + n).toNat else none
noncomputable def atI {α : Type} (xs : List α) (i : Int) : Option α := (ixN xs.length i).bind fun j => xs[j]?
theorem ixN_seq {n : Nat} {i : Int} {j : Nat} (h : ixN n i = some j) : seqIndex? i n = some j ∧ j < n ∧ -(n : Int) ≤ i ∧ i < n := by
  unfold ixN at h
  by_cases h0 : 0 ≤ i
  · rw [if_pos h0] at h
    by_cases h1 : i < n
    · rw [if_pos h1] at h
      have e : i.toNat = j := Option.some.inj h
      exact ⟨by rw [seqIndex_of h0 h1, e], by omega, by omega, h1⟩
    · rw [if_neg h1] at h; cases h
  · rw [if_neg h0] at h
    by_cases h1 : -(n : Int) ≤ i
    · rw [if_pos h1] at h
      have e : (i + n).toNat = j := Option.some.inj h
      exact ⟨by rw [seqIndex_neg (by omega) h1, e], by omega, h1, by omega⟩
    · rw [if_neg h1] at h; cases h
theorem atI_get {α : Type} {xs : List α} {i : Int} {v : α} (h : atI xs i = some v) : ∃ j, seqIndex? i xs.length = some j ∧ xs[j]? = some v ∧ j < xs.length ∧ -(xs.length : Int) ≤ i ∧ i < xs.length := by
  unfold atI at h
  cases e : ixN xs.length i with
  | none => rw [e] at h; cases h
  | some j =>
    rw [e] at h
    obtain ⟨h1, h2, h3, h4⟩ := ixN_seq e
    exact ⟨j, h1, h, h2, h3, h4⟩
theorem atI_nat {α : Type} {xs : List α} {j : Nat} {v : α} (h : xs[j]? = some v) : atI xs (j : Int) = some v := by
  have hj : j < xs.length := (List.getElem?_eq_some_iff.mp h).1
  have e : ixN xs.length (j : Int) = some j := by
    unfold ixN
    rw [if_pos (by omega), if_pos (by omega)]; simp
  unfold atI; rw [e]; exact h
noncomputable def PlainIx (b : Expr) : Prop := ∀ o i, subscripted b false o i = operate [o, i] (getItem o i)
noncomputable def IxR (X : Cx) (r : R2) : Prop :=
  ∀ (value slice : Expr) (pins : List (Addr × Obj)) (s : Shared) (σ : St) (H : Hp) (x y : V) (v u : Value) (Q : VK), Inv X pins σ H s → RelV x v → RelV y u → r x y H Q →
    subscripted slice false v u = operate [v, u] (getItem v u) → wpAny (model X.prog X.w) X.A (subscriptTail value slice v u) (EP X pins σ Q) X.xe s
noncomputable def MtR (X : Cx) (id : String) (r : V → List V → Hp → VK → Prop) : Prop :=
  ∀ (pins : List (Addr × Obj)) (s : Shared) (σ : St) (H : Hp) (x : V) (xs : List V) (v : Value) (us : List Value) (Q : VK), Inv X pins σ H s → RelV x v → Vals xs us → r x xs H Q →
    wpAny (model X.prog X.w) X.A (call (.builtin id) (v :: us)) (EP X pins σ Q) X.xe s
section
variable {X : Cx} {a b : Expr} {ta tb : TE} {pos : Pos}
theorem IxR.or {r r' : R2} (h : IxR X r) (h' : IxR X r') : IxR X (fun x y H Q => r x y H Q ∨ r' x y H Q) := by
  intro value slice pins s σ H x y v u Q I rx ry q hs
  rcases q with q | q
  · exact h value slice pins s σ H x y v u Q I rx ry q hs
  · exact h' value slice pins s σ H x y v u Q I rx ry q hs
theorem MtR.or {id : String} {r r' : V → List V → Hp → VK → Prop} (h : MtR X id r) (h' : MtR X id r') : MtR X id (fun x xs H Q => r x xs H Q ∨ r' x xs H Q) := by
  intro pins s σ H x xs v us Q I rx rs q
  rcases q with q | q
  · exact h pins s σ H x xs v us Q I rx rs q
  · exact h' pins s σ H x xs v us Q I rx rs q
theorem pe_ix {r : R2} (hr : IxR X r) (ha : PE X a ta) (hb : PE X b tb) (hs : PlainIx b) : PE X (.Subscript a b pos) (tOp r ta tb) := by
  intro pins s σ H Q I h
  exact Subscript_ (binT ha hb I h fun v u s2 x y H2 I2 rx ry q => hr a b pins s2 σ H2 x y v u Q I2 rx ry q (hs _ _))
noncomputable def rIxL (K : PySem.W.Frag) : R2 := fun x y H Q => ∃ p xs i v, x = .ref p ∧ y = .int i ∧ SqL K H p xs ∧ atI xs i = some v ∧ Q v H
noncomputable def rIxT (K : PySem.W.Frag) : R2 := fun x y H Q => ∃ p xs i v, x = .ref p ∧ y = .int i ∧ SqT K H p xs ∧ atI xs i = some v ∧ Q v H
noncomputable def rIxS : R2 := fun x y H Q => ∃ z i c, x = .str z ∧ y = .int i ∧ z.length ≤ sizeLine ∧ atI z.cps.toList i = some c ∧ Q (.str ⟨#[c]⟩) H
theorem ix_list : IxR X (rIxL X.K) := by
  intro value slice pins s σ H x y v u Q I rx ry h hs
  obtain ⟨p, xs, i, z, rfl, rfl, hq, he, q⟩ := h
  cases rx
  obtain ⟨t, rfl⟩ := ry
  obtain ⟨its, r, pl, hz⟩ := I.list hq
  obtain ⟨j, h1, h2, h3, h4, h5⟩ := atI_get he
  obtain ⟨w, ew, rw'⟩ := r.get h2
  have hl := r.length
  have hn := line63
  have fin : EP X pins σ Q w s := ⟨z, H, I, rw', q⟩
  by_cases h0 : 0 ≤ i
  · have hj : i.toNat = j := by
      rw [seqIndex_of h0 h5] at h1
      exact Option.some.inj h1
    exact item_listR pl.isList h0 (by omega) (by rw [hj]; simpa using ew) fin hs
  · have hj : (i + (its.toArray.size : Int)).toNat = j := by
      rw [seqIndex_neg (by omega) h4] at h1
      rw [List.size_toArray, ← hl]
      exact Option.some.inj h1
    exact subscriptTail_builtinR (x := w) pl.isList.typeIs slot_list_getitem.lookup
      (wpAny_getItem_list_neg (Q := fun r s' => r = w ∧ EP X pins σ Q r s') pl.isList (by omega) (by rw [List.size_toArray] <;> omega) (by omega) (by rw [hj]; simpa using ew) ⟨rfl, fin⟩) hs
theorem ix_tup : IxR X (rIxT X.K) := by
  intro value slice pins s σ H x y v u Q I rx ry h hs
  obtain ⟨p, xs, i, z, rfl, rfl, hq, he, q⟩ := h
  cases rx
  obtain ⟨t, rfl⟩ := ry
  obtain ⟨its, r, pl, hz⟩ := I.tuple hq
  obtain ⟨j, h1, h2, h3, h4, h5⟩ := atI_get he
  obtain ⟨w, ew, rw'⟩ := r.get h2
  have hl := r.length
  have hn := line63
  have fin : EP X pins σ Q w s := ⟨z, H, I, rw', q⟩
  exact subscriptTail_builtinR (x := w) pl.typeIs slot_tuple_getitem.lookup
    (getItem_tuple (j := j) (Q := fun r s' => r = w ∧ EP X pins σ Q r s') pl (by omega) (by omega) (by rw [List.size_toArray, ← hl]; exact h1) (by simpa using ew) ⟨rfl, fin⟩) hs
theorem ix_str : IxR X rIxS := by
  intro value slice pins s σ H x y v u Q I rx ry h hs
  obtain ⟨z, i, c, rfl, rfl, hz, he, q⟩ := h
  obtain ⟨t, rfl⟩ := rx
  obtain ⟨t', rfl⟩ := ry
  obtain ⟨j, h1, h2, h3, h4, h5⟩ := atI_get he
  have hl : z.cps.toList.length = z.length := by simp [Str.length]
  rw [hl] at h1 h4 h5
  have hn := line63
  exact tail_any (typeIs_str s z t) slot_str_getitem.lookup (getItem_str (c := c) (by
    have e1 : decide (i < -(2 ^ 63 : Int)) = false := decide_eq_false (by omega)
    have e2 : decide (i ≥ 2 ^ 63) = false := decide_eq_false (by omega)
    rw [e1, e2, Bool.or_false]) (by rw [h1]; simpa using h2) ⟨.str ⟨#[c]⟩, H, I.tok _, ⟨_, rfl⟩, q⟩) hs
noncomputable def rIx (K : PySem.W.Frag) : R2 := fun x y H Q => rIxL K x y H Q ∨ rIxT K x y H Q ∨ rIxS x y H Q
theorem ix_seq : IxR X (rIx X.K) := ix_list.or (ix_tup.or ix_str)
theorem Inv.lst {pins : List (Addr × Obj)} {σ : St} {H : Hp} {s : Shared} {p : Addr} {xs : List V} (I : Inv X pins σ H s) (h : H p = some (.lst xs)) :
    ∃ (its : List Value) (n : Nat), Vals xs its ∧ s.heap.get? p = some { cls := .type "list", data := .seq its.toArray n } ∧ xs.length ≤ sizeLine := by
  obtain ⟨z, its, n, r, e⟩ := I.hok p _ h
  exact ⟨its, n, r, e, z⟩
noncomputable def flatV : V → Bool
  | .non => true
  | .bl _ => true
  | .int _ => true
  | .str _ => true
  | _ => false
noncomputable def eqV : V → V → Bool
  | .non, .non => true
  | .bl a, .bl b => a == b
  | .bl a, .int b => (if a then 1 else 0) == b
  | .int a, .bl b => a == (if b then 1 else 0)
  | .int a, .int b => a == b
  | .str a, .str b => a == b
  | _, _ => false
theorem eqAt_V {A : Around} {s : Shared} {y x : V} {u v : Value} (ry : RelV y u) (rx : RelV x v) (fy : flatV y = true) (fx : flatV x = true) : SeqAt.EqAt A s u v (eqV y x) := by
  cases y with
  | non =>
    cases ry
    cases x with
    | non => cases rx; exact SeqAt.EqAt.same _
    | bl b => cases rx; exact SeqAt.EqAt.none_bool b
    | int b => obtain ⟨t, rfl⟩ := rx; exact SeqAt.EqAt.none_int b t
    | str b => obtain ⟨t, rfl⟩ := rx; exact SeqAt.EqAt.none_str b t
    | _ => exact absurd (show false = true from fx) Bool.false_ne_true
  | bl a =>
    cases ry
    cases x with
    | non => cases rx; exact SeqAt.EqAt.bool_none a
    | bl b => cases rx; exact SeqAt.EqAt.bool_bool a b
    | int b => obtain ⟨t, rfl⟩ := rx; exact SeqAt.EqAt.bool_int a b t
    | str b => obtain ⟨t, rfl⟩ := rx; exact SeqAt.EqAt.bool_str a b t
    | _ => exact absurd (show false = true from fx) Bool.false_ne_true
  | int a =>
    obtain ⟨t', rfl⟩ := ry
    cases x with
    | non => cases rx; exact SeqAt.EqAt.int_none a t'
    | bl b => cases rx; exact SeqAt.EqAt.int_bool a t' b
    | int b => obtain ⟨t, rfl⟩ := rx; exact SeqAt.EqAt.int_int a t' b t
    | str b => obtain ⟨t, rfl⟩ := rx; exact SeqAt.EqAt.int_str a t' b t
    | _ => exact absurd (show false = true from fx) Bool.false_ne_true
  | str a =>
    obtain ⟨t', rfl⟩ := ry
    cases x with
    | non => cases rx; exact SeqAt.EqAt.str_none a t'
    | bl b => cases rx; exact SeqAt.EqAt.str_bool a t' b
    | int b => obtain ⟨t, rfl⟩ := rx; exact SeqAt.EqAt.str_int a t' b t
    | str b => obtain ⟨t, rfl⟩ := rx; exact SeqAt.EqAt.str_str a t' b t
    | _ => exact absurd (show false = true from fx) Bool.false_ne_true
  | _ => exact absurd (show false = true from fy) Bool.false_ne_true
noncomputable def eqU (x : V) (u : Value) : Bool := match u with
  | .none => eqV .non x
  | .bool b => eqV (.bl b) x
  | .int i _ => eqV (.int i) x
  | .str z _ => eqV (.str z) x
  | _ => false
theorem eqU_of {x y : V} {u : Value} (r : RelV y u) (f : flatV y = true) : eqU x u = eqV y x := by
  cases y with
  | non => cases r; rfl
  | bl b => cases r; rfl
  | int i => obtain ⟨t, rfl⟩ := r; rfl
  | str z => obtain ⟨t, rfl⟩ := r; rfl
  | _ => exact absurd (show false = true from f) Bool.false_ne_true
theorem any_eqU {x : V} : ∀ {xs : List V} {us : List Value}, Vals xs us → xs.all flatV = true → us.any (eqU x) = xs.any fun y => eqV y x
  | _, _, .nil, _ => rfl
  | y :: xs, u :: us, .cons r t, f => by
    rw [List.all_cons, Bool.and_eq_true] at f
    rw [List.any_cons, List.any_cons, eqU_of r f.1, any_eqU t f.2]
theorem mem_eqAt {A : Around} {s : Shared} {x : V} {v : Value} (rx : RelV x v) (fx : flatV x = true) : ∀ {xs : List V} {us : List Value}, Vals xs us → xs.all flatV = true → ∀ u ∈ us, SeqAt.EqAt A s u v (eqU x u)
  | _, _, .nil, _ => fun u hu => by cases hu
  | y :: xs, u :: us, .cons r t, f => fun u' hu => by
    rw [List.all_cons, Bool.and_eq_true] at f
    rcases List.mem_cons.mp hu with rfl | hu
    · rw [eqU_of r f.1]; exact eqAt_V r rx f.1 fx
    · exact mem_eqAt rx fx t f.2 u' hu
noncomputable def inV (x : V) (xs : List V) : Bool := xs.any fun y => eqV y x
noncomputable def rIn (K : PySem.W.Frag) (neg : Bool) : R2 := fun x y H Q => ∃ p xs, y = .ref p ∧ (SqL K H p xs ∨ SqT K H p xs) ∧ flatV x = true ∧ xs.all flatV = true ∧ Q (.bl (if neg then !inV x xs else inV x xs)) H
theorem op_in_seq : OpR X (compareOp .In) (rIn X.K false) := by
  intro pins s σ H x y v u Q I rx ry h
  obtain ⟨p, xs, rfl, hq, fx, fs, q⟩ := h
  cases ry
  rcases hq with hq | hq
  · obtain ⟨its, r, pl, hz⟩ := I.list hq
    refine SeqAt.in_listAt (eqU x) pl.isList (fun w hw => mem_eqAt rx fx r fs w (by simpa using hw)) ⟨.bl _, H, I, rfl, ?_⟩
    rw [show its.toArray.any (eqU x) = its.any (eqU x) by simp, any_eqU r fs]
    exact q
  · obtain ⟨its, r, pl, hz⟩ := I.tuple hq
    refine SeqAt.in_tupleAt (eqU x) pl (fun w hw => mem_eqAt rx fx r fs w (by simpa using hw)) ⟨.bl _, H, I, rfl, ?_⟩
    rw [show its.toArray.any (eqU x) = its.any (eqU x) by simp, any_eqU r fs]
    exact q
theorem op_notIn_seq : OpR X (compareOp .NotIn) (rIn X.K true) := by
  intro pins s σ H x y v u Q I rx ry h
  obtain ⟨p, xs, rfl, hq, fx, fs, q⟩ := h
  cases ry
  rcases hq with hq | hq
  · obtain ⟨its, r, pl, hz⟩ := I.list hq
    refine SeqAt.notIn_listAt (eqU x) pl.isList (fun w hw => mem_eqAt rx fx r fs w (by simpa using hw)) ⟨.bl _, H, I, rfl, ?_⟩
    rw [show its.toArray.any (eqU x) = its.any (eqU x) by simp, any_eqU r fs]
    exact q
  · obtain ⟨its, r, pl, hz⟩ := I.tuple hq
    refine SeqAt.notIn_tupleAt (eqU x) pl (fun w hw => mem_eqAt rx fx r fs w (by simpa using hw)) ⟨.bl _, H, I, rfl, ?_⟩
    rw [show its.toArray.any (eqU x) = its.any (eqU x) by simp, any_eqU r fs]
    exact q
theorem CallR.or {f : Value} {r r' : List V → Hp → VK → Prop} (h : CallR X f r) (h' : CallR X f r') : CallR X f (fun xs H Q => r xs H Q ∨ r' xs H Q) := by
  intro pins s σ H xs us Q I rs q
  rcases q with q | q
  · exact h pins s σ H xs us Q I rs q
  · exact h' pins s σ H xs us Q I rs q
theorem call_list_of : CallR X (.type "list") (fun xs H Q => ∃ p ys, xs = [.ref p] ∧ (SqL X.K H p ys ∨ SqT X.K H p ys) ∧ ∀ l, H l = none → Q (.ref l) (upd H l (.lst ys))) := by
  intro pins s σ H xs us Q I r h
  obtain ⟨p, ys, rfl, hq, q⟩ := h
  obtain ⟨u, rfl, rx⟩ := vals1 r
  cases rx
  have fin : ∀ (its : List Value), Vals ys its → ys.length ≤ sizeLine → ∀ (h' : Heap) (c' : Nat), (∀ b o', s.heap.get? b = some o' → h'.get? b = some o') →
      h'.get? s.heap.objs.size = some { cls := .type "list", dict := none, data := .seq its.toArray c', slots := #[] } → EP X pins σ Q (.ref s.heap.objs.size) { s with heap := h' } := fun its r' hz h' c' kp e =>
    ⟨.ref s.heap.objs.size, _, I.laid (t' := s.toks) kp (Nat.le_refl _) (show ObjOk X.prog X.w _ h' _ (.lst ys) from ⟨hz, its, c', r', e⟩), rfl, q _ (I.hok.fresh (Nat.le_refl _))⟩
  rcases hq with hq | hq
  · obtain ⟨its, r', pl, hz⟩ := I.list hq
    have hlen := r'.length
    obtain ⟨o, ho, hc, n, hd⟩ := pl.isList
    exact call_list_seq p (.inl rfl) ho hc hd (fun h' c' kp e => fin its r' hz h' c' kp e) (by simp only [List.size_toArray] <;> omega)
  · obtain ⟨its, r', pl, hz⟩ := I.tuple hq
    have hlen := r'.length
    obtain ⟨o, ho, hc, n, hd⟩ := pl
    exact call_list_seq p (.inr rfl) ho hc hd (fun h' c' kp e => fin its r' hz h' c' kp e) (by simp only [List.size_toArray] <;> omega)
theorem call_tuple_of : CallR X (.type "tuple") (fun xs H Q => ∃ p ys, xs = [.ref p] ∧ ((SqL X.K H p ys ∧ ∀ l, H l = none → Q (.ref l) (upd H l (.tup ys))) ∨ (SqT X.K H p ys ∧ Q (.ref p) H))) := by
  intro pins s σ H xs us Q I r h
  obtain ⟨p, ys, rfl, h⟩ := h
  obtain ⟨u, rfl, rx⟩ := vals1 r
  cases rx
  rcases h with ⟨hq, q⟩ | ⟨hq, q⟩
  · obtain ⟨its, r', pl, hz⟩ := I.list hq
    have hlen := r'.length
    refine call_tuple_list pl.isList (fun h' kp => ?_) (by simp only [List.size_toArray] <;> omega)
    have I1 : Inv X pins σ H { s with heap := h' } := I.kept (t' := s.toks) kp
    have I2 : Inv X pins σ (upd H h'.objs.size (.tup ys)) { s with heap := h'.push { cls := .type "tuple", data := .seq its.toArray } } :=
      I1.laid (t' := s.toks) (fun b o e => Heap.get?_push_of_some _ e) (Nat.le_refl _) (show ObjOk X.prog X.w _ _ _ (.tup ys) from ⟨hz, its, r', IsTup.new _ _⟩)
    exact ⟨.ref h'.objs.size, _, I2, rfl, q _ (I1.hok.fresh (Nat.le_refl _))⟩
  · obtain ⟨its, r', pl, hz⟩ := I.tuple hq
    exact call_tuple_same pl ⟨.ref p, H, I, rfl, q⟩
noncomputable def tyV (K : PySem.W.Frag) (T : String) (x : V) (H : Hp) : Prop := match x with
  | .str _ => T = "str"
  | .int _ => T = "int"
  | .ref p => (T = "list" ∧ ∃ xs, SqL K H p xs) ∨ (T = "tuple" ∧ ∃ o, K.lookup p = some o ∧ o.cls = .type "tuple" ∧ o.dict = none) ∨
      (T = "dict" ∧ ((∃ kvs, H p = some (.dK kvs)) ∨ ∃ kvs, H p = some (.dT kvs))) ∨ (T = "set" ∧ ∃ S n, H p = some (.set S n))
  | _ => False
theorem tyV_is {pins : List (Addr × Obj)} {σ : St} {H : Hp} {s : Shared} {T : String} {x : V} {v : Value} (I : Inv X pins σ H s) (r : RelV x v) (ty : tyV X.K T x H) :
    s.TypeIs v T ∧ ∀ a, v = .ref a → ∃ ob, s.heap.get? a = some ob ∧ ob.dict = none := by
  cases x with
  | str z =>
    obtain ⟨t, rfl⟩ := r
    cases (show T = "str" from ty)
    exact ⟨typeIs_str s z t, fun _ e => nomatch e⟩
  | int i =>
    obtain ⟨t, rfl⟩ := r
    cases (show T = "int" from ty)
    exact ⟨typeIs_int s i t, fun _ e => nomatch e⟩
  | ref p =>
    cases r
    rcases ty with ⟨rfl, xs, hq⟩ | ⟨rfl, o, hk, hc, hd⟩ | ⟨rfl, hk⟩ | ⟨rfl, S, n, hk⟩
    · obtain ⟨its, _, pl, _⟩ := I.list hq
      refine ⟨pl.isList.typeIs, fun a e => ?_⟩
      cases e
      obtain ⟨o, n, e, c, hd, _⟩ := pl
      exact ⟨o, e, hd⟩
    · refine ⟨⟨o, I.kIn p o hk, hc⟩, fun a e => ?_⟩
      cases e
      exact ⟨o, I.kIn _ o hk, hd⟩
    · have z : ∃ o, s.heap.get? p = some o ∧ o.ExactDict := by
        rcases hk with ⟨kvs, hk⟩ | ⟨kvs, hk⟩
        · obtain ⟨_, _, _, _, o, _, _, e, ex, _⟩ := I.hok p _ hk
          exact ⟨o, e, ex⟩
        · obtain ⟨_, _, _, _, o, _, _, e, ex, _⟩ := I.hok p _ hk
          exact ⟨o, e, ex⟩
      obtain ⟨o, e, ex⟩ := z
      refine ⟨⟨o, e, ex.1⟩, fun a e2 => ?_⟩
      cases e2
      exact ⟨o, e, ex.2.1⟩
    · obtain ⟨o, _, _, _, e, ex, _⟩ := I.hok p _ hk
      refine ⟨⟨o, e, ex.1⟩, fun a e2 => ?_⟩
      cases e2
      exact ⟨o, e, ex.2.1⟩
  | _ => exact False.elim ty
noncomputable def tBM0 (K : PySem.W.Frag) (T : String) (r : V → List V → Hp → VK → Prop) (to : TE) : TE := fun σ H Q => to σ H fun x H1 => tyV K T x H1 ∧ r x [] H1 Q
noncomputable def tBM (K : PySem.W.Frag) (T : String) (r : V → List V → Hp → VK → Prop) (to : TE) (t : TA) : TE := fun σ H Q => to σ H fun x H1 => tyV K T x H1 ∧ t σ H1 fun xs H2 => r x xs H2 Q
variable {o e : Expr} {es : List Expr} {to : TE} {t : TA} {name : Str} {apos cpos : Pos} {T id : String} {r : V → List V → Hp → VK → Prop}
theorem pe_bm (pa : PlainAttrs T) (slot : Slot T name id) (hty : typeOf (.builtin id) = pure (.type "method_descriptor")) (hm : MtR X id r) (ho : PE X o to) (ha : PA X (e :: es) t)
    (hbase : attributeBase o name X.env (eval o X.env) = eval o X.env := by rfl)
    (hfew : ((backTo cpos (starEach (e :: es) X.env)).all (fun x => !x.1) && (backToKw cpos (keywordEach [] X.env)).all (fun x => x.1.isSome)
      && decide ((e :: es).length + ([] : List Keyword).length + (if ([] : List Keyword).isEmpty then 0 else 1) < 30)) = true := by rfl)
    (hline : (apos.endLine == cpos.line) = true := by rfl) (hs : starEach (e :: es) X.env = (false, eval e X.env) :: starEach es X.env := by rfl) (hplain : (backTo cpos (starEach es X.env)).any (·.1) = false := by rfl) :
    PE X (.Call (.Attribute o name apos) (e :: es) [] cpos) (tBM X.K T r to t) := by
  intro pins s σ H Q I h
  refine wpAny_Call_method_late hbase hfew hline rfl (thn (ho pins s σ H _ I h) fun v s1 ⟨x, H1, I1, r1, ty, q1⟩ => ?_)
  obtain ⟨h1, h2⟩ := tyV_is I1 r1 ty
  refine ⟨T, id, pa, slot, hty, h1, h2, ?_⟩
  have hA := ha cpos pins s1 σ H1 _ I1 q1
  rw [hs] at hA ⊢
  refine Calls.callWith_builtin (by show (false || (backTo cpos (starEach es X.env)).any (·.1)) = false; rw [hplain] <;> rfl) (Calls.evalArgs_plain ?_)
  exact thn hA fun us s2 ⟨vs, H2, I2, r2, q2⟩ => hm pins s2 σ H2 x vs v us Q I2 r1 r2 q2
end
end L2
namespace L2
open PySem PySem.Spec PyProof.Rows
noncomputable def MtM (X : Cx) (id : String) (r : V → List V → Hp → VK → Prop) : Prop :=
  ∀ (pins : List (Addr × Obj)) (s : Shared) (σ : St) (H : Hp) (x : V) (xs : List V) (v : Value) (us : List Value) (Q : VK), Inv X pins σ H s → RelV x v → Vals xs us → r x xs H Q →
    wpAny (model X.prog X.w) X.A (call (.builtin id) (v :: us)) (EP X pins σ Q) X.xe s
theorem Vals.one : ∀ {x : V} {us : List Value}, Vals [x] us → ∃ u, us = [u] ∧ RelV x u
  | _, _, .cons r .nil => ⟨_, rfl, r⟩
theorem Vals.zero : ∀ {us : List Value}, Vals [] us → us = []
  | _, .nil => rfl
theorem Vals.eraseIdx : ∀ {xs : List V} {us : List Value} (i : Nat), Vals xs us → Vals (xs.eraseIdx i) (us.eraseIdx i)
  | _, _, _, .nil => .nil
  | _, _, 0, .cons _ t => t
  | _, _, i + 1, .cons r t => .cons r (Vals.eraseIdx i t)
theorem Vals.rep {xs : List V} {us : List Value} (h : Vals xs us) : ∀ k : Nat, Vals (List.replicate k xs).flatten (List.replicate k us).flatten
  | 0 => .nil
  | k + 1 => by
    rw [List.replicate_succ, List.replicate_succ, List.flatten_cons, List.flatten_cons]
    exact Vals.append h (Vals.rep h k)
theorem len_erase {α : Type} : ∀ (l : List α) (i : Nat), (l.eraseIdx i).length ≤ l.length
  | [], _ => Nat.le_refl _
  | _ :: _, 0 => Nat.le_succ _
  | _ :: r, i + 1 => Nat.succ_le_succ (len_erase r i)
theorem foldl_rep (its : List Value) : ∀ (k : Nat) (acc : List Value),
    List.foldl (fun x1 x2 => x1 ++ x2) acc.toArray (List.replicate k its.toArray) = (acc ++ (List.replicate k its).flatten).toArray
  | 0, acc => by simp
  | k + 1, acc => by
    have e : acc.toArray ++ its.toArray = (acc ++ its).toArray := by simp
    have e2 : (acc ++ its) ++ (List.replicate k its).flatten = acc ++ (List.replicate (k + 1) its).flatten := by
      rw [List.replicate_succ, List.flatten_cons, List.append_assoc]
    rw [← e2, ← foldl_rep its k (acc ++ its), ← e, List.replicate_succ, List.foldl_cons]
section
variable {X : Cx} {pins : List (Addr × Obj)} {σ : St} {H : Hp} {s : Shared} {l b : Addr} {xs ys zs : List V}
theorem Inv.lset {its its' : List Value} {n : Nat} {f : Array Value → Array Value} {t' : Nat} (I : Inv X pins σ H s) (hH : H l = some (.lst xs))
    (e : s.heap.get? l = some { cls := .type "list", data := .seq its.toArray n }) (hf : f its.toArray = its'.toArray) (hv : Vals ys its') (hz : ys.length ≤ sizeLine) :
    Inv X pins σ (upd H l (.lst ys)) { s with heap := s.heap.update l (Obj.mapSeq f), toks := t' } := by
  have q := PySem.IsL.update e f
  rw [hf] at q
  refine I.write (x := l) (e := l) (by rw [hH]; exact trivial) (.inl rfl) (fun b' u hb hu => (Heap.get?_update_other s.heap (Obj.mapSeq f) (Ne.symm hb)).trans hu) ⟨_, q⟩ ?_
  exact ⟨hz, its', _, hv, q⟩
theorem Inv.lnew {its : List Value} {t' : Nat} (I : Inv X pins σ H s) (hv : Vals ys its) (hz : ys.length ≤ sizeLine) :
    Inv X pins σ (upd H s.heap.objs.size (.lst ys)) { s with heap := s.heap.push { cls := .type "list", data := .seq its.toArray }, toks := t' } :=
  I.laid (fun _ _ q => Heap.get?_push_of_some _ q) (Nat.le_refl _) ⟨hz, its, 0, hv, Heap.get?_push_size _ rfl⟩
theorem Inv.fresh (I : Inv X pins σ H s) : H s.heap.objs.size = none := I.hok.fresh (Nat.le_refl _)
theorem Inv.lstM (I : Inv X pins σ H s) (hH : H l = some (.lst xs)) : xs.length ≤ sizeLine ∧ ∃ (its : List Value) (n : Nat), Vals xs its ∧ xs.length = its.length ∧ s.heap.get? l = some { cls := .type "list", data := .seq its.toArray n } := by
  obtain ⟨z, its, n, r, e⟩ := I.hok l _ hH
  exact ⟨z, its, n, r, r.length, e⟩
theorem notLongL {n : Nat} (h : n ≤ sizeLine) : Builtin.List.listTooLong n = false := by
  unfold Builtin.List.listTooLong
  exact decide_eq_false (by omega)
end
section
variable {X : Cx}
noncomputable def rAppend : V → List V → Hp → VK → Prop := fun x vs H Q => ∃ l xs y, x = .ref l ∧ vs = [y] ∧ H l = some (.lst xs) ∧ xs.length < sizeLine ∧ Q .non (upd H l (.lst (xs ++ [y])))
theorem mt_append : MtM X "list.append" rAppend := by
  intro pins s σ H x vs v us Q I rx rv h
  obtain ⟨l, xs, y, rfl, rfl, hH, hz, q⟩ := h
  cases rx
  obtain ⟨u, rfl, ru⟩ := rv.one
  obtain ⟨z, its, n, r, hl, e⟩ := I.lstM hH
  refine call_meets F.slot_list_append ⟨_, e, rfl⟩ F.entry_list_append (F.args_list_append_2 _ _) (PySem.list_append l its.toArray n u (by rw [List.size_toArray]; omega)) ⟨e, ?_⟩
  refine ⟨.non, _, I.lset (its' := its ++ [u]) hH e (by simp) (r.append (.cons ru .nil)) ?_, rfl, q⟩
  rw [List.length_append, List.length_singleton]
  omega
noncomputable def rPopAt : V → List V → Hp → VK → Prop := fun x vs H Q => ∃ l xs i k y, x = .ref l ∧ vs = [.int i] ∧ H l = some (.lst xs) ∧ -(2 ^ 63) ≤ i ∧ i < 2 ^ 63 ∧ seqIndex? i xs.length = some k ∧ xs[k]? = some y ∧ Q y (upd H l (.lst (xs.eraseIdx k)))
theorem mt_popAt : MtM X "list.pop" rPopAt := by
  intro pins s σ H x vs v us Q I rx rv h
  obtain ⟨l, xs, i, k, y, rfl, rfl, hH, h1, h2, hk, hy, q⟩ := h
  cases rx
  obtain ⟨u, rfl, ru⟩ := rv.one
  obtain ⟨t, rfl⟩ := ru
  obtain ⟨z, its, n, r, hl, e⟩ := I.lstM hH
  obtain ⟨w, hw, rw'⟩ := r.get hy
  refine call_meets F.slot_list_pop ⟨_, e, rfl⟩ F.entry_list_pop (F.args_list_pop_2 _ _)
    (MeetsSeq.list_pop_at l its.toArray n i t k w (fitsIndex_both h1 h2) (by rw [List.size_toArray, ← hl]; exact hk) (by rw [← Array.getElem?_toList]; exact hw) (by rw [List.size_toArray]; omega)) ⟨e, ?_⟩
  refine ⟨y, _, I.lset (its' := its.eraseIdx k) hH e ?_ (r.eraseIdx k) ?_, rw', q⟩
  · show its.toArray.eraseIdxIfInBounds k = (its.eraseIdx k).toArray
    rw [List.eraseIdxIfInBounds_toArray]
  · have := len_erase xs k
    omega
noncomputable def rCat : R2 := fun x y H Q => ∃ l b xs zs, x = .ref l ∧ y = .ref b ∧ H l = some (.lst xs) ∧ H b = some (.lst zs) ∧ xs.length + zs.length ≤ sizeLine ∧ ∀ p, H p = none → Q (.ref p) (upd H p (.lst (xs ++ zs)))
theorem op_cat : OpR X (binaryOp .Add) rCat := by
  intro pins s σ H x y v u Q I rx ry h
  obtain ⟨l, b, xs, zs, rfl, rfl, hH, hB, hz, q⟩ := h
  cases rx
  cases ry
  obtain ⟨z, its, n, r, hl, e⟩ := I.lstM hH
  obtain ⟨z2, its2, n2, r2, hl2, e2⟩ := I.lstM hB
  refine PySem.P.add_list e e2 ?_ (by rw [List.size_toArray, List.size_toArray]; omega)
  have ea : its.toArray ++ its2.toArray = (its ++ its2).toArray := by simp
  rw [ea]
  exact ⟨.ref _, _, I.lnew (t' := s.toks) (r.append r2) (by rw [List.length_append]; omega), rfl, q _ I.fresh⟩
noncomputable def rRep : R2 := fun x y H Q => ∃ l k xs, x = .ref l ∧ y = .int k ∧ H l = some (.lst xs) ∧ -(2 ^ 63) ≤ k ∧ k < 2 ^ 63 ∧ xs.length * k.toNat ≤ sizeLine ∧
  ∀ p, H p = none → Q (.ref p) (upd H p (.lst (List.replicate k.toNat xs).flatten))
theorem len_rep {α : Type} (xs : List α) (k : Nat) : (List.replicate k xs).flatten.length = k * xs.length := by
  induction k with
  | zero => simp
  | succ k ih => rw [List.replicate_succ, List.flatten_cons, List.length_append, ih, Nat.succ_mul, Nat.add_comm]
theorem op_rep : OpR X (binaryOp .Mult) rRep := by
  intro pins s σ H x y v u Q I rx ry h
  obtain ⟨l, k, xs, rfl, rfl, hH, h1, h2, hz, q⟩ := h
  cases rx
  obtain ⟨t, rfl⟩ := ry
  obtain ⟨z, its, n, r, hl, e⟩ := I.lstM hH
  have hlen : its.toArray.size * k.toNat ≤ sizeLine := by rw [List.size_toArray, ← hl]; exact hz
  have hcap : ¬ its.toArray.size * k.toNat > (2 ^ 63 - 1) / 8 := by
    have : (sizeLine : Nat) ≤ (2 ^ 63 - 1) / 8 := by decide
    omega
  have hfit : ¬ (!Builtin.List.listFitsIndex k) = true := by
    rw [fitsIndex_both h1 h2]
    exact Bool.false_ne_true
  have hlong : ¬ Builtin.List.listTooLong (its.toArray.size * k.toNat) = true := by
    rw [notLongL hlen]
    exact Bool.false_ne_true
  have hnew : List.foldl (fun x1 x2 => x1 ++ x2) #[] (List.replicate (if its.toArray.isEmpty = true then 0 else k.toNat) its.toArray) = (List.replicate k.toNat its).flatten.toArray := by
    have f0 : ∀ m : Nat, List.foldl (fun x1 x2 => x1 ++ x2) #[] (List.replicate m its.toArray) = (List.replicate m its).flatten.toArray := fun m => by
      have := foldl_rep its m []
      rw [List.nil_append] at this
      exact this
    rw [f0]
    cases its with
    | nil => simp
    | cons a r' => rw [if_neg (by simp)]
  refine wpAny_binaryOp_repeat_ref (T := "list") (U := "int") (by decide) ⟨_, e, rfl⟩ (fun s' => typeIs_int s' k t) noFill_list_mul F.fills_int_mul F.slot_int_rmul repeat_list F.slot_int_index.lookup
    (call_meets F.slot_int_rmul (typeIs_int s k t) F.entry_int_rmul (F.args_int_rmul_2 _ _) (int___rmul___int_list k t l its.toArray n)
      ⟨e, rfl, ⟨_, e, rfl⟩, call_meets F.slot_list_mul ⟨_, e, rfl⟩ F.entry_list_mul (F.args_list_mul_2 _ _) (AutoListH.list___mul___list_int_3 l its.toArray n k t hfit hcap hlong) ⟨e, ?_⟩⟩)
  rw [hnew]
  exact ⟨.ref _, _, I.lnew (t' := s.toks) (r.rep k.toNat) (by rw [len_rep, Nat.mul_comm]; exact hz), rfl, q _ I.fresh⟩
end
section
variable {prog : Program} {w : World} {A : Around} {E : Value → Shared → Prop} {s : Shared}
end
section
variable {X : Cx}
end
end L2
namespace L2
open PySem PySem.Spec PyProof.Rows
section
variable {κ : Type} [DecidableEq κ]
noncomputable def valV (kvs : List (κ × V)) (k : κ) : Option V := (kvs.find? fun kv => decide (kv.1 = k)).map (·.2)
noncomputable def putK (kvs : List (κ × V)) (k : κ) (v : V) : List (κ × V) :=
  if (kvs.any fun kv => decide (kv.1 = k)) = true then kvs.map (fun kv => if kv.1 = k then (kv.1, v) else kv) else kvs ++ [(k, v)]
noncomputable def dropK (kvs : List (κ × V)) (k : κ) : List (κ × V) := kvs.filter fun kv => decide (kv.1 ≠ k)
theorem valV_pos {p : κ × V} {r : List (κ × V)} {k : κ} (e : p.1 = k) : valV (p :: r) k = some p.2 := by simp [valV, List.find?_cons, e]
theorem valV_neg {p : κ × V} {r : List (κ × V)} {k : κ} (e : ¬ p.1 = k) : valV (p :: r) k = valV r k := by simp [valV, List.find?_cons, e]
theorem valV_any (k : κ) : ∀ kvs : List (κ × V), (kvs.any fun kv => decide (kv.1 = k)) = (valV kvs k).isSome
  | [] => rfl
  | p :: r => by
    rw [List.any_cons]
    by_cases e : p.1 = k
    · simp only [valV_pos e, decide_eq_true e, Bool.true_or, Option.isSome_some]
    · rw [valV_neg e, decide_eq_false e, Bool.false_or]; exact valV_any k r
theorem length_putK (kvs : List (κ × V)) (k : κ) (v : V) : (putK kvs k v).length ≤ kvs.length + 1 := by
  unfold putK
  split
  · rw [List.length_map]; omega
  · rw [List.length_append, List.length_cons, List.length_nil]; omega
theorem putK_new {kvs : List (κ × V)} {k : κ} (v : V) (h : valV kvs k = none) : putK kvs k v = kvs ++ [(k, v)] := by
  unfold putK
  rw [valV_any, h]
  exact if_neg (by decide)
theorem RelO.isSome_eq {o : Option V} {u : Option Value} (r : RelO o u) : o.isSome = u.isSome := by
  cases o with
  | none => cases u with
    | none => rfl
    | some _ => exact (show False from r).elim
  | some _ => cases u with
    | none => exact (show False from r).elim
    | some _ => rfl
theorem RelO.getD {o : Option V} {u : Option Value} {d : V} {d' : Value} (r : RelO o u) (rd : RelV d d') : RelV (o.getD d) (u.getD d') := by
  cases o with
  | none => cases u with
    | none => exact rd
    | some _ => exact (show False from r).elim
  | some _ => cases u with
    | none => exact (show False from r).elim
    | some _ => exact r
theorem KV.val {kvs : List (κ × V)} {vs : List (κ × Value)} (r : KV kvs vs) (k : κ) : RelO (valV kvs k) (valueAt vs k) := by
  unfold KV at r
  induction r with
  | nil => exact True.intro
  | @cons p q ps qs h t ih =>
    obtain ⟨h1, h2⟩ := h
    by_cases e : p.1 = k
    · have e' : q.1 = k := h1.symm.trans e
      have b : valueAt (q :: qs) k = some q.2 := by simp [valueAt, List.find?_cons, e']
      rw [valV_pos e, b]; exact h2
    · have e' : ¬ q.1 = k := fun z => e (h1.trans z)
      have b : valueAt (q :: qs) k = valueAt qs k := by simp [valueAt, List.find?_cons, e']
      rw [valV_neg e, b]; exact ih
theorem KV.any {kvs : List (κ × V)} {vs : List (κ × Value)} (r : KV kvs vs) (k : κ) : (kvs.any fun kv => decide (kv.1 = k)) = vs.any fun kv => decide (kv.1 = k) := by
  unfold KV at r
  induction r with
  | nil => rfl
  | cons h t ih => rw [List.any_cons, List.any_cons, ih, h.1]
theorem KV.repl {kvs : List (κ × V)} {vs : List (κ × Value)} (r : KV kvs vs) (k : κ) {y : V} {u : Value} (ry : RelV y u) :
    KV (kvs.map fun kv => if kv.1 = k then (kv.1, y) else kv) (vs.map fun kv => if kv.1 = k then (kv.1, u) else kv) := by
  unfold KV at r ⊢
  induction r with
  | nil => exact .nil
  | @cons p q ps qs h t ih =>
    rw [List.map_cons, List.map_cons]
    refine .cons ?_ ih
    obtain ⟨h1, h2⟩ := h
    by_cases e : p.1 = k
    · rw [if_pos e, if_pos (h1.symm.trans e)]; exact ⟨h1, ry⟩
    · rw [if_neg e, if_neg (fun z => e (h1.trans z))]; exact ⟨h1, h2⟩
theorem KV.put {kvs : List (κ × V)} {vs : List (κ × Value)} (r : KV kvs vs) (k : κ) {y : V} {u : Value} (ry : RelV y u) : KV (putK kvs k y) (stored vs k u) := by
  unfold putK stored
  rw [r.any k]
  by_cases e : (vs.any fun kv => decide (kv.1 = k)) = true
  · rw [if_pos e, if_pos e]; exact r.repl k ry
  · rw [if_neg e, if_neg e]; exact Paired.snoc r ⟨rfl, ry⟩
theorem KV.drop {kvs : List (κ × V)} {vs : List (κ × Value)} (r : KV kvs vs) (k : κ) : KV (dropK kvs k) (without vs k) := by
  unfold KV at r ⊢
  unfold dropK without
  induction r with
  | nil => exact .nil
  | @cons p q ps qs h t ih =>
    obtain ⟨h1, h2⟩ := h
    rw [List.filter_cons, List.filter_cons]
    by_cases e : p.1 = k
    · have a : ¬ decide (p.1 ≠ k) = true := by simp [e]
      have b : ¬ decide (q.1 ≠ k) = true := by simp [h1.symm.trans e]
      rw [if_neg a, if_neg b]; exact ih
    · have e' : ¬ q.1 = k := fun z => e (h1.trans z)
      have a : decide (p.1 ≠ k) = true := by simp [e]
      have b : decide (q.1 ≠ k) = true := by simp [e']
      rw [if_pos a, if_pos b]; exact .cons ⟨h1, h2⟩ ih
theorem KV.keys {kvs : List (κ × V)} {vs : List (κ × Value)} (r : KV kvs vs) : kvs.map (·.1) = vs.map (·.1) := by
  unfold KV at r
  induction r with
  | nil => rfl
  | cons h t ih => rw [List.map_cons, List.map_cons, ih, h.1]
theorem KV.length {kvs : List (κ × V)} {vs : List (κ × Value)} (r : KV kvs vs) : kvs.length = vs.length := Paired.length r
end
theorem kV_is {P : Program} {w : World} {k : Key} {u : Value} (r : RelV (kV k) u) : (mixKind P w).is k u = true := by
  cases k with
  | inl i => obtain ⟨t, e⟩ := (show ∃ t, u = Value.int i t from r); subst e; exact mixKind_int P w i t
  | inr x => obtain ⟨t, e⟩ := (show ∃ t, u = Value.str x t from r); subst e; exact mixKind_str P w x t
theorem kV_inj {a b : Key} (e : kV a = kV b) : a = b := by
  cases a with
  | inl i => cases b with
    | inl j => have e' : V.int i = V.int j := e; injection e' with e'; rw [e']
    | inr y => exact nomatch (show V.int i = V.str y from e)
  | inr x => cases b with
    | inl j => exact nomatch (show V.str x = V.int j from e)
    | inr y => have e' : V.str x = V.str y := e; injection e' with e'; rw [e']
theorem items_are {P : Program} {w : World} : ∀ {ks : List Key} {us : List Value}, Vals (ks.map kV) us → ItemsAre (mixKind P w) ks us
  | [], _, r => by rw [List.map_nil] at r; cases r; exact .nil
  | k :: ks, _, r => by
    rw [List.map_cons] at r
    cases r with
    | cons h t => exact .cons (kV_is h) (items_are t)
noncomputable abbrev KT (H : Hp) : List (List Key × V) → List (List Key × Addr × Value) → Prop := Paired fun p q => p.1 = q.1 ∧ H q.2.1 = some (.tup (p.1.map kV)) ∧ RelV p.2 q.2.2
theorem KT.val {H : Hp} {kvs : List (List Key × V)} {xs : List (List Key × Addr × Value)} (r : KT H kvs xs) (k : List Key) : RelO (valV kvs k) ((atKey xs k).map (·.2)) := by
  induction r with
  | nil => exact True.intro
  | @cons p q ps qs h t ih =>
    obtain ⟨h1, _, h2⟩ := h
    by_cases e : p.1 = k
    · have e' : q.1 = k := h1.symm.trans e
      have b : atKey (q :: qs) k = some q.2 := by simp [atKey, List.find?_cons, e']
      rw [valV_pos e, b]; exact h2
    · have e' : ¬ q.1 = k := fun z => e (h1.trans z)
      have b : atKey (q :: qs) k = atKey qs k := by simp [atKey, List.find?_cons, e']
      rw [valV_neg e, b]; exact ih
theorem KT.repl {H : Hp} {kvs : List (List Key × V)} {xs : List (List Key × Addr × Value)} (r : KT H kvs xs) (k : List Key) {y : V} {u : Value} (ry : RelV y u) :
    KT H (kvs.map fun kv => if kv.1 = k then (kv.1, y) else kv) (xs.map (putAt k u)) := by
  induction r with
  | nil => exact .nil
  | @cons p q ps qs h t ih =>
    rw [List.map_cons, List.map_cons]
    refine .cons ?_ ih
    obtain ⟨h1, h2, h3⟩ := h
    unfold putAt
    by_cases e : p.1 = k
    · rw [if_pos e, if_pos (h1.symm.trans e)]; exact ⟨h1, h2, ry⟩
    · rw [if_neg e, if_neg (fun z => e (h1.trans z))]; exact ⟨h1, h2, h3⟩
theorem KT.put {H : Hp} {kvs : List (List Key × V)} {xs : List (List Key × Addr × Value)} (r : KT H kvs xs) (k : List Key) {b : Addr} {y : V} {u : Value} (hb : H b = some (.tup (k.map kV))) (ry : RelV y u) :
    KT H (putK kvs k y) (storedH xs k b u) := by
  have e : (kvs.any fun kv => decide (kv.1 = k)) = (atKey xs k).isSome := by
    rw [valV_any, (r.val k).isSome_eq, Option.isSome_map]
  unfold putK storedH
  rw [e]
  by_cases q : (atKey xs k).isSome = true
  · rw [if_pos q, if_pos q]; exact r.repl k ry
  · rw [if_neg q, if_neg q]; exact Paired.snoc r ⟨rfl, hb, ry⟩
theorem KT.keeps {H H' : Hp} {kvs : List (List Key × V)} {xs : List (List Key × Addr × Value)} (r : KT H kvs xs) (ht : ∀ b ys, H b = some (.tup ys) → H' b = some (.tup ys)) : KT H' kvs xs :=
  Paired.mapP r fun _ _ z => ⟨z.1, ht _ _ z.2.1, z.2.2⟩
section
variable {P : Program} {w : World} {H : Hp} {h : Heap} {a : Addr}
theorem rd_of {u : HO} (ok : HOk P w H h) (e : Rd H a u) : ObjOk P w H h a u := e.ok ok
theorem dk_rd {kvs : List (Key × V)} (ok : HOk P w H h) (e : Rd H a (.dK kvs)) : kvs.length ≤ sizeLine ∧ (a == sysModules) = false ∧ ∃ vs, KV kvs vs ∧ h.DictOf (mixKind P w) a vs :=
  show ObjOk P w H h a (.dK kvs) from rd_of ok e
theorem dk_of {kvs : List (Key × V)} (ok : HOk P w H h) (e : H a = some (.dK kvs)) : kvs.length ≤ sizeLine ∧ (a == sysModules) = false ∧ ∃ vs, KV kvs vs ∧ h.DictOf (mixKind P w) a vs := dk_rd ok (.inl e)
theorem key_of {ks : List Key} (ok : HOk P w H h) (e : H a = some (.tup (ks.map kV))) : (tupleKind (mixKind P w)).is h ks a := by
  obtain ⟨_, its, r, o, h1, h2, n, h3⟩ := (show ObjOk P w H h a (.tup (ks.map kV)) from ok a _ e)
  exact ⟨o, its.toArray, n, h1, h2, h3, by simpa using items_are r⟩
theorem dt_rd {kvs : List (List Key × V)} (ok : HOk P w H h) (e : Rd H a (.dT kvs)) : kvs.length ≤ sizeLine ∧ (a == sysModules) = false ∧
    ∃ xs, KT H kvs xs ∧ h.DictOfH (tupleKind (mixKind P w)) a xs := by
  obtain ⟨z, y, xs, r, o, es, ep, h1, h2, h3, h4, h5⟩ := (show ObjOk P w H h a (.dT kvs) from rd_of ok e)
  refine ⟨z, y, xs, r, o, es, ep, h1, h2, h3, h4, fun x hx => ?_, h5⟩
  have all : ∀ {l : List (List Key × V)} {m : List (List Key × Addr × Value)}, KT H l m → ∀ x ∈ m, (tupleKind (mixKind P w)).is h x.1 x.2.1 := by
    intro l m q
    induction q with
    | nil => intro x hx; exact nomatch hx
    | @cons p q ps qs hq t ih =>
      intro x hx
      rcases List.mem_cons.mp hx with e | hx
      · subst e
        exact key_of ok (by rw [← hq.1]; exact hq.2.1)
      · exact ih x hx
  exact all r x hx
theorem dt_of {kvs : List (List Key × V)} (ok : HOk P w H h) (e : H a = some (.dT kvs)) : kvs.length ≤ sizeLine ∧ (a == sysModules) = false ∧
    ∃ xs, KT H kvs xs ∧ h.DictOfH (tupleKind (mixKind P w)) a xs := dt_rd ok (.inl e)
end
noncomputable def DGet (H : Hp) (a : Addr) (y : V) (r : Option V) : Prop :=
  (∃ kvs k, Rd H a (.dK kvs) ∧ y = kV k ∧ r = valV kvs k) ∨ ∃ kvs k b, Rd H a (.dT kvs) ∧ y = .ref b ∧ H b = some (.tup (k.map kV)) ∧ r = valV kvs k
noncomputable def DPut (H : Hp) (a : Addr) (y v : V) (H' : Hp) : Prop :=
  (∃ kvs k, H a = some (.dK kvs) ∧ y = kV k ∧ kvs.length < sizeLine ∧ H' = upd H a (.dK (putK kvs k v))) ∨
  ∃ kvs k b, H a = some (.dT kvs) ∧ y = .ref b ∧ H b = some (.tup (k.map kV)) ∧ kvs.length < sizeLine ∧ H' = upd H a (.dT (putK kvs k v))
theorem DGet.k {H : Hp} {a : Addr} {kvs : List (Key × V)} {k : Key} (e : H a = some (.dK kvs)) : DGet H a (kV k) (valV kvs k) := .inl ⟨kvs, k, .inl e, rfl, rfl⟩
theorem DGet.t {H : Hp} {a b : Addr} {kvs : List (List Key × V)} {k : List Key} (e : H a = some (.dT kvs)) (eb : H b = some (.tup (k.map kV))) : DGet H a (.ref b) (valV kvs k) := .inr ⟨kvs, k, b, .inl e, rfl, eb, rfl⟩
theorem DPut.k {H : Hp} {a : Addr} {kvs : List (Key × V)} {k : Key} {v : V} (e : H a = some (.dK kvs)) (hl : kvs.length < sizeLine) : DPut H a (kV k) v (upd H a (.dK (putK kvs k v))) := .inl ⟨kvs, k, e, rfl, hl, rfl⟩
theorem DPut.t {H : Hp} {a b : Addr} {kvs : List (List Key × V)} {k : List Key} {v : V} (e : H a = some (.dT kvs)) (eb : H b = some (.tup (k.map kV))) (hl : kvs.length < sizeLine) :
    DPut H a (.ref b) v (upd H a (.dT (putK kvs k v))) := .inr ⟨kvs, k, b, e, rfl, eb, hl, rfl⟩
section
variable {X : Cx} {pins : List (Addr × Obj)} {σ : St} {H : Hp} {s : Shared} {a : Addr} {y v : V} {u r : Value} {o : Option V} {A : Around} {E : Value → Shared → Prop}
theorem Inv.big (I : Inv X pins σ H s) : sysModules < s.heap.objs.size := by
  have h : mainGlobals < s.heap.objs.size := (I.mod.glob.keeps I.bk).lt
  exact Nat.lt_trans (by decide) h
theorem d_getItem {Q : Value → Shared → Prop} (hu : A.units + 1 < cLine) (I : Inv X pins σ H s) (g : DGet H a y (some v)) (ry : RelV y u) (h : ∀ w' s', Inv X pins σ H s' → RelV v w' → Q w' s') :
    wpAny (model X.prog X.w) A (getItem (.ref a) u) Q E s := by
  rcases g with ⟨kvs, k, e, ey, l⟩ | ⟨kvs, k, b, e, ey, eb, l⟩
  · subst ey
    obtain ⟨z, hd, vs, rel, dd⟩ := dk_rd I.hok e
    obtain ⟨w', hw, rw'⟩ := RelO.some_of (v := v) (o := valueAt vs k) (by rw [l]; exact rel.val k)
    exact wpAny_getItem_of (kV_is ry) dd.mapOf hw (h w' _ (I.tok _) rw')
  · subst ey
    cases (show u = Value.ref b from ry)
    obtain ⟨z, hd, xs, rel, dd⟩ := dt_rd I.hok e
    obtain ⟨w', hw, rw'⟩ := RelO.some_of (v := v) (o := (atKey xs k).map (·.2)) (by rw [l]; exact rel.val k)
    obtain ⟨p, hp, hp2⟩ := Option.map_eq_some_iff.mp hw
    refine wpAny_getItem_heap (tupleKind_room_in1 hu) (key_of I.hok eb) dd hp ?_
    rw [hp2]
    exact h w' _ (I.tok _) rw'
theorem d_in {Q : Value → Shared → Prop} (hu : A.units + 1 < cLine) (I : Inv X pins σ H s) (g : DGet H a y o) (ry : RelV y u) (h : ∀ s', Inv X pins σ H s' → Q (.bool o.isSome) s') :
    wpAny (model X.prog X.w) A (compareOp .In u (.ref a)) Q E s := by
  rcases g with ⟨kvs, k, e, ey, l⟩ | ⟨kvs, k, b, e, ey, eb, l⟩
  · subst ey
    obtain ⟨z, hd, vs, rel, dd⟩ := dk_rd I.hok e
    refine wpAny_in_of (kV_is ry) hd dd.mapOf ?_
    rw [← (rel.val k).isSome_eq, ← l]
    exact h _ (I.tok _)
  · subst ey
    cases (show u = Value.ref b from ry)
    obtain ⟨z, hd, xs, rel, dd⟩ := dt_rd I.hok e
    refine wpAny_in_heap (tupleKind_room_in1 hu) (key_of I.hok eb) hd dd ?_
    have q := (rel.val k).isSome_eq
    rw [Option.isSome_map] at q
    rw [← q, ← l]
    exact h _ (I.tok _)
theorem d_notIn {Q : Value → Shared → Prop} (hu : A.units + 1 < cLine) (I : Inv X pins σ H s) (g : DGet H a y o) (ry : RelV y u) (h : ∀ s', Inv X pins σ H s' → Q (.bool (!o.isSome)) s') :
    wpAny (model X.prog X.w) A (compareOp .NotIn u (.ref a)) Q E s := by
  rcases g with ⟨kvs, k, e, ey, l⟩ | ⟨kvs, k, b, e, ey, eb, l⟩
  · subst ey
    obtain ⟨z, hd, vs, rel, dd⟩ := dk_rd I.hok e
    refine wpAny_notIn_of (kV_is ry) hd dd.mapOf ?_
    rw [← (rel.val k).isSome_eq, ← l]
    exact h _ (I.tok _)
  · subst ey
    cases (show u = Value.ref b from ry)
    obtain ⟨z, hd, xs, rel, dd⟩ := dt_rd I.hok e
    refine wpAny_notIn_heap (tupleKind_room_in1 hu) (key_of I.hok eb) hd dd ?_
    have q := (rel.val k).isSome_eq
    rw [Option.isSome_map] at q
    rw [← q, ← l]
    exact h _ (I.tok _)
theorem d_write {h' : Heap} {t' : Nat} {ob : HO} (I : Inv X pins σ H s) (mu : Mut (H a)) (hs : Heap.SameBut a s.heap h') (he : ∃ q, h'.get? a = some q) (new : ObjOk X.prog X.w (upd H a ob) h' a ob) :
    Inv X pins σ (upd H a ob) { s with heap := h', toks := t' } :=
  I.write (x := a) (e := a) mu (.inl rfl) (fun b q hb z => (hs.2 b hb).trans z) he new
theorem dk_new {P : Program} {w : World} {H' : Hp} {h' : Heap} {kvs : List (Key × V)} {vs : List (Key × Value)} (z : kvs.length ≤ sizeLine) (hd : (a == sysModules) = false) (rel : KV kvs vs) (dd : h'.DictOf (mixKind P w) a vs) :
    ObjOk P w H' h' a (.dK kvs) := ⟨z, hd, vs, rel, dd⟩
theorem d_setItem {H' : Hp} {Q : Unit → Shared → Prop} (hu : A.units + 1 < cLine) (I : Inv X pins σ H s) (g : DPut H a y v H') (ry : RelV y u) (rv : RelV v r) (h : ∀ s', Inv X pins σ H' s' → Q () s') :
    wpAny (model X.prog X.w) A (setItem (.ref a) u r) Q E s := by
  rcases g with ⟨kvs, k, e, ey, l, eH⟩ | ⟨kvs, k, b, e, ey, eb, l, eH⟩
  · subst ey eH
    obtain ⟨z, hd, vs, rel, dd⟩ := dk_of I.hok e
    have hz : vs.length ≤ sizeLine := by rw [← rel.length]; exact z
    have hl : (putK kvs k v).length ≤ sizeLine := by have := length_putK kvs k v; omega
    refine wpAny_setItem_pairs (hsz := hz) (kV_is ry) dd fun h' dd' hs => h _ ?_
    have he : ∃ q, h'.get? a = some q := let ⟨q, _, _, hq, _⟩ := dd'; ⟨q, hq⟩
    exact d_write I (by rw [e]; exact True.intro) hs he (dk_new hl hd (rel.put k rv) dd')
  · subst ey eH
    cases (show u = Value.ref b from ry)
    obtain ⟨z, hd, xs, rel, dd⟩ := dt_of I.hok e
    have hz : xs.length ≤ sizeLine := by rw [← Paired.length rel]; exact z
    have hl : (putK kvs k v).length ≤ sizeLine := by have := length_putK kvs k v; omega
    refine wpAny_setItem_heap (hsz := hz) (tupleKind_room_in1 hu) (key_of I.hok eb) dd fun h' dd' hs => h _ ?_
    obtain ⟨q, es, ep, hq, h2, h3, h4, _, h5⟩ := dd'
    refine d_write I (by rw [e]; exact True.intro) hs ⟨q, hq⟩ ⟨hl, hd, _, (rel.put k eb rv).keeps fun c ys ec => ?_, q, es, ep, hq, h2, h3, h4, h5⟩
    rw [upd_ne (ne_of ec e (fun z => nomatch z))]
    exact ec
end
section
variable {X : Cx} {pins : List (Addr × Obj)} {σ : St} {H : Hp} {s : Shared} {a : Addr} {kvs : List (Key × V)} {k : Key} {u : Value} {A : Around} {E : Value → Shared → Prop}
end
noncomputable def NoSl (i : Expr) : Prop := ∀ ov iv, subscripted i false ov iv = operate [ov, iv] (getItem ov iv)
theorem subD_of {prog : Program} {w : World} {A : Around} {E : Value → Shared → Prop} {s : Shared} {env : Env} {value slice : Expr} {pos : Pos} {T id : String} {Q : Value → Shared → Prop}
    (hl : typeLookup (.type T) "__getitem__" = pure (some (.builtin id))) (hs : NoSl slice)
    (h : wpAny (model prog w) A (eval value env) (fun o s₁ => wpAny (model prog w) A (eval slice env) (fun i s₂ => s₂.TypeIs o T ∧ wpAny (model prog w) A (getItem o i) Q E s₂) E s₁) E s) :
    wpAny (model prog w) A (eval (.Subscript value slice pos) env) Q E s := by
  refine Subscript_ (wpAny_mono h (fun o s₁ h₁ => wpAny_mono h₁ (fun i s₂ h₂ => ?_) fun _ _ x => x) fun _ _ x => x)
  obtain ⟨hT, h₂⟩ := h₂
  unfold subscriptTail
  refine wpAny_bind ?_
  rw [getitemInPython_of_ne hT.not_modules]
  refine wpAny_bind (wpAny_specialOf hT hl ?_)
  have fin : wpAny (model prog w) A (subscripted slice false o i) (fun r s₃ => wpAny (model prog w) A (letTemporaryGo value o r >>= fun _ => pure r) Q E s₃) E s₂ := by
    rw [hs o i]
    exact wpAny_operating (wpAny_mono h₂ (fun r s₃ h₃ => wpAny_bind (wpAny_letTemporaryGo (wpAny_pure h₃))) fun _ _ x => x)
  first
    | exact wpAny_pure (wpAny_bind fin)
    | exact wpAny_bind (wpAny_pure (wpAny_bind fin))
    | exact wpAny_bind fin
theorem dict_typeIs {X : Cx} {pins : List (Addr × Obj)} {σ : St} {H : Hp} {s : Shared} {a : Addr} {y : V} {o : Option V} (I : Inv X pins σ H s) (g : DGet H a y o) : s.TypeIs (.ref a) "dict" := by
  rcases g with ⟨kvs, k, e, _, _⟩ | ⟨kvs, k, b, e, _, _, _⟩
  · obtain ⟨_, _, vs, _, dd⟩ := dk_rd I.hok e
    exact dd.typeIs
  · obtain ⟨_, _, xs, _, dd⟩ := dt_rd I.hok e
    exact dd.typeIs
noncomputable def tDGet (td ty : TE) : TE := fun σ H Q => td σ H fun x H1 => ty σ H1 fun y H2 => ∃ a v, x = .ref a ∧ DGet H2 a y (some v) ∧ Q v H2
noncomputable def sDPut (td ty tv : TE) : TS := fun D σ H => tv σ H fun v H1 => td σ H1 fun x H2 => ty σ H2 fun y H3 => ∃ a H4, x = .ref a ∧ DPut H3 a y v H4 ∧ D.nx σ H4
section
variable {X : Cx} {o i e value : Expr} {pos pos' tpos : Pos} {td ty tv : TE}
theorem pe_dget (hu : X.A.units + 1 < cLine) (ho : PE X o td) (hi : PE X i ty) (hs : NoSl i) : PE X (.Subscript o i pos) (tDGet td ty) := by
  intro pins s σ H Q I h
  refine subD_of PySem.F.slot_dict_getitem.lookup hs (thn (ho pins s σ H _ I h) fun u s1 ⟨x, H1, I1, rx, q1⟩ => thn (hi pins s1 σ H1 _ I1 q1) fun iv s2 ⟨y, H2, I2, ry, a, v, ex, g, q2⟩ => ?_)
  subst ex
  obtain rfl : u = Value.ref a := rx
  exact ⟨dict_typeIs I2 g, d_getItem hu I2 g ry fun w' s3 I3 rw' => ⟨v, H2, I3, rw', q2⟩⟩
theorem ps_dput (hu : X.A.units + 1 < cLine) (ho : PE X o td) (hi : PE X i ty) (hv : PE X value tv) (hs : swapsWith value (some (.Subscript o i pos')) pos.line X.env = pure false) :
    PS X (.Assign [.Subscript o i pos'] value pos) (sDPut td ty tv) := by
  intro pins s σ H D I h
  refine wpAny_Assign_Subscript (thn (hv pins s σ H _ I h) fun r s1 ⟨v, H1, I1, rv, q1⟩ => thn (ho pins s1 σ H1 _ I1 q1) fun u s2 ⟨x, H2, I2, rx, q2⟩ => thn (hi pins s2 σ H2 _ I2 q2) fun iv s3 ⟨y, H3, I3, ry, a, H4, ex, g, q3⟩ => ?_) hs
  subst ex
  obtain rfl : u = Value.ref a := rx
  exact d_setItem hu I3 g ry rv fun s4 I4 => ⟨σ, H4, I4, q3⟩
end
theorem dt_empty {P : Program} {w : World} {H : Hp} (h : Heap) (hb : sysModules < h.objs.size) : ObjOk P w H (h.push { cls := .type "dict", data := .dict #[] }) h.objs.size (.dT []) :=
  ⟨Nat.zero_le _, beq_eq_false_iff_ne.mpr (Ne.symm (Nat.ne_of_lt hb)), [], .nil, _, #[], 0, Heap.get?_push_size _ rfl, ⟨rfl, rfl, rfl⟩, rfl, rfl, List.nodup_nil⟩
noncomputable def tDNewT : TE := fun _ H Q => ∀ p, H p = none → Q (.ref p) (upd H p (.dT []))
section
variable {X : Cx} {pos : Pos}
theorem pe_dnewT : PE X (.Dict [] [] pos) tDNewT := fun pins s σ H Q I h =>
  wpAny_Dict_empty ⟨.ref s.heap.objs.size, _, I.laid (a := s.heap.objs.size) (o := .dT []) (t' := s.toks) (fun _ _ q => Heap.get?_push_of_some _ q) (Nat.le_refl _) (dt_empty s.heap I.big), rfl, h _ (I.hok.fresh (Nat.le_refl _))⟩
end
noncomputable def tPairs : List (TE × TE) → St → Hp → (List (V × V) → Hp → Prop) → Prop
  | [], _, H, Q => Q [] H
  | (tk, tv) :: r, σ, H, Q => tk σ H fun x H1 => tv σ H1 fun y H2 => tPairs r σ H2 fun ps H3 => Q ((x, y) :: ps) H3
noncomputable def mergeK (kvs more : List (Key × V)) : List (Key × V) := more.foldl (fun acc kv => putK acc kv.1 kv.2) kvs
noncomputable def tDisp (trs : List (TE × TE)) : TE := fun σ H Q => ∀ p, H p = none → tPairs trs σ (upd H p (.dK [])) fun ps H2 => H2 p = some (.dK []) ∧ ∃ kvs : List (Key × V), ps = kvs.map (fun kv => (kV kv.1, kv.2)) ∧ kvs.length ≤ 15 ∧ Q (.ref p) (upd H2 p (.dK (mergeK [] kvs)))
structure M2 (X : Cx) (o : Expr) (m : Str) (apos : Pos) (e f : Expr) (cpos : Pos) : Prop where
  base : attributeBase o m X.env (eval o X.env) = eval o X.env
  few : ((backTo cpos (starEach [e, f] X.env)).all (fun x => !x.1) && (backToKw cpos (keywordEach [] X.env)).all (fun x => x.1.isSome)
    && decide (([e, f] : List Expr).length + ([] : List Keyword).length + (if ([] : List Keyword).isEmpty then 0 else 1) < 30)) = true
  line : (apos.endLine == cpos.line) = true
  trees : backTo cpos (starEach [e, f] X.env) = [(false, eval e X.env), (false, eval f X.env)]
noncomputable def IsD (H : Hp) (a : Addr) : Prop := (∃ kvs, Rd H a (.dK kvs)) ∨ ∃ kvs, Rd H a (.dT kvs)
theorem isD_at {X : Cx} {pins : List (Addr × Obj)} {σ : St} {H : Hp} {s : Shared} {a : Addr} (I : Inv X pins σ H s) (d : IsD H a) :
    s.TypeIs (.ref a) "dict" ∧ (∀ b, Value.ref a = .ref b → ∃ ob, s.heap.get? b = some ob ∧ ob.dict = none) ∧ (a == sysModules) = false := by
  rcases d with ⟨kvs, e⟩ | ⟨kvs, e⟩
  · obtain ⟨_, hd, vs, _, dd⟩ := dk_rd I.hok e
    refine ⟨dd.typeIs, fun b q => ?_, hd⟩
    cases q
    obtain ⟨ob, _, _, h1, h2, _⟩ := dd
    exact ⟨ob, h1, h2.2.1⟩
  · obtain ⟨_, hd, xs, _, dd⟩ := dt_rd I.hok e
    refine ⟨dd.typeIs, fun b q => ?_, hd⟩
    cases q
    obtain ⟨ob, _, _, h1, h2, _⟩ := dd
    exact ⟨ob, h1, h2.2.1⟩
section
variable {X : Cx} {pins : List (Addr × Obj)} {σ : St} {H : Hp} {s : Shared} {a : Addr} {y d : V} {u r : Value} {o : Option V} {A : Around} {E : Value → Shared → Prop}
theorem d_get2 {Q : Value → Shared → Prop} (hu : A.units + 1 < cLine) (I : Inv X pins σ H s) (g : DGet H a y o) (ry : RelV y u) (rd : RelV d r) (h : ∀ w' s', Inv X pins σ H s' → RelV (o.getD d) w' → Q w' s') :
    wpAny (model X.prog X.w) A (call (.builtin "dict.get") [.ref a, u, r]) Q E s := by
  rcases g with ⟨kvs, k, e, ey, l⟩ | ⟨kvs, k, b, e, ey, eb, l⟩
  · subst ey
    obtain ⟨z, hd, vs, rel, dd⟩ := dk_rd I.hok e
    refine call_meetsIn PySem.F.slot_dict_get dd.typeIs PySem.F.entry_dict_get (PySem.F.args_dict_get_3 _ _ _) (meets_dict_get_default (mixKind X.prog X.w) a (kV_is ry) hd r) ⟨_, dd.mapOf, h _ _ (I.tok _) ?_⟩
    rw [l]
    exact (rel.val k).getD rd
  · subst ey
    cases (show u = Value.ref b from ry)
    obtain ⟨z, hd, xs, rel, dd⟩ := dt_rd I.hok e
    refine call_meetsIn PySem.F.slot_dict_get dd.typeIs PySem.F.entry_dict_get (PySem.F.args_dict_get_3 _ _ _) (meetsH_dict_get_default (tupleKind (mixKind X.prog X.w)) a b hd r) ⟨tupleKind_room_in1 hu, k, xs, key_of I.hok eb, dd, h _ _ (I.tok _) ?_⟩
    rw [l]
    exact (rel.val k).getD rd
end
noncomputable def tDGet2 (td ty tx : TE) : TE := fun σ H Q => td σ H fun x H1 => ∃ a, x = .ref a ∧ IsD H1 a ∧ ty σ H1 fun y H2 => tx σ H2 fun z H3 => ∃ o, DGet H3 a y o ∧ Q (o.getD z) H3
section
variable {X : Cx} {o e f : Expr} {apos cpos : Pos} {td ty tx : TE}
theorem pe_dget2 (hu : X.A.units + 1 < cLine) (ho : PE X o td) (he : PE X e ty) (hf : PE X f tx) (m : M2 X o "get" apos e f cpos) : PE X (.Call (.Attribute o "get" apos) [e, f] [] cpos) (tDGet2 td ty tx) := by
  intro pins s σ H Q I h
  refine wpAny_Call_method m.base m.few m.line PySem.F.plainAttrs_dict PySem.F.slot_dict_get PySem.F.type_dict_get (thn (ho pins s σ H _ I h) fun u s1 ⟨x, H1, I1, rx, a, ex, d, q1⟩ => ?_)
  subst ex
  obtain rfl : u = Value.ref a := rx
  obtain ⟨t1, t2, _⟩ := isD_at I1 d
  refine ⟨t1, t2, ?_⟩
  rw [m.trees]
  refine Calls.callWith_builtin rfl (Calls.evalArgs_plain (Calls.spliced_cons (thn (he pins s1 σ H1 _ I1 q1) fun iv s2 ⟨y, H2, I2, ry, q2⟩ =>
    Calls.spliced_cons (thn (hf pins s2 σ H2 _ I2 q2) fun fv s3 ⟨z, H3, I3, rz, ov, g, q3⟩ => Calls.spliced_nil ?_))))
  exact d_get2 hu I3 g ry rz fun w' s4 I4 rw' => ⟨_, H3, I4, rw', q3⟩
end
section
variable {X : Cx} {pins : List (Addr × Obj)} {σ : St} {H : Hp} {s : Shared} {a : Addr} {kvs : List (Key × V)} {A : Around} {E : Value → Shared → Prop}
end
section
variable {X : Cx} {pins : List (Addr × Obj)} {σ : St} {H : Hp} {s : Shared} {a : Addr} {y : V} {u : Value} {A : Around} {E : Value → Shared → Prop}
end
end L2
namespace Att
open PySem PySem.W PySem.Calls PyProof.Rows
theorem ints_of_wellAll {P : Params} {h : Heap} : ∀ (ns : List Int) (vs : List Value), WellAll P h vs (ns.map WData.int) → IntsAre vs ns := by
  intro ns
  induction ns with
  | nil =>
    intro vs w
    rw [List.map_nil] at w
    cases w
    exact .nil
  | cons n ns ih =>
    intro vs w
    rw [List.map_cons] at w
    cases w with
    | cons a b =>
      cases a
      exact .cons _ _ (ih _ b)
theorem script_of {l : OpenLaw} {n : Nat} (hn : l.most = some n) {P : Params} {h : Heap} {args : List WData} {vals : List Value}
    (hpre : l.row.toRowW.claim.pre args = true) (hwl : WellAll P h vals args) :
    ∃ a vs ns, vals = [Value.ref a] ∧ args = [WData.list (ns.map WData.int)] ∧ h.get? a = some { cls := .type "list", data := .seq vs.toArray } ∧ IntsAre vs ns ∧ ns.length ≤ n := by
  have hsh : WShape.hasAll [] args [.list .int] = true := (pre_splitW hpre).1
  have hc : l.pre.holds [] { args := args } = true := (pre_splitW hpre).2
  obtain ⟨d, r, rfl, h1, h2⟩ := hasAllW_cons hsh
  obtain rfl := hasAllW_nil h2
  obtain ⟨xs, rfl, h3⟩ := hasW_list h1
  obtain ⟨ns, rfl⟩ := items_int h3
  have hlen : ns.length ≤ n := by
    unfold OpenLaw.pre at hc
    have h4 : (WTm.not (.lt (.lit (.int (n : Int))) (.len (.arg 0)))).holds [] { args := [.list (ns.map .int)] } = true := by
      have h4 := (holds_andW hc).1
      rw [hn] at h4
      exact h4
    have h5 := condW_of h4 (w_not (w_lt w_lit (w_len_list (w_arg rfl))))
    rw [List.length_map] at h5
    refine Nat.le_of_not_lt fun q => ?_
    have q' : (n : Int) < ((ns.length : Nat) : Int) := by omega
    first
      | (rw [decide_eq_true q'] at h5; exact absurd h5 (by decide))
      | (simp at h5; omega)
  cases hwl with
  | cons w1 w2 =>
    cases w2
    cases w1 with
    | list ho hall => exact ⟨_, _, ns, rfl, rfl, ho, ints_of_wellAll ns _ hall, hlen⟩
theorem post_true (l : OpenLaw) (args : List WData) : l.row.toRowW.claim.post args (.bool true) args = true :=
  postW_of (r := l.row.toRowW) (X := (true == true))
    (show WShape.has [] (.bool true) .bool = true by first | rfl | decide | simp [WShape.has, WShape.arms, WShape.armsAll])
    (show (WTm.eq .res (.lit (.bool true))).value [] { args := args, res := some (.bool true), after := args } = some (.bool (true == true)) from w_eq_bool (w_res rfl) w_lit) rfl
theorem attach_call {l : OpenLaw} {n : Nat} {q : Program} {loose : List Str} {XP : (Str → Option Value) → Heap → Prop} {YP : World → Heap → Prop} {d : DefRec}
    (hn : l.most = some n) (hdf : d.params.defaults = [])
    (call : ∀ (w : World) (s₀ s₁ : Shared) (mg mb : Str → Option Value) (fa : Addr) (o : Obj) (pm cd doc : Value) (a : Addr) (vs : List Value) (ns : List Int),
      Ground q loose [] XP w s₀ mg mb s₁.heap → YP w s₁.heap →
      s₁.heap.get? fa = some o → o.data = .func (docDef d.name d.params d.body d.scope pm cd doc) → s₁.heap.CodeRec cd d.name → mg d.name = some (.ref fa) →
      s₁.heap.get? a = some { cls := .type "list", data := .seq vs.toArray } → IntsAre vs ns → ns.length ≤ n → s₁.gens = #[] →
      codeAny (model l.prog w) callerA (.call (.ref fa) ⟨[.ref a], []⟩) (fun r s' => r = .ok (.ret (.bool true)) ∧ OldK s₁.heap s'.heap ∧ s'.os = s₁.os ∧ AllBare s'.gens) s₁) :
    WalkO q loose XP YP l.row.toRowW d [] (fun f vs => PySem.call f vs) := by
  intro w s₀ s₁ mg mb G Y fa o pm cd doc dV kV ho hd hcd hD hmg hg args vals as hpre hlay hrd hwl hlo
  obtain rfl : dV = .none := Dflts.none hD hdf
  obtain rfl : kV = .none := Dflts.noKw hD
  obtain ⟨a, vs, ns, rfl, rfl, hobj, hints, hlen⟩ := script_of hn hpre hwl
  refine enter_call (codeAny_mono (call w s₀ s₁ mg mb fa o pm cd doc a vs ns G Y ho (fd_plain hd) hcd hmg hobj hints hlen hg) fun r s' hq => ?_)
  obtain ⟨rfl, h2, h3, h4⟩ := hq
  exact ⟨.inl ⟨.bool true, .bool true, [], rfl, fun _ => rfl, .bool true, post_true l _, fun _ => ⟨List.Pairwise.nil, fun _ hm => (nomatch hm)⟩⟩, h2, h3, h4⟩
section
variable {prog : Program} {w : World} {A : Around} {E : Value → Shared → Prop} {s : Shared} {K : Frag}
end
end Att
namespace L2
open PySem PySem.Spec PyProof.Rows
theorem vals_ints : ∀ {vs : List Value} {ns : List Int}, IntsAre vs ns → Vals (ns.map V.int) vs
  | _, _, .nil => .nil
  | _, _, .cons n t h => .cons ⟨t, rfl⟩ (vals_ints h)
noncomputable def Only (H : Hp) : Prop := ∀ b, H b = none ∨ ∃ o xs, H b = some (.frz o (.lst xs))
theorem law_call {P : Program} {w : World} {K : PySem.W.Frag} {mg mb : Str → Option Value} {CX : CXT} {k : Nat} {fa a : Addr} {fd : FuncData} {x : Str} {sp : Sp} {s₁ : Shared} {vs : List Value} {ns : List Int}
    (KX : K.In s₁.heap) (hns : s₁.heap.Ns mainGlobals mg) (hb : s₁.heap.Ns builtinsNs mb) (hbb : ∀ x : Str, x ≠ "__name__" → mb x = bootBuiltins x) (hlim : s₁.heap.NoLimit) (hg : s₁.gens = #[])
    (ha : s₁.heap.get? a = some { cls := .type "list", data := .seq vs.toArray }) (hi : IntsAre vs ns) (hl : ns.length ≤ sizeLine) (hr : Room k callerA)
    (F : ∀ base : Heap, K.In base → base.Ns mainGlobals mg → FnOk P w K mg base CX k fa fd [x] sp) (hbind : ∀ (s : Shared) (u : Value), BindsTo s fd ⟨[u], []⟩ [(x, u)])
    (hsp : ∀ H : Hp, Only H → SqL K H a (ns.map V.int) → sp [.ref a] H (fun v _ => v = .bl true) fun _ _ _ => False)
    (hCX : ∀ H e s', CX [] H s₁ (fun _ _ _ => False) e s' → False) :
    codeAny (model P w) callerA (.call (.ref fa) ⟨[.ref a], []⟩) (fun r s' => r = .ok (.ret (.bool true)) ∧ OldK s₁.heap s'.heap ∧ s'.os = s₁.os ∧ AllBare s'.gens) s₁ := by
  have rv := vals_ints hi
  have lenV := hi.length
  have core : ∀ H : Hp, Only H → SqL K H a (ns.map V.int) → HOk P w H s₁.heap → (∀ b, H b ≠ none → b = a) → (H a ≠ none → K.lookup a = none) →
      codeAny (model P w) callerA (.call (.ref fa) ⟨[.ref a], []⟩) (fun r s' => r = .ok (.ret (.bool true)) ∧ OldK s₁.heap s'.heap ∧ s'.os = s₁.os ∧ AllBare s'.gens) s₁ := by
    intro H hO hS hok hA hK
    have base_of : ∀ {b : Addr} {o : Obj}, s₁.heap.get? b = some o → H b = none → (hidT s₁.heap H).get? b = some o := fun e n => hidT_get e n
    have noA : ∀ {b : Addr} {o : Obj} {es : Array DictEntry} {ep : Nat}, s₁.heap.get? b = some o → o.data = .dict es ep → H b = none := fun {b o es ep} e d => by
      cases q : H b with
      | none => rfl
      | some u =>
        have e' : b = a := hA b (by rw [q]; simp)
        subst e'
        rw [ha] at e; cases e
        have d' : Data.seq vs.toArray _ = Data.dict es ep := d
        cases d'
    have nsK : ∀ {b : Addr} {m : Str → Option Value}, s₁.heap.Ns b m → (hidT s₁.heap H).Ns b m := fun {b m} ⟨o, es, ep, e, d, r⟩ => ⟨o, es, ep, base_of e (noA e d), d, r⟩
    have hKb : K.In (hidT s₁.heap H) := fun b o e => base_of (KX b o e) (by
      cases q : H b with
      | none => rfl
      | some u =>
        have e' : b = a := hA b (by rw [q]; simp)
        subst e'
        rw [hK (by rw [q]; simp)] at e; cases e)
    have hM : Mod K mg (hidT s₁.heap H) := ⟨hKb, nsK hns, ⟨mb, nsK hb, hbb⟩, let ⟨mc, h1, h2⟩ := hlim; ⟨mc, nsK h1, h2⟩⟩
    have e0 : Env0 P w K mg (hidT s₁.heap H) callerA [] s₁ H := ⟨rfl, hM, fun b o e => of_hidT e, Nat.le_of_eq (hidT_size _ _), trivial, fun b hb => absurd (show b ∈ ([] : List Addr) from hb) (by simp), hok, .of_eq hg⟩
    refine codeAny_mono ((F _ hKb (nsK hns)).run callerA [] s₁ H ⟨[.ref a], []⟩ [.ref a] [.ref a] _ _ hr e0 (hbind s₁ (.ref a)) (.cons rfl .nil) (hsp H hO hS)) fun r s' h => ?_
    cases r with
    | error e => exact (hCX H e s' h).elim
    | ok fl =>
      cases fl with
      | next => exact False.elim h
      | brk => exact False.elim h
      | cont => exact False.elim h
      | ret u =>
        obtain ⟨v, H', os, bare, un, hok', r', q⟩ := h
        have q' : v = .bl true := q
        subst q'
        obtain rfl : u = Value.bool true := r'
        refine ⟨rfl, OldK.of_keep fun b o e => ?_, os, bare⟩
        cases q : H b with
        | none => exact un.keep b o e q (by intro z; exact absurd (show b ∈ ([] : List Addr) from z) (by simp)) (by simp)
        | some u =>
          rcases hO b with z | ⟨ob, xs, z⟩
          · rw [q] at z; cases z
          · have z2 := un.frzs b ob _ z
            obtain ⟨e1, _⟩ := hok b _ z
            obtain ⟨e2, _⟩ := hok' b _ z2
            rw [e] at e1; cases e1
            exact e2
  cases hk : K.lookup a with
  | some o =>
    have e := KX a o hk
    rw [ha] at e
    cases e
    refine core (fun _ => none) (fun _ => .inl rfl) (.inr ⟨_, vs.toArray, _, hk, rfl, rfl, rfl, by rw [List.size_toArray, lenV]; exact hl, by simpa using rv⟩) (fun b u z => by have z' : (none : Option HO) = some u := z; cases z') (fun b z => absurd rfl z) fun z => absurd rfl z
  | none =>
    refine core (fun b => if b = a then some (.frz { cls := .type "list", data := .seq vs.toArray } (.lst (ns.map V.int))) else none) (fun b => ?_) (.inl (.inr ⟨{ cls := .type "list", data := .seq vs.toArray }, if_pos rfl⟩)) (fun b u z => ?_) (fun b z => ?_) fun _ => hk
    · by_cases hb : b = a
      · exact .inr ⟨_, _, if_pos hb⟩
      · exact .inl (if_neg hb)
    · by_cases hb : b = a
      · have z' := (if_pos hb).symm.trans z
        cases z'
        subst hb
        exact ⟨ha, by rw [List.length_map]; exact hl, vs, _, rv, ha⟩
      · have z' := (if_neg hb).symm.trans z
        cases z'
    · by_cases hb : b = a
      · exact hb
      · exact absurd (if_neg hb) z
end L2
namespace L2
open PySem PySem.Spec PyProof.Rows
noncomputable abbrev KOf {K : PySem.W.Frag} {h : Heap} (_ : K.In h) : PySem.W.Frag := K
theorem walk_of {l : PySem.W.OpenLaw} {n k : Nat} {q : Program} {loose : List Str} {XP : (Str → Option Value) → Heap → Prop} {YP : World → Heap → Prop} {d : DefRec} {K : Params → PySem.W.Frag} {CX : World → CXT} {sp : World → Sp} {x : Str}
    (hn : l.most = some n) (hn2 : n ≤ sizeLine) (hdf : d.params.defaults = []) (hr : Room k callerA)
    (hY : ∀ (w : World) (h : Heap), YP w h → (K w.params).In h)
    (F : ∀ (w : World) (mg : Str → Option Value) (fa : Addr) (h : Heap), (K w.params).In h → h.Ns mainGlobals mg → mg d.name = some (.ref fa) →
      ∃ fd : FuncData, (∀ (s : Shared) (u : Value), BindsTo s fd ⟨[u], []⟩ [(x, u)]) ∧
        ∀ base : Heap, (K w.params).In base → base.Ns mainGlobals mg → FnOk l.prog w (K w.params) mg base (CX w) k fa fd [x] (sp w))
    (hsp : ∀ (w : World) (H : Hp) (a : Addr) (ns : List Int), ns.length ≤ n → Only H → SqL (K w.params) H a (ns.map V.int) → sp w [.ref a] H (fun v _ => v = .bl true) fun _ _ _ => False)
    (hCX : ∀ (w : World) (H : Hp) (s : Shared) (e : Value) (s' : Shared), CX w [] H s (fun _ _ _ => False) e s' → False) :
    PySem.W.WalkO q loose XP YP l.row.toRowW d [] (fun f vs => PySem.call f vs) := by
  refine Att.attach_call hn hdf fun w s₀ s₁ mg mb fa o pm cd doc a vs ns G Y ho hd hcd hmg hobj hints hlen hg => ?_
  have KX := hY w _ Y
  obtain ⟨fd, hb, hF⟩ := F w mg fa _ KX G.T.g hmg
  exact law_call KX G.T.g G.T.b G.T.builtins G.T.nolimit hg hobj hints (Nat.le_trans hlen hn2) hr hF hb (fun H hO hS => hsp w H a ns hlen hO hS) fun H e s' => hCX w H s₁ e s'
end L2
namespace L2
open PySem PySem.Spec PyProof.Rows
noncomputable def inClass (s : Stmt) (j : Nat) : Stmt := match s with
  | .ClassDef _ _ _ body _ _ _ _ _ _ _ => body.getD j (.Pass ⟨0, 0, 0, 0⟩)
  | _ => .Pass ⟨0, 0, 0, 0⟩
noncomputable def defArgs (s : Stmt) : Arguments := match s with
  | .FunctionDef _ a _ _ _ _ _ _ _ _ => a
  | _ => { posonlyargs := [], args := [], vararg := none, kwonlyargs := [], kw_defaults := [], kwarg := none, defaults := [] }
noncomputable def defBody (s : Stmt) : List Stmt := match s with
  | .FunctionDef _ _ b _ _ _ _ _ _ _ => b
  | _ => []
noncomputable def defScope (s : Stmt) : Scope := match s with
  | .FunctionDef _ _ _ _ _ _ sc _ _ _ => sc
  | _ => { kind := .function, names := [], isGenerator := false, isCoroutine := false }
noncomputable abbrev CX0 : CXT := fun _ _ _ _ _ _ => False
noncomputable abbrev E0 : XK := fun _ _ _ => False
theorem pass0 {X : Cx} : Passes CX0 X E0 := fun _ _ _ _ _ _ _ h => h.elim
structure Fun (K : PySem.W.Frag) (x qual : Str) (st : Stmt) (f : Addr) (fd : FuncData) : Prop where
  ex : ∃ (oc : Value) (od : Option Addr) (kV doc pm : Value) (an : Option Addr) (cdv ct : Value) (osl : Array (Option Value)),
    fd = PySem.W.fnOf x qual (defArgs st) (defBody st) (defScope st) .none kV doc pm an cdv ct ∧ K.lookup f = some ⟨oc, od, .func fd, osl⟩ ∧ PySem.W.codeIn K cdv qual = true
  kp : PySem.W.keepIn K (.ref f) = true
section
variable {P : Program} {w : World} {K : PySem.W.Frag} {mg : Str → Option Value} {base : Heap}
theorem Fun.ok {x qual : Str} {st : Stmt} {f : Addr} {fd : FuncData} {N ps : List Str} {k : Nat} {sp : Sp} (F : Fun K x qual st f fd) (S : FnScope N ps (defScope st)) (len : ∀ vs H Q E, sp vs H Q E → vs.length = ps.length)
    (hbody : ∀ (cdv : Value) (A : Around) (outer : List Env) (s : Shared) (H : Hp) (vs : List V) (Q : VK) (E : XK), Room k (A.deeper (envOfC qual (defScope st) s.heap.objs.size f cdv)) → sp vs H Q E →
      ∃ t, PSs (cxOf CX0 P w K mg base N qual (defScope st) f cdv A outer s H E).nox (defBody st) t ∧ t { nx := fun _ H' => Q .non H', rt := Q } (start N vs) H) : FnOk P w K mg base CX0 (k + 1) f fd ps sp := by
  obtain ⟨oc, od, kV, doc, pm, an, cdv, ct, osl, rfl, lk, hcd⟩ := F.ex
  refine fn_of lk hcd S len fun A outer s H vs Q E hr hsp => ?_
  obtain ⟨t, h, q⟩ := hbody cdv A outer s H vs Q E hr hsp
  exact ⟨t, h.nox, q⟩
theorem Fun.binds {x qual : Str} {st : Stmt} {f : Addr} {fd : FuncData} {ps : List Str} (F : Fun K x qual st f fd)
    (h : ∀ (kV doc pm : Value) (an : Option Addr) (cdv ct : Value) (us : List Value), us.length = ps.length → bindArgs (PySem.W.fnOf x qual (defArgs st) (defBody st) (defScope st) .none kV doc pm an cdv ct) ⟨us, []⟩ = pure (ps.zip us)) : Binds K fd ps [] := by
  obtain ⟨oc, od, kV, doc, pm, an, cdv, ct, osl, rfl, lk, hcd⟩ := F.ex
  exact .all (h kV doc pm an cdv ct)
theorem fun_mk {x qual : Str} {st : Stmt} {f : Addr} {oc : Value} {od an : Option Addr} {osl : Array (Option Value)} {kV doc pm cdv ct : Value} (l : K.lookup f = some ⟨oc, od, .func (PySem.W.fnOf x qual (defArgs st) (defBody st) (defScope st) .none kV doc pm an cdv ct), osl⟩)
    (c : PySem.W.codeIn K cdv qual = true) (k : PySem.W.keepIn K (.ref f) = true) : Fun K x qual st f (PySem.W.fnOf x qual (defArgs st) (defBody st) (defScope st) .none kV doc pm an cdv ct) := ⟨⟨oc, od, kV, doc, pm, an, cdv, ct, osl, rfl, l, c⟩, k⟩
end
theorem hu_of {A : Around} {k : Nat} (hr : Room k A) : A.units + 1 < cLine := Nat.lt_of_le_of_lt (Nat.add_le_add_left (by decide : 1 ≤ 64) _) hr.units
section
variable {X : Cx}
theorem pv (i : Nat) {x : Str} {pos : Pos} (hN : X.N[i]? = some x := by rfl) (hv : Vis X.env.scope x := by first | exact Or.inl rfl | exact Or.inr (Or.inl rfl) | exact Or.inr (Or.inr rfl)) (hd : (x == ("__debug__" : Str)) = false := by decide)
    (hcd : (x == ("__classdict__" : Str)) = false := by decide) : PE X (.Name x pos) (tVar i) := pe_var hN hv hd hcd
end
theorem iteF {A B : Prop} (h : B) : if false = true then A else B := by
  rw [if_neg Bool.false_ne_true]
  exact h
theorem iteT {A B : Prop} (h : A) : if true = true then A else B := by
  rw [if_pos rfl]
  exact h
noncomputable def Same (H H' : Hp) : Prop := ∀ b o, H b = some o → H' b = some o
theorem Same.refl (H : Hp) : Same H H := fun _ _ h => h
theorem Same.trans {H H1 H2 : Hp} (a : Same H H1) (b : Same H1 H2) : Same H H2 := fun c o h => b c o (a c o h)
theorem Same.free {H H' : Hp} (e : Same H H') {l : Addr} (h : H' l = Option.none) : H l = Option.none := by
  cases q : H l with
  | none => rfl
  | some o =>
    rw [e l o q] at h
    cases h
theorem Same.seq {K : PySem.W.Frag} {H H' : Hp} {a : Addr} {xs : List V} (e : Same H H') (h : SqL K H a xs) : SqL K H' a xs := by
  rcases h with (h | ⟨o, h⟩) | h
  · exact .inl (.inl (e _ _ h))
  · exact .inl (.inr ⟨o, e _ _ h⟩)
  · exact .inr h
section
variable {X : Cx}
end
section
variable {κ : Type} [DecidableEq κ]
theorem valV_in {kvs : List (κ × V)} {k : κ} {v : V} (h : valV kvs k = some v) : k ∈ kvs.map (·.1) := by
  have q : (kvs.any fun kv => decide (kv.1 = k)) = true := by
    rw [valV_any, h]
    all_goals rfl
  obtain ⟨p, hp, e⟩ := List.any_eq_true.mp q
  exact List.mem_map.mpr ⟨p, hp, of_decide_eq_true e⟩
end
end L2
set_option Elab.async false
set_option linter.all false
set_option maxRecDepth 100000
set_option maxHeartbeats 4000000
namespace My
open PySem PySem.W PySem.Calls PyProof.Rows
theorem top_of_seg {tb : String → Option Builtin} {p : Program} {w : World} {n₀ : Nat} {ann : Option Value} : ∀ {n : Nat} {s s' : Shared} {t : Thread} {f : Flow} {c : Code} {q : Pos}, segRun tb p w n₀ ann 0 n s t = some (f, s', c, q) → topRun tb p w n₀ ann n s t = some s'
  | 0, _, _, _, _, _, _, h => by cases h
  | n + 1, s, s', t, f, c, q, h => by
    unfold segRun at h
    unfold topRun
    cases he : endAt 0 t with
    | some x =>
      rw [he] at h
      cases h
      have : through t = true := by
        unfold endAt at he
        unfold through
        obtain ⟨cur, code, pos, st⟩ := t
        cases st with
        | nil => split at he <;> simp_all
        | cons a b => simp at he
      rw [this]
    | none =>
      have : through t = false := by
        unfold endAt at he
        unfold through
        obtain ⟨cur, code, pos, st⟩ := t
        cases st with
        | nil =>
          dsimp only at he ⊢
          split at he
          · cases he
          · rename_i h1
            simp only [List.isEmpty_nil, Bool.true_and]
            split
            · exact (h1 _ rfl rfl).elim
            · rfl
        | cons a b => rfl
      rw [he] at h
      rw [this]
      cases hk : stepOk n₀ ann t with
      | false => rw [hk] at h; cases h
      | true =>
        rw [hk] at h
        cases hs : step (denote tb) p w s t with
        | halt o x => rw [hs] at h; cases h
        | go s₂ t₂ => rw [hs] at h; exact top_of_seg h
noncomputable def bootT (P : Params) : BT := .node (boot_o_0 P) (.node (boot_o_1 P) (.node (boot_o_3 P) (.node (boot_o_7 P) .nil .nil) .nil) (.node (boot_o_5 P) (.node (boot_o_9 P) .nil .nil) .nil)) (.node (boot_o_2 P) (.node (boot_o_4 P) (.node (boot_o_8 P) .nil .nil) .nil) (.node (boot_o_6 P) (.node (boot_o_10 P) .nil .nil) .nil))
theorem boot_abs (P : Params) : absHeap (bootT P) 11 {} = boot_heap P := by kernel_rfl
noncomputable def bootS (w : World) (os : OsState) : SharedT := ⟨bootT w.params, 11, {}, #[], boot_drawn, boot_toks, os⟩
noncomputable def looks {α : Type} (p q : Program) (loose : List Str) (Xt : Shared → Bool) (Yf : Shared → α) (g0 : Bool) (h₀ : Heap) (s : Shared) :=
  ((staticsOk (importedModules p.main.body) h₀ s.heap && namesBound p s.heap && gensDone s && laidKept h₀ s.heap), openSeen q loose (importedModules p.main.body) Xt g0 s, Yf s)
theorem left_of {p q : Program} {loose : List Str} {Xt : Shared → Bool} {α : Type} {Yf : Shared → α} {Ya : World → α} {N M : Nat} {g0 : Bool}
    (e : opening p = plainProg p.main.scope.names) (hN : Nat.ble 600 N = true) (f : ∀ s, fenceModules? p s = some s)
    (size : ∀ w : World, ((boot_heap w.params).isNs mainGlobals, (boot_heap w.params).nsMap mainGlobals "__annotations__") = (true, some (.ref 6)))
    (le : Nat.ble M N = true)
    (run : ∀ w : World, (fun os => (segRunT treeTable p w 11 (some (.ref 6)) 0 M (bootS w os) (topStub p)).map fun r => looks p q loose Xt Yf g0 (boot_heap w.params) r.2.1.abs) = fun _ => some (true, openGood q loose, Ya w)) :
    LeftO p q loose Xt Yf Ya N g0 := fun w => by
  obtain ⟨⟨h, gs, d, k, os⟩, e1, e2⟩ := Option.map_eq_some_iff.mp (boot_open e hN f w)
  obtain ⟨rfl, rfl, rfl, rfl⟩ : h = boot_heap w.params ∧ gs = #[] ∧ d = boot_drawn ∧ k = boot_toks := by simpa using e2
  obtain ⟨z1, z3⟩ : _ ∧ _ := by simpa only [Prod.mk.injEq] using size w
  obtain ⟨⟨fl, s, c, ps⟩, r1, r2⟩ := Option.map_eq_some_iff.mp (congrFun (run w) os)
  obtain ⟨l1, l2, l3⟩ : _ ∧ _ ∧ _ := by simpa only [looks, Prod.mk.injEq] using r2
  have r := topRun_mono (N - M) _ _ _ _ (top_of_seg (segRun_of r1))
  rw [show M + (N - M) = N by have := Nat.le_of_ble_eq_true le; omega] at r
  have t : topFrom treeTable p w N ⟨boot_heap w.params, #[], boot_drawn, boot_toks, os⟩ = some s.abs := by
    unfold topFrom
    dsimp only
    rw [z1]
    show (topRun treeTable p w 11 _ N ⟨boot_heap w.params, #[], boot_drawn, boot_toks, os⟩ (topStub p)).bind _ = _
    rw [z3]
    have r' : topRun treeTable p w 11 (some (.ref 6)) N ⟨boot_heap w.params, #[], boot_drawn, boot_toks, os⟩ (topStub p) = some s.abs := by
      rw [← boot_abs]; exact r
    rw [r']
    show (match staticsOk (importedModules p.main.body) (boot_heap w.params) s.abs.heap && namesBound p s.abs.heap && gensDone s.abs && laidKept (boot_heap w.params) s.abs.heap with | true => some s.abs | false => none) = some s.abs
    rw [l1]
  unfold openEnds
  rw [e1]
  show ((topFrom treeTable p w N ⟨boot_heap w.params, #[], boot_drawn, boot_toks, os⟩).map _) = _
  rw [t]
  exact congrArg some (by dsimp only; rw [l2, l3])
theorem boot_size (w : World) : ((boot_heap w.params).isNs mainGlobals, (boot_heap w.params).nsMap mainGlobals "__annotations__") = (true, some (.ref 6)) := by kernel_rfl
end My
lay_quick PySem.W.topStub PySem.W.openGood PySem.W.SharedT.abs PySem.W.xlAt PySem.W.recOk PySem.W.view My.looks
set_option Elab.async false
set_option linter.all false
set_option maxRecDepth 100000
set_option maxHeartbeats 4000000
namespace L2
open PySem PySem.Spec PyProof.Rows
noncomputable def clOf (env : Env) : List (Str × NameKind) → List (Str × Addr) → List (Str × Addr)
  | [], acc => acc
  | (n, k) :: r, acc => if k = .free then clOf env r ((n, (env.cells.lookup n).getD 0) :: acc) else clOf env r acc
theorem forIn_cl {env : Env} (f : (Str × NameKind) → List (Str × Addr) → Sem (ForInStep (List (Str × Addr))))
    (h1 : ∀ n r c, env.cells.lookup n = some c → f (n, .free) r = pure (.yield ((n, c) :: r))) (h2 : ∀ n k r, k ≠ .free → f (n, k) r = pure (.yield r)) :
    ∀ (l : List (Str × NameKind)) (acc : List (Str × Addr)), (∀ y ∈ l, y.2 = .free → ∃ c, env.cells.lookup y.1 = some c) → forIn l acc f = pure (clOf env l acc)
  | [], acc, _ => by rw [List.forIn_nil]; rfl
  | (n, k) :: r, acc, h => by
    have hr : ∀ y ∈ r, y.2 = .free → ∃ c, env.cells.lookup y.1 = some c := fun y hy => h y (List.mem_cons_of_mem _ hy)
    rw [List.forIn_cons]
    by_cases hk : k = .free
    · subst hk
      obtain ⟨c, hc⟩ := h _ List.mem_cons_self rfl
      have hc : env.cells.lookup n = some c := hc
      rw [h1 n acc c hc]
      have ih := forIn_cl f h1 h2 r ((n, c) :: acc) hr
      show (forIn r ((n, c) :: acc) f) = _
      rw [ih]
      unfold clOf
      rw [if_pos rfl, hc]
      rw [← clOf.eq_def]
      rfl
    · rw [h2 n k acc hk]
      have ih := forIn_cl f h1 h2 r acc hr
      show (forIn r acc f) = _
      rw [ih]
      conv => rhs; unfold clOf
      rw [if_neg hk]
theorem closure_of {scope : Scope} {env : Env} (h : ∀ y ∈ scope.names, y.2 = .free → ∃ c, env.cells.lookup y.1 = some c) : closureFor scope env = pure (clOf env scope.names []) := by
  unfold closureFor
  have e := forIn_cl (env := env) (fun x r => if x.2 == NameKind.free then do let c ← cellOf env x.1; pure (ForInStep.yield ((x.1, c) :: r)) else pure (ForInStep.yield r))
    (fun n r c hc => by
      have e : cellOf env n = pure c := by unfold cellOf; rw [hc]
      show (if (NameKind.free == NameKind.free) = true then _ else _) = _
      rw [if_pos (by decide), e]
      rfl)
    (fun n k r hk => by
      show (if (k == NameKind.free) = true then _ else _) = _
      rw [if_neg (by intro z; exact hk (eq_of_beq z))]) scope.names [] h
  exact (congrArg (fun m => m >>= fun cs => (pure cs : Sem (List (Str × Addr)))) e)
theorem clOf_mem {env : Env} : ∀ (l : List (Str × NameKind)) (acc : List (Str × Addr)) (y : Str) (c : Addr), (∀ y ∈ l, y.2 = .free → ∃ c, env.cells.lookup y.1 = some c) → (∀ y c, acc.lookup y = some c → env.cells.lookup y = some c) →
    (clOf env l acc).lookup y = some c → env.cells.lookup y = some c
  | [], acc, y, c, _, ha, e => ha y c e
  | (n, k) :: r, acc, y, c, h, ha, e => by
    have hr : ∀ y ∈ r, y.2 = .free → ∃ c, env.cells.lookup y.1 = some c := fun y hy => h y (List.mem_cons_of_mem _ hy)
    unfold clOf at e
    by_cases hk : k = .free
    · rw [if_pos hk] at e
      refine clOf_mem r _ y c hr (fun z d q => ?_) e
      rw [List.lookup_cons] at q
      cases hz : z == n with
      | true =>
        rw [hz] at q
        have q' : (env.cells.lookup n).getD 0 = d := Option.some.inj q
        obtain ⟨c', hc'⟩ := h _ List.mem_cons_self hk
        have hc' : env.cells.lookup n = some c' := hc'
        rw [hc'] at q'
        have q' : c' = d := q'
        rw [eq_of_beq hz, hc', q']
      | false =>
        rw [hz] at q
        exact ha z d q
    · rw [if_neg hk] at e
      exact clOf_mem r acc y c hr ha e
theorem clOf_acc {env : Env} : ∀ (l : List (Str × NameKind)) (acc : List (Str × Addr)) (y : Str), (∃ c, acc.lookup y = some c) → ∃ c, (clOf env l acc).lookup y = some c
  | [], _, _, h => h
  | (n, k) :: r, acc, y, h => by
    unfold clOf
    by_cases hk : k = .free
    · rw [if_pos hk]
      refine clOf_acc r _ y ?_
      rw [List.lookup_cons]
      cases hz : y == n with
      | true => exact ⟨_, rfl⟩
      | false => exact h
    · rw [if_neg hk]
      exact clOf_acc r acc y h
theorem clOf_has {env : Env} : ∀ (l : List (Str × NameKind)) (acc : List (Str × Addr)) (y : Str), (y, NameKind.free) ∈ l → ∃ c, (clOf env l acc).lookup y = some c
  | [], _, _, h => by simp at h
  | (n, k) :: r, acc, y, h => by
    unfold clOf
    by_cases hk : k = .free
    · rw [if_pos hk]
      rcases List.mem_cons.mp h with e | e
      · refine clOf_acc r _ y ?_
        have e1 : y = n := congrArg Prod.fst e
        rw [List.lookup_cons, e1]
        simp
      · exact clOf_has r _ y e
    · rw [if_neg hk]
      rcases List.mem_cons.mp h with e | e
      · exact absurd (congrArg Prod.snd e).symm hk
      · exact clOf_has r acc y e
theorem relabel_lookup (scope : Scope) (env : Env) (y : Str) : (relabel scope env).names.lookup y = (scope.names.lookup y).map fun k => if (k == NameKind.free && env.scope.kind == .function && env.kindOf y == some .cell) = true then .cell else k := by
  show (scope.names.map _).lookup y = _
  induction scope.names with
  | nil => rfl
  | cons p r ih =>
    obtain ⟨n, k⟩ := p
    rw [List.map_cons, List.lookup_cons (a := y) (k := n) (b := k)]
    cases hz : y == n with
    | true =>
      have e : y = n := eq_of_beq hz
      subst e
      show List.lookup y ((if (k == NameKind.free && env.scope.kind == .function && env.kindOf y == some .cell) = true then (y, NameKind.cell) else (y, k)) :: _) = some (if _ then _ else _)
      by_cases hc : (k == NameKind.free && env.scope.kind == .function && env.kindOf y == some .cell) = true
      · rw [if_pos hc, if_pos hc]; simp
      · rw [if_neg hc, if_neg hc]; simp
    | false =>
      show List.lookup y ((if (k == NameKind.free && env.scope.kind == .function && env.kindOf n == some .cell) = true then (n, NameKind.cell) else (n, k)) :: _) = _
      by_cases hc : (k == NameKind.free && env.scope.kind == .function && env.kindOf n == some .cell) = true
      · rw [if_pos hc, List.lookup_cons, hz]; exact ih
      · rw [if_neg hc, List.lookup_cons, hz]; exact ih
noncomputable def cxComp (X : Cx) (scope : Scope) (x : Str) (N' : List Str) (C : Addr) (s : Shared) (H : Hp) (fp : List Addr) (pn : List (Addr × Obj)) : Cx where
  prog := X.prog
  w := X.w
  K := X.K
  mg := X.mg
  base := X.base
  A := X.A
  N := x :: N'
  s₀ := s
  H₀ := H
  env := compEnvC scope (clOf X.env scope.names []) C X.env
  outer := X.stack
  stack := X.stack
  ex := fp
  fn := fun _ => false
  calm := X.calm
  pn := pn
  xe := fun _ _ => False
section
variable {X : Cx} {pins : List (Addr × Obj)} {σ : St} {H : Hp} {s : Shared}
structure CompSc (X : Cx) (scope : Scope) (x : Str) (N' : List Str) : Prop where
  loc : scope.names.lookup x = some .local
  nocell : ∀ y ∈ scope.names, y.2 ≠ .cell
  kind : scope.kind = .function
  names : ∀ y ∈ scope.names, y.2 = .local → scope.names.lookup y.1 = some .local
  free : ∀ y ∈ scope.names, y.2 = .free → X.env.kindOf y.1 = some .cell ∨ X.env.kindOf y.1 = some .free
  nin : x ∉ N'
  nd : N'.Nodup
  len : N'.length = X.N.length
  sub : ∀ (i : Nat) (y : Str), N'[i]? = some y → X.N[i]? = some y ∨ scope.names.lookup y = none
  only : ∀ y ∈ scope.names, y.2 = .local → y.1 = x ∨ y.1 ∉ N'
theorem Inv.compIn {scope : Scope} {x : Str} {N' : List Str} {fp : List Addr} {h1 : Heap} {tk : Nat} {m : Str → Option Value} (S : CompSc X scope x N') (I : Inv X pins σ H s) (hf : ∀ b ∈ fp, FpOk X pins H b) (hfl : ∀ b ∈ fp, b < s.heap.objs.size)
    (hn : h1.Ns s.heap.objs.size m) (hsb : ∀ b o, s.heap.get? b = some o → h1.get? b = some o) :
    Inv (cxComp X scope x N' s.heap.objs.size s H fp (X.pn ++ pins)) [] (none :: σ) H { s with heap := h1, toks := tk } := by
  have hcells : ∀ y ∈ scope.names, y.2 = .free → ∃ c, X.env.cells.lookup y.1 = some c := fun y hy hk => I.ok.has y.1 (S.free y hy hk)
  have sub : ∀ y c, (clOf X.env scope.names []).lookup y = some c → X.env.cells.lookup y = some c := fun y c e => clOf_mem _ _ y c hcells (fun z d q => by simp at q) e
  have lk : ∀ (y : Str) (k : NameKind), (relabel scope X.env).names.lookup y = some k → k = .cell ∨ k = .free → scope.names.lookup y = some .free := fun y k e hk => by
    rw [relabel_lookup] at e
    cases q : scope.names.lookup y with
    | none => rw [q] at e; cases e
    | some k0 =>
      rw [q] at e
      have e' : (if (k0 == NameKind.free && X.env.scope.kind == .function && X.env.kindOf y == some .cell) = true then NameKind.cell else k0) = k := Option.some.inj e
      by_cases hc : (k0 == NameKind.free && X.env.scope.kind == .function && X.env.kindOf y == some .cell) = true
      · simp only [Bool.and_eq_true] at hc
        rw [eq_of_beq hc.1.1]
      · rw [if_neg hc] at e'
        subst e'
        rcases hk with hk | hk
        · exact absurd hk (S.nocell _ (PySem.mem_of_lookup q))
        · rw [hk]
  have lt : ∀ {b : Addr} {o : Obj}, s.heap.get? b = some o → b ≠ s.heap.objs.size := fun e => Nat.ne_of_lt (Heap.lt_size e)
  refine ⟨⟨I.ok.mod, by show (relabel scope X.env).kind = _; exact S.kind, I.ok.glob, I.ok.blt, Nat.le_refl _, fun y z c e1 e2 => I.ok.inj y z c (sub y c e1) (sub z c e2), fun y hy => ?_, fun y c hz => (by cases hz), I.ok.hd, I.ok.frames, .inl rfl,
    fun b hb => ⟨Nat.ne_of_lt (hfl b hb), fun y c e => (hf b hb).2.2.2.2.1 y c (sub y c e)⟩, I.bs, Nat.le_trans I.ok.bsz I.sz, fun b o e hb => ?_, fun b hb hz => ?_, I.stack, I.stkFree⟩,
    rfl, I.bare, Un.kept hsb, ⟨m, hn, fun i y v h1 h2 h3 => ?_⟩, fun y c e => ?_, I.hok.fresh (Nat.le_refl _), fun y c e => I.freeC y c (sub y c e), fun p hp => ?_, I.hok.kept hsb, ?_⟩
  · have hy : (relabel scope X.env).names.lookup y = some .cell ∨ (relabel scope X.env).names.lookup y = some .free := hy
    have q : scope.names.lookup y = some .free := hy.elim (fun z => lk y _ z (.inl rfl)) fun z => lk y _ z (.inr rfl)
    exact clOf_has _ _ y (PySem.mem_of_lookup q)
  · obtain ⟨_, _, _, f3, _, _⟩ := hf b hb
    rcases f3 with f3 | f3
    · exact I.ok.noex b o e f3
    · exact absurd (Nat.lt_of_lt_of_le (Heap.lt_size e) (Nat.le_trans I.ok.bsz f3)) (Nat.lt_irrefl _)
  · have hz : b ∈ frs X.stack := hz
    obtain ⟨_, f1, f2, _⟩ := hf b hb
    rcases List.mem_cons.mp (I.stkSub b hz) with z | z
    · exact f1 z
    · exact f2 z
  · cases i with
    | zero => simp at h2
    | succ i =>
      have h1 : N'[i]? = some y := by simpa [cxComp] using h1
      have h2 : σ[i]? = some (some v) := by simpa using h2
      have hne : N'[i]? ≠ some x := fun z => S.nin (List.mem_of_getElem? z)
      have h3 : Vis (relabel scope X.env) y := h3
      obtain ⟨m', hn', hl'⟩ := I.loc
      have q : scope.names.lookup y = some .free := by
        rcases h3 with z | z | z
        · exfalso
          rw [relabel_lookup] at z
          cases q : scope.names.lookup y with
          | none => rw [q] at z; cases z
          | some k0 =>
            rw [q] at z
            have e' : (if (k0 == NameKind.free && X.env.scope.kind == .function && X.env.kindOf y == some .cell) = true then NameKind.cell else k0) = .local := Option.some.inj z
            by_cases hc : (k0 == NameKind.free && X.env.scope.kind == .function && X.env.kindOf y == some .cell) = true
            · rw [if_pos hc] at e'; cases e'
            · rw [if_neg hc] at e'
              subst e'
              rcases S.only _ (PySem.mem_of_lookup q) rfl with w | w
              · exact hne (by rw [h1]; exact congrArg some w)
              · exact w (List.mem_of_getElem? h1)
        · exact lk y _ z (.inl rfl)
        · exact lk y _ z (.inr rfl)
      obtain ⟨c, hc⟩ := clOf_has (env := X.env) scope.names [] y (PySem.mem_of_lookup q)
      have hk : X.env.kindOf y = some .cell ∨ X.env.kindOf y = some .free := S.free _ (PySem.mem_of_lookup q) rfl
      have h1' : X.N[i]? = some y := (S.sub i y h1).resolve_right fun z => by rw [q] at z; cases z
      obtain ⟨u, r, l⟩ := hl' i y v h1' h2 (.inr hk)
      refine ⟨u, r, ?_⟩
      have kd : (compEnvC scope (clOf X.env scope.names []) s.heap.objs.size X.env).kindOf y = some .cell ∨ (compEnvC scope (clOf X.env scope.names []) s.heap.objs.size X.env).kindOf y = some .free := by
        rcases h3 with z | z | z
        · exfalso
          rw [relabel_lookup, q] at z
          have e' : (if (NameKind.free == NameKind.free && X.env.scope.kind == .function && X.env.kindOf y == some .cell) = true then NameKind.cell else NameKind.free) = .local := Option.some.inj z
          by_cases hc : (NameKind.free == NameKind.free && X.env.scope.kind == .function && X.env.kindOf y == some .cell) = true
          · rw [if_pos hc] at e'; cases e'
          · rw [if_neg hc] at e'; cases e'
        · exact .inl z
        · exact .inr z
      rcases l with ⟨a, _⟩ | ⟨_, c', hc', ic⟩
      · rcases hk with k | k <;> (rw [k] at a; cases a)
      · have e : X.env.cells.lookup y = some c := sub y c hc
        rw [e] at hc'
        cases hc'
        obtain ⟨o, ho, hd⟩ := ic
        exact .inr ⟨kd, c, hc, ⟨o, hsb _ _ ho, hd⟩⟩
  · obtain ⟨v, o, ho, hd⟩ := I.cell y c (sub y c e)
    exact ⟨v, o, hsb _ _ ho, hd⟩
  · have hp : p ∈ X.pn ++ pins := by
      have hp : p ∈ (X.pn ++ pins) ++ [] := hp
      rwa [List.append_nil] at hp
    obtain ⟨e, n, ne, nf, d⟩ := I.pin p hp
    refine ⟨hsb _ _ e, n, lt e, fun hz => ?_, d⟩
    have hz : p.1 ∈ frs X.stack := hz
    rcases List.mem_cons.mp (I.stkSub _ hz) with z | z
    · exact ne z
    · exact nf z
  · show (none :: σ).length = (x :: N').length
    rw [List.length_cons, List.length_cons, I.len, S.len]
noncomputable def PTs (X : Cx) (ifs : List Expr) (t : TT) : Prop :=
  ∀ (pins : List (Addr × Obj)) (s : Shared) (σ : St) (H : Hp) (Q : Bool → Hp → Prop) (E : Value → Shared → Prop), Inv X pins σ H s → t σ H Q →
    wpAny (model X.prog X.w) X.A (forIn ifs true fun c r => if r = true then do let ok ← isTrue c X.env (eval c X.env); pure (ForInStep.yield ok) else pure (ForInStep.yield r)) (TP X pins σ Q) E s
noncomputable def tYes : TT := fun _ H Q => Q true H
theorem pts_nil : PTs X [] tYes := fun _ _ _ H _ _ I h => wpAny_tests_nil ⟨H, I, h⟩
theorem comp_loop {prog : Program} {w : World} {A : Around} {R : Result → Shared → Prop} {s : Shared} {elt target iter : Expr} {ifs : List Expr} {scope : Scope} {pos : Pos} {it acc : Value} {env : Env} (J : Nat → Shared → Prop)
    (turn : ∀ n s, J n s → wpAny (model prog w) A (pyNext it) (fun r s1 => match r with
      | none => R (.ok .next) s1
      | some v => wpAny (model prog w) A (letOwnedTupleGo target it v) (fun _ s2 => wpAny (model prog w) A (assign target env v) (fun _ s3 =>
          wpAny (model prog w) A (forIn ifs true fun c r => if r = true then do let ok ← isTrue c env (eval c env); pure (ForInStep.yield ok) else pure (ForInStep.yield r)) (fun ok s4 =>
            if ok = true then wpAny (model prog w) A (eval elt env) (fun y s5 => wpAny (model prog w) A (call (.builtin "list.append") [acc, y]) (fun _ s6 => ∃ m, m < n ∧ J m s6) (fun _ _ => False) s5) (fun _ _ => False) s4
            else ∃ m, m < n ∧ J m s4) (fun _ _ => False) s3) (fun _ _ => False) s2) (fun _ _ => False) s1) (fun _ _ => False) s)
    (n : Nat) (h : J n s) : codeAny (model prog w) A (.compLoop (.ListComp elt [⟨target, iter, ifs, 0⟩] scope pos) 0 it acc env) R s := by
  have no : ∀ {α : Type} {t : Sem α} {Q : α → Shared → Prop} {E : Value → Shared → Prop} {s : Shared}, wpAny (model prog w) A t Q (fun _ _ => False) s → wpAny (model prog w) A t Q E s :=
    fun q => wpAny_mono q (fun _ _ z => z) fun _ _ z => z.elim
  refine codeAny_loop rfl J (fun n s hJ => ?_) n h
  refine wpAny_noted (m := compTurn (.ListComp elt [⟨target, iter, ifs, 0⟩] scope pos) 0 it acc env) ?_
  rw [compTurn_list]
  refine wpAny_bind (wpAny_standAt (wpAny_bind (no (thn (turn n s hJ) fun r s1 q1 => ?_))))
  cases r with
  | none => exact wpAny_pure q1
  | some v =>
    refine no ?_
    refine wpAny_bind (thn q1 fun _ s2 q2 => wpAny_bind (thn q2 fun _ s3 q3 => wpAny_bind (thn q3 fun ok s4 q4 => ?_)))
    cases ok with
    | false => exact wpAny_pure ⟨rfl, q4⟩
    | true => exact wpAny_bind (wpAny_bind (thn q4 fun y s5 q5 => wpAny_bind (thn q5 fun _ s6 q6 => wpAny_pure (wpAny_pure ⟨rfl, q6⟩))))
noncomputable def CompW (J : It) (tt : TT) (te : TE) (σ : St) (Q : VK) (D : Addr) (H1 : Hp) : Prop := ∃ W : Nat → Nat → List V → Hp → Prop, (∃ m, W 0 m [] (upd H1 D (.lst []))) ∧
  ∀ i m ys H', W i m ys H' → (J.stop i H' ∧ Q (.ref D) H') ∨ (J.go i H' ∧ ∀ v H2, J.yld i H' v H2 → tt (some v :: σ) H2 fun b H3 =>
    if b = true then te (some v :: σ) H3 fun y H4 => H4 D = some (.lst ys) ∧ ys.length < sizeLine ∧ ∃ m', m' < m ∧ W (i + 1) m' (ys ++ [y]) (upd H4 D (.lst (ys ++ [y])))
    else ∃ m', m' < m ∧ W (i + 1) m' ys H3)
noncomputable def tComp (wi : TI) (tt : TT) (te : TE) : TE := fun σ H Q => wi σ H fun J H1 => ∀ D, H1 D = none → CompW J tt te σ Q D H1
theorem comp_core {elt iter : Expr} {x : Str} {N' : List Str} {px : Pos} {ifs : List Expr} {scope : Scope} {pos : Pos} {tt : TT} {te : TE} (hc : X.calm = true) (S : CompSc X scope x N')
    (ht : ∀ C s H fp pn, PTs (cxComp X scope x N' C s H fp pn) ifs tt) (he : ∀ C s H fp pn, PE (cxComp X scope x N' C s H fp pn) elt te) {Q : VK} {itv : Value} {s2 : Shared} {RR : Value → Addr → Result → Shared → Prop}
    (h2 : PIE X pins σ (.Name x px) (fun J H1 => ∀ D, H1 D = none → CompW J tt te σ Q D H1) itv s2)
    (hend : ∀ (D C : Addr) (H6 : Hp) (s7 : Shared) (m7 : Str → Option Value), Inv X pins σ H6 s7 → s7.heap.Ns C m7 → FpOk X pins H6 C → Q (.ref D) H6 → RR (.ref D) C (.ok .next) s7) :
    wpAny (model X.prog X.w) X.A (newList []) (fun acc s3 => wpAny (model X.prog X.w) X.A (newFunctionEnv scope X.env.globals (clOf X.env scope.names []) [] X.env.qual none .none (some X.env)) (fun cenv s4 =>
      codeAny (model X.prog X.w) X.A (.compStart (.ListComp elt [⟨.Name x px, iter, ifs, 0⟩] scope pos) 0 itv acc { cenv with scope := relabel scope X.env }) (RR acc cenv.locals) s4) X.xe s3) X.xe s2 := by
  obtain ⟨it, fp, tn, J, H2, e, I2, T, st2, f2, hW⟩ := h2
  subst e
  have hlt : ∀ b ∈ fp, b < s2.heap.objs.size := fun b hb => by
    obtain ⟨o, ho, _⟩ := T.obj _ _ st2 b hb
    exact Heap.lt_size ho
  obtain ⟨W, ⟨m0, w0⟩, hturn⟩ := hW s2.heap.objs.size (I2.hok.fresh (Nat.le_refl _))
  refine wpAny_newObj_type ?_ (by show 0 ≤ sizeLine; exact Nat.zero_le _)
  have I3 : Inv X pins σ (upd H2 s2.heap.objs.size (.lst [])) { s2 with heap := s2.heap.push { cls := .type "list", data := .seq ([] : List Value).toArray } } := I2.lnew (t' := s2.toks) .nil (Nat.zero_le _)
  have f3 : ∀ b ∈ fp, FpOk X pins (upd H2 s2.heap.objs.size (.lst [])) b := fun b hb => by
    obtain ⟨g0, g⟩ := f2 b hb
    exact ⟨by rw [upd_ne (Nat.ne_of_lt (hlt b hb))]; exact g0, g⟩
  have st3 : tn 0 (s2.heap.push { cls := .type "list", data := .seq ([] : List Value).toArray }) := T.keep _ _ _ st2 fun b _ o e => Heap.get?_push_of_some _ e
  have hlt3 : ∀ b ∈ fp, b < (s2.heap.push { cls := .type "list", data := .seq ([] : List Value).toArray }).objs.size := fun b hb => by rw [Heap.size_push]; exact Nat.lt_succ_of_lt (hlt b hb)
  generalize hs3 : ({ s2 with heap := s2.heap.push { cls := .type "list", data := .seq ([] : List Value).toArray } } : Shared) = s3 at I3
  have eh : s3.heap = s2.heap.push { cls := .type "list", data := .seq ([] : List Value).toArray } := by rw [← hs3]
  rw [← eh] at st3 hlt3
  show wpAny _ _ (newFunctionEnv scope X.env.globals (clOf X.env scope.names []) [] X.env.qual none .none (some X.env)) _ _ _
  refine wpAny_newFunctionEnv S.nocell (by intro y hy; simp at hy) (fun h4 hns4 hsb4 => ?_) S.kind
  have hk4 : ∀ b o, s3.heap.get? b = some o → h4.get? b = some o := fun b o e => (hsb4.2 b (Nat.ne_of_lt (Heap.lt_size e))).trans (Heap.get?_push_of_some _ e)
  have I4 := Inv.compIn (tk := s3.toks + ([] : List (Str × Value)).length) S I3 f3 hlt3 hns4 hk4
  have st4 : tn 0 h4 := T.keep _ _ _ st3 fun b _ o e => hk4 b o e
  have fx : ∀ {H' : Hp}, (∀ b ∈ fp, H' b = none) → ∀ b ∈ fp, FpOk (cxComp X scope x N' s3.heap.objs.size s3 (upd H2 s2.heap.objs.size (.lst [])) fp (X.pn ++ pins)) [] H' b := fun {H'} hn b hb => by
    obtain ⟨_, g1, g2, g3, g4, g5⟩ := f3 b hb
    refine ⟨hn b hb, Nat.ne_of_lt (hlt3 b hb), I4.ok.exfs b hb, .inl hb, fun y c e => (I4.ok.exf b hb).2 y c e, fun p hp => g5 p ?_⟩
    have hp : p ∈ (X.pn ++ pins) ++ [] := hp
    rwa [List.append_nil] at hp
  have loop : ∀ s5 : Shared, (∃ (i n : Nat) (o : Option V) (ys : List V) (H5 : Hp), Inv (cxComp X scope x N' s3.heap.objs.size s3 (upd H2 s2.heap.objs.size (.lst [])) fp (X.pn ++ pins)) [] (o :: σ) H5 s5 ∧ tn i s5.heap ∧ (∀ b ∈ fp, H5 b = none) ∧ W i n ys H5) →
      codeAny (model X.prog X.w) X.A (.compLoop (.ListComp elt [⟨.Name x px, iter, ifs, 0⟩] scope pos) 0 (.ref it) (.ref s2.heap.objs.size) (compEnvC scope (clOf X.env scope.names []) s3.heap.objs.size X.env))
        (RR (.ref s2.heap.objs.size) s3.heap.objs.size) s5 := by
    rintro s5 ⟨i5, n5, o5, ys5, H5, I5, st5, fr5, w5⟩
    refine comp_loop (fun n s' => ∃ (i : Nat) (o : Option V) (ys : List V) (H5 : Hp), Inv (cxComp X scope x N' s3.heap.objs.size s3 (upd H2 s2.heap.objs.size (.lst [])) fp (X.pn ++ pins)) [] (o :: σ) H5 s' ∧ tn i s'.heap ∧ (∀ b ∈ fp, H5 b = none) ∧ W i n ys H5) ?_ n5 ⟨i5, o5, ys5, H5, I5, st5, fr5, w5⟩
    rintro n s6 ⟨i, o, ys, H6, I6, st6, fr6, w6⟩
    rcases hturn i n ys H6 w6 with ⟨stop, qn⟩ | ⟨go, step⟩
    · refine thn (T.done (cxComp X scope x N' s3.heap.objs.size s3 (upd H2 s2.heap.objs.size (.lst [])) fp (X.pn ++ pins)) rfl rfl rfl hc i [] s6 _ H6 _ I6 (fx fr6) st6 stop) fun r s7 ⟨hr, I7⟩ => ?_
      subst hr
      obtain ⟨m7, hn7, _⟩ := id I7.loc
      have I8 : Inv X pins σ H6 s7 := I3.call' I7.os I7.base I7.hok I7.bare fun b hb => by
        obtain ⟨_, g1, g2, g3, g4, g5⟩ := f3 b hb
        exact ⟨g3, g1, g4, g5⟩
      have f8 : FpOk X pins H6 s3.heap.objs.size := I3.fpOk (Nat.le_refl _) I7.free
      exact hend _ _ H6 s7 m7 I8 hn7 f8 qn
    · refine thn (T.item (cxComp X scope x N' s3.heap.objs.size s3 (upd H2 s2.heap.objs.size (.lst [])) fp (X.pn ++ pins)) rfl rfl rfl hc i [] s6 _ H6 _ I6 (fx fr6) st6 go) fun r s7 ⟨u, hr, h7⟩ => ?_
      subst hr
      refine thn h7 fun _ s8 ⟨v, H8, I8, r8, y8, st8, fr8⟩ => ?_
      have I8' := I8.pinned (fx fr8) (T.obj _ _ st8)
      refine wpAny_assign_Name (store_ok I8' (i := 0) (List.nodup_cons.mpr ⟨S.nin, S.nd⟩) rfl (.inl (lookup_relabel_local S.loc)) r8 (fun s9 I9 => ?_) (.inr (lookup_relabel_local S.loc)))
      have I9 : Inv (cxComp X scope x N' s3.heap.objs.size s3 (upd H2 s2.heap.objs.size (.lst [])) fp (X.pn ++ pins)) ([] ++ pinsAt fp s8.heap) (some v :: σ) H8 s9 := I9
      refine thn (ht _ _ _ _ _ _ s9 (some v :: σ) H8 _ _ I9 (step v H8 y8)) fun b s10 ⟨H10, I10, q10⟩ => ?_
      have back : ∀ {s' : Shared} {H' : Hp} {ys' : List V} {m' : Nat}, Inv (cxComp X scope x N' s3.heap.objs.size s3 (upd H2 s2.heap.objs.size (.lst [])) fp (X.pn ++ pins)) ([] ++ pinsAt fp s8.heap) (some v :: σ) H' s' → W (i + 1) m' ys' H' →
          ∃ (i : Nat) (o : Option V) (ys : List V) (H5 : Hp), Inv (cxComp X scope x N' s3.heap.objs.size s3 (upd H2 s2.heap.objs.size (.lst [])) fp (X.pn ++ pins)) [] (o :: σ) H5 s' ∧ tn i s'.heap ∧ (∀ b ∈ fp, H5 b = none) ∧ W i m' ys H5 := fun {s' H' ys' m'} I' w' => by
        refine ⟨i + 1, some v, ys', H', I'.unpinned, T.keep _ _ _ st8 fun b hb o e => (I'.pin (b, o) (List.mem_append_right _ (List.mem_append_right _ (mem_pinsAt hb e)))).1, fun b hb => ?_, w'⟩
        obtain ⟨o, e, d⟩ := T.obj _ _ st8 b hb
        exact (I'.pin (b, o) (List.mem_append_right _ (List.mem_append_right _ (mem_pinsAt hb e)))).2.1
      cases b with
      | false =>
        rw [if_neg Bool.false_ne_true] at q10 ⊢
        obtain ⟨m', hm, w'⟩ := q10
        exact ⟨m', hm, back I10 w'⟩
      | true =>
        rw [if_pos rfl] at q10 ⊢
        refine thn (he _ _ _ _ _ _ s10 (some v :: σ) H10 _ I10 q10) fun y s11 ⟨yv, H11, I11, r11, hD, hz, m', hm, w'⟩ => ?_
        have ap := mt_append (X := cxComp X scope x N' s3.heap.objs.size s3 (upd H2 s2.heap.objs.size (.lst [])) fp (X.pn ++ pins)) _ s11 (some v :: σ) H11 (.ref s2.heap.objs.size) [yv] (.ref s2.heap.objs.size) [y] (fun _ H' => W (i + 1) m' (ys ++ [yv]) H') I11 rfl (.cons r11 .nil) ⟨_, ys, yv, rfl, rfl, hD, hz, w'⟩
        exact thn ap fun _ s12 ⟨_, H12, I12, _, w12⟩ => ⟨m', hm, back I12 w12⟩
  have l4 := loop { s3 with heap := h4, toks := s3.toks + ([] : List (Str × Value)).length } ⟨0, m0, none, [], _, I4, st4, fun b hb => (f3 b hb).1, w0⟩
  exact codeAny_compStart_list l4 (T.self _ _ _ _ _ st4 l4)
theorem pe_comp {elt iter : Expr} {x : Str} {N' : List Str} {px : Pos} {ifs : List Expr} {scope : Scope} {pos : Pos} {wi : TI} {tt : TT} {te : TE} (hc : X.calm = true) (hi : PI X (.Name x px) iter wi) (S : CompSc X scope x N')
    (ht : ∀ C s H fp pn, PTs (cxComp X scope x N' C s H fp pn) ifs tt) (he : ∀ C s H fp pn, PE (cxComp X scope x N' C s H fp pn) elt te) (hs : ∀ x, foldedSetIterable iter X.env x = pure x := by intro _; rfl) :
    PE X (.ListComp elt [⟨.Name x px, iter, ifs, 0⟩] scope pos) (tComp wi tt te) := by
  intro pins s σ H Q I h
  have hcells : ∀ y ∈ scope.names, y.2 = .free → ∃ c, X.env.cells.lookup y.1 = some c := fun y hy hk => I.ok.has y.1 (S.free y hy hk)
  rw [eval_ListComp]
  refine wpAny_comprehension_free (use := none) rfl hs (closure_of hcells) S.kind S.names (thn (hi pins s σ H _ I h) fun xv s1 h1 => thn h1 fun itv s2 h2 => ?_)
  refine comp_core (RR := fun acc C => compPost (model X.prog X.w) X.A X.xe none (EP X pins σ Q) acc C) hc S ht he h2 fun D C H6 s7 m7 I8 hn7 f8 qn => ?_
  refine ⟨m7, hn7, fun h' hs' => ?_⟩
  obtain ⟨g0, g1, g2, g3, g4, g5⟩ := f8
  exact ⟨.ref D, H6, I8.turned (t' := s7.toks) (fun b o hb e => (hs'.2 b hb).trans e) g0 g1 g3 g4 g5, rfl, qn⟩
theorem ps_comp {elt iter : Expr} {x y : Str} {N' : List Str} {i : Nat} {px py : Pos} {ifs : List Expr} {scope : Scope} {pos spos : Pos} {wi : TI} {tt : TT} {te : TE} (hN : X.N.Nodup) (hiy : X.N[i]? = some y) (hy : Loc X.env.scope y) (hc : X.calm = true) (hi : PI X (.Name x px) iter wi) (S : CompSc X scope x N')
    (ht : ∀ C s H fp pn, PTs (cxComp X scope x N' C s H fp pn) ifs tt) (he : ∀ C s H fp pn, PE (cxComp X scope x N' C s H fp pn) elt te)
    (hsw : swapsWith (.ListComp elt [⟨.Name x px, iter, ifs, 0⟩] scope pos) (some (.Name y py)) spos.line X.env = pure true := by rfl) (hs : ∀ x, foldedSetIterable iter X.env x = pure x := by intro _; rfl)
    (hf : X.fn y = true ∨ X.env.scope.names.lookup y = some .local := by first | exact .inl rfl | exact .inr rfl | assumption) :
    PS X (.Assign [.Name y py] (.ListComp elt [⟨.Name x px, iter, ifs, 0⟩] scope pos) spos) (tAsg (tComp wi tt te) (gName i)) := by
  intro pins s σ H D I h
  have hcells : ∀ y ∈ scope.names, y.2 = .free → ∃ c, X.env.cells.lookup y.1 = some c := fun y hy hk => I.ok.has y.1 (S.free y hy hk)
  rw [exec_Assign_Name_used _ _ _ _ hsw]
  refine wpAny_bind (wpAny_standAt (wpAny_bind ?_))
  show wpAny _ X.A (do let _ ← comprehension (.ListComp elt [⟨.Name x px, iter, ifs, 0⟩] scope pos) scope X.env _ (newList []) false (eval iter X.env) (some (assign (.Name y py) X.env))) _ _ s
  refine wpAny_bind (thn (wpAny_comprehension_free (use := some (assign (.Name y py) X.env)) (Q := fun _ s' => SP X pins D .next s') rfl hs (closure_of hcells) S.kind S.names
    (thn (hi pins s σ H _ I h) fun xv s1 h1 => thn h1 fun itv s2 h2 => ?_)) fun _ s' hq => wpAny_pure (wpAny_pure hq))
  refine comp_core (RR := fun acc C => compPost (model X.prog X.w) X.A X.xe (some (assign (.Name y py) X.env)) (fun _ s' => SP X pins D .next s') acc C) hc S ht he h2 fun L C H6 s7 m7 I8 hn7 f8 qn => ?_
  obtain ⟨g0, g1, g2, g3, g4, g5⟩ := f8
  show wpAny _ X.A (assign (.Name y py) X.env (.ref L)) _ _ _
  refine wpAny_assign_Name (store_ok2 I8 hN hiy hy (v := .ref L) (u := .ref L) rfl (fun s8 I9 hch => ?_) hf)
  obtain ⟨a, hsb, ha⟩ := hch
  have hCa : C ≠ a := by
    rcases ha with z | z
    · rw [z]; exact g1
    · exact fun w => g4 _ _ z w.symm
  refine ⟨m7, hn7.sameBut hsb hCa, fun h' hs' => ?_⟩
  exact ⟨_, H6, I9.turned (t' := s8.toks) (fun b o hb e => (hs'.2 b hb).trans e) g0 g1 g3 g4 g5, qn⟩
end
end L2
set_option Elab.async false
set_option linter.all false
set_option maxRecDepth 100000
set_option maxHeartbeats 4000000
namespace L2
open PySem PySem.Spec PyProof.Rows
noncomputable def compOk (sc scope : Scope) (N N' : List Str) (x : Str) : Bool :=
  decide (scope.names.lookup x = some .local) && scope.names.all (fun y => decide (y.2 ≠ .cell)) && decide (scope.kind = .function) && scope.names.all (fun y => decide (y.2 = .local → scope.names.lookup y.1 = some .local)) &&
  scope.names.all (fun y => decide (y.2 = .free → sc.names.lookup y.1 = some .cell ∨ sc.names.lookup y.1 = some .free)) && decide (x ∉ N') && decide N'.Nodup && decide (N'.length = N.length) &&
  (List.range N'.length).all (fun i => match N'[i]? with | some y => decide (N[i]? = some y ∨ scope.names.lookup y = none) | none => true) && scope.names.all (fun y => decide (y.2 = .local → y.1 = x ∨ y.1 ∉ N'))
theorem comp_sc {X : Cx} {scope : Scope} {x : Str} (sc : Scope) (N N' : List Str) (hsc : X.env.scope = sc) (hN : X.N = N) (h : compOk sc scope N N' x = true) : CompSc X scope x N' := by
  subst hsc hN
  unfold compOk at h
  simp only [Bool.and_eq_true, List.all_eq_true, decide_eq_true_eq] at h
  obtain ⟨⟨⟨⟨⟨⟨⟨⟨⟨h1, h2⟩, h3⟩, h4⟩, h5⟩, h6⟩, h7⟩, h7'⟩, h8'⟩, h8⟩ := h
  refine ⟨h1, h2, h3, h4, h5, h6, h7, h7', fun i y e => ?_, h8⟩
  have hi : i < N'.length := (List.getElem?_eq_some_iff.mp e).1
  have z := h8' i (List.mem_range.mpr hi)
  rw [e] at z
  exact of_decide_eq_true z
noncomputable def Its (x : Str) : It := ⟨fun i _ => i < x.cps.size, fun i H v H' => H' = H ∧ ∃ c, x.cps[i]? = some c ∧ v = .str ⟨#[c]⟩, fun i _ => x.cps.size = i⟩
theorem turn_str {P : Program} {w : World} {K : PySem.W.Frag} {tg : Expr} {it : Addr} {x : Str} {t : Tok} {ty : String}
    (hty : ["enumerate", "zip", "dict_itemiterator", "dict_reverseitemiterator", "odict_iterator", "itertools.zip_longest", "itertools.pairwise"].contains ty = false)
    (hW : ∀ A' : Around, A'.handled = none → Walks P w A' it [it] [it] x.cps.size (SignAt x) (fun i h => h.IsStrIter it ty x t i))
    (hself : ∀ (A : Around) (i : Nat) (s : Shared) (Q : Value → Shared → Prop) (E : Value → Shared → Prop), s.heap.IsStrIter it ty x t i → Q (.ref it) s → wpAny (model P w) A (pyIter (.ref it)) Q E s) :
    Turn P w K tg (Its x) [it] it (fun i h => h.IsStrIter it ty x t i) where
  mem := by simp
  obj := fun i h st b hb => by
    have e : b = it := by simpa using hb
    subst e
    obtain ⟨o, e, c, d⟩ := st
    exact ⟨o, e, fun v z => by rw [d] at z; cases z⟩
  keep := fun i h h' st k => by
    obtain ⟨o, e, r⟩ := st
    exact ⟨o, k it (by simp) o e, r⟩
  item := by
    intro X hP hw hK hc i pins s σ H E I hf st hg
    subst hP hw hK
    obtain ⟨f0, f1, f2, f3, f4, f5⟩ := hf it (by simp)
    refine (hW X.A (I.ok.hd hc)).item i s _ _ hg st fun v h' tk hv st' kk => ?_
    obtain ⟨c, u, hx, rfl⟩ := hv
    have I1 : Inv X pins σ H { s with heap := h', toks := tk } := I.turned (fun b o hb e => kk b o (by simpa using hb) e) f0 f1 f3 f4 f5
    obtain ⟨o, e, c', d⟩ := id st'
    exact ⟨_, rfl, go_of (s := { s with heap := h', toks := tk }) e c' d hty ⟨.str ⟨#[c]⟩, H, I1, ⟨u, rfl⟩, ⟨rfl, c, hx, rfl⟩, st', fun b hb => (hf b hb).1⟩⟩
  done := by
    intro X hP hw hK hc i pins s σ H E I hf st hg
    subst hP hw hK
    obtain ⟨f0, f1, f2, f3, f4, f5⟩ := hf it (by simp)
    have hg : x.cps.size = i := hg
    subst hg
    exact (hW X.A (I.ok.hd hc)).done s _ _ st fun h' tk kk => ⟨rfl, I.turned (fun b o hb e => kk b o (by simpa using hb) e) f0 f1 f3 f4 f5⟩
  self := hself
section
variable {X : Cx} {tg : Expr}
noncomputable def iStr (tl : TE) : TI := fun σ H R => tl σ H fun v H1 => ∃ x, v = .str x ∧ R (Its x) H1
theorem pi_str {l : Expr} {tl : TE} (hl : PE X l tl) : PI X tg l (iStr tl) := by
  intro pins s σ H R I h
  refine thn (hl pins s σ H _ I h) fun v s1 ⟨z, H1, I1, r1, q1⟩ => ?_
  obtain ⟨x, e, q⟩ := q1
  subst e
  obtain ⟨t, rfl⟩ := r1
  have fp : ∀ b ∈ [s1.heap.objs.size], FpOk X pins H1 b := fun b hb => by
    have e : b = s1.heap.objs.size := by simpa using hb
    subst e
    exact I1.fpOk (Nat.le_refl _) (I1.hok.fresh (Nat.le_refl _))
  cases ha : x.cps.all (· < 128)
  · refine wpAny_pyIter_wide ha ?_
    exact ⟨s1.heap.objs.size, [s1.heap.objs.size], _, _, H1, rfl, I1.kept (t' := s1.toks) fun b o e => Heap.get?_push_of_some _ e, turn_str (ty := "str_iterator") (t := t) (by decide) (fun A' hA => Walks.strWide hA _ x t) (fun _ _ _ _ _ st hq => wpAny_pyIter_striter_wide st hq), ⟨_, Heap.get?_push_size _ rfl, rfl, rfl⟩, fp, q⟩
  · refine wpAny_pyIter_ascii ha ?_
    exact ⟨s1.heap.objs.size, [s1.heap.objs.size], _, _, H1, rfl, I1.kept (t' := s1.toks) fun b o e => Heap.get?_push_of_some _ e, turn_str (ty := "str_ascii_iterator") (t := t) (by decide) (fun A' hA => Walks.strAscii hA _ x t) (fun _ _ _ _ _ st hq => wpAny_pyIter_striter_ascii st hq), ⟨_, Heap.get?_push_size _ rfl, rfl, rfl⟩, fp, q⟩
end
structure Row (J : It) (n : Nat) (vs : Nat → V) (Ok : Hp → Prop) : Prop where
  go : ∀ i H, i < n → Ok H → J.go i H
  yld : ∀ i H v H', i < n → Ok H → J.yld i H v H' → H' = H ∧ v = vs i
  stop : ∀ H, Ok H → J.stop n H
theorem row_range (lo : Int) (n : Nat) : Row (Itr lo n) n (fun i => .int (lo + i)) (fun _ => True) := ⟨fun i H h _ => h, fun i H v H' _ _ h => h, fun H _ => Nat.le_refl n⟩
theorem row_str (x : Str) : Row (Its x) x.cps.size (fun i => .str ⟨#[x.cps.getD i 0]⟩) (fun _ => True) := ⟨fun i H h _ => h, fun i H v H' hi _ h => by
  obtain ⟨e, c, hc, rfl⟩ := h
  refine ⟨e, ?_⟩
  have : x.cps.getD i 0 = c := by rw [Array.getD_eq_getD_getElem?, hc]; rfl
  rw [this], fun H _ => rfl⟩
theorem row_list {K : PySem.W.Frag} {a : Addr} {xs : List V} : Row (Itl K a) xs.length (fun i => xs.getD i .non) (fun H => SqL K H a xs) := ⟨fun i H h q => ⟨xs, xs[i], q, by simp [h]⟩, fun i H v H' hi q h => by
  obtain ⟨e, y⟩ := h
  refine ⟨e, ?_⟩
  have := y xs q
  rw [List.getD_eq_getElem?_getD, this]; rfl, fun H q => ⟨xs, q, Nat.le_refl _⟩⟩
theorem row_tup {K : PySem.W.Frag} {a : Addr} {xs : List V} : Row (Itt K a) xs.length (fun i => xs.getD i .non) (fun H => SqT K H a xs) := ⟨fun i H h q => ⟨xs, xs[i], q, by simp [h]⟩, fun i H v H' hi q h => by
  obtain ⟨e, y⟩ := h
  refine ⟨e, ?_⟩
  have := y xs q
  rw [List.getD_eq_getElem?_getD, this]; rfl, fun H q => ⟨xs, q, Nat.le_refl _⟩⟩
noncomputable def ForW (J : It) (g : TG) (tb : TS) (D : Ends) (σ : St) (H : Hp) : Prop := ∃ W : Nat → Nat → St → Hp → Prop, (∃ m, W 0 m σ H) ∧ ∀ i m σ H, W i m σ H →
      (J.stop i H ∧ D.nx σ H) ∨ (J.go i H ∧ ∃ N : St → Hp → Prop, (∀ σ' H', N σ' H' → ∃ m', m' < m ∧ W (i + 1) m' σ' H') ∧ ∀ x H', J.yld i H x H' → g x σ H' fun σ2 H2 => tb { D with nx := N, ct := N, bk := D.nx } σ2 H2)
theorem for_row {J : It} {n : Nat} {vs : Nat → V} {Ok : Hp → Prop} (R : Row J n vs Ok) {g : TG} {tb : TS} {D : Ends} {σ : St} {H : Hp} (Pv : Nat → St → Hp → Prop) (h0 : Pv 0 σ H) (hok : ∀ i σ H, Pv i σ H → Ok H)
    (hs : ∀ i σ H, i < n → Pv i σ H → g (vs i) σ H fun σ2 H2 => tb { D with nx := Pv (i + 1), ct := Pv (i + 1), bk := D.nx } σ2 H2) (hd : ∀ σ H, Pv n σ H → D.nx σ H) :
    ForW J g tb D σ H := by
  refine ⟨fun i m σ H => m = n - i ∧ i ≤ n ∧ Pv i σ H, ⟨n, by simp, Nat.zero_le _, h0⟩, ?_⟩
  rintro i m σ H ⟨rfl, hi, p⟩
  by_cases hlt : i < n
  · refine .inr ⟨R.go i H hlt (hok i σ H p), Pv (i + 1), fun σ' H' p' => ⟨n - (i + 1), by omega, rfl, hlt, p'⟩, fun x H' y => ?_⟩
    obtain ⟨e1, e2⟩ := R.yld i H x H' hlt (hok i σ H p) y
    subst e1 e2
    exact hs i σ _ hlt p
  · have e : i = n := by omega
    subst e
    exact .inl ⟨R.stop H (hok i σ H p), hd σ H p⟩
theorem comp_row {J : It} {n : Nat} {vs : Nat → V} {Ok : Hp → Prop} (R : Row J n vs Ok) {te : TE} {Q : VK} {σ : St} {H1 : Hp} {D : Addr} (Pv : Nat → List V → Hp → Prop) (hn : n ≤ sizeLine) (h0 : Pv 0 [] (upd H1 D (.lst []))) (hok : ∀ i ys H, Pv i ys H → Ok H)
    (hs : ∀ i ys H (Q' : VK), i < n → ys.length = i → Pv i ys H → (∀ y H4, H4 D = some (.lst ys) → Pv (i + 1) (ys ++ [y]) (upd H4 D (.lst (ys ++ [y]))) → Q' y H4) → te (some (vs i) :: σ) H Q')
    (hd : ∀ ys H, ys.length = n → Pv n ys H → Q (.ref D) H) :
    CompW J tYes te σ Q D H1 := by
  refine ⟨fun i m ys H => m = n - i ∧ i ≤ n ∧ ys.length = i ∧ Pv i ys H, ⟨n, by simp, Nat.zero_le _, rfl, h0⟩, ?_⟩
  rintro i m ys H ⟨rfl, hi, hl, p⟩
  by_cases hlt : i < n
  · refine .inr ⟨R.go i H hlt (hok i ys H p), fun v H2 y => ?_⟩
    obtain ⟨e1, e2⟩ := R.yld i H v H2 hlt (hok i ys H p) y
    subst e1 e2
    exact hs i ys _ _ hlt hl p fun v H4 q1 q2 => ⟨q1, by omega, n - (i + 1), by omega, rfl, hlt, by simp [hl], q2⟩
  · have e : i = n := by omega
    subst e
    exact .inl ⟨R.stop H (hok _ ys H p), hd ys H hl p⟩
end L2
set_option Elab.async false
set_option linter.all false
set_option maxRecDepth 100000
set_option maxHeartbeats 4000000
namespace L2
open PySem PySem.Spec PyProof.Rows
noncomputable def mVar (i : Nat) : TE := fun σ H Q => match σ[i]? with | some (some v) => Q v H | _ => False
noncomputable def mB (Q : Bool → Hp → Prop) : VK := fun z H' => match z with | .bl k => Q k H' | _ => False
theorem mB_eq (Q : Bool → Hp → Prop) : mB Q = fun z H' => ∃ k, z = .bl k ∧ Q k H' := by
  funext z H'
  cases z <;> simp [mB]
section
variable {X : Cx} {a b c e : Expr} {ta tb tc te : TE} {pos : Pos}
theorem mv (i : Nat) {x : Str} {pos : Pos} (hN : X.N[i]? = some x := by rfl) (hv : Vis X.env.scope x := by first | exact Or.inl rfl | exact Or.inr (Or.inl rfl) | exact Or.inr (Or.inr rfl)) (hd : (x == ("__debug__" : Str)) = false := by decide)
    (hcd : (x == ("__classdict__" : Str)) = false := by decide) : PE X (.Name x pos) (mVar i) := by
  intro pins s σ H Q I h
  refine pe_var hN hv hd hcd pins s σ H Q I ?_
  unfold mVar at h
  split at h
  · rename_i v q; exact ⟨v, q, h⟩
  · exact h.elim
noncomputable def m2 (C : Int → Int → Prop) (g : Int → Int → V) : R2 := fun x y H Q => match x, y with
  | .int i, .int j => C i j ∧ Q (g i j) H
  | _, _ => False
noncomputable def m20 (g : Int → Int → V) : R2 := fun x y H Q => match x, y with
  | .int i, .int j => Q (g i j) H
  | _, _ => False
theorem m2_to {C : Int → Int → Prop} {g : Int → Int → V} {x y : V} {H : Hp} {Q : VK} (h : m2 C g x y H Q) : rI C g x y H Q := by
  cases x <;> cases y <;> first | exact (show False from h).elim | exact ⟨_, _, rfl, rfl, h⟩
theorem m20_to {g : Int → Int → V} {x y : V} {H : Hp} {Q : VK} (h : m20 g x y H Q) : rI0 g x y H Q := by
  cases x <;> cases y <;> first | exact (show False from h).elim | exact ⟨_, _, rfl, rfl, h⟩
theorem OpR.imp {f : Value → Value → Sem Value} {r r' : R2} (h : OpR X f r) (k : ∀ x y H Q, r' x y H Q → r x y H Q) : OpR X f r' := fun pins s σ H x y v u Q I rx ry q => h pins s σ H x y v u Q I rx ry (k x y H Q q)
noncomputable def mAdd (K : PySem.W.Frag) : R2 := fun x y H Q => match x, y with
  | .int i, .int j => Q (.int (i + j)) H
  | .str i, .str j => i.length + j.length ≤ sizeLine ∧ Q (.str (i ++ j)) H
  | .ref p, .ref q => (∃ xs ys, H p = some (.lst xs) ∧ H q = some (.lst ys) ∧ xs.length + ys.length ≤ sizeLine ∧ ∀ d, H d = none → Q (.ref d) (upd H d (.lst (xs ++ ys)))) ∨
      ∃ xs ys, SqT K H p xs ∧ SqT K H q ys ∧ xs ≠ [] ∧ xs.length + ys.length ≤ sizeLine ∧ (ys = [] → Q (.ref p) H) ∧ (ys ≠ [] → ∀ d, H d = none → Q (.ref d) (upd H d (.tup (xs ++ ys))))
  | _, _ => False
theorem mo_add : OpR X (binaryOp .Add) (mAdd X.K) := by
  refine (op_add.or (op_add_str.or (op_cat.or op_catT))).imp fun x y H Q h => ?_
  cases x <;> cases y <;> first
    | exact (show False from h).elim
    | exact .inl ⟨_, _, rfl, rfl, h⟩
    | exact .inr (.inl ⟨_, _, rfl, rfl, h⟩)
    | (rcases h with ⟨xs, ys, h1, h2, h3, h4⟩ | ⟨xs, ys, h1, h2, h3, h4, h5⟩
       · exact .inr (.inr (.inl ⟨_, _, xs, ys, rfl, rfl, h1, h2, h3, h4⟩))
       · exact .inr (.inr (.inr ⟨_, _, xs, ys, rfl, rfl, h1, h2, h3, h4, h5⟩)))
theorem mo_sub : OpR X (binaryOp .Sub) (m20 fun i j => .int (i - j)) := op_sub.imp fun _ _ _ _ h => m20_to h
noncomputable def mMul : R2 := fun x y H Q => match x, y with
  | .int i, .int j => IntMulOk i j ∧ Q (.int (i * j)) H
  | .ref l, .int k => ∃ xs, H l = some (.lst xs) ∧ -(2 ^ 63) ≤ k ∧ k < 2 ^ 63 ∧ xs.length * k.toNat ≤ sizeLine ∧ ∀ p, H p = none → Q (.ref p) (upd H p (.lst (List.replicate k.toNat xs).flatten))
  | _, _ => False
theorem op_mulW : OpR X (binaryOp .Mult) (rI (fun i j => IntMulOk i j) fun i j => .int (i * j)) := opI fun _ _ _ _ _ _ _ hc q => mul_int q hc
theorem mo_mul : OpR X (binaryOp .Mult) mMul := by
  refine (op_mulW.or op_rep).imp fun x y H Q h => ?_
  cases x <;> cases y <;> first
    | exact (show False from h).elim
    | exact .inl ⟨_, _, rfl, rfl, h⟩
    | (obtain ⟨xs, h1, h2, h3, h4, h5⟩ := h; exact .inr ⟨_, _, xs, rfl, rfl, h1, h2, h3, h4, h5⟩)
theorem mo_fdiv : OpR X (binaryOp .FloorDiv) (m2 CDiv fun i j => .int (i / j)) := op_fdiv.imp fun _ _ _ _ h => m2_to h
theorem mo_mod : OpR X (binaryOp .Mod) (m2 (fun _ j => 0 < j) fun i j => .int (i % j)) := op_mod.imp fun _ _ _ _ h => m2_to h
theorem mo_lt : OpR X (compareOp .Lt) (m20 fun i j => .bl (decide (i < j))) := op_lt.imp fun _ _ _ _ h => m20_to h
theorem mo_le : OpR X (compareOp .LtE) (m20 fun i j => .bl (decide (i ≤ j))) := op_le.imp fun _ _ _ _ h => m20_to h
theorem mo_gt : OpR X (compareOp .Gt) (m20 fun i j => .bl (decide (j < i))) := op_gt.imp fun _ _ _ _ h => m20_to h
noncomputable def mEq (n : Bool) : R2 := fun x y H Q => match x, y with
  | .int i, .int j => Q (.bl (n ^^ decide (i = j))) H
  | .str i, .str j => Q (.bl (n ^^ decide (i = j))) H
  | .bl i, .bl j => Q (.bl (n ^^ decide (i = j))) H
  | .non, .non => Q (.bl (n ^^ true)) H
  | .non, .int _ => Q (.bl n) H
  | .non, .str _ => Q (.bl n) H
  | .non, .bl _ => Q (.bl n) H
  | .int _, .non => Q (.bl n) H
  | .str _, .non => Q (.bl n) H
  | .bl _, .non => Q (.bl n) H
  | .int _, .str _ => Q (.bl n) H
  | .str _, .int _ => Q (.bl n) H
  | .bl _, .str _ => Q (.bl n) H
  | .str _, .bl _ => Q (.bl n) H
  | _, _ => False
theorem mo_eq : OpR X (compareOp .Eq) (mEq false) := by
  refine op_eq.imp fun x y H Q h => ?_
  cases x <;> cases y <;> first
    | exact (show False from h).elim
    | exact ⟨rfl, by simpa [mEq] using h⟩
theorem mo_ne : OpR X (compareOp .NotEq) (mEq true) := by
  refine op_ne.imp fun x y H Q h => ?_
  cases x <;> cases y <;> first
    | exact (show False from h).elim
    | exact ⟨rfl, by simpa [mEq] using h⟩
noncomputable def mTest (t : TE) : TT := fun σ H Q => t σ H (mB Q)
theorem mTest_eq (t : TE) : mTest t = tTest t := by
  funext σ H Q
  show t σ H (mB Q) = t σ H _
  rw [mB_eq]
theorem mt_cmp {op : CmpOp} {r : R2} (ho : OpR X (compareOp op) r) (ha : PE X a ta) (hb : PE X b tb) (hm : behindInMarks op b = false) : PT X (.Compare a [op] [b] pos) (mTest (tOp r ta tb)) := by
  rw [mTest_eq]; exact pt_cmpR ho ha hb hm
noncomputable def mChain (r r' : R2) (ta tb tc : TE) : TE := fun σ H Q => ta σ H fun x H1 => tb σ H1 fun y H2 => r x y H2 (mB fun k H3 => if k = true then tc σ H3 fun w' H4 => r' y w' H4 Q else Q (.bl false) H3)
theorem mChain_eq (r r' : R2) (ta tb tc : TE) : mChain r r' ta tb tc = tChain r r' ta tb tc := by
  funext σ H Q
  unfold mChain tChain
  simp only [mB_eq]
theorem mt_chain {op op' : CmpOp} {r r' : R2} (ho : OpR X (compareOp op) r) (ho' : OpR X (compareOp op') r') (ha : PE X a ta) (hb : PE X b tb) (hc : PE X c tc)
    (hm : lastMarks [op, op'] [b, c] = false := by with_unfolding_all rfl) : PT X (.Compare a [op, op'] [b, c] pos) (mTest (mChain r r' ta tb tc)) := by
  rw [mTest_eq, mChain_eq]; exact pt_chain ho ho' ha hb hc hm
noncomputable def mTru (K : PySem.W.Frag) (Q : Bool → Hp → Prop) : VK := fun x H => match x with
  | .non => Q false H
  | .bl b => Q b H
  | .int i => Q (decide (i ≠ 0)) H
  | .str y => y.length ≤ sizeLine ∧ Q (decide (y.length ≠ 0)) H
  | .ref p => (∃ xs, SqL K H p xs ∧ Q (!xs.isEmpty) H) ∨ (∃ xs, SqT K H p xs ∧ Q (!xs.isEmpty) H) ∨ ∃ kvs, H p = some (.dK kvs) ∧ Q (!kvs.isEmpty) H
  | _ => False
theorem mTru_to {K : PySem.W.Frag} {Q : Bool → Hp → Prop} {x : V} {H : Hp} (h : mTru K Q x H) : ∃ k, TruV K x H k ∧ Q k H := by
  cases x with
  | non => exact ⟨_, rfl, h⟩
  | bl b => exact ⟨_, rfl, h⟩
  | int i =>
    have h : Q (decide (i ≠ 0)) H := h
    refine ⟨i != 0, rfl, ?_⟩
    have e : (i != 0) = decide (i ≠ 0) := by
      rw [Bool.eq_iff_iff]; simp
    rw [e]; exact h
  | str y =>
    obtain ⟨h1, h⟩ : y.length ≤ sizeLine ∧ Q (decide (y.length ≠ 0)) H := h
    refine ⟨((y.length : Int) != 0), ⟨h1, rfl⟩, ?_⟩
    have e : ((y.length : Int) != 0) = decide (y.length ≠ 0) := by
      rw [Bool.eq_iff_iff]; simp
    rw [e]; exact h
  | ref p =>
    rcases h with ⟨xs, h1, h2⟩ | ⟨xs, h1, h2⟩ | ⟨xs, h1, h2⟩
    · exact ⟨_, .inl ⟨xs, h1, rfl⟩, h2⟩
    · exact ⟨_, .inr (.inl ⟨xs, h1, rfl⟩), h2⟩
    · exact ⟨_, .inr (.inr ⟨xs, h1, rfl⟩), h2⟩
  | _ => exact (show False from h).elim
noncomputable def mTrue (K : PySem.W.Frag) (ta : TE) : TT := fun σ H Q => ta σ H (mTru K Q)
theorem mt_tru (ha : PE X a ta) (he : ∀ whole, isTrue a X.env whole = (do let v ← whole; standAt a.pos; holding [v] (truthy v)) := by intro _; rfl) : PT X a (mTrue X.K ta) := by
  intro pins s σ H Q I h
  exact isTrue_plain (thn (ha pins s σ H _ I h) fun v s1 ⟨x, H1, I1, r1, q1⟩ => tru_ok pins s1 σ H1 x v Q I1 r1 (mTru_to q1)) (he _)
noncomputable def mAndV (ta tb : TE) : TE := fun σ H Q => ta σ H (mB fun c H1 => if c = true then tb σ H1 Q else Q (.bl false) H1)
noncomputable def mOrV (ta tb : TE) : TE := fun σ H Q => ta σ H (mB fun c H1 => if c = true then Q (.bl true) H1 else tb σ H1 Q)
variable {rest : List Expr}
theorem me_and (ha : PE X a ta) (hb : PE X (.BoolOp .And (b :: rest) pos) tb) : PE X (.BoolOp .And (a :: b :: rest) pos) (mAndV ta tb) := by
  have e : mAndV ta tb = tAndV ta tb := by funext σ H Q; unfold mAndV tAndV; rw [mB_eq]
  rw [e]; exact pe_and ha hb
theorem me_or (ha : PE X a ta) (hb : PE X (.BoolOp .Or (b :: rest) pos) tb) : PE X (.BoolOp .Or (a :: b :: rest) pos) (mOrV ta tb) := by
  have e : mOrV ta tb = tOrV ta tb := by funext σ H Q; unfold mOrV tOrV; rw [mB_eq]
  rw [e]; exact pe_or ha hb
noncomputable def mIx (K : PySem.W.Frag) : R2 := fun x y H Q => match x, y with
  | .ref p, .int i => (∃ xs v, SqL K H p xs ∧ atI xs i = some v ∧ Q v H) ∨ ∃ xs v, SqT K H p xs ∧ atI xs i = some v ∧ Q v H
  | .str z, .int i => z.length ≤ sizeLine ∧ ∃ c, atI z.cps.toList i = some c ∧ Q (.str ⟨#[c]⟩) H
  | _, _ => False
theorem mi_seq : IxR X (mIx X.K) := by
  intro value slice pins s σ H x y v u Q I rx ry h hs
  refine ix_seq value slice pins s σ H x y v u Q I rx ry ?_ hs
  cases x <;> cases y <;> first
    | exact (show False from h).elim
    | (rcases h with ⟨xs, v, h1, h2, h3⟩ | ⟨xs, v, h1, h2, h3⟩
       · exact .inl ⟨_, xs, _, v, rfl, rfl, h1, h2, h3⟩
       · exact .inr (.inl ⟨_, xs, _, v, rfl, rfl, h1, h2, h3⟩))
    | (obtain ⟨h1, c, h2, h3⟩ := h; exact .inr (.inr ⟨_, _, c, rfl, rfl, h1, h2, h3⟩))
noncomputable def inS (i j : Str) : Bool := !(Builtin.Str.occurrences j i 0 j.length 1).isEmpty
noncomputable def mInS (n : Bool) : R2 := fun x y H Q => match x, y with
  | .str i, .str j => Q (.bl (n ^^ inS i j)) H
  | _, _ => False
theorem mo_inS : OpR X (compareOp .In) (mInS false) := op_in_str.imp fun x y H Q h => by
  cases x <;> cases y <;> first | exact (show False from h).elim | exact ⟨_, _, rfl, rfl, by simpa [mInS, inS] using h⟩
noncomputable def mI (R : Option Int → Hp → Prop) : VK := fun x H1 => match x with | .int i => R (some i) H1 | _ => False
noncomputable def mPart (t : TE) : TO := fun σ H Q => t σ H (mI Q)
noncomputable def mLen (K : PySem.W.Frag) : List V → Hp → VK → Prop := fun vs H Q => match vs with
  | [.str y] => y.length ≤ sizeLine ∧ Q (.int y.length) H
  | [.ref p] => (∃ xs, SqL K H p xs ∧ Q (.int xs.length) H) ∨ ∃ xs, SqT K H p xs ∧ Q (.int xs.length) H
  | _ => False
theorem mc_len : CallR X (.builtin "len") (mLen X.K) := by
  intro pins s σ H xs us Q I r h
  refine call_len pins s σ H xs us Q I r ?_
  unfold mLen at h
  split at h
  · exact ⟨_, _, rfl, ⟨h.1, rfl⟩, h.2⟩
  · rcases h with ⟨ys, h1, h2⟩ | ⟨ys, h1, h2⟩
    · exact ⟨_, _, rfl, .inl ⟨ys, h1, rfl⟩, h2⟩
    · exact ⟨_, _, rfl, .inr ⟨ys, h1, rfl⟩, h2⟩
  · exact h.elim
theorem kit_same (K : PySem.W.Frag) (t : Value) : PySem.W.kitOne K t t = some true := by
  unfold PySem.W.kitOne
  rw [if_pos (by simp)]
theorem vals_bl : ∀ {bs : List Bool} {us : List Value}, Vals (bs.map V.bl) us → us = bs.map Value.bool
  | [], _, .nil => rfl
  | b :: bs, _, .cons r t => by
    have r : _ = Value.bool b := r
    rw [List.map_cons, r, vals_bl t]
theorem all_range (bs : List Bool) : ((List.range bs.length).all fun i => bs.getD i true) = bs.all id := by
  rw [Bool.eq_iff_iff, List.all_eq_true, List.all_eq_true]
  constructor
  · intro h x hx
    obtain ⟨i, hi, e⟩ := List.getElem_of_mem hx
    have := h i (List.mem_range.mpr hi)
    rw [List.getD_eq_getElem?_getD, List.getElem?_eq_getElem hi] at this
    simpa [e] using this
  · intro h i hi
    have hi := List.mem_range.mp hi
    rw [List.getD_eq_getElem?_getD, List.getElem?_eq_getElem hi]
    exact h _ (List.getElem_mem hi)
noncomputable def mAll (K : PySem.W.Frag) (f : List Bool → Bool) : List V → Hp → VK → Prop := fun vs H Q => match vs with
  | [.ref p] => ∃ bs : List Bool, SqL K H p (bs.map V.bl) ∧ Q (.bl (f bs)) H
  | _ => False
theorem list_walk {pins : List (Addr × Obj)} {s : Shared} {σ : St} {H : Hp} {p : Addr} {bs : List Bool} {Q : VK} (hc : X.calm = true) (I : Inv X pins σ H s) (hs : SqL X.K H p (bs.map V.bl)) (f : (Nat → Bool) → Nat → Bool) (q : Q (.bl (f (fun i => bs.getD i true) bs.length)) H) {E : Value → Shared → Prop} :
    wpAny (model X.prog X.w) X.A.in1 (pyIter (.ref p)) (fun it s2 => ∃ J fp wr n P St tr, it = .ref J ∧ Walks X.prog X.w X.A.in1 J fp wr n P St ∧ St 0 s2.heap ∧ TruthOf X.prog X.w X.A.in1 P tr ∧
      ∀ h' tk, (∀ b o, b ∉ wr → s2.heap.get? b = some o → h'.get? b = some o) → EP X pins σ Q (.bool (f tr n)) { s2 with heap := h', toks := tk }) E s := by
  obtain ⟨its, r, pl, hz⟩ := I.list hs
  have e := vals_bl r
  subst e
  have hl : p < s.heap.objs.size := by
    obtain ⟨o, n, h1, _⟩ := pl
    exact Heap.lt_size h1
  refine wpAny_pyIter_list pl.isList ?_
  refine ⟨s.heap.objs.size, [s.heap.objs.size, p], [s.heap.objs.size], (bs.map Value.bool).toArray.size, _, _, fun i => bs.getD i true, rfl, Walks.list (A := X.A.in1) (show X.A.in1.handled = none from I.ok.hd hc) s.heap.objs.size p (Nat.ne_of_lt hl) (bs.map Value.bool).toArray,
    ⟨⟨_, Heap.get?_push_size _ rfl, rfl, rfl⟩, pl.isList.at fun o e => Heap.get?_push_of_some _ e⟩, fun i v s' Q' E' hv hq => ?_, fun h' tk hk => ?_⟩
  · have hv : (bs.map Value.bool).toArray[i]? = some v := hv
    rw [List.getElem?_toArray, List.getElem?_map] at hv
    cases e : bs[i]? with
    | none => rw [e] at hv; cases hv
    | some b =>
      rw [e] at hv
      have hv : Value.bool b = v := Option.some.inj hv
      subst hv
      have hq : Q' (bs.getD i true) s' := hq
      rw [List.getD_eq_getElem?_getD, e] at hq
      exact wpAny_truthy_bool hq
  · refine ⟨.bl _, H, I.kept (fun b o e => hk b o ?_ (Heap.get?_push_of_some _ e)), rfl, by simpa using q⟩
    intro z
    have z : b = s.heap.objs.size := by simpa using z
    exact absurd (Heap.lt_size e) (by rw [z]; exact Nat.lt_irrefl _)
theorem mc_all (hc : X.calm = true) : CallR X (.builtin "all") (mAll X.K fun bs => bs.all id) := by
  intro pins s σ H xs us Q I r h
  unfold mAll at h
  split at h
  · obtain ⟨u, rfl, r1⟩ := vals1 r
    cases r1
    obtain ⟨bs, hs, q⟩ := h
    exact call_all_walk (list_walk hc I hs (fun tr n => (List.range n).all tr) (by rw [all_range]; exact q))
  · exact h.elim
end
end L2
set_option Elab.async false
set_option linter.all false
set_option maxRecDepth 100000
set_option maxHeartbeats 4000000
namespace L2
open PySem PySem.Spec PyProof.Rows
section
variable {X : Cx} {a b c e : Expr} {ta tb tc te : TE} {pos : Pos}
noncomputable def mNotV (K : PySem.W.Frag) (ta : TE) : TE := fun σ H Q => ta σ H (mTru K fun b H' => Q (.bl (!b)) H')
noncomputable def mAppend : V → List V → Hp → VK → Prop := fun x vs H Q => match x, vs with
  | .ref l, [y] => ∃ xs, H l = some (.lst xs) ∧ xs.length < sizeLine ∧ Q .non (upd H l (.lst (xs ++ [y])))
  | _, _ => False
theorem mm_append : MtR X "list.append" mAppend := by
  intro pins s σ H x xs v us Q I rx rs h
  refine mt_append pins s σ H x xs v us Q I rx rs ?_
  unfold mAppend at h
  split at h
  · obtain ⟨ys, h1, h2, h3⟩ := h
    exact ⟨_, ys, _, rfl, rfl, h1, h2, h3⟩
  · exact h.elim
noncomputable def mUn (g : Int → Int) : V → Hp → VK → Prop := fun x H Q => match x with | .int i => Q (.int (g i)) H | _ => False
end
section
variable {X : Cx}
theorem pe_gstr {x : Str} {z : Str} {tk : Tok} {pos : Pos} (hg : Gl X x) (hm : X.mg x = some (.str z tk)) (hd : (x == ("__debug__" : Str)) = false := by decide) : PE X (.Name x pos) (tC (.str z)) := pe_glob hg hm ⟨tk, rfl⟩ hd
theorem pe_gint {x : Str} {z : Int} {tk : Tok} {pos : Pos} (hg : Gl X x) (hm : X.mg x = some (.int z tk)) (hd : (x == ("__debug__" : Str)) = false := by decide) : PE X (.Name x pos) (tC (.int z)) := pe_glob hg hm ⟨tk, rfl⟩ hd
end
section
variable {X : Cx} {a b c e o : Expr} {es : List Expr} {ta tb tc te to : TE} {t : TA} {pos : Pos} {tg l : Expr} {tl : TE}
theorem pe_bty {x : Str} {n : String} {pos : Pos} (hg : Gl X x) (hm : X.mg x = none) (hv : bootBuiltins x = some (.type n)) (hn : x ≠ "__name__" := by decide) (hd : (x == ("__debug__" : Str)) = false := by decide) : PE X (.Name x pos) (tC (.ty n)) := pe_bltn hg hm hv rfl hn hd
theorem ko_add (K : PySem.W.Frag) (h : X.K = K) : OpR X (binaryOp .Add) (mAdd K) := h ▸ mo_add
theorem kt_tru (K : PySem.W.Frag) (h : X.K = K) (ha : PE X a ta) (he : ∀ whole, isTrue a X.env whole = (do let v ← whole; standAt a.pos; holding [v] (truthy v)) := by intro _; rfl) : PT X a (mTrue K ta) := h ▸ mt_tru ha he
theorem ki_seq (K : PySem.W.Frag) (h : X.K = K) : IxR X (mIx K) := h ▸ mi_seq
theorem kc_len (K : PySem.W.Frag) (h : X.K = K) : CallR X (.builtin "len") (mLen K) := h ▸ mc_len
theorem kc_all (K : PySem.W.Frag) (h : X.K = K) (hc : X.calm = true) : CallR X (.builtin "all") (mAll K fun bs => bs.all id) := h ▸ mc_all hc
theorem kpi_list (K : PySem.W.Frag) (h : X.K = K) (hl : PE X l tl) : PI X tg l (iList K tl) := h ▸ pi_list hl
theorem kpi_tup (K : PySem.W.Frag) (h : X.K = K) (hl : PE X l tl) : PI X tg l (iTup K tl) := h ▸ pi_tup hl
theorem ke_bm (K : PySem.W.Frag) (h : X.K = K) {name : Str} {apos cpos : Pos} {T id : String} {r : V → List V → Hp → VK → Prop} (pa : PlainAttrs T) (slot : Slot T name id) (hty : typeOf (.builtin id) = pure (.type "method_descriptor")) (hm : MtR X id r) (ho : PE X o to) (ha : PA X (e :: es) t)
    (hbase : attributeBase o name X.env (eval o X.env) = eval o X.env := by rfl)
    (hfew : ((backTo cpos (starEach (e :: es) X.env)).all (fun x => !x.1) && (backToKw cpos (keywordEach [] X.env)).all (fun x => x.1.isSome)
      && decide ((e :: es).length + ([] : List Keyword).length + (if ([] : List Keyword).isEmpty then 0 else 1) < 30)) = true := by rfl)
    (hline : (apos.endLine == cpos.line) = true := by rfl) (hs : starEach (e :: es) X.env = (false, eval e X.env) :: starEach es X.env := by rfl) (hplain : (backTo cpos (starEach es X.env)).any (·.1) = false := by rfl) :
    PE X (.Call (.Attribute o name apos) (e :: es) [] cpos) (tBM K T r to t) := h ▸ pe_bm pa slot hty hm ho ha hbase hfew hline hs hplain
theorem xor_n {b c : Bool} (h : (false ^^ b) = c) : b = c := by cases b <;> exact h
end
theorem atI_lt {α : Type} {xs : List α} {i : Int} (h0 : 0 ≤ i) (h1 : i < (xs.length : Int)) : ∃ v, atI xs i = some v ∧ xs[i.toNat]? = some v := by
  have hk : i.toNat < xs.length := by omega
  have ek : i = ((i.toNat : Nat) : Int) := by omega
  have q : xs[i.toNat]? = some xs[i.toNat] := List.getElem?_eq_getElem hk
  refine ⟨xs[i.toNat], ?_, q⟩
  have := atI_nat q
  rw [← ek] at this
  exact this
theorem same_new {H : Hp} {p : Addr} (h : H p = none) (o : HO) : Same H (upd H p o) := fun b u q => by rw [upd_ne (ne_of_none q h)]; exact q
theorem same_upd {H H' : Hp} {p : Addr} {o : HO} (e : Same H H') (h : H p = none) : Same H (upd H' p o) := fun b u q => by rw [upd_ne (ne_of_none q h)]; exact e b u q
theorem Same.tup {K : PySem.W.Frag} {H H' : Hp} {a : Addr} {xs : List V} (e : Same H H') (h : SqT K H a xs) : SqT K H' a xs := by
  rcases h with (h | ⟨o, h⟩) | h
  · exact .inl (.inl (e _ _ h))
  · exact .inl (.inr ⟨o, e _ _ h⟩)
  · exact .inr h
theorem cdiv_i {i j : Int} (h1 : 0 < j) (h2 : j < 1073741824) : CDiv i j := ⟨h1, h2⟩
theorem mulOk_right {i j : Int} (h : -(2 ^ 64) < j ∧ j < 2 ^ 64) : IntMulOk i j := CMul.ok (.inr h)
theorem mulOk_left {i j : Int} (h : -(2 ^ 64) < i ∧ i < 2 ^ 64) : IntMulOk i j := CMul.ok (.inl h)
section
variable {K : PySem.W.Frag} {σ : St} {H : Hp} {Q : VK} {D : Ends} {ta tb tc te : TE} {t u : TS} {A B : TT} {P : Bool → Hp → Prop} {v x y : V} {i j : Int} {n : Nat} {b : Bool} {p q : Str}
theorem mVar_i (h : σ[n]? = some (some v)) (k : Q v H) : mVar n σ H Q := by unfold mVar; rw [h]; exact k
theorem tC_i (k : Q v H) : tC v σ H Q := k
theorem tOp_i {r : R2} (k : ta σ H fun x H1 => tb σ H1 fun y H2 => r x y H2 Q) : tOp r ta tb σ H Q := k
theorem tUn_i {r : V → Hp → VK → Prop} (k : ta σ H fun x H1 => r x H1 Q) : tUn r ta σ H Q := k
theorem mUn_i {g : Int → Int} (k : Q (.int (g i)) H) : mUn g (.int i) H Q := k
theorem m20_i {g : Int → Int → V} (k : Q (g i j) H) : m20 g (.int i) (.int j) H Q := k
theorem m2_i {C : Int → Int → Prop} {g : Int → Int → V} (c : C i j) (k : Q (g i j) H) : m2 C g (.int i) (.int j) H Q := ⟨c, k⟩
theorem mAdd_i (k : Q (.int (i + j)) H) : mAdd K (.int i) (.int j) H Q := k
theorem mAdd_s (c : p.length + q.length ≤ sizeLine) (k : Q (.str (p ++ q)) H) : mAdd K (.str p) (.str q) H Q := ⟨c, k⟩
theorem mMul_i (c : IntMulOk i j) (k : Q (.int (i * j)) H) : mMul (.int i) (.int j) H Q := ⟨c, k⟩
theorem mEq_i (k : Q (.bl (b ^^ decide (i = j))) H) : mEq b (.int i) (.int j) H Q := k
theorem mEq_s (k : Q (.bl (b ^^ decide (p = q))) H) : mEq b (.str p) (.str q) H Q := k
theorem mEq_b {c d : Bool} (k : Q (.bl (b ^^ decide (c = d))) H) : mEq b (.bl c) (.bl d) H Q := k
theorem mInS_i (k : Q (.bl (b ^^ inS p q)) H) : mInS b (.str p) (.str q) H Q := k
theorem mB_i (k : P b H) : mB P (.bl b) H := k
theorem mTest_i (k : ta σ H (mB P)) : mTest ta σ H P := k
theorem mTrue_i (k : ta σ H (mTru K P)) : mTrue K ta σ H P := k
theorem mTru_b (k : P b H) : mTru K P (.bl b) H := k
theorem mChain_i {r r' : R2} (k : ta σ H fun x H1 => tb σ H1 fun y H2 => r x y H2 (mB fun k H3 => if k = true then tc σ H3 fun w' H4 => r' y w' H4 Q else Q (.bl false) H3)) : mChain r r' ta tb tc σ H Q := k
theorem mAndV_i (k : ta σ H (mB fun c H1 => if c = true then tb σ H1 Q else Q (.bl false) H1)) : mAndV ta tb σ H Q := k
theorem mOrV_i (k : ta σ H (mB fun c H1 => if c = true then Q (.bl true) H1 else tb σ H1 Q)) : mOrV ta tb σ H Q := k
theorem mNotV_i (k : ta σ H (mTru K fun b H' => Q (.bl (!b)) H')) : mNotV K ta σ H Q := k
theorem tIf_i (k : A σ H fun c H1 => if c = true then ta σ H1 Q else tb σ H1 Q) : tIf A ta tb σ H Q := k
theorem tAnd_i (k : A σ H fun c H1 => if c = true then B σ H1 P else P false H1) : tAnd A B σ H P := k
theorem tOr_i (k : A σ H fun c H1 => if c = true then P true H1 else B σ H1 P) : tOr A B σ H P := k
theorem tNot_i (k : A σ H fun c H1 => P (!c) H1) : tNot A σ H P := k
theorem tSeq_i (k : t { D with nx := u D } σ H) : tSeq t u D σ H := k
theorem tNext_i (k : D.nx σ H) : tNext D σ H := k
theorem tRet_i (k : te σ H D.rt) : tRet te D σ H := k
theorem tIfS_i (k : A σ H fun b H1 => if b = true then t D σ H1 else u D σ H1) : tIfS A t u D σ H := k
theorem tAsg_i {g : TG} (k : te σ H fun x H1 => g x σ H1 D.nx) : tAsg te g D σ H := k
theorem tDrop_i (k : te σ H fun _ H1 => D.nx σ H1) : tDrop te D σ H := k
theorem gName_i {N : St → Hp → Prop} (k : N (σ.set n (some v)) H) : gName n v σ H N := k
theorem tCB_i {r : List V → Hp → VK → Prop} {a : TA} (k : a σ H fun vs H1 => r vs H1 Q) : tCB r a σ H Q := k
theorem tCons_i {a : TA} {R : List V → Hp → Prop} (k : ta σ H fun x H1 => a σ H1 fun xs H2 => R (x :: xs) H2) : tCons ta a σ H R := k
theorem tNil_i {R : List V → Hp → Prop} (k : R [] H) : tNil σ H R := k
theorem tBM_i {T : String} {r : V → List V → Hp → VK → Prop} {a : TA} (k : ta σ H fun x H1 => tyV K T x H1 ∧ a σ H1 fun xs H2 => r x xs H2 Q) : tBM K T r ta a σ H Q := k
theorem tBM0_i {T : String} {r : V → List V → Hp → VK → Prop} (k : ta σ H fun x H1 => tyV K T x H1 ∧ r x [] H1 Q) : tBM0 K T r ta σ H Q := k
theorem tTup_i {a : TA} (k : a σ H fun xs H1 => xs.length ≤ sizeLine ∧ ∀ p, H1 p = none → Q (.ref p) (upd H1 p (.tup xs))) : tTup a σ H Q := k
theorem tLst_i {a : TA} (k : a σ H fun xs H1 => xs.length ≤ sizeLine ∧ ∀ p, H1 p = none → Q (.ref p) (upd H1 p (.lst xs))) : tLst a σ H Q := k
theorem tSl_i {r : V → Option Int → Option Int → Hp → VK → Prop} {tl th : TO} (k : te σ H fun x H1 => tl σ H1 fun l H2 => th σ H2 fun u H3 => r x l u H3 Q) : tSl r te tl th σ H Q := k
theorem tNoPart_i {R : Option Int → Hp → Prop} (k : R none H) : tNoPart σ H R := k
theorem mPart_i {R : Option Int → Hp → Prop} (k : te σ H (mI R)) : mPart te σ H R := k
theorem mI_i {R : Option Int → Hp → Prop} (k : R (some i) H) : mI R (.int i) H := k
theorem mLen_s (c : p.length ≤ sizeLine) (k : Q (.int p.length) H) : mLen K [.str p] H Q := ⟨c, k⟩
theorem mLen_l {a : Addr} {xs : List V} (c : SqL K H a xs) (k : Q (.int xs.length) H) : mLen K [.ref a] H Q := .inl ⟨xs, c, k⟩
theorem mLen_t {a : Addr} {xs : List V} (c : SqT K H a xs) (k : Q (.int xs.length) H) : mLen K [.ref a] H Q := .inr ⟨xs, c, k⟩
theorem mIx_l {a : Addr} {xs : List V} (c : SqL K H a xs) (e : atI xs i = some v) (k : Q v H) : mIx K (.ref a) (.int i) H Q := .inl ⟨xs, v, c, e, k⟩
theorem mIx_t {a : Addr} {xs : List V} (c : SqT K H a xs) (e : atI xs i = some v) (k : Q v H) : mIx K (.ref a) (.int i) H Q := .inr ⟨xs, v, c, e, k⟩
theorem mIx_s {c : Nat} (z : p.length ≤ sizeLine) (e : atI p.cps.toList i = some c) (k : Q (.str ⟨#[c]⟩) H) : mIx K (.str p) (.int i) H Q := ⟨z, c, e, k⟩
theorem mAppend_i {a : Addr} {xs : List V} (e : H a = some (.lst xs)) (c : xs.length < sizeLine) (k : Q .non (upd H a (.lst (xs ++ [v])))) : mAppend (.ref a) [v] H Q := ⟨xs, e, c, k⟩
theorem iteB {c d : Prop} (h1 : b = true → c) (h2 : b = false → d) : if b = true then c else d := by
  cases b with
  | true => exact h1 rfl
  | false => exact h2 rfl
theorem tCall0_i {sp : Sp} {E : XK} {a : TA} (k : a σ H fun vs H1 => sp vs H1 Q E) : tCall sp [] E a σ H Q := by
  unfold tCall
  have e : (fun (vs : List V) (H1 : Hp) => sp (vs ++ []) H1 Q E) = fun vs H1 => sp vs H1 Q E := by funext vs H1; rw [List.append_nil]
  rw [e]; exact k
theorem tFor_i {wi : TI} {g : TG} (k : wi σ H fun J H1 => ForW J g t D σ H1) : tFor wi g t D σ H := k
theorem iStr_i {R : It → Hp → Prop} (k : ta σ H fun v H1 => ∃ x, v = .str x ∧ R (Its x) H1) : iStr ta σ H R := k
theorem iList_i {R : It → Hp → Prop} (k : ta σ H fun x H1 => ∃ a, x = .ref a ∧ (∃ xs, SqL K H1 a xs) ∧ R (Itl K a) H1) : iList K ta σ H R := k
theorem iTup_i {R : It → Hp → Prop} (k : ta σ H fun x H1 => ∃ a, x = .ref a ∧ (∃ xs, SqT K H1 a xs) ∧ R (Itt K a) H1) : iTup K ta σ H R := k
theorem iRng1_i {a : TA} {R : It → Hp → Prop} (k : a σ H fun vs H1 => ∃ j : Int, vs = [.int j] ∧ -(2 ^ 62) ≤ j ∧ j < 2 ^ 62 ∧ R (Itr 0 j.toNat) H1) : iRng1 a σ H R := k
theorem tComp_i {wi : TI} {tt : TT} (k : wi σ H fun J H1 => ∀ D, H1 D = none → CompW J tt te σ Q D H1) : tComp wi tt te σ H Q := k
theorem seq_rest (Post : St → Hp → Prop) (h1 : ∀ σ' H', Post σ' H' → u D σ' H') (h2 : (∀ σ' H', Post σ' H' → u D σ' H') → t { D with nx := u D } σ H) : tSeq t u D σ H := h2 h1
end
end L2
set_option Elab.async false
set_option linter.all false
set_option maxRecDepth 100000
set_option maxHeartbeats 4000000
namespace L2
open PySem PySem.Spec PyProof.Rows
mutual
inductive Den (K : PySem.W.Frag) (H : Hp) : V → PyData → Prop
  | non : Den K H .non .none
  | bl (b : Bool) : Den K H (.bl b) (.bool b)
  | int (i : Int) : Den K H (.int i) (.int i)
  | str (x : Str) : Den K H (.str x) (.str x)
  | tup {a : Addr} {us : List V} {ds : List PyData} : SqT K H a us → DenL K H us ds → Den K H (.ref a) (.tuple ds)
inductive DenL (K : PySem.W.Frag) (H : Hp) : List V → List PyData → Prop
  | nil : DenL K H [] []
  | cons {u : V} {us : List V} {d : PyData} {ds : List PyData} : Den K H u d → DenL K H us ds → DenL K H (u :: us) (d :: ds)
end
mutual
theorem Den.monoT {K : PySem.W.Frag} {H H' : Hp} (e : ∀ a xs, SqT K H a xs → SqT K H' a xs) : ∀ {v : V} {d : PyData}, Den K H v d → Den K H' v d
  | _, _, .non => .non
  | _, _, .bl b => .bl b
  | _, _, .int i => .int i
  | _, _, .str x => .str x
  | _, _, .tup h l => .tup (e _ _ h) (DenL.monoT e l)
theorem DenL.monoT {K : PySem.W.Frag} {H H' : Hp} (e : ∀ a xs, SqT K H a xs → SqT K H' a xs) : ∀ {v : List V} {d : List PyData}, DenL K H v d → DenL K H' v d
  | _, _, .nil => .nil
  | _, _, .cons h l => .cons (Den.monoT e h) (DenL.monoT e l)
end
theorem Den.mono {K : PySem.W.Frag} {H H' : Hp} (e : Same H H') {v : V} {d : PyData} (h : Den K H v d) : Den K H' v d := h.monoT fun _ _ q => e.tup q
theorem DenL.mono {K : PySem.W.Frag} {H H' : Hp} (e : Same H H') {v : List V} {d : List PyData} (h : DenL K H v d) : DenL K H' v d := h.monoT fun _ _ q => e.tup q
theorem tup_lst {K : PySem.W.Frag} {H : Hp} {p : Addr} {ys : List V} {o : HO} (h : H p = some (.lst ys)) : ∀ a xs, SqT K H a xs → SqT K (upd H p o) a xs := fun a xs q => by
  rcases q with (q | ⟨o', q⟩) | q
  · exact .inl (.inl (by rw [upd_ne (ne_of q h (fun z => by cases z))]; exact q))
  · exact .inl (.inr ⟨o', by rw [upd_ne (ne_of q h (fun z => by cases z))]; exact q⟩)
  · exact .inr q
theorem Den.lst {K : PySem.W.Frag} {H : Hp} {p : Addr} {ys : List V} {o : HO} (h : H p = some (.lst ys)) {v : V} {d : PyData} (q : Den K H v d) : Den K (upd H p o) v d := q.monoT (tup_lst h)
theorem DenL.lst {K : PySem.W.Frag} {H : Hp} {p : Addr} {ys : List V} {o : HO} (h : H p = some (.lst ys)) {v : List V} {d : List PyData} (q : DenL K H v d) : DenL K (upd H p o) v d := q.monoT (tup_lst h)
section
variable {K : PySem.W.Frag} {H : Hp}
theorem DenL.length : ∀ {us : List V} {ds : List PyData}, DenL K H us ds → us.length = ds.length
  | _, _, .nil => rfl
  | _, _, .cons _ l => by rw [List.length_cons, List.length_cons, DenL.length l]
theorem DenL.get : ∀ {us : List V} {ds : List PyData} {i : Nat} {u : V}, DenL K H us ds → us[i]? = some u → ∃ d, ds[i]? = some d ∧ Den K H u d
  | _, _, _, _, .nil, e => by simp at e
  | _, _, 0, _, .cons h _, e => by simp at e; subst e; exact ⟨_, rfl, h⟩
  | _, _, i + 1, u, .cons _ l, e => by
    obtain ⟨d, h1, h2⟩ := DenL.get (i := i) (u := u) l (by simpa using e)
    exact ⟨d, by simpa using h1, h2⟩
theorem DenL.append : ∀ {us vs : List V} {ds es : List PyData}, DenL K H us ds → DenL K H vs es → DenL K H (us ++ vs) (ds ++ es)
  | _, _, _, _, .nil, l => l
  | _, _, _, _, .cons h t, l => .cons h (DenL.append t l)
theorem DenL.take : ∀ {us : List V} {ds : List PyData} (n : Nat), DenL K H us ds → DenL K H (us.take n) (ds.take n)
  | _, _, 0, _ => .nil
  | _, _, _ + 1, .nil => .nil
  | _, _, n + 1, .cons h t => .cons h (DenL.take n t)
theorem DenL.drop : ∀ {us : List V} {ds : List PyData} (n : Nat), DenL K H us ds → DenL K H (us.drop n) (ds.drop n)
  | _, _, 0, l => l
  | _, _, _ + 1, .nil => .nil
  | _, _, n + 1, .cons _ t => DenL.drop n t
end
section
variable {X : Cx} {pins : List (Addr × Obj)} {σ : St} {H : Hp} {s : Shared}
end
section
variable {X : Cx} {a b c e : Expr} {ta tb tc te : TE} {pos : Pos} {tg l : Expr} {tl : TE}
theorem room150 {k : Nat} {A : Around} (hr : Room k A) : A.units + 150 < cLine := by have := hr.un; omega
noncomputable def mTup (K : PySem.W.Frag) : List V → Hp → VK → Prop := fun vs H Q => ∃ p ys, vs = [.ref p] ∧ ((SqL K H p ys ∧ ∀ l, H l = none → Q (.ref l) (upd H l (.tup ys))) ∨ (SqT K H p ys ∧ Q (.ref p) H))
theorem kc_tuple (K : PySem.W.Frag) (h : X.K = K) : CallR X (.type "tuple") (mTup K) := h ▸ call_tuple_of
noncomputable def mLst (K : PySem.W.Frag) : List V → Hp → VK → Prop := fun vs H Q => ∃ p ys, vs = [.ref p] ∧ (SqL K H p ys ∨ SqT K H p ys) ∧ ∀ l, H l = none → Q (.ref l) (upd H l (.lst ys))
theorem kc_list (K : PySem.W.Frag) (h : X.K = K) : CallR X (.type "list") (mLst K) := h ▸ call_list_of
noncomputable def mMin : List V → Hp → VK → Prop := fun vs H Q => ∃ i j, vs = [.int i, .int j] ∧ Q (.int (if j < i then j else i)) H
theorem mc_min (hc : X.calm = true) : CallR X (.builtin "min") mMin := call_min2 hc
noncomputable def mMax : List V → Hp → VK → Prop := fun vs H Q => ∃ i j, vs = [.int i, .int j] ∧ Q (.int (if j > i then j else i)) H
end
open PySem.AutoSeq1 in
open PySem.MeetsSeq PySem.MeetsSeq2 PySem.MeetsSeq3 in
section
variable {X : Cx}
end
section
variable {prog : Program} {w : World} {A : Around} {E : Value → Shared → Prop} {s : Shared}
end
section
variable {X : Cx}
end
section
variable {σ : St} {H : Hp} {D : Ends} {t : TS} {c : TT}
noncomputable def WhileW (c : TT) (t : TS) (D : Ends) (σ : St) (H : Hp) : Prop := tWhile c t D σ H
theorem tWhile_i (k : WhileW c t D σ H) : tWhile c t D σ H := k
theorem while_row (Pv : Nat → St → Hp → Prop) (n : Nat) (h0 : Pv n σ H)
    (hs : ∀ n σ H (R : Bool → Hp → Prop), Pv n σ H → (∀ H1, (∀ (D' : Ends), D'.rt = D.rt → D'.bk = D.nx → (∀ σ' H' m, m < n → Pv m σ' H' → D'.nx σ' H') → (∀ σ' H' m, m < n → Pv m σ' H' → D'.ct σ' H') → t D' σ H1) → R true H1) → (∀ H1, D.nx σ H1 → R false H1) → c σ H R) : WhileW c t D σ H := by
  refine ⟨Pv, ⟨n, h0⟩, fun m σ H p => ?_⟩
  refine hs m σ H _ p (fun H1 k => ?_) (fun H1 k => k)
  exact ⟨fun σ' H' => ∃ m', m' < m ∧ Pv m' σ' H', fun _ _ h => h, k _ rfl rfl (fun _ _ m' hm hp => ⟨m', hm, hp⟩) (fun _ _ m' hm hp => ⟨m', hm, hp⟩)⟩
end
end L2
set_option Elab.async false
set_option linter.all false
set_option maxRecDepth 100000
set_option maxHeartbeats 4000000
namespace L2
open PySem PySem.Spec PyProof.Rows
theorem kit_ty {K : PySem.W.Frag} {T n : String} {b : Bool} (h : (if (Value.type T == Value.type n) = true then some true else if PySem.W.kitMeta n = true then (fastBuiltinMro T).map (·.contains (.type n)) else none) = some b) : PySem.W.kitOne K (.type T) (.type n) = some b := h
section
variable {X : Cx} {a : Expr} {ta : TE}
noncomputable def tyN (K : PySem.W.Frag) (H : Hp) : V → String → Prop
  | .non, T => T = "NoneType"
  | .bl _, T => T = "bool"
  | .int _, T => T = "int"
  | .str _, T => T = "str"
  | .ref p, T => (T = "list" ∧ ∃ xs, SqL K H p xs) ∨ (T = "tuple" ∧ ∃ xs, SqT K H p xs) ∨ (T = "dict" ∧ ∃ kvs, H p = some (.dK kvs))
  | _, _ => False
noncomputable def mIs (K : PySem.W.Frag) : List V → Hp → VK → Prop := fun vs H Q => ∃ x n T b, vs = [x, .ty n] ∧ tyN K H x T ∧ (∀ K' : PySem.W.Frag, PySem.W.kitOne K' (.type T) (.type n) = some b) ∧ Q (.bl b) H
theorem kc_is (K : PySem.W.Frag) (hK : X.K = K) : CallR X (.builtin "isinstance") (mIs K) := by
  subst hK
  intro pins s σ H xs us Q I r h
  obtain ⟨x, n, T, b, rfl, ht, hk, q⟩ := h
  obtain ⟨u, w', rfl, r1, r2⟩ := vals2 r
  cases r2
  have fin : ∀ tk, EP X pins σ Q (.bool b) { s with toks := tk } := fun tk => ⟨.bl b, H, I.tok _, rfl, q⟩
  cases x with
  | non => cases ht; exact isinst_ok I r1 .non (hk _) fin
  | bl y => cases ht; exact isinst_ok I r1 (.bl y) (hk _) fin
  | int i => cases ht; exact isinst_ok I r1 (.int i) (hk _) fin
  | str z => cases ht; exact isinst_ok I r1 (.str z) (hk _) fin
  | ref p =>
    cases r1
    rcases ht with ⟨rfl, xs, hs⟩ | ⟨rfl, xs, hs⟩ | ⟨rfl, kvs, hs⟩
    · obtain ⟨its, _, ⟨o, n', h1, h2, _⟩, _⟩ := I.list hs
      exact PySem.W.kia_one PySem.W.kitx_list I.kIn ⟨o, h1, h2⟩ (hk _) (fun z => nomatch z) fin
    · obtain ⟨its, _, ⟨o, h1, h2, _⟩, _⟩ := I.tuple hs
      exact PySem.W.kia_one PySem.W.kitx_tuple I.kIn ⟨o, h1, h2⟩ (hk _) (fun z => nomatch z) fin
    · exact isinst_ok (x := .ref p) I rfl (.dK hs) (hk _) fin
  | _ => exact (show False from ht).elim
end
section
variable {K : PySem.W.Frag} {H : Hp} {Q : VK} {i : Int} {p : Str} {b : Bool} {a : Addr} {xs : List V}
theorem is_str (k : Q (.bl true) H) : mIs K [.str p, .ty "str"] H Q := ⟨_, _, _, true, rfl, rfl, fun _ => kit_same _ _, k⟩
theorem is_int (k : Q (.bl true) H) : mIs K [.int i, .ty "int"] H Q := ⟨_, _, _, true, rfl, rfl, fun _ => kit_same _ _, k⟩
theorem is_bool (k : Q (.bl true) H) : mIs K [.bl b, .ty "bool"] H Q := ⟨_, _, _, true, rfl, rfl, fun _ => kit_same _ _, k⟩
theorem is_int_bool (k : Q (.bl false) H) : mIs K [.int i, .ty "bool"] H Q := ⟨_, _, _, false, rfl, rfl, fun _ => kit_ty (by decide +kernel), k⟩
theorem is_lst (c : SqL K H a xs) (k : Q (.bl true) H) : mIs K [.ref a, .ty "list"] H Q := ⟨_, _, _, true, rfl, .inl ⟨rfl, xs, c⟩, fun _ => kit_same _ _, k⟩
theorem atI_mem {α : Type} {xs : List α} {i : Int} {v : α} (h : atI xs i = some v) : v ∈ xs := by
  obtain ⟨j, _, e, _⟩ := atI_get h
  exact List.mem_of_getElem? e
theorem ints_at {ns : List Int} {i : Int} {v : V} (h : atI (ns.map V.int) i = some v) : ∃ n, v = .int n := by
  have := atI_mem h
  obtain ⟨n, _, e⟩ := List.mem_map.mp this
  exact ⟨n, e.symm⟩
theorem mTup_l (c : SqL K H a xs) (k : ∀ l, H l = none → Q (.ref l) (upd H l (.tup xs))) : mTup K [.ref a] H Q := ⟨a, xs, rfl, .inl ⟨c, k⟩⟩
theorem mLst_l (c : SqL K H a xs) (k : ∀ l, H l = none → Q (.ref l) (upd H l (.lst xs))) : mLst K [.ref a] H Q := ⟨a, xs, rfl, .inl c, k⟩
theorem mMin_i {j : Int} (k : Q (.int (if j < i then j else i)) H) : mMin [.int i, .int j] H Q := ⟨i, j, rfl, k⟩
theorem mAdd_l {q : Addr} {ys : List V} (e1 : H a = some (.lst xs)) (e2 : H q = some (.lst ys)) (z : xs.length + ys.length ≤ sizeLine) (k : ∀ d, H d = none → Q (.ref d) (upd H d (.lst (xs ++ ys)))) : mAdd K (.ref a) (.ref q) H Q := .inl ⟨xs, ys, e1, e2, z, k⟩
theorem iRng2_i {σ : St} {ta : TA} {R : It → Hp → Prop} (k : ta σ H fun vs H1 => ∃ i j : Int, vs = [.int i, .int j] ∧ (-(2 ^ 62) ≤ i ∧ i < 2 ^ 62 ∧ -(2 ^ 62) ≤ j ∧ j < 2 ^ 62) ∧ R (Itr i (j - i).toNat) H1) : iRng2 ta σ H R := k
end
end L2
set_option Elab.async false
set_option linter.all false
set_option maxRecDepth 100000
set_option maxHeartbeats 4000000
namespace L2
open PySem PySem.Spec PyProof.Rows
section
variable {X : Cx}
end
noncomputable abbrev smallS : Str := Str.ofString "abcdefghijklmnopqrstuvwxyz"
noncomputable abbrev greatS : Str := Str.ofString "ABCDEFGHIJKLMNOPQRSTUVWXYZ"
noncomputable abbrev figS : Str := Str.ofString "0123456789"
noncomputable abbrev one (c : Nat) : Str := ⟨#[c]⟩
noncomputable abbrev sp_l_cell_at (K : PySem.W.Frag) : Sp := fun vs H Q _ => match vs with | [.ref a, .int k] => ∃ ns : List Int, SqL K H a (ns.map V.int) ∧ 0 ≤ k ∧ k ≤ 1000 ∧ ∀ v, Q (.int v) H | _ => False
theorem ln {n : Nat} (h : n ≤ 100000) : n ≤ sizeLine := by rw [sizeLine_eq]; omega
theorem ln1 {n : Nat} (h : n < 100000) : n < sizeLine := by rw [sizeLine_eq]; omega
end L2
set_option Elab.async false
set_option linter.all false
set_option maxRecDepth 100000
set_option maxHeartbeats 4000000
namespace L2
open PySem PySem.Spec PyProof.Rows
section
variable {X : Cx} {e : Expr} {te : TE} {pos : Pos}
noncomputable def mAug (i : Nat) (te : TE) (ti : TIp) : TS := fun D σ H => ∃ x, σ[i]? = some (some x) ∧ te σ H fun y H1 => ti x y H1 fun z H2 => D.nx (σ.set i (some z)) H2
noncomputable def mIAdd : TIp := fun x y H Q => match x, y with
  | .int i, .int j => Q (.int (i + j)) H
  | .str i, .str j => i.length + j.length ≤ sizeLine ∧ Q (.str (i ++ j)) H
  | _, _ => False
end
section
variable {σ : St} {H : Hp} {Q : VK} {D : Ends} {te : TE} {n : Nat} {v : V} {i j : Int}
theorem mAug_i {ti : TIp} (h : σ[n]? = some (some v)) (k : te σ H fun y H1 => ti v y H1 fun z H2 => D.nx (σ.set n (some z)) H2) : mAug n te ti D σ H := ⟨v, h, k⟩
theorem mIAdd_i (k : Q (.int (i + j)) H) : mIAdd (.int i) (.int j) H Q := k
end
inductive Trm where
  | num (n : Int)
  | any (x : Str)
  | app (sg : Str) (ks : List Trm)
noncomputable abbrev numS : Str := Str.ofString "num"
noncomputable abbrev anyS : Str := Str.ofString "any"
noncomputable abbrev appS : Str := Str.ofString "app"
mutual
noncomputable def Trm.data : Trm → PyData
  | .num n => .tuple [.str numS, .int n]
  | .any x => .tuple [.str anyS, .str x]
  | .app sg ks => .tuple [.str appS, .str sg, .tuple (Trm.dataL ks)]
noncomputable def Trm.dataL : List Trm → List PyData
  | [] => []
  | t :: r => t.data :: Trm.dataL r
end
mutual
noncomputable def Trm.size : Trm → Nat
  | .num _ => 1
  | .any _ => 1
  | .app _ ks => 1 + Trm.sizeL ks
noncomputable def Trm.sizeL : List Trm → Nat
  | [] => 0
  | t :: r => t.size + Trm.sizeL r
end
section
variable {K : PySem.W.Frag} {H : Hp} {v : V}
theorem DenL.snoc {us : List V} {ds : List PyData} {d : PyData} (h : DenL K H us (ds ++ [d])) : ∃ us' u, us = us' ++ [u] ∧ DenL K H us' ds ∧ Den K H u d := by
  induction ds generalizing us with
  | nil =>
    cases h with
    | cons h1 h2 =>
      cases h2
      exact ⟨[], _, rfl, .nil, h1⟩
  | cons x r ih =>
    cases h with
    | cons h1 h2 =>
      obtain ⟨us', u, rfl, a, b⟩ := ih h2
      exact ⟨_ :: us', u, rfl, .cons h1 a, b⟩
theorem DenL.at {us : List V} {ds : List PyData} {i : Int} {d : PyData} (h : DenL K H us ds) (e : atI ds i = some d) : ∃ u, atI us i = some u ∧ Den K H u d := by
  obtain ⟨j, h1, h2, h3, h4, h5⟩ := atI_get e
  have hl := h.length
  have hj : j < us.length := by omega
  obtain ⟨d', e1, e2⟩ := h.get (List.getElem?_eq_getElem hj)
  rw [h2] at e1
  cases e1
  refine ⟨us[j], ?_, e2⟩
  unfold atI at e ⊢
  rw [hl]
  cases q : ixN ds.length i with
  | none => rw [q] at e; cases e
  | some k =>
    rw [q] at e
    have := (ixN_seq q).1
    rw [h1] at this
    cases this
    exact List.getElem?_eq_getElem hj
end
end L2
set_option Elab.async false
set_option linter.all false
set_option maxRecDepth 100000
set_option maxHeartbeats 4000000
namespace L2
open PySem PySem.Spec PyProof.Rows
noncomputable def Itv (K : PySem.W.Frag) (a : Addr) (n : Nat) : It := ⟨fun i H => ∃ xs, SqL K H a xs ∧ xs.length = n ∧ i < n, fun i H x H' => H' = H ∧ ∀ xs, SqL K H a xs → xs[n - 1 - i]? = some x, fun i _ => i = n⟩
section
variable {X : Cx} {tg : Expr}
noncomputable def iRev (K : PySem.W.Frag) (ta : TA) : TI := fun σ H R => ta σ H fun vs H1 => ∃ a xs, vs = [.ref a] ∧ SqL K H1 a xs ∧ R (Itv K a xs.length) H1
end
theorem iRev_i {K : PySem.W.Frag} {σ : St} {H : Hp} {ta : TA} {R : It → Hp → Prop} (k : ta σ H fun vs H1 => ∃ a xs, vs = [.ref a] ∧ SqL K H1 a xs ∧ R (Itv K a xs.length) H1) : iRev K ta σ H R := k
end L2
set_option Elab.async false
set_option linter.all false
set_option maxRecDepth 100000
set_option maxHeartbeats 4000000
namespace L2
open PySem PySem.Spec PyProof.Rows
section
variable {X : Cx}
theorem ko_inV (K : PySem.W.Frag) (h : X.K = K) : OpR X (compareOp .In) (rIn K false) := h ▸ op_in_seq
theorem mMax_i {i j : Int} {H : Hp} {Q : VK} (k : Q (.int (if j > i then j else i)) H) : mMax [.int i, .int j] H Q := ⟨i, j, rfl, k⟩
end
end L2
set_option Elab.async false
set_option linter.all false
set_option maxRecDepth 100000
set_option maxHeartbeats 4000000
namespace L2
open PySem PySem.Spec PyProof.Rows
section
variable {X : Cx}
end
end L2
namespace L2
open PySem PySem.Spec PyProof.Rows
section
variable {X : Cx}
noncomputable def rDIn (n : Bool) : R2 := fun x y H Q => ∃ a o, y = .ref a ∧ DGet H a x o ∧ Q (.bl (n ^^ o.isSome)) H
theorem ko_inD (hu : X.A.units + 1 < cLine) : OpR X (compareOp .In) (rDIn false) := by
  intro pins s σ H x y v u Q I rx ry h
  obtain ⟨a, o, rfl, g, q⟩ := h
  cases ry
  exact d_in hu I g rx fun s3 I3 => ⟨.bl _, H, I3, rfl, by simpa using q⟩
theorem ko_ninD (hu : X.A.units + 1 < cLine) : OpR X (compareOp .NotIn) (rDIn true) := by
  intro pins s σ H x y v u Q I rx ry h
  obtain ⟨a, o, rfl, g, q⟩ := h
  cases ry
  exact d_notIn hu I g rx fun s3 I3 => ⟨.bl _, H, I3, rfl, by simpa using q⟩
end
section
variable {σ : St} {H : Hp} {Q : VK} {D : Ends} {td ty tx tv : TE}
theorem tDGet_i (k : td σ H fun x H1 => ty σ H1 fun y H2 => ∃ a v, x = .ref a ∧ DGet H2 a y (some v) ∧ Q v H2) : tDGet td ty σ H Q := k
theorem tDGet2_i (k : td σ H fun x H1 => ∃ a, x = .ref a ∧ IsD H1 a ∧ ty σ H1 fun y H2 => tx σ H2 fun z H3 => ∃ o, DGet H3 a y o ∧ Q (o.getD z) H3) : tDGet2 td ty tx σ H Q := k
theorem sDPut_i (k : tv σ H fun v H1 => td σ H1 fun x H2 => ty σ H2 fun y H3 => ∃ a H4, x = .ref a ∧ DPut H3 a y v H4 ∧ D.nx σ H4) : sDPut td ty tv D σ H := k
theorem tDisp_i {trs : List (TE × TE)} (k : ∀ p, H p = none → tPairs trs σ (upd H p (.dK [])) fun ps H2 => H2 p = some (.dK []) ∧ ∃ kvs : List (Key × V), ps = kvs.map (fun kv => (kV kv.1, kv.2)) ∧ kvs.length ≤ 15 ∧ Q (.ref p) (upd H2 p (.dK (mergeK [] kvs)))) : tDisp trs σ H Q := k
theorem tPairs_c {tk tv : TE} {r : List (TE × TE)} {R : List (V × V) → Hp → Prop} (k : tk σ H fun x H1 => tv σ H1 fun y H2 => tPairs r σ H2 fun ps H3 => R ((x, y) :: ps) H3) : tPairs ((tk, tv) :: r) σ H R := k
theorem tPairs_n {R : List (V × V) → Hp → Prop} (k : R [] H) : tPairs [] σ H R := k
end
end L2
set_option Elab.async false
set_option linter.all false
set_option maxRecDepth 100000
set_option maxHeartbeats 4000000
namespace L2
open PySem PySem.Spec PyProof.Rows
section
variable {X : Cx}
noncomputable def mIsN (n : Bool) : R2 := fun x y H Q => y = .non ∧ Q (.bl (n ^^ decide (x = .non))) H
theorem mo_notN : OpR X (compareOp .IsNot) (mIsN true) := op_notN.imp fun _ _ _ _ h => ⟨h.1, by have := h.2; rwa [Bool.true_xor] at this⟩
theorem isN_non {n : Bool} {H : Hp} {Q : VK} (k : Q (.bl (!n)) H) : mIsN n .non .non H Q := ⟨rfl, by rw [decide_eq_true rfl, Bool.xor_true]; exact k⟩
theorem isN_ref {n : Bool} {a : Addr} {H : Hp} {Q : VK} (k : Q (.bl n) H) : mIsN n (.ref a) .non H Q := ⟨rfl, by rw [decide_eq_false (fun z => by cases z), Bool.xor_false]; exact k⟩
noncomputable def mInt : List V → Hp → VK → Prop := fun vs H Q => match vs with
  | [.int i] => Q (.int i) H
  | [.bl b] => Q (.int (if b then 1 else 0)) H
  | _ => False
theorem mc_int : CallR X (.type "int") mInt := by
  intro pins s σ H xs us Q I r h
  refine call_int1 pins s σ H xs us Q I r ?_
  unfold mInt at h
  split at h
  · exact .inl ⟨_, rfl, h⟩
  · exact .inr ⟨_, rfl, h⟩
  · exact h.elim
theorem mInt_b {b : Bool} {H : Hp} {Q : VK} (k : Q (.int (if b then 1 else 0)) H) : mInt [.bl b] H Q := k
end
noncomputable def But (p : Addr) (H H' : Hp) : Prop := ∀ b o, b ≠ p → H b = some o → H' b = some o
theorem But.refl (p : Addr) (H : Hp) : But p H H := fun _ _ _ h => h
theorem Same.but {p : Addr} {H H' : Hp} (s : Same H H') : But p H H' := fun b o _ h => s b o h
theorem But.trans {p : Addr} {H H1 H2 : Hp} (a : But p H H1) (b : But p H1 H2) : But p H H2 := fun c o n h => b c o n (a c o n h)
theorem But.tup {K : PySem.W.Frag} {p : Addr} {H H' : Hp} {ys : List V} (e : But p H H') (hp : H p = some (.lst ys)) {a : Addr} {xs : List V} (h : SqT K H a xs) : SqT K H' a xs := by
  rcases h with (h | ⟨o, h⟩) | h
  · exact .inl (.inl (e _ _ (fun z => by subst z; rw [hp] at h; cases h) h))
  · exact .inl (.inr ⟨o, e _ _ (fun z => by subst z; rw [hp] at h; cases h) h⟩)
  · exact .inr h
end L2
set_option Elab.async false
set_option linter.all false
set_option maxRecDepth 100000
set_option maxHeartbeats 4000000
namespace L2
open PySem PySem.Spec PyProof.Rows
section
variable {X : Cx} {pins : List (Addr × Obj)} {σ : St} {H : Hp} {s : Shared} {h' : Heap}
end
noncomputable def Ite (K : PySem.W.Frag) (a : Addr) (n : Nat) : It := ⟨fun i H => i < n ∧ ∃ xs, SqL K H a xs ∧ xs.length = n, fun i H v H' => ∃ T x, H T = none ∧ v = .ref T ∧ H' = upd H T (.tup [.int i, x]) ∧ ∀ xs, SqL K H a xs → xs[i]? = some x, fun i H => i = n ∧ ∃ xs, SqL K H a xs ∧ xs.length = n⟩
section
variable {X : Cx}
noncomputable def iEnum (K : PySem.W.Frag) (ta : TA) : TI := fun σ H R => ta σ H fun vs H1 => ∃ a xs, vs = [.ref a] ∧ SqL K H1 a xs ∧ R (Ite K a xs.length) H1
end
theorem iEnum_i {K : PySem.W.Frag} {σ : St} {H : Hp} {ta : TA} {R : It → Hp → Prop} (k : ta σ H fun vs H1 => ∃ a xs, vs = [.ref a] ∧ SqL K H1 a xs ∧ R (Ite K a xs.length) H1) : iEnum K ta σ H R := k
end L2
set_option Elab.async false
set_option linter.all false
set_option maxRecDepth 100000
set_option maxHeartbeats 4000000
namespace L2
open PySem PySem.Spec PyProof.Rows PySem.W
noncomputable def RawD (h : Heap) (a : Addr) (es : Array DictEntry) (ep : Nat) : Prop := ∃ o, h.get? a = some o ∧ o.ExactDict ∧ o.data = .dict es ep
theorem RawD.on {h h' : Heap} {a : Addr} {es : Array DictEntry} {ep : Nat} (x : RawD h a es ep) (k : ∀ o, h.get? a = some o → h'.get? a = some o) : RawD h' a es ep := let ⟨o, p, r⟩ := x; ⟨o, k o p, r⟩
theorem RawD.lt {h : Heap} {a : Addr} {es : Array DictEntry} {ep : Nat} (x : RawD h a es ep) : a < h.objs.size := let ⟨_, p, _⟩ := x; Heap.lt_size p
theorem RawD.ty {s : Shared} {a : Addr} {es : Array DictEntry} {ep : Nat} (x : RawD s.heap a es ep) : s.TypeIs (.ref a) "dict" := let ⟨o, p, c, _⟩ := x; ⟨o, p, c.1⟩
section
variable {prog : Program} {w : World} {A : Around} {E : Value → Shared → Prop} {s : Shared} {d : Addr} {es : Array DictEntry} {ep : Nat}
theorem raw_iter {Q : Value → Shared → Prop} (hd : (d == sysModules) = false) (hm : RawD s.heap d es ep)
    (hQ : Q (.ref s.heap.objs.size) { s with heap := s.heap.push { cls := .type "dict_keyiterator", data := .fields #[.ref d, .int 0 0, .int es.size 0, .int ep 0] } }) : wpAny (model prog w) A (pyIter (.ref d)) Q E s := by
  obtain ⟨o, ho, hc, hdat⟩ := id hm
  refine wpAny_pyIter_slot hm.ty PySem.F.slot_dict_iter (wpAny_call_entry PySem.F.slot_dict_iter hm.ty PySem.F.entry_dict_iter ?_ (PySem.F.args_dict_iter_1 _))
  (unfold Builtin.«dict.__iter__»; refine wpAny_bind ?_; unfold Builtin.Dict.dictSlotNone; refine wpAny_bind (wpAny_notOrdered_dict hm.ty ?_); show wpAny _ _ (pure (Value.ref d)) _ _ s; refine wpAny_pure ?_)
  (show wpAny _ _ (Builtin.Dict.showsAll d >>= _) _ _ s; unfold Builtin.Dict.showsAll; rw [if_neg (by rw [hd]; exact Bool.false_ne_true)]; refine wpAny_bind (wpAny_pure (wpAny_bind (wpAny_dictEntries ho hdat (wpAny_bind (wpAny_dictEpoch ho hdat ?_))))))
  refine wpAny_bind (wpAny_newObj_type (wpAny_pure ⟨_, rfl, "dict_keyiterator", _, ⟨_, Heap.get?_push_size _ rfl, rfl⟩, PySem.F.slot_dict_keyiterator_next.lookup, by simpa [rawInt] using hQ⟩))
theorem raw_key_item {it : Addr} {i : Nat} {Q : Option Value → Shared → Prop} (hit : s.heap.IsKeyIter it d i es.size ep) (hm : RawD s.heap d es ep) (hlt : i < es.size)
    (hQ : ∀ h', h'.IsKeyIter it d (i + 1) es.size ep → Heap.SameBut it s.heap h' → Q (some es[i].key) { s with heap := h' }) : wpAny (model prog w) A (pyNext (.ref it)) Q E s := by
  obtain ⟨o, ho, hc, hd⟩ := id hit
  obtain ⟨od, hod, hcd, hdd⟩ := id hm
  (unfold pyNext; refine wpAny_bind (wpAny_attempt (wpAny_callSpecial?_slot (name := Str.ofString "__next__") hit.typeIs PySem.F.slot_dict_keyiterator_next (wpAny_call_entry PySem.F.slot_dict_keyiterator_next hit.typeIs PySem.F.entry_dict_keyiterator_next ?_ (PySem.F.args_dict_keyiterator_next_1 _)))))
  (refine wpAny_bind (wpAny_pure (wpAny_bind (wpAny_bind ?_))); first | refine wpAny_bind (wpAny_typeNameOfWhole_keyiter hit.typeIs (wpAny_pure ?_)) | refine wpAny_bind (wpAny_typeNameOf_keyiter hit.typeIs (wpAny_pure ?_)))
  refine wpAny_bind (wpAny_fieldsOf ho hd ?_)
  simp only [show Builtin.Dict_items.ownsTuple "dict_keyiterator" = false by decide, Bool.false_eq_true, if_false]
  (show wpAny _ _ (if (Value.ref d == Value.none) = true then _ else _) _ _ s; rw [if_neg (show ¬ ((Value.ref d == Value.none) = true) from Bool.false_ne_true)]; refine wpAny_bind (wpAny_pure (wpAny_bind (wpAny_dictEntries hod hdd ?_))))
  (rw [if_neg (by simp)]; refine wpAny_bind (wpAny_pure (wpAny_bind (wpAny_dictEpoch hod hdd ?_))); rw [if_neg (by simp)]; refine wpAny_pure ?_)
  simp only [show ¬ ((i : Int) < 0) from by omega, if_false, Int.toNat_natCast, Array.getElem?_eq_getElem hlt]
  (refine wpAny_bind ?_; first | refine wpAny_bind (wpAny_typeNameOfWhole_keyiter hit.typeIs (wpAny_pure ?_)) | refine wpAny_bind (wpAny_typeNameOf_keyiter hit.typeIs (wpAny_pure ?_)))
  (refine wpAny_bind (wpAny_isOneOf_keyiter hit.typeIs ?_); show wpAny _ _ (setField (.ref it) 1 (rawInt ((i : Int) + 1)) >>= _) _ _ s; refine wpAny_bind (wpAny_setField ho hd (by simp) ?_))
  have new : (s.heap.update it (Obj.mapFields (·.setIfInBounds 1 (rawInt ((i : Int) + 1))))).IsKeyIter it d (i + 1) es.size ep := ⟨_, Heap.get?_update_self _ ho (Obj.isFreed_of_fields (Obj.data_mapFields hd _)), (Obj.cls_mapFields ..).trans hc, by rw [Obj.data_mapFields hd]; simp [rawInt]⟩
  refine wpAny_bind (wpAny_holding ?_)
  (refine wpAny_bind (wpAny_isOneOf_keyiter (s := { s with heap := s.heap.update it (Obj.mapFields (·.setIfInBounds 1 (rawInt ((i : Int) + 1)))) }) new.typeIs ?_))
  (show wpAny _ _ (pure es[i].key) _ _ _; exact wpAny_pure (wpAny_pure ⟨_, rfl, wpAny_pure (hQ _ new (Heap.SameBut.update ..))⟩))
theorem raw_key_end {it : Addr} {Q : Option Value → Shared → Prop} (hh : A.handled = none) (hit : s.heap.IsKeyIter it d es.size es.size ep) (hm : RawD s.heap d es ep)
    (hQ : ∀ h', Heap.ExtBut it s.heap h' → Q none { s with heap := h' }) : wpAny (model prog w) A (pyNext (.ref it)) Q E s := by
  obtain ⟨o, ho, hc, hd⟩ := id hit
  obtain ⟨od, hod, hcd, hdd⟩ := id hm
  (unfold pyNext; refine wpAny_bind (wpAny_attempt (wpAny_callSpecial?_slot (name := Str.ofString "__next__") hit.typeIs PySem.F.slot_dict_keyiterator_next (wpAny_call_entry PySem.F.slot_dict_keyiterator_next hit.typeIs PySem.F.entry_dict_keyiterator_next ?_ (PySem.F.args_dict_keyiterator_next_1 _)))))
  (refine wpAny_bind (wpAny_pure (wpAny_bind (wpAny_bind ?_))); first | refine wpAny_bind (wpAny_typeNameOfWhole_keyiter hit.typeIs (wpAny_pure ?_)) | refine wpAny_bind (wpAny_typeNameOf_keyiter hit.typeIs (wpAny_pure ?_)))
  refine wpAny_bind (wpAny_fieldsOf ho hd ?_)
  simp only [show Builtin.Dict_items.ownsTuple "dict_keyiterator" = false by decide, Bool.false_eq_true, if_false]
  (show wpAny _ _ (if (Value.ref d == Value.none) = true then _ else _) _ _ s; rw [if_neg (show ¬ ((Value.ref d == Value.none) = true) from Bool.false_ne_true)]; refine wpAny_bind (wpAny_pure (wpAny_bind (wpAny_dictEntries hod hdd ?_))))
  (rw [if_neg (by simp)]; refine wpAny_bind (wpAny_pure (wpAny_bind (wpAny_dictEpoch hod hdd ?_))); rw [if_neg (by simp)]; refine wpAny_pure ?_)
  simp only [show ¬ ((es.size : Int) < 0) from by omega, if_false, Int.toNat_natCast, Array.getElem?_eq_none (Nat.le_refl es.size)]
  (refine wpAny_bind ?_; first | refine wpAny_bind (wpAny_typeNameOfWhole_keyiter hit.typeIs (wpAny_pure ?_)) | refine wpAny_bind (wpAny_typeNameOf_keyiter hit.typeIs (wpAny_pure ?_)))
  (show wpAny _ _ (setField (.ref it) 0 .none >>= _) _ _ s; refine wpAny_bind (wpAny_setField ho hd (by simp) ?_); show wpAny _ _ (newExc (.type "StopIteration") [] >>= _) _ _ _; refine wpAny_bind ?_; simp only [newExc, newTuple])
  (refine wpAny_bind (wpAny_newObj_type (wpAny_bind (m := firstArgMember _ _) (wpAny_of_eq (a := Value.none) (by first | rfl | (simp only [firstArgMember]; rfl)) (wpAny_newObj_type ?_ (by size_fits)))) (by size_fits)))
  (simp only [raiseNew]; refine wpAny_bind (wpAny_handled ?_); rw [show A.in1.handled = none from hh]; refine wpAny_bind (wpAny_pure (wpAny_throw ?_)); refine wpAny_bind (wpAny_isInstance (T := "StopIteration") (b := true) ⟨_, Heap.get?_push_size _ rfl, rfl⟩ isSubtype_stop ?_))
  exact wpAny_pure (hQ _ (((Heap.SameBut.update ..).extBut.push _).push _))
end
end L2
set_option Elab.async false
set_option linter.all false
set_option maxRecDepth 100000
set_option maxHeartbeats 4000000
namespace L2
open PySem PySem.Spec PyProof.Rows PySem.W
section
variable {X : Cx}
end
end L2
set_option Elab.async false
set_option linter.all false
set_option maxRecDepth 100000
set_option maxHeartbeats 4000000
namespace L2
open PySem PySem.Spec PyProof.Rows PySem.W
open PySem.AutoSeq1 (wpAny_loadPart')
noncomputable def EqIn (prog : Program) (w : World) (A : Around) (s : Shared) (y x : Value) : Prop := ∀ (E : Value → Shared → Prop) (Q : Bool → Shared → Prop), Q true s → wpAny (model prog w) A (eqBool y x) Q E s
section
variable {prog : Program} {w : World} {A : Around} {E : Value → Shared → Prop} {s : Shared}
theorem EqIn.at {y x : Value} (h : SeqAt.EqAt A s y x true) : EqIn prog w A s y x := fun E Q q => h prog w E Q q
theorem EqIn.refs {l b : Addr} (hne : l ≠ b) (h : ∀ (E : Value → Shared → Prop) (Q : Value → Shared → Prop), Q (.bool true) s → wpAny (model prog w) A (compareOp .Eq (.ref l) (.ref b)) Q E s) : EqIn prog w A s (.ref l) (.ref b) := fun E Q q => by
  unfold eqBool
  refine wpAny_holding (wpAny_ite_split (fun hab => absurd (Value.ref.inj (eq_of_beq hab)) hne) fun _ => wpAny_bind (h E _ (wpAny_truthy_bool q)))
variable {K : Type} [DecidableEq K] {knd : HeapKind prog w K}
end
section
variable {X : Cx}
end
end L2
set_option Elab.async false
set_option linter.all false
set_option maxRecDepth 100000
set_option maxHeartbeats 4000000
namespace L2
open PySem PySem.Spec PyProof.Rows PySem.W
section
variable {X : Cx}
noncomputable def mPop0 : V → List V → Hp → VK → Prop := fun x vs H Q => ∃ l y xs, x = .ref l ∧ vs = [.int 0] ∧ H l = some (.lst (y :: xs)) ∧ Q y (upd H l (.lst xs))
theorem mm_pop0 : MtR X "list.pop" mPop0 := by
  intro pins s σ H x vs v us Q I rx rv h
  obtain ⟨l, y, xs, e1, e2, h1, q⟩ := h
  refine mt_popAt pins s σ H x vs v us Q I rx rv ⟨l, y :: xs, 0, 0, y, e1, e2, h1, by decide, by decide, ?_, rfl, q⟩
  unfold seqIndex?
  simp
theorem kpg_tup (K : PySem.W.Frag) (hK : X.K = K) {pos : Pos} {es : List Expr} {k : Nat} {t : TGs} {n : Nat} (hc : X.calm = true) (h : PGs X es t)
    (hn : (assignEach es X.env).length = n := by rfl) (hst : (assignEach es X.env).findIdx? (·.1) = none := by rfl) : PG X (.Tuple es k pos) (gTup K n t) := hK ▸ pg_tup hc h hn hst
end
section
variable {K : PySem.W.Frag} {σ : St} {H : Hp} {Q : VK} {D : Ends} {a : Addr} {xs : List V} {n : Nat}
theorem gTup_i {t : TGs} {N : St → Hp → Prop} (hs : SqT K H a xs) (hl : xs.length = n) (k : t xs σ H N) : gTup K n t (.ref a) σ H N := ⟨a, xs, rfl, hs, hl, k⟩
theorem gCons_i {t : TG} {u : TGs} {v : V} {r : List V} {N : St → Hp → Prop} (k : t v σ H fun σ' H' => u r σ' H' N) : gCons t u (v :: r) σ H N := ⟨v, r, rfl, k⟩
theorem gNil_i {N : St → Hp → Prop} (k : N σ H) : gNil [] σ H N := ⟨rfl, k⟩
end
end L2
set_option Elab.async false
set_option linter.all false
set_option maxRecDepth 100000
set_option maxHeartbeats 4000000
namespace L2
open PySem PySem.Spec PyProof.Rows PySem.W
section
variable {X : Cx}
theorem eqAt_kV {A : Around} {s : Shared} {a b : Key} {u v : Value} (ra : RelV (kV a) u) (rb : RelV (kV b) v) : SeqAt.EqAt A s u v (decide (a = b)) := by
  cases a with
  | inl i =>
    obtain ⟨t, rfl⟩ := ra
    cases b with
    | inl j =>
      obtain ⟨t', rfl⟩ := rb
      rw [key_ll]
      have := SeqAt.EqAt.int_int (A := A) (s := s) i t j t'
      simpa [PyData.eqv] using this
    | inr y =>
      obtain ⟨t', rfl⟩ := rb
      rw [key_lr]
      exact SeqAt.EqAt.int_str i t y t'
  | inr x =>
    obtain ⟨t, rfl⟩ := ra
    cases b with
    | inl j =>
      obtain ⟨t', rfl⟩ := rb
      rw [key_rl]
      exact SeqAt.EqAt.str_int x t j t'
    | inr y =>
      obtain ⟨t', rfl⟩ := rb
      rw [key_rr]
      have := SeqAt.EqAt.str_str (A := A) (s := s) x t y t'
      have e : (x == y) = decide (x = y) := by
        by_cases h : x = y
        · subst h; simp
        · rw [decide_eq_false h]; exact beq_eq_false_iff_ne.mpr h
      rw [← e]
      simpa [PyData.eqv] using this
theorem all_eq (k1 k2 : List Key) : ((List.range (min k1.length k2.length)).all (fun j => decide (k1[j]? = k2[j]?)) && (k1.length == k2.length)) = decide (k1 = k2) := by
  by_cases h : k1 = k2
  · subst h
    simp
  · rw [decide_eq_false h]
    cases hl : (k1.length == k2.length) with
    | false => rw [Bool.and_false]
    | true =>
      have hl : k1.length = k2.length := eq_of_beq hl
      rw [Bool.and_true]
      refine Bool.eq_false_iff.mpr fun z => h ?_
      apply List.ext_getElem?
      intro j
      by_cases hj : j < k1.length
      · exact of_decide_eq_true (List.all_eq_true.mp z j (List.mem_range.mpr (by omega)))
      · rw [List.getElem?_eq_none (by omega), List.getElem?_eq_none (by omega)]
noncomputable def mEqKs (K : PySem.W.Frag) : R2 := fun x y H Q => ∃ (p q : Addr) (k1 k2 : List Key), x = .ref p ∧ y = .ref q ∧ SqT K H p (k1.map kV) ∧ SqT K H q (k2.map kV) ∧ Q (.bl (decide (k1 = k2))) H
theorem ko_eqKs (K : PySem.W.Frag) (hK : X.K = K) (hu : X.A.units + 150 < cLine) : OpR X (compareOp .Eq) (mEqKs K) := by
  subst hK
  intro pins s σ H x y v u Q I rx ry h
  obtain ⟨p, q, k1, k2, rfl, rfl, hp, hq, k⟩ := h
  cases rx
  cases ry
  obtain ⟨its, rv, p1, _⟩ := I.tuple hp
  obtain ⟨its', rv', p2, _⟩ := I.tuple hq
  have l1 := rv.length
  have l2 := rv'.length
  rw [List.length_map] at l1 l2
  refine SeqAt.eq_tupleAt (e := fun j => decide (k1[j]? = k2[j]?)) (show s.heap.IsTuple p its.toArray from p1) (show s.heap.IsTuple q its'.toArray from p2) (by omega) (fun j h1 h2 => ?_) ?_
  · have g1 : j < its.length := by simpa using h1
    have g2 : j < its'.length := by simpa using h2
    have j1 : j < k1.length := by omega
    have j2 : j < k2.length := by omega
    obtain ⟨w1, y1, z1⟩ := rv.get (show (k1.map kV)[j]? = some (kV k1[j]) by rw [List.getElem?_map, List.getElem?_eq_getElem j1]; rfl)
    obtain ⟨w2, y2, z2⟩ := rv'.get (show (k2.map kV)[j]? = some (kV k2[j]) by rw [List.getElem?_map, List.getElem?_eq_getElem j2]; rfl)
    have q1 : its.toArray[j] = w1 := by
      have := List.getElem?_eq_getElem g1
      rw [y1] at this
      simpa using (Option.some.inj this).symm
    have q2 : its'.toArray[j] = w2 := by
      have := List.getElem?_eq_getElem g2
      rw [y2] at this
      simpa using (Option.some.inj this).symm
    rw [q1, q2]
    have := eqAt_kV (A := X.A.in1) (s := s) z1 z2
    rw [show decide (k1[j]? = k2[j]?) = decide (k1[j] = k2[j]) by rw [List.getElem?_eq_getElem j1, List.getElem?_eq_getElem j2]; simp]
    exact this
  · have e : ((List.range (min its.toArray.size its'.toArray.size)).all (fun j => decide (k1[j]? = k2[j]?)) && (its.toArray.size == its'.toArray.size)) = decide (k1 = k2) := by
      rw [List.size_toArray, List.size_toArray, ← l1, ← l2]
      exact all_eq k1 k2
    rw [e]
    exact ⟨.bl _, H, I, rfl, k⟩
end
end L2
set_option Elab.async false
set_option linter.all false
set_option maxRecDepth 100000
set_option maxHeartbeats 4000000
namespace L2
open PySem PySem.Spec PyProof.Rows PySem.W
structure QE (X : Cx) (e : Expr) (t : TE) : Prop where
  pe : PE X e t
structure QS (X : Cx) (st : Stmt) (t : TS) : Prop where
  ps : PS X st t
structure QSs (X : Cx) (l : List Stmt) (t : TS) : Prop where
  pss : PSs X l t
section
variable {X : Cx} {pos pos' : Pos} {e k v : Expr} {te tk tv : TE} {st : Stmt} {rest : List Stmt} {t u : TS}
theorem qss_cons (h1 : QS X st t) (h2 : QSs X rest u) : QSs X (st :: rest) (tSeq t u) := ⟨pss_cons h1.ps h2.pss⟩
theorem qss_one (h1 : QS X st t) : QSs X [st] t := ⟨pss_one h1.ps⟩
end
section
variable {X : Cx} {pos : Pos} {e : Expr} {te : TE}
end
section
variable {X : Cx} {tg : Expr}
noncomputable def iSeq (K : PySem.W.Frag) (tl : TE) : TI := fun σ H R => tl σ H fun x H1 => ∃ a, x = .ref a ∧ ((∃ xs, SqL K H1 a xs ∧ R (Itl K a) H1) ∨ ∃ xs, SqT K H1 a xs ∧ R (Itt K a) H1)
theorem iSeq_i {K : PySem.W.Frag} {σ : St} {H : Hp} {ta : TE} {R : It → Hp → Prop} (k : ta σ H fun x H1 => ∃ a, x = .ref a ∧ ((∃ xs, SqL K H1 a xs ∧ R (Itl K a) H1) ∨ ∃ xs, SqT K H1 a xs ∧ R (Itt K a) H1)) : iSeq K ta σ H R := k
noncomputable def mAbs : List V → Hp → VK → Prop := fun vs H Q => ∃ i, vs = [.int i] ∧ Q (.int (if i < 0 then -i else i)) H
theorem mAbs_i {i : Int} {H : Hp} {Q : VK} (k : Q (.int (if i < 0 then -i else i)) H) : mAbs [.int i] H Q := ⟨i, rfl, k⟩
end
end L2
set_option Elab.async false
set_option linter.all false
set_option maxRecDepth 100000
set_option maxHeartbeats 4000000
namespace L2
open PySem PySem.Spec PyProof.Rows PySem.W
noncomputable def TbIs (h : Heap) (T : Addr) : Prop := ∃ oT ts, h.get? T = some oT ∧ oT.data = .fields ts ∧ ts[3]? = some Value.none
structure Left (fs : List Addr) (ea : Addr) (o : Obj) (ok : Addr → Prop) (h h' : Heap) : Prop where
  keep : ∀ b u, b ≠ ea → ¬ ok b → b ∉ fs → h.get? b = some u → h'.get? b = some u
  slot : ∀ b u, b ≠ ea → ¬ ok b → h.get? b = some u → ∃ sl, h'.get? b = some { u with slots := sl }
  there : ∀ b u, h.get? b = some u → ∃ u', h'.get? b = some u'
  tb : ∃ T, h.objs.size ≤ T ∧ TbIs h' T ∧ h'.get? ea = some (o.mapFields (·.setIfInBounds 1 (.ref T)))
theorem mf_data {o : Obj} {vs : Array Value} (f : Array Value → Array Value) (h : o.data = .fields vs) : (o.mapFields f).data = .fields (f vs) := Obj.data_mapFields h f
theorem mf_dict (o : Obj) (f : Array Value → Array Value) : (o.mapFields f).dict = o.dict := by
  unfold Obj.mapFields
  split <;> rfl
section
variable {M : Model} {A : Around} {E : Value → Shared → Prop}
theorem leave_entry {s : Shared} {base : Heap} {env : Env} {outer : List Env} {L ea : Addr} {o : Obj} {vs : Array Value} {hd0 : Value} {had : Bool} {Q : Unit → Shared → Prop}
    (fr : A.frames = some (env :: outer)) (ff : s.heap.FunFrames base (env :: outer)) (fe : env.frame = some L) (ge : s.heap.get? ea = some o) (gd : o.data = .fields vs) (g1 : 1 < vs.size)
    (q : ∀ h', Left (frs (env :: outer)) ea o (fun _ => False) s.heap h' → Q () { s with heap := h' }) :
    wpAny M A (do let a ← frameOf env; let pl ← entryPlaceOf L had; let b ← EntryCells.newEntry hd0 a .none (rawInt L) .none pl; setField (.ref ea) 1 b) (fun _ s1 => wpAny M A (setFlight (.ref ea) none) Q E s1) E s := by
  have nea : ea ∉ frs (env :: outer) := fun z => by
    obtain ⟨_, u, hu, hn⟩ := ff.mem z
    rw [ge] at hu
    cases hu
    exact hn vs gd
  refine wpAny_bind (wpAny_frameOf_fun fr ff fe fun hA sA => ?_)
  refine wpAny_bind (wpAny_entryPlaceOf fun pl hpl => ?_)
  unfold EntryCells.newEntry newFields
  refine wpAny_bind (wpAny_newObj_type ?_ (hpl.sizeOk5 _ _ _ _ _))
  generalize hob : ({ cls := .type "traceback", dict := none, data := .fields ([hd0, .ref L, .none, rawInt L, .none] ++ (if pl.isEmpty then List.replicate 6 Value.none else pl)).toArray } : Obj) = ob
  have obd : ob.data = .fields ([hd0, .ref L, .none, rawInt L, .none] ++ (if pl.isEmpty then List.replicate 6 Value.none else pl)).toArray := by rw [← hob]
  have eA : hA.get? ea = some o := (sA.2.1 ea nea).trans ge
  have eB := Heap.get?_push_of_some (h := hA) ob eA
  have nT : hA.objs.size ≠ ea := Nat.ne_of_gt (Heap.lt_size eA)
  refine wpAny_setField eB gd g1 ?_
  have dC := mf_data (·.setIfInBounds 1 (Value.ref hA.objs.size)) gd
  have eC := Heap.get?_update_self (Obj.mapFields (·.setIfInBounds 1 (Value.ref hA.objs.size))) eB (Obj.isFreed_of_fields dC)
  have tC := (Heap.get?_update_other (hA.push ob) (Obj.mapFields (·.setIfInBounds 1 (Value.ref hA.objs.size))) (Ne.symm nT)).trans (Heap.get?_push_size hA (by cases ob; cases hob; rfl))
  have sz3 : 3 < ([hd0, .ref L, .none, rawInt L, .none] ++ (if pl.isEmpty then List.replicate 6 Value.none else pl)).toArray.size := by
    simp only [List.size_toArray, List.length_append, List.length_cons, List.length_nil]
    omega
  unfold setFlight
  refine wpAny_bind (wpAny_field eC dC (x := .ref hA.objs.size) (by simp [g1]) ?_)
  rw [if_pos (show (Value.ref hA.objs.size != Value.none) = true from by simp)]
  refine wpAny_setField tC obd sz3 (q _ ?_)
  have kept : ∀ b u, b ≠ ea → hA.get? b = some u → (((hA.push ob).update ea (Obj.mapFields (·.setIfInBounds 1 (Value.ref hA.objs.size)))).update hA.objs.size (Obj.mapFields (·.setIfInBounds 3 ((none : Option Addr).elim Value.none fun f => rawInt f)))).get? b = some u := fun b u hb hu => by
    rw [Heap.get?_update_other _ _ (Nat.ne_of_gt (Heap.lt_size hu)), Heap.get?_update_other _ _ (Ne.symm hb)]
    exact Heap.get?_push_of_some _ hu
  refine ⟨fun b u hb _ hf hu => kept b u hb ((sA.2.1 b hf).trans hu), fun b u hb _ hu => ?_, fun b u hu => ?_, hA.objs.size, ?_, ?_, ?_⟩
  · obtain ⟨sl, e⟩ := sA.2.2 b u hu
    exact ⟨sl, kept b _ hb e⟩
  · by_cases hb : b = ea
    · subst hb
      exact ⟨_, by rw [Heap.get?_update_other _ _ nT]; exact eC⟩
    · obtain ⟨sl, e⟩ := sA.2.2 b u hu
      exact ⟨_, kept b _ hb e⟩
  · rw [sA.1]
    exact Nat.le_refl _
  · exact ⟨_, _, Heap.get?_update_self _ tC (Obj.isFreed_of_fields (mf_data _ obd)), mf_data _ obd, by simp [sz3]⟩
  · rw [Heap.get?_update_other _ _ nT]
    exact eC
theorem leave_any {s : Shared} {base : Heap} {env : Env} {outer : List Env} {L ea : Addr} {o : Obj} {vs : Array Value} {ok : Addr → Prop} {Q : Unit → Shared → Prop}
    (fr : A.frames = some (env :: outer)) (ff : s.heap.FunFrames base (env :: outer)) (fe : env.frame = some L) (ge : s.heap.get? ea = some o) (gd : o.data = .fields vs)
    (tb : vs[1]? = some .none ∨ ∃ T, vs[1]? = some (.ref T) ∧ T ≠ ea ∧ ok T ∧ TbIs s.heap T)
    (q : ∀ h', Left (frs (env :: outer)) ea o ok s.heap h' → Q () { s with heap := h' }) : wpAny M A (noteFrame (.ref ea) env) (fun _ s1 => wpAny M A (setFlight (.ref ea) none) Q E s1) E s := by
  unfold noteFrame
  simp only [fe]
  rcases tb with g | ⟨T, g, nT, kT, oT, ts, hT, dT, t3⟩
  · refine wpAny_bind (wpAny_field ge gd g ?_)
    rw [if_neg (by decide)]
    refine leave_entry fr ff fe ge gd (Array.getElem?_eq_some_iff.mp g).1 fun h' l => q h' ⟨fun b u hb _ => l.keep b u hb id, fun b u hb _ => l.slot b u hb id, l.there, l.tb⟩
  · refine wpAny_bind (wpAny_field ge gd g ?_)
    rw [if_pos (show (Value.ref T != Value.none) = true from by simp)]
    refine wpAny_bind (wpAny_field hT dT t3 ?_)
    rw [if_neg (show ¬ ((Value.none == rawInt L) = true) from by simp [rawInt])]
    refine wpAny_bind (wpAny_setField hT dT (Array.getElem?_eq_some_iff.mp t3).1 ?_)
    have oth : ∀ b, b ≠ T → (s.heap.update T (Obj.mapFields (·.setIfInBounds 3 Value.none))).get? b = s.heap.get? b := fun b hb => Heap.get?_update_other _ _ (Ne.symm hb)
    have self := Heap.get?_update_self (Obj.mapFields (·.setIfInBounds 3 Value.none)) hT (Obj.isFreed_of_fields (mf_data _ dT))
    have nrec : ∀ b u, s.heap.get? b = some u → (∀ ws, u.data ≠ .fields ws) → b ≠ T := fun b u hu hn z => by
      subst z
      rw [hT] at hu
      cases hu
      exact hn ts dT
    refine leave_entry fr (ff.of_keeps fun b u hu hn => ⟨u, (oth b (nrec b u hu hn)).trans hu, rfl⟩) fe ((oth ea (Ne.symm nT)).trans ge) gd (Array.getElem?_eq_some_iff.mp g).1 fun h' l => q h' ⟨fun b u hb hk hf hu => l.keep b u hb id hf ((oth b (fun z => hk (z ▸ kT))).trans hu), fun b u hb hk hu => l.slot b u hb id ((oth b (fun z => hk (z ▸ kT))).trans hu), fun b u hu => ?_, ?_⟩
    · by_cases hb : b = T
      · subst hb
        exact l.there b _ self
      · exact l.there b u ((oth b hb).trans hu)
    · obtain ⟨T2, h1, h2, h3⟩ := l.tb
      exact ⟨T2, by rw [Heap.size_after_update] at h1; exact h1, h2, h3⟩
end
end L2
set_option Elab.async false
set_option linter.all false
set_option maxRecDepth 100000
set_option maxHeartbeats 4000000
namespace L2
open PySem PySem.W
noncomputable abbrev newS : String := "ValueError.__new__"
structure XCls (K : Frag) (C : Addr) (bm : List Value) : Prop where
  obj : ∃ nm q N bs sn sub ab col dd k0 k1 k2 k3 k5, K.lookup C = some (excClassObj nm q C N bs bm true sn sub ab col dd k0 k1 k2 k3 k5 newS)
  hasV : bm.contains (.type "ValueError") = true
  hasB : bm.contains (.type "BaseException") = true
  noA : bm.contains (.type "AttributeError") = false
  noN : bm.contains (.type "NameError") = false
section
variable {prog : Program} {w : World} {A : Around} {E : Value → Shared → Prop} {R : Result → Shared → Prop} {h : Heap} {g : Array GenState} {d : Drawn} {t : Nat} {os : OsState}
variable {nm q : Str} {C N : Addr} {bs bm : List Value} {sn : List Str} {sub : List Value} {ab : Bool} {col : Option Bool} {dd : Option Addr} {k0 k1 k2 k3 k5 : Option Value}
theorem x_check (hV : bm.contains (.type "ValueError") = true) {rest : List Value} {Q : Unit → Shared → Prop} (hC : h.get? C = some (excClassObj nm q C N bs bm true sn sub ab col dd k0 k1 k2 k3 k5 newS)) (hq : Q () ⟨h, g, d, t, os⟩) :
    wpAny (model prog w) A (checkBuiltinCall newS ⟨.ref C :: rest, []⟩) Q E ⟨h, g, d, t, os⟩ := by
  have F := PySem.F.excBase_ValueError
  have hc : (Value.ref C :: bm).contains (.type "ValueError") = true := by rw [List.contains_cons, hV, Bool.or_true]
  have hs := F.noStar
  simp only [checkBuiltinCall, F.newKind, F.newSplit, F.newRow]
  repeat (first | refine wpAny_loadPart_at hC ?_ | (refine wpAny_isSubtype_exc hC ?_; rw [hc]) | refine wpAny_staticBase_exc hC ?_ | refine wpAny_madeBy_exc hC ?_ | simp only [bne_self_eq_false, Bool.false_eq_true, if_false] | wp_step)
  exact hq
theorem x_new (hV : bm.contains (.type "ValueError") = true) (hA : bm.contains (.type "AttributeError") = false) (hN : bm.contains (.type "NameError") = false) {rest : List Value} (hC : h.get? C = some (excClassObj nm q C N bs bm true sn sub ab col dd k0 k1 k2 k3 k5 newS))
    (hq : R (.ok (.ret (.ref (h.objs.size + 1)))) ⟨(h.push { cls := .type "tuple", data := .seq rest.toArray }).push { cls := .ref C, data := .fields #[.ref h.objs.size, .none, .none, .none, .bool false, .none] }, g, d, t, os⟩) (hl : rest.length ≤ sizeLine) :
    codeAny (model prog w) A (.builtin newS ⟨.ref C :: rest, []⟩) R ⟨h, g, d, t, os⟩ := by
  have F := PySem.F.excBase_ValueError
  have he := F.ends
  have c1 : (Value.ref C :: bm).contains (.type "ValueError") = true := by rw [List.contains_cons, hV, Bool.or_true]
  have c2 : (Value.ref C :: bm).contains (.type "AttributeError") = false := by rw [List.contains_cons, hA]; rfl
  have c3 : (Value.ref C :: bm).contains (.type "NameError") = false := by rw [List.contains_cons, hN]; rfl
  refine codeAny_builtinAt F.entry ?_
  unfold Builtin.«BaseException.__new__»
  refine PySem.wpAt_bind ?_
  show PySem.wpAt _ _ _ (stack >>= _) _ _ _
  refine PySem.wpAt_bind (PySem.wpAt_stack fun p below => PySem.wpAt_of_wpAny ?_)
  wp_walk
  refine PySem.wpAt_of_wpAny ?_
  rw [F.owner]
  repeat (first | with_reducible refine wpAny_madeHere_exc F.canon hC ?_ | with_reducible refine wpAny_loadPart_at hC ?_ | (with_reducible refine wpAny_isSubtype_exc hC ?_; first | rw [c1] | rw [c2] | rw [c3]) | wp_step)
  show R _ _
  rw [Heap.size_push]
  exact hq
theorem x_tcall {K : Frag} {fI : Addr} (KX : K.In h) (X : XCls K C bm) (hI : findIn K (.ref C) "__init__" = some (some (.ref fI))) (hf : typeIn K (.ref fI) = some (.type "function")) {rest : List Value} {Q : PySem.Fin → Shared → Prop} (hl : rest.length ≤ sizeLine)
    (hq : wpAny (model prog w) A (call (.ref fI) (.ref (h.objs.size + 1) :: rest)) (fun r s' => r = .none ∧ Q (.done (.ret (.ref (h.objs.size + 1)))) s') E ⟨((h.push { cls := .type "tuple", data := .seq rest.toArray }).push { cls := .ref C, data := .fields #[.ref h.objs.size, .none, .none, .none, .bool false, .none] }), g, d, t, os⟩) :
    wpAny (model prog w) A (Builtin.«type.__call__» ⟨.ref C :: rest, []⟩) Q E ⟨h, g, d, t, os⟩ := by
  obtain ⟨nm, q, N, bs, sn, sub, ab, col, dd, k0, k1, k2, k3, k5, hC'⟩ := X.obj
  have hC := KX _ _ hC'
  have F := PySem.F.excBase_ValueError
  repeat (first | with_reducible refine wpAny_loadPart_at hC ?_ | with_reducible refine wpAny_madeBy_exc hC ?_ | wp_step)
  refine codeAny_call_builtin_code (Code.quiet_builtin _ F.quiet) (x_check X.hasV hC ?_)
  refine x_new X.hasV X.noA X.noN hC ?_ hl
  show wpAny _ _ _ _ _ _
  have kp : ∀ b o, h.get? b = some o → ((h.push { cls := .type "tuple", data := .seq rest.toArray }).push { cls := .ref C, data := .fields #[.ref h.objs.size, .none, .none, .none, .bool false, .none] }).get? b = some o := fun b o e => Heap.get?_push_of_some _ (Heap.get?_push_of_some _ e)
  have hC2 := kp _ _ hC
  have KX2 : K.In ((h.push { cls := .type "tuple", data := .seq rest.toArray }).push { cls := .ref C, data := .fields #[.ref h.objs.size, .none, .none, .none, .bool false, .none] }) := KX.keeps kp
  have hget : ((h.push { cls := .type "tuple", data := .seq rest.toArray }).push { cls := .ref C, data := .fields #[.ref h.objs.size, .none, .none, .none, .bool false, .none] }).get? (h.objs.size + 1) = some { cls := .ref C, data := .fields #[.ref h.objs.size, .none, .none, .none, .bool false, .none] } := by heap_get
  have cC : (Value.ref C :: bm).contains (.ref C) = true := by simp
  unfold isInstance
  repeat (first | with_reducible refine wpAny_loadPart_at hget ?_ | (with_reducible refine wpAny_isSubtype_exc hC2 ?_; rw [cC]) | wp_step)
  show wpAny _ _ (typeLookup (.ref C) _) _ _ _
  refine (looks_findIn KX2 hI).here ?_
  refine wpAny_holding (wpAny_bind ((bind_fn KX2 _ hf).here ?_))
  refine wpAny_bind (wpAny_mono hq (fun r s' hr => ?_) fun _ _ x => x)
  obtain ⟨rfl, hQ⟩ := hr
  wp_walk
  exact hQ
theorem x_call {K : Frag} {fI : Addr} (KX : K.In h) (X : XCls K C bm) (hI : findIn K (.ref C) "__init__" = some (some (.ref fI))) (hf : typeIn K (.ref fI) = some (.type "function")) {rest : List Value} {Q : Value → Shared → Prop} (hl : rest.length ≤ sizeLine)
    (hq : wpAny (model prog w) (A.under (.builtin "type.__call__" ⟨.ref C :: rest, []⟩)) (call (.ref fI) (.ref (h.objs.size + 1) :: rest)) (fun r s' => r = .none ∧ Q (.ref (h.objs.size + 1)) s') E ⟨((h.push { cls := .type "tuple", data := .seq rest.toArray }).push { cls := .ref C, data := .fields #[.ref h.objs.size, .none, .none, .none, .bool false, .none] }), g, d, t, os⟩) :
    wpAny (model prog w) A (call (.ref C) rest) Q E ⟨h, g, d, t, os⟩ := by
  obtain ⟨nm, q, N, bs, sn, sub, ab, col, dd, k0, k1, k2, k3, k5, hC'⟩ := X.obj
  have hC := KX _ _ hC'
  have f1 := tc_lookup
  have f2 := tc_bind (.ref C)
  have hT : (⟨h, g, d, t, os⟩ : Shared).TypeIs (.ref C) "type" := ⟨_, hC, rfl⟩
  refine wpAny_call (codeAny_of_tree ?_)
  show wpAny _ _ (callAny (.ref C) _) _ _ _
  repeat (any_goals (first | assumption | with_reducible refine wpAny_loadPart_at hC ?_ | wp_step))
  refine ⟨rfl, ?_⟩
  exact codeAny_call_builtin_at (Code.quiet_builtin _ (by decide +kernel)) entry_typeCall (wpAny_check_type_call_sub hC (x_tcall KX X hI hf hl hq))
end
end L2
set_option Elab.async false
set_option linter.all false
set_option maxRecDepth 100000
set_option maxHeartbeats 4000000
namespace L2
open PySem PySem.W
section
variable {prog : Program} {w : World} {A : Around} {E : Value → Shared → Prop} {R : Result → Shared → Prop} {h : Heap} {g : Array GenState} {d : Drawn} {t : Nat} {os : OsState} {K : Frag} {C e : Addr} {bm : List Value} {o : Obj} {vs : Array Value}
theorem x_init (KX : K.In h) (X : XCls K C bm) (he : h.get? e = some o) (hc : o.cls = .ref C) (hd : o.data = .fields vs) {t0 : Addr} (h0 : vs[0]? = some (.ref t0)) {v : Value} {Q : Value → Shared → Prop}
    (hq : Q .none ⟨(h.push { cls := .type "tuple", data := .seq [v].toArray }).update e (Obj.mapFields (·.setIfInBounds 0 (.ref h.objs.size))), g, d, t, os⟩) :
    wpAny (model prog w) A (call (.builtin "ValueError.__init__") [.ref e, v]) Q E ⟨h, g, d, t, os⟩ := by
  obtain ⟨nm, q, N, bs, sn, sub, ab, col, dd, k0, k1, k2, k3, k5, hC'⟩ := X.obj
  have hC := KX _ _ hC'
  have F := PySem.F.excBase_ValueError
  have c1 : (Value.ref C :: bm).contains (.type "ValueError") = true := by rw [List.contains_cons, X.hasV, Bool.or_true]
  have hs := F.noStar
  have ck : ∀ Q' : Unit → Shared → Prop, Q' () ⟨h, g, d, t, os⟩ → ∀ A' E', wpAny (model prog w) A' (checkBuiltinCall "ValueError.__init__" ⟨[.ref e, v], []⟩) Q' E' ⟨h, g, d, t, os⟩ := by
    intro Q' hq' A' E'
    simp only [checkBuiltinCall, F.initKind, F.initSplit, F.initRow]
    repeat (first | (with_reducible refine wpAny_loadPart_at he ?_; rw [hc]) | with_reducible refine wpAny_loadPart_at hC ?_ | (with_reducible refine wpAny_isSubtype_exc hC ?_; rw [c1]) | wp_step)
    exact hq'
  refine wpAny_call (codeAny_call_builtin F.init.plain F.initEntry (ck _ ?_ _ _))
  unfold Builtin.«BaseException.__init__»
  dsimp only
  rw [if_neg (by simp)]
  unfold newTuple Builtin.BaseException.bexcPut
  have hz : 0 < vs.size := (Array.getElem?_eq_some_iff.mp h0).1
  have he1 := Heap.get?_push_of_some (h := h) { cls := .type "tuple", data := .seq [v].toArray } he
  refine wpAny_bind (wpAny_newObj_type (wpAny_bind (wpAny_bind (wpAny_field he1 hd h0 (wpAny_bind (wpAny_setField he1 hd hz ?_))))) (by show [v].toArray.size ≤ sizeLine; rw [List.size_toArray, sizeLine_eq]; simp))
  exact wpAny_letGo (wpAny_pure hq)
theorem x_raise {M : Model} {env : Env} {s : Shared} {x : Sem Value} {Q : Flow → Shared → Prop} (hh : A.handled = none)
    (hx : wpAny M A x (fun v s1 => ∃ e o vs C bm, v = .ref e ∧ XCls K C bm ∧ K.In s1.heap ∧ s1.heap.get? e = some o ∧ o.cls = .ref C ∧ o.data = .fields vs ∧ vs[1]? = some .none ∧ E (.ref e) s1) E s) :
    wpAny M A (raiseStmt env (some x) none) Q E s := by
  unfold raiseStmt
  refine wpAny_bind (wpAny_mono hx (fun v s1 h1 => ?_) fun _ _ x => x)
  obtain ⟨e, o, vs, C, bm, rfl, X, KX, he, hc, hd, h1, hE⟩ := h1
  obtain ⟨hp, g, d, tk, os⟩ := s1
  obtain ⟨nm, q, N, bs, sn, sub, ab, col, dd, k0, k1, k2, k3, k5, hC'⟩ := X.obj
  have hC := KX _ _ hC'
  have cB : (Value.ref C :: bm).contains (.type "BaseException") = true := by rw [List.contains_cons, X.hasB, Bool.or_true]
  obtain ⟨oc, od, odt, osl⟩ := o
  dsimp only at hc hd
  subst hc hd
  repeat (first | with_reducible refine wpAny_loadPart_at he ?_ | with_reducible refine wpAny_loadPart_at hC ?_ | (with_reducible refine wpAny_isSubtype_exc hC ?_; rw [cB]) | (with_reducible refine wpAny_field he rfl h1 ?_) | wp_step)
  exact wpAny_raiseNew_none hh hE
theorem x_get (KX : K.In h) (X : XCls K C bm) (ga : findIn K (.ref C) "__getattribute__" = some (some (.builtin "BaseException.__getattribute__"))) (gx : findIn K (.ref C) "__getattr__" = some none) {name : Str} (hn : findIn K (.ref C) name = some none)
    (he : h.get? e = some o) (hc : o.cls = .ref C) {dx : Addr} (hdx : o.dict = some dx) (hd : o.data = .fields vs) {mA : Str → Option Value} (hm : h.Ns1 dx mA) {v : Value} (hv : mA name = some v) (hh : handedIn v = true) {expr : Bool} {Q : Value → Shared → Prop} (hq : Q v ⟨h, g, d, t + 1, os⟩) :
    wpAny (model prog w) A (getAttr (.ref e) name expr) Q E ⟨h, g, d, t, os⟩ := by
  obtain ⟨nm, q, N, bs, sn, sub, ab, col, dd, k0, k1, k2, k3, k5, hC'⟩ := X.obj
  have hC := KX _ _ hC'
  have cB : (Value.ref C :: bm).contains (.type "BaseException") = true := by rw [List.contains_cons, X.hasB, Bool.or_true]
  have FB := PySem.F.excAttr_ValueError
  obtain ⟨oc, od, odt, osl⟩ := o
  dsimp only at hc hd hdx
  subst hc hd hdx
  have f3 := FB.ga.bind (.ref e)
  have hx0 : (expr && onTheHeap (Value.builtin "BaseException.__getattribute__")) = false := by cases expr <;> rfl
  have hx2 : (Value.builtin "BaseException.__getattribute__" == Value.builtin "object.__getattribute__") = false := by decide +kernel
  have hx1 : (onTheHeap (Value.ref C) && Value.builtin "BaseException.__getattribute__" == Value.builtin "object.__getattribute__") = false := by rw [hx2]; rfl
  unfold getAttr getAttrBy
  repeat (any_goals (first | assumption | with_reducible refine wpAny_loadPart_at he ?_ | with_reducible refine (looks_findIn KX ga).here ?_ | with_reducible refine (looks_findIn KX gx).here ?_ | wp_step))
  have hk : builtinKind "BaseException.__getattribute__" = some .slot := by decide +kernel
  have hsp : splitId "BaseException.__getattribute__" = some ("BaseException", "__getattribute__") := by decide +kernel
  have hargs := PySem.F.args_bexc_ga (.ref e) (.str name t)
  have ck : ∀ (Q' : Unit → Shared → Prop) (u : Nat), Q' () ⟨h, g, d, u, os⟩ → ∀ A' E', wpAny (model prog w) A' (checkBuiltinCall "BaseException.__getattribute__" ⟨[.ref e, .str name t], []⟩) Q' E' ⟨h, g, d, u, os⟩ := by
    intro Q' u hq' A' E'
    simp only [checkBuiltinCall, hk, hsp]
    refine wpAny_bind ?_
    unfold isInstance
    repeat (first | with_reducible refine wpAny_loadPart_at he ?_ | (with_reducible refine wpAny_isSubtype_exc hC ?_; rw [cB]) | wp_step)
    exact hq'
  refine codeAny_call_builtin FB.ga.plain PySem.F.entry_bexc_ga (ck _ _ ?_ _ _)
  obtain ⟨od, hod, hl⟩ := lookIn_ns hm
  have J : InstAt h e ⟨.ref C, some dx, .fields vs, osl⟩ C (some od) := ⟨he, rfl, rfl, hod⟩
  have hdI : hasDictIn K C = true := by unfold hasDictIn clsIn; rw [show List.lookup C K = _ from hC']; rfl
  have L0 := J.type (M := model prog w)
  have L1 := looks_find (M := model prog w) KX J (findObj_own hdI hn rfl (by rw [hl, hv]))
  unfold Builtin.«object.__getattribute__»
  refine wpAny_bind (wpAny_of_eq (a := (Value.ref e, [Value.str name t])) rfl ?_)
  refine wpAny_bind (wpAny_pure (wpAny_bind (L0.at (wpAny_bind (L1.at ?_)))))
  refine wpAny_pure ?_
  show wpAny _ _ (handedOut v) _ _ _
  rw [handedOut_of hh]
  exact wpAny_pure hq
theorem x_refuse (self : Value) (what : Str) : ∀ l : List Value, (∀ v ∈ l, ∃ a, v = Value.ref a) → ∀ r, refuseLoop self what (l ++ r) = refuseLoop self what r
  | [], _, _ => rfl
  | v :: l, h, r => by
    obtain ⟨a, rfl⟩ := h v List.mem_cons_self
    rw [List.cons_append, refuseLoop_ref, x_refuse self what l (fun v hv => h v (List.mem_cons_of_mem _ hv)) r]
noncomputable def XUp (bm : List Value) : Prop := ∃ l : List Value, (∀ v ∈ l, ∃ a, v = Value.ref a) ∧ bm = l ++ [.type "ValueError", .type "Exception", .type "BaseException", .type "object"]
theorem x_set (KX : K.In h) (X : XCls K C bm) (U : XUp bm) (sa : findIn K (.ref C) "__setattr__" = some (some (.builtin "object.__setattr__"))) {name : Str} (hn : findIn K (.ref C) name = some none)
    (he : h.get? e = some o) (hc : o.cls = .ref C) (hd : o.data = .fields vs) {mA : Str → Option Value} {ns : List Str} (hw : PySem.Within mA ns) (hz : ns.length ≤ 1000) (hm : (o.dict = none ∧ ∀ n, mA n = none) ∨ ∃ dx, o.dict = some dx ∧ dx ≠ e ∧ h.Ns1 dx mA) {v : Value} {Q : Unit → Shared → Prop}
    (hq : ∀ h' dx tk, (o.dict = some dx ∨ (o.dict = none ∧ h.objs.size ≤ dx)) → h'.get? e = some { o with dict := some dx } → dx ≠ e → h'.Ns1 dx (fun y => if y = name then some v else mA y) → (∀ b u, b ≠ e → b ≠ dx → h.get? b = some u → h'.get? b = some u) → Q () ⟨h', g, d, tk, os⟩) :
    wpAny (model prog w) A (setAttr (.ref e) name v) Q E ⟨h, g, d, t, os⟩ := by
  obtain ⟨nm, q, N, bs, sn, sub, ab, col, dd, k0, k1, k2, k3, k5, hC'⟩ := X.obj
  have hC := KX _ _ hC'
  obtain ⟨l, hl, hbm⟩ := U
  have SF := PySem.F.store_ValueError
  have hpass : refuseLoop (.ref e) "__setattr__" (.ref C :: bm) = pure () := by
    rw [refuseLoop_ref, hbm, x_refuse _ _ l hl]
    exact SF.passes (.ref e)
  have cO : (Value.ref C :: bm).contains (.type "object") = true := by rw [List.contains_cons, hbm]; simp
  obtain ⟨oc, od, odt, osl⟩ := o
  dsimp only at hc hd
  subst hc hd
  have f3 := SF.slot.bind (.ref e)
  have ck : ∀ (Q' : Unit → Shared → Prop) (u : Nat) (nv : Value), Q' () ⟨h, g, d, u, os⟩ → ∀ A' E', wpAny (model prog w) A' (checkBuiltinCall "object.__setattr__" ⟨[.ref e, nv, v], []⟩) Q' E' ⟨h, g, d, u, os⟩ := by
    intro Q' u nv hq' A' E'
    have ha := SF.args (.ref e) nv v
    simp only [checkBuiltinCall, SF.kind, SF.split]
    refine wpAny_bind ?_
    unfold isInstance
    repeat (first | with_reducible refine wpAny_loadPart_at he ?_ | (with_reducible refine wpAny_isSubtype_exc hC ?_; rw [cO]) | wp_step)
    exact hq'
  unfold setAttr callSpecial? specialOf
  repeat (any_goals (first | assumption | with_reducible refine wpAny_loadPart_at he ?_ | with_reducible refine (looks_findIn KX sa).here ?_ | wp_step))
  refine codeAny_call_builtin SF.slot.plain SF.entry (ck _ _ _ ?_ _ _)
  unfold Builtin.«object.__setattr__»
  repeat (first | rw [refuse_eq] | rw [hpass] | with_reducible refine wpAny_loadPart_at he ?_ | with_reducible refine wpAny_mroOf_exc hC ?_ | with_reducible refine (looks_findIn KX hn).here ?_ | wp_step)
  rcases hm with ⟨hdn, hmA⟩ | ⟨dx, hdx, hne, hns⟩
  · dsimp only at hdn
    subst hdn
    dsimp only
    rw [if_neg (by simp [typeHasDict])]
    have he1 : (h.push { cls := .type "dict", data := .dict #[] }).get? e = some ⟨.ref C, none, .fields vs, osl⟩ := Heap.get?_push_of_some _ he
    have nes : e ≠ h.objs.size := Nat.ne_of_lt (Heap.lt_size he)
    refine wpAny_bind (wpAny_alloc' ?_)
    refine wpAny_bind (wpAny_update' he1 ?_)
    refine wpAny_pure ?_
    have gd := (Heap.get?_update_ne (h.push { cls := .type "dict", data := .dict #[] }) h.objs.size e (fun o => { cls := o.cls, dict := some h.objs.size, data := o.data, slots := o.slots }) nes.symm).trans (Heap.get?_push_at rfl rfl)
    have nd : ((h.push { cls := .type "dict", data := .dict #[] }).update e fun o => { cls := o.cls, dict := some h.objs.size, data := o.data, slots := o.slots }).Ns h.objs.size (fun _ => none) := ⟨_, #[], _, gd, rfl, fun _ z => absurd z (by simp), fun _ => rfl⟩
    show wpAny _ _ (Builtin.ObjectAttr.storeInDict h.objs.size (.str name _) name v) _ _ _
    unfold Builtin.ObjectAttr.storeInDict Builtin.ObjectAttr.newKeyGuard
    refine wpAny_bind (wpAny_pure (wpAny_bind (wpAny_nsSet1 (Heap.Ns1.of_empty nd) fun h' hn' hs => ?_)))
    obtain ⟨oD, esD, epD, hoD, hdD, hcD⟩ := hn'.count (PySem.Within.cons name v PySem.Within.nil)
    refine wpAny_bind (wpAny_lookBehind hoD (by rw [hdD]; exact pastItsLine_dict (Nat.le_trans hcD (by rw [List.length_cons, List.length_nil, sizeLine_eq]; omega))) ?_)
    wp_walk
    have ge' : h'.get? e = some ⟨.ref C, some h.objs.size, .fields vs, osl⟩ := (hs.2 e nes).trans (Heap.get?_update_self _ he1 rfl)
    refine hq h' h.objs.size _ (.inr ⟨rfl, Nat.le_refl _⟩) ge' nes.symm ?_ (fun b u hb hbd hu => ?_)
    · obtain ⟨o', es, ep, e1, e2, e3, eu, e4⟩ := hn'
      exact ⟨o', es, ep, e1, e2, e3, eu, fun y => by rw [e4 y]; by_cases hy : y = name <;> simp [hy, hmA]⟩
    · exact (hs.2 b hbd).trans ((Heap.get?_update_ne _ _ _ _ hb).trans (Heap.get?_push_of_some _ hu))
  · dsimp only at hdx
    subst hdx
    dsimp only
    refine wpAny_pure ?_
    show wpAny _ _ (Builtin.ObjectAttr.storeInDict dx (.str name _) name v) _ _ _
    unfold Builtin.ObjectAttr.storeInDict Builtin.ObjectAttr.newKeyGuard
    refine wpAny_bind (wpAny_pure (wpAny_bind (wpAny_nsSet1 hns fun h' hn' hs => ?_)))
    obtain ⟨oD, esD, epD, hoD, hdD, hcD⟩ := hn'.count (PySem.Within.cons name v hw)
    refine wpAny_bind (wpAny_lookBehind hoD (by rw [hdD]; exact pastItsLine_dict (Nat.le_trans hcD (by rw [List.length_cons, sizeLine_eq]; omega))) ?_)
    wp_walk
    exact hq h' dx _ (.inl rfl) ((hs.2 e hne.symm).trans he) hne hn' (fun b u hb hbd hu => (hs.2 b hbd).trans hu)
theorem x_match (KX : K.In h) (X : XCls K C bm) (he : h.get? e = some o) (hc : o.cls = .ref C) {C' : Addr} {bm' : List Value} (X' : XCls K C' bm') {Q : Bool → Shared → Prop} (hq : Q ((Value.ref C :: bm).contains (.ref C')) ⟨h, g, d, t, os⟩) :
    wpAny (model prog w) A (excMatches (.ref e) (.ref C')) Q E ⟨h, g, d, t, os⟩ := by
  obtain ⟨nm, q, N, bs, sn, sub, ab, col, dd, k0, k1, k2, k3, k5, hC'⟩ := X.obj
  have hC := KX _ _ hC'
  obtain ⟨nm', q', N', bs', sn', sub', ab', col', dd', l0, l1, l2, l3, l5, hD'⟩ := X'.obj
  have hD := KX _ _ hD'
  have cB : (Value.ref C' :: bm').contains (.type "BaseException") = true := by rw [List.contains_cons, X'.hasB, Bool.or_true]
  have f := tc_notTuple
  generalize hb : (Value.ref C :: bm).contains (.ref C') = b at hq
  unfold excMatches
  repeat (first | (with_reducible refine wpAny_loadPart_at he ?_; rw [hc]) | with_reducible refine wpAny_loadPart_at hD ?_ | (with_reducible refine wpAny_isSubtype_exc hD ?_; rw [cB]) | (with_reducible refine wpAny_isSubtype_exc hC ?_; rw [hb]) | wp_step)
  cases b <;> (wp_walk; exact hq)
end
end L2
set_option Elab.async false
set_option linter.all false
set_option maxRecDepth 100000
set_option maxHeartbeats 4000000
namespace L2
open PySem PySem.Spec PyProof.Rows PySem.W
noncomputable def XFp (e C : Addr) (dx : Option Addr) (fr : Bool) (h : Heap) : Prop := ∃ o vs t0 x, h.get? e = some o ∧ o.cls = .ref C ∧ o.dict = dx ∧ o.data = .fields vs ∧ vs[0]? = some (Value.ref t0) ∧ vs[1]? = some x ∧ (fr = true → x = .none) ∧ vs[2]? = some Value.none
noncomputable def XF (e C : Addr) (dx : Option Addr) (fr : Bool) : HO := .ext (XFp e C dx fr)
theorem XFp.on {e C : Addr} {dx : Option Addr} {fr : Bool} {h h' : Heap} (x : XFp e C dx fr h) (k : ∀ o, h.get? e = some o → h'.get? e = some o) : XFp e C dx fr h' := by
  obtain ⟨o, vs, t0, y, a, b⟩ := x
  exact ⟨o, vs, t0, y, k o a, b⟩
theorem xf_ok {P : Program} {w : World} {H : Hp} {h : Heap} {e C : Addr} {dx : Option Addr} {fr : Bool} (x : XFp e C dx fr h) : ObjOk P w H h e (XF e C dx fr) := ⟨x, let ⟨o, _, _, _, a, _⟩ := x; ⟨o, a⟩, fun _ _ z k => z.on k⟩
theorem xf_of {P : Program} {w : World} {H : Hp} {h : Heap} {e C : Addr} {dx : Option Addr} {fr : Bool} (ok : HOk P w H h) (a : H e = some (XF e C dx fr)) : XFp e C dx fr h := (ok e _ a).1
theorem upd_self {H : Hp} {a : Addr} {o : HO} (h : H a = some o) : upd H a o = H := by
  funext b
  by_cases e : b = a
  · subst e; rw [upd_same, h]
  · rw [upd_ne e]
noncomputable def TbOf (s : Shared) (ea : Addr) (H' : Hp) (h : Heap) : Prop := ∃ o vs T, h.get? ea = some o ∧ o.data = .fields vs ∧ vs[1]? = some (Value.ref T) ∧ T ≠ ea ∧ s.heap.objs.size ≤ T ∧ H' T = none ∧ TbIs h T
noncomputable def CXo (P : Program) (w : World) : CXT := fun outer H s E e s' => ∃ ea C dx H', e = .ref ea ∧ H' ea = some (XF ea C dx false) ∧ s'.os = s.os ∧ AllBare s'.gens ∧ Un (frs outer) [] H H' s.heap s'.heap ∧ HOk P w H' s'.heap ∧ TbOf s ea H' s'.heap ∧ E (.ref C) (some ea) H'
section
variable {X : Cx} {pins : List (Addr × Obj)} {σ : St} {H : Hp} {s : Shared}
noncomputable def TOk (X : Cx) (pins : List (Addr × Obj)) (H : Hp) (T : Addr) : Prop := X.s₀.heap.objs.size ≤ T ∧ T ≠ X.env.locals ∧ (∀ x c, X.env.cells.lookup x = some c → c ≠ T) ∧ (∀ p ∈ X.pn ++ pins, p.1 ≠ T) ∧ H T = none
theorem inv_left {h' : Heap} {ea C : Addr} {dx : Option Addr} {fr : Bool} {o : Obj} {ok : Addr → Prop} {ch : List Addr} (I : Inv X pins σ H s) (hx : H ea = some (XF ea C dx fr)) (ge : s.heap.get? ea = some o) (l : Left (frs X.stack) ea o ok s.heap h') (hok : ∀ T, ok T → T ∈ ch) (hch : ∀ T ∈ ch, TOk X pins H T) (hnew : fr = false) :
    Inv X pins σ H { s with heap := h' } := by
  subst hnew
  have ntr : ∀ b u, H b = some u → ¬ ok b := fun b u e z => by rw [(hch b (hok b z)).2.2.2.2] at e; cases e
  have nfr : ∀ b u, H b = some u → b ∉ frs X.stack := fun b u e z => by rw [I.stkFree b z] at e; cases e
  have hk : HOk X.prog X.w H h' := fun a u e => by
    by_cases ha : a = ea
    · subst ha
      rw [hx] at e
      cases e
      obtain ⟨o', vs, t0, y, a1, a2, a3, a4, a5, a6, _, a8⟩ := xf_of I.hok hx
      rw [ge] at a1
      cases a1
      obtain ⟨T, _, _, gT⟩ := l.tb
      refine xf_ok ⟨_, _, t0, .ref T, gT, ?_, ?_, mf_data _ a4, ?_, ?_, (fun z => by cases z), ?_⟩
      · rw [Obj.cls_mapFields]; exact a2
      · rw [mf_dict]; exact a3
      · rw [Array.getElem?_setIfInBounds_ne (by decide)]; exact a5
      · have := (Array.getElem?_eq_some_iff.mp a6).1
        simp [this]
      · rw [Array.getElem?_setIfInBounds_ne (by decide)]; exact a8
    · refine (I.hok a u e).stay (fun b v hb q => ?_) (fun _ q => q) fun _ _ q => q
      rcases hb with rfl | hb
      · exact l.keep b v ha (ntr b u e) (nfr b u e) q
      · refine l.keep b v (fun z => ?_) (ntr b _ hb) (nfr b _ hb) q
        rw [z, hx] at hb
        cases hb
  refine I.step (g' := s.gens) (d' := s.drawn) (t' := s.toks) (ch := ch) (fun b hb => ⟨.inr (hch b hb).1, (hch b hb).2.1, (hch b hb).2.2.1, (hch b hb).2.2.2.1⟩) (fun b u hL hf hc e n => ?_) (fun b u hL hf hc e n => ?_) (fun _ _ _ _ n => n) (fun b u hc e => l.there b u e) (fun _ _ e => e) (fun _ _ _ e => e) (fun b ps e => ⟨#[], by rw [e]; simp⟩) (fun m hm => ?_) hk I.bare
  · refine l.keep b u (fun z => by rw [z, hx] at n; cases n) (fun z => hc (hok b z)) (fun z => ?_) e
    rcases List.mem_cons.mp (I.stkSub b z) with z | z
    · exact hL z
    · exact hf z
  · exact l.slot b u (fun z => by rw [z, hx] at n; cases n) (fun z => hc (hok b z)) e
  · obtain ⟨u, es, ep, e, r⟩ := hm
    obtain ⟨sl, e2⟩ := l.slot _ u (fun z => by have := I.free; rw [z, hx] at this; cases this) (fun z => (hch _ (hok _ z)).2.1 rfl) e
    exact ⟨_, es, ep, e2, r⟩
theorem tok_new {T : Addr} (I : Inv X pins σ H s) (h : s.heap.objs.size ≤ T) {H' : Hp} (hn : H' T = none) : TOk X pins H' T := by
  refine ⟨Nat.le_trans I.sz h, fun z => ?_, fun x c e z => ?_, fun p hp z => ?_, hn⟩
  · rw [z] at h; exact absurd I.lt (Nat.not_lt.mpr h)
  · obtain ⟨v, o, ho, _⟩ := I.cell x c e
    rw [z] at ho
    exact absurd (Heap.lt_size ho) (Nat.not_lt.mpr h)
  · obtain ⟨hp1, _⟩ := I.pin p hp
    rw [z] at hp1
    exact absurd (Heap.lt_size hp1) (Nat.not_lt.mpr h)
theorem tb_left {ea : Addr} {o : Obj} {vs : Array Value} {ok : Addr → Prop} {fs : List Addr} {h' : Heap} (I : Inv X pins σ H s) (ge : s.heap.get? ea = some o) (gd : o.data = .fields vs) (g1 : 1 < vs.size) (l : Left fs ea o ok s.heap h') : TbOf s ea H h' := by
  obtain ⟨T, h1, h2, h3⟩ := l.tb
  exact ⟨_, _, T, h3, mf_data _ gd, by simp [g1], fun z => absurd (Heap.lt_size ge) (by rw [← z]; exact Nat.not_lt.mpr h1), h1, I.hok.fresh h1, h2⟩
end
section
variable {P : Program} {w : World} {K : Frag} {mg : Str → Option Value} {base : Heap} {N : List Str} {qual : Str} {scope : Scope} {f : Addr} {cd : Value} {A : Around} {outer : List Env} {s : Shared} {H : Hp} {E : XK}
theorem xe_of {pins : List (Addr × Obj)} {σ : St} {H' : Hp} {s2 : Shared} {ea C : Addr} {dx : Option Addr} (I : Inv (cxOf (CXo P w) P w K mg base N qual scope f cd A outer s H E) pins σ H' s2) (hx : H' ea = some (XF ea C dx false))
    (tb : ∀ vs o, s2.heap.get? ea = some o → o.data = .fields vs → vs[1]? = some .none ∨ ∃ T, vs[1]? = some (.ref T) ∧ T ≠ ea ∧ TOk (cxOf (CXo P w) P w K mg base N qual scope f cd A outer s H E) pins H' T ∧ TbIs s2.heap T) (hE : E (.ref C) (some ea) H') :
    (cxOf (CXo P w) P w K mg base N qual scope f cd A outer s H E).xe (.ref ea) s2 := by
  obtain ⟨o, vs, t0, y, a1, a2, a3, a4, a5, a6, _⟩ := xf_of I.hok hx
  have g1 := (Array.getElem?_eq_some_iff.mp a6).1
  show wpAny _ _ (leaving _ (.ref ea)) _ _ s2
  have fin : ∀ (ok : Addr → Prop) (ch : List Addr) (h' : Heap), (∀ T, ok T → T ∈ ch) → (∀ T ∈ ch, TOk (cxOf (CXo P w) P w K mg base N qual scope f cd A outer s H E) pins H' T) → Left (frs (cxOf (CXo P w) P w K mg base N qual scope f cd A outer s H E).stack) ea o ok s2.heap h' → CXo P w outer H s E (.ref ea) { s2 with heap := h' } := fun ok ch h' hok hch l => by
    have I2 := inv_left I hx a1 l hok hch rfl
    refine ⟨ea, C, dx, H', rfl, hx, I2.os, I2.bare, I2.base, I2.hok, ?_, hE⟩
    obtain ⟨o2, vs2, T, b1, b2, b3, b4, b5, b6, b7⟩ := tb_left I a1 a4 g1 l
    exact ⟨o2, vs2, T, b1, b2, b3, b4, Nat.le_trans I.sz b5, b6, b7⟩
  refine wpAny_bind ?_
  rcases tb vs o a1 a4 with z | ⟨T, z1, z2, z3, z4⟩
  · exact leave_any (ok := fun _ => False) I.ok.frames I.stack rfl a1 a4 (.inl z) fun h' l => fin _ [] h' (fun _ z => z.elim) (fun _ z => absurd z List.not_mem_nil) l
  · exact leave_any (ok := fun b => b = T) I.ok.frames I.stack rfl a1 a4 (.inr ⟨T, z1, z2, rfl, z4⟩) fun h' l => fin _ [T] h' (fun _ z => List.mem_singleton.mpr z) (fun b z => by rw [List.mem_singleton.mp z]; exact z3) l
theorem passX : Passes (CXo P w) (cxOf (CXo P w) P w K mg base N qual scope f cd A outer s H E) E := by
  intro pins σ H1 s1 e s2 I h
  obtain ⟨ea, C, dx, H', rfl, hx, os, bare, un, hok, tb, hE⟩ := h
  have I2 := I.call' (ch := []) os un hok bare (fun _ z => absurd z List.not_mem_nil)
  obtain ⟨o, vs, T, b1, b2, b3, b4, b5, b6, b7⟩ := tb
  refine xe_of I2 hx (fun vs' o' c1 c2 => .inr ⟨T, ?_, b4, ?_, b7⟩) hE
  · rw [b1] at c1; cases c1
    rw [b2] at c2; cases c2
    exact b3
  · exact tok_new I b5 b6
end
end L2
set_option Elab.async false
set_option linter.all false
set_option maxRecDepth 100000
set_option maxHeartbeats 4000000
namespace L2
open PySem PySem.Spec PyProof.Rows PySem.W
section
variable {X : Cx} {pins : List (Addr × Obj)} {σ : St} {H : Hp} {s : Shared} {pos apos np : Pos} {a b o e value : Expr} {es : List Expr} {t : TA} {te ta tv : TE} {f x : Str}
theorem boot_ValueError : bootBuiltins "ValueError" = some (.type "ValueError") := by rfl
noncomputable def tBInit (K : Frag) (t : TA) : TE := fun σ H Q => t σ H fun vs H2 => ∃ e C dx fr bm y, vs = [.ref e, y] ∧ H2 e = some (XF e C dx fr) ∧ XCls K C bm ∧ Q .non H2
theorem pe_binit {pl : Sem Bool} (hg : Gl X "ValueError") (hm : X.mg "ValueError" = none) (ha : PA X [a, b] t) (hst : starEach [a, b] X.env = (false, eval a X.env) :: starEach [b] X.env := by rfl) (hpl : (backTo pos (starEach [b] X.env)).any (·.1) = false := by rfl)
    (ht : eval (.Call (.Attribute (.Name "ValueError" np) "__init__" apos) [a, b] [] pos) X.env = (do
      let ov ← eval (.Name "ValueError" np) X.env
      standAt apos.atName
      let (f, first) ← holding [ov] (getMethod ov "__init__" pl)
      callWith pos f first (backTo pos (starEach [a, b] X.env)) (backToKw pos (keywordEach [] X.env))) := by rfl) :
    PE X (.Call (.Attribute (.Name "ValueError" np) "__init__" apos) [a, b] [] pos) (tBInit X.K t) := by
  intro pins s σ H Q I h
  refine PySem.W.methodCall_KW (pl := pl) (thn ((pe_bty (X := X) (pos := np) hg hm boot_ValueError) pins s σ H (fun v H1 => v = .ty "ValueError" ∧ H1 = H) I ⟨rfl, rfl⟩) fun u s1 ⟨y, H1, I1, ry, e1, e2⟩ => ?_) ht
  subst e1 e2
  obtain rfl : u = Value.type "ValueError" := ry
  obtain ⟨m, F⟩ := I1.fr
  refine method_type F I1.ok.mod.kin (by kernel_rfl) (by decide +kernel) (v := .builtin "ValueError.__init__") (by kernel_rfl) (by decide +kernel) ?_
  have I2 := I1.tok (s1.toks + 1)
  refine callWith_builtin1 (thn (ha pos pins _ σ H1 _ I2 h) fun us s2 ⟨vs, H2, I3, r, q⟩ => ?_) hst hpl
  obtain ⟨ea, C, dx, fr, bm, y, rfl, hx, Xc, q⟩ := q
  obtain ⟨u1, us1, rfl, r1, r2⟩ : ∃ u1 us1, us = u1 :: us1 ∧ RelV (.ref ea) u1 ∧ Vals [y] us1 := by cases r with | cons p q => exact ⟨_, _, rfl, p, q⟩
  obtain ⟨u2, rfl, r3⟩ := r2.one
  obtain rfl : u1 = Value.ref ea := r1
  obtain ⟨ob, ws, t0, z, a1, a2, a3, a4, a5, a6, a7, a8⟩ := xf_of I3.hok hx
  obtain ⟨hp, g, d, tk, os⟩ := s2
  refine x_init I3.kIn Xc a1 a2 a4 a5 ?_
  refine ⟨.non, H2, ?_, rfl, q⟩
  have k1 : ∀ b u, b ≠ ea → hp.get? b = some u → ((hp.push { cls := .type "tuple", data := .seq [u2].toArray }).update ea (Obj.mapFields (·.setIfInBounds 0 (.ref hp.objs.size)))).get? b = some u := fun b u hb hu => by
    rw [Heap.get?_update_other _ _ (Ne.symm hb)]
    exact Heap.get?_push_of_some _ hu
  have k2 := Heap.get?_update_self (Obj.mapFields (·.setIfInBounds 0 (.ref hp.objs.size))) (Heap.get?_push_of_some { cls := .type "tuple", data := .seq [u2].toArray } a1) (Obj.isFreed_of_fields (mf_data _ a4))
  have sz0 := (Array.getElem?_eq_some_iff.mp a5).1
  have := I3.write (t' := tk) (o := XF ea C dx fr) (x := ea) (e := ea) (by rw [hx]; exact True.intro) (.inl rfl) k1 ⟨_, k2⟩ (xf_ok ⟨_, _, hp.objs.size, z, k2, by rw [Obj.cls_mapFields]; exact a2, by rw [mf_dict]; exact a3, mf_data _ a4, by simp [sz0], by rw [Array.getElem?_setIfInBounds_ne (by decide)]; exact a6, a7, by rw [Array.getElem?_setIfInBounds_ne (by decide)]; exact a8⟩)
  rw [upd_self hx] at this
  exact this
structure XAttr (K : Frag) (C : Addr) : Prop where
  ga : findIn K (.ref C) "__getattribute__" = some (some (.builtin "BaseException.__getattribute__"))
  gx : findIn K (.ref C) "__getattr__" = some none
  sa : findIn K (.ref C) "__setattr__" = some (some (.builtin "object.__setattr__"))
noncomputable def tXSet (K : Frag) (ta tv : TE) (f : Str) : TS := fun D σ H => tv σ H fun y H1 => ta σ H1 fun x H2 => ∃ e C bm fr, x = .ref e ∧ XCls K C bm ∧ XUp bm ∧ XAttr K C ∧ NoAttr K C f ∧
  ((H2 e = some (XF e C none fr) ∧ ∀ dx, H2 dx = none → dx ≠ e → D.nx σ (upd (upd H2 dx (.xd [(f, y)])) e (XF e C (some dx) fr))) ∨ (∃ dx fs, H2 e = some (XF e C (some dx) fr) ∧ H2 dx = some (.xd fs) ∧ fs.length ≤ 900 ∧ D.nx σ (upd H2 dx (.xd (putF f y fs)))))
theorem within_of {mA : Str → Option Value} {fs : List (Str × V)} (h : ∀ f, RelO (fs.lookup f) (mA f)) : PySem.Within mA (fs.map (·.1)) := fun y hy => by
  cases e : fs.lookup y with
  | none =>
    have := h y
    rw [e] at this
    exact absurd (RelO.none_of this) hy
  | some v =>
    have := List.mem_map_of_mem (f := (·.1)) (PySem.mem_of_lookup e)
    exact this
theorem ps_xset (ha : PE X o ta) (hv : PE X value tv) (hs : swapsWith value (some (.Attribute o f apos)) pos.line X.env = pure false := by rfl) : PS X (.Assign [.Attribute o f apos] value pos) (tXSet X.K ta tv f) := by
  intro pins s σ H D I h
  refine plainObj_wpAny_Assign_Attribute (thn (hv pins s σ H _ I h) fun u s1 ⟨y, H1, I1, ry, q⟩ => thn (ha pins s1 σ H1 _ I1 q) fun ov s2 ⟨x, H2, I2, rx, ea, C, bm, fr, ex, Xc, U, Xa, n, q2⟩ => ?_) hs
  subst ex
  obtain rfl : ov = Value.ref ea := rx
  obtain ⟨hp, g, d, tk, os⟩ := s2
  rcases q2 with ⟨hx, q3⟩ | ⟨dx, fs, hx, hd, hl, q3⟩
  · obtain ⟨ob, ws, t0, z, a1, a2, a3, a4, a5, a6, a7⟩ := xf_of I2.hok hx
    refine x_set (mA := fun _ => none) (ns := []) I2.kIn Xc U Xa.sa n a1 a2 a4 (fun y hy => absurd rfl hy) (by simp) (.inl ⟨a3, fun _ => rfl⟩) fun h' dx tk' hdx g1 g2 g3 g4 => ?_
    have hsz : hp.objs.size ≤ dx := by
      rcases hdx with z | z
      · rw [a3] at z; cases z
      · exact z.2
    refine ⟨σ, _, ?_, q3 dx (I2.hok.fresh hsz) g2⟩
    have gg : ∀ b u, b ≠ ea → hp.get? b = some u → h'.get? b = some u := fun b u hb hu => g4 b u hb (Nat.ne_of_lt (Nat.lt_of_lt_of_le (Heap.lt_size hu) hsz)) hu
    have hfree := I2.hok.fresh hsz
    have okd : ObjOk X.prog X.w (upd (upd H2 dx (.xd [(f, y)])) ea (XF ea C (some dx) fr)) h' dx (.xd [(f, y)]) := ⟨_, g3, fun k => by
      by_cases hk : k = f
      · subst hk
        simp only [List.lookup, beq_self_eq_true, if_true]
        exact ry
      · have hb : (k == f) = false := beq_eq_false_iff_ne.mpr hk
        simp only [List.lookup, hb, if_neg hk]
        exact trivial⟩
    have okh : HOk X.prog X.w (upd (upd H2 dx (.xd [(f, y)])) ea (XF ea C (some dx) fr)) h' := fun b v hb => by
      by_cases h1 : b = ea
      · subst h1
        rw [upd_same] at hb
        cases hb
        exact xf_ok ⟨_, ws, t0, z, g1, a2, rfl, a4, a5, a6, a7⟩
      · rw [upd_ne h1] at hb
        by_cases h2 : b = dx
        · subst h2
          rw [upd_same] at hb
          cases hb
          exact okd
        · rw [upd_ne h2] at hb
          have nd : ∀ c u, H2 c = some u → c ≠ dx := fun c u hc z => by rw [z, hfree] at hc; cases hc
          refine (I2.hok b v hb).stay (fun c w' hc qq => gg c w' ?_ qq) (fun c qq => ?_) fun c xs qq => ?_
          · rcases hc with rfl | hc
            · exact h1
            · exact fun zz => by rw [zz, hx] at hc; cases hc
          · rw [upd_ne (fun zz => by rw [zz, hx] at qq; cases qq), upd_ne (nd c _ qq)]; exact qq
          · rw [upd_ne (fun zz => by rw [zz, hx] at qq; cases qq), upd_ne (nd c _ qq)]; exact qq
    refine I2.un (t' := tk') ?_ okh
    refine ⟨fun b u e n hb hx' => gg b u (fun zz => by rw [zz, hx] at n; cases n) e, fun b u e n hb hx' => ⟨u.slots, gg b u (fun zz => by rw [zz, hx] at n; cases n) e⟩, fun b u e n hx' => ?_, fun b u e hx' => ?_, fun b xs e => ?_, fun b u xs e => ?_, fun b ps e => ⟨#[], ?_⟩⟩
    · rw [upd_ne (fun zz => by rw [zz, hx] at n; cases n), upd_ne (Nat.ne_of_lt (Nat.lt_of_lt_of_le (Heap.lt_size e) hsz))]; exact n
    · by_cases h1 : b = ea
      · subst h1; exact ⟨_, g1⟩
      · exact ⟨u, gg b u h1 e⟩
    · rw [upd_ne (fun zz => by rw [zz, hx] at e; cases e), upd_ne (fun zz => by rw [zz, hfree] at e; cases e)]; exact e
    · rw [upd_ne (fun zz => by rw [zz, hx] at e; cases e), upd_ne (fun zz => by rw [zz, hfree] at e; cases e)]; exact e
    · rw [upd_ne (fun zz => by rw [zz, hx] at e; cases e), upd_ne (fun zz => by rw [zz, hfree] at e; cases e), e]; simp
  · obtain ⟨ob, ws, t0, z, a1, a2, a3, a4, a5, a6, a7⟩ := xf_of I2.hok hx
    obtain ⟨mA, hm, hr⟩ := (show ObjOk X.prog X.w H2 hp dx (.xd fs) from I2.hok dx _ hd)
    have hne : dx ≠ ea := fun zz => by rw [zz, hx] at hd; cases hd
    refine x_set (mA := mA) (ns := fs.map (·.1)) I2.kIn Xc U Xa.sa n a1 a2 a4 (within_of hr) (by rw [List.length_map]; omega) (.inr ⟨dx, a3, hne, hm⟩) fun h' dx' tk' hdx g1 g2 g3 g4 => ?_
    obtain rfl : dx' = dx := by
      rcases hdx with z | z
      · rw [a3] at z; exact (Option.some.inj z).symm
      · rw [a3] at z; cases z.1
    refine ⟨σ, _, ?_, q3⟩
    have gg : ∀ b u, b ≠ dx' → hp.get? b = some u → h'.get? b = some u := fun b u hb hu => by
      by_cases h1 : b = ea
      · subst h1
        rw [a1] at hu
        cases hu
        rw [g1, ← a3]
      · exact g4 b u h1 hb hu
    have nw : ObjOk X.prog X.w (upd H2 dx' (.xd (putF f y fs))) h' dx' (.xd (putF f y fs)) := ⟨_, g3, fun k => by
      rw [lookup_putF]
      by_cases hk : k = f
      · rw [if_pos hk, if_pos hk]
        exact ry
      · rw [if_neg hk, if_neg hk]
        exact hr k⟩
    have okh : HOk X.prog X.w (upd H2 dx' (.xd (putF f y fs))) h' := fun b v hb => by
      by_cases h1 : b = dx'
      · subst h1
        rw [upd_same] at hb
        cases hb
        exact nw
      · rw [upd_ne h1] at hb
        refine (I2.hok b v hb).stay (fun c w' hc qq => gg c w' ?_ qq) (fun c qq => ?_) fun c xs qq => ?_
        · rcases hc with rfl | hc
          · exact h1
          · exact fun zz => by rw [zz, hd] at hc; cases hc
        · rw [upd_ne (fun zz => by rw [zz, hd] at qq; cases qq)]; exact qq
        · rw [upd_ne (fun zz => by rw [zz, hd] at qq; cases qq)]; exact qq
    refine I2.un (t' := tk') ?_ okh
    refine ⟨fun b u e n hb hx' => gg b u (fun zz => by rw [zz, hd] at n; cases n) e, fun b u e n hb hx' => ⟨u.slots, gg b u (fun zz => by rw [zz, hd] at n; cases n) e⟩, fun b u e n hx' => ?_, fun b u e hx' => ?_, fun b xs e => ?_, fun b u xs e => ?_, fun b ps e => ⟨#[], ?_⟩⟩
    · rw [upd_ne (fun zz => by rw [zz, hd] at n; cases n)]; exact n
    · by_cases h1 : b = dx'
      · subst h1
        exact let ⟨u, _, _, e, _⟩ := g3; ⟨u, e⟩
      · exact ⟨u, gg b u h1 e⟩
    · rw [upd_ne (fun zz => by rw [zz, hd] at e; cases e)]; exact e
    · rw [upd_ne (fun zz => by rw [zz, hd] at e; cases e)]; exact e
    · rw [upd_ne (fun zz => by rw [zz, hd] at e; cases e), e]; simp
noncomputable def tXGet (K : Frag) (ta : TE) (f : Str) : TE := fun σ H Q => ta σ H fun x H1 => ∃ e C bm dx fs fr v, x = .ref e ∧ H1 e = some (XF e C (some dx) fr) ∧ XCls K C bm ∧ XAttr K C ∧ NoAttr K C f ∧ H1 dx = some (.xd fs) ∧ fs.lookup f = some v ∧ Q v H1
theorem pe_xget (he : PE X e ta) (hb : attributeBase e f X.env (eval e X.env) = eval e X.env := by rfl) : PE X (.Attribute e f pos) (tXGet X.K ta f) := by
  intro pins s σ H Q I h
  refine attr_of hb (thn (he pins s σ H _ I h) fun u s1 ⟨x, H1, I1, rx, ea, C, bm, dx, fs, fr, v, ex, hx, Xc, Xa, n, hd, l, q⟩ => ?_)
  subst ex
  obtain rfl : u = Value.ref ea := rx
  obtain ⟨hp, g, d, tk, os⟩ := s1
  obtain ⟨ob, ws, t0, z, a1, a2, a3, a4, a5, a6, a7⟩ := xf_of I1.hok hx
  obtain ⟨mA, hm, hr⟩ := (show ObjOk X.prog X.w H1 hp dx (.xd fs) from I1.hok dx _ hd)
  obtain ⟨u, hu, ru⟩ := RelO.some_of (v := v) (o := mA f) (by rw [← l]; exact hr f)
  exact x_get I1.kIn Xc Xa.ga Xa.gx n a1 a2 a3 a4 hm hu (handed_of ru) ⟨v, H1, I1.tok _, ru, q⟩
end
end L2
set_option Elab.async false
set_option linter.all false
set_option maxRecDepth 100000
set_option maxHeartbeats 4000000
namespace L2
open PySem PySem.Spec PyProof.Rows PySem.W
section
variable {X : Cx} {CX : CXT} {k : Nat} {f C : Addr} {fd : FuncData} {ps : List Str} {sp : Sp} {dvs : List V} {ds : List Value} {E : XK} {x m : Str} {p pos apos np : Pos} {e o : Expr} {es : List Expr} {ta te : TE} {t : TA} {bm : List Value}
structure XMk (K : Frag) (C : Addr) (bm : List Value) (f : Addr) : Prop where
  cls : XCls K C bm
  init : findIn K (.ref C) "__init__" = some (some (.ref f))
  fn : typeIn K (.ref f) = some (.type "function")
  kp : keepIn K (.ref C) = true
theorem run_exc {pins : List (Addr × Obj)} {σ : St} {H : Hp} {s : Shared} {Q : VK} {us : List Value} {vs : List V} (M : XMk X.K C bm f) (F : FnOk X.prog X.w X.K X.mg X.base CX k f fd ps sp) (hr : Room (k + 1) X.A) (hb : Binds X.K fd ps ds) (hd : Vals dvs ds)
    (hx : Passes CX X E) (I : Inv X pins σ H s) (r : Vals vs us) (hl0 : us.length ≤ 1000)
    (h : ∀ e, H e = none → sp (.ref e :: (vs ++ dvs)) (upd H e (XF e C none true)) (fun v H2 => v = .non ∧ Q (.ref e) H2) E) :
    wpAny (model X.prog X.w) X.A (call (.ref C) us) (EP X pins σ Q) X.xe s := by
  obtain ⟨hp, g, d, tk, os⟩ := s
  have hq := h (hp.objs.size + 1) (I.hok.fresh (Nat.le_succ _))
  have I2 : Inv X pins σ (upd H (hp.objs.size + 1) (XF (hp.objs.size + 1) C none true)) ⟨(hp.push { cls := .type "tuple", data := .seq us.toArray }).push { cls := .ref C, data := .fields #[.ref hp.objs.size, .none, .none, .none, .bool false, .none] }, g, d, tk, os⟩ := by
    refine I.laid (t' := tk) (fun b u e => Heap.get?_push_of_some _ (Heap.get?_push_of_some _ e)) (Nat.le_succ _) (xf_ok ⟨{ cls := .ref C, data := .fields #[.ref hp.objs.size, .none, .none, .none, .bool false, .none] }, #[.ref hp.objs.size, .none, .none, .none, .bool false, .none], hp.objs.size, .none, ?_, rfl, rfl, rfl, rfl, rfl, (fun _ => rfl), rfl⟩)
    heap_get
  have r2 : Vals (V.ref (hp.objs.size + 1) :: (vs ++ dvs)) (Value.ref (hp.objs.size + 1) :: (us ++ ds)) := .cons rfl (r.append hd)
  have hl : (Value.ref (hp.objs.size + 1) :: us ++ ds).length = ps.length := by
    have q := r2.length
    rw [F.len _ _ _ _ hq] at q
    exact q.symm
  refine x_call I.kIn M.cls M.init M.fn (by rw [sizeLine_eq]; omega) (wpAny_call (codeAny_mono (F.run _ X.stack _ _ ⟨Value.ref (hp.objs.size + 1) :: us, []⟩ (Value.ref (hp.objs.size + 1) :: (us ++ ds)) _ _ E (hr.make C us []) (I2.env0.make C us []) (hb _ (Value.ref (hp.objs.size + 1) :: us) I2.kIn hl) r2 hq) fun r s' hq' => ?_))
  cases r with
  | error e => exact hx pins σ _ _ e s' I2 hq'
  | ok fl =>
    cases fl with
    | ret u =>
      obtain ⟨v, H', I3, rv, ev, q3⟩ := I2.after hq'
      subst ev
      exact ⟨rv, ⟨V.ref (hp.objs.size + 1), H', I3, rfl, q3⟩⟩
    | next => exact False.elim hq'
    | brk => exact False.elim hq'
    | cont => exact False.elim hq'
noncomputable def tXMake (C : Addr) (sp : Sp) (dvs : List V) (E : XK) (t : TA) : TE := fun σ H Q => t σ H fun vs H1 => vs.length ≤ 1000 ∧ ∀ e, H1 e = none → sp (.ref e :: (vs ++ dvs)) (upd H1 e (XF e C none true)) (fun v H2 => v = .non ∧ Q (.ref e) H2) E
theorem pe_xmake (M : XMk X.K C bm f) (F : FnOk X.prog X.w X.K X.mg X.base CX k f fd ps sp) (hr : Room (k + 1) X.A) (hg : Gl X x) (hm : X.mg x = some (.ref C)) (hb : Binds X.K fd ps ds) (hd : Vals dvs ds) (hx : Passes CX X E)
    (ha : PA X (e :: es) t) (hdb : (x == ("__debug__" : Str)) = false := by decide) (he : starEach (e :: es) X.env = (false, eval e X.env) :: starEach es X.env := by rfl) (hpl : (backTo pos (starEach es X.env)).any (·.1) = false := by rfl) :
    PE X (.Call (.Name x p) (e :: es) [] pos) (tXMake C sp dvs E t) := by
  intro pins s σ H Q I h
  refine wpAny_Call_Name_kw (ld_glob I hg hm ?_ hdb)
  refine PySem.W.callWith_K (h₀ := X.base) I.ok.mod.kin M.kp (thn (ha pos pins s σ H _ I h) fun us s1 ⟨vs, H1, I1, r, ql, q⟩ => ⟨I1.kIn, ?_⟩) he hpl
  exact run_exc M F hr hb hd hx I1 r (show us.length ≤ 1000 by rw [← r.length]; exact ql) q
noncomputable def XeOk (X : Cx) (EX : XK) : Prop := ∀ (pins : List (Addr × Obj)) (σ : St) (H : Hp) (s : Shared) (ea C : Addr) (dx : Option Addr), Inv X pins σ H s → H ea = some (XF ea C dx false) → (∃ o vs, s.heap.get? ea = some o ∧ o.data = .fields vs ∧ vs[1]? = some Value.none) → EX (.ref C) (some ea) H → X.xe (.ref ea) s
theorem xeOk_cx {P : Program} {w : World} {K : Frag} {mg : Str → Option Value} {base : Heap} {N : List Str} {qual : Str} {scope : Scope} {f : Addr} {cd : Value} {A : Around} {outer : List Env} {s : Shared} {H : Hp} {E : XK} : XeOk (cxOf (CXo P w) P w K mg base N qual scope f cd A outer s H E) E := fun pins σ H' s2 ea C dx I hx ⟨o, vs, g1, g2, g3⟩ hE =>
  xe_of I hx (fun vs' o' c1 c2 => .inl (by rw [g1] at c1; cases c1; rw [g2] at c2; cases c2; exact g3)) hE
noncomputable def tRaise (EX : XK) (K : Frag) (te : TE) : TS := fun _ σ H => te σ H fun v H1 => ∃ e C dx bm, v = .ref e ∧ XCls K C bm ∧ H1 e = some (XF e C dx true) ∧ EX (.ref C) (some e) (upd H1 e (XF e C dx false))
theorem ps_raise {EX : XK} (hc : X.calm = true) (hE : XeOk X EX) (he : PE X e te) : PS X (.Raise (some e) none pos) (tRaise EX X.K te) := by
  intro pins s σ H D I h
  show wpAny _ _ (do standAt pos; raiseStmt X.env (some (do let v ← eval e X.env; standAt pos; pure v)) none) _ _ s
  refine wpAny_bind (wpAny_standAt (x_raise (K := X.K) (I.ok.hd hc) (wpAny_bind (thn (he pins s σ H _ I h) fun v s1 ⟨y, H1, I1, ry, q⟩ => wpAny_bind (wpAny_standAt (wpAny_pure ?_))))))
  obtain ⟨ea, C, dx, bm, rfl, Xc, hx, hq⟩ := q
  obtain rfl : v = Value.ref ea := ry
  obtain ⟨ob, ws, t0, z, a1, a2, a3, a4, a5, a6, a7, a8⟩ := xf_of I1.hok hx
  have a6 : ws[1]? = some Value.none := by rw [a6, a7 rfl]
  refine ⟨ea, ob, ws, C, bm, rfl, Xc, I1.kIn, a1, a2, a4, a6, ?_⟩
  have I2 : Inv X pins σ (upd H1 ea (XF ea C dx false)) s1 := by
    have := I1.write (t' := s1.toks) (h' := s1.heap) (o := XF ea C dx false) (x := ea) (e := ea) (by rw [hx]; exact True.intro) (.inl rfl) (fun _ _ _ z => z) ⟨_, a1⟩ (xf_ok ⟨ob, ws, t0, .none, a1, a2, a3, a4, a5, a6, (fun z => by cases z), a8⟩)
    exact this
  exact hE pins σ _ s1 ea C dx I2 upd_same ⟨ob, ws, a1, a4, a6⟩ hq
structure XClsM (K : Frag) (C : Addr) (m : Str) (f : Addr) : Prop where
  ga : specialIn K (.ref C) "__getattribute__" = some (some (.builtin "type.__getattribute__"))
  rd : readsIn K C (.type "type") = true
  at_ : findCls K (.ref C) (.type "type") m = some (.val (.ref f))
  kp : keepIn K (.ref f) = true
theorem pe_clsm {pl : Sem Bool} (M : XClsM X.K C m f) (F : FnOk X.prog X.w X.K X.mg X.base CX k f fd ps sp) (hr : Room k X.A) (hg : Gl X x) (hm : X.mg x = some (.ref C)) (hb : Binds X.K fd ps ds) (hd : Vals dvs ds) (hx : Passes CX X E) (ha : PA X (e :: es) t)
    (hdb : (x == ("__debug__" : Str)) = false := by decide) (hst : starEach (e :: es) X.env = (false, eval e X.env) :: starEach es X.env := by rfl) (hpl : (backTo pos (starEach es X.env)).any (·.1) = false := by rfl)
    (ht : eval (.Call (.Attribute (.Name x np) m apos) (e :: es) [] pos) X.env = (do
      let ov ← eval (.Name x np) X.env
      standAt apos.atName
      let (f, first) ← holding [ov] (getMethod ov m pl)
      callWith pos f first (backTo pos (starEach (e :: es) X.env)) (backToKw pos (keywordEach [] X.env))) := by rfl) :
    PE X (.Call (.Attribute (.Name x np) m apos) (e :: es) [] pos) (tCall sp dvs E t) := by
  intro pins s σ H Q I h
  refine PySem.W.methodCall_KW (pl := pl) (thn ((pe_glob (X := X) (pos := np) (v := .ref C) hg hm rfl hdb) pins s σ H (fun v H1 => v = .ref C ∧ H1 = H) I ⟨rfl, rfl⟩) fun u s1 ⟨y, H1, I1, ry, e1, e2⟩ => ?_) ht
  subst e1 e2
  obtain rfl : u = Value.ref C := ry
  refine method_cls I1.kIn M.ga (cls_value I1.kIn M.rd M.at_ rfl ?_)
  have I2 := I1.tok (s1.toks + 1)
  refine PySem.W.callWith_K (first := []) (h₀ := X.base) I.ok.mod.kin M.kp (thn (ha pos pins _ σ H1 _ I2 h) fun us s2 ⟨vs, H2, I3, r, q2⟩ => ⟨I3.kIn, ?_⟩) hst hpl
  exact run_fn F hr hb hd hx I3 r q2
end
theorem Fun.okX {P : Program} {w : World} {K : Frag} {mg : Str → Option Value} {base : Heap} {x qual : Str} {st : Stmt} {f : Addr} {fd : FuncData} {N ps : List Str} {k : Nat} {sp : Sp} (F : Fun K x qual st f fd) (S : FnScope N ps (defScope st)) (len : ∀ vs H Q E, sp vs H Q E → vs.length = ps.length)
    (hbody : ∀ (cdv : Value) (A : Around) (outer : List Env) (s : Shared) (H : Hp) (vs : List V) (Q : VK) (E : XK), Room k (A.deeper (envOfC qual (defScope st) s.heap.objs.size f cdv)) → sp vs H Q E →
      ∃ t, PSs (cxOf (CXo P w) P w K mg base N qual (defScope st) f cdv A outer s H E) (defBody st) t ∧ t { nx := fun _ H' => Q .non H', rt := Q } (start N vs) H) : FnOk P w K mg base (CXo P w) (k + 1) f fd ps sp := by
  obtain ⟨oc, od, kV, doc, pm, an, cdv, ct, osl, rfl, lk, hcd⟩ := F.ex
  exact fn_of lk hcd S len fun A outer s H vs Q E hr hsp => hbody cdv A outer s H vs Q E hr hsp
end L2
set_option Elab.async false
set_option linter.all false
set_option maxRecDepth 100000
set_option maxHeartbeats 4000000
namespace L2
open PySem PySem.Spec PyProof.Rows PySem.W
noncomputable def Cx.inX (X : Cx) (ea : Addr) : Cx := { X with A := X.A.mark (some (.ref ea)), calm := false, xe := fun _ _ => False }
section
variable {X : Cx} {pins : List (Addr × Obj)} {σ : St} {H : Hp} {s : Shared} {ea : Addr}
theorem Inv.inX (I : Inv X pins σ H s) (ea : Addr) : Inv (X.inX ea) pins σ H s :=
  ⟨⟨I.ok.mod, I.ok.kind, I.ok.glob, I.ok.blt, I.ok.above, I.ok.inj, I.ok.has, I.ok.cab, (fun z => by cases z), I.ok.frames, I.ok.stk, I.ok.exf, I.ok.bs, I.ok.bsz, I.ok.noex, I.ok.exfs, I.ok.funs, I.ok.frf⟩, I.os, I.bare, I.base, I.loc, I.cell, I.free, I.freeC, I.pin, I.hok, I.len⟩
theorem Inv.outX (ok : X.Ok) (I : Inv (X.inX ea) pins σ H s) : Inv X pins σ H s := ⟨ok, I.os, I.bare, I.base, I.loc, I.cell, I.free, I.freeC, I.pin, I.hok, I.len⟩
theorem SP.outX (ok : X.Ok) {D : Ends} {f : Flow} {s' : Shared} (h : SP (X.inX ea) pins D f s') : SP X pins D f s' := by
  cases f with
  | next => obtain ⟨σ', H', I, q⟩ := h; exact ⟨σ', H', I.outX ok, q⟩
  | brk => obtain ⟨σ', H', I, q⟩ := h; exact ⟨σ', H', I.outX ok, q⟩
  | cont => obtain ⟨σ', H', I, q⟩ := h; exact ⟨σ', H', I.outX ok, q⟩
  | ret u => obtain ⟨v, σ', H', I, r, q⟩ := h; exact ⟨v, σ', H', I.outX ok, r, q⟩
theorem gone_ok {M : Model} {A : Around} {E : Value → Shared → Prop} {n : Nat} {nm : Str} {pos : Pos} {Q : Unit → Shared → Prop} (I : Inv X pins σ H s) (hN : X.N.Nodup) (hn : X.N[n]? = some nm) (hk : X.env.kindOf nm = some .local) (h : ∀ s', Inv X pins (σ.set n none) H s' → Q () s') :
    wpAny M A (do bindName X.env nm .none; unbindBehindTheSuite X.env nm pos) Q E s := by
  obtain ⟨m, hm, hl⟩ := id I.loc
  have hcls : (X.env.scope.kind == .class || (X.env.scope.kind == .module && X.env.locals != X.env.globals)) = false := by rw [I.ok.kind]; rfl
  refine wpAny_nameGoes_keeps hk hm hcls fun h' v hm' hs => h _ ?_
  have ne0 : ∀ b o, X.s₀.heap.get? b = some o → b ≠ X.env.locals := fun b o e => Nat.ne_of_lt (Nat.lt_of_lt_of_le (Heap.lt_size e) I.ok.above)
  refine ⟨I.ok, I.os, I.bare, ⟨fun b o e n hb hx => (hs.2 b (ne0 b o e)).trans (I.base.keep b o e n hb hx), fun b o e n hb hx => ?_, I.base.free, fun b o e hx => ?_, I.base.tups, I.base.frzs, I.base.tbls⟩, ⟨_, hm', fun j y v' e1 e2 e3 => ?_⟩, fun y c e => ?_, I.free, I.freeC, fun p hp => ?_, fun b u e => ?_, by simpa using I.len⟩
  · obtain ⟨sl, e1⟩ := I.base.slot b o e n hb hx
    exact ⟨sl, (hs.2 b (ne0 b o e)).trans e1⟩
  · obtain ⟨o', e1⟩ := I.base.there b o e hx
    exact ⟨o', (hs.2 b (ne0 b o e)).trans e1⟩
  · by_cases hj : j = n
    · subst hj
      have hlt : j < σ.length := by rw [I.len]; exact (List.getElem?_eq_some_iff.mp hn).1
      rw [List.getElem?_set_self hlt] at e2
      cases e2
    · rw [List.getElem?_set_ne (Ne.symm hj)] at e2
      obtain ⟨u', r', q⟩ := hl j y v' e1 e2 e3
      refine ⟨u', r', ?_⟩
      rcases q with ⟨k, e⟩ | ⟨k, c, e, z⟩
      · refine .inl ⟨k, ?_⟩
        have : y ≠ nm := fun e => hj (nodup_ix hN e1 (e ▸ hn))
        simp [this, e]
      · exact .inr ⟨k, c, e, z.sameBut hs (I.cne y c e)⟩
  · obtain ⟨w', z⟩ := I.cell y c e
    exact ⟨w', z.sameBut hs (I.cne y c e)⟩
  · obtain ⟨e, n', ne, nf, d⟩ := I.pin p hp
    exact ⟨(hs.2 p.1 ne).trans e, n', ne, nf, d⟩
  · refine (I.hok b u e).stay (fun c w' hc q => (hs.2 c ?_).trans q) (fun _ q => q) fun _ _ q => q
    rintro rfl
    rcases hc with z | z
    · rw [← z, I.free] at e; cases e
    · rw [I.free] at z; cases z
theorem fly_ok {M : Model} {A : Around} {E : Value → Shared → Prop} {T : Addr} {o : Obj} {vs : Array Value} {Q : Unit → Shared → Prop} (I : Inv X pins σ H s) (ge : s.heap.get? ea = some o) (gd : o.data = .fields vs) (g1 : vs[1]? = some (.ref T)) (hT : TOk X pins H T) (tb : TbIs s.heap T)
    (q : ∀ s', Inv X pins σ H s' → Q () s') : wpAny M A (setFlight (.ref ea) none) Q E s := by
  obtain ⟨oT, ts, h1, h2, h3⟩ := tb
  unfold setFlight
  refine wpAny_bind (wpAny_field ge gd g1 ?_)
  rw [if_pos (show (Value.ref T != Value.none) = true from by simp)]
  refine wpAny_setField h1 h2 (Array.getElem?_eq_some_iff.mp h3).1 (q _ ?_)
  exact I.turned (t' := s.toks) (it := T) (fun b u hb hu => by rw [Heap.get?_update_other _ _ (Ne.symm hb)]; exact hu) hT.2.2.2.2 hT.2.1 (.inr hT.1) hT.2.2.1 hT.2.2.2.1
noncomputable abbrev Ends.gone (D : Ends) (n : Nat) : Ends := { nx := fun σ' H' => D.nx (σ'.set n none) H', rt := D.rt, bk := fun σ' H' => D.bk (σ'.set n none) H', ct := fun σ' H' => D.ct (σ'.set n none) H' }
noncomputable def MetAt (X : Cx) (pins : List (Addr × Obj)) (H : Hp) (ea : Addr) (h : Heap) : Prop := ∃ o vs T, h.get? ea = some o ∧ o.data = .fields vs ∧ vs[1]? = some (Value.ref T) ∧ T ≠ ea ∧ TOk X pins H T ∧ TbIs h T
theorem handle_as {C C' : Addr} {dx : Option Addr} {bm bm' : List Value} {cx nm : Str} {cp hpos : Pos} {n : Nat} {b0 : Stmt} {suite : List Stmt} {ts : TS} {D : Ends} (hst : X.stack = X.env :: X.outer) (hfr : X.env.frame = some X.env.locals) (I : Inv X pins σ H s) (hx : H ea = some (XF ea C dx false)) (tb : MetAt X pins H ea s.heap)
    (Xc : XCls X.K C bm) (Xd : XCls X.K C' bm') (hm : (Value.ref C :: bm).contains (.ref C') = true) (hg : Gl X cx) (hmc : X.mg cx = some (.ref C')) (hdb : (cx == ("__debug__" : Str)) = false) (hN : X.N.Nodup) (hn : X.N[n]? = some nm) (hk : X.env.kindOf nm = some .local) (hloc : Loc X.env.scope nm) (hf : X.fn nm = true ∨ X.env.scope.names.lookup nm = some .local)
    (hs : PSs (X.inX ea) (b0 :: suite) ts) (h : ts (D.gone n) (σ.set n (some (.ref ea))) H) :
    wpAny (model X.prog X.w) X.A (noteFrame (.ref ea) X.env) (fun _ s2 => wpAny (model X.prog X.w) X.A (setFlight (.ref ea) none) (fun _ s3 => wpAny (model X.prog X.w) X.A (handleBy (.ref ea) X.env [.ExceptHandler (some (.Name cx cp)) (some nm) (b0 :: suite) hpos]) (SP X pins D) X.xe s3) X.xe s2) X.xe s := by
  obtain ⟨o, vs, T, a1, a2, a3, a4, a5, a6⟩ := tb
  have frs' : X.A.frames = some (X.env :: X.outer) := by rw [← hst]; exact I.ok.frames
  have ff : s.heap.FunFrames X.base (X.env :: X.outer) := by rw [← hst]; exact I.stack
  refine leave_any (ok := fun b => b = T) frs' ff hfr a1 a2 (.inr ⟨T, a3, a4, rfl, a6⟩) fun h' l => ?_
  rw [← hst] at l
  have I2 := inv_left I hx a1 l (ch := [T]) (fun _ z => List.mem_singleton.mpr z) (fun b z => by rw [List.mem_singleton.mp z]; exact a5) rfl
  obtain ⟨o2, vs2, T2, c1, c2, c3, c4, c5, c6, c7⟩ := tb_left I a1 a2 (Array.getElem?_eq_some_iff.mp a3).1 l
  have c8 : TOk X pins H T2 := tok_new I c5 c6
  generalize hs3 : ({ s with heap := h' } : Shared) = s3 at I2
  have c1 : s3.heap.get? ea = some o2 := by rw [← hs3]; exact c1
  have c7 : TbIs s3.heap T2 := by rw [← hs3]; exact c7
  refine wpAny_handleBy_cons (codeAny_handlers_test (ld_glob (X := X.inX ea) (I2.inX ea) hg hmc ?_ hdb)) (by intro q; cases q)
  obtain ⟨ob, ws, t0, z, d1, d2, d3, d4, d5, d6, d7⟩ := xf_of I2.hok hx
  obtain ⟨hp, g, d, tk, os⟩ := s3
  refine x_match I2.kIn Xc d1 d2 Xd ?_
  rw [hm]
  refine codeAny_handlers_suite_as ?_
  refine fly_ok I2 c1 c2 c3 c8 c7 fun s5 I5 => ?_
  refine store_ok I5 hN hn hloc (v := .ref ea) rfl (fun s6 I6 => ?_) hf
  refine wpAny_mono (hs pins s6 _ H (D.gone n) (I6.inX ea) h) (fun f s7 q7 => ?_) fun _ _ z => z.elim
  have ok := I.ok
  cases f with
  | next => obtain ⟨σ', H', I', q⟩ := q7; exact gone_ok (I'.outX ok) hN hn hk fun s8 I8 => ⟨_, H', I8, q⟩
  | brk => obtain ⟨σ', H', I', q⟩ := q7; exact gone_ok (I'.outX ok) hN hn hk fun s8 I8 => ⟨_, H', I8, q⟩
  | cont => obtain ⟨σ', H', I', q⟩ := q7; exact gone_ok (I'.outX ok) hN hn hk fun s8 I8 => ⟨_, H', I8, q⟩
  | ret u => obtain ⟨v, σ', H', I', r, q⟩ := q7; exact gone_ok (I'.outX ok) hN hn hk fun s8 I8 => ⟨v, _, H', I8, r, q⟩
end
section
variable {X : Cx} {k : Nat} {f C' : Addr} {fd : FuncData} {ps : List Str} {sp : Sp} {dvs : List V} {ds : List Value} {x y nm cx : Str} {p pos apos cp hpos py tpos : Pos} {e : Expr} {es : List Expr} {t : TA} {bm' : List Value} {b0 : Stmt} {suite : List Stmt} {ts : TS} {i n : Nat}
noncomputable def tTry (K : Frag) (C' : Addr) (sp : Sp) (dvs : List V) (t : TA) (ok : Ends → St → V → Hp → Prop) (hd : Ends → St → Addr → Hp → Prop) : TS := fun D σ H => t σ H fun vs H1 => sp (vs ++ dvs) H1 (fun v H2 => ok D σ v H2) (fun c eo H2 => ∀ ea, eo = some ea → ∃ C dx bm, c = .ref C ∧ H2 ea = some (XF ea C dx false) ∧ XCls K C bm ∧ (Value.ref C :: bm).contains (.ref C') = true ∧ hd D σ ea H2)
theorem try_call {pins : List (Addr × Obj)} {s : Shared} {σ : St} {H : Hp} {D : Ends} {ok : Ends → St → V → Hp → Prop} {hd : Ends → St → Addr → Hp → Prop} {Eh : Value → Shared → Prop} (F : FnOk X.prog X.w X.K X.mg X.base (CXo X.prog X.w) k f fd ps sp) (hr : Room k X.A) (hg : Gl X x) (hm : X.mg x = some (.ref f)) (hk : keepIn X.K (.ref f) = true) (hb : Binds X.K fd ps ds) (hvd : Vals dvs ds) (ha : PA X.nox (e :: es) t)
    (hE : ∀ ea C dx bm H' s', Inv X pins σ H' s' → H' ea = some (XF ea C dx false) → MetAt X pins H' ea s'.heap → XCls X.K C bm → (Value.ref C :: bm).contains (.ref C') = true → hd D σ ea H' → Eh (.ref ea) s')
    (I : Inv X pins σ H s) (h : tTry X.K C' sp dvs t ok hd D σ H) (hdb : (x == ("__debug__" : Str)) = false) (he : starEach (e :: es) X.env = (false, eval e X.env) :: starEach es X.env) (hpl : (backTo pos (starEach es X.env)).any (·.1) = false) :
    wpAny (model X.prog X.w) X.A (eval (.Call (.Name x p) (e :: es) [] pos) X.env) (EP X pins σ (ok D σ)) Eh s := by
  refine wpAny_Call_Name_kw (ld_glob I hg hm ?_ hdb)
  refine PySem.W.callWith_K (h₀ := X.base) I.ok.mod.kin hk (wpAny_mono (ha pos pins s σ H _ (I.wish _) h) (fun us s1 ⟨vs, H1, I1, r, q⟩ => ⟨I1.kIn, ?_⟩) fun _ _ z => z.elim) he hpl
  have I1 := I1.unwish
  have r2 : Vals (vs ++ dvs) (us ++ ds) := r.append hvd
  have hl : (us ++ ds).length = ps.length := by rw [← r2.length]; exact F.len _ _ _ _ q
  refine wpAny_call (codeAny_mono (F.run X.A X.stack s1 H1 ⟨us, []⟩ (us ++ ds) (vs ++ dvs) _ _ hr I1.env0 (hb s1 us I1.kIn hl) r2 q) fun r s' hq => ?_)
  cases r with
  | error e =>
    obtain ⟨ea, C, dx, H', rfl, hx, os, bare, un, hok, tb, hu⟩ := hq
    have I2 := I1.call' (ch := []) os un hok bare (fun _ z => absurd z List.not_mem_nil)
    obtain ⟨o, vs', T, b1, b2, b3, b4, b5, b6, b7⟩ := tb
    obtain ⟨C2, dx2, bm, e1, e2, e3, e4, e5⟩ := hu ea rfl
    exact hE ea C2 dx2 bm H' s' I2 e2 ⟨o, vs', T, b1, b2, b3, b4, tok_new I1 b5 b6, b7⟩ e3 e4 e5
  | ok fl =>
    cases fl with
    | ret u => exact I1.after hq
    | next => exact False.elim hq
    | brk => exact False.elim hq
    | cont => exact False.elim hq
theorem try_set {pins : List (Addr × Obj)} {s : Shared} {σ : St} {D : Ends} {Eh : Value → Shared → Prop} (hN : X.N.Nodup) (hi : X.N[i]? = some y) (hy : Loc X.env.scope y) (hf : X.fn y = true ∨ X.env.scope.names.lookup y = some .local) (hs : swapsWith e (some (.Name y py)) pos.line X.env = pure false)
    (h : wpAny (model X.prog X.w) X.A (eval e X.env) (EP X pins σ fun v H2 => D.nx (σ.set i (some v)) H2) Eh s) :
    wpAny (model X.prog X.w) X.A (execs [.Assign [.Name y py] e pos] X.env) (fun f s1 => match f with | .next => wpAny (model X.prog X.w) X.A (execs [] X.env) (SP X pins D) X.xe s1 | f => SP X pins D f s1) Eh s := by
  refine wpAny_execs_cons (wpAny_Assign_Name (thn h fun v s1 ⟨z, H1, I1, r1, q1⟩ => ?_) hs)
  exact store_ok I1 hN hi hy r1 (fun s2 I2 => wpAny_execs_nil (wpAny_execs_nil ⟨_, H1, I2, q1⟩)) hf
theorem ps_tryset_as (hst : X.stack = X.env :: X.outer) (hfr : X.env.frame = some X.env.locals) (F : FnOk X.prog X.w X.K X.mg X.base (CXo X.prog X.w) k f fd ps sp) (hr : Room k X.A) (hg : Gl X x) (hm : X.mg x = some (.ref f)) (hk : keepIn X.K (.ref f) = true) (hb : Binds X.K fd ps ds) (hvd : Vals dvs ds) (ha : PA X.nox (e :: es) t)
    (hN : X.N.Nodup) (hi : X.N[i]? = some y) (hy : Loc X.env.scope y) (hgc : Gl X cx) (hmc : X.mg cx = some (.ref C')) (Xd : XCls X.K C' bm') (hn : X.N[n]? = some nm) (hkn : X.env.kindOf nm = some .local) (hlo : Loc X.env.scope nm) (hs : ∀ ea, PSs (X.inX ea) (b0 :: suite) ts)
    (hf : X.fn y = true ∨ X.env.scope.names.lookup y = some .local := by first | exact .inl rfl | exact .inr rfl) (hfn : X.fn nm = true ∨ X.env.scope.names.lookup nm = some .local := by first | exact .inl rfl | exact .inr rfl) (hsw : swapsWith (.Call (.Name x p) (e :: es) [] pos) (some (.Name y py)) apos.line X.env = pure false := by rfl) (hdb : (x == ("__debug__" : Str)) = false := by decide) (hdc : (cx == ("__debug__" : Str)) = false := by decide)
    (he : starEach (e :: es) X.env = (false, eval e X.env) :: starEach es X.env := by rfl) (hpl : (backTo pos (starEach es X.env)).any (·.1) = false := by rfl) :
    PS X (.Try [.Assign [.Name y py] (.Call (.Name x p) (e :: es) [] pos) apos] [.ExceptHandler (some (.Name cx cp)) (some nm) (b0 :: suite) hpos] [] [] tpos) (tTry X.K C' sp dvs t (fun D σ v H2 => D.nx (σ.set i (some v)) H2) (fun D σ ea H2 => ts (D.gone n) (σ.set n (some (.ref ea))) H2)) := by
  intro pins s σ H D I h
  refine wpAny_Try_except (try_set hN hi hy hf hsw (try_call (D := D) F hr hg hm hk hb hvd ha (fun ea C dx bm H' s' I' hx tb Xc hc hh => ?_) I h hdb he hpl))
  exact handle_as hst hfr I' hx tb Xc Xd hc hgc hmc hdc hN hn hkn hlo hfn (hs ea) hh
end
end L2
set_option Elab.async false
set_option linter.all false
set_option maxRecDepth 100000
set_option maxHeartbeats 4000000
namespace L2
open PySem PySem.Spec PyProof.Rows PySem.W
structure FunD (K : Frag) (x qual : Str) (st : Stmt) (f : Addr) (fd : FuncData) (dV : Value) : Prop where
  ex : ∃ (oc : Value) (od : Option Addr) (kV doc pm : Value) (an : Option Addr) (cdv ct : Value) (osl : Array (Option Value)),
    fd = fnOf x qual (defArgs st) (defBody st) (defScope st) dV kV doc pm an cdv ct ∧ K.lookup f = some ⟨oc, od, .func fd, osl⟩ ∧ codeIn K cdv qual = true
  kp : keepIn K (.ref f) = true
section
variable {P : Program} {w : World} {K : Frag} {mg : Str → Option Value} {base : Heap}
theorem FunD.ok {dV : Value} {x qual : Str} {st : Stmt} {f : Addr} {fd : FuncData} {N ps : List Str} {k : Nat} {sp : Sp} (F : FunD K x qual st f fd dV) (S : FnScope N ps (defScope st)) (len : ∀ vs H Q E, sp vs H Q E → vs.length = ps.length)
    (hbody : ∀ (cdv : Value) (A : Around) (outer : List Env) (s : Shared) (H : Hp) (vs : List V) (Q : VK) (E : XK), Room k (A.deeper (envOfC qual (defScope st) s.heap.objs.size f cdv)) → sp vs H Q E →
      ∃ t, PSs (cxOf CX0 P w K mg base N qual (defScope st) f cdv A outer s H E).nox (defBody st) t ∧ t { nx := fun _ H' => Q .non H', rt := Q } (start N vs) H) : FnOk P w K mg base CX0 (k + 1) f fd ps sp := by
  obtain ⟨oc, od, kV, doc, pm, an, cdv, ct, osl, rfl, lk, hcd⟩ := F.ex
  refine fn_of lk hcd S len fun A outer s H vs Q E hr hsp => ?_
  obtain ⟨t, h, q⟩ := hbody cdv A outer s H vs Q E hr hsp
  exact ⟨t, h.nox, q⟩
theorem funD_mk {dV : Value} {x qual : Str} {st : Stmt} {f : Addr} {oc : Value} {od an : Option Addr} {osl : Array (Option Value)} {kV doc pm cdv ct : Value} (l : K.lookup f = some ⟨oc, od, .func (fnOf x qual (defArgs st) (defBody st) (defScope st) dV kV doc pm an cdv ct), osl⟩)
    (c : codeIn K cdv qual = true) (k : keepIn K (.ref f) = true) : FunD K x qual st f (fnOf x qual (defArgs st) (defBody st) (defScope st) dV kV doc pm an cdv ct) dV := ⟨⟨oc, od, kV, doc, pm, an, cdv, ct, osl, rfl, l, c⟩, k⟩
end
end L2
set_option Elab.async false
set_option linter.all false
set_option maxRecDepth 100000
set_option maxHeartbeats 4000000
namespace Att
open PySem PySem.W PySem.Calls PyProof.Rows
end Att
namespace L2
open PySem PySem.Spec PyProof.Rows
theorem bits_lt (x : Int) (k : Nat) (h : x.natAbs < 2 ^ k) : Builtin.Int.intBits x ≤ k := by
  unfold Builtin.Int.intBits
  by_cases h0 : x = 0
  · subst h0; simp
  · have hz : (x == 0) = false := beq_eq_false_iff_ne.mpr h0
    rw [hz]
    simp only [Bool.false_eq_true, if_false]
    have h1 : x.natAbs ≠ 0 := by omega
    have := (Nat.log2_lt h1).mpr h
    omega
end L2
set_option Elab.async false
set_option linter.all false
set_option maxRecDepth 100000
set_option maxHeartbeats 4000000
namespace L2
open PySem PySem.Spec PyProof.Rows PySem.W
section
variable {X : Cx}
theorem ke_xget {e : Expr} {f : Str} {pos : Pos} {ta : TE} (K : Frag) (h : X.K = K) (he : PE X e ta) (hb : attributeBase e f X.env (eval e X.env) = eval e X.env := by rfl) : PE X (.Attribute e f pos) (tXGet K ta f) := h ▸ pe_xget he hb
theorem ko_ninV (K : Frag) (h : X.K = K) : OpR X (compareOp .NotIn) (rIn K true) := h ▸ op_notIn_seq
end
theorem inV_strs (x : Str) : ∀ xs : List Str, inV (.str x) (xs.map V.str) = decide (x ∈ xs)
  | [] => by simp [inV]
  | y :: r => by
    have ih := inV_strs x r
    unfold inV at ih ⊢
    rw [List.map_cons, List.any_cons, ih]
    by_cases h : y = x
    · subst h; simp [eqV]
    · have h2 : x ≠ y := fun z => h z.symm
      simp [eqV, h, h2]
theorem all_flat (xs : List Str) : (xs.map V.str).all flatV = true := by
  rw [List.all_eq_true]
  intro v hv
  obtain ⟨x, _, rfl⟩ := List.mem_map.mp hv
  rfl
theorem in_strs {K : Frag} {H : Hp} {Q : VK} {p : Addr} {x : Str} (xs : List Str) (h : SqL K H p (xs.map V.str) ∨ SqT K H p (xs.map V.str)) (k : Q (.bl (decide (x ∈ xs))) H) : rIn K false (.str x) (.ref p) H Q := ⟨p, _, rfl, h, rfl, all_flat xs, by rw [inV_strs]; exact k⟩
theorem nin_strs {K : Frag} {H : Hp} {Q : VK} {p : Addr} {x : Str} (xs : List Str) (h : SqL K H p (xs.map V.str) ∨ SqT K H p (xs.map V.str)) (k : Q (.bl (!decide (x ∈ xs))) H) : rIn K true (.str x) (.ref p) H Q := ⟨p, _, rfl, h, rfl, all_flat xs, by rw [inV_strs]; exact k⟩
section
variable {K : Frag} {σ : St} {H : Hp} {Q : VK} {D : Ends} {t : TA} {te ta tv : TE} {f : Str} {sp : Sp} {dvs : List V} {E EX : XK} {C C' : Addr}
theorem tRaise_i (k : te σ H fun v H1 => ∃ e C dx bm, v = .ref e ∧ XCls K C bm ∧ H1 e = some (XF e C dx true) ∧ EX (.ref C) (some e) (upd H1 e (XF e C dx false))) : tRaise EX K te D σ H := k
theorem tXMake_i (k : t σ H fun vs H1 => vs.length ≤ 1000 ∧ ∀ e, H1 e = none → sp (.ref e :: (vs ++ dvs)) (upd H1 e (XF e C none true)) (fun v H2 => v = .non ∧ Q (.ref e) H2) E) : tXMake C sp dvs E t σ H Q := k
theorem tTry_i {ok : Ends → St → V → Hp → Prop} {hd : Ends → St → Addr → Hp → Prop} (k : t σ H fun vs H1 => sp (vs ++ dvs) H1 (fun v H2 => ok D σ v H2) (fun c eo H2 => ∀ ea, eo = some ea → ∃ C dx bm, c = .ref C ∧ H2 ea = some (XF ea C dx false) ∧ XCls K C bm ∧ (Value.ref C :: bm).contains (.ref C') = true ∧ hd D σ ea H2)) : tTry K C' sp dvs t ok hd D σ H := k
theorem tXGet_i (k : ta σ H fun x H1 => ∃ e C bm dx fs fr v, x = .ref e ∧ H1 e = some (XF e C (some dx) fr) ∧ XCls K C bm ∧ XAttr K C ∧ NoAttr K C f ∧ H1 dx = some (.xd fs) ∧ fs.lookup f = some v ∧ Q v H1) : tXGet K ta f σ H Q := k
theorem tBInit_i (k : t σ H fun vs H2 => ∃ e C dx fr bm y, vs = [.ref e, y] ∧ H2 e = some (XF e C dx fr) ∧ XCls K C bm ∧ Q .non H2) : tBInit K t σ H Q := k
theorem tXSet_i (k : tv σ H fun y H1 => ta σ H1 fun x H2 => ∃ e C bm fr, x = .ref e ∧ XCls K C bm ∧ XUp bm ∧ XAttr K C ∧ NoAttr K C f ∧
  ((H2 e = some (XF e C none fr) ∧ ∀ dx, H2 dx = none → dx ≠ e → D.nx σ (upd (upd H2 dx (.xd [(f, y)])) e (XF e C (some dx) fr))) ∨ (∃ dx fs, H2 e = some (XF e C (some dx) fr) ∧ H2 dx = some (.xd fs) ∧ fs.length ≤ 900 ∧ D.nx σ (upd H2 dx (.xd (putF f y fs)))))) : tXSet K ta tv f D σ H := k
end
noncomputable def rowS : Str := Str.ofString "row"
structure Born (H H' : Hp) (e C : Addr) (fr : Bool) (fs : List (Str × V)) : Prop where
  ex : ∃ dx, H dx = none ∧ dx ≠ e ∧ H' e = some (XF e C (some dx) fr) ∧ H' dx = some (.xd fs)
  keep : ∀ b, b ≠ e → ∀ o, H b = some o → H' b = some o
noncomputable def IsX (H : Hp) (ea C : Addr) (fs : List (Str × V)) : Prop := ∃ dx, H ea = some (XF ea C (some dx) false) ∧ H dx = some (.xd fs)
theorem IsX.mono {H H' : Hp} {ea C : Addr} {fs : List (Str × V)} (h : IsX H ea C fs) (s : Same H H') : IsX H' ea C fs := by
  obtain ⟨dx, a, b⟩ := h
  exact ⟨dx, s _ _ a, s _ _ b⟩
noncomputable abbrev sp_TrailError_init (K : Frag) : Sp := fun vs H Q _ => match vs with
  | [.ref e, v, .int r] => ∃ C bm fr, XCls K C bm ∧ XUp bm ∧ XAttr K C ∧ NoAttr K C rowS ∧ H e = some (XF e C none fr) ∧ ∀ H', Born H H' e C fr [(rowS, .int r)] → Q .non H'
  | _ => False
theorem born_raise {H H1 H2 : Hp} {e C : Addr} {fs : List (Str × V)} (hn : H e = none) (s : Same H H1) (h1 : H1 e = none) (b : Born (upd H1 e (XF e C none true)) H2 e C true fs) : ∃ dx, H2 e = some (XF e C dx true) ∧ IsX (upd H2 e (XF e C dx false)) e C fs ∧ Same H (upd H2 e (XF e C dx false)) := by
  obtain ⟨⟨dx, a1, a2, a3, a4⟩, k⟩ := b
  refine ⟨some dx, a3, ⟨dx, upd_same, by rw [upd_ne a2]; exact a4⟩, fun c o hc => ?_⟩
  have hce : c ≠ e := fun z => by rw [z, hn] at hc; cases hc
  rw [upd_ne hce]
  exact k c hce o (by rw [upd_ne hce]; exact s c o hc)
end L2
set_option Elab.async false
set_option linter.all false
set_option maxRecDepth 100000
set_option maxHeartbeats 4000000
namespace L2
open PySem PySem.Spec PyProof.Rows PySem.W
structure RoomN (k : Nat) (A : Around) : Prop where
  dp : A.depth + 3 * k + 5 < recursionLimit
  un : A.units + 16 * k + 200 < cLine
theorem RoomN.mono {j k : Nat} {A : Around} (r : RoomN k A) (h : j ≤ k) : RoomN j A := ⟨by have := r.dp; omega, by have := r.un; omega⟩
theorem RoomN.deeper {k : Nat} {A : Around} (r : RoomN (k + 1) A) (env : Env) : RoomN k (A.deeper env) :=
  ⟨by have := r.dp; show A.depth + 1 + 3 * k + 5 < _; omega, by have := r.un; show A.units + 3 + 16 * k + 200 < _; omega⟩
theorem RoomN.depth {k : Nat} {A : Around} (r : RoomN k A) : A.depth < recursionLimit := by have := r.dp; omega
theorem Room.marked {k : Nat} {A : Around} (r : Room k A) (v : Option Value) : RoomN k (A.mark v) := ⟨r.dp, r.un⟩
theorem RoomN.of {k : Nat} {A : Around} (r : Room k A) : RoomN k A := ⟨r.dp, r.un⟩
structure FnOkN (P : Program) (w : World) (K : Frag) (mg : Str → Option Value) (base : Heap) (k : Nat) (f : Addr) (fd : FuncData) (ps : List Str) (sp : Sp) : Prop where
  len : ∀ vs H Q E, sp vs H Q E → vs.length = ps.length
  run : ∀ (A : Around) (outer : List Env) (s : Shared) (H : Hp) (args : Args) (us : List Value) (vs : List V) (Q : VK) (E : XK), RoomN k A → Env0 P w K mg base A outer s H → BindsTo s fd args (ps.zip us) → Vals vs us → sp vs H Q E →
    codeAny (model P w) A (.call (.ref f) args) (CR CX0 outer P w H s Q E) s
theorem FnOkN.fn {P : Program} {w : World} {K : Frag} {mg : Str → Option Value} {base : Heap} {k : Nat} {f : Addr} {fd : FuncData} {ps : List Str} {sp : Sp} (F : FnOkN P w K mg base k f fd ps sp) : FnOk P w K mg base CX0 k f fd ps sp :=
  ⟨F.len, fun A outer s H args us vs Q E hr => F.run A outer s H args us vs Q E (.of hr)⟩
noncomputable def cxN (P : Program) (w : World) (K : Frag) (mg : Str → Option Value) (base : Heap) (N : List Str) (qual : Str) (scope : Scope) (f : Addr) (cd : Value) (A : Around) (outer : List Env) (s : Shared) (H : Hp) (E : XK) : Cx :=
  { cxOf CX0 P w K mg base N qual scope f cd A outer s H E with calm := false, xe := fun _ _ => False }
section
variable {P : Program} {w : World} {K : Frag} {mg : Str → Option Value} {base : Heap} {N ps : List Str} {qual : Str} {scope : Scope} {f : Addr} {cd : Value} {A : Around} {outer : List Env} {s s1 : Shared} {H : Hp} {E : XK} {us : List Value} {vs : List V}
theorem inv_startN (S : FnScope N ps scope) (e0 : Env0 P w K mg base A outer s H) (hl : vs.length = ps.length) (r : Vals vs us)
    (x : InCallC s s.heap.objs.size (bindL (envOfC qual scope s.heap.objs.size f cd).kindOf (ps.zip us) fun _ => none) (cellsFrom (s.heap.objs.size + 1) scope.names []) (bindC (envOfC qual scope s.heap.objs.size f cd).kindOf (ps.zip us) fun _ => none) s1) :
    Inv (cxN P w K mg base N qual scope f cd A outer s H E) [] (start N vs) H s1 := by
  have e1 : Env0 P w K mg base { A with handled := none } outer s H := ⟨e0.frames, e0.mod, e0.bs, e0.bsz, e0.funs, e0.frf, e0.hok, e0.bare⟩
  have I := inv_start (CX := CX0) (E := E) S rfl e1 hl r x
  exact ⟨⟨I.ok.mod, I.ok.kind, I.ok.glob, I.ok.blt, I.ok.above, I.ok.inj, I.ok.has, I.ok.cab, (fun z => by cases z), Around.frames_deeper e0.frames, I.ok.stk, I.ok.exf, I.ok.bs, I.ok.bsz, I.ok.noex, I.ok.exfs, I.ok.funs, I.ok.frf⟩, I.os, I.bare, I.base, I.loc, I.cell, I.free, I.freeC, I.pin, I.hok, I.len⟩
end
theorem fn_ofN {P : Program} {w : World} {K : PySem.W.Frag} {mg : Str → Option Value} {base : Heap} {k : Nat} {f : Addr} {name qual : Str} {params : Arguments} {body : List Stmt} {scope : Scope} {dV kV doc pm cdv ct oc : Value} {an od : Option Addr}
    {osl : Array (Option Value)} {N ps : List Str} {sp : Sp} (lk : K.lookup f = some ⟨oc, od, .func (PySem.W.fnOf name qual params body scope dV kV doc pm an cdv ct), osl⟩) (hcd : PySem.W.codeIn K cdv qual = true) (S : FnScope N ps scope)
    (len : ∀ vs H Q E, sp vs H Q E → vs.length = ps.length)
    (hbody : ∀ (A : Around) (outer : List Env) (s : Shared) (H : Hp) (vs : List V) (Q : VK) (E : XK), RoomN k (A.deeper (envOfC qual scope s.heap.objs.size f cdv)) → sp vs H Q E →
      ∃ t, PSs (cxN P w K mg base N qual scope f cdv A outer s H E) body t ∧ t { nx := fun _ H' => Q .non H', rt := Q } (start N vs) H) :
    FnOkN P w K mg base (k + 1) f (PySem.W.fnOf name qual params body scope dV kV doc pm an cdv ct) ps sp := by
  refine ⟨len, fun A outer s H args us vs Q E hr e0 hb r hsp => ?_⟩
  have hl := len _ _ _ _ hsp
  have KX : K.In s.heap := e0.mod.kin.keeps fun b o e => (e0.bs b o e).1
  have lim : s.heap.NoLimit := e0.mod.nolimit.keeps fun b o e => (e0.bs b o e).1
  have hkind : ∀ y ∈ ps.zip us, scope.names.lookup y.1 = some .local ∨ (scope.names.lookup y.1 = some .cell ∧ ((cellsFrom (s.heap.objs.size + 1) scope.names []).lookup y.1).isSome = true) := fun ⟨n, v⟩ hy => by
    rcases S.par n (List.of_mem_zip hy).1 with q | q
    · exact .inl q
    · exact .inr ⟨q, PySem.W.cellsFrom_some _ _ _ (.inl q)⟩
  refine codeAny_call_function hr.depth (KX _ _ lk) rfl S.co S.gen rfl (PySem.W.codeRec_of KX hcd) (hb _ _ _ _ ?_)
  refine wpAny_newFunctionEnv_cells S.kind hkind fun env he s1 x => ?_
  subst he
  refine ⟨lim.keeps x.toInCall.keep, codeAny_func ?_⟩
  obtain ⟨t, ht, hq⟩ := hbody A outer s H vs Q E (hr.deeper _) hsp
  have I : Inv (cxN P w K mg base N qual scope f cdv A outer s H E) [] (start N vs) H s1 := inv_startN S e0 hl r x
  refine wpAny_mono (ht [] s1 (start N vs) H _ I hq) (fun fl s' hs => ?_) fun e s' hs => hs.elim
  have fin : ∀ {σ' : St} {H' : Hp} {v : V} {u : Value}, Inv (cxN P w K mg base N qual scope f cdv A outer s H E) [] σ' H' s' → RelV v u → Q v H' → CE outer P w H s Q u s' :=
    fun {σ' H' v u} J rv q => ⟨v, H', J.os, J.bare, J.base, J.hok, rv, q⟩
  cases fl with
  | ret u =>
    obtain ⟨v, σ', H', J, rv, q⟩ := hs
    exact fin J rv q
  | next =>
    obtain ⟨σ', H', J, q⟩ := hs
    exact fin (v := V.non) (u := Value.none) J rfl q
  | brk =>
    obtain ⟨_, _, _, q⟩ := hs
    exact False.elim q
  | cont =>
    obtain ⟨_, _, _, q⟩ := hs
    exact False.elim q
theorem Fun.okN {P : Program} {w : World} {K : Frag} {mg : Str → Option Value} {base : Heap} {x qual : Str} {st : Stmt} {f : Addr} {fd : FuncData} {N ps : List Str} {k : Nat} {sp : Sp} (F : Fun K x qual st f fd) (S : FnScope N ps (defScope st)) (len : ∀ vs H Q E, sp vs H Q E → vs.length = ps.length)
    (hbody : ∀ (cdv : Value) (A : Around) (outer : List Env) (s : Shared) (H : Hp) (vs : List V) (Q : VK) (E : XK), RoomN k (A.deeper (envOfC qual (defScope st) s.heap.objs.size f cdv)) → sp vs H Q E →
      ∃ t, PSs (cxN P w K mg base N qual (defScope st) f cdv A outer s H E) (defBody st) t ∧ t { nx := fun _ H' => Q .non H', rt := Q } (start N vs) H) : FnOkN P w K mg base (k + 1) f fd ps sp := by
  obtain ⟨oc, od, kV, doc, pm, an, cdv, ct, osl, rfl, lk, hcd⟩ := F.ex
  exact fn_ofN lk hcd S len fun A outer s H vs Q E hr hsp => hbody cdv A outer s H vs Q E hr hsp
section
variable {X : Cx} {k : Nat} {f : Addr} {fd : FuncData} {ps : List Str} {sp : Sp} {dvs : List V} {ds : List Value} {x : Str} {p pos : Pos} {e : Expr} {es : List Expr} {t : TA}
theorem run_fnN {pins : List (Addr × Obj)} {σ : St} {H : Hp} {s : Shared} {Q : VK} {us : List Value} {vs : List V} (F : FnOkN X.prog X.w X.K X.mg X.base k f fd ps sp) (hr : RoomN k X.A) (hb : Binds X.K fd ps ds) (hd : Vals dvs ds)
    (I : Inv X pins σ H s) (r : Vals vs us) (h : sp (vs ++ dvs) H Q E0) : wpAny (model X.prog X.w) X.A (call (.ref f) us) (EP X pins σ Q) X.xe s := by
  have r2 : Vals (vs ++ dvs) (us ++ ds) := r.append hd
  have hl : (us ++ ds).length = ps.length := by rw [← r2.length]; exact F.len _ _ _ _ h
  refine wpAny_call (codeAny_mono (F.run X.A X.stack s H ⟨us, []⟩ (us ++ ds) (vs ++ dvs) Q E0 hr I.env0 (hb s us I.kIn hl) r2 h) fun r s' hq => ?_)
  cases r with
  | error e => exact (show False from hq).elim
  | ok fl =>
    cases fl with
    | ret u => exact I.after hq
    | next => exact False.elim hq
    | brk => exact False.elim hq
    | cont => exact False.elim hq
theorem pe_callN (F : FnOkN X.prog X.w X.K X.mg X.base k f fd ps sp) (hr : RoomN k X.A) (hg : Gl X x) (hm : X.mg x = some (.ref f)) (hk : PySem.W.keepIn X.K (.ref f) = true) (hb : Binds X.K fd ps ds) (hd : Vals dvs ds)
    (ha : PA X (e :: es) t) (hdb : (x == ("__debug__" : Str)) = false := by decide) (he : starEach (e :: es) X.env = (false, eval e X.env) :: starEach es X.env := by rfl) (hpl : (backTo pos (starEach es X.env)).any (·.1) = false := by rfl) :
    PE X (.Call (.Name x p) (e :: es) [] pos) (tCall sp dvs E0 t) := by
  intro pins s σ H Q I h
  refine wpAny_Call_Name_kw (ld_glob I hg hm ?_ hdb)
  refine PySem.W.callWith_K (h₀ := X.base) I.ok.mod.kin hk (thn (ha pos pins s σ H _ I h) fun us s1 ⟨vs, H1, I1, r, q⟩ => ⟨I1.kIn, ?_⟩) he hpl
  exact run_fnN F hr hb hd I1 r q
end
structure XIs (K : Frag) (C : Addr) : Prop where
  ha : findIn K (.ref C) "__class__" = some (some (.builtin "object.__class__"))
  hn : specialIn K (.builtin "object.__class__") "__get__" = some (some (.builtin "getset_descriptor.__get__"))
  htk : takesIn K (.builtin "object.__class__") = some true
  hm : mroIn K C (.type "object") = some true
section
variable {prog : Program} {w : World} {A : Around} {E : Value → Shared → Prop} {s : Shared} {K : Frag} {C e : Addr} {bm : List Value} {ox od : Obj}
theorem x_class {Q : Option Value → Shared → Prop} (KX : K.In s.heap) (X : XCls K C bm) (XA : XAttr K C) (Z : XIs K C) (J : InstAt s.heap e ox C (some od)) (hq : Q (some (.ref C)) { s with toks := s.toks + 1 }) :
    wpAny (model prog w) A (getAttr? (.ref e) "__class__") Q E s := by
  obtain ⟨h, g, d, t, os⟩ := s
  obtain ⟨oxc, oxd, oxt, oxs⟩ := ox
  have hoc0 : oxc = .ref C := J.cls
  subst hoc0
  have KX : K.In h := KX
  have J : InstAt h e ⟨.ref C, oxd, oxt, oxs⟩ C (some od) := J
  obtain ⟨nm, q, N, bs, sn, sub, ab, col, dd, k0, k1, k2, k3, k5, hC'⟩ := X.obj
  have hC := KX _ _ hC'
  have cB : (Value.ref C :: bm).contains (.type "BaseException") = true := by rw [List.contains_cons, X.hasB, Bool.or_true]
  have FB := PySem.F.excAttr_ValueError
  have he : h.get? e = some ⟨.ref C, oxd, oxt, oxs⟩ := J.at_
  have ga := XA.ga
  have gx := XA.gx
  have f3 := FB.ga.bind (.ref e)
  have hx0 : (false && onTheHeap (Value.builtin "BaseException.__getattribute__")) = false := rfl
  have hx2 : (Value.builtin "BaseException.__getattribute__" == Value.builtin "object.__getattribute__") = false := by decide +kernel
  have hx1 : (onTheHeap (Value.ref C) && Value.builtin "BaseException.__getattribute__" == Value.builtin "object.__getattribute__") = false := by rw [hx2]; rfl
  have L0 := J.type (M := model prog w)
  have hcs : (clsIn K C).isSome = true := by unfold clsIn; rw [show List.lookup C K = _ from hC']; rfl
  have L1 := looks_find (M := model prog w) KX J (findObj_data hcs Z.ha Z.hn Z.htk)
  unfold getAttr? getAttrBy? getAttrBy
  repeat (any_goals (first | assumption | with_reducible refine wpAny_loadPart_at he ?_ | with_reducible refine (looks_findIn KX ga).here ?_ | with_reducible refine (looks_findIn KX gx).here ?_ | wp_step | dsimp only))
  have hk : builtinKind "BaseException.__getattribute__" = some .slot := by decide +kernel
  have hsp : splitId "BaseException.__getattribute__" = some ("BaseException", "__getattribute__") := by decide +kernel
  have hargs := PySem.F.args_bexc_ga (.ref e) (.str "__class__" t)
  have ck : ∀ (Q' : Unit → Shared → Prop) (u : Nat), Q' () ⟨h, g, d, u, os⟩ → ∀ A' E', wpAny (model prog w) A' (checkBuiltinCall "BaseException.__getattribute__" ⟨[.ref e, .str "__class__" t], []⟩) Q' E' ⟨h, g, d, u, os⟩ := by
    intro Q' u hq' A' E'
    simp only [checkBuiltinCall, hk, hsp]
    refine wpAny_bind ?_
    unfold isInstance
    repeat (first | with_reducible refine wpAny_loadPart_at he ?_ | (with_reducible refine wpAny_isSubtype_exc hC ?_; rw [cB]) | wp_step)
    exact hq'
  refine codeAny_call_builtin FB.ga.plain PySem.F.entry_bexc_ga (ck _ _ ?_ _ _)
  unfold Builtin.«object.__getattribute__»
  refine wpAny_bind (wpAny_of_eq (a := (Value.ref e, [Value.str "__class__" t])) rfl ?_)
  refine wpAny_bind (wpAny_pure (wpAny_bind (L0.at (wpAny_bind (L1.at ?_)))))
  show wpAny _ _ (holding [Value.builtin "object.__class__"] (call (.builtin "getset_descriptor.__get__") [.builtin "object.__class__", .ref e, .ref C]) >>= ret) _ _ _
  refine wpAny_bind (wpAny_holding (wpAny_call (class_get (od := some od) KX J Z.hm ?_)))
  refine wpAny_pure ?_
  exact handed_on rfl (wpAny_pure hq)
theorem kitx_x (X : XCls K C bm) (XA : XAttr K C) (Z : XIs K C) : KitX K (.ref e) (.ref C) (fun h => ∃ ox od, InstAt h e ox C (some od)) where
  ty := fun _ _ _ I => by obtain ⟨ox, od, I⟩ := I; exact I.type
  it := fun _ _ KX _ => by
    obtain ⟨nm, q, N, bs, sn, sub, ab, col, dd, k0, k1, k2, k3, k5, hC'⟩ := X.obj
    intro A' Q' E' s' k q
    unfold isType loadHead
    exact wpAny_bind (wpAny_loadPart (k _ _ (KX _ _ hC')) (wpAny_pure q))
  ne := fun h tp dd its n sl KX htp => by
    obtain ⟨nm, q, N, bs, sn, sub, ab, col, dd, k0, k1, k2, k3, k5, hC'⟩ := X.obj
    refine Bool.eq_false_iff.mpr fun q => ?_
    have e : C = tp := Value.ref.inj (beq_iff_eq.mp q)
    subst e
    have z := (KX _ _ hC').symm.trans htp
    exact nomatch (show Data.cls _ = Data.seq its.toArray n from congrArg Obj.data (Option.some.inj z))
  ca := fun KX I k => by obtain ⟨ox, od, I⟩ := I; exact x_class KX X XA Z I k
end
section
variable {X : Cx}
noncomputable def isOf (K : Frag) (C : Addr) (b : Bool) : V → Prop
  | .ref D => kitOne K (.ref C) (.ref D) = some b
  | .ty T => kitOne K (.ref C) (.type T) = some b
  | _ => False
noncomputable def mIsX (K : Frag) : List V → Hp → VK → Prop := fun vs H Q => ∃ ea C dx fr bm fs c b, vs = [.ref ea, c] ∧ H ea = some (XF ea C (some dx) fr) ∧ H dx = some (.xd fs) ∧ XCls K C bm ∧ XAttr K C ∧ XIs K C ∧ isOf K C b c ∧ Q (.bl b) H
theorem kc_isX (K : Frag) (hK : X.K = K) : CallR X (.builtin "isinstance") (mIsX K) := by
  subst hK
  intro pins s σ H xs us Q I r h
  obtain ⟨ea, C, dx, fr, bm, fs, c, b, rfl, hx, hd, Xc, Xa, Z, hc, q⟩ := h
  obtain ⟨u, w', rfl, r1, r2⟩ := vals2 r
  obtain rfl : u = Value.ref ea := r1
  have fin : ∀ tk, EP X pins σ Q (.bool b) { s with toks := tk } := fun tk => ⟨.bl b, H, I.tok _, rfl, q⟩
  obtain ⟨ob, ws, t0, z, a1, a2, a3, a4, a5, a6, a7⟩ := xf_of I.hok hx
  obtain ⟨mA, hm, hr⟩ := (show ObjOk X.prog X.w H s.heap dx (.xd fs) from I.hok dx _ hd)
  obtain ⟨od, hod, hl⟩ := lookIn_ns hm
  obtain ⟨oc, odi, odt, osl⟩ := ob
  dsimp only at a2 a3 a4
  subst a2 a3 a4
  have J : ∃ ox od, InstAt s.heap ea ox C (some od) := ⟨⟨.ref C, some dx, .fields ws, osl⟩, od, a1, rfl, rfl, hod⟩
  cases c with
  | ref D =>
    obtain rfl : w' = Value.ref D := r2
    exact kia_one (kitx_x Xc Xa Z) I.kIn J hc (fun z => nomatch z) fin
  | ty T =>
    obtain rfl : w' = Value.type T := r2
    exact kia_one (kitx_x Xc Xa Z) I.kIn J hc (fun z => nomatch z) fin
  | _ => exact (show False from hc).elim
theorem isX_i {K : Frag} {H : Hp} {Q : VK} {ea C dx : Addr} {fr : Bool} {bm : List Value} {fs : List (Str × V)} {c : V} {b : Bool} (h1 : H ea = some (XF ea C (some dx) fr)) (h2 : H dx = some (.xd fs)) (Xc : XCls K C bm) (Xa : XAttr K C) (Z : XIs K C) (h : isOf K C b c) (k : Q (.bl b) H) : mIsX K [.ref ea, c] H Q :=
  ⟨ea, C, dx, fr, bm, fs, c, b, rfl, h1, h2, Xc, Xa, Z, h, k⟩
theorem in_bl {K : Frag} {H : Hp} {Q : VK} {p : Addr} (bs : List Bool) (h : SqL K H p (bs.map V.bl)) (k : Q (.bl (bs.contains true)) H) : rIn K false (.bl true) (.ref p) H Q := by
  have e1 : (bs.map V.bl).all flatV = true := by
    rw [List.all_eq_true]
    intro v hv
    obtain ⟨x, _, rfl⟩ := List.mem_map.mp hv
    rfl
  have e2 : ∀ l : List Bool, inV (.bl true) (l.map V.bl) = l.contains true := fun l => by
    induction l with
    | nil => rfl
    | cons y r ih =>
      have : inV (.bl true) ((y :: r).map V.bl) = (eqV (.bl y) (.bl true) || inV (.bl true) (r.map V.bl)) := rfl
      rw [this, ih, List.contains_cons]
      cases y <;> rfl
  exact ⟨p, _, rfl, .inl h, rfl, e1, by rw [e2]; exact k⟩
theorem tPar_i {i j : Nat} {ta : TA} {D : Ends} {σ : St} {H : Hp} (k : ta σ H fun vs H1 => ∃ v w, vs = [v, w] ∧ D.nx ((σ.set i (some v)).set j (some w)) H1) : tPar i j ta D σ H := k
end
end L2
set_option Elab.async false
set_option linter.all false
set_option maxRecDepth 100000
set_option maxHeartbeats 4000000
namespace L2
open PySem PySem.Spec PyProof.Rows
section
variable {X : Cx} {pins : List (Addr × Obj)} {σ : St} {H : Hp} {s : Shared} {h' : Heap}
end
noncomputable def Izp (K : PySem.W.Frag) (a b : Addr) (n m : Nat) : It := ⟨fun i H => i < min n m ∧ ∃ xs ys, SqL K H a xs ∧ SqL K H b ys ∧ xs.length = n ∧ ys.length = m, fun i H v H' => ∃ T x y, H T = none ∧ v = .ref T ∧ H' = upd H T (.tup [x, y]) ∧ (∀ xs, SqL K H a xs → xs[i]? = some x) ∧ (∀ ys, SqL K H b ys → ys[i]? = some y), fun i H => i = min n m ∧ ∃ xs ys, SqL K H a xs ∧ SqL K H b ys ∧ xs.length = n ∧ ys.length = m⟩
section
variable {X : Cx}
noncomputable def iZip (K : PySem.W.Frag) (ta : TA) : TI := fun σ H R => ta σ H fun vs H1 => ∃ a b xs ys, vs = [.ref a, .ref b] ∧ SqL K H1 a xs ∧ SqL K H1 b ys ∧ R (Izp K a b xs.length ys.length) H1
end
theorem iZip_i {K : PySem.W.Frag} {σ : St} {H : Hp} {ta : TA} {R : It → Hp → Prop} (k : ta σ H fun vs H1 => ∃ a b xs ys, vs = [.ref a, .ref b] ∧ SqL K H1 a xs ∧ SqL K H1 b ys ∧ R (Izp K a b xs.length ys.length) H1) : iZip K ta σ H R := k
end L2
set_option Elab.async false
set_option linter.all false
set_option maxRecDepth 100000
set_option maxHeartbeats 4000000
namespace L2
open PySem PySem.Spec PyProof.Rows
section
variable {X : Cx} {pos : Pos} {e : Expr} {te : TE}
noncomputable def tF3i (te : TE) : TE := fun σ H Q => te σ H fun x H1 => ∃ i : Int, x = .int i ∧ i.natAbs.log2 < 1920 ∧ (Str.ofString (toString i)).length ≤ 100 ∧ ∀ z : Str, Q (.str z) H1
theorem tF3i_i {σ : St} {H : Hp} {Q : VK} (k : te σ H fun x H1 => ∃ i : Int, x = .int i ∧ i.natAbs.log2 < 1920 ∧ (Str.ofString (toString i)).length ≤ 100 ∧ ∀ z : Str, Q (.str z) H1) : tF3i te σ H Q := k
end
noncomputable def onX (H : Hp) (C : Addr) (E : XK) : Prop := ∀ ea H', Same H H' → IsX H' ea C [(rowS, .int 0)] → E (.ref C) (some ea) H'
theorem onX.mono {H H1 : Hp} {C : Addr} {E : XK} (h : onX H C E) (s : Same H H1) : onX H1 C E := fun ea H' s' i => h ea H' (s.trans s') i
end L2
set_option Elab.async false
set_option linter.all false
set_option maxRecDepth 100000
set_option maxHeartbeats 4000000
namespace L2
open PySem PySem.Spec PyProof.Rows
section
variable {X : Cx} {es rest : List Expr} {k : Nat} {pos : Pos} {env : Env} {te : TE} {t : TA}
noncomputable def notStar : Expr → Bool
  | .Starred _ _ => false
  | _ => true
theorem star_any {e : Expr} (h : notStar e = true) : starEach (e :: rest) env = (false, eval e env) :: starEach rest env := by
  rw [starEach]
  intro a p z
  rw [z] at h
  cases h
theorem pa_con {e : Expr} (ha : PE X e te) (hr : PA X rest t) (h : notStar e = true := by rfl) : PA X (e :: rest) (tCons te t) := pa_cons ha hr (star_any h)
theorem sw_tup {n : Option Expr} {l : Nat} : swapsWith (.Tuple es k pos) n l env = pure false := rfl
theorem sw_lst {n : Option Expr} {l : Nat} : swapsWith (.List es pos) n l env = pure false := rfl
theorem sw_bin {a b : Expr} {op : Operator} {n : Option Expr} {l : Nat} : swapsWith (.BinOp a op b pos) n l env = pure false := rfl
theorem sw_sub {a b : Expr} {n : Option Expr} {l : Nat} : swapsWith (.Subscript a b pos) n l env = pure false := rfl
theorem sw_call {a : Expr} {kw : List Keyword} {n : Option Expr} {l : Nat} : swapsWith (.Call a es kw pos) n l env = pure false := rfl
end
structure QA (X : Cx) (es : List Expr) (t : TA) : Prop where
  pa : PA X es t
section
variable {X : Cx} {a b e : Expr} {es rest : List Expr} {k : Nat} {pos pos' : Pos} {te ta tb : TE} {t : TA} {u v : TS} {st : Stmt} {x : Str}
theorem qe_of (h : PE X e te) : QE X e te := ⟨h⟩
theorem qs_of (h : PS X st u) : QS X st u := ⟨h⟩
theorem qa_nil : QA X [] tNil := ⟨pa_nil⟩
theorem qa_con (ha : QE X e te) (hr : QA X rest t) (h : notStar e = true) : QA X (e :: rest) (tCons te t) := ⟨pa_cons ha.pe hr.pa (star_any h)⟩
theorem qe_tup (h : QA X es t) : QE X (.Tuple es k pos) (tTup t) := ⟨pe_tup h.pa⟩
theorem qe_lst (h : QA X es t) : QE X (.List es pos) (tLst t) := ⟨pe_lst h.pa⟩
theorem qe_op {op : Operator} {r : R2} (ho : OpR X (binaryOp op) r) (ha : QE X a ta) (hb : QE X b tb) : QE X (.BinOp a op b pos) (tOp r ta tb) := ⟨pe_op ho ha.pe hb.pe⟩
theorem qe_ix {r : R2} (hr : IxR X r) (ha : QE X a ta) (hb : QE X b tb) (hs : PlainIx b) : QE X (.Subscript a b pos) (tOp r ta tb) := ⟨pe_ix hr ha.pe hb.pe hs⟩
theorem qs_ret (he : QE X e te) : QS X (.Return (some e) pos) (tRet te) := ⟨ps_ret he.pe⟩
theorem qs_if {c : Expr} {l m : List Stmt} {tc : TT} (hc : PT X c tc) (ha : QSs X l u) (hb : QSs X m v) : QS X (.If c l m pos) (tIfS tc u v) := ⟨ps_if hc ha.pss hb.pss⟩
theorem qss_nil : QSs X [] tNext := ⟨pss_nil⟩
end
end L2
set_option Elab.async false
set_option linter.all false
set_option maxRecDepth 100000
set_option maxHeartbeats 4000000
namespace L2
open PySem PySem.Spec PyProof.Rows PySem.W
section
variable {X : Cx}
end
section
variable {X : Cx} {pos : Pos} {e : Expr} {te : TE}
noncomputable def tFr (te : TE) : TE := fun σ H Q => te σ H fun x H1 => ∃ y, x = .str y ∧ (∀ c ∈ y.cps.toList, c < 16 ^ 8) ∧ y.length ≤ 5000 ∧ ∀ z : Str, Q (.str z) H1
theorem tFr_i {σ : St} {H : Hp} {Q : VK} (k : te σ H fun x H1 => ∃ y, x = .str y ∧ (∀ c ∈ y.cps.toList, c < 16 ^ 8) ∧ y.length ≤ 5000 ∧ ∀ z : Str, Q (.str z) H1) : tFr te σ H Q := k
noncomputable def tF2 (te : TE) : TE := fun σ H Q => te σ H fun x H1 => ∃ y, x = .str y ∧ y.length ≤ 5000 ∧ ∀ z : Str, Q (.str z) H1
theorem tF2_i {σ : St} {H : Hp} {Q : VK} (k : te σ H fun x H1 => ∃ y, x = .str y ∧ y.length ≤ 5000 ∧ ∀ z : Str, Q (.str z) H1) : tF2 te σ H Q := k
end
end L2
set_option Elab.async false
set_option linter.all false
set_option maxRecDepth 100000
set_option maxHeartbeats 4000000
namespace L2
open PySem PySem.Spec PyProof.Rows PySem.W
namespace FD
end FD
section
variable {prog : Program} {w : World} {A : Around} {R : Result → Shared → Prop}
noncomputable def TupsAt {K : Type} [DecidableEq K] (knd : PySem.KeyKind prog w K) (ts : List Addr) (kvs : List (K × Value)) (h : Heap) : Prop := ∀ (i : Nat) (T : Addr), ts[i]? = some T → ∃ (kk : K) (key val : Value), kvs[i]? = some (kk, val) ∧ knd.is kk key = true ∧ IsTup h T #[key, val]
theorem TupsAt.keep {K : Type} [DecidableEq K] {knd : PySem.KeyKind prog w K} {ts : List Addr} {kvs : List (K × Value)} {h h' : Heap} (x : TupsAt knd ts kvs h) (k : ∀ T ∈ ts, ∀ o, h.get? T = some o → h'.get? T = some o) : TupsAt knd ts kvs h' := fun i T e => by
  obtain ⟨kk, key, val, e1, e2, o, ho, r⟩ := x i T e
  exact ⟨kk, key, val, e1, e2, o, k T (List.mem_of_getElem? e) o ho, r⟩
end
section
variable {X : Cx}
end
end L2
set_option Elab.async false
set_option linter.all false
set_option maxRecDepth 100000
set_option maxHeartbeats 4000000
namespace L2
open PySem PySem.Spec PyProof.Rows PySem.W
section
variable {X : Cx}
end
noncomputable abbrev Rws := List (Str × Trm)
noncomputable def PutsOk (K : Frag) (H : Hp) (kvs : List (Key × V)) (rows : Rws) : Prop := Paired (fun (p : Key × V) (q : Str × Trm) => p.1 = Sum.inr q.1 ∧ Den K H p.2 q.2.data) kvs rows
noncomputable def lookR (rows : Rws) (x : Str) : Option Trm := (rows.find? fun r => decide (r.1 = x)).map (·.2)
noncomputable def putR (rows : Rws) (x : Str) (t : Trm) : Rws := if (rows.any fun r => decide (r.1 = x)) = true then rows.map (fun r => if r.1 = x then (r.1, t) else r) else rows ++ [(x, t)]
section
variable {K : Frag} {H H' : Hp} {kvs : List (Key × V)} {rows : Rws}
theorem PutsOk.mono (h : PutsOk K H kvs rows) (s : Same H H') : PutsOk K H' kvs rows := Paired.mapP h fun _ _ z => ⟨z.1, z.2.mono s⟩
theorem PutsOk.monoT (h : PutsOk K H kvs rows) (e : ∀ a xs, SqT K H a xs → SqT K H' a xs) : PutsOk K H' kvs rows := Paired.mapP h fun _ _ z => ⟨z.1, z.2.monoT e⟩
theorem PutsOk.len (h : PutsOk K H kvs rows) : kvs.length = rows.length := Paired.length h
theorem key_inr (a b : Str) : ((Sum.inr a : Key) = Sum.inr b) ↔ a = b := ⟨fun h => Sum.inr.inj h, fun h => by rw [h]⟩
theorem PutsOk.get : ∀ {kvs : List (Key × V)} {rows : Rws}, PutsOk K H kvs rows → ∀ x : Str, (lookR rows x = none ∧ valV kvs (Sum.inr x) = none) ∨ ∃ t v, lookR rows x = some t ∧ valV kvs (Sum.inr x) = some v ∧ Den K H v t.data
  | [], [], _, x => .inl ⟨rfl, rfl⟩
  | (k, v) :: kr, (y, t) :: rr, .cons h r, x => by
    obtain ⟨e1, e2⟩ := h
    have e1 : k = Sum.inr y := e1
    subst e1
    by_cases hx : y = x
    · subst hx
      refine .inr ⟨t, v, ?_, ?_, e2⟩
      · simp [lookR]
      · simp [valV]
    · have ih := PutsOk.get r x
      have n1 : lookR ((y, t) :: rr) x = lookR rr x := by simp [lookR, hx]
      have n2 : valV ((Sum.inr y, v) :: kr) (Sum.inr x) = valV kr (Sum.inr x) := by simp [valV, hx]
      rw [n1, n2]
      exact ih
theorem PutsOk.any : ∀ {kvs : List (Key × V)} {rows : Rws}, PutsOk K H kvs rows → ∀ x : Str, (kvs.any fun kv => decide (kv.1 = Sum.inr x)) = rows.any fun r => decide (r.1 = x)
  | [], [], _, x => rfl
  | (k, v) :: kr, (y, t) :: rr, .cons h r, x => by
    have e1 : k = Sum.inr y := h.1
    subst e1
    rw [List.any_cons, List.any_cons, PutsOk.any r x]
    congr 1
    exact decide_eq_decide.mpr (key_inr y x)
theorem PutsOk.put (h : PutsOk K H kvs rows) {x : Str} {v : V} {t : Trm} (d : Den K H v t.data) : PutsOk K H (putK kvs (Sum.inr x) v) (putR rows x t) := by
  unfold putK putR
  rw [h.any x]
  split
  · rename_i hz0
    clear hz0
    induction kvs generalizing rows with
    | nil => cases rows with | nil => exact .nil | cons _ _ => cases h
    | cons p r ih =>
      cases rows with
      | nil => cases h
      | cons q m =>
        cases h with
        | cons e f =>
          refine .cons ?_ (ih f)
          dsimp only
          obtain ⟨e1, e2⟩ := e
          by_cases hx : q.1 = x
          · rw [if_pos hx, if_pos (by rw [e1, hx])]
            exact ⟨e1, d⟩
          · rw [if_neg hx, if_neg (by rw [e1]; exact fun z => hx (Sum.inr.inj z))]
            exact ⟨e1, e2⟩
  · rename_i hz0
    clear hz0
    induction kvs generalizing rows with
    | nil => cases rows with | nil => exact .cons ⟨rfl, d⟩ .nil | cons _ _ => cases h
    | cons p r ih =>
      cases rows with
      | nil => cases h
      | cons q m =>
        cases h with
        | cons e f => exact .cons e (ih f)
theorem PutsOk.mem : ∀ {kvs : List (Key × V)} {rows : Rws}, PutsOk K H kvs rows → ∀ {k : Key} {v : V}, (k, v) ∈ kvs → ∃ x t, (x, t) ∈ rows ∧ k = Sum.inr x ∧ Den K H v t.data
  | [], [], _, k, v, hm => by simp at hm
  | p :: kr, q :: rr, .cons h r, k, v, hm => by
    rcases List.mem_cons.mp hm with e | e
    · subst e
      exact ⟨q.1, q.2, by simp, h.1, h.2⟩
    · obtain ⟨x, t, h1, h2, h3⟩ := PutsOk.mem r e
      exact ⟨x, t, List.mem_cons_of_mem _ h1, h2, h3⟩
end
end L2
set_option Elab.async false
set_option linter.all false
set_option maxRecDepth 100000
set_option maxHeartbeats 4000000
namespace L2
open PySem PySem.Spec PyProof.Rows PySem.W
section
variable {X : Cx} {pins : List (Addr × Obj)} {σ : St} {H : Hp} {s : Shared}
theorem eqAt_tups (I : Inv X pins σ H s) {A : Around} {a b : Addr} {us us' : List V} (hs : SqT X.K H a us) (hs' : SqT X.K H b us') (hab : a ≠ b) (e : Nat → Bool) (hu : A.units + 1 < cLine)
    (items : ∀ j x x' w w', us[j]? = some x → us'[j]? = some x' → RelV x w → RelV x' w' → SeqAt.EqAt A.in1 s w w' (e j)) : SeqAt.EqAt A s (.ref a) (.ref b) ((List.range (min us.length us'.length)).all e && (us.length == us'.length)) := by
  obtain ⟨its, rv, p, _⟩ := I.tuple hs
  obtain ⟨its', rv', p', _⟩ := I.tuple hs'
  have l1 := rv.length
  have l2 := rv'.length
  have key := SeqAt.RcAt.tuples (A := A) (e := e) (show s.heap.IsTuple a its.toArray from p) (show s.heap.IsTuple b its'.toArray from p') (by omega) (fun j h1 h2 => by
    have h1 : j < its.length := by simpa using h1
    have h2 : j < its'.length := by simpa using h2
    have x1 : us[j]? = some us[j] := List.getElem?_eq_getElem (by omega)
    have x2 : us'[j]? = some us'[j] := List.getElem?_eq_getElem (by omega)
    obtain ⟨w1, y1, z1⟩ := rv.get x1
    obtain ⟨w2, y2, z2⟩ := rv'.get x2
    have q1 : its.toArray[j] = w1 := by
      have := List.getElem?_eq_getElem h1
      rw [y1] at this
      simpa using (Option.some.inj this).symm
    have q2 : its'.toArray[j] = w2 := by
      have := List.getElem?_eq_getElem h2
      rw [y2] at this
      simpa using (Option.some.inj this).symm
    rw [q1, q2]
    exact items j _ _ _ _ x1 x2 z1 z2)
  rw [List.size_toArray, List.size_toArray, ← l1, ← l2] at key
  exact SeqAt.EqAt.of_refs hab key
end
section
variable {X : Cx}
end
end L2
set_option Elab.async false
set_option linter.all false
set_option maxRecDepth 100000
set_option maxHeartbeats 4000000
namespace L2
open PySem PySem.Spec PyProof.Rows PySem.W
section
variable {prog : Program} {w : World} {A : Around} {E : Value → Shared → Prop} {s : Shared}
noncomputable abbrev IsZipF (h : Heap) (z TI TO : Addr) (f0 : Value) (f1 : Bool) : Prop :=
  h.get? z = some { cls := .type "zip", dict := none, data := .fields #[f0, .bool f1, .bool false, .ref TI, .ref TO], slots := #[] }
end
end L2
set_option Elab.async false
set_option linter.all false
set_option maxRecDepth 100000
set_option maxHeartbeats 4000000
namespace L2
open PySem PySem.Spec PyProof.Rows PySem.W
section
variable {prog : Program} {w : World} {A : Around} {E : Value → Shared → Prop} {s : Shared}
noncomputable def ZS (h : Heap) (z TI TO i1 i2 t1 t2 S : Addr) (i : Nat) : Prop :=
  ((IsZip h z TI TO .none ∧ ∃ a b, IsPair h TO a b) ∨ ∃ (T : Addr) (f1 : Bool) (o : Obj), IsZipF h z TI TO (rawInt T) f1 ∧ h.get? T = some o ∧ T ≠ z ∧ T ≠ TO ∧ T ≠ i1 ∧ T ≠ i2 ∧ T ≠ S) ∧ IsPair h TI (.ref i1) (.ref i2) ∧ h.IsTupleIter i1 t1 i ∧ h.IsTupleIter i2 t2 i
theorem ZS.keep {h h' : Heap} {z TI TO i1 i2 t1 t2 S : Addr} {i : Nat} (st : ZS h z TI TO i1 i2 t1 t2 S i) (k : ∀ c o, c ≠ S → h.get? c = some o → h'.get? c = some o) (n : S ≠ z ∧ S ≠ TI ∧ S ≠ TO ∧ S ≠ i1 ∧ S ≠ i2) : ZS h' z TI TO i1 i2 t1 t2 S i := by
  obtain ⟨q, hTI, h1, h2⟩ := st
  refine ⟨?_, k _ _ n.2.1.symm hTI, h1.at fun o e => k _ o n.2.2.2.1.symm e, h2.at fun o e => k _ o n.2.2.2.2.symm e⟩
  rcases q with ⟨hz, a, b, hTO⟩ | ⟨T, f1, o, hz, hT, d⟩
  · exact .inl ⟨k _ _ n.1.symm hz, a, b, k _ _ n.2.2.1.symm hTO⟩
  · exact .inr ⟨T, f1, o, k _ _ n.1.symm hz, k _ _ d.2.2.2.2 hT, d⟩
end
section
variable {X : Cx} {pins : List (Addr × Obj)} {σ : St}
end
end L2
set_option Elab.async false
set_option linter.all false
set_option maxRecDepth 100000
set_option maxHeartbeats 4000000
namespace L2
open PySem PySem.Spec PyProof.Rows PySem.W
section
variable {X : Cx}
noncomputable def mNeKs (K : PySem.W.Frag) : R2 := fun x y H Q => ∃ (p : Addr) (k1 : List Key), x = .ref p ∧ SqT K H p (k1.map kV) ∧ ((y = .non ∧ Q (.bl true) H) ∨ ∃ (q : Addr) (k2 : List Key), y = .ref q ∧ SqT K H q (k2.map kV) ∧ Q (.bl (!decide (k1 = k2))) H)
theorem ko_neKs (K : PySem.W.Frag) (hK : X.K = K) (hu : X.A.units + 150 < cLine) : OpR X (compareOp .NotEq) (mNeKs K) := by
  subst hK
  intro pins s σ H x y v u Q I rx ry h
  obtain ⟨p, k1, rfl, hp, h⟩ := h
  cases rx
  obtain ⟨its, rv, p1, _⟩ := I.tuple hp
  rcases h with ⟨rfl, k⟩ | ⟨q, k2, rfl, hq, k⟩
  · cases ry
    exact SeqAt.RcNeAt.tuple_none (show s.heap.IsTuple p its.toArray from p1) (by omega) X.prog X.w _ _ ⟨.bl true, H, I, rfl, k⟩
  cases ry
  obtain ⟨its', rv', p2, _⟩ := I.tuple hq
  have l1 := rv.length
  have l2 := rv'.length
  rw [List.length_map] at l1 l2
  refine SeqAt.RcNeAt.tuples (e := fun j => decide (k1[j]? = k2[j]?)) (show s.heap.IsTuple p its.toArray from p1) (show s.heap.IsTuple q its'.toArray from p2) (by omega) (fun j h1 h2 => ?_) X.prog X.w _ _ ?_
  · have g1 : j < its.length := by simpa using h1
    have g2 : j < its'.length := by simpa using h2
    have j1 : j < k1.length := by omega
    have j2 : j < k2.length := by omega
    obtain ⟨w1, y1, z1⟩ := rv.get (show (k1.map kV)[j]? = some (kV k1[j]) by rw [List.getElem?_map, List.getElem?_eq_getElem j1]; rfl)
    obtain ⟨w2, y2, z2⟩ := rv'.get (show (k2.map kV)[j]? = some (kV k2[j]) by rw [List.getElem?_map, List.getElem?_eq_getElem j2]; rfl)
    have q1 : its.toArray[j] = w1 := by
      have := List.getElem?_eq_getElem g1
      rw [y1] at this
      simpa using (Option.some.inj this).symm
    have q2 : its'.toArray[j] = w2 := by
      have := List.getElem?_eq_getElem g2
      rw [y2] at this
      simpa using (Option.some.inj this).symm
    rw [q1, q2]
    have e0 : decide (k1[j]? = k2[j]?) = decide (k1[j] = k2[j]) := by rw [List.getElem?_eq_getElem j1, List.getElem?_eq_getElem j2]; exact decide_eq_decide.mpr ⟨fun h => Option.some.inj h, fun h => by rw [h]⟩
    rw [e0]
    exact eqAt_kV z1 z2
  · rw [List.size_toArray, List.size_toArray, ← l1, ← l2, all_eq]
    exact ⟨.bl _, H, I, rfl, k⟩
end
end L2
set_option Elab.async false
set_option linter.all false
set_option maxRecDepth 100000
set_option maxHeartbeats 4000000
namespace L2
open PySem PySem.Spec PyProof.Rows PySem.W
section
variable {X : Cx} {tg : Expr}
noncomputable def NFz (X : Cx) (a : Addr) : Prop := ∀ o u, X.H₀ a ≠ some (.frz o u)
end
end L2
set_option Elab.async false
set_option linter.all false
set_option maxRecDepth 100000
set_option maxHeartbeats 4000000
namespace L2
open PySem PySem.Spec PyProof.Rows PySem.W
section
variable {X : Cx}
end
end L2
set_option Elab.async false
set_option linter.all false
set_option maxRecDepth 100000
set_option maxHeartbeats 4000000
namespace L2
open PySem PySem.Spec PyProof.Rows PySem.W
noncomputable def IsRv (h : Heap) (a t : Addr) (i : Int) : Prop := ∃ o, h.get? a = some o ∧ o.cls = .type "reversed" ∧ o.data = .fields #[.ref t, rawInt i]
theorem IsRv.typeIs {s : Shared} {a t : Addr} {i : Int} (x : IsRv s.heap a t i) : s.TypeIs (.ref a) "reversed" := let ⟨o, ho, hc, _⟩ := x; ⟨o, ho, hc⟩
theorem IsRv.at {h h' : Heap} {a l : Addr} {i : Int} (x : IsRv h a l i) (e : ∀ o, h.get? a = some o → h'.get? a = some o) : IsRv h' a l i := let ⟨o, ho, r⟩ := x; ⟨o, e _ ho, r⟩
section
variable {prog : Program} {w : World} {A : Around} {E : Value → Shared → Prop} {s : Shared}
end
end L2
set_option Elab.async false
set_option linter.all false
set_option maxRecDepth 100000
set_option maxHeartbeats 4000000
namespace L2
open PySem PySem.Spec PyProof.Rows PySem.W
section
variable {X : Cx}
end
end L2
set_option Elab.async false
set_option linter.all false
set_option maxRecDepth 100000
set_option maxHeartbeats 4000000
namespace L2
open PySem PySem.Spec PyProof.Rows PySem.W
section
variable {X : Cx} {pos : Pos} {e e2 : Expr} {te te2 : TE}
end
section
variable {X : Cx}
end
end L2
set_option Elab.async false
set_option linter.all false
set_option maxRecDepth 100000
set_option maxHeartbeats 4000000
namespace L2
open PySem PySem.Spec PyProof.Rows
section
variable {X : Cx}
end
section
variable {X : Cx}
end
section
variable {K : PySem.W.Frag} {σ : St} {H : Hp} {Q : VK} {D : Ends} {ta tv : TE} {t : TA} {f m : Str} {C : Addr} {sp : Sp} {dvs : List V} {E : XK}
end
end L2
set_option Elab.async false
set_option linter.all false
set_option maxRecDepth 100000
set_option maxHeartbeats 4000000
namespace L2
open PySem PySem.Spec PyProof.Rows PySem.W
section
variable {X : Cx}
end
end L2
set_option Elab.async false
set_option linter.all false
set_option maxRecDepth 100000
set_option maxHeartbeats 4000000
namespace L2
open PySem PySem.Spec PyProof.Rows PySem.W
section
variable {X : Cx}
end
section
variable {X : Cx} {tg : Expr}
end
section
variable {X : Cx} {pos : Pos} {e e2 : Expr} {te te2 : TE}
end
end L2
set_option Elab.async false
set_option linter.all false
set_option maxRecDepth 100000
set_option maxHeartbeats 4000000
namespace L2
open PySem PySem.Spec PyProof.Rows PySem.W
section
variable {X : Cx} {pins : List (Addr × Obj)} {σ : St} {H : Hp} {s : Shared}
end
section
variable {P : Program} {w : World} {A : Around} {E : Value → Shared → Prop} {s : Shared} {d a : Addr} {o : Obj} {ep : Nat}
end
section
variable {X : Cx}
end
end L2
set_option Elab.async false
set_option linter.all false
set_option maxRecDepth 100000
set_option maxHeartbeats 4000000
namespace L2
open PySem PySem.Spec PyProof.Rows PySem.W
section
variable {X : Cx}
end
section
variable {X : Cx} {e : Expr} {ta : TE} {f : Str} {pos : Pos}
end
end L2
set_option Elab.async false
set_option linter.all false
set_option maxRecDepth 100000
set_option maxHeartbeats 4000000
namespace L2
open PySem PySem.Spec PyProof.Rows PySem.W
section
variable {X : Cx}
end
section
variable {X : Cx}
noncomputable def mIns : V → List V → Hp → VK → Prop := fun x vs H Q => ∃ l i y xs, x = .ref l ∧ vs = [.int i, y] ∧ H l = some (.lst xs) ∧ 0 ≤ i ∧ i.toNat ≤ xs.length ∧ xs.length < 100000 ∧ Q .non (upd H l (.lst (xs.take i.toNat ++ y :: xs.drop i.toNat)))
theorem mm_insert : MtR X "list.insert" mIns := by
  intro pins s σ H x vs v us Q I rx rv h
  obtain ⟨l, i, y, xs, rfl, rfl, hH, h0, h1, hz, q⟩ := h
  cases rx
  obtain ⟨u, w, rfl, r1, r2⟩ := vals2 rv
  obtain ⟨t, rfl⟩ := r1
  obtain ⟨z, its, n, r, hl, e⟩ := I.lstM hH
  have hlen := r.length
  refine call_meets F.slot_list_insert ⟨_, e, rfl⟩ F.entry_list_insert (F.args_list_insert_3 _ _ _) (PySem.AutoSeq1.list_insert_list_int_val_1 l its.toArray n i t w ?_ (by rw [List.size_toArray]; exact ln (by omega))) ⟨e, ?_⟩
  · have : Builtin.List.listFitsIndex i = true := by
      unfold Builtin.List.listFitsIndex
      rw [Bool.and_eq_true]
      exact ⟨decide_eq_true (by omega), decide_eq_true (by omega)⟩
    rw [this]
    simp
  refine ⟨.non, _, I.lset (its' := its.take i.toNat ++ w :: its.drop i.toNat) hH e ?_ ((Vals.take _ r).append (.cons r2 (Vals.drop _ r))) ?_, rfl, q⟩
  · show (its.toArray.extract 0 (if i < 0 then (i + (its.toArray.size : Int)).toNat else min i.toNat its.toArray.size)).push w ++ its.toArray.extract (if i < 0 then (i + (its.toArray.size : Int)).toNat else min i.toNat its.toArray.size) = _
    rw [if_neg (by omega), Nat.min_eq_left (by rw [List.size_toArray]; omega)]
    apply Array.toList_inj.mp
    simp
    rw [List.take_of_length_le (by rw [List.length_drop]; omega)]
  · rw [List.length_append, List.length_cons, List.length_take, List.length_drop]
    exact ln (by omega)
theorem mIns_i {H : Hp} {Q : VK} {l : Addr} {i : Int} {y : V} {xs : List V} (h : H l = some (.lst xs)) (h0 : 0 ≤ i) (h1 : i.toNat ≤ xs.length) (hz : xs.length < 100000) (k : Q .non (upd H l (.lst (xs.take i.toNat ++ y :: xs.drop i.toNat)))) : mIns (.ref l) [.int i, y] H Q := ⟨l, i, y, xs, rfl, rfl, h, h0, h1, hz, k⟩
end
end L2
set_option Elab.async false
set_option linter.all false
set_option maxRecDepth 100000
set_option maxHeartbeats 4000000
namespace L2
open PySem PySem.Spec PyProof.Rows PySem.W
section
variable {X : Cx} {ea : Addr} {tg : Expr}
end
section
variable {X : Cx} {k : Nat} {f C C' : Addr} {fd : FuncData} {ps : List Str} {sp : Sp} {dvs : List V} {ds : List Value} {m nm cx : Str} {pos apos cp hpos tpos xpos : Pos} {e o : Expr} {es : List Expr} {ta : TE} {t : TA} {bm' : List Value} {b0 : Stmt} {suite : List Stmt} {ts : Addr → TS} {n : Nat}
end
end L2
set_option Elab.async false
set_option linter.all false
set_option maxRecDepth 100000
set_option maxHeartbeats 4000000
namespace L2
open PySem PySem.Spec PyProof.Rows PySem.W
section
variable {X : Cx}
end
end L2
set_option Elab.async false
set_option linter.all false
set_option maxRecDepth 100000
set_option maxHeartbeats 4000000
namespace L2
open PySem PySem.Spec PyProof.Rows
section
variable {X : Cx} {tg : Expr}
end
end L2
set_option Elab.async false
set_option linter.all false
set_option maxRecDepth 100000
set_option maxHeartbeats 4000000
namespace L2
open PySem PySem.Spec PyProof.Rows
section
variable {X : Cx}
end
end L2
set_option Elab.async false
set_option linter.all false
set_option maxRecDepth 100000
set_option maxHeartbeats 4000000
namespace L2
open PySem PySem.Spec PyProof.Rows
section
variable {X : Cx}
end
end L2
set_option Elab.async false
set_option linter.all false
set_option maxRecDepth 100000
set_option maxHeartbeats 4000000
namespace L2
open PySem PySem.Spec PyProof.Rows
section
variable {X : Cx}
end
end L2
set_option Elab.async false
set_option linter.all false
set_option maxRecDepth 100000
set_option maxHeartbeats 4000000
namespace L2
open PySem PySem.Spec PyProof.Rows PySem.W PySem.NumText PySem.Calls
section
variable {X : Cx}
end
end L2
set_option Elab.async false
set_option linter.all false
set_option maxRecDepth 100000
set_option maxHeartbeats 4000000
namespace LS
open PySem PySem.SetTable
noncomputable def Inc (l : List Nat) : Prop := l.Pairwise (· < ·)
theorem below_go (xs : Array Nat) (j : Nat) (hs : Inc xs.toList) : ∀ (fuel lo hi : Nat), lo ≤ hi → hi ≤ xs.size → hi - lo < 2 ^ fuel → (∀ k, k < lo → xs.getD k j < j) → (∀ k, hi ≤ k → k < xs.size → j ≤ xs.getD k j) →
    SetTable.below.go xs j fuel lo hi ≤ xs.size ∧ (∀ k, k < SetTable.below.go xs j fuel lo hi → xs.getD k j < j) ∧ (∀ k, SetTable.below.go xs j fuel lo hi ≤ k → k < xs.size → j ≤ xs.getD k j)
  | 0, lo, hi, h1, h2, h3, h4, h5 => by
    have : lo = hi := by simp at h3; omega
    subst this
    exact ⟨h2, h4, h5⟩
  | fuel + 1, lo, hi, h1, h2, h3, h4, h5 => by
    have mono : ∀ {a b : Nat}, a ≤ b → b < xs.size → xs.getD a j ≤ xs.getD b j := fun {a b} hab hb => by
      rcases Nat.eq_or_lt_of_le hab with e | e
      · rw [e]; exact Nat.le_refl _
      · have := List.pairwise_iff_getElem.mp hs a b (by simpa using Nat.lt_trans e hb) (by simpa using hb) e
        simp only [Array.getElem_toList] at this
        simp only [Array.getD, dif_pos (Nat.lt_trans e hb), dif_pos hb]
        exact Nat.le_of_lt this
    unfold SetTable.below.go
    by_cases hl : lo < hi
    · rw [if_pos hl]
      dsimp only
      have hm1 : lo ≤ (lo + hi) / 2 := by omega
      have hm2 : (lo + hi) / 2 < hi := by omega
      rw [Nat.pow_succ] at h3
      by_cases hc : xs.getD ((lo + hi) / 2) j < j
      · rw [if_pos hc]
        exact below_go xs j hs fuel _ hi (by omega) h2 (by omega) (fun k hk => Nat.lt_of_le_of_lt (mono (show k ≤ (lo + hi) / 2 by omega) (by omega)) hc) h5
      · rw [if_neg hc]
        exact below_go xs j hs fuel lo _ hm1 (by omega) (by omega) h4 (fun k hk hk2 => Nat.le_trans (Nat.le_of_not_lt hc) (mono hk hk2))
    · rw [if_neg hl]
      have : lo = hi := by omega
      subst this
      exact ⟨h2, h4, h5⟩
theorem below_spec (xs : Array Nat) (j : Nat) (hs : Inc xs.toList) : SetTable.below xs j ≤ xs.size ∧ (∀ k, k < SetTable.below xs j → xs.getD k j < j) ∧ (∀ k, SetTable.below xs j ≤ k → k < xs.size → j ≤ xs.getD k j) :=
  below_go xs j hs xs.size 0 xs.size (Nat.zero_le _) (Nat.le_refl _) (by rw [Nat.sub_zero]; exact Nat.lt_two_pow_self) (fun k h => absurd h (Nat.not_lt_zero k)) (fun k h1 h2 => absurd h2 (by omega))
theorem below_at {xs : Array Nat} (hs : Inc xs.toList) {i : Nat} (hi : i < xs.size) : SetTable.below xs xs[i] = i := by
  obtain ⟨h1, h2, h3⟩ := below_spec xs xs[i] hs
  have lt : ∀ {a b : Nat} (hab : a < b) (hb : b < xs.size), xs[a] < xs[b] := fun {a b} hab hb => by
    have := List.pairwise_iff_getElem.mp hs a b (by simpa using Nat.lt_trans hab hb) (by simpa using hb) hab
    simpa using this
  rcases Nat.lt_trichotomy (SetTable.below xs xs[i]) i with h | h | h
  · have := h3 _ (Nat.le_refl _) (Nat.lt_trans h hi)
    simp only [Array.getD, dif_pos (Nat.lt_trans h hi)] at this
    have := lt h hi
    simp only [Array.getInternal_eq_getElem] at *
    omega
  · exact h
  · have := h2 i h
    simp only [Array.getD, dif_pos hi] at this
    simp only [Array.getInternal_eq_getElem] at *
    omega
theorem below_cut {xs : Array Nat} (hs : Inc xs.toList) (j : Nat) : (∀ y ∈ xs.toList.take (SetTable.below xs j), y < j) ∧ ∀ y ∈ xs.toList.drop (SetTable.below xs j), j ≤ y := by
  obtain ⟨h1, h2, h3⟩ := below_spec xs j hs
  refine ⟨fun y hy => ?_, fun y hy => ?_⟩
  · obtain ⟨k, hk, rfl⟩ := List.getElem_of_mem hy
    rw [List.length_take] at hk
    have hk2 : k < xs.size := by simp at hk; omega
    have := h2 k (by omega)
    simp only [Array.getD, dif_pos hk2] at this
    rw [List.getElem_take, Array.getElem_toList]
    exact this
  · obtain ⟨k, hk, rfl⟩ := List.getElem_of_mem hy
    rw [List.length_drop] at hk
    have hk2 : SetTable.below xs j + k < xs.size := by simp at hk; omega
    have := h3 (SetTable.below xs j + k) (by omega) hk2
    simp only [Array.getD, dif_pos hk2] at this
    rw [List.getElem_drop, Array.getElem_toList]
    exact this
theorem slot_live {t : SetTable} (hs : Inc t.place.toList) {i : Nat} (hi : i < t.place.size) : t.slot t.place[i] = .live i := by
  unfold SetTable.slot
  dsimp only
  rw [below_at hs hi]
  simp [hi]
theorem slot_empty {t : SetTable} (hd : t.dummies = #[]) {j : Nat} (hj : j ∉ t.place.toList) : t.slot j = .empty := by
  unfold SetTable.slot
  dsimp only
  have e : (t.place[SetTable.below t.place j]? == some j) = false := by
    cases h : t.place[SetTable.below t.place j]? with
    | none => rfl
    | some y =>
      have : y ∈ t.place.toList := by
        rw [← Array.getElem?_toList] at h
        exact List.mem_of_getElem? h
      have ne : y ≠ j := fun e => hj (e ▸ this)
      simpa using ne
  rw [e, hd]
  simp [SetTable.has]
end LS
set_option Elab.async false
set_option linter.all false
set_option maxRecDepth 100000
set_option maxHeartbeats 4000000
namespace LS
open PySem PySem.SetTable
noncomputable def sts (t : SetTable) (h : Int) : Nat → Probe
  | 0 => t.probeStart h
  | n + 1 => t.advance (sts t h n)
noncomputable def lps (m : Nat) (b : Nat) : Nat → Nat × Nat
  | 0 => (b % (m + 1), b)
  | n + 1 => leap m (lps m b n).1 (lps m b n).2
theorem sts_run {t : SetTable} {h : Int} {n r : Nat} (e : (sts t h n).more = r) : ∀ k, k ≤ r → sts t h (n + k) = { sts t h n with j := (sts t h n).j + k, more := r - k }
  | 0, _ => by rw [Nat.add_zero, Nat.add_zero, Nat.sub_zero, ← e]
  | k + 1, hk => by
    have ih := sts_run e k (by omega)
    show t.advance (sts t h (n + k)) = _
    rw [ih]
    unfold SetTable.advance
    rw [if_pos (show r - k > 0 by omega)]
    simp only [Probe.mk.injEq, and_true, true_and]
    exact ⟨by omega, by omega⟩
theorem runEnd_le (m i : Nat) : runEnd m i - i ≤ 9 := by unfold runEnd; split <;> omega
theorem sts_leap (t : SetTable) (h : Int) : ∀ n, ∃ k, k ≤ 10 * n ∧ sts t h k = { j := (lps t.mask (bits h) n).1, more := runEnd t.mask (lps t.mask (bits h) n).1 - (lps t.mask (bits h) n).1, i := (lps t.mask (bits h) n).1, perturb := (lps t.mask (bits h) n).2, dummy := none }
  | 0 => ⟨0, by omega, rfl⟩
  | n + 1 => by
    obtain ⟨k, hk, e⟩ := sts_leap t h n
    have hr := runEnd_le t.mask (lps t.mask (bits h) n).1
    have := sts_run (t := t) (h := h) (n := k) (r := runEnd t.mask (lps t.mask (bits h) n).1 - (lps t.mask (bits h) n).1) (by rw [e]) _ (Nat.le_refl _)
    refine ⟨k + (runEnd t.mask (lps t.mask (bits h) n).1 - (lps t.mask (bits h) n).1) + 1, by omega, ?_⟩
    show t.advance (sts t h (k + _)) = _
    rw [this, e]
    unfold SetTable.advance
    rw [Nat.sub_self, if_neg (show ¬ (0 : Nat) > 0 by omega)]
    rfl
theorem lps_pert (m b : Nat) : ∀ n, (lps m b n).2 = b / 32 ^ n
  | 0 => by simp [lps]
  | n + 1 => by
    show (lps m b n).2 / 32 = _
    rw [lps_pert m b n, Nat.div_div_eq_div_mul, Nat.pow_succ]
noncomputable def it5 (m : Nat) : Nat → Nat → Nat
  | 0, i => i
  | k + 1, i => (it5 m k i * 5 + 1) % (m + 1)
theorem lps_late {m b : Nat} (hb : b < 2 ^ 64) : ∀ k, (lps m b (13 + k)).1 = it5 m k (lps m b 13).1
  | 0 => rfl
  | k + 1 => by
    show ((lps m b (13 + k)).1 * 5 + 1 + (lps m b (13 + k)).2 / 32) % (m + 1) = (it5 m k (lps m b 13).1 * 5 + 1) % (m + 1)
    have e : (lps m b (13 + k)).2 = 0 := by
      rw [lps_pert]
      refine Nat.div_eq_of_lt (Nat.lt_of_lt_of_le hb ?_)
      rw [Nat.pow_add]
      exact Nat.le_trans (by decide) (Nat.le_mul_of_pos_right _ (Nat.pow_pos (by decide)))
    rw [e, lps_late hb k]
theorem it5_all : ∀ m ∈ [7, 15, 31], ∀ i, i ≤ m → ∀ j, j ≤ m → ∃ k, k ≤ m ∧ it5 m k i = j := by
  have h7 : ∀ i, i < 8 → ∀ j, j < 8 → ∃ k, k < 8 ∧ it5 7 k i = j := by decide +kernel
  have h15 : ∀ i, i < 16 → ∀ j, j < 16 → ∃ k, k < 16 ∧ it5 15 k i = j := by decide +kernel
  have h31 : ∀ i, i < 32 → ∀ j, j < 32 → ∃ k, k < 32 ∧ it5 31 k i = j := by decide +kernel
  intro m hm i hi j hj
  simp only [List.mem_cons, List.not_mem_nil, or_false] at hm
  rcases hm with rfl | rfl | rfl
  · obtain ⟨k, a, b⟩ := h7 i (by omega) j (by omega); exact ⟨k, by omega, b⟩
  · obtain ⟨k, a, b⟩ := h15 i (by omega) j (by omega); exact ⟨k, by omega, b⟩
  · obtain ⟨k, a, b⟩ := h31 i (by omega) j (by omega); exact ⟨k, by omega, b⟩
theorem lps_le {m b : Nat} : ∀ n, (lps m b n).1 ≤ m
  | 0 => Nat.le_of_lt_succ (Nat.mod_lt _ (Nat.succ_pos m))
  | n + 1 => Nat.le_of_lt_succ (Nat.mod_lt _ (Nat.succ_pos m))
theorem bits_lt (h : Int) : bits h < 2 ^ 64 := by
  unfold SetTable.bits
  have := Int.emod_lt_of_pos h (show (0 : Int) < 2 ^ 64 by decide)
  have := Int.emod_nonneg h (show (2 ^ 64 : Int) ≠ 0 by decide)
  omega
theorem sts_all {t : SetTable} (hm : t.mask ∈ [7, 15, 31]) (h : Int) {j : Nat} (hj : j ≤ t.mask) : ∃ n, n < 10 * (t.mask + 14) ∧ (sts t h n).j = j := by
  obtain ⟨k, hk, e⟩ := it5_all t.mask hm _ (lps_le (b := bits h) 13) j hj
  obtain ⟨n, hn, en⟩ := sts_leap t h (13 + k)
  refine ⟨n, by omega, ?_⟩
  rw [en]
  show (lps t.mask (bits h) (13 + k)).1 = j
  rw [lps_late (bits_lt h), e]
theorem least {P : Nat → Prop} : ∀ n, P n → ∃ k, k ≤ n ∧ P k ∧ ∀ i, i < k → ¬ P i := by
  intro n
  induction n using Nat.strongRecOn with
  | _ n ih =>
    intro hn
    by_cases h : ∃ m, m < n ∧ P m
    · obtain ⟨m, h1, h2⟩ := h
      obtain ⟨k, a, b, c⟩ := ih m h1 h2
      exact ⟨k, by omega, b, c⟩
    · exact ⟨n, Nat.le_refl _, hn, fun i hi hp => h ⟨i, hi, hp⟩⟩
theorem sts_dummy (t : SetTable) (h : Int) : ∀ n, (sts t h n).dummy = none
  | 0 => rfl
  | n + 1 => by
    show (t.advance (sts t h n)).dummy = none
    unfold SetTable.advance
    split
    · exact sts_dummy t h n
    · exact sts_dummy t h n
theorem probe_go (t : SetTable) (ha : Nat → Int) (h : Int) (nd : ∀ j, t.slot j ≠ .dummy) : ∀ (fuel n N : Nat), n ≤ N → N < n + fuel → t.slot (sts t h N).j = .empty → (∀ k, k < N → t.slot (sts t h k).j ≠ .empty) →
    SetTable.probe.go t ha h fuel (sts t h n) = some (.empty (sts t h N).j none) ∧ (∀ k i, n ≤ k → k < N → t.slot (sts t h k).j = .live i → ha i ≠ h) ∨
    ∃ k i, n ≤ k ∧ k < N ∧ t.slot (sts t h k).j = .live i ∧ ha i = h ∧ SetTable.probe.go t ha h fuel (sts t h n) = some (.candidate (sts t h k).j i (sts t h (k + 1))) ∧ ∀ k' i', n ≤ k' → k' < k → t.slot (sts t h k').j = .live i' → ha i' ≠ h
  | 0, n, N, h1, h2, _, _ => by omega
  | fuel + 1, n, N, h1, h2, h3, h4 => by
    unfold SetTable.probe.go
    cases hs : t.slot (sts t h n).j with
    | empty =>
      have : n = N := by
        rcases Nat.eq_or_lt_of_le h1 with e | e
        · exact e
        · exact absurd hs (h4 n e)
      subst this
      exact .inl ⟨by simp [sts_dummy], fun k i a b => by omega⟩
    | dummy => exact absurd hs (nd _)
    | live i =>
      have hlt : n < N := by
        rcases Nat.eq_or_lt_of_le h1 with e | e
        · subst e; rw [hs] at h3; cases h3
        · exact e
      dsimp only
      by_cases hh : ha i = h
      · rw [if_pos (by simpa using hh)]
        exact .inr ⟨n, i, Nat.le_refl _, hlt, hs, hh, rfl, fun k' i' a b => by omega⟩
      · rw [if_neg (by simpa using hh)]
        have first : ∀ k i', n ≤ k → k < n + 1 → t.slot (sts t h k).j = .live i' → ha i' ≠ h := fun k i' a b c => by
          have : k = n := by omega
          subst this
          rw [hs] at c
          cases c
          exact hh
        rcases probe_go t ha h nd fuel (n + 1) N hlt (by omega) h3 h4 with ⟨e1, e2⟩ | ⟨k, i', a, b, c, d, e, f⟩
        · refine .inl ⟨e1, fun k i' a b c => ?_⟩
          by_cases hk : k < n + 1
          · exact first k i' a hk c
          · exact e2 k i' (by omega) b c
        · refine .inr ⟨k, i', by omega, b, c, d, e, fun k' i'' a' b' c' => ?_⟩
          by_cases hk : k' < n + 1
          · exact first k' i'' a' hk c'
          · exact f k' i'' (by omega) b' c'
end LS
set_option Elab.async false
set_option linter.all false
set_option maxRecDepth 100000
set_option maxHeartbeats 4000000
namespace LS
open PySem PySem.SetTable
noncomputable abbrev SE (κ : Type) := Nat × κ × Addr
section
variable {P : Program} {w : World} {κ : Type} [DecidableEq κ] (knd : HeapKind P w κ)
noncomputable abbrev esL (L : List (SE κ)) : Array (Int × Value) := (L.map fun e => (knd.hash e.2.1, Value.ref e.2.2)).toArray
noncomputable def Fnd (t : SetTable) (L : List (SE κ)) : Prop := ∀ e ∈ L, ∃ n, (sts t (knd.hash e.2.1) n).j = e.1 ∧ ∀ k, k < n → t.slot (sts t (knd.hash e.2.1) k).j ≠ .empty
structure TabL (t : SetTable) (L : List (SE κ)) : Prop where
  pl : t.place = (L.map (·.1)).toArray
  dm : t.dummies = #[]
  inc : Inc (L.map (·.1))
  msk : t.mask ∈ [7, 15, 31]
  le : ∀ e ∈ L, e.1 ≤ t.mask
  fit : L.length * 5 < t.mask * 3
structure SetL (h : Heap) (a : Addr) (L : List (SE κ)) (t : SetTable) : Prop where
  ob : ∃ o ep, h.get? a = some o ∧ o.ExactSet ∧ o.data = .set (esL knd L) ep t
  tb : TabL t L
  key : ∀ e ∈ L, knd.is h e.2.1 e.2.2
  nd : (L.map fun e => e.2.1).Nodup
variable {knd}
theorem TabL.slot {t : SetTable} {L : List (SE κ)} (h : TabL t L) : (∀ i e, L[i]? = some e → t.slot e.1 = .live i) ∧ (∀ j, (∀ e ∈ L, e.1 ≠ j) → t.slot j = .empty) ∧ (∀ j, t.slot j ≠ .dummy) ∧ ∀ j i, t.slot j = .live i → ∃ e, L[i]? = some e ∧ e.1 = j := by
  have hs : Inc t.place.toList := by rw [h.pl]; exact h.inc
  have h1 : ∀ i e, L[i]? = some e → t.slot e.1 = .live i := fun i e he => by
    have hi : i < t.place.size := by
      rw [h.pl]
      have := (List.getElem?_eq_some_iff.mp he).1
      simpa using this
    have := slot_live hs hi
    have ep : t.place[i] = e.1 := by
      have e2 : t.place[i]? = some e.1 := by rw [h.pl]; simp [he]
      rw [Array.getElem?_eq_getElem hi] at e2
      exact Option.some.inj e2
    rw [ep] at this
    exact this
  have h2 : ∀ j, (∀ e ∈ L, e.1 ≠ j) → t.slot j = .empty := fun j hj => slot_empty h.dm (by
    rw [h.pl]
    intro z
    simp only [List.mem_map] at z
    obtain ⟨e, he, rfl⟩ := z
    exact hj e he rfl)
  have h3 : ∀ j, t.slot j = .empty ∨ ∃ i e, L[i]? = some e ∧ e.1 = j ∧ t.slot j = .live i := fun j => by
    by_cases z : ∃ e ∈ L, e.1 = j
    · obtain ⟨e, he, rfl⟩ := z
      obtain ⟨i, hi, ei⟩ := List.getElem_of_mem he
      have : L[i]? = some e := by rw [List.getElem?_eq_getElem hi, ei]
      exact .inr ⟨i, e, this, rfl, h1 i e this⟩
    · exact .inl (h2 j (fun e he q => z ⟨e, he, q⟩))
  refine ⟨h1, h2, fun j z => ?_, fun j i z => ?_⟩
  · rcases h3 j with e | ⟨_, _, _, _, e⟩ <;> rw [e] at z <;> cases z
  · rcases h3 j with e | ⟨i', e', q1, q2, q3⟩
    · rw [e] at z; cases z
    · rw [q3] at z; cases z; exact ⟨e', q1, q2⟩
theorem pigeon : ∀ (n : Nat) (l : List Nat), l.length < n → ∃ j, j < n ∧ j ∉ l
  | 0, _, h => by omega
  | n + 1, l, h => by
    by_cases hn : n ∈ l
    · obtain ⟨j, h1, h2⟩ := pigeon n (l.erase n) (by rw [List.length_erase_of_mem hn]; have := List.length_pos_of_mem hn; omega)
      exact ⟨j, by omega, fun hj => h2 ((List.mem_erase_of_ne (by omega)).mpr hj)⟩
    · exact ⟨n, by omega, hn⟩
theorem TabL.gap {t : SetTable} {L : List (SE κ)} (h : TabL t L) (x : Int) : ∃ N, N < 10 * (t.mask + 14) ∧ t.slot (sts t x N).j = .empty ∧ (∀ k, k < N → t.slot (sts t x k).j ≠ .empty) ∧ ∀ e ∈ L, e.1 ≠ (sts t x N).j := by
  have hf := h.fit
  obtain ⟨j, h1, h2⟩ := pigeon (t.mask + 1) (L.map (·.1)) (by rw [List.length_map]; omega)
  obtain ⟨n, h3, h4⟩ := sts_all h.msk x (show j ≤ t.mask by omega)
  have h5 : t.slot (sts t x n).j = .empty := by
    rw [h4]
    exact h.slot.2.1 j (fun e he z => h2 (by rw [← z]; exact List.mem_map_of_mem he))
  obtain ⟨N, a, b, c⟩ := least (P := fun n => t.slot (sts t x n).j = .empty) n h5
  refine ⟨N, by omega, b, c, fun e he z => ?_⟩
  obtain ⟨i, hi, ei⟩ := List.getElem_of_mem he
  have := h.slot.1 i e (by rw [List.getElem?_eq_getElem hi, ei])
  rw [z, b] at this
  cases this
noncomputable abbrev HA (es : Array (Int × Value)) (i : Nat) : Int := (es[i]?.map (·.1)).getD 0
theorem fits_of {t : SetTable} {L : List (SE κ)} (h : TabL t L) : t.fits (esL knd L).size = true := by
  have := h.fit
  unfold SetTable.fits SetTable.fill
  rw [h.pl, h.dm]
  simp
  omega
theorem odd_mask {t : SetTable} {L : List (SE κ)} (h : TabL t L) : t.gaveWay = false := by
  unfold SetTable.gaveWay
  have := h.msk
  simp only [List.mem_cons, List.not_mem_nil, or_false] at this
  rcases this with e | e | e <;> rw [e] <;> rfl
noncomputable def NoCls (knd : HeapKind P w κ) : Prop := ∀ {A : Around} {E : Value → Shared → Prop} {s : Shared} {k : κ} {a : Addr} {Q : Bool → Shared → Prop}, knd.is s.heap k a → Q false s → wpAny (model P w) A (ofAClassStatement 8 (.ref a)) Q E s
section
variable {A : Around} {E : Value → Shared → Prop} {s : Shared} {a b : Addr} {L : List (SE κ)} {t : SetTable} {k : κ} {adding : Bool} {Q : SetFound → Shared → Prop}
theorem unseen (nc : NoCls knd) {b : Addr} (hx : knd.is s.heap k b) {l : List Value} (hl : ∀ v ∈ l, ∃ k' c, v = .ref c ∧ knd.is s.heap k' c) {Q : Bool → Shared → Prop} (h : Q false s) : wpAny (model P w) A (searchCouldBeSeen (.ref b) l) Q E s := by
  unfold searchCouldBeSeen
  refine wpAny_bind (wpAny_forIn_list _ (fun rest r s' => r = (none, PUnit.unit) ∧ s' = s ∧ ∀ v ∈ rest, ∃ k' c, v = Value.ref c ∧ knd.is s.heap k' c) _ (fun x rest r s' hI => ?_) (fun r s' hI => ?_) l _ ⟨rfl, rfl, hl⟩)
  · obtain ⟨rfl, rfl, hr⟩ := hI
    obtain ⟨k', c, rfl, hc⟩ := hr x (List.mem_cons_self ..)
    have hrest : ∀ v ∈ rest, ∃ k' c, v = Value.ref c ∧ knd.is s'.heap k' c := fun v hv => hr v (List.mem_cons_of_mem _ hv)
    dsimp only
    refine wpAny_ite_split (fun _ => wpAny_pure ⟨rfl, rfl, hrest⟩) (fun _ => ?_)
    refine wpAny_bind (knd.quiet hx ?_)
    simp only [Bool.not_true, Bool.false_eq_true, if_false]
    refine wpAny_bind (knd.quiet hc ?_)
    simp only [Bool.not_true, Bool.false_eq_true, if_false]
    refine wpAny_bind (nc hx ?_)
    simp only [Bool.false_eq_true, if_false]
    refine wpAny_bind (nc hc ?_)
    simp only [Bool.false_eq_true, if_false]
    exact wpAny_pure ⟨rfl, rfl, hrest⟩
  · obtain ⟨rfl, rfl, _⟩ := hI
    exact wpAny_pure h
theorem wp_led {α : Type} {M : Model} {led : Bool} {X : Sem Bool} {U R : Sem α} {Q : α → Shared → Prop} (hX : ∀ {Q : Bool → Shared → Prop}, Q false s → wpAny M A X Q E s) (hR : wpAny M A R Q E s) : wpAny M A (if (!led) = true then (X >>= fun b => if b = true then U else R) else R) Q E s := by
  cases led with
  | true => exact hR
  | false => exact wpAny_bind (hX hR)
theorem all_keys (hS : SetL knd s.heap a L t) {h : Int} : ∀ v ∈ ((esL knd L).filter (·.1 == h)).toList.map (·.2), ∃ k' c, v = Value.ref c ∧ knd.is s.heap k' c := fun v hv => by
  obtain ⟨p, hp, rfl⟩ := List.mem_map.mp hv
  have hp : p ∈ (esL knd L).toList := Array.mem_toList_iff.mpr (Array.mem_filter.mp (Array.mem_toList_iff.mp hp)).1
  simp only [esL, List.mem_map] at hp
  obtain ⟨e', he', rfl⟩ := hp
  exact ⟨e'.2.1, e'.2.2, rfl, hS.key e' he'⟩
theorem search_free (nc : NoCls knd) (room : knd.room A) (hS : SetL knd s.heap a L t) (hx : knd.is s.heap k b) (hk : ∀ e ∈ L, e.2.1 ≠ k) {N : Nat} (hN : N < 10 * (t.mask + 14)) (he : t.slot (sts t (knd.hash k) N).j = .empty) (hne : ∀ i, i < N → t.slot (sts t (knd.hash k) i).j ≠ .empty)
    (h : Q (.free (sts t (knd.hash k) N).j false) s) : ∀ (fuel n : Nat) (st : Option Probe), st.getD (t.probeStart (knd.hash k)) = sts t (knd.hash k) n → n ≤ N → N < n + fuel →
    wpAny (model P w) A (setSearchFrom a (.ref b) (knd.hash k) adding fuel st) Q E s
  | 0, n, st, _, h1, h2 => by omega
  | fuel + 1, n, st, es, h1, h2 => by
    obtain ⟨o, ep, ho, hex, hd⟩ := hS.ob
    unfold setSearchFrom
    refine wpAny_bind (wpAny_setState_of ho hd (fits_of hS.tb) ?_)
    dsimp only
    rw [odd_mask hS.tb, es]
    simp only [Bool.false_eq_true, if_false]
    rcases probe_go t (HA (esL knd L)) (knd.hash k) hS.tb.slot.2.2.1 (10 * turns t.mask) n N h1 (by unfold SetTable.turns; omega) he hne with ⟨e1, _⟩ | ⟨m, i, m1, m2, m3, m4, e1, _⟩
    · have e1 : t.probe (HA (esL knd L)) (knd.hash k) (sts t (knd.hash k) n) = _ := e1
      erw [e1]
      dsimp only
      exact wpAny_pure h
    · have e1 : t.probe (HA (esL knd L)) (knd.hash k) (sts t (knd.hash k) n) = _ := e1
      erw [e1]
      dsimp only
      obtain ⟨e, ei, ej⟩ := hS.tb.slot.2.2.2 _ _ m3
      have em : e ∈ L := List.mem_of_getElem? ei
      have ee : (esL knd L)[i]? = some (knd.hash e.2.1, .ref e.2.2) := by simp [esL, ei]
      refine wp_led (unseen nc hx (all_keys hS)) ?_
      rw [ee]
      dsimp only
      refine wpAny_bind (wpAny_holding (knd.eqBool room (hS.key e em) hx ?_))
      rw [decide_eq_false (hk e em)]
      refine wpAny_bind (wpAny_setState_of ho hd (fits_of hS.tb) ?_)
      dsimp only
      have sm : t.sameMemory t.moves t.mask = some true := by unfold SetTable.sameMemory; simp
      rw [sm]
      dsimp only
      rw [if_pos rfl, m3]
      dsimp only
      rw [ee]
      dsimp only
      simp only [Bool.and_false, Bool.false_eq_true, if_false]
      refine wpAny_bind (wpAny_isSame_ref_self (wpAny_bind (wpAny_pure ?_)))
      rw [if_pos rfl]
      dsimp only
      exact search_free nc room hS hx hk hN he hne h fuel (m + 1) (some (sts t (knd.hash k) (m + 1))) rfl (by omega) (by omega)
theorem search_there (nc : NoCls knd) (room : knd.room A) (hS : SetL knd s.heap a L t) (hx : knd.is s.heap k b) {e0 : SE κ} (h0 : e0 ∈ L) (hk : e0.2.1 = k) {M N : Nat} (hN : N < 10 * (t.mask + 14)) (he : t.slot (sts t (knd.hash k) N).j = .empty) (hne : ∀ i, i < N → t.slot (sts t (knd.hash k) i).j ≠ .empty)
    (hM : (sts t (knd.hash k) M).j = e0.1) (hMN : M < N) (h : ∀ r, Q (.there (some r)) s) : ∀ (fuel n : Nat) (st : Option Probe), st.getD (t.probeStart (knd.hash k)) = sts t (knd.hash k) n → n ≤ M → N < n + fuel →
    wpAny (model P w) A (setSearchFrom a (.ref b) (knd.hash k) false fuel st) Q E s
  | 0, n, st, _, h1, h2 => by omega
  | fuel + 1, n, st, es, h1, h2 => by
    obtain ⟨o, ep, ho, hex, hd⟩ := hS.ob
    obtain ⟨i0, hi0, ei0⟩ := List.getElem_of_mem h0
    have ei0 : L[i0]? = some e0 := by rw [List.getElem?_eq_getElem hi0, ei0]
    have sl0 := hS.tb.slot.1 i0 e0 ei0
    have ha0 : HA (esL knd L) i0 = knd.hash k := by simp [HA, esL, ei0, hk]
    unfold setSearchFrom
    refine wpAny_bind (wpAny_setState_of ho hd (fits_of hS.tb) ?_)
    dsimp only
    rw [odd_mask hS.tb, es]
    simp only [Bool.false_eq_true, if_false]
    rcases probe_go t (HA (esL knd L)) (knd.hash k) hS.tb.slot.2.2.1 (10 * turns t.mask) n N (by omega) (by unfold SetTable.turns; omega) he hne with ⟨e1, e2⟩ | ⟨m, i, m1, m2, m3, m4, e1, e2⟩
    · exact absurd ha0 (e2 M i0 h1 hMN (by rw [hM]; exact sl0))
    · have hmM : m ≤ M := by
        rcases Nat.lt_or_ge M m with z | z
        · exact absurd ha0 (e2 M i0 h1 z (by rw [hM]; exact sl0))
        · exact z
      have e1 : t.probe (HA (esL knd L)) (knd.hash k) (sts t (knd.hash k) n) = _ := e1
      erw [e1]
      dsimp only
      obtain ⟨e, ei, ej⟩ := hS.tb.slot.2.2.2 _ _ m3
      have em : e ∈ L := List.mem_of_getElem? ei
      have ee : (esL knd L)[i]? = some (knd.hash e.2.1, .ref e.2.2) := by simp [esL, ei]
      refine wp_led (unseen nc hx (all_keys hS)) ?_
      rw [ee]
      dsimp only
      refine wpAny_bind (wpAny_holding (knd.eqBool room (hS.key e em) hx ?_))
      refine wpAny_bind (wpAny_setState_of ho hd (fits_of hS.tb) ?_)
      dsimp only
      have sm : t.sameMemory t.moves t.mask = some true := by unfold SetTable.sameMemory; simp
      rw [sm]
      dsimp only
      rw [if_pos rfl, m3]
      dsimp only
      rw [ee]
      dsimp only
      simp only [Bool.false_and, Bool.false_eq_true, if_false]
      refine wpAny_bind (wpAny_isSame_ref_self (wpAny_bind (wpAny_pure ?_)))
      rw [if_pos rfl]
      dsimp only
      by_cases hek : e.2.1 = k
      · rw [decide_eq_true hek, if_pos rfl]
        exact wpAny_pure (h _)
      · rw [decide_eq_false hek, if_neg (by decide)]
        have hlt : m < M := by
          rcases Nat.eq_or_lt_of_le hmM with z | z
          · subst z
            rw [hM, sl0] at m3
            cases m3
            rw [ei0] at ei
            cases ei
            exact absurd hk hek
          · exact z
        exact search_there nc room hS hx h0 hk hN he hne hM hMN h fuel (m + 1) (some (sts t (knd.hash k) (m + 1))) rfl (by omega) (by omega)
theorem find_there (nc : NoCls knd) (room : knd.room A) (hS : SetL knd s.heap a L t) (hF : Fnd knd t L) (hx : knd.is s.heap k b) {e0 : SE κ} (h0 : e0 ∈ L) (hk : e0.2.1 = k) {Q : Option Nat → Shared → Prop} (h : ∀ r, Q (some r) s) : wpAny (model P w) A (setFind a (.ref b) (knd.hash k)) Q E s := by
  obtain ⟨o, ep, ho, hex, hd⟩ := hS.ob
  obtain ⟨N, n1, n2, n3, n4⟩ := hS.tb.gap (knd.hash k)
  obtain ⟨M, m1, m2⟩ := hF e0 h0
  rw [hk] at m1 m2
  have hMN : M < N := by
    rcases Nat.lt_trichotomy M N with z | z | z
    · exact z
    · subst z; exact absurd m1.symm (n4 e0 h0)
    · exact absurd n2 (m2 N z)
  unfold setFind setFindIn
  refine wpAny_bind (wpAny_setState_of ho hd (fits_of hS.tb) ?_)
  dsimp only
  have hb : byScan (.ref b) (esL knd L) = false := rfl
  rw [hb]
  simp only [Bool.false_eq_true, if_false]
  unfold setSearch
  refine wpAny_bind (search_there nc room hS hx h0 hk n1 n2 n3 m1 hMN (fun r => ?_) 100000 0 none rfl (Nat.zero_le _) ?_)
  · dsimp only
    exact wpAny_pure (h r)
  · have := hS.tb.msk
    simp only [List.mem_cons, List.not_mem_nil, or_false] at this
    omega
end
end
end LS
set_option Elab.async false
set_option linter.all false
set_option maxRecDepth 100000
set_option maxHeartbeats 4000000
namespace LS
open PySem PySem.SetTable
section
variable {P : Program} {w : World} {κ : Type} [DecidableEq κ] {knd : HeapKind P w κ}
structure KOk (knd : HeapKind P w κ) (np : κ → Prop) : Prop where
  nc : NoCls knd
  hv : ∀ {A : Around} {E : Value → Shared → Prop} {s : Shared} {k : κ} {a : Addr} {Q : Bool → Shared → Prop}, knd.is s.heap k a → np k → Q false s → wpAny (model P w) A (hashByValue 8 (.ref a)) Q E s
  keep : ∀ {h h' : Heap} {k : κ} {a d : Addr} {o : Obj} {es : Array (Int × Value)} {ep : Nat} {t : SetTable}, knd.is h k a → h.get? d = some o → o.data = .set es ep t → Heap.SameBut d h h' → knd.is h' k a
theorem sts_mask {t t' : SetTable} (e : t'.mask = t.mask) (h : Int) : ∀ n, sts t' h n = sts t h n
  | 0 => by show t'.probeStart h = t.probeStart h; unfold SetTable.probeStart; rw [e]
  | n + 1 => by
    show t'.advance (sts t' h n) = t.advance (sts t h n)
    rw [sts_mask e h n]
    unfold SetTable.advance
    rw [e]
noncomputable def putL (L : List (SE κ)) (j : Nat) (k : κ) (b : Addr) : List (SE κ) := L.take (below (L.map (·.1)).toArray j) ++ (j, k, b) :: L.drop (below (L.map (·.1)).toArray j)
theorem putL_perm (L : List (SE κ)) (j : Nat) (k : κ) (b : Addr) : (putL L j k b).Perm ((j, k, b) :: L) := by
  have := List.perm_middle (a := (j, k, b)) (l₁ := L.take (below (L.map (·.1)).toArray j)) (l₂ := L.drop (below (L.map (·.1)).toArray j))
  rw [List.take_append_drop] at this
  exact this
theorem insertAt_list {α β : Type} (L : List α) (f : α → β) (p : Nat) (x : α) (hp : p ≤ L.length) : insertAt (L.map f).toArray p (f x) = ((L.take p ++ x :: L.drop p).map f).toArray := by
  apply Array.toList_inj.mp
  rw [SetTable.toList_insertAt]
  simp
theorem putL_inc {L : List (SE κ)} {j : Nat} {k : κ} {b : Addr} (h : Inc (L.map (·.1))) (hj : ∀ e ∈ L, e.1 ≠ j) : Inc ((putL L j k b).map (·.1)) := by
  obtain ⟨h1, h2⟩ := below_cut (xs := (L.map (·.1)).toArray) h j
  have h1 : ∀ y ∈ (L.map (·.1)).take (below (L.map (·.1)).toArray j), y < j := h1
  have h2 : ∀ y ∈ (L.map (·.1)).drop (below (L.map (·.1)).toArray j), j ≤ y := h2
  unfold Inc putL
  rw [List.map_append, List.map_cons, List.map_take, List.map_drop]
  have hsplit : Inc ((L.map (·.1)).take (below (L.map (·.1)).toArray j) ++ (L.map (·.1)).drop (below (L.map (·.1)).toArray j)) := by rw [List.take_append_drop]; exact h
  obtain ⟨a1, a2, a3⟩ := List.pairwise_append.mp hsplit
  have hd : ∀ y ∈ (L.map (·.1)).drop (below (L.map (·.1)).toArray j), j < y := fun y hy => by
    have := h2 y hy
    obtain ⟨e, he, rfl⟩ := List.mem_map.mp (List.mem_of_mem_drop hy)
    have := hj e he
    omega
  refine List.pairwise_append.mpr ⟨a1, List.pairwise_cons.mpr ⟨hd, a2⟩, fun x hx y hy => ?_⟩
  rcases List.mem_cons.mp hy with z | z
  · rw [z]; exact h1 x hx
  · exact a3 x hx y z
noncomputable abbrev liveOf (m : Nat) (owner : Array (Option Nat)) : List (Nat × Nat) := (List.range (m + 1)).filterMap fun j => (owner.getD j none).map (j, ·)
theorem fm_congr {α β : Type} {f g : α → Option β} : ∀ {l : List α}, (∀ x ∈ l, f x = g x) → l.filterMap f = l.filterMap g
  | [], _ => rfl
  | x :: r, h => by
    rw [List.filterMap_cons, List.filterMap_cons, h x (List.mem_cons_self ..), fm_congr (l := r) (fun y hy => h y (List.mem_cons_of_mem _ hy))]
theorem live_set {m j k : Nat} {owner : Array (Option Nat)} (hj : j < owner.size) (hm : owner.size = m + 1) (hn : owner.getD j none = none) : (liveOf m (owner.setIfInBounds j (some k))).Perm ((j, k) :: liveOf m owner) := by
  have e : List.range (m + 1) = List.range j ++ j :: (List.range' (j + 1) (m - j)) := by
    rw [List.range_eq_range', List.range_eq_range', show m + 1 = j + (1 + (m - j)) by omega, ← List.range'_append_1, ← List.range'_append_1]
    simp [List.range']
  have o : ∀ i, i ≠ j → (owner.setIfInBounds j (some k)).getD i none = owner.getD i none := fun i hi => by
    simp [Array.getD_eq_getD_getElem?, Array.getElem?_setIfInBounds, Ne.symm hi]
  have oj : (owner.setIfInBounds j (some k)).getD j none = some k := by
    simp [Array.getD_eq_getD_getElem?, Array.getElem?_setIfInBounds, hj]
  unfold liveOf
  rw [e, List.filterMap_append, List.filterMap_append, List.filterMap_cons, List.filterMap_cons, oj, hn]
  simp only [Option.map_some, Option.map_none]
  have c1 : (List.range j).filterMap (fun i => ((owner.setIfInBounds j (some k)).getD i none).map (i, ·)) = (List.range j).filterMap (fun i => (owner.getD i none).map (i, ·)) := fm_congr fun i hi => by rw [o i (by have := List.mem_range.mp hi; omega)]
  have c2 : (List.range' (j + 1) (m - j)).filterMap (fun i => ((owner.setIfInBounds j (some k)).getD i none).map (i, ·)) = (List.range' (j + 1) (m - j)).filterMap (fun i => (owner.getD i none).map (i, ·)) := fm_congr fun i hi => by rw [o i (by have := (List.mem_range'_1.mp hi).1; omega)]
  rw [c1, c2]
  exact List.perm_middle
theorem free_some {m : Nat} {owner : Array (Option Nat)} {b : Nat} : ∀ (fuel n n' : Nat), n ≤ n' → n' < n + fuel → owner.getD (lps m b n').1 (some 0) = none → ∃ j, SetTable.layClean.free m owner fuel (lps m b n).1 (lps m b n).2 = some j ∧ owner.getD j (some 0) = none
  | 0, n, n', h1, h2, _ => by omega
  | fuel + 1, n, n', h1, h2, h3 => by
    unfold SetTable.layClean.free
    cases hf : (List.range (runEnd m (lps m b n).1 + 1 - (lps m b n).1)).find? fun k => (owner.getD ((lps m b n).1 + k) (some 0)).isNone with
    | some k =>
      have := List.find?_some hf
      exact ⟨_, rfl, by simpa using this⟩
    | none =>
      dsimp only
      have hlt : n < n' := by
        rcases Nat.eq_or_lt_of_le h1 with e | e
        · subst e
          have := List.find?_eq_none.mp hf 0 (List.mem_range.mpr (by unfold SetTable.runEnd; split <;> omega))
          rw [Nat.add_zero, h3] at this
          exact absurd rfl this
        · exact e
      exact free_some fuel (n + 1) n' hlt (by omega) h3
theorem lay_ok {m : Nat} (hm : m ∈ [7, 15, 31]) : ∀ (hs : List Int) (owner : Array (Option Nat)) (k : Nat), owner.size = m + 1 → (liveOf m owner).length = k → k + hs.length ≤ m → ((liveOf m owner).map (·.2)).Perm (List.range k) →
    ∃ o', hs.foldl (fun acc h => do
      let (owner, k) ← acc
      let j ← SetTable.layClean.free m owner (turns m) (bits h % (m + 1)) (bits h)
      pure (owner.setIfInBounds j (some k), k + 1)) (some (owner, k)) = some (o', k + hs.length) ∧ o'.size = m + 1 ∧ ((liveOf m o').map (·.2)).Perm (List.range (k + hs.length))
  | [], owner, k, h1, _, _, h2 => ⟨owner, rfl, h1, h2⟩
  | h :: hs, owner, k, h1, h2, h3, h4 => by
    rw [List.length_cons] at h3
    obtain ⟨j0, q1, q2⟩ := pigeon (m + 1) ((liveOf m owner).map (·.1)) (by rw [List.length_map]; omega)
    have e0 : owner.getD j0 (some 0) = none := by
      cases e : owner.getD j0 none with
      | some x =>
        exfalso
        apply q2
        refine List.mem_map.mpr ⟨(j0, x), List.mem_filterMap.mpr ⟨j0, List.mem_range.mpr q1, by rw [e]; rfl⟩, rfl⟩
      | none =>
        simp only [Array.getD, dif_pos (show j0 < owner.size by omega)] at e ⊢
        exact e
    obtain ⟨k5, hk5, e5⟩ := it5_all m hm _ (lps_le (b := bits h) 13) j0 (by omega)
    obtain ⟨j, e1, e2⟩ := free_some (m := m) (owner := owner) (b := bits h) (turns m) 0 (13 + k5) (by omega) (by unfold SetTable.turns; omega) (by rw [lps_late (bits_lt h), e5]; exact e0)
    have e1 : SetTable.layClean.free m owner (turns m) (bits h % (m + 1)) (bits h) = some j := e1
    have hj : j < owner.size := by
      rcases Nat.lt_or_ge j owner.size with z | z
      · exact z
      · simp [Array.getD, Nat.not_lt.mpr z] at e2
    have e3 : owner.getD j none = none := by
      simp only [Array.getD, dif_pos hj] at e2 ⊢
      exact e2
    have pm := live_set (k := k) hj h1 e3
    have pm2 := (pm.map (fun x : Nat × Nat => x.2)).trans (h4.cons k)
    obtain ⟨o', a1, a2, a3⟩ := lay_ok hm hs (owner.setIfInBounds j (some k)) (k + 1) (by simp [h1]) (by rw [pm.length_eq, List.length_cons, h2]) (by omega) (pm2.trans (by rw [List.range_succ]; exact (List.perm_append_singleton k (List.range k)).symm))
    refine ⟨o', ?_, a2, ?_⟩
    · rw [List.foldl_cons]
      show hs.foldl _ (do let j ← SetTable.layClean.free m owner (turns m) (bits h % (m + 1)) (bits h); pure (owner.setIfInBounds j (some k), k + 1)) = _
      rw [e1]
      show hs.foldl _ (some (owner.setIfInBounds j (some k), k + 1)) = _
      rw [a1, List.length_cons]
      congr 2
      omega
    · rw [List.length_cons, show k + (hs.length + 1) = k + 1 + hs.length by omega]
      exact a3
end
end LS
set_option Elab.async false
set_option linter.all false
set_option maxRecDepth 100000
set_option maxHeartbeats 4000000
namespace LS
open PySem PySem.SetTable
section
variable {P : Program} {w : World} {κ : Type} [DecidableEq κ] {knd : HeapKind P w κ}
theorem relaid_ok {t : SetTable} {L : List (SE κ)} {wanted : Nat} (hm : sizeAbove wanted - 1 ∈ [7, 15, 31]) (hn : L.length * 5 < (sizeAbove wanted - 1) * 3) :
    ∃ t' order L', t.relaid ((esL knd L).map (·.1)) wanted = some (t', order) ∧ order.filterMap ((esL knd L)[·]?) = esL knd L' ∧ TabL t' L' ∧ (L'.map (·.2)).Perm (L.map (·.2)) ∧ t'.mask = sizeAbove wanted - 1 ∧ t'.plain = t.plain := by
  generalize hM : sizeAbove wanted - 1 = m at hm hn
  have l0 : liveOf m (Array.replicate (m + 1) none) = [] := by
    unfold liveOf
    rw [List.filterMap_eq_nil_iff]
    intro j hj
    simp only [Array.getD_eq_getD_getElem?, Array.getElem?_replicate, Option.map_eq_none_iff]
    split <;> rfl
  obtain ⟨o', a1, a2, a3⟩ := lay_ok hm (L.map fun e => knd.hash e.2.1) (Array.replicate (m + 1) none) 0 (by simp) (by rw [l0]; rfl) (by rw [List.length_map]; omega) (by rw [l0]; exact .refl _)
  rw [List.length_map, Nat.zero_add] at a1 a3
  have hc : layClean m ((esL knd L).map (·.1)) = some o' := by
    unfold SetTable.layClean
    rw [← Array.foldl_toList]
    have e : ((esL knd L).map (·.1)).toList = L.map fun e => knd.hash e.2.1 := by simp [esL]
    rw [e]
    erw [a1]
    rfl
  have hlt : ∀ p ∈ liveOf m o', p.2 < L.length := fun p hp => List.mem_range.mp (a3.mem_iff.mp (List.mem_map_of_mem hp))
  have hL1 : ∀ l : List (Nat × Nat), (∀ p ∈ l, p.2 < L.length) → (l.filterMap fun p => (L[p.2]?).map fun e => ((p.1, e.2) : SE κ)).map (·.1) = l.map (·.1) ∧ (l.filterMap fun p => (L[p.2]?).map fun e => ((p.1, e.2) : SE κ)).map (·.2) = (l.map (·.2)).filterMap fun i => (L.map (·.2))[i]? := by
    intro l
    induction l with
    | nil => intro _; exact ⟨rfl, rfl⟩
    | cons p r ih =>
      intro h
      obtain ⟨i1, i2⟩ := ih (fun q hq => h q (List.mem_cons_of_mem _ hq))
      have hp := h p (List.mem_cons_self ..)
      have e : L[p.2]? = some (L[p.2]'hp) := List.getElem?_eq_getElem hp
      rw [List.filterMap_cons, e]
      simp only [Option.map_some, List.map_cons, List.filterMap_cons, List.getElem?_map, e, i1]
      refine ⟨trivial, ?_⟩
      rw [i2]
      simp only [List.getElem?_map]
  obtain ⟨b1, b2⟩ := hL1 _ hlt
  refine ⟨{ mask := m, place := ((liveOf m o').map (·.1)).toArray, dummies := #[], finger := t.finger, led := t.led, moves := t.movedTo m, plain := t.plain }, ((liveOf m o').map (·.2)).toArray, (liveOf m o').filterMap fun p => (L[p.2]?).map fun e => (p.1, e.2), ?_, ?_, ?_, ?_, rfl, rfl⟩
  · unfold SetTable.relaid SetTable.laid
    rw [hM, hc]
    rfl
  · apply Array.toList_inj.mp
    rw [Array.toList_filterMap]
    show ((liveOf m o').map (·.2)).filterMap (fun i => (esL knd L)[i]?) = ((liveOf m o').filterMap fun p => (L[p.2]?).map fun e => ((p.1, e.2) : SE κ)).map (fun e => (knd.hash e.2.1, Value.ref e.2.2))
    have : (fun e : SE κ => (knd.hash e.2.1, Value.ref e.2.2)) = (fun q : κ × Addr => (knd.hash q.1, Value.ref q.2)) ∘ (fun e : SE κ => e.2) := rfl
    rw [this, ← List.map_map, b2]
    generalize (liveOf m o').map (·.2) = ix
    rw [List.map_filterMap]
    refine fm_congr fun i _ => ?_
    simp [esL]
    rfl
  · refine ⟨by rw [b1], rfl, ?_, hm, fun e he => ?_, ?_⟩
    · rw [b1]
      unfold Inc
      rw [List.map_filterMap]
      refine List.Pairwise.filterMap _ (fun x y hxy b hb c hc => ?_) List.pairwise_lt_range
      simp only [Option.map_map, Option.map_eq_some_iff] at hb hc
      obtain ⟨_, _, rfl⟩ := hb
      obtain ⟨_, _, rfl⟩ := hc
      exact hxy
    · have : e.1 ∈ (liveOf m o').map (·.1) := by rw [← b1]; exact List.mem_map_of_mem he
      obtain ⟨p, hp, hpe⟩ := List.mem_map.mp this
      obtain ⟨j, hj, ej⟩ := List.mem_filterMap.mp hp
      obtain ⟨x, _, ex⟩ := Option.map_eq_some_iff.mp ej
      rw [← hpe, ← ex]
      have := List.mem_range.mp hj
      show j ≤ m
      omega
    · have h1 := congrArg List.length b1
      rw [List.length_map, List.length_map] at h1
      have h2 := a3.length_eq
      rw [List.length_map, List.length_range] at h2
      rw [h1, h2]
      exact hn
  · rw [b2]
    have := a3.filterMap fun i => (L.map (·.2))[i]?
    have e : (List.range L.length).filterMap (fun i => (L.map (·.2))[i]?) = L.map (·.2) := by
      have := List.filterMap_getElem?_range_length (L.map (·.2))
      rwa [List.length_map] at this
    rw [e] at this
    exact this
end
end LS
set_option Elab.async false
set_option linter.all false
set_option maxRecDepth 100000
set_option maxHeartbeats 4000000
namespace LS
open PySem PySem.SetTable
section
variable {P : Program} {w : World} {κ : Type} [DecidableEq κ] {knd : HeapKind P w κ}
variable {A : Around} {E : Value → Shared → Prop} {s : Shared} {a b : Addr} {L : List (SE κ)} {t : SetTable} {k : κ} {np : κ → Prop}
theorem sts_le (t : SetTable) (h : Int) : ∀ n, (sts t h n).j + (sts t h n).more ≤ t.mask
  | 0 => by
    have : bits h % (t.mask + 1) ≤ t.mask := Nat.le_of_lt_succ (Nat.mod_lt _ (Nat.succ_pos _))
    show bits h % (t.mask + 1) + (runEnd t.mask (bits h % (t.mask + 1)) - bits h % (t.mask + 1)) ≤ t.mask
    unfold SetTable.runEnd
    split <;> omega
  | n + 1 => by
    have ih := sts_le t h n
    show (t.advance (sts t h n)).j + (t.advance (sts t h n)).more ≤ t.mask
    unfold SetTable.advance
    split
    · dsimp only; omega
    · dsimp only [SetTable.leap]
      have : ((sts t h n).i * 5 + 1 + (sts t h n).perturb / 32) % (t.mask + 1) ≤ t.mask := Nat.le_of_lt_succ (Nat.mod_lt _ (Nat.succ_pos _))
      unfold SetTable.runEnd
      split <;> omega
theorem stored {h : Heap} {o : Obj} {es es' : Array (Int × Value)} {ep : Nat} {t t' : SetTable} (ho : h.get? a = some o) (hex : o.ExactSet) (hd : o.data = .set es ep t) :
    (h.update a (Obj.putSet es' t')).get? a = some { o with data := .set es' (ep + 1) t' } := by
  have := Heap.get?_update_self (Obj.putSet es' t') ho (by rw [putSet_of es' t' hd]; rfl)
  rw [putSet_of es' t' hd] at this
  exact this
theorem setL_stored (ok : KOk knd np) {h : Heap} {o : Obj} {es : Array (Int × Value)} {ep : Nat} {t t' : SetTable} {L' : List (SE κ)} (ho : h.get? a = some o) (hex : o.ExactSet) (hd : o.data = .set es ep t) (tb : TabL t' L') (hk : ∀ e ∈ L', knd.is h e.2.1 e.2.2) (hn : (L'.map fun e => e.2.1).Nodup) :
    SetL knd (h.update a (Obj.putSet (esL knd L') t')) a L' t' :=
  ⟨⟨_, ep + 1, stored ho hex hd, hex, rfl⟩, tb, fun e he => ok.keep (hk e he) ho hd (Heap.SameBut.update _ _ _), hn⟩
theorem wp_relay {o : Obj} {ep wanted : Nat} (ho : s.heap.get? a = some o) (hex : o.ExactSet) (hd : o.data = .set (esL knd L) ep t) (hf : t.fits (esL knd L).size = true) (hm : sizeAbove wanted - 1 ∈ [7, 15, 31]) (hn : L.length * 5 < (sizeAbove wanted - 1) * 3) {Q : Unit → Shared → Prop}
    (h : ∀ t' L', TabL t' L' → (L'.map (·.2)).Perm (L.map (·.2)) → t'.mask = sizeAbove wanted - 1 → t'.plain = t.plain → Q () { s with heap := s.heap.update a (Obj.putSet (esL knd L') t') }) :
    wpAny (model P w) A (setRelay a wanted) Q E s := by
  obtain ⟨t', order, L', e1, e2, e3, e4, e5, e6⟩ := relaid_ok (knd := knd) (t := t) hm hn
  unfold setRelay
  refine wpAny_bind (wpAny_setState_of ho hd hf ?_)
  dsimp only
  have hz : ¬ sizeAbove wanted > sizeLine := by
    rw [sizeLine_eq]
    simp only [List.mem_cons, List.not_mem_nil, or_false] at hm
    omega
  rw [if_neg hz]
  have hl : L'.length = L.length := by
    have := e4.length_eq
    simpa using this
  have hsz : ((esL knd L').size != (esL knd L).size) = false := by simp [esL, hl]
  refine wpAny_bind ?_
  rw [e1]
  show wpAny (model P w) A (do
    let es' := order.filterMap ((esL knd L)[·]?)
    if es'.size != (esL knd L).size then unsupported "internal:set-table-lost-an-element"
    pure (es', t')) _ E s
  rw [e2]
  dsimp only
  rw [hsz]
  simp only [Bool.false_eq_true, if_false]
  refine wpAny_pure ?_
  dsimp only
  exact wpAny_storeSet_of ho hd (h t' L' e3 e4 e5 e6) (by
    have := e3.fit
    have := e3.msk
    simp only [List.mem_cons, List.not_mem_nil, or_false] at this
    rw [sizeLine_eq]
    simp [esL]
    omega)
theorem add_new (ok : KOk knd np) (room : knd.room A) (hS : SetL knd s.heap a L t) (hx : knd.is s.heap k b) (hk : ∀ e ∈ L, e.2.1 ≠ k) (hnp : np k) (h8 : L.length < 8) {Q : Bool → Shared → Prop}
    (h : ∀ h' L' t', Heap.SameBut a s.heap h' → SetL knd h' a L' t' → (L'.map (·.2)).Perm ((k, b) :: L.map (·.2)) → ((L.length + 1) * 5 < t.mask * 3 → t'.mask = t.mask ∧ (Fnd knd t L → Fnd knd t' L')) → t'.plain = false → Q true { s with heap := h' }) :
    wpAny (model P w) A (setAddHashed a (.ref b) (knd.hash k)) Q E s := by
  obtain ⟨o, ep, ho, hex, hd⟩ := hS.ob
  obtain ⟨N, n1, n2, n3, n4⟩ := hS.tb.gap (knd.hash k)
  have hmk := hS.tb.msk
  simp only [List.mem_cons, List.not_mem_nil, or_false] at hmk
  have hfit := hS.tb.fit
  unfold setAddHashed
  refine wpAny_holding ?_
  unfold setAddHashedIn
  refine wpAny_bind (wpAny_setState_of ho hd (fits_of hS.tb) ?_)
  dsimp only
  have hb : byScan (.ref b) (esL knd L) = false := rfl
  rw [hb]
  simp only [Bool.false_eq_true, if_false]
  unfold setSearch
  refine wpAny_bind (search_free ok.nc room hS hx hk n1 n2 n3 ?_ 100000 0 none rfl (Nat.zero_le _) (by omega))
  dsimp only
  refine wpAny_bind (wpAny_setState_of ho hd (fits_of hS.tb) ?_)
  dsimp only
  generalize hj : (sts t (knd.hash k) N).j = j at n2 n4
  have hjm : j ≤ t.mask := by
    have := sts_le t (knd.hash k) N
    omega
  have hput : t.put j = ({ t with place := ((putL L j k b).map (·.1)).toArray }, below (L.map (·.1)).toArray j) := by
    unfold SetTable.put
    rw [hS.tb.pl, hS.tb.dm]
    have h0 : has #[] j = false := rfl
    rw [h0]
    simp only [Bool.false_eq_true, if_false]
    have : insertAt (L.map (fun e : SE κ => e.1)).toArray (below (L.map (·.1)).toArray j) j = ((putL L j k b).map (·.1)).toArray := insertAt_list L (fun e : SE κ => e.1) (below (L.map (·.1)).toArray j) (j, k, b) (by have := (below_spec (L.map (·.1)).toArray j hS.tb.inc).1; simpa using this)
    rw [this]
  have hes : insertAt (esL knd L) (below (L.map (·.1)).toArray j) (knd.hash k, .ref b) = esL knd (putL L j k b) := insertAt_list L (fun e : SE κ => (knd.hash e.2.1, Value.ref e.2.2)) (below (L.map (·.1)).toArray j) (j, k, b) (by have := (below_spec (L.map (·.1)).toArray j hS.tb.inc).1; simpa using this)
  rw [hput]
  dsimp only
  rw [hes]
  have hpm := putL_perm L j k b
  have hlen : (putL L j k b).length = L.length + 1 := by rw [hpm.length_eq, List.length_cons]
  have hmem : ∀ e, e ∈ putL L j k b ↔ e = (j, k, b) ∨ e ∈ L := fun e => by rw [hpm.mem_iff, List.mem_cons]
  have hkey : ∀ e ∈ putL L j k b, knd.is s.heap e.2.1 e.2.2 := fun e he => by
    rcases (hmem e).mp he with z | z
    · rw [z]; exact hx
    · exact hS.key e z
  have hnod : ((putL L j k b).map fun e => e.2.1).Nodup := by
    have := (hpm.map (fun e : SE κ => e.2.1)).nodup_iff
    rw [this, List.map_cons, List.nodup_cons]
    refine ⟨fun z => ?_, hS.nd⟩
    obtain ⟨e, he, q⟩ := List.mem_map.mp z
    exact hk e he q
  have hle : ∀ e ∈ putL L j k b, e.1 ≤ t.mask := fun e he => by
    rcases (hmem e).mp he with z | z
    · rw [z]; exact hjm
    · exact hS.tb.le e z
  have hp2 : ((putL L j k b).map (·.2)).Perm ((k, b) :: L.map (·.2)) := hpm.map (fun e : SE κ => e.2)
  have tail : ∀ pl : Bool, pl = false → wpAny (model P w) A (do
      storeSet a (esL knd (putL L j k b)) { t with place := ((putL L j k b).map (·.1)).toArray, plain := pl }
      if (!false && ({ t with place := ((putL L j k b).map (·.1)).toArray, plain := pl } : SetTable).tooFull) = true then do
          setRelay a (grown ((esL knd L).size + 1))
          pure true
        else pure true) Q E s := fun pl hpl => by
    generalize ht1 : ({ t with place := ((putL L j k b).map (·.1)).toArray, plain := pl } : SetTable) = t1
    have m1 : t1.mask = t.mask := by rw [← ht1]
    have l1 : t1.plain = false := by rw [← ht1]; exact hpl
    have p1 : t1.place = ((putL L j k b).map (·.1)).toArray := by rw [← ht1]
    have d1 : t1.dummies = #[] := by rw [← ht1]; exact hS.tb.dm
    have f1 : t1.fill = L.length + 1 := by
      unfold SetTable.fill
      rw [p1, d1]
      simp [hlen]
    have tf : t1.tooFull = decide ((L.length + 1) * 5 ≥ t.mask * 3) := by
      unfold SetTable.tooFull
      rw [f1, m1]
    refine wpAny_bind (wpAny_storeSet_of ho hd ?_ (by rw [sizeLine_eq]; simp [esL, hlen]; omega))
    have st := stored (es' := esL knd (putL L j k b)) (t' := t1) ho hex hd
    rw [tf]
    by_cases hful : (L.length + 1) * 5 ≥ t.mask * 3
    · rw [decide_eq_true hful, if_pos (by rfl)]
      have h5 : L.length = 4 ∧ t.mask = 7 := by omega
      have gz : grown ((esL knd L).size + 1) = 20 := by
        have : (esL knd L).size = 4 := by simp [esL, h5.1]
        rw [this]; rfl
      rw [gz]
      have sz : sizeAbove 20 = 32 := by decide
      refine wpAny_bind (wp_relay (L := putL L j k b) (t := t1) (o := { o with data := .set (esL knd (putL L j k b)) (ep + 1) t1 }) (ep := ep + 1) st hex rfl ?_ (by rw [sz]; decide) (by rw [sz, hlen]; omega) (fun t' L' e3 e4 e5 e6 => wpAny_pure ?_))
      · unfold SetTable.fits
        rw [f1, m1, p1]
        simp [esL, hlen]
        omega
      · refine h _ L' t' ((Heap.SameBut.update _ _ _).trans (Heap.SameBut.update _ _ _)) ?_ (e4.trans hp2) (fun z => by omega) (e6.trans l1)
        refine setL_stored (o := { o with data := .set (esL knd (putL L j k b)) (ep + 1) t1 }) (ep := ep + 1) ok st hex rfl e3 (fun e he => ?_) ?_
        · have : e.2 ∈ (putL L j k b).map (·.2) := e4.mem_iff.mp (List.mem_map_of_mem he)
          obtain ⟨e', he', q⟩ := List.mem_map.mp this
          rw [← q]
          exact ok.keep (hkey e' he') ho hd (Heap.SameBut.update _ _ _)
        · have q1 := (e4.map (fun q : κ × Addr => q.1)).nodup_iff
          rw [List.map_map, List.map_map] at q1
          exact q1.mpr hnod
    · rw [decide_eq_false hful]
      simp only [Bool.not_false, Bool.and_false, Bool.false_eq_true, if_false]
      have tb1 : TabL t1 (putL L j k b) := ⟨p1, d1, putL_inc hS.tb.inc n4, by rw [m1]; exact hS.tb.msk, fun e he => by rw [m1]; exact hle e he, by rw [hlen, m1]; omega⟩
      refine wpAny_pure (h _ _ t1 (Heap.SameBut.update _ _ _) (setL_stored ok ho hex hd tb1 hkey hnod) hp2 (fun _ => ⟨m1, fun hF e he => ?_⟩) l1)
      have ne : ∀ i : Nat, t.slot i ≠ .empty → t1.slot i ≠ .empty := fun i hi z => by
        have : ∃ e ∈ L, e.1 = i := by
          refine Classical.byContradiction fun q => hi (hS.tb.slot.2.1 i (fun e he y => q ⟨e, he, y⟩))
        obtain ⟨e, he, rfl⟩ := this
        have : e ∈ putL L j k b := (hmem e).mpr (.inr he)
        obtain ⟨n, hn, en⟩ := List.getElem_of_mem this
        have := tb1.slot.1 n e (by rw [List.getElem?_eq_getElem hn, en])
        rw [this] at z
        cases z
      rcases (hmem e).mp he with z | z
      · subst z
        refine ⟨N, by rw [sts_mask m1]; exact hj, fun i hi => ne _ ?_⟩
        rw [sts_mask m1]
        exact n3 i hi
      · obtain ⟨n, q1, q2⟩ := hF e z
        refine ⟨n, by rw [sts_mask m1]; exact q1, fun i hi => ne _ ?_⟩
        rw [sts_mask m1]
        exact q2 i hi
  cases hpl : t.plain with
  | true =>
    simp only [if_true]
    refine wpAny_bind (ok.hv hx hnp ?_)
    simp only [Bool.false_eq_true, if_false]
    exact tail false rfl
  | false =>
    simp only [Bool.false_eq_true, if_false]
    refine wpAny_bind (wpAny_pure ?_)
    simp only [if_true]
    exact tail false rfl
end
end LS
set_option Elab.async false
set_option linter.all false
set_option maxRecDepth 100000
set_option maxHeartbeats 4000000
namespace LS
open PySem PySem.SetTable
section
variable {P : Program} {w : World} {κ : Type} [DecidableEq κ] {k0 : KeyKind P w κ}
theorem oc_byValue (n : Nat) {v : Value} (h : carriedByValue v = true) : ofAClassStatement n v = pure false := by
  cases v with
  | ref a => simp [carriedByValue] at h
  | _ => cases n <;> rfl
noncomputable abbrev TxtF (k0 : KeyKind P w κ) (k : List κ) : Prop := ∃ x r, k = x :: r ∧ ∀ n v, k0.is x v = true → hashByValue n v = pure false
theorem tuple_ok : KOk (tupleKind k0) (TxtF k0) := by
  refine ⟨?_, ?_, ?_⟩
  · intro A E s k a Q hk h
    have hk : IsTupleKey k0 s.heap k a := hk
    have hT := hk.typeIs
    obtain ⟨o, items, n, ho, _, hd, hi⟩ := hk
    unfold ofAClassStatement
    refine wpAny_bind (wpAny_typeOf hT ?_)
    dsimp only
    have e : (("tuple" : String) == "tuple") = true := by decide
    rw [e]
    simp only [if_true]
    refine wpAny_bind (wpAny_pure ?_)
    simp only [Bool.not_true, Bool.false_eq_true, if_false]
    refine wpAny_bind (wpAny_seqItems ho hd ?_)
    dsimp only
    refine wpAny_bind ?_
    rw [← Array.forIn_toList]
    refine wpAny_forIn_list _ (fun rest r s' => r.1 = none ∧ s' = s ∧ ∀ v ∈ rest, carriedByValue v = true) _ ?_ ?_ _ _ ⟨rfl, rfl, hi.byValue⟩
    · rintro v rest r s' ⟨hr, rfl, hall⟩
      rw [oc_byValue _ (hall v List.mem_cons_self)]
      refine wpAny_bind (wpAny_pure ?_)
      simp only [Bool.false_eq_true, if_false]
      exact wpAny_pure ⟨rfl, rfl, fun u hu' => hall u (List.mem_cons_of_mem _ hu')⟩
    · rintro ⟨r1, r2⟩ s' ⟨hr, rfl, _⟩
      simp only at hr
      subst hr
      exact wpAny_pure h
  · rintro A E s _ a Q hk ⟨x, r, rfl, hx⟩ h
    have hk : IsTupleKey k0 s.heap (x :: r) a := hk
    have hT := hk.typeIs
    obtain ⟨o, items, n, ho, _, hd, hi⟩ := hk
    unfold hashByValue
    refine wpAny_bind (wpAny_specialOf hT F.slot_tuple_hash.lookup ?_)
    dsimp only
    refine wpAny_bind (wpAny_seqItems ho hd ?_)
    dsimp only [Option.getD_some]
    refine wpAny_bind ?_
    rw [← Array.forIn_toList]
    generalize items.toList = its at hi
    cases hi with
    | cons h1 h2 =>
      rw [List.forIn_cons, hx 7 _ h1]
      exact wpAny_bind (wpAny_bind (wpAny_pure (wpAny_pure (wpAny_pure (wpAny_pure h)))))
  · intro h h' k a d o es ep t x ho hd hs
    obtain ⟨o', items, n, ho', hc, hd', hi⟩ := (show IsTupleKey k0 h k a from x)
    have hne : a ≠ d := by
      rintro rfl
      obtain rfl : o' = o := Option.some.inj (ho'.symm.trans ho)
      rw [hd] at hd'; exact nomatch hd'
    exact ⟨o', items, n, (hs.2 a hne).trans ho', hc, hd', hi⟩
end
end LS
set_option Elab.async false
set_option linter.all false
set_option maxRecDepth 100000
set_option maxHeartbeats 4000000
namespace LS
open PySem PySem.SetTable PyProof.Rows
section
variable {P : Program} {w : World} {κ : Type} [DecidableEq κ] {knd : HeapKind P w κ}
variable {A : Around} {R : Result → Shared → Prop} {I : Addr} {fp wr : List Addr} {G : Array GenState → Array GenState → Prop} {n : Nat} {Pv : Nat → Value → Prop} {St : Nat → Shared → Prop}
theorem set_loop {np : κ → Prop} (ok : KOk knd np) (room : knd.room A.in1) (W : WalksS P w A.in1 I fp wr G n Pv St) (S : Addr) (hSf : S ∉ fp) (val : Nat → κ) (ad : Nat → Addr) (hval : ∀ i v, Pv i v → v = .ref (ad i)) (hdis : ∀ i j, i < n → j < n → val i = val j → i = j) (hnp : ∀ i, i < n → np (val i)) (hn : n ≤ 8)
    (hkeep : ∀ (h h' : Heap) (k : κ) (b : Addr), knd.is h k b → (∀ o, b ∉ S :: wr → h.get? b = some o → h'.get? b = some o) → b ∉ S :: wr → knd.is h' k b)
    (hfree : ∀ i, i < n → ad i ∉ S :: wr) :
    ∀ (k i : Nat) (s : Shared) (L : List (SE κ)) (t : SetTable), n - i = k → i ≤ n → St i s → SetL knd s.heap S L t → (L.map (·.2)).Perm ((List.range i).map fun j => (val j, ad j)) → (∀ j, j < n → knd.is s.heap (val j) (ad j)) →
      (∀ s' L' t', Moved (S :: wr) G s s' → SetL knd s'.heap S L' t' → (L'.map (·.2)).Perm ((List.range n).map fun j => (val j, ad j)) → R (.ok (.ret .none)) s') →
      codeAny (model P w) A (.builtin "set.update.loop" ⟨[.ref S, .ref I], []⟩) R s := by
  have off : ∀ {b : Addr}, b ∉ S :: wr → b ∉ wr := fun h z => h (List.mem_cons_of_mem _ z)
  have hSw : S ∉ wr := fun z => hSf (W.sub _ z)
  have wide : ∀ {s s' : Shared}, Moved wr G s s' → Moved (S :: wr) G s s' := fun m => m.mono (fun b hb => List.mem_cons_of_mem _ hb)
  have keys : ∀ {L : List (SE κ)} {i : Nat}, (L.map (·.2)).Perm ((List.range i).map fun j => (val j, ad j)) → ∀ e ∈ L, ∃ j, j < i ∧ e.2 = (val j, ad j) := fun {L i} hp e he => by
    obtain ⟨j, hj, q⟩ := List.mem_map.mp (hp.mem_iff.mp (List.mem_map_of_mem (f := fun e : SE κ => e.2) he))
    exact ⟨j, List.mem_range.mp hj, q.symm⟩
  have stays : ∀ {s s' : Shared} {L : List (SE κ)} {t : SetTable} {i : Nat}, i ≤ n → Moved wr G s s' → SetL knd s.heap S L t → (L.map (·.2)).Perm ((List.range i).map fun j => (val j, ad j)) → SetL knd s'.heap S L t := fun {s s' L t i} hi m hS hp => by
    obtain ⟨⟨o, ep, ho, more⟩, tb, key, nd⟩ := hS
    refine ⟨⟨o, ep, m.heap S _ hSw ho, more⟩, tb, fun e he => ?_, nd⟩
    obtain ⟨j, hj, q⟩ := keys hp e he
    have hkj := key e he
    rw [q] at hkj ⊢
    exact hkeep _ _ _ _ hkj (fun o hb e => m.heap _ _ (off hb) e) (hfree j (by omega))
  intro k
  induction k with
  | zero =>
    intro i s L t hk hi hst hS hp hks hR
    obtain rfl : i = n := by omega
    apply codeAny_builtin F.entry_set_update_loop
    rw [Around.under_plainId F.plain_set_update_loop]
    exact wpAny_bind (m := pyNext (.ref I)) (W.done s _ _ hst fun s' hm => wpAny_pure (hR s' L t (wide hm) (stays hi hm hS hp) hp))
  | succ k ih =>
    intro i s L t hk hi hst hS hp hks hR
    have hlt : i < n := by omega
    have hll : L.length = i := by simpa using hp.length_eq
    apply codeAny_builtin F.entry_set_update_loop
    rw [Around.under_plainId F.plain_set_update_loop]
    refine wpAny_bind (m := pyNext (.ref I)) (W.item i s _ _ hlt hst fun v s' hP hst' hm => ?_)
    obtain rfl := hval i v hP
    have hS' := stays hi hm hS hp
    have hk2 : ∀ j, j < n → knd.is s'.heap (val j) (ad j) := fun j hj => hkeep _ _ _ _ (hks j hj) (fun o hb e => hm.heap _ _ (off hb) e) (hfree j hj)
    refine wpAny_bind (m := holding _ (setAdd S _)) (wpAny_holding (wpAny_holding (wpAny_bind (knd.pyHash room (hk2 i hlt) ?_))))
    refine add_new (s := { s' with toks := s'.toks + knd.draws (val i) }) ok room hS' (hk2 i hlt) (fun e he z => ?_) (hnp i hlt) (by omega) fun h' L' t' hsb hS2 hp2 _ _ => ?_
    · obtain ⟨j, hj, q⟩ := keys hp e he
      rw [q] at z
      exact absurd (hdis j i (by omega) hlt z) (by omega)
    have kept : ∀ {b : Addr} {o : Obj}, b ≠ S → s'.heap.get? b = some o → h'.get? b = some o := fun hb e => (hsb.2 _ hb).trans e
    have hp3 : (L'.map (·.2)).Perm ((List.range (i + 1)).map fun j => (val j, ad j)) := by
      rw [List.range_succ, List.map_append]
      exact hp2.trans ((hp.cons _).trans (List.perm_append_singleton _ _).symm)
    have go := ih (i + 1) { s' with heap := h', toks := s'.toks + knd.draws (val i) } L' t' (by omega) hlt (W.frame _ s' _ _ hst' (Nat.le_add_right _ _) fun b hb o e => kept (fun z => hSf (z ▸ hb)) e) hS2 hp3 (fun j hj => hkeep _ _ _ _ (hk2 j hj) (fun o hb e => kept (fun z => hb (z ▸ List.mem_cons_self)) e) (hfree j hj)) fun s'' L'' t'' hm'' hS'' hp'' => hR s'' L'' t'' (Moved.trans W.gtrans ((wide hm).then_heap (Nat.le_add_right _ _) fun b o hb e => kept (fun z => hb (z ▸ List.mem_cons_self)) e) hm'') hS'' hp''
    exact wpAny_pure ⟨plainId_quiet F.plain_set_update_loop _, go⟩
end
end LS
set_option Elab.async false
set_option linter.all false
set_option maxRecDepth 100000
set_option maxHeartbeats 4000000
namespace LS
open PySem PySem.SetTable PyProof.Rows
section
variable {P : Program} {w : World} {κ : Type} [DecidableEq κ] {k0 : KeyKind P w κ} {A : Around} {E : Value → Shared → Prop} {s : Shared}
noncomputable abbrev setO (led : Bool) : Obj := { cls := .type "set", dict := none, data := .set #[] 0 (.fresh 0 0 led) }
theorem set_call {arg : Value} {Q : Value → Shared → Prop}
    (h : ∀ (led : Bool) (Q' : Unit → Shared → Prop), (∀ s₂, Q (.ref s.heap.objs.size) s₂ → Q' () s₂) → wpAny (model P w) A.in1.in1 (Builtin.Frozenset.updateFrom "set.__init__" s.heap.objs.size arg) Q' E { s with heap := s.heap.push (setO led) }) :
    wpAny (model P w) A (call (.type "set") [arg]) Q E s := by
  have c := F.called_set; obtain ⟨_, _, f1⟩ := c.mro; have f2 := c.made; have f3 := c.sub; have f4 := c.notType; have f5 := c.canCreate; have f6 := F.typeCall_set_1 arg
  refine wpAny_call (codeAny_of_tree (wpAny_pure ⟨Code.quiet_builtin _ (by decide +kernel), codeAny_builtin F.entry_type_call ?_⟩))
  rw [Around.under_plain (weight_type_call_type "set" [arg] []) rfl]; repeat any_goals first | assumption | wp_step
  refine codeAny_mono (code_set_new_1 arg (E := E) (Q₁ := fun x s₁ => x = .ref s.heap.objs.size ∧ ∃ led, s₁ = { s with heap := s.heap.push (setO led) }) fun led => ⟨rfl, led, rfl⟩) ?_
  rintro (e | f) s₁ hr
  · exact hr
  cases f <;> first | exact hr.elim | skip
  obtain ⟨rfl, led, rfl⟩ := hr
  have g : (s.heap.push (setO led)).get? s.heap.objs.size = some (setO led) := Heap.get?_push_size _ rfl
  have ty : Shared.TypeIs { s with heap := s.heap.push (setO led) } (.ref s.heap.objs.size) "set" := ⟨_, g, rfl⟩
  have f7 := c.init.lookup; have f8 := c.init.bind (.ref s.heap.objs.size); repeat any_goals first | assumption | wp_step
  refine codeAny_mono (codeAny_call_builtin (R := wants (fun r s₂ => r = .none ∧ Q (.ref s.heap.objs.size) s₂) E) c.init.plain F.entry_set_init (check_set_init_1 ty ?_)) ?_
  · unfold Builtin.«set.__init__» noKeywords; generalize hU : Builtin.Frozenset.updateFrom = U; wp_walk; subst hU
    exact h led _ fun s₂ q => wpAny_pure ⟨rfl, q⟩
  · rintro (e | f) s₂ hr
    · exact hr
    cases f <;> first | exact hr.elim | skip
    obtain ⟨rfl, q⟩ := hr; repeat any_goals first | assumption | wp_step
end
end LS
set_option Elab.async false
set_option linter.all false
set_option maxRecDepth 100000
set_option maxHeartbeats 4000000
namespace LS
open PySem PySem.SetTable PyProof.Rows
section
variable {P : Program} {w : World} {κ : Type} [DecidableEq κ] {k0 : KeyKind P w κ} {A : Around} {E : Value → Shared → Prop} {s : Shared}
theorem key_on {h h' : Heap} {k : List κ} {b : Addr} (x : IsTupleKey k0 h k b) (e : ∀ o, h.get? b = some o → h'.get? b = some o) : IsTupleKey k0 h' k b := by
  obtain ⟨o, its, n, a1, a2⟩ := x
  exact ⟨o, its, n, e _ a1, a2⟩
theorem key_ne {h : Heap} {k : List κ} {b S : Addr} {led : Bool} (x : IsTupleKey k0 h k b) (hS : h.get? S = some (setO led)) : b ≠ S := fun z => by
  obtain ⟨o, its, n, a1, a2, _⟩ := x
  rw [z, hS] at a1
  rw [← Option.some.inj a1] at a2
  exact absurd a2 (by simp)
theorem fresh_setL {h : Heap} {S : Addr} {led : Bool} (hS : h.get? S = some (setO led)) : SetL (tupleKind k0) h S [] (.fresh 0 0 led) :=
  ⟨⟨_, 0, hS, ⟨rfl, rfl, rfl⟩, rfl⟩, ⟨rfl, rfl, .nil, show (7 : Nat) ∈ [7, 15, 31] by decide, fun e he => (by cases he), show 0 * 5 < 7 * 3 by decide⟩, fun e he => (by cases he), .nil⟩
theorem update_list {S l : Addr} {led : Bool} {items : Array Value} {val : Nat → List κ} {ad : Nat → Addr} {nm : String} {Q : Unit → Shared → Prop} (hh : A.handled = none) (hu : A.units + 5 < cLine) (hS : s.heap.get? S = some (setO led)) (hl : s.heap.IsList l items) (hi : ∀ (i : Nat) (v : Value), items[i]? = some v → v = Value.ref (ad i)) (hn : items.size ≤ 8) (hdis : ∀ i j, i < items.size → j < items.size → val i = val j → i = j) (hks : ∀ j, j < items.size → IsTupleKey k0 s.heap (val j) (ad j)) (hnp : ∀ j, j < items.size → TxtF k0 (val j))
    (h : ∀ (h' : Heap) (tk : Nat) (L : List (SE (List κ))) (t : SetTable), SetL (tupleKind k0) h' S L t → (L.map (·.2)).Perm ((List.range items.size).map fun j => (val j, ad j)) → (∀ b o, b ≠ S → s.heap.get? b = some o → h'.get? b = some o) → Q () { s with heap := h', toks := tk }) :
    wpAny (model P w) A (Builtin.Frozenset.updateFrom nm S (.ref l)) Q E s := by
  obtain ⟨⟨ocls, odict, odata, oslots⟩, ol, oc, nl, od⟩ := id hl
  simp only at oc od; subst oc od
  have q1 := F.sub_list_set; have q2 := F.sub_list_frozenset
  have lS : l ≠ S := fun z => by rw [z, hS] at ol; exact absurd (congrArg (fun o : Option Obj => o.map (·.cls)) ol) (by simp)
  have q3 : (Value.type "list" == Value.type "dict") = false := by decide
  unfold Builtin.Frozenset.updateFrom; generalize hP : pyIter = PI; wp_walk; subst hP
  refine wpAny_pyIter_list hl (wpAny_bind (wpAny_runValue ?_))
  have lt : S < s.heap.objs.size := Heap.lt_size hS
  have nI : l ≠ s.heap.objs.size := Nat.ne_of_lt (Heap.lt_size ol)
  refine set_loop (knd := tupleKind k0) tuple_ok (show A.in1.units < cLine from by simp only [Around.in1]; omega) (Walks.list (by simp [hh]) _ l nI items).toS S (by simp only [List.mem_cons, List.not_mem_nil, or_false, not_or]; exact ⟨Nat.ne_of_lt lt, Ne.symm lS⟩) val ad hi hdis hnp hn (fun h h' k b x e nb => key_on x (fun o => e o nb)) (fun j hj z => ?fr) (items.size - 0) 0 _ [] (.fresh 0 0 led) (by omega) (Nat.zero_le _) ⟨⟨_, Heap.get?_push_size _ rfl, rfl, rfl⟩, hl.push _⟩ (fresh_setL (Heap.get?_push_of_some _ hS)) (.refl _) (fun j hj => key_on (hks j hj) (fun o e => Heap.get?_push_of_some _ e)) ?done
  case fr =>
    have k1 := key_ne (hks j hj) hS
    obtain ⟨o', its, n, ho', _⟩ := hks j hj
    have k2 := Heap.lt_size ho'
    rcases List.mem_cons.mp z with z | z
    · exact k1 z
    · rw [List.mem_singleton.mp z] at k2; exact Nat.lt_irrefl _ k2
  case done =>
    rintro ⟨h', g', d', tk', os'⟩ L' t' hm hS' hp'
    obtain rfl : g' = s.gens := hm.gens
    obtain rfl : d' = s.drawn := hm.drawn
    obtain rfl : os' = s.os := hm.os
    refine wpAny_pure (h h' tk' L' t' hS' hp' fun b o nb e => hm.heap b o (fun z => ?_) (Heap.get?_push_of_some _ e))
    rcases List.mem_cons.mp z with z | z
    · exact nb z
    · rw [List.mem_singleton.mp z] at e; exact Nat.lt_irrefl _ (Heap.lt_size e)
end
end LS
set_option Elab.async false
set_option linter.all false
set_option maxRecDepth 100000
set_option maxHeartbeats 4000000
namespace LS
open PySem PySem.SetTable PyProof.Rows
section
variable {P : Program} {w : World} {κ : Type} [DecidableEq κ] {k0 : KeyKind P w κ} {A : Around} {E : Value → Shared → Prop} {s : Shared}
theorem update_dict {S l : Addr} {led : Bool} {odict : Option Addr} {oslots : Array (Option Value)} {es : Array DictEntry} {ep : Nat} {xs : List (List κ × Addr × Value)} {nm : String} {Q : Unit → Shared → Prop} (hu : A.units < cLine)
    (hS : s.heap.get? S = some (setO led)) (ho : s.heap.get? l = some { cls := .type "dict", dict := odict, data := .dict es ep, slots := oslots }) (hes : es.toList = xs.map (entryOfKey (tupleKind k0))) (hnd : (xs.map (·.1)).Nodup) (hks : ∀ x ∈ xs, IsTupleKey k0 s.heap x.1 x.2.1) (hnp : ∀ x ∈ xs, TxtF k0 x.1) (hn : xs.length ≤ 8) (hsys : (l == sysModules) = false)
    (h : ∀ (h' : Heap) (L : List (SE (List κ))) (t : SetTable), SetL (tupleKind k0) h' S L t → Fnd (tupleKind k0) t L → (L.map (·.2)).Perm (xs.map fun x => (x.1, x.2.1)) → Heap.SameBut S s.heap h' → (t.plain = false ∨ L = []) → Q () { s with heap := h' }) :
    wpAny (model P w) A (Builtin.Frozenset.updateFrom nm S (.ref l)) Q E s := by
  have hne : l ≠ S := fun z => by rw [z, hS] at ho; exact absurd (congrArg (fun o : Option Obj => o.map (·.cls)) ho) (by simp)
  have hsls := F.sub_dict_set; have hslf := F.sub_dict_frozenset
  have hT : s.TypeIs (.ref l) "dict" := ⟨_, ho, rfl⟩
  have hN : es.size = xs.length := by rw [← Array.length_toList, hes, List.length_map]
  have nS : ∀ x ∈ xs, x.2.1 ≠ S := fun x hx => key_ne (hks x hx) hS
  unfold Builtin.Frozenset.updateFrom
  obtain ⟨hp, g, d, tk, os⟩ := s
  have hol : ∀ {h' : Heap}, Heap.SameBut S hp h' → h'.get? l = some { cls := .type "dict", dict := odict, data := .dict es ep, slots := oslots } := fun sb => by rw [sb.2 l hne]; exact ho
  wp_walk
  refine wpAny_mono (Q := fun _ s₁ => ∃ h1 t1, s₁ = { heap := h1, gens := g, drawn := d, toks := tk, os := os } ∧ SetL (tupleKind k0) h1 S [] t1 ∧ xs.length * 5 < t1.mask * 3 ∧ Heap.SameBut S hp h1) ?room ?fill (fun _ _ z => z)
  case room =>
    have rf : ((#[], 0, SetTable.fresh 0 0 led) : Array (Int × Value) × Nat × SetTable).snd.snd.roomFor es.size = if es.size * 5 ≥ 21 then some (es.size * 2) else none := by
      unfold SetTable.roomFor
      simp [SetTable.fresh, SetTable.fill]
    rw [rf]
    by_cases hc : es.size * 5 ≥ 21
    · rw [if_pos hc]
      have hsz : (sizeAbove (es.size * 2) - 1 = 15 ∧ es.size < 8) ∨ sizeAbove (es.size * 2) - 1 = 31 := by
        rcases (show es.size = 5 ∨ es.size = 6 ∨ es.size = 7 ∨ es.size = 8 by omega) with e | e | e | e <;> rw [e]
        · exact .inl ⟨by decide, by decide⟩
        · exact .inl ⟨by decide, by decide⟩
        · exact .inl ⟨by decide, by decide⟩
        · exact .inr (by decide)
      refine wp_relay (knd := tupleKind k0) (L := []) hS ⟨rfl, rfl, rfl⟩ rfl rfl (by rcases hsz with ⟨e, _⟩ | e <;> rw [e] <;> decide) (by rcases hsz with ⟨e, _⟩ | e <;> rw [e] <;> (rw [List.length_nil]; decide)) fun t' L' tb pm mk _ => ?_
      obtain rfl : L' = [] := List.length_eq_zero_iff.mp (by simpa using pm.length_eq)
      exact ⟨_, t', rfl, setL_stored (knd := tupleKind k0) tuple_ok (L' := []) hS ⟨rfl, rfl, rfl⟩ rfl tb (fun e he => (by cases he)) .nil, by rw [mk]; rcases hsz with ⟨e, _⟩ | e <;> rw [e] <;> omega, Heap.SameBut.update _ _ _⟩
    · rw [if_neg hc]
      exact wpAny_pure ⟨hp, _, rfl, fresh_setL hS, show xs.length * 5 < 7 * 3 by omega, Heap.SameBut.refl _ _⟩
  case fill =>
    rintro _ _ ⟨h1, t1, rfl, hS1, hf1, sb1⟩
    refine wpAny_bind (wpAny_dictEntries (hol sb1) rfl (wpAny_bind ?_))
    rw [Std.Legacy.Range.forIn_eq_forIn_range']
    refine wpAny_forIn_list _ (fun rest _ s' => ∃ (i : Nat) (h' : Heap) (L : List (SE (List κ))) (t : SetTable), rest = List.range' i (xs.length - i) ∧ i ≤ xs.length ∧ s' = { heap := h', gens := g, drawn := d, toks := tk, os := os } ∧ SetL (tupleKind k0) h' S L t ∧ Fnd (tupleKind k0) t L ∧ (L.map (·.2)).Perm ((xs.take i).map fun x => (x.1, x.2.1)) ∧ t.mask = t1.mask ∧ Heap.SameBut S hp h' ∧ (t.plain = false ∨ L = [])) _ ?_ ?_ _ _ ⟨0, h1, [], t1, by simp [hN], Nat.zero_le _, rfl, hS1, fun e he => (by cases he), .refl _, rfl, sb1, .inr rfl⟩
    · rintro j rest _ s' ⟨i, h', L, t, er, hi, rfl, hS', hF, hp', hm, sb, pl⟩
      have hlt : i < xs.length := by
        rcases Nat.lt_or_ge i xs.length with z | z
        · exact z
        · rw [show xs.length - i = 0 by omega] at er; cases er
      rw [show xs.length - i = (xs.length - (i + 1)) + 1 by omega, List.range'_succ] at er
      obtain ⟨rfl, er⟩ := List.cons.inj er
      refine wpAny_bind (wpAny_dictEntries (hol sb) rfl ?_)
      have ei : es[j]? = some (entryOfKey (tupleKind k0) xs[j]) := by
        rw [← Array.getElem?_toList, hes, List.getElem?_map, List.getElem?_eq_getElem hlt]; rfl
      rw [ei]
      have hxm : xs[j] ∈ xs := List.getElem_mem hlt
      have hll : L.length = j := by
        have := hp'.length_eq
        simp only [List.length_map, List.length_take] at this
        omega
      refine wpAny_bind (wpAny_holding (add_new (knd := tupleKind k0) (s := { heap := h', gens := g, drawn := d, toks := tk, os := os }) tuple_ok hu hS' (key_on (hks _ hxm) (fun o e => by rw [sb.2 _ (nS _ hxm)]; exact e)) (fun e he z => ?_) (hnp _ hxm) (by omega) fun h2 L2 t2 sb2 hS2 hp2 hF2 hpl => ?_))
      · obtain ⟨x, hx, q⟩ := List.mem_map.mp (hp'.mem_iff.mp (List.mem_map_of_mem (f := fun e : SE (List κ) => e.2) he))
        obtain ⟨i', hi', ei'⟩ := List.getElem_of_mem hx
        rw [List.length_take] at hi'
        rw [List.getElem_take] at ei'
        have z2 : (xs.map (·.1))[i']'(by rw [List.length_map]; omega) = (xs.map (·.1))[j]'(by rw [List.length_map]; exact hlt) := by
          rw [List.getElem_map, List.getElem_map, ei', ← z, ← q]
        have := (List.getElem_inj hnd).mp z2
        omega
      · have sb3 := sb.trans sb2
        obtain ⟨m2, f2⟩ := hF2 (by rw [hm, hll]; omega)
        refine wpAny_bind (wpAny_dictEpoch (hol sb3) rfl ?_)
        simp only [bne_self_eq_false, Bool.false_eq_true, if_false]
        refine wpAny_pure ⟨j + 1, h2, L2, t2, er, hlt, rfl, hS2, f2 hF, ?_, by rw [m2, hm], sb3, .inl hpl⟩
        refine hp2.trans ((hp'.cons _).trans ?_)
        rw [List.take_add_one, List.getElem?_eq_getElem hlt, List.map_append]
        exact (List.perm_append_singleton _ _).symm
    · rintro _ s' ⟨i, h', L, t, er, hi, rfl, hS', hF, hp', hm, sb, pl⟩
      obtain rfl : i = xs.length := by
        have := congrArg List.length er
        rw [List.length_range', List.length_nil] at this
        omega
      rw [List.take_of_length_le (Nat.le_refl _)] at hp'
      exact wpAny_pure (h h' L t hS' hF hp' sb pl)
end
end LS
set_option Elab.async false
set_option linter.all false
set_option maxRecDepth 100000
set_option maxHeartbeats 4000000
namespace LS
open PySem PySem.SetTable PyProof.Rows
section
variable {P : Program} {w : World} {A : Around} {E : Value → Shared → Prop}
theorem wp_choose {M : Model} {src : Source} {n : Nat} {s : Shared} {Q : Nat → Shared → Prop} (hn : n ≠ 0) (h : ∀ i d, i < n → Q i { s with drawn := d }) : wpAny M A (choose src n) Q E s :=
  fun _ _ _ => ⟨hn, h _ _ (Nat.mod_lt _ (Nat.pos_of_ne_zero hn))⟩
theorem wp_draw {M : Model} {α : Type} : ∀ (xs : List α) {s : Shared} {Q : List α → Shared → Prop}, (∀ ys d, (∀ y ∈ ys, y ∈ xs) → Q ys { s with drawn := d }) → wpAny M A (drawOrder xs.length xs) Q E s
  | [], s, Q, h => wpAny_pure (h [] s.drawn fun y hy => hy)
  | x :: r, s, Q, h => by
    show wpAny M A (choose .order (x :: r).length >>= _) Q E s
    refine wpAny_bind (wp_choose (by simp) fun i d hi => ?_)
    have ei : (x :: r)[i]? = some (x :: r)[i] := List.getElem?_eq_getElem hi
    rw [ei]
    dsimp only
    have el : r.length = ((x :: r).eraseIdx i).length := by rw [List.length_eraseIdx_of_lt hi]; simp
    rw [el]
    refine wpAny_bind (wp_draw ((x :: r).eraseIdx i) fun ys d' hy => wpAny_pure (h _ d' fun y hm => ?_))
    rcases List.mem_cons.mp hm with z | z
    · rw [z]; exact List.getElem_mem hi
    · exact List.mem_of_mem_eraseIdx (hy y z)
  termination_by xs => xs.length
  decreasing_by rw [List.length_eraseIdx_of_lt hi]; simp
theorem pick_mem {α : Type} (next : Nat → Nat) (xs : List α) : ∀ (fuel k : Nat) (left : List α) (out : Array α), (∀ x ∈ left, x ∈ xs) → (∀ x ∈ out.toList, x ∈ xs) → ∀ x ∈ (pickOrder.go next fuel k left out).toList, x ∈ xs
  | 0, _, _, _, _, h => h
  | fuel + 1, k, left, out, h1, h2 => by
    unfold pickOrder.go
    cases e : left[next k % left.length]? with
    | none => exact h2
    | some x =>
      refine pick_mem next xs fuel (k + 1) _ _ (fun y hy => h1 y (List.mem_of_mem_eraseIdx hy)) (fun y hy => ?_)
      rw [Array.toList_push] at hy
      rcases List.mem_append.mp hy with z | z
      · exact h2 y z
      · rw [List.mem_singleton.mp z]; exact h1 x (List.mem_of_getElem? e)
variable {κ : Type} [DecidableEq κ] {knd : HeapKind P w κ} {s : Shared} {a b : Addr} {L L2 : List (SE κ)} {t t2 : SetTable}
theorem wp_walkS (hS : SetL knd s.heap a L t) (hpl : t.plain = false ∨ L = []) {Q : Array (Int × Value) → Shared → Prop} (h : ∀ es d, (∀ p ∈ es.toList, p ∈ (esL knd L).toList) → Q es { s with drawn := d }) : wpAny (model P w) A (setWalk a) Q E s := by
  obtain ⟨o, ep, ho, hex, hd⟩ := hS.ob
  unfold setWalk setsByText
  refine wpAny_bind (wpAny_setState_of ho hd (fits_of hS.tb) (wpAny_bind (wpAny_bind (wpAny_askSetting (wpAny_pure ?_)))))
  cases hb : (model P w).w.params.followText "set-order" with
  | true =>
    refine wpAny_bind (wpAny_askSetting (wpAny_pure (h _ s.drawn ?_)))
    exact pick_mem _ _ _ _ _ _ (fun x hx => hx) (fun x hx => by cases hx)
  | false =>
    simp only [Bool.false_eq_true, if_false]
    refine wpAny_ite_split (fun hc => ?_) (fun hc => ?_)
    · exact wpAny_bind (wp_draw (esL knd L).toList fun ys d hy => wpAny_pure (h _ d fun p hp => hy p (by simpa using hp)))
    · have hc : ¬ (!t.plain && decide ((esL knd L).size > 1)) = true := hc
      have h1 : ¬ (esL knd L).size > 1 := fun z => by
        rcases hpl with q | q
        · rw [q, decide_eq_true z] at hc; exact hc rfl
        · subst q; simp [esL] at z
      refine wpAny_bind ?_
      show wpAny _ _ (if (!t.led && decide ((esL knd L).size > 1)) = true then _ else _) _ _ _
      rw [decide_eq_false h1, Bool.and_false, if_neg (by decide)]
      exact wpAny_pure (wpAny_pure (h _ s.drawn fun p hp => hp))
end
section
variable {P : Program} {w : World} {A : Around} {E : Value → Shared → Prop} {κ : Type} [DecidableEq κ] {k0 : KeyKind P w κ} {s : Shared} {a b : Addr} {L L2 : List (SE (List κ))} {t t2 : SetTable}
theorem sub_ok {nm : String} (hu : A.units < cLine) (hA : SetL (tupleKind k0) s.heap a L t) (hB : SetL (tupleKind k0) s.heap b L2 t2) (hF : Fnd (tupleKind k0) t2 L2) (hpl : t.plain = false ∨ L = []) (hin : ∀ e ∈ L, ∃ e' ∈ L2, e'.2.1 = e.2.1) (hle : L.length ≤ L2.length) {Q : Bool → Shared → Prop} (h : ∀ d, Q true { s with drawn := d }) : wpAny (model P w) A (Builtin.Frozenset.subsetOf nm a b) Q E s := by
  obtain ⟨o, ep, ho, hex, hd⟩ := hA.ob
  obtain ⟨o2, ep2, ho2, hex2, hd2⟩ := hB.ob
  unfold Builtin.Frozenset.subsetOf Builtin.Frozenset.sizeOf
  refine wpAny_bind (wpAny_bind (wpAny_setEntries_of ho hd (fits_of hA.tb) (wpAny_pure (wpAny_bind (wpAny_bind (wpAny_setEntries_of ho2 hd2 (fits_of hB.tb) (wpAny_pure ?_)))))))
  rw [if_neg (by simp [esL]; omega)]
  refine wpAny_bind (wpAny_setEpoch_of ho hd (fits_of hA.tb) ?_)
  have quiet : ∀ {e : SE (List κ)} {s₁ : Shared} {Q : Bool → Shared → Prop}, IsTupleKey k0 s₁.heap e.2.1 e.2.2 → (∀ r, Q r s₁) → wpAny (model P w) A (Builtin.Frozenset.quietEq (.ref e.2.2)) Q E s₁ := fun hk q => by
    unfold Builtin.Frozenset.quietEq
    exact wpAny_bind (wpAny_specialOf hk.typeIs F.slot_tuple_eq.lookup (wpAny_pure (q _)))
  have walk : ∀ {Q : List (Int × Value) → Shared → Prop}, (∀ es d, (∀ p ∈ es, p ∈ (esL (tupleKind k0) L).toList) → Q es { s with drawn := d }) → wpAny (model P w) A (Builtin.Frozenset.walkUnseen a b) Q E s := fun {Q} q => by
    unfold Builtin.Frozenset.walkUnseen
    refine wpAny_bind (wpAny_setEntries_of ho hd (fits_of hA.tb) (wpAny_bind (wpAny_setEntries_of ho2 hd2 (fits_of hB.tb) ?_)))
    have both : ∀ p ∈ (esL (tupleKind k0) L).toList ++ (esL (tupleKind k0) L2).toList, ∃ e : SE (List κ), p = ((tupleKind k0).hash e.2.1, .ref e.2.2) ∧ IsTupleKey k0 s.heap e.2.1 e.2.2 := fun p hp => by
      rcases List.mem_append.mp hp with z | z
      · obtain ⟨e, he, rfl⟩ := List.mem_map.mp (show p ∈ L.map _ from z)
        exact ⟨e, rfl, hA.key e he⟩
      · obtain ⟨e, he, rfl⟩ := List.mem_map.mp (show p ∈ L2.map _ from z)
        exact ⟨e, rfl, hB.key e he⟩
    refine wpAny_bind (wpAny_forIn_list _ (fun rest r s' => r = (none, PUnit.unit) ∧ s' = s ∧ ∀ p ∈ rest, ∃ e : SE (List κ), p = ((tupleKind k0).hash e.2.1, Value.ref e.2.2) ∧ IsTupleKey k0 s.heap e.2.1 e.2.2) _ (fun p rest r s' hI => ?_) (fun r s' hI => ?_) _ _ ⟨rfl, rfl, both⟩)
    · obtain ⟨rfl, rfl, hr⟩ := hI
      obtain ⟨e, rfl, hk⟩ := hr p (List.mem_cons_self ..)
      refine wpAny_bind (quiet hk fun r => ?_)
      cases r with
      | true => exact wpAny_pure ⟨rfl, rfl, fun v hv => hr v (List.mem_cons_of_mem _ hv)⟩
      | false =>
        unfold Builtin.Frozenset.walk
        exact wpAny_bind (wpAny_bind (wp_walkS hA hpl fun es d hes => wpAny_pure (wpAny_pure (wpAny_pure (q _ d hes)))))
    · obtain ⟨rfl, rfl, _⟩ := hI
      exact wpAny_pure (q _ s'.drawn fun p hp => hp)
  refine wpAny_bind (walk fun es d hes => ?_)
  refine wpAny_bind (wpAny_forIn_list _ (fun rest r s' => r = (none, PUnit.unit) ∧ s' = { s with drawn := d } ∧ ∀ p ∈ rest, p ∈ (esL (tupleKind k0) L).toList) _ (fun p rest r s' hI => ?_) (fun r s' hI => ?_) _ _ ⟨rfl, rfl, hes⟩)
  · obtain ⟨rfl, rfl, hr⟩ := hI
    obtain ⟨e, he, rfl⟩ := List.mem_map.mp (show p ∈ L.map _ from hr p (List.mem_cons_self ..))
    obtain ⟨e', he', ek⟩ := hin e he
    refine wpAny_bind (wpAny_holding (find_there (knd := tupleKind k0) (s := { s with drawn := d }) tuple_ok.nc hu hB hF (hA.key e he) he' ek fun r => ?_))
    rw [if_neg (by simp)]
    unfold Builtin.Frozenset.unchanged
    refine wpAny_bind (wpAny_bind (wpAny_setEpoch_of (s := { s with drawn := d }) ho hd (fits_of hA.tb) ?_))
    rw [if_neg (by simp)]
    exact wpAny_pure (wpAny_pure ⟨rfl, rfl, fun v hv => hr v (List.mem_cons_of_mem _ hv)⟩)
  · obtain ⟨rfl, rfl, _⟩ := hI
    exact wpAny_pure (h d)
theorem entry_ne : entryFor table "set.__ne__" = some Builtin.«frozenset.__ne__» := entryFor_alias (id' := "frozenset.__ne__") (by kernel_rfl) rfl (by decide +kernel) (by kernel_rfl)
theorem ne_no (hu : A.units + 10 < cLine) (hA : SetL (tupleKind k0) s.heap a L t) (hB : SetL (tupleKind k0) s.heap b L2 t2) (hF : Fnd (tupleKind k0) t2 L2) (hpl : t.plain = false ∨ L = []) (hin : ∀ e ∈ L, ∃ e' ∈ L2, e'.2.1 = e.2.1) (hle : L.length = L2.length) {Q : Value → Shared → Prop} (h : ∀ d, Q (.bool false) { s with drawn := d }) : wpAny (model P w) A (compareOp .NotEq (.ref a) (.ref b)) Q E s := by
  obtain ⟨o, ep, ho, hex, hd⟩ := hA.ob
  obtain ⟨o2, ep2, ho2, hex2, hd2⟩ := hB.ob
  have tA : s.TypeIs (.ref a) "set" := ⟨o, ho, hex.1⟩
  have tB : s.TypeIs (.ref b) "set" := ⟨o2, ho2, hex2.1⟩
  have f1 := sub_set_self; have f2 : isSubtype (.type "set") (.type "frozenset") = pure false := by rw [isSubtype_type]; kernel_rfl
  refine wpAny_richCompare_same_room (op := .NotEq) tA tB F.slot_set_ne (wpAny_call_entry F.slot_set_ne tA entry_ne ?_ (F.args_set_ne_2 _ _)) (by omega)
  show wpAny _ _ (Builtin.Frozenset.slot1 _ _ >>= _) _ _ _
  obtain ⟨oc, od, odt, osl⟩ := o; obtain ⟨oc2, od2, odt2, osl2⟩ := o2
  obtain ⟨g1, g2, g3⟩ := hex; obtain ⟨g4, g5, g6⟩ := hex2
  simp only at g1 g2 g3 g4 g5 g6 hd hd2; subst g1 g2 g3 g4 g5 g6 hd hd2
  have fit : ∀ {t : SetTable} {L : List (SE (List κ))}, TabL t L → (t.place.size != (esL (tupleKind k0) L).size || decide (t.fill > t.mask)) = false := fun tb => by
    have := fits_of (knd := tupleKind k0) tb
    simp only [SetTable.fits, Bool.and_eq_true, beq_iff_eq, decide_eq_true_eq] at this
    simp [this.1, Nat.not_lt.mpr this.2]
  have w1 := fit hA.tb; have w2 := fit hB.tb
  generalize hSu : Builtin.Frozenset.subsetOf = Su
  wp_walk
  rw [w1]
  simp only [Bool.false_eq_true, if_false]
  wp_walk
  rw [w2]
  simp only [Bool.false_eq_true, if_false]
  wp_walk
  subst hSu
  exact sub_ok (s := s) (show A.in1.units < cLine from by simp only [Around.in1]; omega) hA hB hF hpl hin (Nat.le_of_eq hle) fun d => wpAny_pure ⟨_, rfl, by simp, h d⟩
end
end LS
set_option Elab.async false
set_option linter.all false
set_option maxRecDepth 100000
set_option maxHeartbeats 4000000
namespace L2
open PySem PySem.Spec PyProof.Rows PySem.SetTable LS
noncomputable abbrev KT2 (P : Program) (w : World) := tupleKind (mixKind P w)
noncomputable abbrev SK := SE (List Key)
noncomputable def SetOb (P : Program) (w : World) (a : Addr) (L : List SK) (t : SetTable) (h : Heap) : Prop := ∃ o ep, h.get? a = some o ∧ o.ExactSet ∧ o.data = .set (esL (KT2 P w) L) ep t
structure SetV (P : Program) (w : World) (H : Hp) (a : Addr) (L : List SK) (t : SetTable) : Prop where
  ob : H a = some (.ext (SetOb P w a L t))
  tb : TabL t L
  key : ∀ e ∈ L, H e.2.2 = some (.tup (e.2.1.map kV))
  nd : (L.map fun e => e.2.1).Nodup
theorem SetV.setL {P : Program} {w : World} {H : Hp} {h : Heap} {a : Addr} {L : List SK} {t : SetTable} (v : SetV P w H a L t) (ok : HOk P w H h) : SetL (KT2 P w) h a L t := by
  obtain ⟨p, _, _⟩ := (show ObjOk P w H h a (.ext (SetOb P w a L t)) from ok a _ v.ob)
  exact ⟨p, v.tb, fun e he => key_of ok (v.key e he), v.nd⟩
theorem txtF {P : Program} {w : World} {x : Str} {r : List Key} : TxtF (mixKind P w) (.inr x :: r) := ⟨.inr x, r, rfl, fun n v h => by
  have h : keyIs (Sum.inr x) v = true := h
  obtain ⟨y, t, rfl⟩ : ∃ y t, v = .str y t := by
    rcases keyIs_shape h with ⟨i, t, e, e2⟩ | ⟨y, t, _, e2⟩
    · first | cases e | cases e2
    · exact ⟨y, t, by assumption⟩
  cases n <;> rfl⟩
section
variable {X : Cx}
theorem setOb_ext {P : Program} {w : World} {H : Hp} {h : Heap} {a : Addr} {L : List SK} {t : SetTable} (hS : SetL (KT2 P w) h a L t) : ObjOk P w H h a (.ext (SetOb P w a L t)) := by
  obtain ⟨o, ep, ho, r⟩ := hS.ob
  exact ⟨⟨o, ep, ho, r⟩, ⟨o, ho⟩, fun h1 h2 ⟨o', ep', ho', r'⟩ e => ⟨o', ep', e _ ho', r'⟩⟩
structure SetN (P : Program) (w : World) (H : Hp) (p : Addr) (qs : List (List Key × Addr)) (L : List SK) (t : SetTable) : Prop where
  tb : TabL t L
  nd : (L.map fun e => e.2.1).Nodup
  pm : (L.map (·.2)).Perm qs
noncomputable def mSetL (X : Cx) : List V → Hp → VK → Prop := fun xs H Q => ∃ (l : Addr) (qs : List (List Key × Addr)), xs = [.ref l] ∧ H l = some (.lst (qs.map fun q => .ref q.2)) ∧ qs.length ≤ 8 ∧ (qs.map (·.1)).Nodup ∧ (∀ q ∈ qs, H q.2 = some (.tup (q.1.map kV)) ∧ ∃ x r, q.1 = .inr x :: r) ∧
  ∀ (p : Addr) (L : List SK) (t : SetTable), H p = none → SetN X.prog X.w H p qs L t → Q (.ref p) (upd H p (.ext (SetOb X.prog X.w p L t)))
theorem mc_setL (hc : X.calm = true) (hu : X.A.units + 150 < cLine) : CallR X (.type "set") (mSetL X) := by
  intro pins s σ H vs us Q I r h
  obtain ⟨l, qs, rfl, hl, hn, hnd, hq, k⟩ := h
  obtain ⟨u, rfl, r1⟩ := vals1 r
  cases r1
  obtain ⟨its, rv, p1, _⟩ := I.list (.inl (.inl hl))
  have hlen : its.length = qs.length := by rw [← rv.length, List.length_map]
  have at_ : ∀ i, i < qs.length → ∃ q, qs[i]? = some q ∧ its[i]? = some (.ref q.2) := fun i hi => by
    have e : qs[i]? = some qs[i] := List.getElem?_eq_getElem hi
    obtain ⟨v, e1, e2⟩ := rv.get (show (qs.map fun q => V.ref q.2)[i]? = some (.ref qs[i].2) by rw [List.getElem?_map, e]; rfl)
    cases e2
    exact ⟨_, e, e1⟩
  have sz : its.toArray.size = qs.length := by simp [hlen]
  refine set_call fun led Q' hQ => ?_
  have nS : ∀ b o, s.heap.get? b = some o → b ≠ s.heap.objs.size := fun b o e => Nat.ne_of_lt (Heap.lt_size e)
  refine update_list (k0 := mixKind X.prog X.w) (items := its.toArray) (val := fun i => (qs.getD i ([], 0)).1) (ad := fun i => (qs.getD i ([], 0)).2) (by simp [I.ok.hd hc]) (by simp only [Around.in1]; omega) (Heap.get?_push_size _ rfl) (p1.isList.push _) (fun i v e => ?_) (by omega) (fun i j hi hj e => ?_) (fun j hj => ?_) (fun j hj => ?_) fun h' tk L t hS hp kp => hQ _ ?_
  · have hi : i < qs.length := by
      have := (Array.getElem?_eq_some_iff.mp e).1
      omega
    obtain ⟨q, e1, e2⟩ := at_ i hi
    rw [List.getElem?_toArray, e2] at e
    rw [List.getD_eq_getElem?_getD, e1]
    exact (Option.some.inj e).symm
  · rw [sz] at hi hj
    simp only [List.getD_eq_getElem?_getD, List.getElem?_eq_getElem hi, List.getElem?_eq_getElem hj, Option.getD_some] at e
    have := (List.getElem_inj (i := i) (j := j) (h₀ := by rw [List.length_map]; exact hi) (h₁ := by rw [List.length_map]; exact hj) hnd).mp (by rw [List.getElem_map, List.getElem_map]; exact e)
    exact this
  · rw [sz] at hj
    simp only [List.getD_eq_getElem?_getD, List.getElem?_eq_getElem hj, Option.getD_some]
    exact key_on (key_of I.hok (hq _ (List.getElem_mem hj)).1) (fun o e => Heap.get?_push_of_some _ e)
  · rw [sz] at hj
    simp only [List.getD_eq_getElem?_getD, List.getElem?_eq_getElem hj, Option.getD_some]
    obtain ⟨x, r, e⟩ := (hq _ (List.getElem_mem hj)).2
    rw [e]
    exact txtF
  · have pm : (L.map (·.2)).Perm qs := by
      refine hp.trans (.of_eq ?_)
      rw [sz]
      refine List.ext_getElem (by simp) fun i h1 h2 => ?_
      simp only [List.getElem_map, List.getElem_range, List.getD_eq_getElem?_getD, List.getElem?_eq_getElem h2, Option.getD_some]
    exact ⟨.ref s.heap.objs.size, _, I.laid (a := s.heap.objs.size) (o := .ext (SetOb X.prog X.w s.heap.objs.size L t)) (t' := tk) (fun b o e => kp b o (nS b o e) (Heap.get?_push_of_some _ e)) (Nat.le_refl _) (setOb_ext hS), rfl, k _ L t (I.hok.fresh (Nat.le_refl _)) ⟨hS.tb, hS.nd, pm⟩⟩
noncomputable def mLenS (X : Cx) : List V → Hp → VK → Prop := fun xs H Q => ∃ (p : Addr) (L : List SK) (t : SetTable), xs = [.ref p] ∧ H p = some (.ext (SetOb X.prog X.w p L t)) ∧ TabL t L ∧ Q (.int (L.length : Int)) H
theorem mc_lenS : CallR X (.builtin "len") (mLenS X) := by
  intro pins s σ H vs us Q I r h
  obtain ⟨p, L, t, rfl, hp, tb, k⟩ := h
  obtain ⟨u, rfl, r1⟩ := vals1 r
  cases r1
  obtain ⟨⟨o, ep, ho, hex, hd⟩, _⟩ := (show ObjOk X.prog X.w H s.heap p (.ext (SetOb X.prog X.w p L t)) from I.hok p _ hp)
  have hs : (esL (KT2 X.prog X.w) L).size = L.length := by simp [esL]
  have hf := tb.fit
  have hm := tb.msk
  simp only [List.mem_cons, List.not_mem_nil, or_false] at hm
  refine call_len_set ho hex hd (fits_of tb) (by rw [hs]; omega) ⟨.int L.length, H, ?_, ⟨_, by rw [hs]⟩, k⟩
  exact I.tok _
end
end L2
set_option Elab.async false
set_option linter.all false
set_option maxRecDepth 100000
set_option maxHeartbeats 4000000
namespace L2
open PySem PySem.Spec PyProof.Rows PySem.SetTable LS
section
variable {X : Cx}
theorem Inv.drew {pins : List (Addr × Obj)} {σ : St} {H : Hp} {s : Shared} (I : Inv X pins σ H s) (d : Drawn) : Inv X pins σ H { s with drawn := d } :=
  I.step (h' := s.heap) (g' := s.gens) (d' := d) (t' := s.toks) (ch := []) (fun _ z => nomatch z) (fun b o _ _ _ e _ => e) (fun b o _ _ _ e _ => ⟨o.slots, e⟩) (fun _ _ _ _ n => n) (fun b o _ e => ⟨o, e⟩) (fun _ _ e => e) (fun _ _ _ e => e) (fun b ps e => ⟨#[], by rw [e]; simp⟩) (fun m hm => hm) I.hok I.bare
structure SetW (P : Program) (w : World) (H : Hp) (ks : List (List Key)) (L : List SK) (t : SetTable) : Prop where
  tb : TabL t L
  nd : (L.map fun e => e.2.1).Nodup
  key : ∀ e ∈ L, H e.2.2 = some (.tup (e.2.1.map kV))
  pm : (L.map fun e => e.2.1).Perm ks
  fd : Fnd (KT2 P w) t L
  pl : t.plain = false ∨ L = []
noncomputable def mSetD (X : Cx) : List V → Hp → VK → Prop := fun xs H Q => ∃ (d : Addr) (kvs : List (List Key × V)), xs = [.ref d] ∧ H d = some (.dT kvs) ∧ kvs.length ≤ 8 ∧ (∀ q ∈ kvs, ∃ x r, q.1 = .inr x :: r) ∧
  ∀ (p : Addr) (L : List SK) (t : SetTable), H p = none → SetW X.prog X.w H (kvs.map (·.1)) L t → Q (.ref p) (upd H p (.ext (SetOb X.prog X.w p L t)))
theorem kt_all {H : Hp} {kvs : List (List Key × V)} {xs : List (List Key × Addr × Value)} (h : KT H kvs xs) : xs.map (·.1) = kvs.map (·.1) ∧ ∀ x ∈ xs, H x.2.1 = some (.tup (x.1.map kV)) := by
  induction h with
  | nil => exact ⟨rfl, fun x h => (by cases h)⟩
  | cons a _ ih =>
    refine ⟨by rw [List.map_cons, List.map_cons, ih.1, a.1], fun x hx => ?_⟩
    rcases List.mem_cons.mp hx with z | z
    · rw [z, ← a.1]; exact a.2.1
    · exact ih.2 x z
theorem mc_setD (hu : X.A.units + 150 < cLine) : CallR X (.type "set") (mSetD X) := by
  intro pins s σ H vs us Q I r h
  obtain ⟨d, kvs, rfl, hd, hn, hk, k⟩ := h
  obtain ⟨u, rfl, r1⟩ := vals1 r
  cases r1
  obtain ⟨_, sys, xs, kt, o, es, ep, ho, hex, hdt, hes, hks, hnd⟩ := dt_of I.hok hd
  obtain ⟨ek, ht⟩ := kt_all kt
  have hlen : xs.length = kvs.length := by have := congrArg List.length ek; simpa using this
  obtain ⟨oc, od, odt, osl⟩ := o
  obtain ⟨e1, e2, e3⟩ := hex
  simp only at e1 hdt
  subst e1 hdt
  refine set_call fun led Q' hQ => ?_
  have nS : ∀ b o, s.heap.get? b = some o → b ≠ s.heap.objs.size := fun b o e => Nat.ne_of_lt (Heap.lt_size e)
  refine update_dict (k0 := mixKind X.prog X.w) (xs := xs) (by simp only [Around.in1]; omega) (Heap.get?_push_size _ rfl) (Heap.get?_push_of_some _ ho) hes hnd (fun x hx => key_on (hks x hx) (fun o e => Heap.get?_push_of_some _ e)) (fun x hx => ?_) (by omega) sys fun h' L t hS hF hp sb pl => hQ _ ?_
  · have : x.1 ∈ kvs.map (·.1) := by rw [← ek]; exact List.mem_map_of_mem hx
    obtain ⟨q, hq, e⟩ := List.mem_map.mp this
    obtain ⟨y, r, e'⟩ := hk q hq
    rw [← e, e']
    exact txtF
  · refine ⟨.ref s.heap.objs.size, _, I.laid (a := s.heap.objs.size) (o := .ext (SetOb X.prog X.w s.heap.objs.size L t)) (t' := s.toks) (fun b o e => by rw [sb.2 b (nS b o e)]; exact Heap.get?_push_of_some _ e) (Nat.le_refl _) (setOb_ext hS), rfl, k _ L t (I.hok.fresh (Nat.le_refl _)) ⟨hS.tb, hS.nd, fun e he => ?_, ?_, hF, pl⟩⟩
    · obtain ⟨x, hx, q⟩ := List.mem_map.mp (hp.mem_iff.mp (List.mem_map_of_mem (f := fun e : SK => e.2) he))
      rw [← q]
      exact ht x hx
    · have := hp.map (fun q : List Key × Addr => q.1)
      rw [List.map_map, List.map_map] at this
      rw [← ek]
      exact this
noncomputable def mNeS (X : Cx) : R2 := fun x y H Q => ∃ (a b : Addr) (ks : List (List Key)) (L L2 : List SK) (t t2 : SetTable), x = .ref a ∧ y = .ref b ∧ H a = some (.ext (SetOb X.prog X.w a L t)) ∧ H b = some (.ext (SetOb X.prog X.w b L2 t2)) ∧ SetW X.prog X.w H ks L t ∧ SetW X.prog X.w H ks L2 t2 ∧ Q (.bl false) H
theorem ko_neS (hu : X.A.units + 150 < cLine) : OpR X (compareOp .NotEq) (mNeS X) := by
  intro pins s σ H x y v u Q I rx ry h
  obtain ⟨a, b, ks, L, L2, t, t2, rfl, rfl, ha, hb, wa, wb, k⟩ := h
  cases rx
  cases ry
  have sa : SetL (KT2 X.prog X.w) s.heap a L t := SetV.setL ⟨ha, wa.tb, wa.key, wa.nd⟩ I.hok
  have sb : SetL (KT2 X.prog X.w) s.heap b L2 t2 := SetV.setL ⟨hb, wb.tb, wb.key, wb.nd⟩ I.hok
  have pm := wa.pm.trans wb.pm.symm
  refine ne_no (k0 := mixKind X.prog X.w) (by omega) sa sb wb.fd wa.pl (fun e he => ?_) (by have := pm.length_eq; simpa using this) fun d => ⟨.bl false, H, I.drew d, rfl, k⟩
  obtain ⟨e', he', q⟩ := List.mem_map.mp (pm.mem_iff.mp (List.mem_map_of_mem (f := fun e : SK => e.2.1) he))
  exact ⟨e', he', q⟩
end
end L2
set_option Elab.async false
set_option linter.all false
set_option maxRecDepth 100000
set_option maxHeartbeats 4000000
namespace L2
open PySem PySem.Spec PyProof.Rows PySem.W
noncomputable def ItT (a : Addr) (o : Obj) (kvs : List (List Key × V)) (ads : List Addr) : It := ⟨fun i H => i < kvs.length ∧ H a = some (.frz o (.dT kvs)), fun i H x H' => H' = H ∧ ∃ b, ads[i]? = some b ∧ x = .ref b, fun i H => i = kvs.length ∧ H a = some (.frz o (.dT kvs))⟩
theorem kt_at {H : Hp} {kvs : List (List Key × V)} {xs : List (List Key × Addr × Value)} (h : KT H kvs xs) : kvs.length = xs.length := by
  induction h with
  | nil => rfl
  | cons _ _ ih => rw [List.length_cons, List.length_cons, ih]
structure KeysAt (o : Obj) (es : Array DictEntry) (ep : Nat) (ads : List Addr) : Prop where
  hx : o.ExactDict
  hd : o.data = .dict es ep
  ks : es.toList.map (·.key) = ads.map Value.ref
theorem turn_dictT {P : Program} {w : World} {K : PySem.W.Frag} {tg : Expr} (a it : Addr) (o : Obj) (kvs : List (List Key × V)) (es : Array DictEntry) (ep : Nat) (ads : List Addr) (ka : KeysAt o es ep ads) (hn : es.size = kvs.length) : Turn P w K tg (ItT a o kvs ads) [it] it (fun i h => h.IsKeyIter it a i es.size ep) where
  mem := by simp
  obj := fun i h st b hb => by
    obtain rfl : b = it := by simpa using hb
    obtain ⟨o, e, c, d⟩ := st
    exact ⟨o, e, fun v z => by rw [d] at z; cases z⟩
  keep := fun i h h' st k => by
    obtain ⟨o, e, c⟩ := st
    exact ⟨o, k it (by simp) o e, c⟩
  item := by
    intro X hP hw hK hc i pins s σ H E I hf st hg
    subst hP hw hK
    obtain ⟨hi, hH⟩ := hg
    obtain ⟨ho, _⟩ := (show ObjOk X.prog X.w H s.heap a (.frz o (.dT kvs)) from I.hok a _ hH)
    obtain ⟨f0, f1, f2, f3, f4, f5⟩ := hf it (by simp)
    refine raw_key_item st ⟨o, ho, ka.hx, ka.hd⟩ (by omega) fun h' st' sb => ?_
    have I1 : Inv X pins σ H { s with heap := h' } := I.turned (t' := s.toks) (fun b o hb e => (sb.2 b hb).trans e) f0 f1 f3 f4 f5
    obtain ⟨o2, e, c, d⟩ := id st'
    have ek : (es.toList.map (·.key))[i]? = some es[i].key := by
      rw [List.getElem?_map, Array.getElem?_toList, Array.getElem?_eq_getElem (by omega)]; rfl
    rw [ka.ks, List.getElem?_map] at ek
    obtain ⟨b, eb, er⟩ := Option.map_eq_some_iff.mp ek
    exact ⟨_, rfl, go_of (s := { s with heap := h' }) e c d (by decide) ⟨.ref b, H, I1, er.symm, ⟨rfl, b, eb, rfl⟩, st', fun b hb => (hf b hb).1⟩⟩
  done := by
    intro X hP hw hK hc i pins s σ H E I hf st hg
    subst hP hw hK
    obtain ⟨f0, f1, f2, f3, f4, f5⟩ := hf it (by simp)
    obtain ⟨hi, hH⟩ := hg
    obtain ⟨ho, _⟩ := (show ObjOk X.prog X.w H s.heap a (.frz o (.dT kvs)) from I.hok a _ hH)
    rw [hi, ← hn] at st
    exact raw_key_end (I.ok.hd hc) st ⟨o, ho, ka.hx, ka.hd⟩ fun h' eb => ⟨rfl, I.turned (t' := s.toks) (fun b o hb e => eb b o hb e) f0 f1 f3 f4 f5⟩
  self := fun _ _ _ _ _ st h => wpAny_pyIter_keyiter st h
theorem row_dictT {a : Addr} {o : Obj} {kvs : List (List Key × V)} {ads : List Addr} : Row (ItT a o kvs ads) kvs.length (fun i => ((ads[i]?).map fun p => V.ref p).getD .non) (fun H => H a = some (.frz o (.dT kvs))) := ⟨fun i H h q => ⟨h, q⟩, fun i H v H' hi q h => by
  obtain ⟨e, b, h1, h2⟩ := h
  refine ⟨e, ?_⟩
  rw [h1, h2]
  rfl, fun H q => ⟨rfl, q⟩⟩
section
variable {X : Cx} {tg : Expr}
noncomputable def iDictT (NF : Addr → Prop) (tl : TE) : TI := fun σ H R => tl σ H fun x H1 => ∃ (a : Addr) (kvs : List (List Key × V)), x = .ref a ∧ H1 a = some (.dT kvs) ∧ ∀ (o : Obj) (ads : List Addr), NF a → ads.length = kvs.length → (∀ (i : Nat) (q : List Key × V) (b : Addr), kvs[i]? = some q → ads[i]? = some b → H1 b = some (.tup (q.1.map kV))) → R (ItT a o kvs ads) (upd H1 a (.frz o (.dT kvs)))
theorem kt_get {H : Hp} {kvs : List (List Key × V)} {xs : List (List Key × Addr × Value)} (h : KT H kvs xs) : ∀ {i : Nat} {q : List Key × V} {x : List Key × Addr × Value}, kvs[i]? = some q → xs[i]? = some x → H x.2.1 = some (.tup (q.1.map kV)) := by
  induction h with
  | nil => intro i q x e; simp at e
  | cons a _ ih =>
    intro i q x e1 e2
    cases i with
    | zero => cases e1; cases e2; exact a.2.1
    | succ i => exact ih (by simpa using e1) (by simpa using e2)
theorem pi_dictT {l : Expr} {tl : TE} (hl : PE X l tl) : PI X tg l (iDictT (NFz X) tl) := by
  intro pins s σ H R I h
  refine thn (hl pins s σ H _ I h) fun u s1 ⟨x, H1, I1, r1, a, kvs, ex, ha, q⟩ => ?_
  subst ex
  cases r1
  obtain ⟨z, lo, xs, kt, o, es, ep, ho, hx, hd, he, hk, hnd⟩ := dt_of I1.hok ha
  have nf : NFz X a := fun o' u' e => by
    have := I1.base.frzs a o' u' e
    rw [ha] at this
    cases this
  have hl := kt_at kt
  have hn : es.size = kvs.length := by rw [← Array.length_toList, he, List.length_map, hl]
  have ka : KeysAt o es ep (xs.map (·.2.1)) := ⟨hx, hd, by rw [he, List.map_map, List.map_map]; rfl⟩
  have I2 : Inv X pins σ (upd H1 a (.frz o (.dT kvs))) s1 := I1.write (t' := s1.toks) (h' := s1.heap) (x := a) (e := a) (by rw [ha]; exact True.intro) (.inl rfl) (fun b q hb e => e) ⟨o, ho⟩ ⟨ho, z, lo, xs, Paired.mapP kt (fun p q r => ⟨r.1, by rw [upd_ne (ne_of r.2.1 ha (fun z => by cases z))]; exact r.2.1, r.2.2⟩), o, es, ep, ho, hx, hd, he, hnd⟩
  refine raw_iter lo ⟨o, ho, hx, hd⟩ ?_
  refine ⟨s1.heap.objs.size, [s1.heap.objs.size], _, _, _, rfl, I2.kept (t' := s1.toks) fun b q e => Heap.get?_push_of_some _ e, turn_dictT a _ o kvs es ep _ ka hn, ⟨_, Heap.get?_push_size _ rfl, rfl, rfl⟩, fun b hb => ?_, q o _ nf (by rw [List.length_map, hl]) (fun i q b e1 e2 => ?_)⟩
  · obtain rfl : b = s1.heap.objs.size := by simpa using hb
    exact I2.fpOk (Nat.le_refl _) (I2.hok.fresh (Nat.le_refl _))
  · rw [List.getElem?_map] at e2
    obtain ⟨x, ex, rfl⟩ := Option.map_eq_some_iff.mp e2
    exact kt_get kt e1 ex
theorem Inv.thawT {pins : List (Addr × Obj)} {σ : St} {H : Hp} {s : Shared} {a : Addr} {o : Obj} {kvs : List (List Key × V)} (I : Inv X pins σ H s) (nf : NFz X a) (hH : H a = some (.frz o (.dT kvs))) : Inv X pins σ (upd H a (.dT kvs)) s := by
  have ne0 : ∀ b, H b = none → b ≠ a := fun b h z => by rw [z, hH] at h; cases h
  have ne1 : ∀ b u, H b = some u → (∀ o' u', u ≠ .frz o' u') → b ≠ a := fun b u h n z => by
    rw [z, hH] at h
    exact n _ _ (Option.some.inj h).symm
  have hok := I.hok
  have keep : ∀ b u, H b = some u → (∀ o' u', u ≠ .frz o' u') → (upd H a (.dT kvs)) b = some u := fun b u h n => by rw [upd_ne (ne1 b u h n)]; exact h
  have none_ : ∀ b, H b = none → (upd H a (.dT kvs)) b = none := fun b h => by rw [upd_ne (ne0 b h)]; exact h
  have stay : ∀ (b : Addr) (u : HO), ObjOk X.prog X.w H s.heap b u → ObjOk X.prog X.w (upd H a (.dT kvs)) s.heap b u := fun b u x => x.stay (fun c v _ q => q) (fun c q => keep c _ q (fun _ _ z => by cases z)) fun c xs q => keep c _ q (fun _ _ z => by cases z)
  refine { I with base := ⟨I.base.keep, I.base.slot, fun b o' g h e => none_ b (I.base.free b o' g h e), I.base.there, fun b xs e => keep b _ (I.base.tups b xs e) (fun _ _ z => by cases z), fun b o' u e => ?_, fun b ps e => ?_⟩, free := none_ _ I.free, freeC := fun x c e => none_ _ (I.freeC x c e), pin := fun p hp => ?_, hok := fun b u e => ?_ }
  · rw [upd_ne (fun z => by subst z; exact nf o' u e)]
    exact I.base.frzs b o' u e
  · obtain ⟨more, this⟩ := I.base.tbls b ps e
    exact ⟨more, keep b _ this (fun _ _ z => by cases z)⟩
  · obtain ⟨h1, h2, h3⟩ := I.pin p hp
    exact ⟨h1, none_ _ h2, h3⟩
  · by_cases hb : b = a
    · subst hb
      rw [upd_same] at e
      cases e
      exact stay b _ (hok b _ hH).2
    · rw [upd_ne hb] at e
      exact stay b u (hok b u e)
noncomputable def tThawT (NF : Addr → Prop) (t : TS) : TS := fun D σ H => t { nx := fun σ' H' => ∃ a o kvs, NF a ∧ H' a = some (.frz o (.dT kvs)) ∧ D.nx σ' (upd H' a (.dT kvs)), rt := fun v H' => ∃ a o kvs, NF a ∧ H' a = some (.frz o (.dT kvs)) ∧ D.rt v (upd H' a (.dT kvs)), bk := D.bk, ct := D.ct } σ H
theorem ps_thawT {st : Stmt} {t : TS} (h : PS X st t) : PS X st (tThawT (NFz X) t) := by
  intro pins s σ H D I q
  refine thn (h pins s σ H _ I q) fun f s1 r => ?_
  cases f with
  | next =>
    obtain ⟨σ', H', I', a, o, kvs, nf, hH, q'⟩ := r
    exact ⟨σ', _, I'.thawT nf hH, q'⟩
  | brk => exact r
  | cont => exact r
  | ret u =>
    obtain ⟨v, σ', H', I', rv, a, o, kvs, nf, hH, q'⟩ := r
    exact ⟨v, σ', _, I'.thawT nf hH, rv, q'⟩
theorem tThawT_i {NF : Addr → Prop} {t : TS} {D : Ends} {σ : St} {H : Hp} (k : t { nx := fun σ' H' => ∃ a o kvs, NF a ∧ H' a = some (.frz o (.dT kvs)) ∧ D.nx σ' (upd H' a (.dT kvs)), rt := fun v H' => ∃ a o kvs, NF a ∧ H' a = some (.frz o (.dT kvs)) ∧ D.rt v (upd H' a (.dT kvs)), bk := D.bk, ct := D.ct } σ H) : tThawT NF t D σ H := k
theorem iDictT_i {NF : Addr → Prop} {tl : TE} {σ : St} {H : Hp} {R : It → Hp → Prop} (k : tl σ H fun x H1 => ∃ (a : Addr) (kvs : List (List Key × V)), x = .ref a ∧ H1 a = some (.dT kvs) ∧ ∀ (o : Obj) (ads : List Addr), NF a → ads.length = kvs.length → (∀ (i : Nat) (q : List Key × V) (b : Addr), kvs[i]? = some q → ads[i]? = some b → H1 b = some (.tup (q.1.map kV))) → R (ItT a o kvs ads) (upd H1 a (.frz o (.dT kvs)))) : iDictT NF tl σ H R := k
end
end L2
set_option Elab.async false
set_option linter.all false
set_option maxRecDepth 100000
set_option maxHeartbeats 4000000
namespace L2
open PySem PySem.Spec PyProof.Rows PySem.W
section
variable {X : Cx}
theorem map_kV_inj : ∀ {a b : List Key}, a.map kV = b.map kV → a = b
  | [], [], _ => rfl
  | [], _ :: _, h => by simp at h
  | _ :: _, [], h => by simp at h
  | x :: a, y :: b, h => by
    rw [List.map_cons, List.map_cons] at h
    obtain ⟨h1, h2⟩ := List.cons.inj h
    rw [kV_inj h1, map_kV_inj h2]
theorem eqAt_keys {pins : List (Addr × Obj)} {σ : St} {H : Hp} {s : Shared} (I : Inv X pins σ H s) {A : Around} {a b : Addr} {k1 k2 : List Key} (h1 : H a = some (.tup (k1.map kV))) (h2 : H b = some (.tup (k2.map kV))) (hu : A.units + 1 < cLine) : SeqAt.EqAt A s (.ref a) (.ref b) (decide (k1 = k2)) := by
  by_cases hab : a = b
  · subst hab
    rw [h1] at h2
    have : k1 = k2 := map_kV_inj (by injection (Option.some.inj h2))
    rw [decide_eq_true this]
    exact SeqAt.EqAt.same _
  · have := eqAt_tups I (A := A) (.inl (.inl h1)) (.inl (.inl h2)) hab (fun j => decide (k1[j]? = k2[j]?)) hu fun j x x' w w' e1 e2 r1 r2 => by
      rw [List.getElem?_map] at e1 e2
      obtain ⟨y, f1, rfl⟩ := Option.map_eq_some_iff.mp e1
      obtain ⟨z, f2, rfl⟩ := Option.map_eq_some_iff.mp e2
      rw [f1, f2, show decide (some y = some z) = decide (y = z) by simp]
      exact eqAt_kV r1 r2
    rw [List.length_map, List.length_map, all_eq] at this
    exact this
noncomputable def mNinK : R2 := fun x y H Q => ∃ (b l : Addr) (k : List Key) (qs : List (List Key × Addr)), x = .ref b ∧ y = .ref l ∧ H b = some (.tup (k.map kV)) ∧ H l = some (.lst (qs.map fun q => .ref q.2)) ∧ (∀ q ∈ qs, H q.2 = some (.tup (q.1.map kV))) ∧ Q (.bl (!qs.any fun q => decide (q.1 = k))) H
theorem ko_ninK (hu : X.A.units + 150 < cLine) : OpR X (compareOp .NotIn) mNinK := by
  intro pins s σ H x y v u Q I rx ry h
  obtain ⟨b, l, k, qs, rfl, rfl, hb, hl, hq, q⟩ := h
  cases rx
  cases ry
  obtain ⟨its, rv, p1, _⟩ := I.list (.inl (.inl hl))
  have ei : its = qs.map fun q => Value.ref q.2 := by
    have : ∀ {qs : List (List Key × Addr)} {its : List Value}, Vals (qs.map fun q => V.ref q.2) its → its = qs.map fun q => Value.ref q.2 := by
      intro qs
      induction qs with
      | nil => intro its h; cases h; rfl
      | cons q r ih =>
        intro its h
        cases h with
        | cons h1 h2 => cases h1; rw [ih h2]; rfl
    exact this rv
  subst ei
  classical
  refine SeqAt.notIn_listAt (fun v => decide (∃ c, v = .ref c ∧ H c = some (.tup (k.map kV)))) p1.isList (fun y hy => ?_) ⟨.bl _, H, I, rfl, ?_⟩
  · have hy : y ∈ qs.map fun q => Value.ref q.2 := by simpa using hy
    obtain ⟨q0, hq0, rfl⟩ := List.mem_map.mp hy
    have := eqAt_keys I (A := X.A.in1) (hq q0 hq0) hb (by show X.A.units + 1 + 1 < cLine; omega)
    have e : decide (q0.1 = k) = decide (∃ c, Value.ref q0.2 = .ref c ∧ H c = some (.tup (k.map kV))) := by
      by_cases z : q0.1 = k
      · rw [decide_eq_true z, decide_eq_true ⟨_, rfl, by rw [← z]; exact hq q0 hq0⟩]
      · rw [decide_eq_false z, decide_eq_false]
        rintro ⟨c, e1, e2⟩
        cases e1
        rw [hq q0 hq0] at e2
        exact z (map_kV_inj (by injection (Option.some.inj e2)))
    rw [← e]
    exact this
  · have e : (!(qs.map fun q => Value.ref q.2).toArray.any fun v => decide (∃ c, v = .ref c ∧ H c = some (.tup (k.map kV)))) = !qs.any fun q => decide (q.1 = k) := by
      rw [List.any_toArray, List.any_map]
      congr 1
      have : ∀ l : List (List Key × Addr), (∀ q ∈ l, H q.2 = some (.tup (q.1.map kV))) → (l.any ((fun v => decide (∃ c, v = Value.ref c ∧ H c = some (.tup (k.map kV)))) ∘ fun q => Value.ref q.2)) = l.any fun q => decide (q.1 = k) := by
        intro l
        induction l with
        | nil => intro _; rfl
        | cons q0 r ih =>
          intro h
          have hq0 := h q0 (List.mem_cons_self ..)
          rw [List.any_cons, List.any_cons, ih (fun q hq => h q (List.mem_cons_of_mem _ hq))]
          congr 1
          by_cases z : q0.1 = k
          · rw [decide_eq_true z]; exact decide_eq_true ⟨_, rfl, by rw [← z]; exact hq0⟩
          · rw [decide_eq_false z]
            refine decide_eq_false ?_
            rintro ⟨c, e1, e2⟩
            cases e1
            rw [hq0] at e2
            exact z (map_kV_inj (by injection (Option.some.inj e2)))
      exact this qs hq
    rw [e]
    exact q
noncomputable def mEqE (K : Frag) : R2 := fun x y H Q => ∃ (a b : Addr) (xs : List V), x = .ref a ∧ y = .ref b ∧ SqL K H a xs ∧ SqL K H b [] ∧ Q (.bl xs.isEmpty) H
theorem ko_eqE (K : Frag) (hK : X.K = K) (hu : X.A.units + 150 < cLine) : OpR X (compareOp .Eq) (mEqE K) := by
  subst hK
  intro pins s σ H x y v u Q I rx ry h
  obtain ⟨a, b, xs, rfl, rfl, ha, hb, k⟩ := h
  cases rx
  cases ry
  obtain ⟨its, rv, p1, _⟩ := I.list ha
  obtain ⟨its', rv', p2, _⟩ := I.list hb
  cases rv'
  cases rv with
  | nil => exact SeqAt.RcAt.lists (e := fun _ => true) p1.isList p2.isList rfl (by omega) (fun j h _ => absurd h (Nat.not_lt_zero j)) X.prog X.w _ _ ⟨.bl true, H, I, rfl, k⟩
  | cons _ _ => exact SeqAt.RcAt.lists_lengths p1.isList p2.isList rfl (by omega) X.prog X.w _ _ ⟨.bl false, H, I, rfl, k⟩
noncomputable def tDispT (tk tv : TE) : TE := fun σ H Q => ∀ p, H p = none → tk σ (upd H p (.dT [])) fun x H1 => tv σ H1 fun y H2 => H2 p = some (.dT []) ∧ ∃ (k : List Key) (b : Addr), x = .ref b ∧ H2 b = some (.tup (k.map kV)) ∧ Q (.ref p) (upd H2 p (.dT [(k, y)]))
theorem pe_dispT {pos : Pos} {ke ve : Expr} {tk tv : TE} (hu : X.A.units + 150 < cLine) (hk : PE X ke tk) (hv : PE X ve tv) : PE X (.Dict [some ke] [ve] pos) (tDispT tk tv) := by
  intro pins s σ H Q I q
  have hn := I.hok.fresh (Nat.le_refl s.heap.objs.size)
  have I1 := I.laid (a := s.heap.objs.size) (o := .dT []) (h' := s.heap.push { cls := .type "dict", data := .dict #[] }) (t' := s.toks) (fun _ _ q => Heap.get?_push_of_some _ q) (Nat.le_refl _) (dt_empty s.heap I.big)
  refine wpAny_Dict_any rfl rfl (by simp) (by simp) (pairTrees_cons_walk (thn (hk pins _ σ _ _ I1 (q _ hn)) fun u s1 ⟨x, H1, I2, rx, q1⟩ => thn (hv pins s1 σ H1 _ I2 q1) fun w2 s2 ⟨y, H2, I3, ry, e, k, b, ex, hb, q2⟩ => pairTrees_nil_walk ?_))
  subst ex
  cases rx
  obtain ⟨z, hd, xs, rel, dd⟩ := dt_of I3.hok e
  cases rel
  show wpAny _ _ (forIn [(Value.ref b, w2)] PUnit.unit _) _ _ _
  rw [List.forIn_cons]
  refine wpAny_bind (wpAny_bind (wpAny_dictSet_heap (knd := tupleKind (mixKind X.prog X.w)) (show X.A.units < cLine by omega) (key_of I3.hok hb) dd (fun h' dd' hs => wpAny_pure ?_) (by simp)))
  dsimp only
  rw [List.forIn_nil]
  refine wpAny_pure ⟨.ref s.heap.objs.size, _, ?_, rfl, q2⟩
  obtain ⟨o, es, ep, hq, h2, h3, h4, _, h5⟩ := dd'
  refine d_write I3 (by rw [e]; exact True.intro) hs ⟨o, hq⟩ ⟨by simp [sizeLine_eq], hd, _, (KT.put (.nil : KT H2 [] []) k hb ry).keeps fun c ys ec => ?_, o, es, ep, hq, h2, h3, h4, h5⟩
  rw [upd_ne (ne_of ec e (fun z => nomatch z))]
  exact ec
theorem tDispT_i {tk tv : TE} {σ : St} {H : Hp} {Q : VK} (k : ∀ p, H p = none → tk σ (upd H p (.dT [])) fun x H1 => tv σ H1 fun y H2 => H2 p = some (.dT []) ∧ ∃ (k : List Key) (b : Addr), x = .ref b ∧ H2 b = some (.tup (k.map kV)) ∧ Q (.ref p) (upd H2 p (.dT [(k, y)]))) : tDispT tk tv σ H Q := k
end
end L2
set_option Elab.async false
set_option linter.all false
set_option maxRecDepth 100000
set_option maxHeartbeats 4000000
namespace L2
open PySem PySem.Spec PyProof.Rows PySem.W
section
variable {prog : Program} {w : World} {K : Type} [DecidableEq K] {knd : HeapKind prog w K} {A : Around} {E : Value → Shared → Prop} {s : Shared}
theorem setd_heap {d a : Addr} {xs : List (K × Addr × Value)} {k : K} {v : Value} {Q : Value → Shared → Prop} (hu : knd.room A) (hkey : knd.is s.heap k a) (hm : s.heap.DictOfH knd d xs) (hsz : xs.length ≤ sizeLine)
    (h1 : ∀ p, atKey xs k = some p → Q p.2 { s with toks := s.toks + knd.draws k })
    (h2 : atKey xs k = none → ∀ h', h'.DictOfH knd d (storedH xs k a v) → Heap.SameBut d s.heap h' → Q v { s with heap := h', toks := s.toks + knd.draws k }) :
    wpAny (model prog w) A (dictSetDefault d (.ref a) v) Q E s := by
  obtain ⟨o, es, ep, ho, hc, hd, he, his, hn⟩ := hm
  unfold dictSetDefault
  try with_reducible refine wpAny_holding ?_
  refine wpAny_bind (knd.pyHash hu hkey ?_)
  refine wpAny_bind (wpAny_dictFind_heap (s := { s with toks := s.toks + knd.draws k }) hu hkey ho hd he his hn ?_ ?_)
  · intro hno
    have hnot : k ∉ xs.map (·.1) := not_mem_keys_of_get hno
    refine wpAny_bind (wpAny_rule (wpAny_bind (wpAny_updateDictKeys (hz := by have e := size_of_entries he; omega) (s := { s with toks := s.toks + knd.draws k }) ho hd (wpAny_pure (h2 (atKey_none_of_get hno) _ ⟨_, _, ep + 1, Heap.get?_update_self _ ho (Obj.isFreed_of_dict (Obj.data_mapDictKeys hd _)),
      hc.mapDictKeys _, Obj.data_mapDictKeys hd _, ?_, ?_, ?_⟩ (Heap.SameBut.update ..))))))
    · rw [storedH_new (atKey_none_of_get hno)]
      simp [he, entryOfKey]
    · rw [storedH_new (atKey_none_of_get hno)]
      intro x hx
      rcases List.mem_append.mp hx with hx | hx
      · exact knd.keeps (his x hx) ho hd (Heap.SameBut.update ..)
      · simp only [List.mem_singleton] at hx
        subst hx
        exact knd.keeps hkey ho hd (Heap.SameBut.update ..)
    · rw [storedH_new (atKey_none_of_get hno)]
      rw [List.map_append, List.nodup_append]
      refine ⟨hn, by simp, ?_⟩
      intro x hx y hy
      simp only [List.map_cons, List.map_nil, List.mem_singleton] at hy
      subst hy
      exact fun e => hnot (e ▸ hx)
  · intro j p hj
    refine wpAny_bind (wpAny_dictEntries (s := { s with toks := s.toks + knd.draws k }) ho hd ?_)
    rw [entry_at he j, hj]
    exact wpAny_bind (wpAny_rule (wpAny_pure (h1 p (atKey_of_get hn hj))))
theorem meets_setdT (knd : HeapKind prog w K) {k : K} {b : Addr} (d : Addr) (hd : (d == sysModules) = false) (dflt : Value) :
    MeetsIn prog w (Builtin.«dict.setdefault» ⟨[.ref d, .ref b, dflt], []⟩) (fun A R s => knd.room A.in1 ∧ ∃ xs, knd.is s.heap k b ∧ s.heap.DictOfH knd d xs ∧ xs.length ≤ sizeLine ∧
      (∀ p, atKey xs k = some p → R (.ok (.ret p.2)) { s with toks := s.toks + knd.draws k }) ∧
      (atKey xs k = none → ∀ h', h'.DictOfH knd d (storedH xs k b dflt) → Heap.SameBut d s.heap h' → R (.ok (.ret dflt)) { s with heap := h', toks := s.toks + knd.draws k })) :=
  .of_wp fun A R s ⟨hu, xs, hk, hm, hz, h1, h2⟩ => by
    unfold Builtin.«dict.setdefault»
    refine wpAny_bind ?_
    unfold Builtin.Dict.keyAndDefault
    refine wpAny_bind (wpAny_notOrdered_dict hm.typeIs ?_)
    show wpAny _ _ (pure (d, Value.ref b, some dflt)) _ _ s
    refine wpAny_pure ?_
    show wpAny _ _ (if (d == sysModules) = true then _ else (dictSetDefault d (.ref b) dflt >>= _)) _ _ s
    rw [if_neg (by rw [hd]; exact Bool.false_ne_true)]
    exact wpAny_bind (setd_heap hu hk hm hz (fun p hp => wpAny_pure ⟨p.2, rfl, h1 p hp⟩) fun hn h' hm' hs' => wpAny_pure ⟨dflt, rfl, h2 hn h' hm' hs'⟩)
end
section
variable {X : Cx}
noncomputable def mSetdT : V → List V → Hp → VK → Prop := fun x vs H Q => ∃ (a b : Addr) (kvs : List (List Key × V)) (k : List Key) (d : V), x = .ref a ∧ vs = [.ref b, d] ∧ H a = some (.dT kvs) ∧ H b = some (.tup (k.map kV)) ∧ kvs.length < sizeLine ∧ (∀ v, valV kvs k = some v → Q v H) ∧ (valV kvs k = none → Q d (upd H a (.dT (putK kvs k d))))
theorem mm_setdT (hu : X.A.units + 150 < cLine) : MtR X "dict.setdefault" mSetdT := by
  intro pins s σ H x vs v us Q I rx rv h
  obtain ⟨a, b, kvs, k, d, rfl, rfl, ha, hb, hz, q1, q2⟩ := h
  cases rx
  obtain ⟨u, u', rfl, r1, r2⟩ := vals2 rv
  cases r1
  obtain ⟨z1, d1, xs, rel, dd⟩ := dt_of I.hok ha
  have hl := kt_at rel
  refine call_meetsIn PySem.F.slot_dict_setdefault dd.typeIs PySem.F.entry_dict_setdefault (PySem.F.args_dict_setdefault_3 _ _ _) (meets_setdT (tupleKind (mixKind X.prog X.w)) (k := k) a d1 u')
    ⟨tupleKind_room_in1 (by omega), xs, key_of I.hok hb, dd, by omega, fun p hp => ?_, fun hn h' dd' hs => ?_⟩
  · have hr := rel.val k
    rw [hp] at hr
    cases hv : valV kvs k with
    | none => rw [hv] at hr; cases hr
    | some y =>
      rw [hv] at hr
      obtain ⟨y', e1, r3⟩ := RelO.some_of hr
      cases e1
      exact ⟨y, H, I.tok _, r3, q1 y hv⟩
  · have hr := rel.val k
    rw [hn] at hr
    cases hv : valV kvs k with
    | some y => rw [hv] at hr; obtain ⟨_, e1, _⟩ := RelO.some_of hr; cases e1
    | none =>
      refine ⟨d, _, ?_, r2, q2 hv⟩
      have hl : (putK kvs k d).length ≤ sizeLine := by have := length_putK kvs k d; omega
      obtain ⟨o, es, ep, hq, h2, h3, h4, _, h5⟩ := dd'
      refine d_write I (by rw [ha]; exact True.intro) hs ⟨o, hq⟩ ⟨hl, d1, _, (KT.put rel k hb r2).keeps fun c ys ec => ?_, o, es, ep, hq, h2, h3, h4, h5⟩
      rw [upd_ne (ne_of ec ha (fun z => nomatch z))]
      exact ec
theorem mSetdT_i {a b : Addr} {kvs : List (List Key × V)} {k : List Key} {d : V} {H : Hp} {Q : VK} (ha : H a = some (.dT kvs)) (hb : H b = some (.tup (k.map kV))) (hz : kvs.length < sizeLine) (q1 : ∀ v, valV kvs k = some v → Q v H) (q2 : valV kvs k = none → Q d (upd H a (.dT (putK kvs k d)))) : mSetdT (.ref a) [.ref b, d] H Q := ⟨a, b, kvs, k, d, rfl, rfl, ha, hb, hz, q1, q2⟩
end
end L2
set_option Elab.async false
set_option linter.all false
set_option maxRecDepth 100000
set_option maxHeartbeats 4000000
namespace L2
open PySem PySem.Spec PyProof.Rows PySem.W Builtin
open AutoSeq1 (wpAny_loadPart')
theorem noFill_tuple_mul : fillsNumberSlot (.type "tuple") "mul" = pure false :=
  PySem.fillsNumberSlot_seq (id := "tuple.__mul__") (r := some (.builtin "tuple.__rmul__")) F.slot_tuple_mul.lookup (by decide +kernel) F.slot_tuple_rmul.lookup (by decide +kernel)
theorem repeat_tuple : seqRepeat? (.type "tuple") = pure (some (.builtin "tuple.__mul__")) := by
  unfold seqRepeat?
  rw [PySem.seqSlot_of (T := "tuple") (name := "__mul__") (id := "tuple.__mul__") F.slot_tuple_mul.lookup (by decide +kernel), PySem.seqSlot_of (T := "tuple") (name := "__rmul__") (id := "tuple.__rmul__") F.slot_tuple_rmul.lookup (by decide +kernel)]
  rfl
theorem rmul_int_tuple (a : Int) (t : Tok) (l : Addr) (items : Array Value) (n : Nat) (dd : Option Addr) (sl : Array (Option Value)) :
    Meets (Builtin.«int.__rmul__» ⟨[.int a t, .ref l], []⟩) (fun _ R s => s.heap.get? l = some { cls := .type "tuple", dict := dd, data := .seq items n, slots := sl } ∧ R (.ok (.ret Value.notImplemented)) s) :=
  .of_wp fun prog w A R s h => by obtain ⟨hp, g, d, tk, os⟩ := s; obtain ⟨hl, h⟩ := h; wp_walk; exact ⟨_, rfl, h⟩
theorem tuple_mul1 (l : Addr) (t : Tok) (items : Array Value) (n : Nat) (dd : Option Addr) (sl : Array (Option Value)) :
    Meets (Builtin.«tuple.__mul__» ⟨[.ref l, .int 1 t], []⟩) (fun _ R s => s.heap.get? l = some { cls := .type "tuple", dict := dd, data := .seq items n, slots := sl } ∧ R (.ok (.ret (Value.ref l))) s) :=
  .of_wp fun prog w A R s h => by
    obtain ⟨hp, g, d, tk, os⟩ := s; obtain ⟨hl, h⟩ := h; have f1 := AutoSeq1.idx_int
    have c : (items.isEmpty || (1 : Int) == 1) = true := by simp
    wp_walk using wpAny_loadPart' hl; exact ⟨_, rfl, h⟩
theorem tuple_mul0 (l : Addr) (t : Tok) (items : Array Value) (n : Nat) (dd : Option Addr) (sl : Array (Option Value)) (he : items.isEmpty = false) :
    Meets (Builtin.«tuple.__mul__» ⟨[.ref l, .int 0 t], []⟩) (fun _ R s => s.heap.get? l = some { cls := .type "tuple", dict := dd, data := .seq items n, slots := sl } ∧ R (.ok (.ret (Value.ref s.heap.objs.size))) { s with heap := s.heap.push { cls := Value.type "tuple", data := Data.seq #[] } }) :=
  .of_wp fun prog w A R s h => by
    obtain ⟨hp, g, d, tk, os⟩ := s; obtain ⟨hl, h⟩ := h; have f1 := AutoSeq1.idx_int
    have c : ¬ (items.isEmpty || (0 : Int) == 1) = true := by simp [he]
    have c2 : ((0 : Int) ≤ 0 || items.isEmpty) = true := by simp
    wp_walk using wpAny_loadPart' hl; exact ⟨_, rfl, h⟩
section
variable {X : Cx}
noncomputable def mRepT (K : Frag) : R2 := fun x y H Q => ∃ (a : Addr) (z : V) (k : Int), x = .ref a ∧ y = .int k ∧ SqT K H a [z] ∧ ((k = 1 ∧ Q (.ref a) H) ∨ (k = 0 ∧ ∀ p, H p = none → Q (.ref p) (upd H p (.tup []))))
theorem ko_repT (K : Frag) (hK : X.K = K) : OpR X (binaryOp .Mult) (mRepT K) := by
  subst hK
  intro pins s σ H x y v u Q I rx ry h
  obtain ⟨a, z, k, rfl, rfl, hH, q⟩ := h
  cases rx
  obtain ⟨t', rfl⟩ := ry
  obtain ⟨its, r1, p1, _⟩ := I.tuple hH
  obtain ⟨⟨cls, dd, data, sl⟩, ho, hc, n, hd⟩ := id p1
  simp only at hc hd
  subst hc hd
  have ne : its.toArray.isEmpty = false := by
    cases r1 with
    | cons _ _ => rfl
  rcases q with ⟨rfl, q⟩ | ⟨rfl, q⟩
  · exact wpAny_binaryOp_repeat_ref (T := "tuple") (U := "int") (by decide) ⟨_, ho, rfl⟩ (fun s' => typeIs_int s' 1 t') noFill_tuple_mul F.fills_int_mul F.slot_int_rmul repeat_tuple F.slot_int_index.lookup
      (call_meets F.slot_int_rmul (typeIs_int s 1 t') F.entry_int_rmul (F.args_int_rmul_2 _ _) (rmul_int_tuple 1 t' a its.toArray n dd sl)
        ⟨ho, rfl, ⟨_, ho, rfl⟩, call_meets F.slot_tuple_mul ⟨_, ho, rfl⟩ F.entry_tuple_mul (F.args_tuple_mul_2 _ _) (tuple_mul1 a t' its.toArray n dd sl) ⟨ho, ⟨.ref a, H, I, rfl, q⟩⟩⟩)
  · exact wpAny_binaryOp_repeat_ref (T := "tuple") (U := "int") (by decide) ⟨_, ho, rfl⟩ (fun s' => typeIs_int s' 0 t') noFill_tuple_mul F.fills_int_mul F.slot_int_rmul repeat_tuple F.slot_int_index.lookup
      (call_meets F.slot_int_rmul (typeIs_int s 0 t') F.entry_int_rmul (F.args_int_rmul_2 _ _) (rmul_int_tuple 0 t' a its.toArray n dd sl)
        ⟨ho, rfl, ⟨_, ho, rfl⟩, call_meets F.slot_tuple_mul ⟨_, ho, rfl⟩ F.entry_tuple_mul (F.args_tuple_mul_2 _ _) (tuple_mul0 a t' its.toArray n dd sl ne) ⟨ho,
          ⟨.ref s.heap.objs.size, _, I.laid (a := s.heap.objs.size) (o := .tup []) (t' := s.toks) (fun _ _ q => Heap.get?_push_of_some _ q) (Nat.le_refl _) ⟨Nat.zero_le _, [], .nil, _, Heap.get?_push_size _ rfl, rfl, _, rfl⟩, rfl, q _ (I.hok.fresh (Nat.le_refl _))⟩⟩⟩)
theorem mRepT_i {K : Frag} {a : Addr} {z : V} {k : Int} {H : Hp} {Q : VK} (hH : SqT K H a [z]) (q : (k = 1 ∧ Q (.ref a) H) ∨ (k = 0 ∧ ∀ p, H p = none → Q (.ref p) (upd H p (.tup [])))) : mRepT K (.ref a) (.int k) H Q := ⟨a, z, k, rfl, rfl, hH, q⟩
end
end L2
set_option Elab.async false
set_option linter.all false
set_option maxRecDepth 100000
set_option maxHeartbeats 4000000
namespace L2
open PySem PySem.Spec PyProof.Rows PySem.W
section
variable {prog : Program} {w : World} {K : Type} [DecidableEq K] {knd : HeapKind prog w K} {A : Around} {E : Value → Shared → Prop} {s : Shared}
theorem meets_lenT (knd : HeapKind prog w K) (d : Addr) (hd : (d == sysModules) = false) :
    MeetsIn prog w (Builtin.«dict.__len__» ⟨[.ref d], []⟩) (fun _ R s => ∃ kvs, s.heap.DictOfH knd d kvs ∧ R (.ok (.ret (.int kvs.length s.toks))) { s with toks := s.toks + 1 }) :=
  .of_wp fun A R s ⟨kvs, hm, h⟩ => by
    obtain ⟨o, es, ep, ho, hc, hdat, he, hp, hn⟩ := hm
    show wpAny _ _ (dictSize d >>= _) _ _ s
    unfold dictSize
    refine wpAny_bind (wpAny_bind (wpAny_dictEntries ho hdat (wpAny_pure ?_)))
    show wpAny _ _ (Builtin.Dict.pendingCount d >>= _) _ _ s
    refine wpAny_bind (wpAny_pendingCount_other hd ?_)
    refine wpAny_ret_mkInt ?_
    have : es.size = kvs.length := size_of_entries he
    rw [Nat.add_zero, this]; exact h
theorem len_bodyT {d : Addr} {kvs : List (K × Addr × Value)} {Q : Value → Shared → Prop} (hd : (d == sysModules) = false) (hm : s.heap.DictOfH knd d kvs) (hfit : (kvs.length : Int) < 2 ^ 63)
    (h : Q (.int kvs.length (s.toks + 1)) { s with toks := s.toks + 1 + 1 }) : wpAny (model prog w) A (Builtin.«len» ⟨[.ref d], []⟩) (fun fin s' => ∃ r, fin = .done (.ret r) ∧ Q r s') E s := by
  unfold Builtin.«len»
  refine wpAny_bind (m := oneArg "len" _) (wpAny_pure ?_)
  refine wpAny_bind (m := callSpecial? (.ref d) (Str.ofString "__len__")) (wpAny_callSpecial?_slot (name := Str.ofString "__len__") hm.typeIs F.slot_dict_len
    (call_meetsIn F.slot_dict_len hm.typeIs F.entry_dict_len (F.args_dict_len_1 _) (meets_lenT knd d hd) ⟨kvs, hm, ?_⟩))
  show wpAny _ _ _ _ _ { s with toks := s.toks + 1 }
  refine wpAny_bind (wpAny_holding (wpAny_pure ?_))
  refine wpAny_bind (wpAny_letGo ?_)
  show wpAny _ _ (if ((kvs.length : Nat) : Int) < 0 then _ else _) _ _ _
  rw [if_neg (by omega)]
  show wpAny _ _ (if ((kvs.length : Nat) : Int) ≥ 2 ^ 63 then _ else _) _ _ _
  rw [if_neg (by omega)]
  exact wpAny_bind (wpAny_mkInt (wpAny_pure ⟨_, rfl, h⟩))
end
section
variable {X : Cx}
noncomputable def mLenD : List V → Hp → VK → Prop := fun vs H Q => ∃ (a : Addr) (kvs : List (List Key × V)), vs = [.ref a] ∧ Rd H a (.dT kvs) ∧ Q (.int (kvs.length : Int)) H
theorem mc_lenD : CallR X (.builtin "len") mLenD := by
  intro pins s σ H vs us Q I r h
  obtain ⟨a, kvs, rfl, ha, k⟩ := h
  obtain ⟨u, rfl, r1⟩ := vals1 r
  cases r1
  obtain ⟨z, hd, xs, rel, dd⟩ := dt_rd I.hok ha
  have hl := kt_at rel
  have hz : sizeLine ≤ 2 ^ 60 := by rw [sizeLine_eq]; decide
  have hf : (xs.length : Int) < 2 ^ 63 := by
    rw [← hl]
    have : (kvs.length : Int) ≤ 2 ^ 60 := by exact_mod_cast Nat.le_trans z hz
    omega
  exact Calls.call_function_entry kind_len plain_len entry_len (args_len1 _) (len_bodyT hd dd hf ⟨.int kvs.length, H, I.tok _, ⟨_, by rw [hl]⟩, k⟩)
noncomputable def mIsDT : List V → Hp → VK → Prop := fun vs H Q => ∃ (a : Addr) (kvs : List (List Key × V)), vs = [.ref a, .ty "dict"] ∧ H a = some (.dT kvs) ∧ Q (.bl true) H
theorem kc_isDT : CallR X (.builtin "isinstance") mIsDT := by
  intro pins s σ H vs us Q I r h
  obtain ⟨a, kvs, rfl, ha, k⟩ := h
  obtain ⟨u, w', rfl, r1, r2⟩ := vals2 r
  cases r2
  exact isinst_ok (x := .ref a) I r1 (.dT ha) (kit_same _ _) fun tk => ⟨.bl true, H, I.tok _, rfl, k⟩
noncomputable def mNeSame (K : Frag) : R2 := fun x y H Q => ∃ (a b : Addr) (qs : List Addr), x = .ref a ∧ y = .ref b ∧ SqL K H a (qs.map V.ref) ∧ SqL K H b (qs.map V.ref) ∧ Q (.bl false) H
theorem vals_refs2 : ∀ {qs : List Addr} {its : List Value}, Vals (qs.map V.ref) its → its = qs.map Value.ref
  | [], _, .nil => rfl
  | q :: r, _, .cons h t => by
    cases h
    rw [vals_refs2 t]
    rfl
theorem ko_neSame (K : Frag) (hK : X.K = K) (hu : X.A.units + 150 < cLine) : OpR X (compareOp .NotEq) (mNeSame K) := by
  subst hK
  intro pins s σ H x y v u Q I rx ry h
  obtain ⟨a, b, qs, rfl, rfl, ha, hb, k⟩ := h
  cases rx
  cases ry
  obtain ⟨its, rv, p1, _⟩ := I.list ha
  obtain ⟨its', rv', p2, _⟩ := I.list hb
  have e1 := vals_refs2 rv
  have e2 := vals_refs2 rv'
  subst e1
  subst e2
  refine SeqAt.RcNeAt.lists (e := fun _ => true) p1.isList p2.isList rfl (by omega) (fun j h1 h2 => ?_) X.prog X.w _ _ ?_
  · exact SeqAt.EqAt.same _
  · rw [show (List.range (qs.map Value.ref).toArray.size).all (fun _ => true) = true by simp]
    exact ⟨.bl false, H, I, rfl, k⟩
end
end L2
set_option Elab.async false
set_option linter.all false
set_option maxRecDepth 100000
set_option maxHeartbeats 4000000
namespace L2
open PySem PySem.Spec PyProof.Rows
section
variable {X : Cx} {pos : Pos} {e : Expr} {te : TE}
theorem qs_app (K : PySem.W.Frag) (hK : X.K = K) {o : Expr} {to : TE} {apos cpos : Pos} (ho : PE X o to) (he : QE X e te)
    (hbase : attributeBase o "append" X.env (eval o X.env) = eval o X.env)
    (hfew : ((backTo cpos (starEach [e] X.env)).all (fun x => !x.1) && (backToKw cpos (keywordEach [] X.env)).all (fun x => x.1.isSome) && decide (([e] : List Expr).length + ([] : List Keyword).length + (if ([] : List Keyword).isEmpty then 0 else 1) < 30)) = true)
    (hline : (apos.endLine == cpos.line) = true) (hs : starEach [e] X.env = (false, eval e X.env) :: starEach [] X.env) (hplain : (backTo cpos (starEach [] X.env)).any (·.1) = false) (hsw : swapsWith (.Call (.Attribute o "append" apos) [e] [] cpos) none pos.line X.env = pure false) :
    QS X (.Expr (.Call (.Attribute o "append" apos) [e] [] cpos) pos) (tDrop (tBM K "list" mAppend to (tCons te tNil))) :=
  ⟨ps_expr (ke_bm K hK PySem.F.plainAttrs_list PySem.F.slot_list_append PySem.F.type_list_append mm_append ho (pa_cons he.pe pa_nil hs) hbase hfew hline hs hplain) hsw⟩
theorem qs_for {tg iter : Expr} {body : List Stmt} {wi : TI} {g : TG} {tb : TS} (hp : PassesOwn (model X.prog X.w) X.A X.env X.xe) (hc : X.calm = true) (hi : PI X tg iter wi) (hg : PG X tg g) (hb : QSs X body tb)
    (hs : ∀ x, foldedSetIterable iter X.env x = pure x) : QS X (.For tg iter body [] pos) (tFor wi g tb) := ⟨ps_for hp hc hi hg hb.pss hs⟩
end
end L2
set_option Elab.async false
set_option linter.all false
set_option maxRecDepth 100000
set_option maxHeartbeats 4000000
namespace My
open PySem PySem.Spec PyProof.Rows L2
section
variable {α : Type} [DecidableEq α]
noncomputable abbrev Eg (α : Type) := α × α × Bool
inductive Rch (L : List (Eg α)) : α → α → Prop
  | refl (u : α) : Rch L u u
  | step {u v x : α} {c : Bool} : (u, v, c) ∈ L → Rch L v x → Rch L u x
noncomputable def Layd (L : List (Eg α)) : Prop := ∀ u v, (u, v, true) ∈ L → ¬ Rch L v u
open Classical in
noncomputable def Nr (L : List (Eg α)) (x : α) : Nat := L.countP fun e => decide (e.2.2 = true ∧ Rch L x e.1)
theorem countP_up {β : Type} {p q : β → Bool} : ∀ {l : List β}, (∀ x ∈ l, p x = true → q x = true) → l.countP p ≤ l.countP q
  | [], _ => Nat.le_refl _
  | y :: l, h => by
    have ih := countP_up (p := p) (q := q) (l := l) (fun x hx => h x (List.mem_cons_of_mem _ hx))
    have h1 := h y (List.mem_cons_self ..)
    rw [List.countP_cons, List.countP_cons]
    cases hp : p y <;> cases hq : q y <;> simp_all <;> omega
theorem countP_lt {β : Type} {p q : β → Bool} : ∀ {l : List β}, (∀ x ∈ l, p x = true → q x = true) → (∃ x ∈ l, q x = true ∧ p x = false) → l.countP p + 1 ≤ l.countP q
  | [], _, ⟨x, hx, _⟩ => by cases hx
  | y :: l, h, ⟨x, hx, e1, e2⟩ => by
    have h1 := h y (List.mem_cons_self ..)
    have h2 : ∀ x ∈ l, p x = true → q x = true := fun x hx => h x (List.mem_cons_of_mem _ hx)
    rw [List.countP_cons, List.countP_cons]
    rcases List.mem_cons.mp hx with z | z
    · subst z
      have := countP_up (l := l) h2
      rw [e1, e2]
      simp
      omega
    · have := countP_lt (l := l) h2 ⟨x, z, e1, e2⟩
      cases hp : p y <;> cases hq : q y <;> simp_all <;> omega
theorem Nr_le (L : List (Eg α)) (x : α) : Nr L x ≤ L.length := List.countP_le_length ..
open Classical in
theorem Nr_edge {L : List (Eg α)} {u v : α} {c : Bool} (hl : Layd L) (h : (u, v, c) ∈ L) : Nr L v + c.toNat ≤ Nr L u := by
  have up : ∀ e ∈ L, decide (e.2.2 = true ∧ Rch L v e.1) = true → decide (e.2.2 = true ∧ Rch L u e.1) = true := fun e _ q => by
    have q := of_decide_eq_true q
    exact decide_eq_true ⟨q.1, .step h q.2⟩
  cases c with
  | false => exact countP_up up
  | true =>
    refine countP_lt up ⟨_, h, decide_eq_true ⟨rfl, .refl _⟩, decide_eq_false fun q => hl u v h q.2⟩
inductive Pw (L : List (Eg α)) : α → Nat → Prop
  | nil (u : α) : Pw L u 0
  | cons {u v : α} {c : Bool} {k : Nat} : (u, v, c) ∈ L → Pw L v k → Pw L u (k + c.toNat)
noncomputable def Stb (L : List (Eg α)) (lam : α → Nat) : Prop := ∀ u v c, (u, v, c) ∈ L → lam v + c.toNat ≤ lam u
theorem Pw.le {L : List (Eg α)} {lam : α → Nat} (s : Stb L lam) {u : α} {k : Nat} (h : Pw L u k) : k ≤ lam u := by
  induction h with
  | nil => exact Nat.zero_le _
  | cons a _ ih => have := s _ _ _ a; omega
inductive Sm (L : List (Eg α)) (lam : α → Nat) (n : Nat) : α → α → Prop
  | refl (u : α) : Sm L lam n u u
  | step {u v x : α} {c : Bool} : (u, v, c) ∈ L → lam v = n → Sm L lam n v x → Sm L lam n u x
theorem wit0 {L : List (Eg α)} {lam : α → Nat} (s : Stb L lam) {u : α} {n : Nat} (h : Pw L u n) (e : lam u = n) (h0 : 0 < n) : ∃ x y, Sm L lam n u x ∧ (x, y, true) ∈ L ∧ lam y + 1 = n := by
  induction h with
  | nil => omega
  | @cons u v c k a b ih =>
    have s1 := s _ _ _ a
    have s2 := b.le s
    cases c with
    | true =>
      simp only [Bool.toNat_true] at *
      exact ⟨u, v, .refl _, a, by omega⟩
    | false =>
      simp only [Bool.toNat_false, Nat.add_zero] at *
      obtain ⟨x, y, p1, p2, p3⟩ := ih (by omega) h0
      exact ⟨x, y, .step a (by omega) p1, p2, p3⟩
theorem sm_in {L : List (Eg α)} {lam : α → Nat} {n : Nat} {S : α → Prop} (cl : ∀ a b c, S a → (a, b, c) ∈ L → lam b = n → S b) {u x : α} (h : Sm L lam n u x) : S u → S x := by
  induction h with
  | refl => exact id
  | step a e _ ih => exact fun hu => ih (cl _ _ _ hu a e)
theorem layd_of {L : List (Eg α)} (ix : α → Nat) (h : ∀ u v c, (u, v, c) ∈ L → ix u + c.toNat ≤ ix v) : Layd L := by
  have up : ∀ {u x : α}, Rch L u x → ix u ≤ ix x := fun r => by
    induction r with
    | refl => exact Nat.le_refl _
    | step a _ ih => have := h _ _ _ a; omega
  intro u v a r
  have h1 := h _ _ _ a
  have h2 := up r
  simp only [Bool.toNat_true] at h1
  omega
theorem nodup_len {l : List α} : ∀ {m : List α}, l.Nodup → (∀ x ∈ l, x ∈ m) → l.length ≤ m.length := by
  induction l with
  | nil => intro m _ _; exact Nat.zero_le _
  | cons x l ih =>
    intro m h s
    rw [List.nodup_cons] at h
    have hx := s x (List.mem_cons_self ..)
    have := ih (m := m.erase x) h.2 fun y hy => (List.mem_erase_of_ne (fun e => h.1 (by rw [← e]; exact hy))).mpr (s y (List.mem_cons_of_mem _ hy))
    rw [List.length_erase_of_mem hx] at this
    have : 0 < m.length := List.length_pos_of_mem hx
    rw [List.length_cons]
    omega
inductive Chn (L : List (Eg α)) : List α → Prop
  | one (x : α) : Chn L [x]
  | cons {x y : α} {r : List α} {c : Bool} : (x, y, c) ∈ L → Chn L (y :: r) → Chn L (x :: y :: r)
theorem Chn.get {L : List (Eg α)} {qs : List α} (h : Chn L qs) : ∀ (i : Nat) (x y : α), qs[i]? = some x → qs[i + 1]? = some y → ∃ c, (x, y, c) ∈ L := by
  induction h with
  | one x => intro i a b _ h2; simp at h2
  | @cons x y r c a _ ih =>
    intro i p q h1 h2
    cases i with
    | zero =>
      simp at h1 h2
      subst h1 h2
      exact ⟨c, a⟩
    | succ i => exact ih i p q (by simpa using h1) (by simpa using h2)
end
noncomputable def fset {α β : Type} [DecidableEq α] (f : α → β) (x : α) (v : β) : α → β := fun y => if y = x then v else f y
theorem fset_same {α β : Type} [DecidableEq α] (f : α → β) (x : α) (v : β) : fset f x v x = v := if_pos rfl
theorem fset_ne {α β : Type} [DecidableEq α] {f : α → β} {x y : α} {v : β} (h : y ≠ x) : fset f x v y = f y := if_neg h
section
variable {κ : Type} [DecidableEq κ]
noncomputable def dOf (ks : List κ) (f : κ → V) : List (κ × V) := ks.map fun k => (k, f k)
theorem dOf_len (ks : List κ) (f : κ → V) : (dOf ks f).length = ks.length := by simp [dOf]
theorem dOf_keys (ks : List κ) (f : κ → V) : (dOf ks f).map (·.1) = ks := by simp [dOf, Function.comp_def]
theorem valV_dOf (ks : List κ) (f : κ → V) (x : κ) : valV (dOf ks f) x = if x ∈ ks then some (f x) else none := by
  induction ks with
  | nil => rfl
  | cons k r ih =>
    unfold dOf at *
    rw [List.map_cons]
    by_cases e : k = x
    · rw [valV_pos (p := (k, f k)) e, if_pos (by rw [e]; exact List.mem_cons_self ..), e]
    · rw [valV_neg (p := (k, f k)) e, ih]
      have : (x ∈ k :: r) = (x ∈ r) := by
        rw [List.mem_cons]
        exact propext ⟨fun h => h.resolve_left (fun z => e z.symm), .inr⟩
      simp only [this]
theorem valV_in {ks : List κ} {f : κ → V} {x : κ} (h : x ∈ ks) : valV (dOf ks f) x = some (f x) := by rw [valV_dOf, if_pos h]
theorem valV_out {ks : List κ} {f : κ → V} {x : κ} (h : x ∉ ks) : valV (dOf ks f) x = none := by rw [valV_dOf, if_neg h]
theorem dOf_congr {ks : List κ} {f g : κ → V} (h : ∀ x ∈ ks, f x = g x) : dOf ks f = dOf ks g := List.map_congr_left fun x hx => by rw [h x hx]
theorem put_in {ks : List κ} {f : κ → V} {x : κ} {v : V} (h : x ∈ ks) : putK (dOf ks f) x v = dOf ks (fset f x v) := by
  unfold putK
  rw [valV_any, valV_in h]
  rw [if_pos (show (some (f x)).isSome = true from rfl)]
  unfold dOf
  rw [List.map_map]
  refine List.map_congr_left fun k _ => ?_
  show (if k = x then (k, v) else (k, f k)) = (k, fset f x v k)
  by_cases e : k = x
  · rw [if_pos e, e, fset_same]
  · rw [if_neg e, fset_ne e]
theorem put_out {ks : List κ} {f : κ → V} {x : κ} {v : V} (h : x ∉ ks) : putK (dOf ks f) x v = dOf (ks ++ [x]) (fset f x v) := by
  rw [putK_new _ (valV_out h)]
  unfold dOf
  rw [List.map_append, List.map_cons, List.map_nil, fset_same]
  congr 1
  refine List.map_congr_left fun k hk => ?_
  rw [fset_ne (fun e => h (by rw [← e]; exact hk))]
noncomputable def insK (ks : List κ) (x : κ) : List κ := if x ∈ ks then ks else ks ++ [x]
theorem put_dOf (ks : List κ) (f : κ → V) (x : κ) (v : V) : putK (dOf ks f) x v = dOf (insK ks x) (fset f x v) := by
  unfold insK
  by_cases h : x ∈ ks
  · rw [if_pos h, put_in h]
  · rw [if_neg h, put_out h]
theorem mem_insK {ks : List κ} {x y : κ} : y ∈ insK ks x ↔ y ∈ ks ∨ y = x := by
  unfold insK
  by_cases h : x ∈ ks
  · rw [if_pos h]
    exact ⟨.inl, fun z => z.elim id fun e => e ▸ h⟩
  · rw [if_neg h, List.mem_append, List.mem_singleton]
theorem nodup_insK {ks : List κ} {x : κ} (h : ks.Nodup) : (insK ks x).Nodup := by
  unfold insK
  by_cases e : x ∈ ks
  · rw [if_pos e]; exact h
  · rw [if_neg e, List.nodup_append]
    exact ⟨h, by simp, fun a ha b hb z => e (by rw [List.mem_singleton] at hb; rw [← hb, ← z]; exact ha)⟩
theorem len_insK (ks : List κ) (x : κ) : (insK ks x).length ≤ ks.length + 1 := by
  unfold insK
  split <;> simp
end
end My
set_option Elab.async false
set_option linter.all false
set_option maxRecDepth 100000
set_option maxHeartbeats 4000000
namespace My
open PySem PySem.Spec PyProof.Rows L2
local macro_rules | `(tactic| walk_at "stq") => `(tactic| first | refine tAsg_i ?_ | refine gName_i ?_ | refine tRet_i ?_ | refine tIfS_i ?_ | refine tNext_i ?_ | refine tDrop_i ?_ | refine mTest_i ?_ | refine mTrue_i ?_ | refine mTru_b ?_ | refine mB_i ?_ | refine tOp_i ?_ | refine tUn_i ?_ | refine mUn_i ?_ | refine m20_i ?_ | refine mAdd_i ?_ | refine mEq_i ?_ | refine mEq_s ?_ | refine mEq_b ?_ | refine mInS_i ?_ | (refine' mVar_i ?hv ?_; (case hv => with_unfolding_all rfl)) | refine tC_i ?_ | refine mChain_i ?_ | refine mAndV_i ?_ | refine mOrV_i ?_ | refine mNotV_i ?_ | refine tIf_i ?_ | refine tAnd_i ?_ | refine tOr_i ?_ | refine tNot_i ?_ | refine tCB_i ?_ | refine tCall0_i ?_ | refine tCons_i ?_ | refine tNil_i ?_ | refine tBM_i ?_ | refine tBM0_i ?_ | refine tTup_i ?_ | refine tLst_i ?_ | refine tSl_i ?_ | refine tNoPart_i ?_ | refine mPart_i ?_ | refine mI_i ?_ | refine is_str ?_ | refine is_bool ?_ | refine is_int ?_ | refine is_int_bool ?_ | refine mMin_i ?_ | refine isN_non ?_ | refine isN_ref ?_ | refine mInt_b ?_ | refine mMax_i ?_ | refine tDGet_i ?_ | refine tDGet2_i ?_ | refine sDPut_i ?_ | refine tDisp_i ?_ | refine tPairs_c ?_ | refine tPairs_n ?_ | refine iRng2_i ?_ | refine iRev_i ?_ | refine iEnum_i ?_ | refine iSeq_i ?_ | refine mAbs_i ?_ | refine gCons_i ?_ | refine gNil_i ?_ | refine tWhile_i ?_ | (refine' mAug_i ?hw ?_; (case hw => with_unfolding_all rfl)) | refine mIAdd_i ?_ | refine tFor_i ?_ | refine tRaise_i ?_ | refine tXMake_i ?_ | refine tTry_i ?_ | refine tXGet_i ?_ | refine tBInit_i ?_ | refine tXSet_i ?_ | refine tPar_i ?_ | refine tF3i_i ?_ | refine iZip_i ?_ | refine tFr_i ?_ | refine tThawT_i ?_ | refine tF2_i ?_ | refine iSeq_i ?_ | refine iStr_i ?_ | refine iList_i ?_ | refine iTup_i ?_ | refine iRng1_i ?_ | refine tComp_i ?_ | (refine m2_i ?hc ?_; (case hc => first | (show (0 : Int) < _; decide) | exact cdiv_i (by decide) (by decide))))
local macro_rules | `(tactic| walk_at "stp") => `(tactic| repeat (with_reducible first | refine tSeq_i ?_ | walk_at "stq"))
local macro_rules | `(tactic| walk_at "stm") => `(tactic| repeat (with_reducible walk_at "stq"))
noncomputable def top (i : Nat) : Stmt := PySem.Challenge.pw_goaltrail_k60_layers_or_a_ring.main.body.getD i (.Pass ⟨0, 0, 0, 0⟩)
noncomputable abbrev s_TrailError_init : Stmt := inClass (top 1) 0
noncomputable abbrev s_NotLayered_init : Stmt := inClass (top 7) 0
noncomputable abbrev s_is_inner : Stmt := top 14
noncomputable abbrev s_is_called : Stmt := top 15
noncomputable abbrev s_is_word : Stmt := top 16
noncomputable abbrev s_is_named : Stmt := top 20
noncomputable abbrev s_word_of : Stmt := top 21
noncomputable abbrev s_leanings_of : Stmt := top 23
noncomputable abbrev s_row_between : Stmt := top 24
noncomputable abbrev s_check_layered : Stmt := top 25
noncomputable abbrev s_raise_layers : Stmt := top 26
noncomputable abbrev s_layers_of : Stmt := top 27
noncomputable abbrev s_l_cell_at : Stmt := top 29
noncomputable abbrev s_l_pick : Stmt := top 30
noncomputable abbrev s_l_words : Stmt := top 31
noncomputable abbrev s_l_word : Stmt := top 32
noncomputable abbrev s_l_goal : Stmt := top 33
noncomputable abbrev s_l_rules : Stmt := top 34
noncomputable abbrev s_l_leanings : Stmt := top 35
noncomputable abbrev s_l_ring : Stmt := top 36
noncomputable abbrev s_l_told_ring : Stmt := top 37
noncomputable abbrev s_l_least : Stmt := top 38
noncomputable abbrev s_l_layered : Stmt := top 39
noncomputable abbrev s_law : Stmt := top 40
theorem sc_TrailError_init : FnScope ["self", "words", "row"] ["self", "words", "row"] (defScope s_TrailError_init) := ⟨rfl, rfl, rfl, by decide +kernel, rfl, by decide +kernel, by decide +kernel⟩
theorem sc_NotLayered_init : FnScope ["self", "ring", "row"] ["self", "ring", "row"] (defScope s_NotLayered_init) := ⟨rfl, rfl, rfl, by decide +kernel, rfl, by decide +kernel, by decide +kernel⟩
theorem sc_is_inner : FnScope ["sign"] ["sign"] (defScope s_is_inner) := ⟨rfl, rfl, rfl, by decide +kernel, rfl, by decide +kernel, by decide +kernel⟩
theorem sc_is_called : FnScope ["text", "firsts"] ["text", "firsts"] (defScope s_is_called) := ⟨rfl, rfl, rfl, by decide +kernel, rfl, by decide +kernel, by decide +kernel⟩
theorem sc_is_word : FnScope ["text"] ["text"] (defScope s_is_word) := ⟨rfl, rfl, rfl, by decide +kernel, rfl, by decide +kernel, by decide +kernel⟩
theorem sc_is_named : FnScope ["term"] ["term"] (defScope s_is_named) := ⟨rfl, rfl, rfl, by decide +kernel, rfl, by decide +kernel, by decide +kernel⟩
theorem sc_word_of : FnScope ["goal"] ["goal"] (defScope s_word_of) := ⟨rfl, rfl, rfl, by decide +kernel, rfl, by decide +kernel, by decide +kernel⟩
theorem sc_leanings_of : FnScope ["rules", "found", "told", "goal"] ["rules"] (defScope s_leanings_of) := ⟨rfl, rfl, rfl, by decide +kernel, rfl, by decide +kernel, by decide +kernel⟩
theorem sc_row_between : FnScope ["first", "last", "leanings", "before", "todo", "upper", "leaning", "row"] ["first", "last", "leanings"] (defScope s_row_between) := ⟨rfl, rfl, rfl, by decide +kernel, rfl, by decide +kernel, by decide +kernel⟩
theorem sc_check_layered : FnScope ["leanings", "leaning", "ring"] ["leanings"] (defScope s_check_layered) := ⟨rfl, rfl, rfl, by decide +kernel, rfl, by decide +kernel, by decide +kernel⟩
theorem sc_raise_layers : FnScope ["layers", "leanings", "raised", "leaning", "least"] ["layers", "leanings"] (defScope s_raise_layers) := ⟨rfl, rfl, rfl, by decide +kernel, rfl, by decide +kernel, by decide +kernel⟩
theorem sc_layers_of : FnScope ["rules", "leanings", "layers", "told", "leaning"] ["rules"] (defScope s_layers_of) := ⟨rfl, rfl, rfl, by decide +kernel, rfl, by decide +kernel, by decide +kernel⟩
theorem sc_l_cell_at : FnScope ["_law_script", "_law_k"] ["_law_script", "_law_k"] (defScope s_l_cell_at) := ⟨rfl, rfl, rfl, by decide +kernel, rfl, by decide +kernel, by decide +kernel⟩
theorem sc_l_pick : FnScope ["_law_cell", "_law_k", "_law_many", "_law_by"] ["_law_cell", "_law_k", "_law_many"] (defScope s_l_pick) := ⟨rfl, rfl, rfl, by decide +kernel, rfl, by decide +kernel, by decide +kernel⟩
theorem sc_l_words : FnScope ["_law_cell", "_law_letters", "_law_base", "_law_at", "_law_words_here", "_law_k", "_law_word_here", "_law_j"] ["_law_cell"] (defScope s_l_words) := ⟨rfl, rfl, rfl, by decide +kernel, rfl, by decide +kernel, by decide +kernel⟩
theorem sc_l_word : FnScope ["_law_cell", "_law_k", "_law_words_here", "_law_low", "_law_at"] ["_law_cell", "_law_k", "_law_words_here", "_law_low"] (defScope s_l_word) := ⟨rfl, rfl, rfl, by decide +kernel, rfl, by decide +kernel, by decide +kernel⟩
theorem sc_l_goal : FnScope ["_law_word_here"] ["_law_word_here"] (defScope s_l_goal) := ⟨rfl, rfl, rfl, by decide +kernel, rfl, by decide +kernel, by decide +kernel⟩
theorem sc_l_rules : FnScope ["_law_script", "_law_words_here", "_law_way", "_law_rules_here", "_law_k", "_law_cell", "_law_at", "_law_head", "_law_goals", "_law_j", "_law_kind", "_law_low", "_law_word_here"] ["_law_script", "_law_words_here", "_law_way"] (defScope s_l_rules) := ⟨rfl, rfl, rfl, by decide +kernel, rfl, by decide +kernel, by decide +kernel⟩
theorem sc_l_leanings : FnScope ["_law_rules_here", "_law_found", "_law_head", "_law_goals", "_law_mine", "_law_goal_here", "_law_by", "_law_word_here"] ["_law_rules_here"] (defScope s_l_leanings) := ⟨rfl, rfl, rfl, by decide +kernel, rfl, by decide +kernel, by decide +kernel⟩
theorem sc_l_ring : FnScope ["_law_leans", "_law_ring_here", "_law_by", "_law_k", "_law_after"] ["_law_leans", "_law_ring_here"] (defScope s_l_ring) := ⟨rfl, rfl, rfl, by decide +kernel, rfl, by decide +kernel, by decide +kernel⟩
theorem sc_l_told_ring : FnScope ["_law_e", "_law_others"] ["_law_e"] (defScope s_l_told_ring) := ⟨rfl, rfl, rfl, by decide +kernel, rfl, by decide +kernel, by decide +kernel⟩
theorem sc_l_least : FnScope ["_law_leans", "_law_layers", "_law_word_here", "_law_line", "_law_k", "_law_other"] ["_law_leans", "_law_layers", "_law_word_here"] (defScope s_l_least) := ⟨rfl, rfl, rfl, by decide +kernel, rfl, by decide +kernel, by decide +kernel⟩
theorem sc_l_layered : FnScope ["_law_leans", "_law_layers", "_law_word_here", "_law_other"] ["_law_leans", "_law_layers"] (defScope s_l_layered) := ⟨rfl, rfl, rfl, by decide +kernel, rfl, by decide +kernel, by decide +kernel⟩
theorem sc_law : FnScope ["_law_script", "_law_words_here", "_law_way", "_law_rules_here", "_law_leans", "_law_handed", "_law_found", "_law_ring_here", "_law_e"] ["_law_script"] (defScope s_law) := ⟨rfl, rfl, rfl, by decide +kernel, rfl, by decide +kernel, by decide +kernel⟩
set_option genInjectivity false in
structure Ad where
  k_TrailError : Addr
  k_NoText : Addr
  k_NoSign : Addr
  k_NoRule : Addr
  k_Big : Addr
  k_HasKeep : Addr
  k_NotLayered : Addr
  k_Fault : Addr
  a_TrailError_init : Addr
  d_TrailError_init : FuncData
  v_TrailError_init : Addr
  w_TrailError_init_0 : Tok
  a_NotLayered_init : Addr
  d_NotLayered_init : FuncData
  v_NotLayered_init : Addr
  w_NotLayered_init_0 : Tok
  a_is_inner : Addr
  d_is_inner : FuncData
  a_is_called : Addr
  d_is_called : FuncData
  a_is_word : Addr
  d_is_word : FuncData
  a_is_named : Addr
  d_is_named : FuncData
  a_word_of : Addr
  d_word_of : FuncData
  a_leanings_of : Addr
  d_leanings_of : FuncData
  a_row_between : Addr
  d_row_between : FuncData
  a_check_layered : Addr
  d_check_layered : FuncData
  a_raise_layers : Addr
  d_raise_layers : FuncData
  a_layers_of : Addr
  d_layers_of : FuncData
  a_l_cell_at : Addr
  d_l_cell_at : FuncData
  a_l_pick : Addr
  d_l_pick : FuncData
  a_l_words : Addr
  d_l_words : FuncData
  a_l_word : Addr
  d_l_word : FuncData
  a_l_goal : Addr
  d_l_goal : FuncData
  a_l_rules : Addr
  d_l_rules : FuncData
  a_l_leanings : Addr
  d_l_leanings : FuncData
  a_l_ring : Addr
  d_l_ring : FuncData
  a_l_told_ring : Addr
  d_l_told_ring : FuncData
  a_l_least : Addr
  d_l_least : FuncData
  a_l_layered : Addr
  d_l_layered : FuncData
  a_law : Addr
  d_law : FuncData
  t_SMALL : Tok
  t_GREAT : Tok
  t_FIGURES : Tok
  t_MOST_LETTERS : Tok
  t_KEEP : Tok
  t_NOT : Tok
structure Txt (K : PySem.W.Frag) (mg : Str → Option Value) (t : Ad) : Prop where
  m_TrailError : mg "TrailError" = some (.ref t.k_TrailError)
  x_TrailError : XCls K t.k_TrailError [.type "ValueError", .type "Exception", .type "BaseException", .type "object"]
  u_TrailError : XUp [.type "ValueError", .type "Exception", .type "BaseException", .type "object"]
  at_TrailError : XAttr K t.k_TrailError
  no_TrailError_row : NoAttr K t.k_TrailError "row"
  no_TrailError_ring : NoAttr K t.k_TrailError "ring"
  mk_TrailError : XMk K t.k_TrailError [.type "ValueError", .type "Exception", .type "BaseException", .type "object"] t.a_TrailError_init
  cm_TrailError : XClsM K t.k_TrailError "__init__" t.a_TrailError_init
  m_NoText : mg "NoText" = some (.ref t.k_NoText)
  m_NoSign : mg "NoSign" = some (.ref t.k_NoSign)
  m_NoRule : mg "NoRule" = some (.ref t.k_NoRule)
  m_Big : mg "Big" = some (.ref t.k_Big)
  m_HasKeep : mg "HasKeep" = some (.ref t.k_HasKeep)
  m_NotLayered : mg "NotLayered" = some (.ref t.k_NotLayered)
  x_NotLayered : XCls K t.k_NotLayered [.ref t.k_TrailError, .type "ValueError", .type "Exception", .type "BaseException", .type "object"]
  u_NotLayered : XUp [.ref t.k_TrailError, .type "ValueError", .type "Exception", .type "BaseException", .type "object"]
  at_NotLayered : XAttr K t.k_NotLayered
  no_NotLayered_row : NoAttr K t.k_NotLayered "row"
  no_NotLayered_ring : NoAttr K t.k_NotLayered "ring"
  mk_NotLayered : XMk K t.k_NotLayered [.ref t.k_TrailError, .type "ValueError", .type "Exception", .type "BaseException", .type "object"] t.a_NotLayered_init
  is_NotLayered : XIs K t.k_NotLayered
  iz_NotLayered_NoText : PySem.W.kitOne K (.ref t.k_NotLayered) (.ref t.k_NoText) = some false
  iz_NotLayered_NoSign : PySem.W.kitOne K (.ref t.k_NotLayered) (.ref t.k_NoSign) = some false
  iz_NotLayered_Big : PySem.W.kitOne K (.ref t.k_NotLayered) (.ref t.k_Big) = some false
  iz_NotLayered_HasKeep : PySem.W.kitOne K (.ref t.k_NotLayered) (.ref t.k_HasKeep) = some false
  iz_NotLayered_Fault : PySem.W.kitOne K (.ref t.k_NotLayered) (.ref t.k_Fault) = some false
  iz_NotLayered_NoRule : PySem.W.kitOne K (.ref t.k_NotLayered) (.ref t.k_NoRule) = some false
  iz_NotLayered_NotLayered : PySem.W.kitOne K (.ref t.k_NotLayered) (.ref t.k_NotLayered) = some true
  iz_NotLayered_ValueError : PySem.W.kitOne K (.ref t.k_NotLayered) (.type "ValueError") = some true
  m_Fault : mg "Fault" = some (.ref t.k_Fault)
  F_TrailError_init : FunD K "__init__" "TrailError.__init__" s_TrailError_init t.a_TrailError_init t.d_TrailError_init (.ref t.v_TrailError_init)
  b_TrailError_init : Binds K t.d_TrailError_init ["self", "words", "row"] []
  bd_TrailError_init : Binds K t.d_TrailError_init ["self", "words", "row"] [.int 0 t.w_TrailError_init_0]
  F_NotLayered_init : FunD K "__init__" "NotLayered.__init__" s_NotLayered_init t.a_NotLayered_init t.d_NotLayered_init (.ref t.v_NotLayered_init)
  b_NotLayered_init : Binds K t.d_NotLayered_init ["self", "ring", "row"] []
  bd_NotLayered_init : Binds K t.d_NotLayered_init ["self", "ring", "row"] [.int 0 t.w_NotLayered_init_0]
  F_is_inner : Fun K "is_inner" "is_inner" s_is_inner t.a_is_inner t.d_is_inner
  b_is_inner : Binds K t.d_is_inner ["sign"] []
  m_is_inner : mg "is_inner" = some (.ref t.a_is_inner)
  F_is_called : Fun K "is_called" "is_called" s_is_called t.a_is_called t.d_is_called
  b_is_called : Binds K t.d_is_called ["text", "firsts"] []
  m_is_called : mg "is_called" = some (.ref t.a_is_called)
  F_is_word : Fun K "is_word" "is_word" s_is_word t.a_is_word t.d_is_word
  b_is_word : Binds K t.d_is_word ["text"] []
  m_is_word : mg "is_word" = some (.ref t.a_is_word)
  F_is_named : Fun K "is_named" "is_named" s_is_named t.a_is_named t.d_is_named
  b_is_named : Binds K t.d_is_named ["term"] []
  m_is_named : mg "is_named" = some (.ref t.a_is_named)
  F_word_of : Fun K "word_of" "word_of" s_word_of t.a_word_of t.d_word_of
  b_word_of : Binds K t.d_word_of ["goal"] []
  m_word_of : mg "word_of" = some (.ref t.a_word_of)
  F_leanings_of : Fun K "leanings_of" "leanings_of" s_leanings_of t.a_leanings_of t.d_leanings_of
  b_leanings_of : Binds K t.d_leanings_of ["rules"] []
  m_leanings_of : mg "leanings_of" = some (.ref t.a_leanings_of)
  F_row_between : Fun K "row_between" "row_between" s_row_between t.a_row_between t.d_row_between
  b_row_between : Binds K t.d_row_between ["first", "last", "leanings"] []
  m_row_between : mg "row_between" = some (.ref t.a_row_between)
  F_check_layered : Fun K "check_layered" "check_layered" s_check_layered t.a_check_layered t.d_check_layered
  b_check_layered : Binds K t.d_check_layered ["leanings"] []
  m_check_layered : mg "check_layered" = some (.ref t.a_check_layered)
  F_raise_layers : Fun K "raise_layers" "raise_layers" s_raise_layers t.a_raise_layers t.d_raise_layers
  b_raise_layers : Binds K t.d_raise_layers ["layers", "leanings"] []
  m_raise_layers : mg "raise_layers" = some (.ref t.a_raise_layers)
  F_layers_of : Fun K "layers_of" "layers_of" s_layers_of t.a_layers_of t.d_layers_of
  b_layers_of : Binds K t.d_layers_of ["rules"] []
  m_layers_of : mg "layers_of" = some (.ref t.a_layers_of)
  F_l_cell_at : Fun K "_law_cell_at" "_law_cell_at" s_l_cell_at t.a_l_cell_at t.d_l_cell_at
  b_l_cell_at : Binds K t.d_l_cell_at ["_law_script", "_law_k"] []
  m_l_cell_at : mg "_law_cell_at" = some (.ref t.a_l_cell_at)
  F_l_pick : Fun K "_law_pick" "_law_pick" s_l_pick t.a_l_pick t.d_l_pick
  b_l_pick : Binds K t.d_l_pick ["_law_cell", "_law_k", "_law_many"] []
  m_l_pick : mg "_law_pick" = some (.ref t.a_l_pick)
  F_l_words : Fun K "_law_words" "_law_words" s_l_words t.a_l_words t.d_l_words
  b_l_words : Binds K t.d_l_words ["_law_cell"] []
  m_l_words : mg "_law_words" = some (.ref t.a_l_words)
  F_l_word : Fun K "_law_word" "_law_word" s_l_word t.a_l_word t.d_l_word
  b_l_word : Binds K t.d_l_word ["_law_cell", "_law_k", "_law_words_here", "_law_low"] []
  m_l_word : mg "_law_word" = some (.ref t.a_l_word)
  F_l_goal : Fun K "_law_goal" "_law_goal" s_l_goal t.a_l_goal t.d_l_goal
  b_l_goal : Binds K t.d_l_goal ["_law_word_here"] []
  m_l_goal : mg "_law_goal" = some (.ref t.a_l_goal)
  F_l_rules : Fun K "_law_rules" "_law_rules" s_l_rules t.a_l_rules t.d_l_rules
  b_l_rules : Binds K t.d_l_rules ["_law_script", "_law_words_here", "_law_way"] []
  m_l_rules : mg "_law_rules" = some (.ref t.a_l_rules)
  F_l_leanings : Fun K "_law_leanings" "_law_leanings" s_l_leanings t.a_l_leanings t.d_l_leanings
  b_l_leanings : Binds K t.d_l_leanings ["_law_rules_here"] []
  m_l_leanings : mg "_law_leanings" = some (.ref t.a_l_leanings)
  F_l_ring : Fun K "_law_ring" "_law_ring" s_l_ring t.a_l_ring t.d_l_ring
  b_l_ring : Binds K t.d_l_ring ["_law_leans", "_law_ring_here"] []
  m_l_ring : mg "_law_ring" = some (.ref t.a_l_ring)
  F_l_told_ring : Fun K "_law_told_ring" "_law_told_ring" s_l_told_ring t.a_l_told_ring t.d_l_told_ring
  b_l_told_ring : Binds K t.d_l_told_ring ["_law_e"] []
  m_l_told_ring : mg "_law_told_ring" = some (.ref t.a_l_told_ring)
  F_l_least : Fun K "_law_least" "_law_least" s_l_least t.a_l_least t.d_l_least
  b_l_least : Binds K t.d_l_least ["_law_leans", "_law_layers", "_law_word_here"] []
  m_l_least : mg "_law_least" = some (.ref t.a_l_least)
  F_l_layered : Fun K "_law_layered" "_law_layered" s_l_layered t.a_l_layered t.d_l_layered
  b_l_layered : Binds K t.d_l_layered ["_law_leans", "_law_layers"] []
  m_l_layered : mg "_law_layered" = some (.ref t.a_l_layered)
  F_law : Fun K "law" "law" s_law t.a_law t.d_law
  b_law : Binds K t.d_law ["_law_script"] []
  m_law : mg "law" = some (.ref t.a_law)
  n_ValueError : mg "ValueError" = none
  n_all : mg "all" = none
  n_bool : mg "bool" = none
  n_dict : mg "dict" = none
  n_int : mg "int" = none
  n_isinstance : mg "isinstance" = none
  n_len : mg "len" = none
  n_list : mg "list" = none
  n_min : mg "min" = none
  n_range : mg "range" = none
  n_set : mg "set" = none
  n_str : mg "str" = none
  n_tuple : mg "tuple" = none
  m_SMALL : mg "SMALL" = some (.str (PySem.Str.ofString "abcdefghijklmnopqrstuvwxyz") t.t_SMALL)
  m_GREAT : mg "GREAT" = some (.str (PySem.Str.ofString "ABCDEFGHIJKLMNOPQRSTUVWXYZ") t.t_GREAT)
  m_FIGURES : mg "FIGURES" = some (.str (PySem.Str.ofString "0123456789") t.t_FIGURES)
  m_MOST_LETTERS : mg "MOST_LETTERS" = some (.int 12 t.t_MOST_LETTERS)
  m_KEEP : mg "KEEP" = some (.str (PySem.Str.ofString "keep") t.t_KEEP)
  m_NOT : mg "NOT" = some (.str (PySem.Str.ofString "not") t.t_NOT)
noncomputable abbrev smallS : Str := Str.ofString "abcdefghijklmnopqrstuvwxyz"
noncomputable abbrev greatS : Str := Str.ofString "ABCDEFGHIJKLMNOPQRSTUVWXYZ"
noncomputable abbrev figS : Str := Str.ofString "0123456789"
noncomputable abbrev one (c : Nat) : Str := ⟨#[c]⟩
noncomputable def inner (c : Str) : Bool := inS c smallS || (inS c greatS || inS c figS)
noncomputable def fst (z : Str) : Str := one (z.cps.getD 0 0)
noncomputable def called (z firsts : Str) : Bool := (decide ((1 : Int) ≤ z.length) && decide ((z.length : Int) ≤ 12)) && (inS (fst z) firsts && z.cps.toList.all fun c => inner (one c))
noncomputable abbrev sp_is_inner : Sp := fun vs H Q _ => match vs with | [.str c] => Q (.bl (inner c)) H | _ => False
noncomputable abbrev sp_is_called : Sp := fun vs H Q _ => match vs with | [.str z, .str f] => z.length ≤ 1000 ∧ ∀ H', Same H H' → Q (.bl (called z f)) H' | _ => False
noncomputable abbrev sp_is_word : Sp := fun vs H Q _ => match vs with | [.str z] => z.length ≤ 1000 ∧ ∀ H', Same H H' → Q (.bl (called z smallS)) H' | _ => False
theorem len_fst {z : Str} (h : 0 < z.length) : atI z.cps.toList 0 = some (z.cps.getD 0 0) := by
  obtain ⟨v, h1, h2⟩ := atI_lt (xs := z.cps.toList) (i := 0) (by omega) (by simp only [Array.length_toList]; unfold Str.length at h; omega)
  rw [h1]
  have h2 : z.cps.toList[0]? = some v := h2
  rw [Array.getElem?_toList] at h2
  rw [Array.getD_eq_getD_getElem?, h2]; rfl
theorem all_get (z : Str) (f : Nat → Bool) : ((List.range z.cps.size).map fun k => f (z.cps.getD k 0)).all id = z.cps.toList.all f := by
  rw [Bool.eq_iff_iff, List.all_eq_true, List.all_eq_true]
  constructor
  · intro h c hc
    obtain ⟨i, hi, e⟩ := List.getElem_of_mem hc
    have hi' : i < z.cps.size := by simpa using hi
    have := h (f (z.cps.getD i 0)) (List.mem_map.mpr ⟨i, List.mem_range.mpr hi', rfl⟩)
    rw [Array.getD_eq_getD_getElem?, ← Array.getElem?_toList, List.getElem?_eq_getElem hi] at this
    simpa [e] using this
  · intro h b hb
    obtain ⟨i, hi, rfl⟩ := List.mem_map.mp hb
    have hi := List.mem_range.mp hi
    rw [Array.getD_eq_getD_getElem?, Array.getElem?_eq_getElem hi]
    exact h _ (by simp)
noncomputable abbrev appS : Str := Str.ofString "app"
noncomputable abbrev keepS : Str := Str.ofString "keep"
noncomputable abbrev notS : Str := Str.ofString "not"
noncomputable abbrev eqS : Str := Str.ofString "="
noncomputable def ringS : Str := Str.ofString "ring"
noncomputable abbrev W := List Key
noncomputable abbrev nd (s : Str) (n : Nat) : W := [.inr s, .inl (n : Int)]
structure Wd (s : Str) : Prop where
  cl : called s smallS = true
  kp : s ≠ keepS
  nt : s ≠ notS
  eq : s ≠ eqS
  ln : s.length ≤ 1000
inductive Gk | pos (s : Str) (n : Nat) | neg (s : Str) (n : Nat) | keep | eqs
noncomputable abbrev Ru := (Str × Nat) × List Gk
noncomputable def AppAt (H : Hp) (a : Addr) (s : Str) (n : Nat) : Prop := ∃ pa xs, H a = some (.tup [.str appS, .str s, .ref pa]) ∧ H pa = some (.tup xs) ∧ xs.length = n
noncomputable def GkAt (H : Hp) (a : Addr) : Gk → Prop
  | .pos s n => Wd s ∧ AppAt H a s n
  | .neg s n => Wd s ∧ ∃ pa b, H a = some (.tup [.str appS, .str notS, .ref pa]) ∧ H pa = some (.tup [.ref b]) ∧ AppAt H b s n
  | .keep => ∃ pa, H a = some (.tup [.str appS, .str keepS, .ref pa])
  | .eqs => ∃ pa, H a = some (.tup [.str appS, .str eqS, .ref pa])
noncomputable def Each {α : Type} (R : Addr → α → Prop) (as : List Addr) (xs : List α) : Prop := as.length = xs.length ∧ ∀ (i : Nat) (x : α), xs[i]? = some x → ∃ a, as[i]? = some a ∧ R a x
noncomputable def RuAt (H : Hp) (a : Addr) (r : Ru) : Prop := ∃ h g as, H a = some (.tup [.ref h, .ref g]) ∧ Wd r.1.1 ∧ AppAt H h r.1.1 r.1.2 ∧ H g = some (.tup (as.map V.ref)) ∧ Each (GkAt H) as r.2
noncomputable def LnAt (H : Hp) (a : Addr) (e : Eg W) : Prop := ∃ p q, H a = some (.tup [.ref p, .ref q, .int (e.2.2.toNat : Int)]) ∧ H p = some (.tup (e.1.map kV)) ∧ H q = some (.tup (e.2.1.map kV))
noncomputable def TS (H H' : Hp) : Prop := ∀ a xs, H a = some (.tup xs) → H' a = some (.tup xs)
theorem TS.refl (H : Hp) : TS H H := fun _ _ h => h
theorem TS.trans {H H1 H2 : Hp} (a : TS H H1) (b : TS H1 H2) : TS H H2 := fun p xs h => b p xs (a p xs h)
theorem TS.of {H H' : Hp} (s : Same H H') : TS H H' := fun p xs h => s _ _ h
theorem TS.upd {H : Hp} {d : Addr} {o : HO} (h : ∀ xs, H d ≠ some (.tup xs)) : TS H (upd H d o) := fun p xs hp => by
  rw [upd_ne (fun e => h xs (by rw [← e]; exact hp))]
  exact hp
theorem AppAt.mono {H H' : Hp} {a : Addr} {s : Str} {n : Nat} (h : AppAt H a s n) (k : TS H H') : AppAt H' a s n := by
  obtain ⟨pa, xs, h1, h2, h3⟩ := h
  exact ⟨pa, xs, k _ _ h1, k _ _ h2, h3⟩
theorem GkAt.mono {H H' : Hp} {a : Addr} {g : Gk} (h : GkAt H a g) (k : TS H H') : GkAt H' a g := by
  cases g with
  | pos s n => exact ⟨h.1, h.2.mono k⟩
  | neg s n => obtain ⟨w, pa, b, h1, h2, h3⟩ := h; exact ⟨w, pa, b, k _ _ h1, k _ _ h2, h3.mono k⟩
  | keep => obtain ⟨pa, h1⟩ := h; exact ⟨pa, k _ _ h1⟩
  | eqs => obtain ⟨pa, h1⟩ := h; exact ⟨pa, k _ _ h1⟩
theorem Each.imp {α : Type} {R R' : Addr → α → Prop} {as : List Addr} {xs : List α} (h : Each R as xs) (k : ∀ a x, R a x → R' a x) : Each R' as xs := ⟨h.1, fun i x hx => by
  obtain ⟨a, h1, h2⟩ := h.2 i x hx
  exact ⟨a, h1, k _ _ h2⟩⟩
theorem Each.nil {α : Type} {R : Addr → α → Prop} : Each R [] [] := ⟨rfl, fun i x h => by simp at h⟩
theorem Each.snoc {α : Type} {R : Addr → α → Prop} {as : List Addr} {xs : List α} {a : Addr} {x : α} (h : Each R as xs) (k : R a x) : Each R (as ++ [a]) (xs ++ [x]) := by
  refine ⟨by rw [List.length_append, List.length_append, h.1]; rfl, fun i y hy => ?_⟩
  by_cases e : i < xs.length
  · rw [List.getElem?_append_left e] at hy
    obtain ⟨b, h1, h2⟩ := h.2 i y hy
    exact ⟨b, by rw [List.getElem?_append_left (by rw [h.1]; exact e)]; exact h1, h2⟩
  · have e2 : i = xs.length := by
      have := List.length_append (as := xs) (bs := [x]) ▸ (List.getElem?_eq_some_iff.mp hy).1
      simp at this
      omega
    subst e2
    rw [List.getElem?_concat_length] at hy
    cases hy
    exact ⟨a, by rw [← h.1, List.getElem?_concat_length], k⟩
theorem Each.at {α : Type} {R : Addr → α → Prop} {as : List Addr} {xs : List α} (h : Each R as xs) {i : Nat} (hi : i < xs.length) : ∃ a, (as.map V.ref).getD i .non = .ref a ∧ as[i]? = some a ∧ R a xs[i] := by
  obtain ⟨a, h1, h2⟩ := h.2 i xs[i] (List.getElem?_eq_getElem hi)
  exact ⟨a, by rw [List.getD_eq_getElem?_getD, List.getElem?_map, h1]; rfl, h1, h2⟩
theorem RuAt.mono {H H' : Hp} {a : Addr} {r : Ru} (h : RuAt H a r) (k : TS H H') : RuAt H' a r := by
  obtain ⟨p, g, as, h1, h2, h3, h4, h5⟩ := h
  exact ⟨p, g, as, k _ _ h1, h2, h3.mono k, k _ _ h4, h5.imp fun _ _ z => z.mono k⟩
theorem LnAt.mono {H H' : Hp} {a : Addr} {e : Eg W} (h : LnAt H a e) (k : TS H H') : LnAt H' a e := by
  obtain ⟨p, q, h1, h2, h3⟩ := h
  exact ⟨p, q, k _ _ h1, k _ _ h2, k _ _ h3⟩
noncomputable def edG (u : W) : Gk → Option (Eg W)
  | .pos s n => some (u, nd s n, false)
  | .neg s n => some (u, nd s n, true)
  | _ => none
noncomputable abbrev hdR (r : Ru) : W := nd r.1.1 r.1.2
noncomputable def edR (r : Ru) : List (Eg W) := r.2.filterMap (edG (hdR r))
noncomputable def eds (R : List Ru) : List (Eg W) := R.flatMap edR
noncomputable def Nds (hs : List W) (L : List (Eg W)) (x : W) : Prop := x ∈ hs ∨ ∃ u c, (u, x, c) ∈ L
noncomputable def Few (R : List Ru) : Prop := R.length ≤ 12 ∧ ∀ r ∈ R, r.2.length ≤ 3
theorem eds_snoc (R : List Ru) (r : Ru) : eds (R ++ [r]) = eds R ++ edR r := by simp [eds]
theorem take_snoc {α : Type} {l : List α} {i : Nat} (h : i < l.length) : l.take (i + 1) = l.take i ++ [l[i]] := by rw [List.take_add_one, List.getElem?_eq_getElem h]; rfl
theorem edR_le (r : Ru) : (edR r).length ≤ r.2.length := List.length_filterMap_le ..
theorem eds_le : ∀ {R : List Ru}, (∀ r ∈ R, r.2.length ≤ 3) → (eds R).length ≤ 3 * R.length
  | [], _ => Nat.zero_le _
  | r :: R, h => by
    have := eds_le (R := R) fun x hx => h x (List.mem_cons_of_mem _ hx)
    have h2 := edR_le r
    have h3 := h r (List.mem_cons_self ..)
    have e : eds (r :: R) = edR r ++ eds R := by simp [eds]
    rw [e, List.length_append, List.length_cons]
    omega
structure LsAt (H : Hp) (l : Addr) (as : List Addr) (L : List (Eg W)) : Prop where
  ls : H l = some (.lst (as.map V.ref))
  ea : Each (LnAt H) as L
  few : L.length ≤ 100
structure RsAt (H : Hp) (l : Addr) (qs : List Addr) (R : List Ru) : Prop where
  ls : H l = some (.lst (qs.map V.ref))
  ea : Each (RuAt H) qs R
  few : Few R
theorem LsAt.mono {H H' : Hp} {l : Addr} {as : List Addr} {L : List (Eg W)} (h : LsAt H l as L) (s : Same H H') : LsAt H' l as L := ⟨s _ _ h.ls, h.ea.imp fun _ _ z => z.mono (.of s), h.few⟩
theorem RsAt.mono {H H' : Hp} {l : Addr} {qs : List Addr} {R : List Ru} (h : RsAt H l qs R) (s : Same H H') : RsAt H' l qs R := ⟨s _ _ h.ls, h.ea.imp fun _ _ z => z.mono (.of s), h.few⟩
structure Rg (H : Hp) (p : Addr) (L : List (Eg W)) (u v : W) (qs : List (W × Addr)) : Prop where
  ls : H p = some (.lst (qs.map fun q => .ref q.2))
  tp : ∀ q ∈ qs, H q.2 = some (.tup (q.1.map kV))
  ch : Chn L (qs.map (·.1))
  nod : (qs.map (·.1)).Nodup
  hd : (qs.map (·.1)).head? = some u
  la : (qs.map (·.1)).getLast? = some v
theorem Rg.mono {H H' : Hp} {p : Addr} {L : List (Eg W)} {u v : W} {qs : List (W × Addr)} (h : Rg H p L u v qs) (s : Same H H') : Rg H' p L u v qs := ⟨s _ _ h.ls, fun q hq => s _ _ (h.tp q hq), h.ch, h.nod, h.hd, h.la⟩
noncomputable abbrev sp_NotLayered_init (K : PySem.W.Frag) : Sp := fun vs H Q _ => match vs with
  | [.ref e, .ref l, .int r] => ∃ C bm fr xs, XCls K C bm ∧ XUp bm ∧ XAttr K C ∧ NoAttr K C rowS ∧ NoAttr K C ringS ∧ H e = some (XF e C none fr) ∧ l ≠ e ∧ H l = some (.lst xs) ∧ ∀ p H', H' p = some (.lst xs) → Born H H' e C fr [(rowS, .int r), (ringS, .ref p)] → Q .non H'
  | _ => False
noncomputable abbrev sp_is_named : Sp := fun vs H Q _ => match vs with | [.ref a] => ∃ sg pa, H a = some (.tup [.str appS, .str sg, .ref pa]) ∧ sg.length ≤ 1000 ∧ ∀ H', Same H H' → Q (.bl (called sg smallS && !decide (sg ∈ [keepS, notS]))) H' | _ => False
noncomputable abbrev sp_word_of : Sp := fun vs H Q _ => match vs with | [.ref a] => ∃ s n, AppAt H a s n ∧ ∀ p H', Same H H' → H' p = some (.tup ((nd s n).map kV)) → Q (.ref p) H' | _ => False
noncomputable abbrev sp_leanings_of : Sp := fun vs H Q _ => match vs with | [.ref l] => ∃ qs R, RsAt H l qs R ∧ ∀ p as H', Same H H' → LsAt H' p as (eds R) → Q (.ref p) H' | _ => False
noncomputable abbrev sp_row_between : Sp := fun vs H Q _ => match vs with
  | [.ref a, .ref b, .ref l] => ∃ u v as L, H a = some (.tup (u.map kV)) ∧ H b = some (.tup (v.map kV)) ∧ LsAt H l as L ∧ (∀ p H', Same H H' → H' p = some (.lst []) → ¬ Rch L u v → Q (.ref p) H') ∧ ∀ p qs H', Same H H' → Rg H' p L u v qs → Q (.ref p) H'
  | _ => False
noncomputable def onR (C : Addr) (H : Hp) (L : List (Eg W)) (E : XK) : Prop := ∀ ea H' p qs u v, Same H H' → IsX H' ea C [(rowS, .int 0), (ringS, .ref p)] → Rg H' p L v u qs → (u, v, true) ∈ L → E (.ref C) (some ea) H'
theorem onR.mono {C : Addr} {H H1 : Hp} {L : List (Eg W)} {E : XK} (h : onR C H L E) (s : Same H H1) : onR C H1 L E := fun ea H' p qs u v s' => h ea H' p qs u v (s.trans s')
noncomputable abbrev sp_check_layered (C : Addr) : Sp := fun vs H Q E => match vs with
  | [.ref l] => ∃ as L, LsAt H l as L ∧ (∀ H', Same H H' → Layd L → Q .non H') ∧ onR C H L E
  | _ => False
structure LOk (L : List (Eg W)) (lam : W → Nat) : Prop where
  pw : ∀ x, Pw L x (lam x)
  le : ∀ x, lam x ≤ Nr L x
noncomputable abbrev lyr (ks : List W) (lam : W → Nat) : HO := .dT (dOf ks fun k => .int (lam k : Int))
noncomputable def smL (ks : List W) (lam : W → Nat) : Nat := (ks.map lam).sum
noncomputable abbrev sp_raise_layers : Sp := fun vs H Q _ => match vs with
  | [.ref d, .ref l] => ∃ ks lam as L, H d = some (lyr ks lam) ∧ LsAt H l as L ∧ ks.length ≤ 100 ∧ (∀ u v c, (u, v, c) ∈ L → u ∈ ks ∧ v ∈ ks) ∧ Layd L ∧ LOk L lam ∧
      ∀ lam' r, LOk L lam' → (r = false → Stb L lam') → (r = true → smL ks lam < smL ks lam') → Q (.bl r) (upd H d (lyr ks lam'))
  | _ => False
noncomputable abbrev sp_layers_of (C : Addr) : Sp := fun vs H Q E => match vs with
  | [.ref l] => ∃ qs R, RsAt H l qs R ∧ (∀ p ks lam H', Same H H' → H' p = some (lyr ks lam) → ks.Nodup → (∀ x, x ∈ ks ↔ Nds (R.map hdR) (eds R) x) → Stb (eds R) lam → LOk (eds R) lam → Q (.ref p) H') ∧ onR C H (eds R) E
  | _ => False
noncomputable abbrev sp_l_cell_at (K : PySem.W.Frag) : Sp := fun vs H Q _ => match vs with | [.ref a, .int k] => ∃ ns : List Int, SqL K H a (ns.map V.int) ∧ 0 ≤ k ∧ k ≤ 1000 ∧ ∀ v, Q (.int v) H | _ => False
noncomputable abbrev sp_l_pick : Sp := fun vs H Q _ => match vs with | [.int _, .int k, .int m] => 0 ≤ k ∧ k ≤ 1000 ∧ 0 < m ∧ ∀ v H', 0 ≤ v → v < m → Same H H' → Q (.int v) H' | _ => False
noncomputable abbrev sp_l_words (K : PySem.W.Frag) : Sp := fun vs H Q _ => match vs with | [.int _] => ∀ p (ws : List Str) H', Same H H' → H' p = some (.lst (ws.map V.str)) → ws.length = 5 → ws.Nodup → (∀ w ∈ ws, Wd w) → Q (.ref p) H' | _ => False
noncomputable abbrev sp_l_word : Sp := fun vs H Q _ => match vs with
  | [.int _, .int k, .ref l, .int low] => ∃ (ws : List Str) (lo : Nat), H l = some (.lst (ws.map V.str)) ∧ ws.length = 5 ∧ 0 ≤ k ∧ k ≤ 50 ∧ low = (lo : Int) ∧ lo ≤ 3 ∧ ∀ p H' (i n : Nat) s, Same H H' → lo ≤ i → i ≤ 3 → ws[i]? = some s → n ≤ 1 → H' p = some (.tup ((nd s n).map kV)) → Q (.ref p) H'
  | _ => False
noncomputable abbrev sp_l_goal : Sp := fun vs H Q _ => match vs with | [.ref p] => ∃ s n, H p = some (.tup ((nd s n).map kV)) ∧ n ≤ 1 ∧ ∀ a H', Same H H' → AppAt H' a s n → Q (.ref a) H' | _ => False
noncomputable def GOk (ws : List Str) (odd : Prop) (i : Nat) : Gk → Prop
  | .pos s n => ∃ j, j ≤ 3 ∧ ws[j]? = some s ∧ n ≤ 1 ∧ (odd → i ≤ j)
  | .neg s n => ∃ j, j ≤ 3 ∧ ws[j]? = some s ∧ n ≤ 1 ∧ (odd → i + 1 ≤ j)
  | _ => True
noncomputable def ROk (ws : List Str) (odd : Prop) (r : Ru) : Prop := ∃ i, i ≤ 3 ∧ ws[i]? = some r.1.1 ∧ r.1.2 ≤ 1 ∧ ∀ g ∈ r.2, GOk ws odd i g
noncomputable abbrev sp_l_rules (K : PySem.W.Frag) : Sp := fun vs H Q _ => match vs with
  | [.ref a, .ref l, .int way] => ∃ (ns : List Int) (ws : List Str), SqL K H a (ns.map V.int) ∧ H l = some (.lst (ws.map V.str)) ∧ ws.length = 5 ∧ (∀ w ∈ ws, Wd w) ∧ ∀ p qs R H', Same H H' → RsAt H' p qs R → (∀ r ∈ R, ROk ws (way % 2 = 1) r) → Q (.ref p) H'
  | _ => False
noncomputable def hasE (L : List (Eg W)) (u v : W) : Bool := L.any fun e => decide (e.1 = u ∧ e.2.1 = v ∧ e.2.2 = true)
theorem hasE_iff {L : List (Eg W)} {u v : W} : hasE L u v = true ↔ (u, v, true) ∈ L := by
  unfold hasE
  rw [List.any_eq_true]
  constructor
  · rintro ⟨⟨a, b, c⟩, h, e⟩
    obtain ⟨e1, e2, e3⟩ := of_decide_eq_true e
    simp only at e1 e2 e3
    rw [← e1, ← e2, ← e3]
    exact h
  · exact fun h => ⟨_, h, decide_eq_true ⟨rfl, rfl, rfl⟩⟩
structure Lns (H : Hp) (p : Addr) (L : List (Eg W)) (ks : List W) (ad : W → Addr) (ik : W → List W) : Prop where
  top : Rd H p (.dT (dOf ks fun k => .ref (ad k)))
  inn : ∀ u ∈ ks, H (ad u) = some (.dT (dOf (ik u) fun v => .bl (hasE L u v)))
  nod : ks.Nodup
  mem : ∀ u ∈ ks, ∀ v, v ∈ ik u ↔ ∃ c, (u, v, c) ∈ L
  src : ∀ u v c, (u, v, c) ∈ L → u ∈ ks ∧ v ∈ ks
  few : ks.length ≤ 100
theorem Lns.mono {H H' : Hp} {p : Addr} {L : List (Eg W)} {ks : List W} {ad : W → Addr} {ik : W → List W} (h : Lns H p L ks ad ik) (s : Same H H') : Lns H' p L ks ad ik := ⟨h.top.elim (fun z => .inl (s _ _ z)) (fun ⟨o, z⟩ => .inr ⟨o, s _ _ z⟩), fun u hu => s _ _ (h.inn u hu), h.nod, h.mem, h.src, h.few⟩
noncomputable abbrev sp_l_leanings : Sp := fun vs H Q _ => match vs with
  | [.ref l] => ∃ qs R, RsAt H l qs R ∧ ∀ p ks ad ik H', Same H H' → H' p = some (.dT (dOf ks fun k => .ref (ad k))) → Lns H' p (eds R) ks ad ik → (∀ x, x ∈ ks ↔ Nds (R.map hdR) (eds R) x) → Q (.ref p) H'
  | _ => False
noncomputable def Txd (k : W) : Prop := ∃ x r, k = .inr x :: r
noncomputable abbrev sp_l_ring : Sp := fun vs H Q _ => match vs with
  | [.ref p, .ref q] => ∃ L ks ad ik qs u v, Lns H p L ks ad ik ∧ Rg H q L v u qs ∧ (u, v, true) ∈ L ∧ ks.length ≤ 8 ∧ (∀ k ∈ ks, Txd k) ∧ ∀ H', Same H H' → Q (.bl true) H'
  | _ => False
noncomputable abbrev sp_l_told_ring (C : Addr) : Sp := fun vs H Q _ => match vs with | [.ref ea] => ∃ p, IsX H ea C [(rowS, .int 0), (ringS, .ref p)] ∧ ∀ H', Same H H' → Q (.ref p) H' | _ => False
noncomputable abbrev sp_l_least : Sp := fun vs H Q _ => match vs with
  | [.ref p, .ref d, .ref a] => ∃ L ks ad ik ls lam u, Lns H p L ks ad ik ∧ H d = some (lyr ls lam) ∧ (∀ x ∈ ks, x ∈ ls) ∧ H a = some (.tup (u.map kV)) ∧ u ∈ ks ∧ Stb L lam ∧ Pw L u (lam u) ∧ 0 < lam u ∧ ∀ H', Same H H' → Q (.bl true) H'
  | _ => False
noncomputable abbrev sp_l_layered : Sp := fun vs H Q _ => match vs with
  | [.ref p, .ref d] => ∃ L ks ad ik ls lam, H p = some (.dT (dOf ks fun k => .ref (ad k))) ∧ Lns H p L ks ad ik ∧ H d = some (lyr ls lam) ∧ ls.Nodup ∧ (∀ x, x ∈ ks ↔ x ∈ ls) ∧ ks.length ≤ 8 ∧ (∀ k ∈ ks, Txd k) ∧ Stb L lam ∧ (∀ x, Pw L x (lam x)) ∧ ∀ H', Same H H' → Q (.bl true) H'
  | _ => False
noncomputable abbrev sp_law (K : PySem.W.Frag) : Sp := fun vs H Q _ => match vs with | [.ref a] => ∃ ns : List Int, SqL K H a (ns.map V.int) ∧ ns.length ≤ 63 ∧ ∀ H', Q (.bl true) H' | _ => False
section
variable {P : Program} {w : World} {K : PySem.W.Frag} {mg : Str → Option Value} {base : Heap} {t : Ad}
theorem ok_l_goal (T : Txt K mg t)  : FnOk P w K mg base CX0 1 t.a_l_goal t.d_l_goal ["_law_word_here"] (sp_l_goal) := by
  refine T.F_l_goal.ok sc_l_goal (fun vs H Q E h => ?_) (fun cdv A outer s H vs Q E hr h => ?_)
  · unfold sp_l_goal at h
    split at h
    · rfl
    · exact h.elim
  unfold sp_l_goal at h
  split at h
  rotate_left
  · exact h.elim
  refine ⟨_, (@QSs.pss _ _ _ (qss_one (qs_ret (qe_tup (qa_con (qe_of pe_str) (qa_con (qe_of (pe_ix (ki_seq K rfl) (mv 0) pe_int (fun _ _ => rfl))) (qa_con (qe_op (ko_repT K rfl) (qe_tup (qa_con (qe_tup (qa_con (qe_of pe_str) (qa_con (qe_of pe_str) qa_nil rfl) rfl)) qa_nil rfl)) (qe_of (pe_ix (ki_seq K rfl) (mv 0) pe_int (fun _ _ => rfl)))) qa_nil rfl) rfl) rfl))))), ?_⟩
  rename_i p
  obtain ⟨s0, n, hp, hn, q⟩ := h
  walk_at "stp"
  refine mIx_t (SqT.of hp) (v := .str s0) rfl ?_
  walk_at "stp"
  refine ⟨ln (by show 2 ≤ 100000; decide), fun p1 hp1 => ?_⟩
  have sp1 : Same H (upd H p1 (.tup [.str (Str.ofString "any"), .str (Str.ofString "X")])) := same_new hp1 _
  have kp1 : (upd H p1 (.tup [.str (Str.ofString "any"), .str (Str.ofString "X")])) p1 = some (.tup [.str (Str.ofString "any"), .str (Str.ofString "X")]) := upd_same
  generalize upd H p1 (.tup [.str (Str.ofString "any"), .str (Str.ofString "X")]) = H1 at sp1 kp1 ⊢
  walk_at "stp"
  refine ⟨ln (by show 1 ≤ 100000; decide), fun p2 hp2 => ?_⟩
  have sp2 : Same H1 (upd H1 p2 (.tup [.ref p1])) := same_new hp2 _
  have kp2 : (upd H1 p2 (.tup [.ref p1])) p2 = some (.tup [.ref p1]) := upd_same
  generalize upd H1 p2 (.tup [.ref p1]) = H2 at sp2 kp2 ⊢
  walk_at "stp"
  have s12 := sp1.trans sp2
  refine mIx_t (SqT.of (s12 _ _ hp)) (v := .int n) rfl ?_
  walk_at "stp"
  refine mRepT_i (SqT.of kp2) ?_
  have hn : n = 1 ∨ n = 0 := by omega
  rcases hn with rfl | rfl
  · refine .inl ⟨rfl, ?_⟩
    walk_at "stp"
    refine ⟨ln (by show 3 ≤ 100000; decide), fun p3 hp3 => ?_⟩
    exact q p3 _ (s12.trans (same_new hp3 _)) ⟨p2, _, upd_same, same_new hp3 _ _ _ kp2, rfl⟩
  · refine .inr ⟨rfl, fun p3 hp3 => ?_⟩
    walk_at "stp"
    refine ⟨ln (by show 3 ≤ 100000; decide), fun p4 hp4 => ?_⟩
    exact q p4 _ (s12.trans ((same_new hp3 _).trans (same_new hp4 _))) ⟨p3, _, upd_same, same_new hp4 _ _ _ upd_same, rfl⟩
theorem ok_l_word (T : Txt K mg t) (G_l_pick : FnOk P w K mg base CX0 1 t.a_l_pick t.d_l_pick ["_law_cell", "_law_k", "_law_many"] (sp_l_pick)) : FnOk P w K mg base CX0 2 t.a_l_word t.d_l_word ["_law_cell", "_law_k", "_law_words_here", "_law_low"] (sp_l_word) := by
  refine T.F_l_word.ok sc_l_word (fun vs H Q E h => ?_) (fun cdv A outer s H vs Q E hr h => ?_)
  · unfold sp_l_word at h
    split at h
    · rfl
    · exact h.elim
  unfold sp_l_word at h
  split at h
  rotate_left
  · exact h.elim
  refine ⟨_, (pss_cons (ps_set (i := 4) (hs := sw_bin) sc_l_word.nd rfl (by first | exact Or.inl rfl | exact Or.inr rfl) (pe_op (ko_add K rfl) (mv 3) (pe_call G_l_pick (hr.mono (by first | decide | omega)) rfl T.m_l_pick T.F_l_pick.kp T.b_l_pick .nil pass0 (pa_con (mv 0) (pa_con (mv 1) (pa_con (pe_op mo_sub pe_int (mv 3)) pa_nil)))))) (pss_one (ps_ret (pe_tup (pa_con (pe_ix (ki_seq K rfl) (mv 2) (mv 4) (fun _ _ => rfl)) (pa_con (pe_call G_l_pick (hr.mono (by first | decide | omega)) rfl T.m_l_pick T.F_l_pick.kp T.b_l_pick .nil pass0 (pa_con (mv 0) (pa_con (pe_op (ko_add K rfl) (mv 1) pe_int) (pa_con pe_int pa_nil)))) pa_nil)))))), ?_⟩
  rename_i c k l low
  obtain ⟨ws, lo, hl, h5, h0, h1, rfl, hlo, q⟩ := h
  walk_at "stp"
  refine ⟨h0, by omega, by omega, fun v H1 v0 v1 s1 => ?_⟩
  walk_at "stp"
  obtain ⟨x, hx, hx2⟩ := atI_lt (xs := ws.map V.str) (i := (lo : Int) + v) (by omega) (by rw [List.length_map, h5]; omega)
  rw [List.getElem?_map] at hx2
  obtain ⟨s0, hs0, rfl⟩ := Option.map_eq_some_iff.mp hx2
  refine mIx_l (SqL.of (s1 _ _ hl)) hx ?_
  walk_at "stp"
  refine ⟨by omega, by omega, by decide, fun m H2 m0 m1 s2 => ?_⟩
  walk_at "stp"
  refine ⟨ln (by show 2 ≤ 100000; decide), fun p hp => ?_⟩
  refine q p _ ((lo : Int) + v).toNat m.toNat s0 (s1.trans (s2.trans (same_new hp _))) (by omega) (by omega) hs0 (by omega) ?_
  rw [upd_same]
  show _ = some (HO.tup [V.str s0, V.int (m.toNat : Int)])
  rw [Int.toNat_of_nonneg m0]
theorem look_ring (a b : V) : List.lookup (Str.ofString "ring") [(rowS, a), (ringS, b)] = some b := by
  have h1 : (Str.ofString "ring" == rowS) = false := by decide +kernel
  have h2 : (Str.ofString "ring" == ringS) = true := by decide +kernel
  simp only [List.lookup, h1, h2]
theorem ok_l_told_ring (T : Txt K mg t)  : FnOkN P w K mg base 1 t.a_l_told_ring t.d_l_told_ring ["_law_e"] (sp_l_told_ring t.k_NotLayered) := by
  refine T.F_l_told_ring.okN sc_l_told_ring (fun vs H Q E h => ?_) (fun cdv A outer s H vs Q E hr h => ?_)
  · unfold sp_l_told_ring at h
    split at h
    · rfl
    · exact h.elim
  unfold sp_l_told_ring at h
  split at h
  rotate_left
  · exact h.elim
  refine ⟨_, (pss_cons (ps_set (i := 1) (hs := sw_lst) sc_l_told_ring.nd rfl (by first | exact Or.inl rfl | exact Or.inr rfl) (pe_lst (pa_con (pe_callB (kc_isX K rfl) rfl T.n_isinstance boot_isinstance (pa_con (mv 0) (pa_con (pe_glob (v := .ref t.k_NoText) rfl T.m_NoText rfl) pa_nil))) (pa_con (pe_callB (kc_isX K rfl) rfl T.n_isinstance boot_isinstance (pa_con (mv 0) (pa_con (pe_glob (v := .ref t.k_NoSign) rfl T.m_NoSign rfl) pa_nil))) (pa_con (pe_callB (kc_isX K rfl) rfl T.n_isinstance boot_isinstance (pa_con (mv 0) (pa_con (pe_glob (v := .ref t.k_Big) rfl T.m_Big rfl) pa_nil))) (pa_con (pe_callB (kc_isX K rfl) rfl T.n_isinstance boot_isinstance (pa_con (mv 0) (pa_con (pe_glob (v := .ref t.k_HasKeep) rfl T.m_HasKeep rfl) pa_nil))) pa_nil)))))) (pss_cons (ps_set (i := 1) (hs := sw_bin) sc_l_told_ring.nd rfl (by first | exact Or.inl rfl | exact Or.inr rfl) (pe_op (ko_add K rfl) (mv 1) (pe_lst (pa_con (pe_callB (kc_isX K rfl) rfl T.n_isinstance boot_isinstance (pa_con (mv 0) (pa_con (pe_glob (v := .ref t.k_Fault) rfl T.m_Fault rfl) pa_nil))) (pa_con (pe_callB (kc_isX K rfl) rfl T.n_isinstance boot_isinstance (pa_con (mv 0) (pa_con (pe_glob (v := .ref t.k_NoRule) rfl T.m_NoRule rfl) pa_nil))) pa_nil))))) (pss_cons (ps_if (PW.pt (pw_or (mt_cmp (ko_inV K rfl) pe_bl (mv 1) (by with_unfolding_all rfl)) (pw_or (pt_not (kt_tru K rfl (pe_callB (kc_isX K rfl) rfl T.n_isinstance boot_isinstance (pa_con (mv 0) (pa_con (pe_glob (v := .ref t.k_NotLayered) rfl T.m_NotLayered rfl) pa_nil))))) (pw_or1 (pt_not (kt_tru K rfl (pe_callB (kc_isX K rfl) rfl T.n_isinstance boot_isinstance (pa_con (mv 0) (pa_con (pe_bty rfl T.n_ValueError boot_ValueError) pa_nil))))))))) (pss_one (ps_ret (pe_lst pa_nil))) pss_nil) (pss_one (ps_ret (ke_xget K rfl (mv 0))))))), ?_⟩
  rename_i ea
  obtain ⟨p, i0, q⟩ := h
  obtain ⟨dx, x1, x2⟩ := i0
  walk_at "stp"
  refine isX_i (C := t.k_NotLayered) x1 x2 T.x_NotLayered T.at_NotLayered T.is_NotLayered T.iz_NotLayered_NoText ?_
  walk_at "stp"
  refine isX_i (C := t.k_NotLayered) x1 x2 T.x_NotLayered T.at_NotLayered T.is_NotLayered T.iz_NotLayered_NoSign ?_
  walk_at "stp"
  refine isX_i (C := t.k_NotLayered) x1 x2 T.x_NotLayered T.at_NotLayered T.is_NotLayered T.iz_NotLayered_Big ?_
  walk_at "stp"
  refine isX_i (C := t.k_NotLayered) x1 x2 T.x_NotLayered T.at_NotLayered T.is_NotLayered T.iz_NotLayered_HasKeep ?_
  walk_at "stp"
  refine ⟨ln (by show 4 ≤ 100000; decide), fun p1 hp1 => ?_⟩
  have sp1 : Same H (upd H p1 (.lst [.bl false, .bl false, .bl false, .bl false])) := same_new hp1 _
  have kp1 : (upd H p1 (.lst [.bl false, .bl false, .bl false, .bl false])) p1 = some (.lst [.bl false, .bl false, .bl false, .bl false]) := upd_same
  generalize upd H p1 (.lst [.bl false, .bl false, .bl false, .bl false]) = H1 at sp1 kp1 ⊢
  walk_at "stp"
  refine isX_i (C := t.k_NotLayered) (sp1 _ _ x1) (sp1 _ _ x2) T.x_NotLayered T.at_NotLayered T.is_NotLayered T.iz_NotLayered_Fault ?_
  walk_at "stp"
  refine isX_i (C := t.k_NotLayered) (sp1 _ _ x1) (sp1 _ _ x2) T.x_NotLayered T.at_NotLayered T.is_NotLayered T.iz_NotLayered_NoRule ?_
  walk_at "stp"
  refine ⟨ln (by show 2 ≤ 100000; decide), fun p2 hp2 => ?_⟩
  have sp2 : Same H1 (upd H1 p2 (.lst [.bl false, .bl false])) := same_new hp2 _
  have kp2 : (upd H1 p2 (.lst [.bl false, .bl false])) p2 = some (.lst [.bl false, .bl false]) := upd_same
  generalize upd H1 p2 (.lst [.bl false, .bl false]) = H2 at sp2 kp2 ⊢
  walk_at "stp"
  refine mAdd_l (sp2 _ _ kp1) kp2 (ln (by show 6 ≤ 100000; decide)) (fun p3 hp3 => ?_)
  have s3 : Same H2 (upd H2 p3 (.lst ([.bl false, .bl false, .bl false, .bl false] ++ [.bl false, .bl false]))) := same_new hp3 _
  have k3 : SqL K (upd H2 p3 (.lst ([.bl false, .bl false, .bl false, .bl false] ++ [.bl false, .bl false]))) p3 ([false, false, false, false, false, false].map V.bl) := SqL.of upd_same
  generalize upd H2 p3 (.lst ([.bl false, .bl false, .bl false, .bl false] ++ [.bl false, .bl false])) = H3 at s3 k3 ⊢
  have s03 := sp1.trans (sp2.trans s3)
  walk_at "stp"
  refine in_bl _ k3 ?_
  walk_at "stp"
  refine iteB (fun e => absurd e (by decide +kernel)) (fun e => ?_)
  walk_at "stp"
  refine isX_i (C := t.k_NotLayered) (s03 _ _ x1) (s03 _ _ x2) T.x_NotLayered T.at_NotLayered T.is_NotLayered T.iz_NotLayered_NotLayered ?_
  walk_at "stp"
  refine iteF ?_
  walk_at "stp"
  refine isX_i (C := t.k_NotLayered) (s03 _ _ x1) (s03 _ _ x2) T.x_NotLayered T.at_NotLayered T.is_NotLayered T.iz_NotLayered_ValueError ?_
  walk_at "stp"
  refine iteF ?_
  walk_at "stp"
  refine ⟨ea, t.k_NotLayered, _, dx, _, false, .ref p, rfl, s03 _ _ x1, T.x_NotLayered, T.at_NotLayered, T.no_NotLayered_ring, s03 _ _ x2, look_ring _ _, ?_⟩
  exact q _ s03
end
section
variable {P : Program} {w : World} {K : PySem.W.Frag} {mg : Str → Option Value} {base : Heap} {t : Ad}
theorem ok_TrailError_init (T : Txt K mg t)  : FnOk P w K mg base CX0 1 t.a_TrailError_init t.d_TrailError_init ["self", "words", "row"] (sp_TrailError_init K) := by
  refine T.F_TrailError_init.ok sc_TrailError_init (fun vs H Q E h => ?_) (fun cdv A outer s H vs Q E hr h => ?_)
  · unfold sp_TrailError_init at h
    split at h
    · rfl
    · exact h.elim
  unfold sp_TrailError_init at h
  split at h
  rotate_left
  · exact h.elim
  refine ⟨_, (pss_cons (ps_expr (pe_binit rfl T.n_ValueError (pa_con (mv 0) (pa_con (mv 1) pa_nil)))) (pss_one (ps_xset (mv 0) (mv 2)))), ?_⟩
  rename_i e v r
  obtain ⟨C, bm, fr, Xc, U, Xa, n1, hx, q⟩ := h
  walk_at "stp"
  refine ⟨e, C, none, fr, bm, v, rfl, hx, Xc, ?_⟩
  walk_at "stp"
  refine ⟨e, C, bm, fr, rfl, Xc, U, Xa, n1, .inl ⟨hx, fun dx hdx hne => ?_⟩⟩
  refine q _ ⟨⟨dx, hdx, hne, upd_same, by rw [upd_ne hne]; exact upd_same⟩, fun b hb o ho => ?_⟩
  rw [upd_ne hb, upd_ne (fun z => by rw [z, hdx] at ho; cases ho)]
  exact ho
theorem ok_NotLayered_init (T : Txt K mg t) (G_TrailError_init : FnOk P w K mg base CX0 1 t.a_TrailError_init t.d_TrailError_init ["self", "words", "row"] (sp_TrailError_init K)) : FnOk P w K mg base CX0 2 t.a_NotLayered_init t.d_NotLayered_init ["self", "ring", "row"] (sp_NotLayered_init K) := by
  refine T.F_NotLayered_init.ok sc_NotLayered_init (fun vs H Q E h => ?_) (fun cdv A outer s H vs Q E hr h => ?_)
  · unfold sp_NotLayered_init at h
    split at h
    · rfl
    · exact h.elim
  unfold sp_NotLayered_init at h
  split at h
  rotate_left
  · exact h.elim
  refine ⟨_, (pss_cons (ps_expr (pe_clsm T.cm_TrailError G_TrailError_init (hr.mono (by first | decide | omega)) rfl T.m_TrailError T.b_TrailError_init .nil pass0 (pa_con (mv 0) (pa_con pe_str (pa_con (mv 2) pa_nil))))) (pss_one (ps_xset (mv 0) (pe_callTy (kc_list K rfl) rfl T.n_list boot_list (pa_con (mv 1) pa_nil))))), ?_⟩
  rename_i e l r
  obtain ⟨C, bm, fr, xs, Xc, U, Xa, n1, n2, hx, hne, hl, q⟩ := h
  walk_at "stp"
  refine ⟨C, bm, fr, Xc, U, Xa, n1, hx, fun H1 b1 => ?_⟩
  walk_at "stp"
  have b1' := b1
  obtain ⟨⟨dx, a1, a2, a3, a4⟩, k1⟩ := b1
  refine ⟨l, xs, rfl, .inl (SqL.of (k1 l hne _ hl)), fun p hp => ?_⟩
  walk_at "stp"
  have np : p ≠ e := fun z => by rw [z, a3] at hp; cases hp
  have npx : p ≠ dx := fun z => by rw [z, a4] at hp; cases hp
  refine ⟨e, C, bm, fr, rfl, Xc, U, Xa, n2, .inr ⟨dx, _, by rw [upd_ne (Ne.symm np)]; exact a3, by rw [upd_ne (Ne.symm npx)]; exact a4, by simp, ?_⟩⟩
  have ep : putF (Str.ofString "ring") (.ref p) [(rowS, .int r)] = [(rowS, .int r), (ringS, .ref p)] := by
    show (if rowS = Str.ofString "ring" then _ else _) = _
    rw [if_neg (by decide +kernel)]
    rfl
  refine q p _ (by rw [upd_ne npx]; exact upd_same) ⟨⟨dx, a1, a2, by rw [upd_ne (Ne.symm a2), upd_ne (Ne.symm np)]; exact a3, by rw [upd_same]; exact congrArg (fun z => some (HO.xd z)) ep⟩, fun b hb o ho => ?_⟩
  have h1 := k1 b hb o ho
  rw [upd_ne (fun z => by rw [z, a1] at ho; cases ho), upd_ne (fun z => by rw [z, hp] at h1; cases h1)]
  exact h1
theorem ok_is_inner (T : Txt K mg t)  : FnOk P w K mg base CX0 1 t.a_is_inner t.d_is_inner ["sign"] (sp_is_inner) := by
  refine T.F_is_inner.ok sc_is_inner (fun vs H Q E h => ?_) (fun cdv A outer s H vs Q E hr h => ?_)
  · unfold sp_is_inner at h
    split at h
    · rfl
    · exact h.elim
  unfold sp_is_inner at h
  split at h
  rotate_left
  · exact h.elim
  refine ⟨_, (pss_one (ps_ret (me_or (pe_cmpR mo_inS (mv 0) (pe_gstr rfl T.m_SMALL) (by with_unfolding_all rfl)) (me_or (pe_cmpR mo_inS (mv 0) (pe_gstr rfl T.m_GREAT) (by with_unfolding_all rfl)) (pe_one (pe_cmpR mo_inS (mv 0) (pe_gstr rfl T.m_FIGURES) (by with_unfolding_all rfl))))))), ?_⟩
  rename_i c
  walk_at "stp"
  have h : Q (.bl (inner c)) H := h
  unfold inner at h
  refine iteB (fun e => ?_) (fun e => ?_)
  · rw [Bool.false_xor] at e
    rw [e] at h
    exact h
  · rw [Bool.false_xor] at e
    rw [e, Bool.false_or] at h
    walk_at "stp"
    refine iteB (fun e => ?_) (fun e => ?_)
    · rw [Bool.false_xor] at e
      rw [e] at h
      exact h
    · rw [Bool.false_xor] at e
      rw [e, Bool.false_or] at h
      walk_at "stp"
      rw [Bool.false_xor]
      exact h
theorem ok_is_called (T : Txt K mg t) (G_is_inner : FnOk P w K mg base CX0 1 t.a_is_inner t.d_is_inner ["sign"] (sp_is_inner)) : FnOk P w K mg base CX0 2 t.a_is_called t.d_is_called ["text", "firsts"] (sp_is_called) := by
  refine T.F_is_called.ok sc_is_called (fun vs H Q E h => ?_) (fun cdv A outer s H vs Q E hr h => ?_)
  · unfold sp_is_called at h
    split at h
    · rfl
    · exact h.elim
  unfold sp_is_called at h
  split at h
  rotate_left
  · exact h.elim
  refine ⟨_, (pss_cons (ps_if (PW.pt (pw_or (pt_not (kt_tru K rfl (pe_callB (kc_is K rfl) rfl T.n_isinstance boot_isinstance (pa_con (mv 0) (pa_con (pe_bty rfl T.n_str boot_str) pa_nil))))) (pw_or1 (pt_not (mt_chain mo_le mo_le pe_int (pe_callB (kc_len K rfl) rfl T.n_len PySem.boot_len (pa_con (mv 0) pa_nil)) (pe_gint rfl T.m_MOST_LETTERS)))))) (pss_one (ps_ret pe_bl)) pss_nil) (pss_one (ps_ret (me_and (pe_cmpR mo_inS (pe_ix (ki_seq K rfl) (mv 0) pe_int (fun _ _ => rfl)) (mv 1) (by with_unfolding_all rfl)) (pe_one (pe_callB (kc_all K rfl rfl) rfl T.n_all boot_all (pa_con (pe_comp rfl (pi_str (mv 0)) (comp_sc (defScope s_is_called) ["text", "firsts"] ["text", "firsts"] rfl rfl (by decide +kernel)) (fun _ _ _ _ _ => pts_nil) (fun _ _ _ _ _ => (pe_call G_is_inner (hr.mono (by first | decide | omega)) rfl T.m_is_inner T.F_is_inner.kp T.b_is_inner .nil pass0 (pa_con (mv 0) pa_nil)))) pa_nil))))))), ?_⟩
  rename_i z f
  obtain ⟨hz, q⟩ := h
  walk_at "stp"
  refine iteF ?_
  walk_at "stp"
  refine mLen_s (ln (by omega)) ?_
  walk_at "stp"
  unfold called at q
  have lo : decide ((1 : Int) ≤ z.length) = false ∨ decide ((1 : Int) ≤ z.length) = true ∧ decide ((z.length : Int) ≤ 12) = false → Q (.bl false) H := fun c => by
    have q := q H (Same.refl H)
    rcases c with c | ⟨c1, c2⟩
    · rw [c] at q; simpa using q
    · rw [c1, c2] at q; simpa using q
  refine iteB (fun e => ?_) (fun e => ?_)
  rotate_left
  · walk_at "stp"
    exact lo (.inl e)
  walk_at "stp"
  refine iteB (fun e2 => ?_) (fun e2 => ?_)
  · walk_at "stp"
    refine lo (.inr ⟨e, ?_⟩)
    cases d : decide ((z.length : Int) ≤ 12) with
    | false => rfl
    | true => rw [d] at e2; cases e2
  have e2 : decide ((z.length : Int) ≤ 12) = true := by
    cases d : decide ((z.length : Int) ≤ 12) with
    | true => rfl
    | false => rw [d] at e2; cases e2
  rw [e, e2] at q
  simp only [Bool.and_self, Bool.true_and] at q
  have hp : 0 < z.length := by have := of_decide_eq_true e; omega
  walk_at "stp"
  refine mIx_s (ln (by omega)) (len_fst hp) ?_
  walk_at "stp"
  rw [Bool.false_xor]
  refine iteB (fun e3 => ?_) (fun e3 => ?_)
  rotate_left
  · have e3 : inS (fst z) f = false := e3
    rw [e3] at q
    exact q H (Same.refl H)
  have e3 : inS (fst z) f = true := e3
  rw [e3] at q
  simp only [Bool.true_and] at q
  walk_at "stp"
  refine ⟨z, rfl, fun D hD => ?_⟩
  refine comp_row (row_str z) (fun i ys H' => Same H H' ∧ ys = ((List.range i).map fun k => inner (one (z.cps.getD k 0))).map V.bl ∧ H' D = some (.lst ys)) (ln (by unfold Str.length at hz; omega)) ⟨same_new hD _, rfl, upd_same⟩ (fun _ _ _ _ => trivial) (fun i ys H' Q' hi hl hP k => ?_) (fun ys H' hl hP => ?_)
  · obtain ⟨h1, h2, h3⟩ := hP
    walk_at "stp"
    refine k _ _ h3 ⟨same_upd h1 hD, ?_, upd_same⟩
    rw [List.range_succ, List.map_append, List.map_append, h2]
    rfl
  · obtain ⟨h1, h2, h3⟩ := hP
    walk_at "stp"
    refine ⟨_, SqL.of (h2 ▸ h3), ?_⟩
    have := q H' h1
    rw [← all_get z (fun c => inner (one c))] at this
    exact this
theorem ok_is_word (T : Txt K mg t) (G_is_called : FnOk P w K mg base CX0 2 t.a_is_called t.d_is_called ["text", "firsts"] (sp_is_called)) : FnOk P w K mg base CX0 3 t.a_is_word t.d_is_word ["text"] (sp_is_word) := by
  refine T.F_is_word.ok sc_is_word (fun vs H Q E h => ?_) (fun cdv A outer s H vs Q E hr h => ?_)
  · unfold sp_is_word at h
    split at h
    · rfl
    · exact h.elim
  unfold sp_is_word at h
  split at h
  rotate_left
  · exact h.elim
  refine ⟨_, (pss_one (ps_ret (pe_call G_is_called (hr.mono (by first | decide | omega)) rfl T.m_is_called T.F_is_called.kp T.b_is_called .nil pass0 (pa_con (mv 0) (pa_con (pe_gstr rfl T.m_SMALL) pa_nil))))), ?_⟩
  rename_i z
  walk_at "stp"
  exact h
theorem ok_is_named (T : Txt K mg t) (G_is_word : FnOk P w K mg base CX0 3 t.a_is_word t.d_is_word ["text"] (sp_is_word)) : FnOk P w K mg base CX0 4 t.a_is_named t.d_is_named ["term"] (sp_is_named) := by
  refine T.F_is_named.ok sc_is_named (fun vs H Q E h => ?_) (fun cdv A outer s H vs Q E hr h => ?_)
  · unfold sp_is_named at h
    split at h
    · rfl
    · exact h.elim
  unfold sp_is_named at h
  split at h
  rotate_left
  · exact h.elim
  refine ⟨_, (pss_one (ps_ret (me_and (pe_cmpR mo_eq (pe_ix (ki_seq K rfl) (mv 0) pe_int (fun _ _ => rfl)) pe_str (nomark _)) (me_and (pe_call G_is_word (hr.mono (by first | decide | omega)) rfl T.m_is_word T.F_is_word.kp T.b_is_word .nil pass0 (pa_con (pe_ix (ki_seq K rfl) (mv 0) pe_int (fun _ _ => rfl)) pa_nil)) (pe_one (pe_cmpR (ko_ninV K rfl) (pe_ix (ki_seq K rfl) (mv 0) pe_int (fun _ _ => rfl)) (pe_tup (pa_con (pe_gstr rfl T.m_KEEP) (pa_con (pe_gstr rfl T.m_NOT) pa_nil))) (by with_unfolding_all rfl))))))), ?_⟩
  rename_i a
  obtain ⟨sg, pa, hs, hl, q⟩ := h
  have hs := SqT.of (K := K) hs
  walk_at "stp"
  refine mIx_t hs (v := .str appS) rfl ?_
  walk_at "stp"
  refine iteB (fun e => ?_) (fun e => absurd e (by decide +kernel))
  walk_at "stp"
  refine mIx_t hs (v := .str sg) rfl ?_
  walk_at "stp"
  refine ⟨hl, fun H1 s1 => ?_⟩
  walk_at "stp"
  refine iteB (fun e => ?_) (fun e => ?_)
  · walk_at "stp"
    refine mIx_t (s1.tup hs) (v := .str sg) rfl ?_
    walk_at "stp"
    refine ⟨ln (by show 2 ≤ 100000; decide), fun p1 hp1 => ?_⟩
    refine nin_strs [keepS, notS] (.inr (SqT.of upd_same)) ?_
    rw [e, Bool.true_and] at q
    exact q _ (s1.trans (same_new hp1 _))
  · rw [e, Bool.false_and] at q
    exact q _ s1
theorem ok_word_of (T : Txt K mg t)  : FnOk P w K mg base CX0 1 t.a_word_of t.d_word_of ["goal"] (sp_word_of) := by
  refine T.F_word_of.ok sc_word_of (fun vs H Q E h => ?_) (fun cdv A outer s H vs Q E hr h => ?_)
  · unfold sp_word_of at h
    split at h
    · rfl
    · exact h.elim
  unfold sp_word_of at h
  split at h
  rotate_left
  · exact h.elim
  refine ⟨_, (pss_one (ps_ret (pe_tup (pa_con (pe_ix (ki_seq K rfl) (mv 0) pe_int (fun _ _ => rfl)) (pa_con (pe_callB (kc_len K rfl) rfl T.n_len PySem.boot_len (pa_con (pe_ix (ki_seq K rfl) (mv 0) pe_int (fun _ _ => rfl)) pa_nil)) pa_nil))))), ?_⟩
  rename_i a
  obtain ⟨s0, n, ⟨pa, xs, h1, h2, h3⟩, q⟩ := h
  walk_at "stp"
  refine mIx_t (SqT.of h1) (v := .str s0) rfl ?_
  walk_at "stp"
  refine mIx_t (SqT.of h1) (v := .ref pa) rfl ?_
  walk_at "stp"
  refine mLen_t (SqT.of h2) ?_
  walk_at "stp"
  refine ⟨ln (by show 2 ≤ 100000; decide), fun p hp => ?_⟩
  exact q p _ (same_new hp _) (by rw [upd_same, h3]; rfl)
theorem ok_l_cell_at (T : Txt K mg t)  : FnOk P w K mg base CX0 1 t.a_l_cell_at t.d_l_cell_at ["_law_script", "_law_k"] (sp_l_cell_at K) := by
  refine T.F_l_cell_at.ok sc_l_cell_at (fun vs H Q E h => ?_) (fun cdv A outer s H vs Q E hr h => ?_)
  · unfold sp_l_cell_at at h
    split at h
    · rfl
    · exact h.elim
  unfold sp_l_cell_at at h
  split at h
  rotate_left
  · exact h.elim
  refine ⟨_, (pss_cons (ps_if (mt_cmp mo_lt (mv 1) (pe_callB (kc_len K rfl) rfl T.n_len PySem.boot_len (pa_con (mv 0) pa_nil)) (nomark _)) (pss_one (ps_ret (pe_ix (ki_seq K rfl) (mv 0) (mv 1) (fun _ _ => rfl)))) pss_nil) (pss_one (ps_ret pe_int))), ?_⟩
  rename_i a k
  obtain ⟨ns, hS, h0, h1, q⟩ := h
  walk_at "stp"
  refine mLen_l hS ?_
  walk_at "stp"
  refine iteB (fun e => ?_) (fun e => ?_)
  · walk_at "stp"
    have hk : k < ((ns.map V.int).length : Int) := of_decide_eq_true e
    obtain ⟨v, hv, hv2⟩ := atI_lt (xs := ns.map V.int) h0 hk
    obtain ⟨x, rfl⟩ := ints_at hv
    refine mIx_l hS hv ?_
    exact q _
  · walk_at "stp"
    exact q _
theorem int_of {ns : List Int} {i : Int} (h0 : 0 ≤ i) (h1 : i < (ns.length : Int)) : ∃ n ∈ ns, atI (ns.map V.int) i = some (.int n) := by
  obtain ⟨v, hv, _⟩ := atI_lt (xs := ns.map V.int) (i := i) h0 (by simpa using h1)
  have := atI_mem hv
  obtain ⟨n, hn, e⟩ := List.mem_map.mp this
  exact ⟨n, hn, by rw [hv, ← e]⟩
theorem ok_l_pick (T : Txt K mg t)  : FnOk P w K mg base CX0 1 t.a_l_pick t.d_l_pick ["_law_cell", "_law_k", "_law_many"] (sp_l_pick) := by
  refine T.F_l_pick.ok sc_l_pick (fun vs H Q E h => ?_) (fun cdv A outer s H vs Q E hr h => ?_)
  · unfold sp_l_pick at h
    split at h
    · rfl
    · exact h.elim
  unfold sp_l_pick at h
  split at h
  rotate_left
  · exact h.elim
  refine ⟨_, (pss_cons (ps_set (i := 3) (hs := sw_sub) sc_l_pick.nd rfl (by first | exact Or.inl rfl | exact Or.inr rfl) (pe_ix (ki_seq K rfl) (pe_lst (pa_con pe_int (pa_con pe_int (pa_con pe_int (pa_con pe_int (pa_con pe_int (pa_con pe_int (pa_con pe_int pa_nil)))))))) (pe_op mo_mod (mv 1) pe_int) (fun _ _ => rfl))) (pss_one (ps_ret (pe_op mo_mod (pe_op mo_mod (pe_op (ko_add K rfl) (pe_op mo_mul (mv 0) (mv 3)) (pe_op mo_mul pe_int (mv 1))) (pe_ix (ki_seq K rfl) (pe_lst (pa_con pe_int (pa_con pe_int (pa_con pe_int pa_nil)))) (pe_op mo_mod (mv 1) pe_int) (fun _ _ => rfl))) (mv 2))))), ?_⟩
  rename_i c k m
  obtain ⟨h0, h1, hm, q⟩ := h
  walk_at "stp"
  refine ⟨ln (by show 7 ≤ 100000; decide), fun p1 hp1 => ?_⟩
  have s1 := same_new hp1 (.lst [.int 48271, .int 69621, .int 39373, .int 16807, .int 40692, .int 52774, .int 33614])
  have k1 : (upd H p1 (.lst [.int 48271, .int 69621, .int 39373, .int 16807, .int 40692, .int 52774, .int 33614])) p1 = some (.lst ([48271, 69621, 39373, 16807, 40692, 52774, 33614].map V.int)) := upd_same
  generalize upd H p1 (.lst [.int 48271, .int 69621, .int 39373, .int 16807, .int 40692, .int 52774, .int 33614]) = H1 at s1 k1 ⊢
  walk_at "stp"
  obtain ⟨x, hx, hv⟩ := int_of (ns := [48271, 69621, 39373, 16807, 40692, 52774, 33614]) (i := k % 7) (by omega) (by simp; omega)
  have hx : -(2 ^ 64) < x ∧ x < 2 ^ 64 := (by decide : ∀ x ∈ ([48271, 69621, 39373, 16807, 40692, 52774, 33614] : List Int), -(2 ^ 64) < x ∧ x < 2 ^ 64) x hx
  refine mIx_l (SqL.of k1) hv ?_
  walk_at "stp"
  refine mMul_i (mulOk_right hx) ?_
  walk_at "stp"
  refine mMul_i (mulOk_left (by decide)) ?_
  walk_at "stp"
  refine ⟨ln (by show 3 ≤ 100000; decide), fun p2 hp2 => ?_⟩
  have s2 := same_new hp2 (.lst [.int 1000003, .int 999983, .int 999979])
  have k2 : (upd H1 p2 (.lst [.int 1000003, .int 999983, .int 999979])) p2 = some (.lst ([1000003, 999983, 999979].map V.int)) := upd_same
  generalize upd H1 p2 (.lst [.int 1000003, .int 999983, .int 999979]) = H2 at s2 k2 ⊢
  walk_at "stp"
  obtain ⟨y, hy, hw⟩ := int_of (ns := [1000003, 999983, 999979]) (i := k % 3) (by omega) (by simp; omega)
  have hy : 0 < y := (by decide : ∀ y ∈ ([1000003, 999983, 999979] : List Int), 0 < y) y hy
  refine mIx_l (SqL.of k2) hw ?_
  walk_at "stp"
  refine m2_i hy ?_
  walk_at "stp"
  refine m2_i hm ?_
  exact q _ _ (Int.emod_nonneg _ (by omega)) (Int.emod_lt_of_pos _ hm) (s1.trans s2)
end
section
variable {P : Program} {w : World} {K : PySem.W.Frag} {mg : Str → Option Value} {base : Heap} {t : Ad}
theorem same_put {H H1 : Hp} {p : Addr} {o : HO} (s : Same H H1) (h : H p = none) : Same H (upd H1 p o) := fun a x hx => by
  rw [upd_ne (fun e => by rw [e, h] at hx; cases hx)]
  exact s a x hx
theorem ts_lst {H : Hp} {p : Addr} {xs : List V} {o : HO} (h : H p = some (.lst xs)) : TS H (upd H p o) := TS.upd fun ys e => by rw [h] at e; cases e
theorem ts_dT {H : Hp} {p : Addr} {xs : List (W × V)} {o : HO} (h : H p = some (.dT xs)) : TS H (upd H p o) := TS.upd fun ys e => by rw [h] at e; cases e
theorem fm_snoc {α β : Type} {f : α → Option β} {l : List α} {i : Nat} (h : i < l.length) : (l.take (i + 1)).filterMap f = (l.take i).filterMap f ++ (f l[i]).toList := by
  rw [take_snoc h, List.filterMap_append]
  cases e : f l[i] <;> simp [e]
theorem map_snoc {as : List Addr} {a : Addr} : as.map V.ref ++ [.ref a] = (as ++ [a]).map V.ref := by simp
noncomputable def isN (sg : Str) : Bool := called sg smallS && !decide (sg ∈ [keepS, notS])
theorem isN_wd {s : Str} (h : Wd s) : isN s = true := by
  unfold isN
  rw [h.cl, decide_eq_false (by simp [h.kp, h.nt])]; decide
theorem isN_not : isN notS = false := by decide +kernel
theorem isN_keep : isN keepS = false := by decide +kernel
theorem isN_eq : isN eqS = false := by decide +kernel
theorem Each.snoc_app {R : Addr → Eg W → Prop} {as : List Addr} {L M : List (Eg W)} {a : Addr} {e : Eg W} (h : Each R as (L ++ M)) (k : R a e) : Each R (as ++ [a]) (L ++ (M ++ [e])) := by
  rw [← List.append_assoc]
  exact h.snoc k
theorem ok_leanings_of (T : Txt K mg t) (G_is_named : FnOk P w K mg base CX0 4 t.a_is_named t.d_is_named ["term"] (sp_is_named)) (G_word_of : FnOk P w K mg base CX0 1 t.a_word_of t.d_word_of ["goal"] (sp_word_of)) : FnOk P w K mg base CX0 5 t.a_leanings_of t.d_leanings_of ["rules"] (sp_leanings_of) := by
  refine T.F_leanings_of.ok sc_leanings_of (fun vs H Q E h => ?_) (fun cdv A outer s H vs Q E hr h => ?_)
  · unfold sp_leanings_of at h
    split at h
    · rfl
    · exact h.elim
  unfold sp_leanings_of at h
  split at h
  rotate_left
  · exact h.elim
  refine ⟨_, (pss_cons (ps_set (i := 1) (hs := sw_lst) sc_leanings_of.nd rfl (by first | exact Or.inl rfl | exact Or.inr rfl) (pe_lst pa_nil)) (pss_cons (ps_for PassesOwn.never rfl (kpi_list K rfl (mv 0)) (pg_name (i := 2) sc_leanings_of.nd rfl (by first | exact Or.inl rfl | exact Or.inr rfl)) (pss_one (ps_for PassesOwn.never rfl (kpi_tup K rfl (pe_ix (ki_seq K rfl) (mv 2) pe_int (fun _ _ => rfl))) (pg_name (i := 3) sc_leanings_of.nd rfl (by first | exact Or.inl rfl | exact Or.inr rfl)) (pss_one (ps_if (kt_tru K rfl (pe_call G_is_named (hr.mono (by first | decide | omega)) rfl T.m_is_named T.F_is_named.kp T.b_is_named .nil pass0 (pa_con (mv 3) pa_nil))) (pss_one (ps_expr (ke_bm K rfl PySem.F.plainAttrs_list PySem.F.slot_list_append PySem.F.type_list_append mm_append (mv 1) (pa_con (pe_tup (pa_con (pe_call G_word_of (hr.mono (by first | decide | omega)) rfl T.m_word_of T.F_word_of.kp T.b_word_of .nil pass0 (pa_con (pe_ix (ki_seq K rfl) (mv 2) pe_int (fun _ _ => rfl)) pa_nil)) (pa_con (pe_call G_word_of (hr.mono (by first | decide | omega)) rfl T.m_word_of T.F_word_of.kp T.b_word_of .nil pass0 (pa_con (mv 3) pa_nil)) (pa_con pe_int pa_nil)))) pa_nil)))) (pss_one (ps_if (mt_cmp mo_eq (pe_ix (ki_seq K rfl) (mv 3) pe_int (fun _ _ => rfl)) (pe_gstr rfl T.m_NOT) (nomark _)) (pss_one (ps_expr (ke_bm K rfl PySem.F.plainAttrs_list PySem.F.slot_list_append PySem.F.type_list_append mm_append (mv 1) (pa_con (pe_tup (pa_con (pe_call G_word_of (hr.mono (by first | decide | omega)) rfl T.m_word_of T.F_word_of.kp T.b_word_of .nil pass0 (pa_con (pe_ix (ki_seq K rfl) (mv 2) pe_int (fun _ _ => rfl)) pa_nil)) (pa_con (pe_call G_word_of (hr.mono (by first | decide | omega)) rfl T.m_word_of T.F_word_of.kp T.b_word_of .nil pass0 (pa_con (pe_ix (ki_seq K rfl) (pe_ix (ki_seq K rfl) (mv 3) pe_int (fun _ _ => rfl)) pe_int (fun _ _ => rfl)) pa_nil)) (pa_con pe_int pa_nil)))) pa_nil)))) pss_nil))))))) (pss_one (ps_ret (mv 1))))), ?_⟩
  rename_i l
  obtain ⟨qs, R, hR, q⟩ := h
  have hE := hR.ea
  have hF := hR.few
  walk_at "stp"
  refine ⟨ln (by show 0 ≤ 100000; decide), fun pf hpf => ?_⟩
  have s1 := same_new hpf (.lst [])
  have k1 : (upd H pf (.lst [])) pf = some (.lst []) := upd_same
  generalize upd H pf (.lst []) = H1 at s1 k1 ⊢
  walk_at "stp"
  refine ⟨l, rfl, ⟨_, SqL.of (s1 _ _ hR.ls)⟩, ?_⟩
  refine for_row (row_list (xs := qs.map V.ref)) (fun i σ' Hi => ∃ (o2 o3 : Option V) (as : List Addr), σ' = [some (.ref l), some (.ref pf), o2, o3] ∧ Same H Hi ∧ Hi pf = some (.lst (as.map V.ref)) ∧ Each (LnAt Hi) as (eds (R.take i)))
    ⟨none, none, [], rfl, s1, k1, .nil⟩ (fun i σ' Hi hP => ?_) (fun i σ' Hi hi hP => ?_) (fun σ' Hi hP => ?_)
  · obtain ⟨o2, o3, as, rfl, sHi, lsi, eai⟩ := hP
    exact SqL.of (sHi _ _ hR.ls)
  · obtain ⟨o2, o3, as, rfl, sHi, lsi, eai⟩ := hP
    rw [List.length_map, hE.1] at hi
    obtain ⟨a, ha, _, ru⟩ := hE.at hi
    rw [ha]
    obtain ⟨⟨⟨s0, n0⟩, gs⟩, hr0⟩ : ∃ r, R[i] = r := ⟨_, rfl⟩
    rw [hr0] at ru
    obtain ⟨ph, pg, gas, r1, r2, r3, r4, r5⟩ := ru
    have hgs : gs.length ≤ 3 := by
      have := hF.2 R[i] (List.getElem_mem hi)
      rw [hr0] at this
      exact this
    have hL : (eds (R.take i)).length ≤ 3 * 12 := by
      have h1 := eds_le (R := R.take i) fun r hr => hF.2 r (List.mem_of_mem_take hr)
      have h2 : (R.take i).length ≤ 12 := by rw [List.length_take]; have := hF.1; omega
      omega
    walk_at "stp"
    refine mIx_t (SqT.of (sHi _ _ r1)) (v := .ref pg) rfl ?_
    refine ⟨pg, rfl, ⟨_, SqT.of (sHi _ _ r4)⟩, ?_⟩
    refine for_row (row_tup (xs := gas.map V.ref)) (fun j σ' Hj => ∃ (o3 : Option V) (as : List Addr), σ' = [some (.ref l), some (.ref pf), some (.ref a), o3] ∧ Same H Hj ∧ Hj pf = some (.lst (as.map V.ref)) ∧ Each (LnAt Hj) as (eds (R.take i) ++ (gs.take j).filterMap (edG (nd s0 n0))))
      ⟨o3, as, rfl, sHi, lsi, by simpa using eai⟩ (fun j σ' Hj hP => ?_) (fun j σ' Hj hj hP => ?_) (fun σ' Hj hP => ?_)
    · obtain ⟨o3, as, rfl, sHj, lsj, eaj⟩ := hP
      exact SqT.of (sHj _ _ r4)
    · obtain ⟨o3, as, rfl, sHj, lsj, eaj⟩ := hP
      rw [List.length_map, r5.1] at hj
      obtain ⟨b0, hb, _, gk⟩ := r5.at hj
      rw [hb]
      have hz : (eds (R.take i) ++ (gs.take j).filterMap (edG (nd s0 n0))).length ≤ 39 := by
        have h1 := List.length_filterMap_le (edG (nd s0 n0)) (gs.take j)
        have h2 : (gs.take j).length ≤ 3 := by rw [List.length_take]; omega
        rw [List.length_append]
        omega
      cases hg : gs[j] with
      | pos s n =>
        rw [hg] at gk
        obtain ⟨wd, ap⟩ := gk
        have ap' := ap
        obtain ⟨pa, xs, g1, g2, g3⟩ := ap
        walk_at "stp"
        refine ⟨s, pa, sHj _ _ g1, wd.ln, fun J1 t1 => ?_⟩
        rw [show (called s smallS && !decide (s ∈ [keepS, notS])) = true from isN_wd wd]
        walk_at "stp"
        refine iteT ?_
        walk_at "stp"
        refine ⟨.inl ⟨rfl, _, SqL.of (t1 _ _ lsj)⟩, ?_⟩
        walk_at "stp"
        refine mIx_t (SqT.of ((sHj.trans t1) _ _ r1)) (v := .ref ph) rfl ?_
        walk_at "stp"
        refine ⟨s0, n0, r3.mono (.of (sHj.trans t1)), fun pu J2 t2 k2 => ?_⟩
        walk_at "stp"
        refine ⟨s, n, ap'.mono (.of (sHj.trans (t1.trans t2))), fun pv J3 t3 k3 => ?_⟩
        walk_at "stp"
        refine ⟨ln (by show 3 ≤ 100000; decide), fun p9 hp9 => ?_⟩
        have s9 := same_new hp9 (.tup [.ref pu, .ref pv, .int 0])
        have k9 : (upd J3 p9 (.tup [.ref pu, .ref pv, .int 0])) p9 = some (.tup [.ref pu, .ref pv, .int 0]) := upd_same
        generalize upd J3 p9 (.tup [.ref pu, .ref pv, .int 0]) = H9 at s9 k9 ⊢
        have sA := (t1.trans (t2.trans t3)).trans s9
        walk_at "stp"
        refine mAppend_i (sA _ _ lsj) (ln (by rw [List.length_map, eaj.1]; omega)) ?_
        walk_at "stp"
        refine ⟨_, as ++ [p9], rfl, same_put (sHj.trans sA) hpf, by rw [upd_same, map_snoc], ?_⟩
        have tt : TS Hj (upd H9 pf (.lst (as.map V.ref ++ [.ref p9]))) := (TS.of sA).trans (ts_lst (sA _ _ lsj))
        rw [fm_snoc hj, hg]
        refine (eaj.imp fun _ _ z => z.mono tt).snoc_app ?_
        exact ⟨pu, pv, (ts_lst (sA _ _ lsj)) _ _ k9, (ts_lst (sA _ _ lsj)) _ _ (s9 _ _ (t3 _ _ k2)), (ts_lst (sA _ _ lsj)) _ _ (s9 _ _ k3)⟩
      | neg s n =>
        rw [hg] at gk
        obtain ⟨wd, pa, b1, g1, g2, ap⟩ := gk
        walk_at "stp"
        refine ⟨notS, pa, sHj _ _ g1, by decide +kernel, fun J1 t1 => ?_⟩
        rw [show (called notS smallS && !decide (notS ∈ [keepS, notS])) = false from isN_not]
        walk_at "stp"
        refine iteF ?_
        walk_at "stp"
        refine mIx_t (SqT.of ((sHj.trans t1) _ _ g1)) (v := .str notS) rfl ?_
        walk_at "stp"
        refine iteB (fun e => ?_) (fun e => absurd e (by decide +kernel))
        walk_at "stp"
        refine ⟨.inl ⟨rfl, _, SqL.of (t1 _ _ lsj)⟩, ?_⟩
        walk_at "stp"
        refine mIx_t (SqT.of ((sHj.trans t1) _ _ r1)) (v := .ref ph) rfl ?_
        walk_at "stp"
        refine ⟨s0, n0, r3.mono (.of (sHj.trans t1)), fun pu J2 t2 k2 => ?_⟩
        walk_at "stp"
        refine mIx_t (SqT.of ((sHj.trans (t1.trans t2)) _ _ g1)) (v := .ref pa) rfl ?_
        walk_at "stp"
        refine mIx_t (SqT.of ((sHj.trans (t1.trans t2)) _ _ g2)) (v := .ref b1) rfl ?_
        walk_at "stp"
        refine ⟨s, n, ap.mono (.of (sHj.trans (t1.trans t2))), fun pv J3 t3 k3 => ?_⟩
        walk_at "stp"
        refine ⟨ln (by show 3 ≤ 100000; decide), fun p9 hp9 => ?_⟩
        have s9 := same_new hp9 (.tup [.ref pu, .ref pv, .int 1])
        have k9 : (upd J3 p9 (.tup [.ref pu, .ref pv, .int 1])) p9 = some (.tup [.ref pu, .ref pv, .int 1]) := upd_same
        generalize upd J3 p9 (.tup [.ref pu, .ref pv, .int 1]) = H9 at s9 k9 ⊢
        have sA := (t1.trans (t2.trans t3)).trans s9
        walk_at "stp"
        refine mAppend_i (sA _ _ lsj) (ln (by rw [List.length_map, eaj.1]; omega)) ?_
        walk_at "stp"
        refine ⟨_, as ++ [p9], rfl, same_put (sHj.trans sA) hpf, by rw [upd_same, map_snoc], ?_⟩
        have tt : TS Hj (upd H9 pf (.lst (as.map V.ref ++ [.ref p9]))) := (TS.of sA).trans (ts_lst (sA _ _ lsj))
        rw [fm_snoc hj, hg]
        refine (eaj.imp fun _ _ z => z.mono tt).snoc_app ?_
        exact ⟨pu, pv, (ts_lst (sA _ _ lsj)) _ _ k9, (ts_lst (sA _ _ lsj)) _ _ (s9 _ _ (t3 _ _ k2)), (ts_lst (sA _ _ lsj)) _ _ (s9 _ _ k3)⟩
      | keep =>
        rw [hg] at gk
        obtain ⟨pa, g1⟩ := gk
        walk_at "stp"
        refine ⟨keepS, pa, sHj _ _ g1, by decide +kernel, fun J1 t1 => ?_⟩
        rw [show (called keepS smallS && !decide (keepS ∈ [keepS, notS])) = false from isN_keep]
        walk_at "stp"
        refine iteF ?_
        walk_at "stp"
        refine mIx_t (SqT.of ((sHj.trans t1) _ _ g1)) (v := .str keepS) rfl ?_
        walk_at "stp"
        refine iteB (fun e => absurd e (by decide +kernel)) (fun e => ?_)
        walk_at "stp"
        exact ⟨_, as, rfl, sHj.trans t1, t1 _ _ lsj, by rw [fm_snoc hj, hg]; show Each _ _ (_ ++ (_ ++ [])); rw [List.append_nil]; exact eaj.imp fun _ _ z => z.mono (.of t1)⟩
      | eqs =>
        rw [hg] at gk
        obtain ⟨pa, g1⟩ := gk
        walk_at "stp"
        refine ⟨eqS, pa, sHj _ _ g1, by decide +kernel, fun J1 t1 => ?_⟩
        rw [show (called eqS smallS && !decide (eqS ∈ [keepS, notS])) = false from isN_eq]
        walk_at "stp"
        refine iteF ?_
        walk_at "stp"
        refine mIx_t (SqT.of ((sHj.trans t1) _ _ g1)) (v := .str eqS) rfl ?_
        walk_at "stp"
        refine iteB (fun e => absurd e (by decide +kernel)) (fun e => ?_)
        walk_at "stp"
        exact ⟨_, as, rfl, sHj.trans t1, t1 _ _ lsj, by rw [fm_snoc hj, hg]; show Each _ _ (_ ++ (_ ++ [])); rw [List.append_nil]; exact eaj.imp fun _ _ z => z.mono (.of t1)⟩
    · obtain ⟨o3, as, rfl, sHj, lsj, eaj⟩ := hP
      rw [List.length_map, r5.1, List.take_length] at eaj
      walk_at "stp"
      refine ⟨_, _, as, rfl, sHj, lsj, ?_⟩
      rw [take_snoc hi, eds_snoc, hr0]
      exact eaj
  · obtain ⟨o2, o3, as, rfl, sHi, lsi, eai⟩ := hP
    rw [List.length_map, hE.1, List.take_length] at eai
    walk_at "stp"
    have := eds_le hF.2
    have := hF.1
    exact q pf as _ sHi ⟨lsi, eai, by omega⟩
end
section
variable {P : Program} {w : World} {K : PySem.W.Frag} {mg : Str → Option Value} {base : Heap} {t : Ad}
structure Bf (H : Hp) (L : List (Eg W)) (u : W) (ks : List W) (f : W → V) (rk : W → Nat) : Prop where
  hu : u ∈ ks
  nod : ks.Nodup
  par : ∀ x ∈ ks, x ≠ u → ∃ a p c, f x = .ref a ∧ H a = some (.tup (p.map kV)) ∧ p ∈ ks ∧ (p, x, c) ∈ L ∧ rk p < rk x
  few : ∀ x ∈ ks, x = u ∨ ∃ w c, (w, x, c) ∈ L
theorem Bf.len {H : Hp} {L : List (Eg W)} {u : W} {ks : List W} {f : W → V} {rk : W → Nat} (h : Bf H L u ks f rk) : ks.length ≤ L.length + 1 := by
  have := nodup_len (l := ks) (m := u :: L.map (·.2.1)) h.nod fun x hx => by
    rcases h.few x hx with z | ⟨w, c, z⟩
    · rw [z]; exact List.mem_cons_self ..
    · exact List.mem_cons_of_mem _ (List.mem_map.mpr ⟨_, z, rfl⟩)
  simpa using this
theorem Bf.mono {H H' : Hp} {L : List (Eg W)} {u : W} {ks : List W} {f : W → V} {rk : W → Nat} (h : Bf H L u ks f rk) (t : TS H H') : Bf H' L u ks f rk := ⟨h.hu, h.nod, fun x hx hn => by
  obtain ⟨a, p, c, h1, h2, h3⟩ := h.par x hx hn
  exact ⟨a, p, c, h1, t _ _ h2, h3⟩, h.few⟩
theorem Bf.add {H : Hp} {L : List (Eg W)} {u : W} {ks : List W} {f : W → V} {rk : W → Nat} (h : Bf H L u ks f rk) {x p : W} {c : Bool} {a : Addr} (hx : x ∉ ks) (hp : p ∈ ks) (he : (p, x, c) ∈ L) (ha : H a = some (.tup (p.map kV))) : Bf H L u (ks ++ [x]) (fset f x (.ref a)) (fset rk x (rk p + 1)) := by
  have ne : ∀ y ∈ ks, y ≠ x := fun y hy e => hx (by rw [← e]; exact hy)
  refine ⟨List.mem_append_left _ h.hu, ?_, fun y hy hn => ?_, fun y hy => ?_⟩
  · rw [List.nodup_append]
    exact ⟨h.nod, by simp, fun y hy z hz e => ne y hy (by rw [List.mem_singleton] at hz; rw [e, hz])⟩
  · rcases List.mem_append.mp hy with z | z
    · obtain ⟨b, q, d, h1, h2, h3, h4, h5⟩ := h.par y z hn
      exact ⟨b, q, d, by rw [fset_ne (ne y z)]; exact h1, h2, List.mem_append_left _ h3, h4, by rw [fset_ne (ne y z), fset_ne (ne q h3)]; exact h5⟩
    · rw [List.mem_singleton] at z
      subst z
      exact ⟨a, p, c, fset_same .., ha, List.mem_append_left _ hp, he, by rw [fset_same, fset_ne (ne p hp)]; omega⟩
  · rcases List.mem_append.mp hy with z | z
    · exact h.few y z
    · rw [List.mem_singleton] at z
      subst z
      exact .inr ⟨p, c, he⟩
noncomputable abbrev refs (ts : List (W × Addr)) : List V := ts.map fun q => .ref q.2
noncomputable def Dn (L : List (Eg W)) (ks : List W) (ts : List (W × Addr)) (but : Option W) : Prop := ∀ x ∈ ks, x ∉ ts.map (·.1) → but ≠ some x → ∀ y c, (x, y, c) ∈ L → y ∈ ks
theorem Dn.reach {L : List (Eg W)} {ks : List W} (h : Dn L ks [] none) {u v : W} (r : Rch L u v) : u ∈ ks → v ∈ ks := by
  induction r with
  | refl => exact id
  | step a _ ih => exact fun hu => ih (h _ hu (by simp) (by simp) _ _ a)
theorem atI0 {x : V} {r : List V} : atI (x :: r) 0 = some x := by
  obtain ⟨v, e1, e2⟩ := atI_lt (xs := x :: r) (i := 0) (by omega) (by rw [List.length_cons]; omega)
  rw [e1]
  simpa using e2.symm
theorem none_of {H H1 : Hp} {p : Addr} (s : Same H H1) (h : H1 p = none) : H p = none := by
  cases e : H p with
  | none => rfl
  | some o => rw [s _ _ e] at h; cases h
theorem ok_row_between (T : Txt K mg t)  : FnOk P w K mg base CX0 1 t.a_row_between t.d_row_between ["first", "last", "leanings"] (sp_row_between) := by
  refine T.F_row_between.ok sc_row_between (fun vs H Q E h => ?_) (fun cdv A outer s H vs Q E hr h => ?_)
  · unfold sp_row_between at h
    split at h
    · rfl
    · exact h.elim
  unfold sp_row_between at h
  split at h
  rotate_left
  · exact h.elim
  refine ⟨_, (pss_cons (ps_set (i := 3) sc_row_between.nd rfl (by first | exact Or.inl rfl | exact Or.inr rfl) (pe_dispT (room150 hr) (mv 0) pe_non)) (pss_cons (ps_set (i := 4) (hs := sw_lst) sc_row_between.nd rfl (by first | exact Or.inl rfl | exact Or.inr rfl) (pe_lst (pa_con (mv 0) pa_nil))) (pss_cons (ps_while PassesOwn.never (PW.pt (pw_and (kt_tru K rfl (mv 4)) (pw_and1 (mt_cmp (ko_ninD (hu_of hr)) (mv 1) (mv 3) (by with_unfolding_all rfl))))) (pss_cons (ps_set (i := 5) (hs := sw_call) sc_row_between.nd rfl (by first | exact Or.inl rfl | exact Or.inr rfl) (ke_bm K rfl PySem.F.plainAttrs_list PySem.F.slot_list_pop PySem.F.type_list_pop mm_pop0 (mv 4) (pa_con pe_int pa_nil))) (pss_one (ps_for PassesOwn.never rfl (kpi_list K rfl (mv 2)) (pg_name (i := 6) sc_row_between.nd rfl (by first | exact Or.inl rfl | exact Or.inr rfl)) (pss_one (ps_if (PW.pt (pw_and (mt_cmp (ko_eqKs K rfl (room150 hr)) (pe_ix (ki_seq K rfl) (mv 6) pe_int (fun _ _ => rfl)) (mv 5) (nomark _)) (pw_and1 (mt_cmp (ko_ninD (hu_of hr)) (pe_ix (ki_seq K rfl) (mv 6) pe_int (fun _ _ => rfl)) (mv 3) (by with_unfolding_all rfl))))) (pss_cons (ps_dput (hu_of hr) (mv 3) (pe_ix (ki_seq K rfl) (mv 6) pe_int (fun _ _ => rfl)) (mv 5) rfl) (pss_one (ps_expr (ke_bm K rfl PySem.F.plainAttrs_list PySem.F.slot_list_append PySem.F.type_list_append mm_append (mv 4) (pa_con (pe_ix (ki_seq K rfl) (mv 6) pe_int (fun _ _ => rfl)) pa_nil))))) pss_nil)))))) (pss_cons (ps_set (i := 7) sc_row_between.nd rfl (by first | exact Or.inl rfl | exact Or.inr rfl) (pe_ifExp (mt_cmp (ko_inD (hu_of hr)) (mv 1) (mv 3) (by with_unfolding_all rfl)) (pe_lst (pa_con (mv 1) pa_nil)) (pe_lst pa_nil))) (pss_cons (ps_while PassesOwn.never (PW.pt (pw_and (kt_tru K rfl (mv 7)) (pw_and1 (mt_cmp (ko_neKs K rfl (room150 hr)) (pe_ix (ki_seq K rfl) (mv 7) pe_int (fun _ _ => rfl)) (mv 0) (nomark _))))) (pss_one (ps_expr (ke_bm K rfl PySem.F.plainAttrs_list PySem.F.slot_list_insert PySem.F.type_list_insert mm_insert (mv 7) (pa_con pe_int (pa_con (pe_dget (hu_of hr) (mv 3) (pe_ix (ki_seq K rfl) (mv 7) pe_int (fun _ _ => rfl)) (fun _ _ => rfl)) pa_nil)))))) (pss_one (ps_ret (mv 7)))))))), ?_⟩
  rename_i a b l
  obtain ⟨u, v, as, L, ha, hb, hL, q0, q1⟩ := h
  have hE := hL.ea
  walk_at "stp"
  refine tDispT_i fun pb hpb => ?_
  have s1 := same_new hpb (.dT [])
  have k1 : (upd H pb (.dT [])) pb = some (.dT []) := upd_same
  generalize upd H pb (.dT []) = H1 at s1 k1 ⊢
  walk_at "stp"
  refine ⟨k1, u, a, rfl, s1 _ _ ha, ?_⟩
  have s2 := same_put (o := .dT [(u, .non)]) s1 hpb
  have k2 : (upd H1 pb (.dT [(u, .non)])) pb = some (.dT (dOf [u] fun _ => .non)) := upd_same
  generalize upd H1 pb (.dT [(u, .non)]) = H2 at s2 k2 ⊢
  walk_at "stp"
  refine ⟨ln (by show 1 ≤ 100000; decide), fun pt hpt2 => ?_⟩
  have hpt := none_of s2 hpt2
  have s23 := same_new hpt2 (.lst [.ref a])
  have s3 := s2.trans s23
  have k3 : (upd H2 pt (.lst [.ref a])) pt = some (.lst (refs [(u, a)])) := upd_same
  generalize upd H2 pt (.lst [.ref a]) = H3 at s23 s3 k3 ⊢
  have k2 := s23 _ _ k2
  walk_at "stp"
  refine while_row (fun m σ' Hi => ∃ (o5 o6 : Option V) (ts : List (W × Addr)) (ks : List W) (f : W → V) (rk : W → Nat), σ' = [some (.ref a), some (.ref b), some (.ref l), some (.ref pb), some (.ref pt), o5, o6, none] ∧ Same H Hi ∧ Hi pb = some (.dT (dOf ks f)) ∧ Hi pt = some (.lst (refs ts)) ∧ (∀ q ∈ ts, Hi q.2 = some (.tup (q.1.map kV)) ∧ q.1 ∈ ks) ∧ Bf Hi L u ks f rk ∧ Dn L ks ts none ∧ 2 * (L.length + 1 - ks.length) + ts.length ≤ 2 * L.length + 1 ∧ m = 2 * (L.length + 1 - ks.length) + ts.length) _
    ⟨none, none, [(u, a)], [u], fun _ => .non, fun _ => 0, rfl, s3, k2, k3, fun q hq => (by rw [List.mem_singleton] at hq; subst hq; exact ⟨s3 _ _ ha, by simp⟩), ⟨by simp, by simp, fun x hx hn => absurd (by simpa using hx) hn, fun x hx => .inl (by simpa using hx)⟩, fun x hx hn => absurd hx (by simpa using hn), by simp, rfl⟩ (fun m σ' Hi R hP kT kF => ?_)
  obtain ⟨o5, o6, ts, ks, f, rk, rfl, sHi, kb, kt, hts, bf, dn, hm, rfl⟩ := hP
  have hv := sHi _ _ hb
  walk_at "stp"
  refine .inl ⟨_, SqL.of kt, ?_⟩
  have fin : (v ∉ ks → ts = []) → R false Hi := fun hvk => by
    refine kF _ ?_
    walk_at "stp"
    refine ⟨pb, _, rfl, .t kb hv, ?_⟩
    by_cases hin : v ∈ ks
    · rw [valV_in hin]
      walk_at "stp"
      refine iteT ?_
      walk_at "stp"
      refine ⟨ln (by show 1 ≤ 100000; decide), fun pr hpr => ?_⟩
      have sr := same_new hpr (.lst [.ref b])
      have kr : (upd Hi pr (.lst [.ref b])) pr = some (.lst (refs [(v, b)])) := upd_same
      have hpr0 := none_of sHi hpr
      generalize upd Hi pr (.lst [.ref b]) = H4 at sr kr ⊢
      walk_at "stp"
      refine while_row (fun m σ' Hj => ∃ (x : W × Addr) (qs : List (W × Addr)), σ' = [some (.ref a), some (.ref b), some (.ref l), some (.ref pb), some (.ref pt), o5, o6, some (.ref pr)] ∧ Same H Hj ∧ TS H4 Hj ∧ Hj pb = some (.dT (dOf ks f)) ∧ Hj pr = some (.lst (refs (x :: qs))) ∧ (∀ q ∈ x :: qs, Hj q.2 = some (.tup (q.1.map kV))) ∧ (∀ q ∈ x :: qs, q.1 ∈ ks) ∧ Chn L ((x :: qs).map (·.1)) ∧ ((x :: qs).map (·.1)).Pairwise (fun y z => rk y < rk z) ∧ ((x :: qs).map (·.1)).getLast? = some v ∧ m = rk x.1) _
        ⟨(v, b), [], rfl, sHi.trans sr, .refl _, sr _ _ kb, kr, fun q hq => (by rw [List.mem_singleton] at hq; subst hq; exact sr _ _ hv), fun q hq => (by rw [List.mem_singleton] at hq; subst hq; exact hin), .one _, by simp, rfl, rfl⟩ (fun m σ' Hj R2 hP kT2 kF2 => ?_)
      obtain ⟨x, qs, rfl, sj, tj, kbj, krj, tpj, inj, ch, pw, la, rfl⟩ := hP
      have xin := inj x (List.mem_cons_self ..)
      have nod : ((x :: qs).map (·.1)).Nodup := pw.imp fun {y z} h e => by rw [e] at h; exact Nat.lt_irrefl _ h
      walk_at "stp"
      refine .inl ⟨_, SqL.of krj, ?_⟩
      show if (true : Bool) = true then _ else _
      refine iteT ?_
      walk_at "stp"
      refine mIx_l (SqL.of krj) (v := .ref x.2) atI0 ?_
      walk_at "stp"
      refine ⟨x.2, x.1, rfl, SqT.of (tpj x (List.mem_cons_self ..)), .inr ⟨a, u, rfl, SqT.of (sj _ _ ha), ?_⟩⟩
      walk_at "stp"
      by_cases hxu : x.1 = u
      · rw [show (!decide (x.1 = u)) = false by simp [hxu]]
        refine kF2 _ ?_
        walk_at "stp"
        exact q1 pr (x :: qs) _ sj ⟨krj, tpj, ch, nod, by rw [List.map_cons, List.head?_cons, hxu], la⟩
      · rw [show (!decide (x.1 = u)) = true by simp [hxu]]
        refine kT2 _ fun D' e1 e2 hnx hct => ?_
        obtain ⟨pa, p, c, g1, g2, g3, g4, g5⟩ := bf.par x.1 xin hxu
        walk_at "stp"
        refine ⟨.inl ⟨rfl, _, SqL.of krj⟩, ?_⟩
        walk_at "stp"
        refine mIx_l (SqL.of krj) (v := .ref x.2) atI0 ?_
        refine ⟨pb, f x.1, rfl, by rw [← valV_in xin]; exact .t kbj (tpj x (List.mem_cons_self ..)), ?_⟩
        rw [g1]
        walk_at "stp"
        have hlen : (x :: qs).length ≤ 101 := by
          have h1 := bf.len
          have h2 := nodup_len nod (m := ks) fun y hy => by
            obtain ⟨q, hq, e⟩ := List.mem_map.mp hy
            rw [← e]
            exact inj q hq
          have h3 := hL.few
          rw [List.length_map] at h2
          omega
        refine mIns_i krj (by decide) (by simp) (by rw [List.length_map]; omega) ?_
        walk_at "stp"
        have tt : TS Hj (upd Hj pr (.lst (refs ((p, pa) :: x :: qs)))) := ts_lst krj
        have npb : pb ≠ pr := fun e => by rw [e, krj] at kbj; cases kbj
        refine hnx _ _ (rk p) g5 ⟨(p, pa), x :: qs, rfl, same_put sj hpr0, tj.trans tt, by rw [upd_ne npb]; exact kbj, upd_same, fun q hq => ?_, fun q hq => ?_, .cons g4 ch, ?_, ?_, rfl⟩
        · rcases List.mem_cons.mp hq with e | e
          · rw [e]; exact (tj.trans tt) _ _ (sr _ _ g2)
          · exact tt _ _ (tpj q e)
        · rcases List.mem_cons.mp hq with e | e
          · rw [e]; exact g3
          · exact inj q e
        · rw [List.map_cons, List.pairwise_cons]
          refine ⟨fun y hy => ?_, pw⟩
          rw [List.map_cons] at hy pw
          rcases List.mem_cons.mp hy with e | e
          · rw [e]; exact g5
          · exact Nat.lt_trans g5 (List.rel_of_pairwise_cons pw e)
        · rw [List.map_cons, List.map_cons, List.getLast?_cons_cons]; exact la
    · rw [valV_out hin]
      walk_at "stp"
      refine iteF ?_
      walk_at "stp"
      refine ⟨ln (by show 0 ≤ 100000; decide), fun pr hpr => ?_⟩
      have sr := same_new hpr (.lst [])
      have kr : (upd Hi pr (.lst [])) pr = some (.lst []) := upd_same
      generalize upd Hi pr (.lst []) = H4 at sr kr ⊢
      walk_at "stp"
      refine while_row (fun m σ' Hj => Hj = H4 ∧ σ' = [some (.ref a), some (.ref b), some (.ref l), some (.ref pb), some (.ref pt), o5, o6, some (.ref pr)]) 0 ⟨rfl, rfl⟩ (fun m σ' Hj R2 hP kT2 kF2 => ?_)
      obtain ⟨rfl, rfl⟩ := hP
      walk_at "stp"
      refine .inl ⟨_, SqL.of kr, ?_⟩
      show if (false : Bool) = true then _ else _
      refine iteF ?_
      refine kF2 _ ?_
      walk_at "stp"
      refine q0 pr _ (sHi.trans sr) kr fun r => hin ?_
      have e := hvk hin
      subst e
      exact dn.reach r bf.hu
  cases ts with
  | nil => exact fin fun _ => rfl
  | cons x ts =>
    show if (true : Bool) = true then _ else _
    refine iteT ?_
    walk_at "stp"
    refine ⟨pb, _, rfl, .t kb hv, ?_⟩
    walk_at "stp"
    by_cases hin : v ∈ ks
    · rw [valV_in hin]
      exact fin fun z => absurd hin z
    rw [valV_out hin]
    refine kT _ fun D' e1 e2 hnx hct => ?_
    walk_at "stp"
    refine ⟨.inl ⟨rfl, _, SqL.of kt⟩, ?_⟩
    walk_at "stp"
    refine ⟨pt, _, _, rfl, rfl, kt, ?_⟩
    have sp := same_put (o := .lst (refs ts)) sHi hpt
    have tp := ts_lst (o := .lst (refs ts)) kt
    have npb : pb ≠ pt := fun e => by rw [e, kt] at kb; cases kb
    have kbp : (upd Hi pt (.lst (refs ts))) pb = some (.dT (dOf ks f)) := by rw [upd_ne npb]; exact kb
    have ktp : (upd Hi pt (.lst (refs ts))) pt = some (.lst (refs ts)) := upd_same
    have hx := hts x (List.mem_cons_self ..)
    have kx := tp _ _ hx.1
    have htp : ∀ q ∈ ts, (upd Hi pt (.lst (refs ts))) q.2 = some (.tup (q.1.map kV)) ∧ q.1 ∈ ks := fun q hq => ⟨tp _ _ (hts q (List.mem_cons_of_mem _ hq)).1, (hts q (List.mem_cons_of_mem _ hq)).2⟩
    have bfp := bf.mono tp
    generalize upd Hi pt (.lst (refs ts)) = Hp at sp tp kbp ktp kx htp bfp ⊢
    walk_at "stp"
    refine ⟨l, rfl, ⟨_, SqL.of (sp _ _ hL.ls)⟩, ?_⟩
    refine for_row (row_list (xs := as.map V.ref)) (fun j σ' Hj => ∃ (o6 : Option V) (ts2 : List (W × Addr)) (ks2 : List W) (f2 : W → V) (rk2 : W → Nat), σ' = [some (.ref a), some (.ref b), some (.ref l), some (.ref pb), some (.ref pt), some (.ref x.2), o6, none] ∧ Same H Hj ∧ Hj x.2 = some (.tup (x.1.map kV)) ∧ Hj pb = some (.dT (dOf ks2 f2)) ∧ Hj pt = some (.lst (refs ts2)) ∧ (∀ q ∈ ts2, Hj q.2 = some (.tup (q.1.map kV)) ∧ q.1 ∈ ks2) ∧ Bf Hj L u ks2 f2 rk2 ∧ x.1 ∈ ks2 ∧ Dn L ks2 ts2 (some x.1) ∧ (∀ i, i < j → ∀ y c, L[i]? = some (x.1, y, c) → y ∈ ks2) ∧ 2 * (L.length + 1 - ks2.length) + ts2.length ≤ 2 * (L.length + 1 - ks.length) + ts.length)
      ⟨o6, ts, ks, f, rk, rfl, sp, kx, kbp, ktp, htp, bfp, hx.2, ?_, fun i hi => absurd hi (Nat.not_lt_zero _), Nat.le_refl _⟩ (fun j σ' Hj hP => ?_) (fun j σ' Hj hj hP => ?_) (fun σ' Hj hP => ?_)
    · intro y hy hn hne z c he
      exact dn y hy (fun h => by rw [List.map_cons] at h; rcases List.mem_cons.mp h with e | e; exact hne (by rw [e]); exact hn e) (by simp) z c he
    · obtain ⟨o6, ts2, ks2, f2, rk2, rfl, sj, kxj, kbj, ktj, htj, bfj, xj, dj, pj, mj⟩ := hP
      exact SqL.of (sj _ _ hL.ls)
    · obtain ⟨o6, ts2, ks2, f2, rk2, rfl, sj, kxj, kbj, ktj, htj, bfj, xj, dj, pj, mj⟩ := hP
      rw [List.length_map, hE.1] at hj
      obtain ⟨c0, hc0, _, lna⟩ := hE.at hj
      rw [hc0]
      obtain ⟨⟨y1, y2, cc⟩, he0⟩ : ∃ e, L[j] = e := ⟨_, rfl⟩
      rw [he0] at lna
      obtain ⟨pu, pv, g1, g2, g3⟩ := lna.mono (.of sj)
      have heL : (y1, y2, cc) ∈ L := by rw [← he0]; exact List.getElem_mem hj
      have hgj : L[j]? = some (y1, y2, cc) := by rw [List.getElem?_eq_getElem hj, he0]
      walk_at "stp"
      refine mIx_t (SqT.of g1) (v := .ref pu) rfl ?_
      walk_at "stp"
      refine ⟨pu, x.2, y1, x.1, rfl, rfl, SqT.of g2, SqT.of kxj, ?_⟩
      walk_at "stp"
      have stay : (y1 = x.1 → y2 ∈ ks2) → ∀ i, i < j + 1 → ∀ y c, L[i]? = some (x.1, y, c) → y ∈ ks2 := fun hh i hi y c hy => by
        by_cases e : i = j
        · subst e
          rw [hgj] at hy
          cases hy
          exact hh rfl
        · exact pj i (by omega) y c hy
      refine iteB (fun e => ?_) (fun e => ?_)
      · have e : y1 = x.1 := of_decide_eq_true e
        walk_at "stp"
        refine mIx_t (SqT.of g1) (v := .ref pv) rfl ?_
        walk_at "stp"
        refine ⟨pb, _, rfl, .t kbj g3, ?_⟩
        walk_at "stp"
        by_cases hy : y2 ∈ ks2
        · rw [valV_in hy]
          refine iteF ?_
          walk_at "stp"
          exact ⟨_, ts2, ks2, f2, rk2, rfl, sj, kxj, kbj, ktj, htj, bfj, xj, dj, stay fun _ => hy, mj⟩
        · rw [valV_out hy]
          refine iteT ?_
          walk_at "stp"
          refine mIx_t (SqT.of g1) (v := .ref pv) rfl ?_
          refine ⟨pb, _, rfl, .t kbj g3 (ln (by rw [dOf_len]; have := bfj.len; have := hL.few; omega)), ?_⟩
          rw [put_out hy]
          subst e
          have s4 := same_put (o := .dT (dOf (ks2 ++ [y2]) (fset f2 y2 (.ref x.2)))) sj hpb
          have t4 := ts_dT (o := .dT (dOf (ks2 ++ [y2]) (fset f2 y2 (.ref x.2)))) kbj
          have kb4 : (upd Hj pb (.dT (dOf (ks2 ++ [y2]) (fset f2 y2 (.ref x.2))))) pb = some (.dT (dOf (ks2 ++ [y2]) (fset f2 y2 (.ref x.2)))) := upd_same
          have kt4 : (upd Hj pb (.dT (dOf (ks2 ++ [y2]) (fset f2 y2 (.ref x.2))))) pt = some (.lst (refs ts2)) := by rw [upd_ne (Ne.symm npb)]; exact ktj
          generalize upd Hj pb (.dT (dOf (ks2 ++ [y2]) (fset f2 y2 (.ref x.2)))) = J4 at s4 t4 kb4 kt4 ⊢
          walk_at "stp"
          refine ⟨.inl ⟨rfl, _, SqL.of kt4⟩, ?_⟩
          walk_at "stp"
          refine mIx_t (SqT.of (t4 _ _ g1)) (v := .ref pv) rfl ?_
          walk_at "stp"
          have hts2 : ts2.length ≤ 1000 := by have := hL.few; rw [List.length_cons] at hm; omega
          refine mAppend_i kt4 (ln (by rw [List.length_map]; omega)) ?_
          walk_at "stp"
          have t5 := t4.trans (ts_lst (o := .lst (refs ts2 ++ [.ref pv])) kt4)
          have bf5 := (bfj.mono t5).add hy xj heL (t5 _ _ kxj)
          have h5 := bf5.len
          rw [List.length_append, List.length_singleton] at h5
          refine ⟨_, ts2 ++ [(y2, pv)], ks2 ++ [y2], _, _, rfl, same_put s4 hpt, t5 _ _ kxj, by rw [upd_ne npb]; exact kb4, by rw [upd_same]; simp [refs], fun q hq => ?_, bf5, List.mem_append_left _ xj, ?_, ?_, ?_⟩
          · rcases List.mem_append.mp hq with z | z
            · exact ⟨t5 _ _ (htj q z).1, List.mem_append_left _ (htj q z).2⟩
            · rw [List.mem_singleton] at z
              subst z
              exact ⟨t5 _ _ g3, by simp⟩
          · intro z hz hn hne z2 c2 he2
            rcases List.mem_append.mp hz with h6 | h6
            · exact List.mem_append_left _ (dj z h6 (fun h => hn (by rw [List.map_append]; exact List.mem_append_left _ h)) hne z2 c2 he2)
            · rw [List.mem_singleton] at h6
              exact absurd (by rw [h6, List.map_append]; simp) hn
          · intro i hi y c hyi
            by_cases ei : i = j
            · subst ei
              rw [hgj] at hyi
              cases hyi
              simp
            · exact List.mem_append_left _ (pj i (by omega) y c hyi)
          · rw [List.length_append, List.length_append, List.length_singleton, List.length_singleton]
            omega
      · have e : ¬ y1 = x.1 := of_decide_eq_false e
        refine iteF ?_
        walk_at "stp"
        exact ⟨_, ts2, ks2, f2, rk2, rfl, sj, kxj, kbj, ktj, htj, bfj, xj, dj, stay fun z => absurd z e, mj⟩
    · obtain ⟨o6, ts2, ks2, f2, rk2, rfl, sj, kxj, kbj, ktj, htj, bfj, xj, dj, pj, mj⟩ := hP
      rw [List.length_map, hE.1] at pj
      refine hnx _ _ _ ?_ ⟨_, o6, ts2, ks2, f2, rk2, rfl, sj, kbj, ktj, htj, bfj, ?_, ?_, rfl⟩
      · rw [List.length_cons]
        omega
      · intro z hz hn _ y c he
        by_cases e : z = x.1
        · subst e
          obtain ⟨i, hi, e2⟩ := List.getElem_of_mem he
          exact pj i hi y c (by rw [List.getElem?_eq_getElem hi, e2])
        · exact dj z hz hn (fun h => e (Option.some.inj h).symm) y c he
      · rw [List.length_cons] at hm
        omega
end
section
variable {P : Program} {w : World} {K : PySem.W.Frag} {mg : Str → Option Value} {base : Heap} {t : Ad}
theorem upd_own {H : Hp} {d : Addr} {o : HO} (h : H d = some o) : upd H d o = H := by
  funext a
  by_cases e : a = d
  · rw [e, upd_same, h]
  · rw [upd_ne e]
theorem upd_two {H : Hp} {d : Addr} {o o' : HO} : upd (upd H d o) d o' = upd H d o' := by
  funext a
  by_cases e : a = d
  · rw [e, upd_same, upd_same]
  · rw [upd_ne e, upd_ne e, upd_ne e]
theorem sum_le {ks : List W} {f g : W → Nat} (h : ∀ x, f x ≤ g x) : smL ks f ≤ smL ks g := by
  unfold smL
  induction ks with
  | nil => exact Nat.le_refl _
  | cons k r ih => rw [List.map_cons, List.map_cons, List.sum_cons, List.sum_cons]; have := h k; omega
theorem sum_lt {ks : List W} {f g : W → Nat} (h : ∀ x, f x ≤ g x) (h2 : ∃ x ∈ ks, f x < g x) : smL ks f < smL ks g := by
  obtain ⟨x, hx, e⟩ := h2
  induction ks with
  | nil => cases hx
  | cons k r ih =>
    have h3 : smL r f ≤ smL r g := sum_le h
    show ((k :: r).map f).sum < ((k :: r).map g).sum
    rw [List.map_cons, List.map_cons, List.sum_cons, List.sum_cons]
    rcases List.mem_cons.mp hx with z | z
    · subst z
      unfold smL at h3
      omega
    · have := ih z
      have := h k
      unfold smL at *
      omega
theorem sum_most {ks : List W} {f : W → Nat} {n : Nat} (h : ∀ x, f x ≤ n) : smL ks f ≤ ks.length * n := by
  unfold smL
  induction ks with
  | nil => simp
  | cons k r ih =>
    rw [List.map_cons, List.sum_cons, List.length_cons, Nat.add_mul, Nat.one_mul]
    have := h k
    omega
theorem LOk.up {L : List (Eg W)} {lam : W → Nat} {u v : W} {c : Bool} (h : LOk L lam) (ly : Layd L) (he : (u, v, c) ∈ L) : LOk L (fset lam u (lam v + c.toNat)) := by
  refine ⟨fun x => ?_, fun x => ?_⟩
  · by_cases e : x = u
    · rw [e, fset_same]; exact .cons he (h.pw v)
    · rw [fset_ne e]; exact h.pw x
  · by_cases e : x = u
    · rw [e, fset_same]
      have := h.le v
      have := Nr_edge ly he
      omega
    · rw [fset_ne e]; exact h.le x
theorem lyr_put {ks : List W} {lam : W → Nat} {u : W} {n : Nat} (h : u ∈ ks) : putK (dOf ks fun k => .int (lam k : Int)) u (.int (n : Int)) = dOf ks fun k => .int ((fset lam u n k : Nat) : Int) := by
  rw [put_in h]
  refine dOf_congr fun x _ => ?_
  by_cases e : x = u
  · rw [e, fset_same, fset_same]
  · rw [fset_ne e, fset_ne e]
theorem lyr0_put {ks : List W} {u : W} : putK (dOf ks fun _ => .int 0) u (.int 0) = dOf (insK ks u) fun _ => .int 0 := by
  rw [put_dOf]
  refine dOf_congr fun x _ => ?_
  by_cases e : x = u
  · rw [e, fset_same]
  · rw [fset_ne e]
theorem ok_check_layered (T : Txt K mg t) (G_row_between : FnOk P w K mg base CX0 1 t.a_row_between t.d_row_between ["first", "last", "leanings"] (sp_row_between)) (G_NotLayered_init : FnOk P w K mg base CX0 2 t.a_NotLayered_init t.d_NotLayered_init ["self", "ring", "row"] (sp_NotLayered_init K)) : FnOk P w K mg base (CXo P w) 4 t.a_check_layered t.d_check_layered ["leanings"] (sp_check_layered t.k_NotLayered) := by
  refine T.F_check_layered.okX sc_check_layered (fun vs H Q E h => ?_) (fun cdv A outer s H vs Q E hr h => ?_)
  · unfold sp_check_layered at h
    split at h
    · rfl
    · exact h.elim
  unfold sp_check_layered at h
  split at h
  rotate_left
  · exact h.elim
  refine ⟨_, (pss_one (ps_for PassesOwn.leaving rfl (kpi_list K rfl (mv 0)) (pg_name (i := 1) sc_check_layered.nd rfl (by first | exact Or.inl rfl | exact Or.inr rfl)) (pss_one (ps_if (mt_cmp mo_eq (pe_ix (ki_seq K rfl) (mv 1) pe_int (fun _ _ => rfl)) pe_int (nomark _)) (pss_cons (ps_set (i := 2) (hs := sw_call) sc_check_layered.nd rfl (by first | exact Or.inl rfl | exact Or.inr rfl) (pe_call G_row_between (hr.mono (by first | decide | omega)) rfl T.m_row_between T.F_row_between.kp T.b_row_between .nil pass0 (pa_con (pe_ix (ki_seq K rfl) (mv 1) pe_int (fun _ _ => rfl)) (pa_con (pe_ix (ki_seq K rfl) (mv 1) pe_int (fun _ _ => rfl)) (pa_con (mv 0) pa_nil))))) (pss_one (ps_if (kt_tru K rfl (mv 2)) (pss_one (ps_raise rfl xeOk_cx (pe_xmake T.mk_NotLayered G_NotLayered_init (hr.mono (by first | decide | omega)) rfl T.m_NotLayered T.bd_NotLayered_init (show Vals [V.int 0] [Value.int 0 t.w_NotLayered_init_0] from (.cons ⟨_, rfl⟩ .nil)) pass0 (pa_con (mv 2) pa_nil)))) pss_nil))) pss_nil)))), ?_⟩
  rename_i l
  obtain ⟨as, L, hL, q, qE⟩ := h
  have hE := hL.ea
  walk_at "stp"
  refine ⟨l, rfl, ⟨_, SqL.of hL.ls⟩, ?_⟩
  refine for_row (row_list (xs := as.map V.ref)) (fun i σ' Hi => ∃ (o1 o2 : Option V), σ' = [some (.ref l), o1, o2] ∧ Same H Hi ∧ ∀ j, j < i → ∀ u v, L[j]? = some (u, v, true) → ¬ Rch L v u)
    ⟨none, none, rfl, Same.refl _, fun j hj => absurd hj (Nat.not_lt_zero _)⟩ (fun i σ' Hi hP => ?_) (fun i σ' Hi hi hP => ?_) (fun σ' Hi hP => ?_)
  · obtain ⟨o1, o2, rfl, si, pi⟩ := hP
    exact SqL.of (si _ _ hL.ls)
  · obtain ⟨o1, o2, rfl, si, pi⟩ := hP
    rw [List.length_map, hE.1] at hi
    obtain ⟨c0, hc0, _, lna⟩ := hE.at hi
    rw [hc0]
    obtain ⟨⟨u, v, cc⟩, he0⟩ : ∃ e, L[i] = e := ⟨_, rfl⟩
    rw [he0] at lna
    obtain ⟨pu, pv, g1, g2, g3⟩ := lna.mono (.of si)
    have heL : (u, v, cc) ∈ L := by rw [← he0]; exact List.getElem_mem hi
    have hgi : L[i]? = some (u, v, cc) := by rw [List.getElem?_eq_getElem hi, he0]
    have stay : (cc = true → ¬ Rch L v u) → ∀ j, j < i + 1 → ∀ u v, L[j]? = some (u, v, true) → ¬ Rch L v u := fun hh j hj u' v' hy => by
      by_cases e : j = i
      · subst e
        rw [hgi] at hy
        cases hy
        exact hh rfl
      · exact pi j (by omega) u' v' hy
    walk_at "stp"
    refine mIx_t (SqT.of g1) (v := .int (cc.toNat : Int)) rfl ?_
    walk_at "stp"
    cases cc with
    | false =>
      refine iteB (fun e => absurd e (by decide)) (fun e => ?_)
      walk_at "stp"
      exact ⟨_, _, rfl, si, stay fun z => by cases z⟩
    | true =>
      refine iteB (fun e => ?_) (fun e => absurd e (by decide))
      walk_at "stp"
      refine mIx_t (SqT.of g1) (v := .ref pv) rfl ?_
      walk_at "stp"
      refine mIx_t (SqT.of g1) (v := .ref pu) rfl ?_
      walk_at "stp"
      refine ⟨v, u, as, L, g3, g2, hL.mono si, fun p H1 s1 k1 nr => ?_, fun p qs H1 s1 rg => ?_⟩
      · walk_at "stp"
        refine .inl ⟨_, SqL.of k1, ?_⟩
        refine iteF ?_
        walk_at "stp"
        exact ⟨_, _, rfl, si.trans s1, stay fun _ => nr⟩
      · walk_at "stp"
        refine .inl ⟨_, SqL.of rg.ls, ?_⟩
        have ne : qs ≠ [] := fun e => by have := rg.hd; rw [e] at this; cases this
        rw [show (!(List.map (fun q : W × Addr => V.ref q.2) qs).isEmpty) = true by cases qs with | nil => exact absurd rfl ne | cons _ _ => rfl]
        refine iteT ?_
        walk_at "stp"
        refine ⟨by simp, fun ea hea => ?_⟩
        have npe : p ≠ ea := fun e => by have := rg.ls; rw [e, hea] at this; cases this
        refine ⟨t.k_NotLayered, _, true, _, T.x_NotLayered, T.u_NotLayered, T.at_NotLayered, T.no_NotLayered_row, T.no_NotLayered_ring, upd_same, npe, by rw [upd_ne npe]; exact rg.ls, fun p9 H9 h9 b9 => ⟨rfl, ?_⟩⟩
        obtain ⟨dx9, h91, h92, h93⟩ := born_raise hea (Same.refl _) hea b9
        refine ⟨ea, t.k_NotLayered, dx9, _, rfl, T.x_NotLayered, h91, ?_⟩
        have np9 : p9 ≠ ea := fun e => by rw [e, h91] at h9; cases h9
        have rg9 := rg.mono h93
        exact qE ea _ p9 qs u v (si.trans (s1.trans h93)) h92 ⟨by rw [upd_ne np9]; exact h9, rg9.tp, rg9.ch, rg9.nod, rg9.hd, rg9.la⟩ heL
  · obtain ⟨o1, o2, rfl, si, pi⟩ := hP
    rw [List.length_map, hE.1] at pi
    walk_at "stp"
    refine q _ si fun u v he => ?_
    obtain ⟨i, hi, e⟩ := List.getElem_of_mem he
    exact pi i hi u v (by rw [List.getElem?_eq_getElem hi, e])
theorem ok_raise_layers (T : Txt K mg t)  : FnOk P w K mg base CX0 1 t.a_raise_layers t.d_raise_layers ["layers", "leanings"] (sp_raise_layers) := by
  refine T.F_raise_layers.ok sc_raise_layers (fun vs H Q E h => ?_) (fun cdv A outer s H vs Q E hr h => ?_)
  · unfold sp_raise_layers at h
    split at h
    · rfl
    · exact h.elim
  unfold sp_raise_layers at h
  split at h
  rotate_left
  · exact h.elim
  refine ⟨_, (pss_cons (ps_set (i := 2) sc_raise_layers.nd rfl (by first | exact Or.inl rfl | exact Or.inr rfl) pe_bl) (pss_cons (ps_for PassesOwn.never rfl (kpi_list K rfl (mv 1)) (pg_name (i := 3) sc_raise_layers.nd rfl (by first | exact Or.inl rfl | exact Or.inr rfl)) (pss_cons (ps_set (i := 4) (hs := sw_bin) sc_raise_layers.nd rfl (by first | exact Or.inl rfl | exact Or.inr rfl) (pe_op (ko_add K rfl) (pe_dget (hu_of hr) (mv 0) (pe_ix (ki_seq K rfl) (mv 3) pe_int (fun _ _ => rfl)) (fun _ _ => rfl)) (pe_ix (ki_seq K rfl) (mv 3) pe_int (fun _ _ => rfl)))) (pss_one (ps_if (mt_cmp mo_lt (pe_dget (hu_of hr) (mv 0) (pe_ix (ki_seq K rfl) (mv 3) pe_int (fun _ _ => rfl)) (fun _ _ => rfl)) (mv 4) (nomark _)) (pss_cons (ps_dput (hu_of hr) (mv 0) (pe_ix (ki_seq K rfl) (mv 3) pe_int (fun _ _ => rfl)) (mv 4) rfl) (pss_one (ps_set (i := 2) sc_raise_layers.nd rfl (by first | exact Or.inl rfl | exact Or.inr rfl) pe_bl))) pss_nil)))) (pss_one (ps_ret (mv 2))))), ?_⟩
  rename_i d l
  obtain ⟨ks, lam, as, L, hd, hL, hk, hin, ly, lo, q⟩ := h
  have hE := hL.ea
  have ndl : l ≠ d := fun e => by have := hL.ls; rw [e, hd] at this; cases this
  walk_at "stp"
  refine ⟨l, rfl, ⟨_, SqL.of hL.ls⟩, ?_⟩
  refine for_row (row_list (xs := as.map V.ref)) (fun i σ' Hi => ∃ (o3 o4 : Option V) (lam1 : W → Nat) (r : Bool), σ' = [some (.ref d), some (.ref l), some (.bl r), o3, o4] ∧ Hi = upd H d (lyr ks lam1) ∧ LOk L lam1 ∧ (∀ x, lam x ≤ lam1 x) ∧ (r = false → lam1 = lam ∧ ∀ j, j < i → ∀ u v c, L[j]? = some (u, v, c) → lam v + c.toNat ≤ lam u) ∧ (r = true → ∃ x ∈ ks, lam x < lam1 x))
    ⟨none, none, lam, false, rfl, (upd_own hd).symm, lo, fun x => Nat.le_refl _, fun _ => ⟨rfl, fun j hj => absurd hj (Nat.not_lt_zero _)⟩, fun z => by cases z⟩ (fun i σ' Hi hP => ?_) (fun i σ' Hi hi hP => ?_) (fun σ' Hi hP => ?_)
  · obtain ⟨o3, o4, lam1, r, rfl, rfl, lo1, up, rf, rt⟩ := hP
    exact SqL.of (by rw [upd_ne ndl]; exact hL.ls)
  · obtain ⟨o3, o4, lam1, r, rfl, rfl, lo1, up, rf, rt⟩ := hP
    have tt : TS H (upd H d (lyr ks lam1)) := ts_dT hd
    have kd : (upd H d (lyr ks lam1)) d = some (lyr ks lam1) := upd_same
    rw [List.length_map, hE.1] at hi
    obtain ⟨c0, hc0, _, lna⟩ := hE.at hi
    rw [hc0]
    obtain ⟨⟨u, v, cc⟩, he0⟩ : ∃ e, L[i] = e := ⟨_, rfl⟩
    rw [he0] at lna
    obtain ⟨pu, pv, g1, g2, g3⟩ := lna.mono tt
    have heL : (u, v, cc) ∈ L := by rw [← he0]; exact List.getElem_mem hi
    have hgi : L[i]? = some (u, v, cc) := by rw [List.getElem?_eq_getElem hi, he0]
    obtain ⟨iu, iv⟩ := hin u v cc heL
    walk_at "stp"
    refine mIx_t (SqT.of g1) (v := .ref pv) rfl ?_
    refine ⟨d, .int (lam1 v : Int), rfl, by rw [← valV_in (f := fun k => V.int (lam1 k : Int)) iv]; exact .t kd g3, ?_⟩
    walk_at "stp"
    refine mIx_t (SqT.of g1) (v := .int (cc.toNat : Int)) rfl ?_
    walk_at "stp"
    refine mIx_t (SqT.of g1) (v := .ref pu) rfl ?_
    refine ⟨d, .int (lam1 u : Int), rfl, by rw [← valV_in (f := fun k => V.int (lam1 k : Int)) iu]; exact .t kd g2, ?_⟩
    walk_at "stp"
    refine iteB (fun e => ?_) (fun e => ?_)
    · have e : (lam1 u : Int) < (lam1 v : Int) + (cc.toNat : Int) := of_decide_eq_true e
      have e' : lam1 u < lam1 v + cc.toNat := by omega
      walk_at "stp"
      refine mIx_t (SqT.of g1) (v := .ref pu) rfl ?_
      refine ⟨d, _, rfl, .t kd g2 (ln (by rw [dOf_len]; omega)), ?_⟩
      rw [show ((lam1 v : Int) + (cc.toNat : Int)) = ((lam1 v + cc.toNat : Nat) : Int) by omega, lyr_put iu, upd_two]
      walk_at "stp"
      refine ⟨_, _, fset lam1 u (lam1 v + cc.toNat), true, rfl, rfl, lo1.up ly heL, fun x => ?_, fun z => (by cases z), fun _ => ⟨u, iu, ?_⟩⟩
      · by_cases ex : x = u
        · rw [ex, fset_same]; have := up u; omega
        · rw [fset_ne ex]; exact up x
      · rw [fset_same]; have := up u; omega
    · have e : ¬ (lam1 u : Int) < (lam1 v : Int) + (cc.toNat : Int) := of_decide_eq_false e
      walk_at "stp"
      refine ⟨_, _, lam1, r, rfl, rfl, lo1, up, fun z => ?_, rt⟩
      obtain ⟨z1, z2⟩ := rf z
      subst z1
      refine ⟨rfl, fun j hj u' v' c' hy => ?_⟩
      by_cases ej : j = i
      · subst ej
        rw [hgi] at hy
        cases hy
        omega
      · exact z2 j (by omega) u' v' c' hy
  · obtain ⟨o3, o4, lam1, r, rfl, rfl, lo1, up, rf, rt⟩ := hP
    rw [List.length_map, hE.1] at rf
    walk_at "stp"
    refine q lam1 r lo1 (fun z => ?_) fun z => sum_lt up (rt z)
    obtain ⟨z1, z2⟩ := rf z
    subst z1
    intro u v c he
    obtain ⟨i, hi, e⟩ := List.getElem_of_mem he
    exact z2 i hi u v c (by rw [List.getElem?_eq_getElem hi, e])
end
section
variable {P : Program} {w : World} {K : PySem.W.Frag} {mg : Str → Option Value} {base : Heap} {t : Ad}
theorem eds_src {R : List Ru} {u v : W} {c : Bool} (h : (u, v, c) ∈ eds R) : u ∈ R.map hdR := by
  obtain ⟨r, hr, h⟩ := List.mem_flatMap.mp h
  obtain ⟨g, _, e⟩ := List.mem_filterMap.mp h
  refine List.mem_map.mpr ⟨r, hr, ?_⟩
  cases g <;> simp [edG] at e <;> exact e.1
theorem len_ins_le {ks : List W} {x : W} {n : Nat} (h : ks.length ≤ n) : (insK ks x).length ≤ n + 1 := Nat.le_trans (len_insK ks x) (by omega)
theorem ok_layers_of (T : Txt K mg t) (G_leanings_of : FnOk P w K mg base CX0 5 t.a_leanings_of t.d_leanings_of ["rules"] (sp_leanings_of)) (G_check_layered : FnOk P w K mg base (CXo P w) 4 t.a_check_layered t.d_check_layered ["leanings"] (sp_check_layered t.k_NotLayered)) (G_raise_layers : FnOk P w K mg base CX0 1 t.a_raise_layers t.d_raise_layers ["layers", "leanings"] (sp_raise_layers)) (G_word_of : FnOk P w K mg base CX0 1 t.a_word_of t.d_word_of ["goal"] (sp_word_of)) : FnOk P w K mg base (CXo P w) 6 t.a_layers_of t.d_layers_of ["rules"] (sp_layers_of t.k_NotLayered) := by
  refine T.F_layers_of.okX sc_layers_of (fun vs H Q E h => ?_) (fun cdv A outer s H vs Q E hr h => ?_)
  · unfold sp_layers_of at h
    split at h
    · rfl
    · exact h.elim
  unfold sp_layers_of at h
  split at h
  rotate_left
  · exact h.elim
  refine ⟨_, (pss_cons (ps_set (i := 1) (hs := sw_call) sc_layers_of.nd rfl (by first | exact Or.inl rfl | exact Or.inr rfl) (pe_call G_leanings_of (hr.mono (by first | decide | omega)) rfl T.m_leanings_of T.F_leanings_of.kp T.b_leanings_of .nil pass0 (pa_con (mv 0) pa_nil))) (pss_cons (ps_expr (pe_call G_check_layered (hr.mono (by first | decide | omega)) rfl T.m_check_layered T.F_check_layered.kp T.b_check_layered .nil passX (pa_con (mv 1) pa_nil))) (pss_cons (ps_set (i := 2) sc_layers_of.nd rfl (by first | exact Or.inl rfl | exact Or.inr rfl) pe_dnewT) (pss_cons (ps_for PassesOwn.leaving rfl (kpi_list K rfl (mv 0)) (pg_name (i := 3) sc_layers_of.nd rfl (by first | exact Or.inl rfl | exact Or.inr rfl)) (pss_one (ps_dput (hu_of hr) (mv 2) (pe_call G_word_of (hr.mono (by first | decide | omega)) rfl T.m_word_of T.F_word_of.kp T.b_word_of .nil pass0 (pa_con (pe_ix (ki_seq K rfl) (mv 3) pe_int (fun _ _ => rfl)) pa_nil)) pe_int rfl))) (pss_cons (ps_for PassesOwn.leaving rfl (kpi_list K rfl (mv 1)) (pg_name (i := 4) sc_layers_of.nd rfl (by first | exact Or.inl rfl | exact Or.inr rfl)) (pss_one (ps_dput (hu_of hr) (mv 2) (pe_ix (ki_seq K rfl) (mv 4) pe_int (fun _ _ => rfl)) pe_int rfl))) (pss_cons (ps_while PassesOwn.leaving (kt_tru K rfl (pe_call G_raise_layers (hr.mono (by first | decide | omega)) rfl T.m_raise_layers T.F_raise_layers.kp T.b_raise_layers .nil pass0 (pa_con (mv 2) (pa_con (mv 1) pa_nil)))) (pss_one ps_pass)) (pss_one (ps_ret (mv 2))))))))), ?_⟩
  rename_i l
  obtain ⟨qs, R, hR, q, qE⟩ := h
  have hE := hR.ea
  have hF := hR.few
  walk_at "stp"
  refine ⟨qs, R, hR, fun pl as H1 s1 hL => ?_⟩
  have hLE := hL.ea
  walk_at "stp"
  refine ⟨as, eds R, hL, fun H2 s2 ly => ?_, fun ea H' p qs' u v s' ix rg he => qE ea H' p qs' u v (s1.trans s') ix rg he⟩
  have s12 := s1.trans s2
  have hL2 := hL.mono s2
  walk_at "stp"
  intro pd hpd
  have hpd0 := none_of s12 hpd
  have s3 := same_new hpd (.dT [])
  have k3 : (upd H2 pd (.dT [])) pd = some (.dT (dOf [] fun _ => .int 0)) := upd_same
  generalize upd H2 pd (.dT []) = H3 at s3 k3 ⊢
  walk_at "stp"
  refine ⟨l, rfl, ⟨_, SqL.of ((s12.trans s3) _ _ hR.ls)⟩, ?_⟩
  refine for_row (row_list (xs := qs.map V.ref)) (fun i σ' Hi => ∃ (o3 o4 : Option V) (ks : List W), σ' = [some (.ref l), some (.ref pl), some (.ref pd), o3, o4] ∧ Same H2 Hi ∧ Hi pd = some (.dT (dOf ks fun _ => .int 0)) ∧ ks.Nodup ∧ (∀ x, x ∈ ks ↔ x ∈ (R.take i).map hdR) ∧ ks.length ≤ i)
    ⟨none, none, [], rfl, s3, k3, .nil, fun x => by simp, Nat.le_refl _⟩ (fun i σ' Hi hP => ?_) (fun i σ' Hi hi hP => ?_) (fun σ' Hi hP => ?_)
  · obtain ⟨o3, o4, ks, rfl, si, ki, nk, mk, lk⟩ := hP
    exact SqL.of ((s12.trans si) _ _ hR.ls)
  · obtain ⟨o3, o4, ks, rfl, si, ki, nk, mk, lk⟩ := hP
    rw [List.length_map, hE.1] at hi
    obtain ⟨a, ha, _, ru⟩ := hE.at hi
    rw [ha]
    obtain ⟨⟨⟨s0, n0⟩, gs⟩, hr0⟩ : ∃ r, R[i] = r := ⟨_, rfl⟩
    rw [hr0] at ru
    obtain ⟨ph, pg, gas, r1, r2, r3, r4, r5⟩ := ru
    have ss := s12.trans si
    walk_at "stp"
    refine mIx_t (SqT.of (ss _ _ r1)) (v := .ref ph) rfl ?_
    walk_at "stp"
    refine ⟨s0, n0, r3.mono (.of ss), fun pw H4 s4 k4 => ?_⟩
    have hz : ks.length ≤ 12 := by have := hF.1; omega
    refine ⟨pd, _, rfl, .t (s4 _ _ ki) k4 (ln (by rw [dOf_len]; omega)), ?_⟩
    rw [lyr0_put]
    walk_at "stp"
    refine ⟨_, _, insK ks (nd s0 n0), rfl, same_put (si.trans s4) hpd, upd_same, nodup_insK nk, fun x => ?_, len_ins_le lk⟩
    rw [mem_insK, mk x, take_snoc hi, hr0, List.map_append, List.mem_append]
    simp
  · obtain ⟨o3, o4, ks, rfl, si, ki, nk, mk, lk⟩ := hP
    rw [List.length_map, hE.1] at lk
    rw [List.length_map, hE.1, List.take_length] at mk
    have hz : ks.length ≤ 12 := by have := hF.1; omega
    have hL3 := hL2.mono si
    walk_at "stp"
    refine ⟨pl, rfl, ⟨_, SqL.of hL3.ls⟩, ?_⟩
    refine for_row (row_list (xs := as.map V.ref)) (fun i σ' Hi => ∃ (o3 o4 : Option V) (ks : List W), σ' = [some (.ref l), some (.ref pl), some (.ref pd), o3, o4] ∧ Same H2 Hi ∧ Hi pd = some (.dT (dOf ks fun _ => .int 0)) ∧ ks.Nodup ∧ (∀ x, x ∈ ks ↔ x ∈ R.map hdR ∨ ∃ u c, (u, x, c) ∈ (eds R).take i) ∧ ks.length ≤ 12 + i)
      ⟨o3, o4, ks, rfl, si, ki, nk, fun x => by rw [mk x]; simp, by omega⟩ (fun i σ' Hi hP => ?_) (fun i σ' Hi hi hP => ?_) (fun σ' Hi hP => ?_)
    · obtain ⟨o3, o4, ks, rfl, si, ki, nk, mk, lk⟩ := hP
      exact SqL.of (hL2.mono si).ls
    · obtain ⟨o3, o4, ks, rfl, si, ki, nk, mk, lk⟩ := hP
      rw [List.length_map, hLE.1] at hi
      have hfew := hL.few
      obtain ⟨c0, hc0, _, lna⟩ := (hL2.mono si).ea.at hi
      rw [hc0]
      obtain ⟨⟨u, v, cc⟩, he0⟩ : ∃ e, (eds R)[i] = e := ⟨_, rfl⟩
      rw [he0] at lna
      obtain ⟨pu, pv, g1, g2, g3⟩ := lna
      walk_at "stp"
      refine mIx_t (SqT.of g1) (v := .ref pv) rfl ?_
      refine ⟨pd, _, rfl, .t ki g3 (ln (by rw [dOf_len]; omega)), ?_⟩
      rw [lyr0_put]
      walk_at "stp"
      refine ⟨_, _, insK ks v, rfl, same_put si hpd, upd_same, nodup_insK nk, fun x => ?_, len_ins_le lk⟩
      rw [mem_insK, mk x, take_snoc hi, he0]
      constructor
      · rintro ((z | ⟨u', c', z⟩) | z)
        · exact .inl z
        · exact .inr ⟨u', c', List.mem_append_left _ z⟩
        · exact .inr ⟨u, cc, by rw [z]; simp⟩
      · rintro (z | ⟨u', c', z⟩)
        · exact .inl (.inl z)
        · rcases List.mem_append.mp z with y | y
          · exact .inl (.inr ⟨u', c', y⟩)
          · rw [List.mem_singleton] at y
            cases y
            exact .inr rfl
    · obtain ⟨o3, o4, ks, rfl, si, ki, nk, mk, lk⟩ := hP
      rw [List.length_map, hLE.1] at lk
      rw [List.length_map, hLE.1, List.take_length] at mk
      have hfew := hL.few
      walk_at "stp"
      refine while_row (fun m σ' Hj => ∃ (lam : W → Nat), σ' = [some (.ref l), some (.ref pl), some (.ref pd), o3, o4] ∧ Same H2 Hj ∧ Hj pd = some (lyr ks lam) ∧ LOk (eds R) lam ∧ m = ks.length * (eds R).length - smL ks lam) _
        ⟨fun _ => 0, rfl, si, ki, ⟨fun x => .nil x, fun x => Nat.zero_le _⟩, rfl⟩ (fun m σ' Hj R2 hP kT kF => ?_)
      obtain ⟨lam, rfl, sj, kj, lo, rfl⟩ := hP
      walk_at "stp"
      refine ⟨ks, lam, as, eds R, kj, hL2.mono sj, by have := eds_le hF.2; have := hF.1; omega, fun u v c he => ⟨(mk u).mpr (.inl (eds_src he)), (mk v).mpr (.inr ⟨u, c, he⟩)⟩, ly, lo, fun lam' r lo' rf rt => ?_⟩
      walk_at "stp"
      cases r with
      | false =>
        refine kF _ ?_
        walk_at "stp"
        exact q pd ks lam' _ (s12.trans (same_put sj hpd)) upd_same nk mk (rf rfl) lo'
      | true =>
        refine kT _ fun D' e1 e2 hnx hct => ?_
        walk_at "stp"
        have h1 := rt rfl
        have h2 : smL ks lam' ≤ ks.length * (eds R).length := sum_most fun x => Nat.le_trans (lo'.le x) (Nr_le _ x)
        exact hnx _ _ _ (by omega) ⟨lam', rfl, same_put sj hpd, upd_same, lo', rfl⟩
end
section
variable {P : Program} {w : World} {K : PySem.W.Frag} {mg : Str → Option Value} {base : Heap} {t : Ad}
structure LB (H0 H : Hp) (p : Addr) (L : List (Eg W)) (ks : List W) (ad : W → Addr) (ik : W → List W) : Prop where
  p0 : H0 p = none
  a0 : ∀ u ∈ ks, H0 (ad u) = none
  same : Same H0 H
  top : H p = some (.dT (dOf ks fun k => .ref (ad k)))
  inn : ∀ u ∈ ks, H (ad u) = some (.dT (dOf (ik u) fun v => .bl (hasE L u v)))
  inj : ∀ u ∈ ks, ∀ v ∈ ks, ad u = ad v → u = v
  npp : ∀ u ∈ ks, ad u ≠ p
  nod : ks.Nodup
  mem : ∀ u ∈ ks, ∀ v, v ∈ ik u ↔ ∃ c, (u, v, c) ∈ L
  src : ∀ u v c, (u, v, c) ∈ L → u ∈ ks
  nik : ∀ u ∈ ks, (ik u).length ≤ L.length
theorem LB.mono {H0 H H1 : Hp} {p : Addr} {L : List (Eg W)} {ks : List W} {ad : W → Addr} {ik : W → List W} (b : LB H0 H p L ks ad ik) (s : Same H H1) : LB H0 H1 p L ks ad ik := ⟨b.p0, b.a0, b.same.trans s, s _ _ b.top, fun u hu => s _ _ (b.inn u hu), b.inj, b.npp, b.nod, b.mem, b.src, b.nik⟩
theorem hasE_new {L : List (Eg W)} {u v : W} {c : Bool} : hasE (L ++ [(u, v, c)]) u v = (c || hasE L u v) := by
  rw [Bool.eq_iff_iff, hasE_iff, Bool.or_eq_true, hasE_iff, List.mem_append, List.mem_singleton]
  constructor
  · rintro (h | h)
    · exact .inr h
    · cases h; exact .inl rfl
  · rintro (h | h)
    · rw [h]; exact .inr rfl
    · exact .inl h
theorem hasE_old {L : List (Eg W)} {u v x y : W} {c : Bool} (h : ¬ (x = u ∧ y = v)) : hasE (L ++ [(u, v, c)]) x y = hasE L x y := by
  rw [Bool.eq_iff_iff, hasE_iff, hasE_iff, List.mem_append, List.mem_singleton]
  constructor
  · rintro (g | g)
    · exact g
    · cases g; exact absurd ⟨rfl, rfl⟩ h
  · exact .inl
theorem LB.add {H0 H : Hp} {p : Addr} {L : List (Eg W)} {ks : List W} {ad : W → Addr} {ik : W → List W} (b : LB H0 H p L ks ad ik) {x : W} {pe : Addr} (hx : x ∉ ks) (he : H pe = some (.dT [])) (he0 : H0 pe = none) (hne : ∀ u ∈ ks, ad u ≠ pe) (hp : pe ≠ p) :
    LB H0 (upd H p (.dT (dOf (ks ++ [x]) fun k => .ref (fset ad x pe k)))) p L (ks ++ [x]) (fset ad x pe) (fset ik x []) := by
  have ne : ∀ y ∈ ks, y ≠ x := fun y hy e => hx (by rw [← e]; exact hy)
  have cs : ∀ y ∈ ks ++ [x], y ∈ ks ∨ y = x := fun y hy => (List.mem_append.mp hy).imp id List.mem_singleton.mp
  refine ⟨b.p0, fun u hu => ?_, same_put b.same b.p0, upd_same, fun u hu => ?_, fun u hu v hv e => ?_, fun u hu => ?_, ?_, fun u hu v => ?_, fun u v c h => List.mem_append_left _ (b.src u v c h), fun u hu => ?_⟩
  · rcases cs u hu with z | z
    · rw [fset_ne (ne u z)]; exact b.a0 u z
    · rw [z, fset_same]; exact he0
  · rcases cs u hu with z | z
    · rw [fset_ne (ne u z), fset_ne (ne u z), upd_ne (b.npp u z)]; exact b.inn u z
    · rw [z, fset_same, fset_same, upd_ne hp]; exact he
  · rcases cs u hu with z | z <;> rcases cs v hv with y | y
    · rw [fset_ne (ne u z), fset_ne (ne v y)] at e; exact b.inj u z v y e
    · rw [fset_ne (ne u z), y, fset_same] at e; exact absurd e (hne u z)
    · rw [z, fset_same, fset_ne (ne v y)] at e; exact absurd e.symm (hne v y)
    · rw [z, y]
  · rcases cs u hu with z | z
    · rw [fset_ne (ne u z)]; exact b.npp u z
    · rw [z, fset_same]; exact hp
  · rw [List.nodup_append]
    exact ⟨b.nod, by simp, fun y hy z hz e => ne y hy (by rw [List.mem_singleton] at hz; rw [e, hz])⟩
  · rcases cs u hu with z | z
    · rw [fset_ne (ne u z)]; exact b.mem u z v
    · rw [z, fset_same]
      exact ⟨fun h => (by cases h), fun ⟨c, h⟩ => absurd (b.src _ _ _ h) hx⟩
  · rcases cs u hu with z | z
    · rw [fset_ne (ne u z)]; exact b.nik u z
    · rw [z, fset_same]; exact Nat.zero_le _
theorem LB.put {H0 H : Hp} {p : Addr} {L : List (Eg W)} {ks : List W} {ad : W → Addr} {ik : W → List W} (b : LB H0 H p L ks ad ik) {u v : W} {c : Bool} (hu : u ∈ ks) :
    LB H0 (upd H (ad u) (.dT (dOf (insK (ik u) v) fun y => .bl (hasE (L ++ [(u, v, c)]) u y)))) p (L ++ [(u, v, c)]) ks ad (fset ik u (insK (ik u) v)) := by
  refine ⟨b.p0, b.a0, same_put b.same (b.a0 u hu), by rw [upd_ne (Ne.symm (b.npp u hu))]; exact b.top, fun x hx => ?_, b.inj, b.npp, b.nod, fun x hx y => ?_, fun x y d h => ?_, fun x hx => ?_⟩
  · by_cases e : x = u
    · subst e; rw [upd_same, fset_same]
    · rw [upd_ne (fun z => e (b.inj x hx u hu z)), fset_ne e, b.inn x hx]
      have : (fun v_1 => V.bl (hasE L x v_1)) = fun v_1 => V.bl (hasE (L ++ [(u, v, c)]) x v_1) := by
        funext y
        rw [hasE_old (fun z => e z.1)]
      rw [this]
  · by_cases e : x = u
    · subst e
      rw [fset_same, mem_insK, b.mem x hx y]
      constructor
      · rintro (⟨d, h⟩ | h)
        · exact ⟨d, List.mem_append_left _ h⟩
        · exact ⟨c, by rw [h]; simp⟩
      · rintro ⟨d, h⟩
        rcases List.mem_append.mp h with z | z
        · exact .inl ⟨d, z⟩
        · rw [List.mem_singleton] at z; cases z; exact .inr rfl
    · rw [fset_ne e, b.mem x hx y]
      constructor
      · rintro ⟨d, h⟩; exact ⟨d, List.mem_append_left _ h⟩
      · rintro ⟨d, h⟩
        rcases List.mem_append.mp h with z | z
        · exact ⟨d, z⟩
        · rw [List.mem_singleton] at z; cases z; exact absurd rfl e
  · rcases List.mem_append.mp h with z | z
    · exact b.src x y d z
    · rw [List.mem_singleton] at z; cases z; exact hu
  · rw [List.length_append, List.length_singleton]
    by_cases e : x = u
    · subst e; rw [fset_same]; exact Nat.le_trans (len_insK _ _) (Nat.succ_le_succ (b.nik x hx))
    · rw [fset_ne e]; exact Nat.le_trans (b.nik x hx) (Nat.le_succ _)
theorem put_bl {L : List (Eg W)} {u v : W} {c : Bool} {ls : List W} : putK (dOf ls fun y => .bl (hasE L u y)) v (.bl (c || hasE L u v)) = dOf (insK ls v) fun y => .bl (hasE (L ++ [(u, v, c)]) u y) := by
  rw [put_dOf]
  refine dOf_congr fun x _ => ?_
  by_cases e : x = v
  · rw [e, fset_same, hasE_new]
  · rw [fset_ne e, hasE_old (fun z => e z.2)]
theorem put_ref {ks : List W} {ad : W → Addr} {x : W} {pe : Addr} (h : x ∉ ks) : putK (dOf ks fun k => .ref (ad k)) x (.ref pe) = dOf (ks ++ [x]) fun k => .ref (fset ad x pe k) := by
  rw [put_out h]
  refine dOf_congr fun y _ => ?_
  by_cases e : y = x
  · rw [e, fset_same, fset_same]
  · rw [fset_ne e, fset_ne e]
theorem LB.setd {H0 H1 : Hp} {p : Addr} {L : List (Eg W)} {ks : List W} {ad : W → Addr} {ik : W → List W} (b : LB H0 H1 p L ks ad ik) {x : W} {px pe : Addr} (hx : H1 px = some (.tup (x.map kV))) (he : H1 pe = none) (hz : ks.length ≤ 1000) {Q : VK}
    (k : ∀ H2 ad' ik', LB H0 H2 p L (insK ks x) ad' ik' → TS H1 H2 → (∀ u ∈ ks, ad' u = ad u) → Q (.ref (ad' x)) H2) : mSetdT (.ref p) [.ref px, .ref pe] (upd H1 pe (.dT [])) Q := by
  have s1 := same_new he (.dT [])
  have b1 := b.mono s1
  have t1 := TS.of s1
  refine mSetdT_i b1.top (s1 _ _ hx) (ln (by rw [dOf_len]; omega)) (fun v hv => ?_) fun hv => ?_
  · rw [valV_dOf] at hv
    by_cases h : x ∈ ks
    · rw [if_pos h] at hv
      cases hv
      exact k _ ad ik (by rw [insK, if_pos h]; exact b1) t1 fun _ _ => rfl
    · rw [if_neg h] at hv; cases hv
  · rw [valV_dOf] at hv
    by_cases h : x ∈ ks
    · rw [if_pos h] at hv; cases hv
    · have hpp : pe ≠ p := fun e => by have := b.top; rw [← e, he] at this; cases this
      have b2 := b1.add h upd_same (none_of b.same he) (fun u hu e => by have := b.inn u hu; rw [e, he] at this; cases this) hpp
      rw [put_ref h]
      have := k _ _ _ (by rw [insK, if_neg h]; exact b2) (t1.trans (ts_dT b1.top)) fun u hu => fset_ne (fun e => h (by rw [← e]; exact hu))
      rw [fset_same] at this
      exact this
theorem ok_l_leanings (T : Txt K mg t)  : FnOk P w K mg base CX0 1 t.a_l_leanings t.d_l_leanings ["_law_rules_here"] (sp_l_leanings) := by
  refine T.F_l_leanings.ok sc_l_leanings (fun vs H Q E h => ?_) (fun cdv A outer s H vs Q E hr h => ?_)
  · unfold sp_l_leanings at h
    split at h
    · rfl
    · exact h.elim
  unfold sp_l_leanings at h
  split at h
  rotate_left
  · exact h.elim
  refine ⟨_, (pss_cons (ps_set (i := 1) sc_l_leanings.nd rfl (by first | exact Or.inl rfl | exact Or.inr rfl) pe_dnewT) (pss_cons (ps_for PassesOwn.never rfl (kpi_list K rfl (mv 0)) (kpg_tup K rfl rfl (pgs_cons (pg_name (i := 2) sc_l_leanings.nd rfl (by first | exact Or.inl rfl | exact Or.inr rfl)) (pgs_cons (pg_name (i := 3) sc_l_leanings.nd rfl (by first | exact Or.inl rfl | exact Or.inr rfl)) pgs_nil))) (pss_cons (ps_set (i := 4) (hs := sw_call) sc_l_leanings.nd rfl (by first | exact Or.inl rfl | exact Or.inr rfl) (ke_bm K rfl PySem.F.plainAttrs_dict PySem.F.slot_dict_setdefault PySem.F.type_dict_setdefault (mm_setdT (room150 hr)) (mv 1) (pa_con (pe_tup (pa_con (pe_ix (ki_seq K rfl) (mv 2) pe_int (fun _ _ => rfl)) (pa_con (pe_callB (kc_len K rfl) rfl T.n_len PySem.boot_len (pa_con (pe_ix (ki_seq K rfl) (mv 2) pe_int (fun _ _ => rfl)) pa_nil)) pa_nil))) (pa_con pe_dnewT pa_nil)))) (pss_one (ps_for PassesOwn.never rfl (kpi_tup K rfl (mv 3)) (pg_name (i := 5) sc_l_leanings.nd rfl (by first | exact Or.inl rfl | exact Or.inr rfl)) (pss_cons (ps_set (i := 6) sc_l_leanings.nd rfl (by first | exact Or.inl rfl | exact Or.inr rfl) (pe_cmpR mo_eq (pe_ix (ki_seq K rfl) (mv 5) pe_int (fun _ _ => rfl)) pe_str (nomark _))) (pss_cons (ps_if (kt_tru K rfl (mv 6)) (pss_one (ps_set (i := 5) (hs := sw_sub) sc_l_leanings.nd rfl (by first | exact Or.inl rfl | exact Or.inr rfl) (pe_ix (ki_seq K rfl) (pe_ix (ki_seq K rfl) (mv 5) pe_int (fun _ _ => rfl)) pe_int (fun _ _ => rfl)))) pss_nil) (pss_one (ps_if (mt_cmp (ko_ninV K rfl) (pe_ix (ki_seq K rfl) (mv 5) pe_int (fun _ _ => rfl)) (pe_tup (pa_con pe_str (pa_con pe_str pa_nil))) (by with_unfolding_all rfl)) (pss_cons (ps_set (i := 7) (hs := sw_tup) sc_l_leanings.nd rfl (by first | exact Or.inl rfl | exact Or.inr rfl) (pe_tup (pa_con (pe_ix (ki_seq K rfl) (mv 5) pe_int (fun _ _ => rfl)) (pa_con (pe_callB (kc_len K rfl) rfl T.n_len PySem.boot_len (pa_con (pe_ix (ki_seq K rfl) (mv 5) pe_int (fun _ _ => rfl)) pa_nil)) pa_nil)))) (pss_cons (ps_expr (ke_bm K rfl PySem.F.plainAttrs_dict PySem.F.slot_dict_setdefault PySem.F.type_dict_setdefault (mm_setdT (room150 hr)) (mv 1) (pa_con (mv 7) (pa_con pe_dnewT pa_nil)))) (pss_one (ps_dput (hu_of hr) (mv 4) (mv 7) (me_or (mv 6) (pe_one (pe_dget2 (hu_of hr) (mv 4) (mv 7) pe_bl ⟨rfl, rfl, rfl, rfl⟩))) rfl)))) pss_nil)))))))) (pss_one (ps_ret (mv 1))))), ?_⟩
  rename_i l
  obtain ⟨qs, R, hR, q⟩ := h
  have hE := hR.ea
  have hF := hR.few
  walk_at "stp"
  intro p hp
  have s1 := same_new hp (.dT [])
  have k1 : (upd H p (.dT [])) p = some (.dT (dOf [] fun k => .ref 0)) := upd_same
  generalize upd H p (.dT []) = H1 at s1 k1 ⊢
  walk_at "stp"
  refine ⟨l, rfl, ⟨_, SqL.of (s1 _ _ hR.ls)⟩, ?_⟩
  refine for_row (row_list (xs := qs.map V.ref)) (fun i σ' Hi => ∃ (o2 o3 o4 o5 o6 o7 : Option V) (ks : List W) (ad : W → Addr) (ik : W → List W), σ' = [some (.ref l), some (.ref p), o2, o3, o4, o5, o6, o7] ∧ LB H Hi p (eds (R.take i)) ks ad ik ∧ (∀ x, x ∈ ks ↔ Nds ((R.take i).map hdR) (eds (R.take i)) x) ∧ ks.length ≤ 4 * i)
    ⟨none, none, none, none, none, none, [], fun _ => 0, fun _ => [], rfl, ⟨hp, fun u hu => (by cases hu), s1, k1, fun u hu => (by cases hu), fun u hu => (by cases hu), fun u hu => (by cases hu), .nil, fun u hu => (by cases hu), fun u v c h => (by simp [eds] at h), fun u hu => (by cases hu)⟩, fun x => ⟨fun h => (by cases h), fun h => by simp [Nds, eds] at h⟩, Nat.zero_le _⟩ (fun i σ' Hi hP => ?_) (fun i σ' Hi hi hP => ?_) (fun σ' Hi hP => ?_)
  · obtain ⟨o2, o3, o4, o5, o6, o7, ks, ad, ik, rfl, lb, mk, lk⟩ := hP
    exact SqL.of (lb.same _ _ hR.ls)
  · obtain ⟨o2, o3, o4, o5, o6, o7, ks, ad, ik, rfl, lb, mk, lk⟩ := hP
    rw [List.length_map, hE.1] at hi
    have hi12 : i < 12 := by have := hF.1; omega
    obtain ⟨a, ha, _, ru⟩ := hE.at hi
    rw [ha]
    obtain ⟨⟨⟨s0, n0⟩, gs⟩, hr0⟩ : ∃ r, R[i] = r := ⟨_, rfl⟩
    rw [hr0] at ru
    obtain ⟨ph, pg, gas, r1, r2, r3, r4, r5⟩ := ru
    have r5 : Each (GkAt H) gas gs := r5
    have hgs : gs.length ≤ 3 := by
      have := hF.2 R[i] (List.getElem_mem hi)
      rw [hr0] at this
      exact this
    walk_at "stp"
    refine gTup_i (SqT.of (lb.same _ _ r1)) rfl ?_
    walk_at "stp"
    refine ⟨.inr (.inr (.inl ⟨rfl, .inr ⟨_, lb.top⟩⟩)), ?_⟩
    walk_at "stp"
    obtain ⟨pa, xs, h1, h2, h3⟩ := r3
    refine mIx_t (SqT.of (lb.same _ _ h1)) (v := .str s0) rfl ?_
    walk_at "stp"
    refine mIx_t (SqT.of (lb.same _ _ h1)) (v := .ref pa) rfl ?_
    walk_at "stp"
    refine mLen_t (SqT.of (lb.same _ _ h2)) ?_
    walk_at "stp"
    refine ⟨ln (by show 2 ≤ 100000; decide), fun px hpx => ?_⟩
    have s2 := same_new hpx (.tup [.str s0, .int (xs.length : Int)])
    have k2 : (upd Hi px (.tup [.str s0, .int (xs.length : Int)])) px = some (.tup ((nd s0 n0).map kV)) := by rw [upd_same, h3]; rfl
    generalize upd Hi px (.tup [.str s0, .int (xs.length : Int)]) = H2 at s2 k2 ⊢
    walk_at "stp"
    intro pe hpe
    walk_at "stp"
    refine (lb.mono s2).setd k2 hpe (by omega) fun H3 ad1 ik1 lb3 t3 _ => ?_
    have u1 : nd s0 n0 ∈ insK ks (nd s0 n0) := mem_insK.mpr (.inr rfl)
    walk_at "stp"
    refine ⟨pg, rfl, ⟨_, SqT.of (lb3.same _ _ r4)⟩, ?_⟩
    refine for_row (row_tup (xs := gas.map V.ref)) (fun j σ' Hj => ∃ (o5 o6 o7 : Option V) (ks2 : List W) (ad : W → Addr) (ik : W → List W), σ' = [some (.ref l), some (.ref p), some (.ref ph), some (.ref pg), some (.ref (ad (nd s0 n0))), o5, o6, o7] ∧ LB H Hj p (eds (R.take i) ++ (gs.take j).filterMap (edG (nd s0 n0))) ks2 ad ik ∧ nd s0 n0 ∈ ks2 ∧ (∀ x, x ∈ ks2 ↔ Nds ((R.take (i + 1)).map hdR) (eds (R.take i) ++ (gs.take j).filterMap (edG (nd s0 n0))) x) ∧ ks2.length ≤ 4 * i + 1 + j)
      ⟨o5, o6, o7, insK ks (nd s0 n0), ad1, ik1, rfl, by simpa using lb3, u1, fun x => ?_, len_ins_le lk⟩ (fun j σ' Hj hP => ?_) (fun j σ' Hj hj hP => ?_) (fun σ' Hj hP => ?_)
    · rw [mem_insK, mk x, take_snoc hi, hr0]
      unfold Nds
      rw [List.map_append, List.mem_append]
      simp only [List.take_zero, List.filterMap_nil, List.append_nil, List.map_cons, List.map_nil, List.mem_singleton]
      constructor
      · rintro ((z | z) | z)
        · exact .inl (.inl z)
        · exact .inr z
        · exact .inl (.inr z)
      · rintro ((z | z) | z)
        · exact .inl (.inl z)
        · exact .inr z
        · exact .inl (.inr z)
    · obtain ⟨o5, o6, o7, ks2, ad, ik, rfl, lb4, u2, mk2, lk2⟩ := hP
      exact SqT.of (lb4.same _ _ r4)
    · obtain ⟨o5, o6, o7, ks2, ad, ik, rfl, lb4, u2, mk2, lk2⟩ := hP
      rw [List.length_map, r5.1] at hj
      obtain ⟨b0, hb, _, gk⟩ := r5.at hj
      rw [hb]
      have hz : (eds (R.take i) ++ (gs.take j).filterMap (edG (nd s0 n0))).length ≤ 39 := by
        have h1 := List.length_filterMap_le (edG (nd s0 n0)) (gs.take j)
        have h2 : (gs.take j).length ≤ 3 := by rw [List.length_take]; omega
        have h4 := eds_le (R := R.take i) fun r hr => hF.2 r (List.mem_of_mem_take hr)
        have h5 : (R.take i).length ≤ 12 := by rw [List.length_take]; have := hF.1; omega
        rw [List.length_append]
        omega
      rw [fm_snoc hj, ← List.append_assoc]
      generalize eds (R.take i) ++ (gs.take j).filterMap (edG (nd s0 n0)) = L at lb4 mk2 hz ⊢
      cases hg : gs[j] with
      | pos s n =>
        rw [hg] at gk
        obtain ⟨wd, ⟨pa, xs, g1, g2, g3⟩⟩ := gk
        walk_at "stp"
        refine mIx_t (SqT.of (lb4.same _ _ g1)) (v := .str s) rfl ?_
        walk_at "stp"
        rw [show (false ^^ decide (s = Str.ofString "not")) = false by rw [decide_eq_false wd.nt]; rfl]
        walk_at "stp"
        refine iteF ?_
        walk_at "stp"
        have eL : (L ++ (edG (nd s0 n0) (.pos s n)).toList) = L ++ [(nd s0 n0, nd s n, false)] := rfl
        rw [eL]
        refine mIx_t (SqT.of (lb4.same _ _ g1)) (v := .str s) rfl ?_
        walk_at "stp"
        refine ⟨ln (by show 2 ≤ 100000; decide), fun p1 hp1 => ?_⟩
        have s5 := same_new hp1 (.tup [.str (Str.ofString "keep"), .str (Str.ofString "=")])
        have k5 : (upd Hj p1 (.tup [.str (Str.ofString "keep"), .str (Str.ofString "=")])) p1 = some (.tup ([keepS, eqS].map V.str)) := upd_same
        generalize upd Hj p1 (.tup [.str (Str.ofString "keep"), .str (Str.ofString "=")]) = H5 at s5 k5 ⊢
        have lb5 := lb4.mono s5
        walk_at "stp"
        refine nin_strs [keepS, eqS] (.inr (SqT.of k5)) ?_
        rw [show (!decide (s ∈ [keepS, eqS])) = true by simp [wd.kp, wd.eq]]
        walk_at "stp"
        refine iteT ?_
        walk_at "stp"
        refine mIx_t (SqT.of (lb5.same _ _ g1)) (v := .str s) rfl ?_
        walk_at "stp"
        refine mIx_t (SqT.of (lb5.same _ _ g1)) (v := .ref pa) rfl ?_
        walk_at "stp"
        refine mLen_t (SqT.of (lb5.same _ _ g2)) ?_
        walk_at "stp"
        refine ⟨ln (by show 2 ≤ 100000; decide), fun px hpx => ?_⟩
        have s6 := same_new hpx (.tup [.str s, .int (xs.length : Int)])
        have k6 : (upd H5 px (.tup [.str s, .int (xs.length : Int)])) px = some (.tup ((nd s n).map kV)) := by rw [upd_same, g3]; rfl
        generalize upd H5 px (.tup [.str s, .int (xs.length : Int)]) = H6 at s6 k6 ⊢
        have lb6 := lb5.mono s6
        walk_at "stp"
        refine ⟨.inr (.inr (.inl ⟨rfl, .inr ⟨_, lb6.top⟩⟩)), ?_⟩
        walk_at "stp"
        intro pe hpe
        walk_at "stp"
        refine lb6.setd k6 hpe (by omega) fun H7 ad2 ik2 lb7 t7 e7 => ?_
        have u3 : nd s0 n0 ∈ insK ks2 (nd s n) := mem_insK.mpr (.inl u2)
        have inn7 := lb7.inn _ u3
        have ea := e7 _ u2
        have k7 := t7 _ _ k6
        rw [← ea]
        walk_at "stp"
        refine iteF ?_
        walk_at "stp"
        refine ⟨ad2 (nd s0 n0), rfl, .inr ⟨_, .inl inn7⟩, ?_⟩
        walk_at "stp"
        refine ⟨_, .t inn7 k7, ?_⟩
        have ev : (valV (dOf (ik2 (nd s0 n0)) fun v => V.bl (hasE L (nd s0 n0) v)) (nd s n)).getD (.bl false) = .bl (false || hasE L (nd s0 n0) (nd s n)) := by
          rw [valV_dOf, Bool.false_or]
          by_cases h : nd s n ∈ ik2 (nd s0 n0)
          · rw [if_pos h]; rfl
          · rw [if_neg h]
            have : hasE L (nd s0 n0) (nd s n) = false := by
              rw [Bool.eq_false_iff]
              exact fun e => h ((lb7.mem _ u3 _).mpr ⟨true, hasE_iff.mp e⟩)
            rw [this]
            rfl
        rw [ev]
        walk_at "stp"
        refine ⟨ad2 (nd s0 n0), _, rfl, .t inn7 k7 (ln (by rw [dOf_len]; have := lb7.nik _ u3; omega)), ?_⟩
        rw [put_bl]
        refine ⟨_, _, _, insK ks2 (nd s n), ad2, _, rfl, lb7.put (v := nd s n) (c := false) u3, u3, fun x => ?_, len_ins_le lk2⟩
        rw [mem_insK, mk2 x]
        unfold Nds
        constructor
        · rintro ((z | ⟨u, d, z⟩) | z)
          · exact .inl z
          · exact .inr ⟨u, d, List.mem_append_left _ z⟩
          · exact .inr ⟨nd s0 n0, false, by rw [z]; simp⟩
        · rintro (z | ⟨u, d, z⟩)
          · exact .inl (.inl z)
          · rcases List.mem_append.mp z with y | y
            · exact .inl (.inr ⟨u, d, y⟩)
            · rw [List.mem_singleton] at y
              cases y
              exact .inr rfl
      | neg s n =>
        rw [hg] at gk
        obtain ⟨wd, pb, b1, f1, f2, ⟨pa, xs, g1, g2, g3⟩⟩ := gk
        walk_at "stp"
        refine mIx_t (SqT.of (lb4.same _ _ f1)) (v := .str notS) rfl ?_
        walk_at "stp"
        rw [show (false ^^ decide (notS = Str.ofString "not")) = true by decide +kernel]
        walk_at "stp"
        refine iteT ?_
        walk_at "stp"
        refine mIx_t (SqT.of (lb4.same _ _ f1)) (v := .ref pb) rfl ?_
        walk_at "stp"
        refine mIx_t (SqT.of (lb4.same _ _ f2)) (v := .ref b1) rfl ?_
        walk_at "stp"
        have eL : (L ++ (edG (nd s0 n0) (.neg s n)).toList) = L ++ [(nd s0 n0, nd s n, true)] := rfl
        rw [eL]
        refine mIx_t (SqT.of (lb4.same _ _ g1)) (v := .str s) rfl ?_
        walk_at "stp"
        refine ⟨ln (by show 2 ≤ 100000; decide), fun p1 hp1 => ?_⟩
        have s5 := same_new hp1 (.tup [.str (Str.ofString "keep"), .str (Str.ofString "=")])
        have k5 : (upd Hj p1 (.tup [.str (Str.ofString "keep"), .str (Str.ofString "=")])) p1 = some (.tup ([keepS, eqS].map V.str)) := upd_same
        generalize upd Hj p1 (.tup [.str (Str.ofString "keep"), .str (Str.ofString "=")]) = H5 at s5 k5 ⊢
        have lb5 := lb4.mono s5
        walk_at "stp"
        refine nin_strs [keepS, eqS] (.inr (SqT.of k5)) ?_
        rw [show (!decide (s ∈ [keepS, eqS])) = true by simp [wd.kp, wd.eq]]
        walk_at "stp"
        refine iteT ?_
        walk_at "stp"
        refine mIx_t (SqT.of (lb5.same _ _ g1)) (v := .str s) rfl ?_
        walk_at "stp"
        refine mIx_t (SqT.of (lb5.same _ _ g1)) (v := .ref pa) rfl ?_
        walk_at "stp"
        refine mLen_t (SqT.of (lb5.same _ _ g2)) ?_
        walk_at "stp"
        refine ⟨ln (by show 2 ≤ 100000; decide), fun px hpx => ?_⟩
        have s6 := same_new hpx (.tup [.str s, .int (xs.length : Int)])
        have k6 : (upd H5 px (.tup [.str s, .int (xs.length : Int)])) px = some (.tup ((nd s n).map kV)) := by rw [upd_same, g3]; rfl
        generalize upd H5 px (.tup [.str s, .int (xs.length : Int)]) = H6 at s6 k6 ⊢
        have lb6 := lb5.mono s6
        walk_at "stp"
        refine ⟨.inr (.inr (.inl ⟨rfl, .inr ⟨_, lb6.top⟩⟩)), ?_⟩
        walk_at "stp"
        intro pe hpe
        walk_at "stp"
        refine lb6.setd k6 hpe (by omega) fun H7 ad2 ik2 lb7 t7 e7 => ?_
        have u3 : nd s0 n0 ∈ insK ks2 (nd s n) := mem_insK.mpr (.inl u2)
        have inn7 := lb7.inn _ u3
        have ea := e7 _ u2
        have k7 := t7 _ _ k6
        rw [← ea]
        walk_at "stp"
        refine iteT ?_
        walk_at "stp"
        rw [show (true : Bool) = (true || hasE L (nd s0 n0) (nd s n)) from rfl]
        refine ⟨ad2 (nd s0 n0), _, rfl, .t inn7 k7 (ln (by rw [dOf_len]; have := lb7.nik _ u3; omega)), ?_⟩
        rw [put_bl]
        refine ⟨_, _, _, insK ks2 (nd s n), ad2, _, rfl, lb7.put (v := nd s n) (c := true) u3, u3, fun x => ?_, len_ins_le lk2⟩
        rw [mem_insK, mk2 x]
        unfold Nds
        constructor
        · rintro ((z | ⟨u, d, z⟩) | z)
          · exact .inl z
          · exact .inr ⟨u, d, List.mem_append_left _ z⟩
          · exact .inr ⟨nd s0 n0, true, by rw [z]; simp⟩
        · rintro (z | ⟨u, d, z⟩)
          · exact .inl (.inl z)
          · rcases List.mem_append.mp z with y | y
            · exact .inl (.inr ⟨u, d, y⟩)
            · rw [List.mem_singleton] at y
              cases y
              exact .inr rfl
      | keep =>
        rw [hg] at gk
        obtain ⟨pa, g1⟩ := gk
        walk_at "stp"
        refine mIx_t (SqT.of (lb4.same _ _ g1)) (v := .str keepS) rfl ?_
        walk_at "stp"
        rw [show (false ^^ decide (keepS = Str.ofString "not")) = false by decide +kernel]
        walk_at "stp"
        refine iteF ?_
        walk_at "stp"
        refine mIx_t (SqT.of (lb4.same _ _ g1)) (v := .str keepS) rfl ?_
        walk_at "stp"
        refine ⟨ln (by show 2 ≤ 100000; decide), fun p1 hp1 => ?_⟩
        have s5 := same_new hp1 (.tup [.str (Str.ofString "keep"), .str (Str.ofString "=")])
        have k5 : (upd Hj p1 (.tup [.str (Str.ofString "keep"), .str (Str.ofString "=")])) p1 = some (.tup ([keepS, eqS].map V.str)) := upd_same
        generalize upd Hj p1 (.tup [.str (Str.ofString "keep"), .str (Str.ofString "=")]) = H5 at s5 k5 ⊢
        walk_at "stp"
        refine nin_strs [keepS, eqS] (.inr (SqT.of k5)) ?_
        rw [show (!decide (keepS ∈ [keepS, eqS])) = false by decide +kernel]
        walk_at "stp"
        refine iteF ?_
        walk_at "stp"
        have eL : (L ++ (edG (nd s0 n0) (.keep)).toList) = L := List.append_nil L
        rw [eL]
        exact ⟨_, _, _, ks2, ad, ik, rfl, lb4.mono s5, u2, mk2, by omega⟩
      | eqs =>
        rw [hg] at gk
        obtain ⟨pa, g1⟩ := gk
        walk_at "stp"
        refine mIx_t (SqT.of (lb4.same _ _ g1)) (v := .str eqS) rfl ?_
        walk_at "stp"
        rw [show (false ^^ decide (eqS = Str.ofString "not")) = false by decide +kernel]
        walk_at "stp"
        refine iteF ?_
        walk_at "stp"
        refine mIx_t (SqT.of (lb4.same _ _ g1)) (v := .str eqS) rfl ?_
        walk_at "stp"
        refine ⟨ln (by show 2 ≤ 100000; decide), fun p1 hp1 => ?_⟩
        have s5 := same_new hp1 (.tup [.str (Str.ofString "keep"), .str (Str.ofString "=")])
        have k5 : (upd Hj p1 (.tup [.str (Str.ofString "keep"), .str (Str.ofString "=")])) p1 = some (.tup ([keepS, eqS].map V.str)) := upd_same
        generalize upd Hj p1 (.tup [.str (Str.ofString "keep"), .str (Str.ofString "=")]) = H5 at s5 k5 ⊢
        walk_at "stp"
        refine nin_strs [keepS, eqS] (.inr (SqT.of k5)) ?_
        rw [show (!decide (eqS ∈ [keepS, eqS])) = false by decide +kernel]
        walk_at "stp"
        refine iteF ?_
        walk_at "stp"
        have eL : (L ++ (edG (nd s0 n0) (.eqs)).toList) = L := List.append_nil L
        rw [eL]
        exact ⟨_, _, _, ks2, ad, ik, rfl, lb4.mono s5, u2, mk2, by omega⟩
    · obtain ⟨o5, o6, o7, ks2, ad, ik, rfl, lb4, u2, mk2, lk2⟩ := hP
      rw [List.length_map, r5.1, List.take_length] at lb4 mk2
      rw [List.length_map, r5.1] at lk2
      have e0 : eds (R.take (i + 1)) = eds (R.take i) ++ gs.filterMap (edG (nd s0 n0)) := by
        rw [take_snoc hi, eds_snoc, hr0]
        rfl
      rw [← e0] at lb4 mk2
      walk_at "stp"
      exact ⟨_, _, _, _, _, _, ks2, ad, ik, rfl, lb4, mk2, by omega⟩
  · obtain ⟨o2, o3, o4, o5, o6, o7, ks, ad, ik, rfl, lb, mk, lk⟩ := hP
    rw [List.length_map, hE.1, List.take_length] at mk lb
    rw [List.length_map, hE.1] at lk
    walk_at "stp"
    refine q p ks ad ik _ lb.same lb.top ⟨.inl lb.top, lb.inn, lb.nod, lb.mem, fun u v c he => ⟨lb.src u v c he, (mk v).mpr (.inr ⟨u, c, he⟩)⟩, by have := hF.1; omega⟩ mk
end
section
variable {P : Program} {w : World} {K : PySem.W.Frag} {mg : Str → Option Value} {base : Heap} {t : Ad}
theorem Lns.get {H : Hp} {p : Addr} {L : List (Eg W)} {ks : List W} {ad : W → Addr} {ik : W → List W} (h : Lns H p L ks ad ik) {x : W} {b : Addr} (hx : x ∈ ks) (hb : H b = some (.tup (x.map kV))) : DGet H p (.ref b) (some (.ref (ad x))) :=
  .inr ⟨_, x, b, h.top, rfl, hb, (valV_in (f := fun k => V.ref (ad k)) hx).symm⟩
theorem Lns.get2 {H : Hp} {p : Addr} {L : List (Eg W)} {ks : List W} {ad : W → Addr} {ik : W → List W} (h : Lns H p L ks ad ik) {x y : W} {b : Addr} (hx : x ∈ ks) (hy : y ∈ ik x) (hb : H b = some (.tup (y.map kV))) : DGet H (ad x) (.ref b) (some (.bl (hasE L x y))) :=
  .inr ⟨_, y, b, .inl (h.inn x hx), rfl, hb, (valV_in (f := fun v => V.bl (hasE L x v)) hy).symm⟩
theorem Rg.next {H : Hp} {p : Addr} {L : List (Eg W)} {u v : W} {qs : List (W × Addr)} (h : Rg H p L v u qs) (he : (u, v, true) ∈ L) {i : Nat} (hi : i < qs.length) :
    ∃ (x y : W × Addr), qs[i]? = some x ∧ qs[(i + 1) % qs.length]? = some y ∧ (∃ c, (x.1, y.1, c) ∈ L) ∧ (i + 1 = qs.length → (x.1, y.1, true) ∈ L) := by
  have hx : qs[i]? = some qs[i] := List.getElem?_eq_getElem hi
  by_cases e : i + 1 = qs.length
  · have h0 : 0 < qs.length := by omega
    have hl := h.la
    have hd := h.hd
    rw [List.getLast?_eq_getElem?, List.length_map, List.getElem?_map, show qs.length - 1 = i by omega, hx] at hl
    have hl : qs[i].1 = u := Option.some.inj hl
    rw [List.head?_eq_getElem?, List.getElem?_map, List.getElem?_eq_getElem h0] at hd
    have hd : qs[0].1 = v := Option.some.inj hd
    refine ⟨qs[i], qs[0], hx, ?_, ⟨true, ?_⟩, fun _ => ?_⟩
    · rw [e, Nat.mod_self]; exact List.getElem?_eq_getElem h0
    · rw [hl, hd]; exact he
    · rw [hl, hd]; exact he
  · have h1 : i + 1 < qs.length := by omega
    refine ⟨qs[i], qs[i + 1], hx, ?_, ?_, fun z => absurd z e⟩
    · rw [Nat.mod_eq_of_lt h1]; exact List.getElem?_eq_getElem h1
    · exact h.ch.get i _ _ (by rw [List.getElem?_map, hx]; rfl) (by rw [List.getElem?_map, List.getElem?_eq_getElem h1]; rfl)
theorem atI_refs {qs : List (W × Addr)} {i : Int} {n : Nat} {x : W × Addr} (e : i = (n : Int)) (h : qs[n]? = some x) : atI (qs.map fun q => V.ref q.2) i = some (.ref x.2) := by
  subst e
  have hn : n < qs.length := (List.getElem?_eq_some_iff.mp h).1
  obtain ⟨v, e1, e2⟩ := atI_lt (xs := qs.map fun q => V.ref q.2) (i := (n : Int)) (by omega) (by rw [List.length_map]; omega)
  rw [e1]
  rw [show ((n : Int)).toNat = n from rfl, List.getElem?_map, h] at e2
  exact e2.symm
theorem ok_l_ring (T : Txt K mg t)  : FnOk P w K mg base CX0 1 t.a_l_ring t.d_l_ring ["_law_leans", "_law_ring_here"] (sp_l_ring) := by
  refine T.F_l_ring.ok sc_l_ring (fun vs H Q E h => ?_) (fun cdv A outer s H vs Q E hr h => ?_)
  · unfold sp_l_ring at h
    split at h
    · rfl
    · exact h.elim
  unfold sp_l_ring at h
  split at h
  rotate_left
  · exact h.elim
  refine ⟨_, (pss_cons (ps_if (PW.pt (pw_or (pt_not (kt_tru K rfl (pe_callB (kc_is K rfl) rfl T.n_isinstance boot_isinstance (pa_con (mv 1) (pa_con (pe_bty rfl T.n_list boot_list) pa_nil))))) (pw_or (mt_cmp (ko_eqE K rfl (room150 hr)) (mv 1) (pe_lst pa_nil) (nomark _)) (pw_or1 (mt_cmp mo_ne (pe_callB mc_lenS rfl T.n_len PySem.boot_len (pa_con (pe_callTy (mc_setL rfl (room150 hr)) rfl T.n_set boot_set (pa_con (mv 1) pa_nil)) pa_nil)) (pe_callB (kc_len K rfl) rfl T.n_len PySem.boot_len (pa_con (mv 1) pa_nil)) (nomark _)))))) (pss_one (ps_ret pe_bl)) pss_nil) (pss_cons (ps_set (i := 2) sc_l_ring.nd rfl (by first | exact Or.inl rfl | exact Or.inr rfl) pe_bl) (pss_cons (ps_for PassesOwn.never rfl (pi_range1 rfl T.n_range (pa_con (pe_callB (kc_len K rfl) rfl T.n_len PySem.boot_len (pa_con (mv 1) pa_nil)) pa_nil)) (pg_name (i := 3) sc_l_ring.nd rfl (by first | exact Or.inl rfl | exact Or.inr rfl)) (pss_cons (ps_set (i := 4) (hs := sw_sub) sc_l_ring.nd rfl (by first | exact Or.inl rfl | exact Or.inr rfl) (pe_ix (ki_seq K rfl) (mv 1) (pe_op mo_mod (pe_op (ko_add K rfl) (mv 3) pe_int) (pe_callB (kc_len K rfl) rfl T.n_len PySem.boot_len (pa_con (mv 1) pa_nil))) (fun _ _ => rfl))) (pss_cons (ps_if (PW.pt (pw_or (mt_cmp (ko_ninD (hu_of hr)) (pe_ix (ki_seq K rfl) (mv 1) (mv 3) (fun _ _ => rfl)) (mv 0) (by with_unfolding_all rfl)) (pw_or1 (mt_cmp (ko_ninD (hu_of hr)) (mv 4) (pe_dget (hu_of hr) (mv 0) (pe_ix (ki_seq K rfl) (mv 1) (mv 3) (fun _ _ => rfl)) (fun _ _ => rfl)) (by with_unfolding_all rfl))))) (pss_one (ps_ret pe_bl)) pss_nil) (pss_one (ps_set (i := 2) sc_l_ring.nd rfl (by first | exact Or.inl rfl | exact Or.inr rfl) (me_or (mv 2) (pe_one (pe_dget (hu_of hr) (pe_dget (hu_of hr) (mv 0) (pe_ix (ki_seq K rfl) (mv 1) (mv 3) (fun _ _ => rfl)) (fun _ _ => rfl)) (mv 4) (fun _ _ => rfl))))))))) (pss_one (ps_ret (mv 2)))))), ?_⟩
  rename_i p q0
  obtain ⟨L, ks, ad, ik, qs, u, v, hL, rg, he, hk8, htx, q⟩ := h
  have hin : ∀ x ∈ qs, x.1 ∈ ks := fun x hx => by
    obtain ⟨i, hi, e⟩ := List.getElem_of_mem hx
    obtain ⟨x', y, h1, h2, ⟨c, h3⟩, _⟩ := rg.next he hi
    rw [List.getElem?_eq_getElem hi, e] at h1
    cases h1
    exact (hL.src _ _ _ h3).1
  have hlen : qs.length ≤ 8 := by
    have := nodup_len rg.nod (m := ks) fun y hy => by
      obtain ⟨x, hx, e⟩ := List.mem_map.mp hy
      rw [← e]
      exact hin x hx
    rw [List.length_map] at this
    omega
  have hne : qs ≠ [] := fun e => by have := rg.hd; rw [e] at this; cases this
  have hpos : 0 < qs.length := List.length_pos_iff.mpr hne
  walk_at "stp"
  refine is_lst (SqL.of rg.ls) ?_
  walk_at "stp"
  refine iteF ?_
  walk_at "stp"
  refine ⟨ln (by show 0 ≤ 100000; decide), fun p1 hp1 => ?_⟩
  have s1 := same_new hp1 (.lst [])
  have k1 : (upd H p1 (.lst [])) p1 = some (.lst []) := upd_same
  generalize upd H p1 (.lst []) = H1 at s1 k1 ⊢
  have rg1 := rg.mono s1
  walk_at "stp"
  refine ⟨q0, p1, _, rfl, rfl, SqL.of rg1.ls, SqL.of k1, ?_⟩
  rw [show (List.map (fun q : W × Addr => V.ref q.2) qs).isEmpty = false by cases qs with | nil => exact absurd rfl hne | cons _ _ => rfl]
  walk_at "stp"
  refine iteF ?_
  walk_at "stp"
  refine ⟨q0, qs, rfl, rg1.ls, hlen, rg1.nod, fun x hx => ⟨rg1.tp x hx, htx _ (hin x hx)⟩, fun p2 SL st hp2 sn => ?_⟩
  have hsl : SL.length = qs.length := by have := sn.pm.length_eq; rw [List.length_map] at this; exact this
  walk_at "stp"
  refine ⟨p2, SL, st, rfl, upd_same, sn.tb, ?_⟩
  rw [hsl]
  generalize (HO.ext (SetOb _ _ p2 SL st)) = so
  have s2 := same_new hp2 so
  generalize upd H1 p2 so = H2 at s2 ⊢
  have s12 := s1.trans s2
  have rg2 := rg.mono s12
  have hL2 := hL.mono s12
  walk_at "stp"
  refine mLen_l (SqL.of rg2.ls) ?_
  walk_at "stp"
  rw [List.length_map]
  refine iteB (fun e => absurd e (by simp)) (fun e => ?_)
  walk_at "stp"
  refine mLen_l (SqL.of rg2.ls) ?_
  walk_at "stp"
  rw [List.length_map]
  refine ⟨(qs.length : Int), rfl, by omega, by omega, ?_⟩
  refine for_row (row_range 0 (qs.length : Int).toNat) (fun i σ' Hi => ∃ (o3 o4 : Option V) (b : Bool), σ' = [some (.ref p), some (.ref q0), some (.bl b), o3, o4] ∧ Hi = H2 ∧ (i = qs.length → b = true))
    ⟨none, none, false, rfl, rfl, fun z => by omega⟩ (fun _ _ _ _ => trivial) (fun i σ' Hi hi hP => ?_) (fun σ' Hi hP => ?_)
  · obtain ⟨o3, o4, b, rfl, rfl, hb⟩ := hP
    have hi : i < qs.length := by simpa using hi
    obtain ⟨x, y, hx, hy, ⟨c, hc⟩, hlast⟩ := rg2.next he hi
    have tx := rg2.tp x (List.mem_of_getElem? hx)
    have ty := rg2.tp y (List.mem_of_getElem? hy)
    obtain ⟨ix, iy⟩ := hL2.src _ _ _ hc
    have iyk : y.1 ∈ ik x.1 := (hL2.mem _ ix _).mpr ⟨c, hc⟩
    walk_at "stp"
    refine mLen_l (SqL.of rg2.ls) ?_
    walk_at "stp"
    rw [List.length_map]
    refine m2_i (show (0 : Int) < (qs.length : Int) by omega) ?_
    walk_at "stp"
    refine mIx_l (SqL.of rg2.ls) (atI_refs (n := (i + 1) % qs.length) (by rw [Int.zero_add]; exact (Int.natCast_emod (i + 1) qs.length).symm) hy) ?_
    walk_at "stp"
    refine mIx_l (SqL.of rg2.ls) (atI_refs (n := i) (by omega) hx) ?_
    walk_at "stp"
    refine ⟨p, _, rfl, hL2.get ix tx, ?_⟩
    walk_at "stp"
    refine iteF ?_
    walk_at "stp"
    refine mIx_l (SqL.of rg2.ls) (atI_refs (n := i) (by omega) hx) ?_
    refine ⟨p, _, rfl, hL2.get ix tx, ?_⟩
    refine ⟨_, _, rfl, hL2.get2 ix iyk ty, ?_⟩
    walk_at "stp"
    refine iteF ?_
    walk_at "stp"
    cases b with
    | true =>
      refine iteT ?_
      walk_at "stp"
      exact ⟨_, _, true, rfl, rfl, fun _ => rfl⟩
    | false =>
      refine iteF ?_
      walk_at "stp"
      refine mIx_l (SqL.of rg2.ls) (atI_refs (n := i) (by omega) hx) ?_
      refine ⟨p, _, rfl, hL2.get ix tx, ?_⟩
      walk_at "stp"
      refine ⟨_, _, rfl, hL2.get2 ix iyk ty, ?_⟩
      walk_at "stp"
      exact ⟨_, _, _, rfl, rfl, fun z => hasE_iff.mpr (hlast z)⟩
  · obtain ⟨o3, o4, b, rfl, rfl, hb⟩ := hP
    have hb := hb rfl
    subst hb
    walk_at "stp"
    exact q _ s12
end
section
variable {P : Program} {w : World} {K : PySem.W.Frag} {mg : Str → Option Value} {base : Heap} {t : Ad}
theorem upd_comm {H : Hp} {a b : Addr} {o u : HO} (h : a ≠ b) : upd (upd H a o) b u = upd (upd H b u) a o := by
  funext x
  by_cases e1 : x = b
  · subst e1
    rw [upd_same, upd_ne (Ne.symm h), upd_same]
  · rw [upd_ne e1]
    by_cases e2 : x = a
    · subst e2
      rw [upd_same, upd_same]
    · rw [upd_ne e2, upd_ne e2, upd_ne e1]
theorem lyr_get {H : Hp} {d b : Addr} {ls : List W} {lam : W → Nat} {x : W} (h : H d = some (lyr ls lam)) (hx : x ∈ ls) (hb : H b = some (.tup (x.map kV))) : DGet H d (.ref b) (some (.int (lam x : Int))) :=
  .inr ⟨_, x, b, .inl h, rfl, hb, (valV_in (f := fun k => V.int (lam k : Int)) hx).symm⟩
theorem Rd.frz {G : Hp} {a d : Addr} {o : Obj} {u u' : HO} (ha : G a = some u) (hf : ∀ q z, u ≠ .frz q z) (h : Rd G d u') : Rd (upd G a (.frz o u)) d u' := by
  by_cases e : d = a
  · subst e
    rcases h with h | ⟨q, h⟩
    · rw [ha] at h
      cases h
      exact .inr ⟨o, upd_same⟩
    · rw [ha] at h
      exact absurd (Option.some.inj h) (hf q u')
  · rcases h with h | ⟨q, h⟩
    · exact .inl (by rw [upd_ne e]; exact h)
    · exact .inr ⟨q, by rw [upd_ne e]; exact h⟩
theorem DGet.frz {G : Hp} {a d : Addr} {o : Obj} {kvs : List (List Key × V)} {y : V} {r : Option V} (ha : G a = some (.dT kvs)) (h : DGet G d y r) : DGet (upd G a (.frz o (.dT kvs))) d y r := by
  rcases h with ⟨q, k, h1, h2, h3⟩ | ⟨q, k, b, h1, h2, h3, h4⟩
  · exact .inl ⟨q, k, Rd.frz ha (fun _ _ z => by cases z) h1, h2, h3⟩
  · exact .inr ⟨q, k, b, Rd.frz ha (fun _ _ z => by cases z) h1, h2, by rw [upd_ne (fun e => by rw [e, ha] at h3; cases h3)]; exact h3, h4⟩
theorem dOf_ne {ks ls : List W} {f g : W → V} {x : W} (hx : x ∈ ks) (h : ∀ a b, f a ≠ g b) : dOf ks f ≠ dOf ls g := fun e => by
  have h1 : (x, f x) ∈ dOf ks f := List.mem_map.mpr ⟨x, hx, rfl⟩
  rw [e] at h1
  obtain ⟨y, _, h2⟩ := List.mem_map.mp h1
  exact h x y (congrArg Prod.snd h2).symm
theorem Lns.npp {H : Hp} {p : Addr} {L : List (Eg W)} {ks : List W} {ad : W → Addr} {ik : W → List W} (h : Lns H p L ks ad ik) {x : W} (hx : x ∈ ks) : ad x ≠ p := fun e => by
  have h1 := h.inn x hx
  rw [e] at h1
  rcases h.top with h2 | ⟨o, h2⟩
  · rw [h1] at h2
    have := Option.some.inj h2
    injection this with this
    exact dOf_ne (f := fun k => V.ref (ad k)) (g := fun v => V.bl (hasE L x v)) hx (fun _ _ z => by cases z) this.symm
  · rw [h1] at h2
    cases h2
theorem Lns.npl {H : Hp} {p d : Addr} {L : List (Eg W)} {ks ls : List W} {ad : W → Addr} {ik : W → List W} {lam : W → Nat} (h : Lns H p L ks ad ik) {x : W} (hx : x ∈ ks) (hd : H d = some (lyr ls lam)) (hl : x ∈ ls) : d ≠ ad x := fun e => by
  rw [e, h.inn x hx] at hd
  have := Option.some.inj hd
  injection this with this
  exact dOf_ne (f := fun k => V.int (lam k : Int)) (g := fun v => V.bl (hasE L x v)) hl (fun _ _ z => by cases z) this.symm
structure LN (H0 G : Hp) (pl : Addr) (ks : List W) (qs : List (W × Addr)) : Prop where
  p0 : H0 pl = none
  same : Same H0 G
  ls : G pl = some (.lst (qs.map fun q => V.ref q.2))
  tp : ∀ q ∈ qs, G q.2 = some (.tup (q.1.map kV))
  nod : (qs.map (·.1)).Nodup
  sub : ∀ q ∈ qs, q.1 ∈ ks
theorem LN.push {H0 G : Hp} {pl : Addr} {ks : List W} {qs : List (W × Addr)} (h : LN H0 G pl ks qs) {y : W} {b : Addr} (hb : G b = some (.tup (y.map kV))) (hk : y ∈ ks) (hn : y ∉ qs.map (·.1)) : LN H0 (upd G pl (.lst ((qs ++ [(y, b)]).map fun q => V.ref q.2))) pl ks (qs ++ [(y, b)]) := by
  have ne : ∀ a xs, G a = some (HO.tup xs) → a ≠ pl := fun a xs ha e => by rw [e, h.ls] at ha; cases ha
  refine ⟨h.p0, same_put h.same h.p0, upd_same, fun q hq => ?_, ?_, fun q hq => ?_⟩
  · rcases List.mem_append.mp hq with z | z
    · rw [upd_ne (ne _ _ (h.tp q z))]; exact h.tp q z
    · rw [List.mem_singleton] at z
      subst z
      rw [upd_ne (ne _ _ hb)]; exact hb
  · rw [List.map_append, List.nodup_append]
    exact ⟨h.nod, by simp, fun a ha c hc e => hn (by simp at hc; rw [← hc, ← e]; exact ha)⟩
  · rcases List.mem_append.mp hq with z | z
    · exact h.sub q z
    · rw [List.mem_singleton] at z
      subst z
      exact hk
noncomputable def Cld (L : List (Eg W)) (lam : W → Nat) (n : Nat) (qs : List (W × Addr)) (i : Nat) : Prop := ∀ j q, j < i → qs[j]? = some q → ∀ v c, (q.1, v, c) ∈ L → ¬ (c = true ∧ lam v + 1 = n) ∧ (lam v = n → v ∈ qs.map (·.1))
noncomputable def Inn (L : List (Eg W)) (lam : W → Nat) (n : Nat) (x : W) (vs : List W) (qs : List (W × Addr)) (m : Nat) : Prop := ∀ k v, k < m → vs[k]? = some v → ¬ (hasE L x v = true ∧ lam v + 1 = n) ∧ (lam v = n → v ∈ qs.map (·.1))
theorem Cld.push {L : List (Eg W)} {lam : W → Nat} {n : Nat} {qs : List (W × Addr)} {i : Nat} (h : Cld L lam n qs i) (hi : i ≤ qs.length) (y : W × Addr) : Cld L lam n (qs ++ [y]) i := fun j q hj hq v c he => by
  rw [List.getElem?_append_left (by omega)] at hq
  obtain ⟨h1, h2⟩ := h j q hj hq v c he
  exact ⟨h1, fun z => by rw [List.map_append]; exact List.mem_append_left _ (h2 z)⟩
theorem Inn.push {L : List (Eg W)} {lam : W → Nat} {n : Nat} {x : W} {vs : List W} {qs : List (W × Addr)} {m : Nat} (h : Inn L lam n x vs qs m) (y : W × Addr) : Inn L lam n x vs (qs ++ [y]) m := fun k v hk hv => by
  obtain ⟨h1, h2⟩ := h k v hk hv
  exact ⟨h1, fun z => by rw [List.map_append]; exact List.mem_append_left _ (h2 z)⟩
theorem Inn.succ {L : List (Eg W)} {lam : W → Nat} {n : Nat} {x : W} {vs : List W} {qs : List (W × Addr)} {m : Nat} (h : Inn L lam n x vs qs m) {y : W} (hy : vs[m]? = some y) (h1 : ¬ (hasE L x y = true ∧ lam y + 1 = n)) (h2 : lam y = n → y ∈ qs.map (·.1)) : Inn L lam n x vs qs (m + 1) := fun k v hk hv => by
  by_cases e : k = m
  · subst e
    rw [hy] at hv
    cases hv
    exact ⟨h1, h2⟩
  · exact h k v (by omega) hv
theorem Cld.succ {L : List (Eg W)} {lam : W → Nat} {n : Nat} {qs : List (W × Addr)} {i : Nat} (h : Cld L lam n qs i) {x : W × Addr} (hx : qs[i]? = some x) {vs : List W} (hm : ∀ v, v ∈ vs ↔ ∃ c, (x.1, v, c) ∈ L) (hi : Inn L lam n x.1 vs qs vs.length) : Cld L lam n qs (i + 1) := fun j q hj hq v c he => by
  by_cases e : j = i
  · subst e
    rw [hx] at hq
    cases hq
    obtain ⟨k, hk⟩ := List.getElem?_of_mem ((hm v).mpr ⟨c, he⟩)
    obtain ⟨h1, h2⟩ := hi k v (List.getElem?_eq_some_iff.mp hk).1 hk
    exact ⟨fun z => h1 ⟨hasE_iff.mpr (by rw [← z.1]; exact he), z.2⟩, h2⟩
  · exact h j q (by omega) hq v c he
theorem Cld.skip {L : List (Eg W)} {lam : W → Nat} {n : Nat} {qs : List (W × Addr)} {i : Nat} (h : Cld L lam n qs i) (hi : qs.length ≤ i) : Cld L lam n qs (i + 1) := fun j q hj hq v c he => by
  have := (List.getElem?_eq_some_iff.mp hq).1
  exact h j q (by omega) hq v c he
theorem Cld.no {L : List (Eg W)} {lam : W → Nat} {u : W} {qs : List (W × Addr)} {i : Nat} (h : Cld L lam (lam u) qs i) (hl : qs.length ≤ i) (hu : u ∈ qs.map (·.1)) (s : Stb L lam) (pw : Pw L u (lam u)) (h0 : 0 < lam u) : False := by
  obtain ⟨x, y, h1, h2, h3⟩ := wit0 s pw rfl h0
  have all : ∀ a b c, a ∈ qs.map (·.1) → (a, b, c) ∈ L → ¬ (c = true ∧ lam b + 1 = lam u) ∧ (lam b = lam u → b ∈ qs.map (·.1)) := fun a b c ha he => by
    obtain ⟨q, hq, e⟩ := List.mem_map.mp ha
    obtain ⟨j, hj⟩ := List.getElem?_of_mem hq
    subst e
    exact h j q (by have := (List.getElem?_eq_some_iff.mp hj).1; omega) hj b c he
  have hx := sm_in (S := fun a => a ∈ qs.map (·.1)) (fun a b c ha he e => (all a b c ha he).2 e) h1 hu
  exact (all x y true hx h2).1 ⟨rfl, h3⟩
theorem ok_l_least (T : Txt K mg t)  : FnOk P w K mg base CX0 1 t.a_l_least t.d_l_least ["_law_leans", "_law_layers", "_law_word_here"] (sp_l_least) := by
  refine T.F_l_least.ok sc_l_least (fun vs H Q E h => ?_) (fun cdv A outer s H vs Q E hr h => ?_)
  · unfold sp_l_least at h
    split at h
    · rfl
    · exact h.elim
  unfold sp_l_least at h
  split at h
  rotate_left
  · exact h.elim
  refine ⟨_, (pss_cons (ps_set (i := 3) (hs := sw_lst) sc_l_least.nd rfl (by first | exact Or.inl rfl | exact Or.inr rfl) (pe_lst (pa_con (mv 2) pa_nil))) (pss_cons (ps_for PassesOwn.never rfl (pi_range1 rfl T.n_range (pa_con (pe_callB mc_lenD rfl T.n_len PySem.boot_len (pa_con (mv 0) pa_nil)) pa_nil)) (pg_name (i := 4) sc_l_least.nd rfl (by first | exact Or.inl rfl | exact Or.inr rfl)) (pss_one (ps_if (mt_cmp mo_lt (mv 4) (pe_callB (kc_len K rfl) rfl T.n_len PySem.boot_len (pa_con (mv 3) pa_nil)) (nomark _)) (pss_one (ps_thawT (ps_for PassesOwn.never rfl (pi_dictT (pe_dget (hu_of hr) (mv 0) (pe_ix (ki_seq K rfl) (mv 3) (mv 4) (fun _ _ => rfl)) (fun _ _ => rfl))) (pg_name (i := 5) sc_l_least.nd rfl (by first | exact Or.inl rfl | exact Or.inr rfl)) (pss_cons (ps_if (PW.pt (pw_and (kt_tru K rfl (pe_dget (hu_of hr) (pe_dget (hu_of hr) (mv 0) (pe_ix (ki_seq K rfl) (mv 3) (mv 4) (fun _ _ => rfl)) (fun _ _ => rfl)) (mv 5) (fun _ _ => rfl))) (pw_and1 (mt_cmp mo_eq (pe_dget (hu_of hr) (mv 1) (mv 5) (fun _ _ => rfl)) (pe_op mo_sub (pe_dget (hu_of hr) (mv 1) (mv 2) (fun _ _ => rfl)) pe_int) (nomark _))))) (pss_one (ps_ret pe_bl)) pss_nil) (pss_one (ps_if (PW.pt (pw_and (mt_cmp mo_eq (pe_dget (hu_of hr) (mv 1) (mv 5) (fun _ _ => rfl)) (pe_dget (hu_of hr) (mv 1) (mv 2) (fun _ _ => rfl)) (nomark _)) (pw_and1 (mt_cmp (ko_ninK (room150 hr)) (mv 5) (mv 3) (by with_unfolding_all rfl))))) (pss_one (ps_expr (ke_bm K rfl PySem.F.plainAttrs_list PySem.F.slot_list_append PySem.F.type_list_append mm_append (mv 3) (pa_con (mv 5) pa_nil)))) pss_nil)))))) pss_nil))) (pss_one (ps_ret pe_bl)))), ?_⟩
  rename_i p d a
  obtain ⟨L, ks, ad, ik, ls, lam, u, hL, hd, hsub, ha, hu, stb, pw, h0, q⟩ := h
  walk_at "stp"
  refine ⟨ln (by show 1 ≤ 100000; decide), fun pl hpl => ?_⟩
  have s1 := same_new hpl (.lst [.ref a])
  have n1 : LN H (upd H pl (.lst [.ref a])) pl ks [(u, a)] := ⟨hpl, s1, upd_same, fun q hq => by simp at hq; subst hq; exact s1 _ _ ha, by simp, fun q hq => by simp at hq; subst hq; exact hu⟩
  generalize upd H pl (.lst [.ref a]) = H1 at s1 n1 ⊢
  walk_at "stp"
  refine ⟨p, _, rfl, (hL.mono s1).top, ?_⟩
  walk_at "stp"
  rw [dOf_len]
  refine ⟨(ks.length : Int), rfl, by omega, by have := hL.few; omega, ?_⟩
  refine for_row (row_range 0 (ks.length : Int).toNat) (fun i σ' Hi => ∃ (o4 o5 : Option V) (qs : List (W × Addr)), σ' = [some (.ref p), some (.ref d), some (.ref a), some (.ref pl), o4, o5] ∧ LN H Hi pl ks qs ∧ u ∈ qs.map (·.1) ∧ Cld L lam (lam u) qs i)
    ⟨none, none, [(u, a)], rfl, n1, by simp, fun j q hj => absurd hj (Nat.not_lt_zero _)⟩ (fun _ _ _ _ => trivial) (fun i σ' Hi hi hP => ?_) (fun σ' Hi hP => ?_)
  · obtain ⟨o4, o5, qs, rfl, hN, hq, hc⟩ := hP
    have hi : i < ks.length := by simpa using hi
    have hLi := hL.mono hN.same
    walk_at "stp"
    refine mLen_l (SqL.of hN.ls) ?_
    walk_at "stp"
    rw [List.length_map]
    refine iteB (fun e => ?_) (fun e => ?_)
    · have hiq : i < qs.length := by simpa using e
      obtain ⟨x, hx⟩ : ∃ x, qs[i]? = some x := ⟨_, List.getElem?_eq_getElem hiq⟩
      have hxm := List.mem_of_getElem? hx
      have hxk := hN.sub x hxm
      walk_at "stp"
      refine iDictT_i ?_
      walk_at "stp"
      refine mIx_l (SqL.of hN.ls) (atI_refs (n := i) (by omega) hx) ?_
      refine ⟨p, _, rfl, hLi.get hxk (hN.tp x hxm), ?_⟩
      refine ⟨ad x.1, _, rfl, hLi.inn x.1 hxk, fun o ads nf hal hads => ?_⟩
      rw [dOf_len] at hal
      have hdn : ∀ G : Hp, Same H G → d ≠ ad x.1 := fun G _ => hL.npl hxk hd (hsub _ hxk)
      refine for_row row_dictT (fun m σ' Hm => ∃ (o5 : Option V) (qs' : List (W × Addr)) (G : Hp), σ' = [some (.ref p), some (.ref d), some (.ref a), some (.ref pl), some (.int (0 + i)), o5] ∧ Hm = upd G (ad x.1) (.frz o (.dT (dOf (ik x.1) fun v => .bl (hasE L x.1 v)))) ∧ LN H G pl ks qs' ∧ TS Hi G ∧ u ∈ qs'.map (·.1) ∧ qs'[i]? = some x ∧ Cld L lam (lam u) qs' i ∧ Inn L lam (lam u) x.1 (ik x.1) qs' m)
        ⟨o5, qs, Hi, rfl, rfl, hN, TS.refl _, hq, hx, hc, fun k v hk => absurd hk (Nat.not_lt_zero _)⟩ (fun m σ' Hm hP => ?_) (fun m σ' Hm hm hP => ?_) (fun σ' Hm hP => ?_)
      · obtain ⟨o5, qs', G, rfl, rfl, hN', ts, hq', hx', hc', hin⟩ := hP
        exact upd_same
      · obtain ⟨o5, qs', G, rfl, rfl, hN', ts, hq', hx', hc', hin⟩ := hP
        rw [dOf_len] at hm
        obtain ⟨y, hy⟩ : ∃ y, (ik x.1)[m]? = some y := ⟨_, List.getElem?_eq_getElem hm⟩
        obtain ⟨b, hb⟩ : ∃ b, ads[m]? = some b := ⟨_, List.getElem?_eq_getElem (by omega)⟩
        have hyi := List.mem_of_getElem? hy
        have htb : Hi b = some (.tup (y.map kV)) := hads m (y, .bl (hasE L x.1 y)) b (by unfold dOf; rw [List.getElem?_map, hy]; rfl) hb
        have htG := ts _ _ htb
        obtain ⟨c, hce⟩ := (hL.mem _ hxk y).mp hyi
        have hyk := (hL.src _ _ _ hce).2
        have hLG := hL.mono hN'.same
        have hi' := hLG.inn x.1 hxk
        have hdG := hN'.same _ _ hd
        have haG := hN'.same _ _ ha
        have hxq := List.mem_of_getElem? hx'
        have npl : pl ≠ ad x.1 := fun e => by have := hN'.ls; rw [e, hi'] at this; cases this
        have hls : upd G (ad x.1) (.frz o (.dT (dOf (ik x.1) fun v => .bl (hasE L x.1 v)))) pl = some (.lst (qs'.map fun q => V.ref q.2)) := by rw [upd_ne npl]; exact hN'.ls
        rw [hb]
        walk_at "stp"
        refine mIx_l (SqL.of hls) (atI_refs (n := i) (by omega) hx') ?_
        refine ⟨p, _, rfl, DGet.frz hi' (hLG.get hxk (hN'.tp x hxq)), ?_⟩
        refine ⟨_, _, rfl, DGet.frz hi' (hLG.get2 hxk hyi htG), ?_⟩
        have ntp : ∀ (c : Addr) (xs : List V), G c = some (.tup xs) → upd G (ad x.1) (.frz o (.dT (dOf (ik x.1) fun v => .bl (hasE L x.1 v)))) c = some (.tup xs) := fun c xs hcx => by
          rw [upd_ne (fun e => by rw [e, hi'] at hcx; cases hcx)]
          exact hcx
        walk_at "stp"
        refine iteB (fun e1 => ?_) (fun e1 => ?_)
        · walk_at "stp"
          refine ⟨d, _, rfl, DGet.frz hi' (lyr_get hdG (hsub _ hyk) htG), ?_⟩
          walk_at "stp"
          refine ⟨d, _, rfl, DGet.frz hi' (lyr_get hdG (hsub _ hu) haG), ?_⟩
          walk_at "stp"
          refine iteB (fun e2 => ?_) (fun e2 => ?_)
          · walk_at "stp"
            refine ⟨ad x.1, o, _, nf, upd_same, ?_⟩
            rw [upd_upd, upd_self hi']
            exact q G hN'.same
          · have hh : ¬ (hasE L x.1 y = true ∧ lam y + 1 = lam u) := fun z => by
              have e2' : ¬ ((lam y : Int) = (lam u : Int) - 1) := by simpa using e2
              omega
            walk_at "stp"
            refine ⟨d, _, rfl, DGet.frz hi' (lyr_get hdG (hsub _ hyk) htG), ?_⟩
            walk_at "stp"
            refine ⟨d, _, rfl, DGet.frz hi' (lyr_get hdG (hsub _ hu) haG), ?_⟩
            walk_at "stp"
            refine iteB (fun e3 => ?_) (fun e3 => ?_)
            · have e3' : lam y = lam u := by
                  have e4 : (lam y : Int) = (lam u : Int) := by simpa using e3
                  omega
              walk_at "stp"
              refine ⟨b, pl, y, qs', rfl, rfl, ntp _ _ htG, hls, fun q hq => ntp _ _ (hN'.tp q hq), ?_⟩
              walk_at "stp"
              refine iteB (fun e4 => ?_) (fun e4 => ?_)
              · have hny : y ∉ qs'.map (·.1) := fun z => by
                  obtain ⟨q, hq, e⟩ := List.mem_map.mp z
                  have e5 : (qs'.any fun q => decide (q.1 = y)) = true := List.any_eq_true.mpr ⟨q, hq, decide_eq_true e⟩
                  rw [e5] at e4
                  cases e4
                have hlq : qs'.length ≤ 100 := by
                  have := nodup_len hN'.nod (m := ks) fun y hy => by
                    obtain ⟨x, hx, e⟩ := List.mem_map.mp hy
                    rw [← e]
                    exact hN'.sub x hx
                  rw [List.length_map] at this
                  have := hL.few
                  omega
                walk_at "stp"
                refine ⟨.inl ⟨rfl, _, SqL.of hls⟩, ?_⟩
                walk_at "stp"
                refine mAppend_i hls (ln1 (by rw [List.length_map]; omega)) ?_
                rw [upd_comm (Ne.symm npl), show (List.map (fun q : W × Addr => V.ref q.2) qs' ++ [(Option.map (fun p => V.ref p) (some b)).getD V.non]) = (qs' ++ [(y, b)]).map fun q => V.ref q.2 by rw [List.map_append]; rfl]
                refine ⟨_, qs' ++ [(y, b)], _, rfl, rfl, hN'.push htG hyk hny, ts.trans (TS.upd fun xs z => by rw [hN'.ls] at z; cases z), by rw [List.map_append]; exact List.mem_append_left _ hq', ?_, hc'.push (Nat.le_of_lt (List.getElem?_eq_some_iff.mp hx').1) _, (hin.push _).succ hy hh fun _ => by rw [List.map_append]; exact List.mem_append_right _ (List.mem_singleton.mpr rfl)⟩
                rw [List.getElem?_append_left (List.getElem?_eq_some_iff.mp hx').1]
                exact hx'
              · walk_at "stp"
                have hmy : y ∈ qs'.map (·.1) := by
                  have e5 : (qs'.any fun q => decide (q.1 = y)) = true := by
                    cases e6 : (qs'.any fun q => decide (q.1 = y)) with
                    | true => rfl
                    | false => rw [e6] at e4; cases e4
                  obtain ⟨q, hq, e⟩ := List.any_eq_true.mp e5
                  exact List.mem_map.mpr ⟨q, hq, of_decide_eq_true e⟩
                exact ⟨_, qs', G, rfl, rfl, hN', ts, hq', hx', hc', hin.succ hy hh fun _ => hmy⟩
            · have e3' : ¬ lam y = lam u := by
                  have e4 : ¬ ((lam y : Int) = (lam u : Int)) := by simpa using e3
                  omega
              walk_at "stp"
              exact ⟨_, qs', G, rfl, rfl, hN', ts, hq', hx', hc', hin.succ hy hh fun z => absurd z e3'⟩
        · have hh : ¬ (hasE L x.1 y = true ∧ lam y + 1 = lam u) := fun z => by rw [z.1] at e1; cases e1
          walk_at "stp"
          refine ⟨d, _, rfl, DGet.frz hi' (lyr_get hdG (hsub _ hyk) htG), ?_⟩
          walk_at "stp"
          refine ⟨d, _, rfl, DGet.frz hi' (lyr_get hdG (hsub _ hu) haG), ?_⟩
          walk_at "stp"
          refine iteB (fun e3 => ?_) (fun e3 => ?_)
          · have e3' : lam y = lam u := by
                have e4 : (lam y : Int) = (lam u : Int) := by simpa using e3
                omega
            walk_at "stp"
            refine ⟨b, pl, y, qs', rfl, rfl, ntp _ _ htG, hls, fun q hq => ntp _ _ (hN'.tp q hq), ?_⟩
            walk_at "stp"
            refine iteB (fun e4 => ?_) (fun e4 => ?_)
            · have hny : y ∉ qs'.map (·.1) := fun z => by
                obtain ⟨q, hq, e⟩ := List.mem_map.mp z
                have e5 : (qs'.any fun q => decide (q.1 = y)) = true := List.any_eq_true.mpr ⟨q, hq, decide_eq_true e⟩
                rw [e5] at e4
                cases e4
              have hlq : qs'.length ≤ 100 := by
                have := nodup_len hN'.nod (m := ks) fun y hy => by
                  obtain ⟨x, hx, e⟩ := List.mem_map.mp hy
                  rw [← e]
                  exact hN'.sub x hx
                rw [List.length_map] at this
                have := hL.few
                omega
              walk_at "stp"
              refine ⟨.inl ⟨rfl, _, SqL.of hls⟩, ?_⟩
              walk_at "stp"
              refine mAppend_i hls (ln1 (by rw [List.length_map]; omega)) ?_
              rw [upd_comm (Ne.symm npl), show (List.map (fun q : W × Addr => V.ref q.2) qs' ++ [(Option.map (fun p => V.ref p) (some b)).getD V.non]) = (qs' ++ [(y, b)]).map fun q => V.ref q.2 by rw [List.map_append]; rfl]
              refine ⟨_, qs' ++ [(y, b)], _, rfl, rfl, hN'.push htG hyk hny, ts.trans (TS.upd fun xs z => by rw [hN'.ls] at z; cases z), by rw [List.map_append]; exact List.mem_append_left _ hq', ?_, hc'.push (Nat.le_of_lt (List.getElem?_eq_some_iff.mp hx').1) _, (hin.push _).succ hy hh fun _ => by rw [List.map_append]; exact List.mem_append_right _ (List.mem_singleton.mpr rfl)⟩
              rw [List.getElem?_append_left (List.getElem?_eq_some_iff.mp hx').1]
              exact hx'
            · walk_at "stp"
              have hmy : y ∈ qs'.map (·.1) := by
                have e5 : (qs'.any fun q => decide (q.1 = y)) = true := by
                  cases e6 : (qs'.any fun q => decide (q.1 = y)) with
                  | true => rfl
                  | false => rw [e6] at e4; cases e4
                obtain ⟨q, hq, e⟩ := List.any_eq_true.mp e5
                exact List.mem_map.mpr ⟨q, hq, of_decide_eq_true e⟩
              exact ⟨_, qs', G, rfl, rfl, hN', ts, hq', hx', hc', hin.succ hy hh fun _ => hmy⟩
          · have e3' : ¬ lam y = lam u := by
                have e4 : ¬ ((lam y : Int) = (lam u : Int)) := by simpa using e3
                omega
            walk_at "stp"
            exact ⟨_, qs', G, rfl, rfl, hN', ts, hq', hx', hc', hin.succ hy hh fun z => absurd z e3'⟩
      · obtain ⟨o5, qs', G, rfl, rfl, hN', ts, hq', hx', hc', hin⟩ := hP
        rw [dOf_len] at hin
        have hi' := (hL.mono hN'.same).inn x.1 hxk
        refine ⟨ad x.1, o, _, nf, upd_same, ?_⟩
        rw [upd_upd, upd_self hi']
        walk_at "stp"
        exact ⟨_, _, qs', rfl, hN', hq', hc'.succ hx' (hL.mem _ hxk) hin⟩
    · have hiq : qs.length ≤ i := by simpa using e
      walk_at "stp"
      exact ⟨_, _, qs, rfl, hN, hq, hc.skip hiq⟩
  · obtain ⟨o4, o5, qs, rfl, hN, hq, hc⟩ := hP
    have hl : qs.length ≤ (ks.length : Int).toNat := by
      have := nodup_len hN.nod (m := ks) fun y hy => by
        obtain ⟨x, hx, e⟩ := List.mem_map.mp hy
        rw [← e]
        exact hN.sub x hx
      rw [List.length_map] at this
      simpa using this
    exact (hc.no hl hq stb pw h0).elim
end
section
variable {P : Program} {w : World} {K : PySem.W.Frag} {mg : Str → Option Value} {base : Heap} {t : Ad}
theorem perm_of {α : Type} [DecidableEq α] {l m : List α} : l.Nodup → m.Nodup → (∀ x, x ∈ l ↔ x ∈ m) → l.Perm m := by
  induction l generalizing m with
  | nil =>
    intro _ _ h
    cases m with
    | nil => exact .nil
    | cons y m => exact absurd ((h y).mpr (List.mem_cons_self ..)) (by simp)
  | cons x l ih =>
    intro h1 h2 h
    have hx := (h x).mp (List.mem_cons_self ..)
    rw [List.nodup_cons] at h1
    refine .trans (.cons x (ih h1.2 (h2.erase x) fun y => ?_)) (List.perm_cons_erase hx).symm
    by_cases e : y = x
    · subst e
      exact ⟨fun z => absurd z h1.1, fun z => absurd z (List.Nodup.not_mem_erase h2)⟩
    · rw [List.mem_erase_of_ne e, ← h y, List.mem_cons]
      exact ⟨.inr, fun z => z.resolve_left e⟩
theorem SetW.up {P : Program} {w : World} {H H' : Hp} {ks : List (List Key)} {L : List SK} {t : SetTable} (h : SetW P w H ks L t) (s : Same H H') : SetW P w H' ks L t := ⟨h.tb, h.nd, fun e he => s _ _ (h.key e he), h.pm, h.fd, h.pl⟩
theorem ok_l_layered (T : Txt K mg t) (G_l_least : FnOk P w K mg base CX0 1 t.a_l_least t.d_l_least ["_law_leans", "_law_layers", "_law_word_here"] (sp_l_least)) : FnOk P w K mg base CX0 2 t.a_l_layered t.d_l_layered ["_law_leans", "_law_layers"] (sp_l_layered) := by
  refine T.F_l_layered.ok sc_l_layered (fun vs H Q E h => ?_) (fun cdv A outer s H vs Q E hr h => ?_)
  · unfold sp_l_layered at h
    split at h
    · rfl
    · exact h.elim
  unfold sp_l_layered at h
  split at h
  rotate_left
  · exact h.elim
  refine ⟨_, (pss_cons (ps_if (PW.pt (pw_or (pt_not (kt_tru K rfl (pe_callB kc_isDT rfl T.n_isinstance boot_isinstance (pa_con (mv 1) (pa_con (pe_bty rfl T.n_dict boot_dict) pa_nil))))) (pw_or1 (mt_cmp (ko_neS (room150 hr)) (pe_callTy (mc_setD (room150 hr)) rfl T.n_set boot_set (pa_con (mv 1) pa_nil)) (pe_callTy (mc_setD (room150 hr)) rfl T.n_set boot_set (pa_con (mv 0) pa_nil)) (nomark _))))) (pss_one (ps_ret pe_bl)) pss_nil) (pss_cons (ps_thawT (ps_for PassesOwn.never rfl (pi_dictT (mv 0)) (pg_name (i := 2) sc_l_layered.nd rfl (by first | exact Or.inl rfl | exact Or.inr rfl)) (pss_cons (ps_if (PW.pt (pw_or (pt_not (kt_tru K rfl (pe_callB (kc_is K rfl) rfl T.n_isinstance boot_isinstance (pa_con (pe_dget (hu_of hr) (mv 1) (mv 2) (fun _ _ => rfl)) (pa_con (pe_bty rfl T.n_int boot_int) pa_nil))))) (pw_or (kt_tru K rfl (pe_callB (kc_is K rfl) rfl T.n_isinstance boot_isinstance (pa_con (pe_dget (hu_of hr) (mv 1) (mv 2) (fun _ _ => rfl)) (pa_con (pe_bty rfl T.n_bool boot_bool) pa_nil)))) (pw_or1 (mt_cmp mo_lt (pe_dget (hu_of hr) (mv 1) (mv 2) (fun _ _ => rfl)) pe_int (nomark _)))))) (pss_one (ps_ret pe_bl)) pss_nil) (pss_cons (ps_thawT (ps_for PassesOwn.never rfl (pi_dictT (pe_dget (hu_of hr) (mv 0) (mv 2) (fun _ _ => rfl))) (pg_name (i := 3) sc_l_layered.nd rfl (by first | exact Or.inl rfl | exact Or.inr rfl)) (pss_one (ps_if (mt_cmp mo_lt (pe_dget (hu_of hr) (mv 1) (mv 2) (fun _ _ => rfl)) (pe_op (ko_add K rfl) (pe_dget (hu_of hr) (mv 1) (mv 3) (fun _ _ => rfl)) (pe_callTy mc_int rfl T.n_int boot_int (pa_con (pe_dget (hu_of hr) (pe_dget (hu_of hr) (mv 0) (mv 2) (fun _ _ => rfl)) (mv 3) (fun _ _ => rfl)) pa_nil))) (nomark _)) (pss_one (ps_ret pe_bl)) pss_nil)))) (pss_one (ps_if (PW.pt (pw_and (mt_cmp mo_gt (pe_dget (hu_of hr) (mv 1) (mv 2) (fun _ _ => rfl)) pe_int (nomark _)) (pw_and1 (pt_not (kt_tru K rfl (pe_call G_l_least (hr.mono (by first | decide | omega)) rfl T.m_l_least T.F_l_least.kp T.b_l_least .nil pass0 (pa_con (mv 0) (pa_con (mv 1) (pa_con (mv 2) pa_nil))))))))) (pss_one (ps_ret pe_bl)) pss_nil)))))) (pss_one (ps_ret pe_bl)))), ?_⟩
  rename_i p d
  obtain ⟨L, ks, ad, ik, ls, lam, htop, hL, hd, hnd, hm, h8, htx, stb, pw, q⟩ := h
  have hl8 : ls.length ≤ 8 := by
    have := nodup_len hnd (m := ks) fun x hx => (hm x).mpr hx
    omega
  walk_at "stp"
  refine ⟨d, _, rfl, hd, ?_⟩
  walk_at "stp"
  refine iteF ?_
  walk_at "stp"
  refine ⟨d, _, rfl, hd, by rw [dOf_len]; exact hl8, fun x hx => ?_, fun p1 S1 t1 hp1 w1 => ?_⟩
  · obtain ⟨k, hk, e⟩ := List.mem_map.mp hx
    rw [← e]
    exact htx k ((hm k).mpr hk)
  generalize hso1 : (HO.ext (SetOb _ _ p1 S1 t1)) = so1
  have s1 := same_new hp1 so1
  have k1 : (upd H p1 so1) p1 = some so1 := upd_same
  generalize upd H p1 so1 = H1 at s1 k1 ⊢
  walk_at "stp"
  refine ⟨p, _, rfl, s1 _ _ htop, by rw [dOf_len]; exact h8, fun x hx => ?_, fun p2 S2 t2 hp2 w2 => ?_⟩
  · obtain ⟨k, hk, e⟩ := List.mem_map.mp hx
    rw [← e]
    exact htx k hk
  generalize hso2 : (HO.ext (SetOb _ _ p2 S2 t2)) = so2
  have s2 := same_new hp2 so2
  have k2 : (upd H1 p2 so2) p2 = some so2 := upd_same
  generalize upd H1 p2 so2 = H2 at s2 k2 ⊢
  have s12 := s1.trans s2
  have w2' := SetW.up w2 s2
  have w1' := SetW.up w1 s12
  rw [dOf_keys] at w1' w2'
  have pm := perm_of hL.nod hnd hm
  refine ⟨p1, p2, ls, S1, S2, t1, t2, rfl, rfl, by rw [hso1]; exact s2 _ _ k1, by rw [hso2]; exact k2, w1', ⟨w2'.tb, w2'.nd, w2'.key, w2'.pm.trans pm, w2'.fd, w2'.pl⟩, ?_⟩
  walk_at "stp"
  refine iteF ?_
  walk_at "stp"
  have hd2 := s12 _ _ hd
  have hL2 := hL.mono s12
  refine iDictT_i ?_
  walk_at "stp"
  refine ⟨p, _, rfl, s12 _ _ htop, fun o ads nf hal hads => ?_⟩
  rw [dOf_len] at hal
  have hfp : upd H2 p (.frz o (.dT (dOf ks fun k => V.ref (ad k)))) p = some (.frz o (.dT (dOf ks fun k => V.ref (ad k)))) := upd_same
  have hLf : Lns (upd H2 p (.frz o (.dT (dOf ks fun k => V.ref (ad k))))) p L ks ad ik := ⟨.inr ⟨o, hfp⟩, fun u hu => by rw [upd_ne (hL2.npp hu)]; exact hL2.inn u hu, hL.nod, hL.mem, hL.src, hL.few⟩
  have hdf : ∀ x, x ∈ ks → upd H2 p (.frz o (.dT (dOf ks fun k => V.ref (ad k)))) d = some (lyr ls lam) := fun x hx => by
    rw [upd_ne (fun e => by
      rw [e, htop] at hd
      have := Option.some.inj hd
      injection this with this
      exact dOf_ne (f := fun k => V.ref (ad k)) (g := fun v => V.int (lam v : Int)) hx (fun _ _ z => by cases z) this)]
    exact hd2
  have htf : ∀ b xs, H2 b = some (HO.tup xs) → upd H2 p (.frz o (.dT (dOf ks fun k => V.ref (ad k)))) b = some (HO.tup xs) := fun b xs hb => by
    rw [upd_ne (fun e => by rw [e, s12 _ _ htop] at hb; cases hb)]
    exact hb
  have hbk : ∀ G, Same (upd H2 p (.frz o (.dT (dOf ks fun k => V.ref (ad k))))) G → Same H (upd G p (.dT (dOf ks fun k => V.ref (ad k)))) := fun G sg b ob hb => by
    by_cases e : b = p
    · subst e
      rw [htop] at hb
      cases hb
      exact upd_same
    · rw [upd_ne e]
      exact sg _ _ (by rw [upd_ne e]; exact s12 _ _ hb)
  generalize upd H2 p (.frz o (.dT (dOf ks fun k => V.ref (ad k)))) = Hf at hfp hLf hdf htf hbk ⊢
  refine for_row row_dictT (fun i σ' Hi => ∃ (o2 o3 : Option V), σ' = [some (.ref p), some (.ref d), o2, o3] ∧ Same Hf Hi) ⟨none, none, rfl, Same.refl _⟩ (fun i σ' Hi hP => ?_) (fun i σ' Hi hi hP => ?_) (fun σ' Hi hP => ?_)
  · obtain ⟨o2, o3, rfl, si⟩ := hP
    exact si _ _ hfp
  · obtain ⟨o2, o3, rfl, si⟩ := hP
    rw [dOf_len] at hi
    obtain ⟨x, hx⟩ : ∃ x, ks[i]? = some x := ⟨_, List.getElem?_eq_getElem hi⟩
    obtain ⟨b, hb⟩ : ∃ b, ads[i]? = some b := ⟨_, List.getElem?_eq_getElem (by omega)⟩
    have hxk := List.mem_of_getElem? hx
    have htb := si _ _ (htf _ _ (hads i (x, .ref (ad x)) b (by unfold dOf; rw [List.getElem?_map, hx]; rfl) hb))
    have hLi := hLf.mono si
    have hdi := si _ _ (hdf x hxk)
    have hgx := lyr_get hdi ((hm x).mp hxk) htb
    rw [hb]
    walk_at "stp"
    refine ⟨d, _, rfl, hgx, ?_⟩
    walk_at "stp"
    refine iteF ?_
    walk_at "stp"
    refine ⟨d, _, rfl, hgx, ?_⟩
    walk_at "stp"
    refine iteF ?_
    walk_at "stp"
    refine ⟨d, _, rfl, hgx, ?_⟩
    walk_at "stp"
    refine iteB (fun e => absurd (of_decide_eq_true e) (by omega)) (fun e => ?_)
    walk_at "stp"
    refine iDictT_i ?_
    walk_at "stp"
    refine ⟨p, _, rfl, hLi.get hxk htb, ?_⟩
    refine ⟨ad x, _, rfl, hLi.inn x hxk, fun o' ads' nf' hal' hads' => ?_⟩
    rw [dOf_len] at hal'
    have hi' := hLi.inn x hxk
    refine for_row row_dictT (fun m σ' Hm => ∃ (o3 : Option V), σ' = [some (.ref p), some (.ref d), some (.ref b), o3] ∧ Hm = upd Hi (ad x) (.frz o' (.dT (dOf (ik x) fun v => .bl (hasE L x v))))) ⟨o3, rfl, rfl⟩ (fun m σ' Hm hP => ?_) (fun m σ' Hm hmm hP => ?_) (fun σ' Hm hP => ?_)
    · obtain ⟨o3, rfl, rfl⟩ := hP
      exact upd_same
    · obtain ⟨o3, rfl, rfl⟩ := hP
      rw [dOf_len] at hmm
      obtain ⟨y, hy⟩ : ∃ y, (ik x)[m]? = some y := ⟨_, List.getElem?_eq_getElem hmm⟩
      obtain ⟨c, hc⟩ : ∃ c, ads'[m]? = some c := ⟨_, List.getElem?_eq_getElem (by omega)⟩
      have hyi := List.mem_of_getElem? hy
      have htc : Hi c = some (.tup (y.map kV)) := hads' m (y, .bl (hasE L x y)) c (by unfold dOf; rw [List.getElem?_map, hy]; rfl) hc
      obtain ⟨f, hce⟩ := (hL.mem _ hxk y).mp hyi
      have hyk := (hL.src _ _ _ hce).2
      have hle : lam y + (if hasE L x y then 1 else 0) ≤ lam x := by
        cases eh : hasE L x y with
        | true => exact stb _ _ _ (hasE_iff.mp eh)
        | false => have := stb _ _ _ hce; simp; omega
      rw [hc]
      walk_at "stp"
      refine ⟨d, _, rfl, DGet.frz hi' hgx, ?_⟩
      walk_at "stp"
      refine ⟨d, _, rfl, DGet.frz hi' (lyr_get hdi ((hm y).mp hyk) htc), ?_⟩
      walk_at "stp"
      refine ⟨p, _, rfl, DGet.frz hi' (hLi.get hxk htb), ?_⟩
      walk_at "stp"
      refine ⟨_, _, rfl, DGet.frz hi' (hLi.get2 hxk hyi htc), ?_⟩
      walk_at "stp"
      refine iteB (fun e => ?_) (fun e => ?_)
      · have e := of_decide_eq_true e
        exfalso
        cases eh : hasE L x y with
        | true => rw [eh] at e hle; simp at e hle; omega
        | false => rw [eh] at e hle; simp at e hle; omega
      walk_at "stp"
      exact ⟨_, rfl, rfl⟩
    · obtain ⟨o3, rfl, rfl⟩ := hP
      refine ⟨ad x, o', _, nf', upd_same, ?_⟩
      rw [upd_upd, upd_self hi']
      walk_at "stp"
      refine ⟨d, _, rfl, hgx, ?_⟩
      walk_at "stp"
      refine iteB (fun e => ?_) (fun e => ?_)
      · have h0 : 0 < lam x := by have := of_decide_eq_true e; omega
        walk_at "stp"
        refine ⟨L, ks, ad, ik, ls, lam, x, hLi, hdi, fun z hz => (hm z).mp hz, htb, hxk, stb, pw x, h0, fun H' s' => ?_⟩
        walk_at "stp"
        refine iteF ?_
        walk_at "stp"
        exact ⟨_, _, rfl, si.trans s'⟩
      · walk_at "stp"
        exact ⟨_, _, rfl, si⟩
  · obtain ⟨o2, o3, rfl, si⟩ := hP
    refine ⟨p, o, _, nf, si _ _ hfp, ?_⟩
    walk_at "stp"
    exact q _ (hbk _ si)
end
section
variable {P : Program} {w : World} {K : PySem.W.Frag} {mg : Str → Option Value} {base : Heap} {t : Ad}
noncomputable def lt (i : Int) : Nat := 97 + i.toNat
theorem small_cps : smallS.cps.toList = (List.range 26).map (97 + ·) := by decide +kernel
theorem lt_at {i : Int} (h0 : 0 ≤ i) (h1 : i < 26) : atI smallS.cps.toList i = some (lt i) := by
  obtain ⟨v, e1, e2⟩ := atI_lt (xs := smallS.cps.toList) (i := i) h0 (by rw [small_cps]; simp; omega)
  rw [e1]
  rw [small_cps, List.getElem?_map, List.getElem?_range (by omega)] at e2
  exact e2.symm
theorem in_low : ∀ n < 26, inner (one (97 + n)) = true ∧ inS (one (97 + n)) smallS = true := by decide +kernel
noncomputable def zs (bs : List Int) (at_ : Int) (k : Int) (j : Nat) : List Nat := (List.range j).map fun m => lt ((bs.getD m 0 + k * (if (m : Int) = at_ then 1 else 0)) % 26)
theorem zs_len (bs : List Int) (at_ k : Int) (j : Nat) : (zs bs at_ k j).length = j := by simp [zs]
theorem zs_succ (bs : List Int) (at_ k : Int) (j : Nat) : zs bs at_ k (j + 1) = zs bs at_ k j ++ [lt ((bs.getD j 0 + k * (if (j : Int) = at_ then 1 else 0)) % 26)] := by
  unfold zs
  rw [List.range_succ, List.map_append]
  rfl
theorem zs_low {bs : List Int} {at_ k : Int} {j : Nat} : ∀ c ∈ zs bs at_ k j, ∃ n, n < 26 ∧ c = 97 + n := fun c hc => by
  obtain ⟨m, _, e⟩ := List.mem_map.mp hc
  refine ⟨((bs.getD m 0 + k * (if (m : Int) = at_ then 1 else 0)) % 26).toNat, ?_, e.symm⟩
  omega
theorem zs_inj {bs : List Int} {at_ : Int} {i k : Int} {j : Nat} (h0 : 0 ≤ at_) (h1 : at_ < j) (hi : 0 ≤ i ∧ i < 5) (hk : 0 ≤ k ∧ k < 5) (e : zs bs at_ i j = zs bs at_ k j) : i = k := by
  have h2 : at_.toNat < j := by omega
  have h3 : ((at_.toNat : Nat) : Int) = at_ := by omega
  have e1 : (zs bs at_ i j)[at_.toNat]? = (zs bs at_ k j)[at_.toNat]? := by rw [e]
  unfold zs at e1
  rw [List.getElem?_map, List.getElem?_map, List.getElem?_range h2, Option.map_some, Option.map_some, h3, if_pos rfl] at e1
  have e2 := Option.some.inj e1
  unfold lt at e2
  omega
noncomputable abbrev bad3 : List Str := [keepS, notS, Str.ofString "infix"]
noncomputable def sOf (z : List Nat) : Str := ⟨z.toArray⟩
theorem sOf_inj {y z : List Nat} (h : sOf y = sOf z) : y = z := by
  unfold sOf at h
  have := congrArg Str.cps h
  simpa using this
theorem sOf_snoc (z : List Nat) (c : Nat) : sOf z ++ (⟨#[c]⟩ : Str) = sOf (z ++ [c]) := by
  show (⟨z.toArray ++ #[c]⟩ : Str) = ⟨(z ++ [c]).toArray⟩
  simp
theorem sOf_len (z : List Nat) : (sOf z).length = z.length := by simp [sOf, Str.length]
noncomputable def fz (z : List Nat) : List Nat := if sOf z ∈ bad3 then z ++ [51] else z
theorem fz_eq (z : List Nat) : sOf (fz z) = if sOf z ∈ bad3 then sOf z ++ Str.ofString "3" else sOf z := by
  unfold fz
  split
  · exact (sOf_snoc z 51).symm
  · rfl
theorem fz_inj {y z : List Nat} (hl : y.length = z.length) (h : sOf (fz y) = sOf (fz z)) : y = z := by
  have h := sOf_inj h
  unfold fz at h
  by_cases a : sOf y ∈ bad3 <;> by_cases b : sOf z ∈ bad3
  · rw [if_pos a, if_pos b] at h
    exact List.append_cancel_right h
  · rw [if_pos a, if_neg b] at h
    have := congrArg List.length h
    simp at this
    omega
  · rw [if_neg a, if_pos b] at h
    have := congrArg List.length h
    simp at this
    omega
  · rw [if_neg a, if_neg b] at h
    exact h
theorem wd_of {z : List Nat} (h1 : 1 ≤ z.length) (h2 : z.length ≤ 8) (hz : ∀ c ∈ z, ∃ n, n < 26 ∧ c = 97 + n) : Wd (sOf (fz z)) := by
  have key : ∀ y : List Nat, 1 ≤ y.length → y.length ≤ 9 → (∀ c ∈ y, inner (one c) = true) → (∃ n, n < 26 ∧ y.head? = some (97 + n)) → called (sOf y) smallS = true := by
    intro y a b c ⟨n, hn, hd⟩
    cases y with
    | nil => simp at a
    | cons x r =>
      have hx : x = 97 + n := by simpa using hd
      unfold called
      rw [sOf_len, show fst (sOf (x :: r)) = one x from rfl, show one x = one (97 + n) by rw [hx], (in_low n hn).2, decide_eq_true (show (1 : Int) ≤ ((x :: r).length : Int) by omega), decide_eq_true (show ((x :: r).length : Int) ≤ 12 by omega)]
      show (true && (true && (sOf (x :: r)).cps.toList.all fun c => inner (one c))) = true
      rw [Bool.true_and, Bool.true_and, List.all_eq_true]
      intro w hw
      exact c w hw
  have inl : ∀ c ∈ z, inner (one c) = true := fun c hc => by
    obtain ⟨n, hn, rfl⟩ := hz c hc
    exact (in_low n hn).1
  have hhd : ∃ n, n < 26 ∧ z.head? = some (97 + n) := by
    cases z with
    | nil => simp at h1
    | cons x r =>
      obtain ⟨n, hn, e⟩ := hz x (List.mem_cons_self ..)
      exact ⟨n, hn, by rw [e]; rfl⟩
  have cl : called (sOf (fz z)) smallS = true := by
    unfold fz
    split
    · refine key _ (by simp) (by simp; omega) (fun c hc => ?_) ?_
      · rcases List.mem_append.mp hc with e | e
        · exact inl c e
        · rw [List.mem_singleton] at e
          rw [e]
          decide +kernel
      · obtain ⟨n, hn, e⟩ := hhd
        refine ⟨n, hn, ?_⟩
        cases z with
        | nil => simp at h1
        | cons x r => exact e
    · exact key _ h1 (by omega) inl hhd
  have ne : ∀ w ∈ [keepS, notS], sOf (fz z) ≠ w := by
    intro w hw e
    rw [fz_eq] at e
    by_cases a : sOf z ∈ bad3
    · rw [if_pos a] at e
      have : ∀ x ∈ bad3, ∀ w ∈ [keepS, notS], x ++ Str.ofString "3" ≠ w := by decide +kernel
      exact this _ a w hw e
    · rw [if_neg a] at e
      rw [e] at a
      simp only [List.mem_cons, List.not_mem_nil, or_false] at hw
      rcases hw with rfl | rfl
      · exact a (by simp)
      · exact a (by simp)
  refine ⟨cl, ne _ (by simp), ne _ (by simp), fun e => ?_, ?_⟩
  · rw [e] at cl
    exact absurd cl (by decide +kernel)
  · rw [sOf_len]
    unfold fz
    split
    · simp; omega
    · omega
theorem ok_l_words (T : Txt K mg t) (G_l_pick : FnOk P w K mg base CX0 1 t.a_l_pick t.d_l_pick ["_law_cell", "_law_k", "_law_many"] (sp_l_pick)) : FnOk P w K mg base CX0 2 t.a_l_words t.d_l_words ["_law_cell"] (sp_l_words K) := by
  refine T.F_l_words.ok sc_l_words (fun vs H Q E h => ?_) (fun cdv A outer s H vs Q E hr h => ?_)
  · unfold sp_l_words at h
    split at h
    · rfl
    · exact h.elim
  unfold sp_l_words at h
  split at h
  rotate_left
  · exact h.elim
  refine ⟨_, (pss_cons (ps_set (i := 1) sc_l_words.nd rfl (by first | exact Or.inl rfl | exact Or.inr rfl) pe_str) (pss_cons (ps_comp (i := 2) sc_l_words.nd rfl (by first | exact Or.inl rfl | exact Or.inr rfl) rfl (pi_range1 rfl T.n_range (pa_con (pe_op (ko_add K rfl) pe_int (pe_call G_l_pick (hr.mono (by first | decide | omega)) rfl T.m_l_pick T.F_l_pick.kp T.b_l_pick .nil pass0 (pa_con (mv 0) (pa_con pe_int (pa_con pe_int pa_nil))))) pa_nil)) (comp_sc (defScope s_l_words) ["_law_cell", "_law_letters", "_law_base", "_law_at", "_law_words_here", "_law_k", "_law_word_here", "_law_j"] ["_law_cell", "_law_letters", "_law_base", "_law_at", "_law_words_here", "%_law_k", "_law_word_here", "_law_j"] rfl rfl (by decide +kernel)) (fun _ _ _ _ _ => pts_nil) (fun _ _ _ _ _ => (pe_call G_l_pick (hr.mono (by first | decide | omega)) rfl T.m_l_pick T.F_l_pick.kp T.b_l_pick .nil pass0 (pa_con (mv 1) (pa_con (mv 0) (pa_con pe_int pa_nil)))))) (pss_cons (ps_set (i := 3) (hs := sw_call) sc_l_words.nd rfl (by first | exact Or.inl rfl | exact Or.inr rfl) (pe_call G_l_pick (hr.mono (by first | decide | omega)) rfl T.m_l_pick T.F_l_pick.kp T.b_l_pick .nil pass0 (pa_con (mv 0) (pa_con pe_int (pa_con (pe_callB (kc_len K rfl) rfl T.n_len PySem.boot_len (pa_con (mv 2) pa_nil)) pa_nil))))) (pss_cons (ps_set (i := 4) (hs := sw_lst) sc_l_words.nd rfl (by first | exact Or.inl rfl | exact Or.inr rfl) (pe_lst pa_nil)) (pss_cons (ps_for PassesOwn.never rfl (pi_range1 rfl T.n_range (pa_con pe_int pa_nil)) (pg_name (i := 5) sc_l_words.nd rfl (by first | exact Or.inl rfl | exact Or.inr rfl)) (pss_cons (ps_set (i := 6) sc_l_words.nd rfl (by first | exact Or.inl rfl | exact Or.inr rfl) pe_str) (pss_cons (ps_for PassesOwn.never rfl (pi_range1 rfl T.n_range (pa_con (pe_callB (kc_len K rfl) rfl T.n_len PySem.boot_len (pa_con (mv 2) pa_nil)) pa_nil)) (pg_name (i := 7) sc_l_words.nd rfl (by first | exact Or.inl rfl | exact Or.inr rfl)) (pss_one (ps_set (i := 6) (hs := sw_bin) sc_l_words.nd rfl (by first | exact Or.inl rfl | exact Or.inr rfl) (pe_op (ko_add K rfl) (mv 6) (pe_ix (ki_seq K rfl) (mv 1) (pe_op mo_mod (pe_op (ko_add K rfl) (pe_ix (ki_seq K rfl) (mv 2) (mv 7) (fun _ _ => rfl)) (pe_op mo_mul (mv 5) (pe_callTy mc_int rfl T.n_int boot_int (pa_con (pe_cmpR mo_eq (mv 7) (mv 3) (nomark _)) pa_nil)))) pe_int) (fun _ _ => rfl)))))) (pss_cons (ps_if (mt_cmp (ko_inV K rfl) (mv 6) (pe_tup (pa_con pe_str (pa_con pe_str (pa_con pe_str pa_nil)))) (by with_unfolding_all rfl)) (pss_one (ps_set (i := 6) (hs := sw_bin) sc_l_words.nd rfl (by first | exact Or.inl rfl | exact Or.inr rfl) (pe_op (ko_add K rfl) (mv 6) pe_str))) pss_nil) (pss_one (ps_expr (ke_bm K rfl PySem.F.plainAttrs_list PySem.F.slot_list_append PySem.F.type_list_append mm_append (mv 4) (pa_con (mv 6) pa_nil)))))))) (pss_one (ps_ret (mv 4)))))))), ?_⟩
  rename_i c
  walk_at "stp"
  refine ⟨by decide, by decide, by decide, fun n H1 n0 n1 s1 => ?_⟩
  walk_at "stp"
  refine ⟨1 + n, rfl, by omega, by omega, ?_⟩
  intro D hD
  refine comp_row (row_range 0 (1 + n).toNat) (fun i ys Hi => Same H1 Hi ∧ (∃ bs : List Int, ys = bs.map V.int) ∧ Hi D = some (.lst ys)) (ln (by omega)) ⟨same_new hD _, ⟨[], rfl⟩, upd_same⟩ (fun _ _ _ _ => trivial) (fun i ys Hi Q' hi hl hP kk => ?_) (fun ys Hi hl hP => ?_)
  · obtain ⟨si, ⟨bs, rfl⟩, kD⟩ := hP
    walk_at "stp"
    refine ⟨by omega, by omega, by decide, fun v H2 v0 v1 s2 => ?_⟩
    refine kk _ _ (s2 _ _ kD) ⟨same_put (si.trans s2) hD, ⟨bs ++ [v], by simp⟩, upd_same⟩
  obtain ⟨si, ⟨bs, rfl⟩, kD⟩ := hP
  have hbs : bs.length = (1 + n).toNat := by simpa using hl
  walk_at "stp"
  refine mLen_l (SqL.of kD) ?_
  walk_at "stp"
  rw [List.length_map]
  refine ⟨by decide, by decide, by omega, fun at_ H3 a0 a1 s3 => ?_⟩
  walk_at "stp"
  refine ⟨ln (by show 0 ≤ 100000; decide), fun pw hpw => ?_⟩
  have s4 := same_new hpw (.lst [])
  have k4 : (upd H3 pw (.lst [])) pw = some (.lst []) := upd_same
  generalize upd H3 pw (.lst []) = H4 at s4 k4 ⊢
  walk_at "stp"
  refine ⟨5, rfl, by decide, by decide, ?_⟩
  have sD : Same H1 H4 := si.trans (s3.trans s4)
  have kD4 : H4 D = some (.lst (bs.map V.int)) := s4 _ _ (s3 _ _ kD)
  refine for_row (row_range 0 (5 : Int).toNat) (fun k σ' Hk => ∃ (o5 o6 o7 : Option V), σ' = [some (.int c), some (.str smallS), some (.ref D), some (.int at_), some (.ref pw), o5, o6, o7] ∧ Same H3 Hk ∧ Hk pw = some (.lst (((List.range k).map fun i : Nat => sOf (fz (zs bs at_ (i : Int) bs.length))).map V.str)))
    ⟨none, none, none, rfl, s4, k4⟩ (fun _ _ _ _ => trivial) (fun k σ' Hk hk hP => ?_) (fun σ' Hk hP => ?_)
  · obtain ⟨o5, o6, o7, rfl, sk, kk⟩ := hP
    have hk : k < 5 := hk
    walk_at "stp"
    refine mLen_l (SqL.of (sk _ _ (s3 _ _ kD))) ?_
    walk_at "stp"
    rw [List.length_map]
    refine ⟨(bs.length : Int), rfl, by omega, by omega, ?_⟩
    refine for_row (row_range 0 (bs.length : Int).toNat) (fun j σ' Hj => ∃ (o7 : Option V), σ' = [some (.int c), some (.str smallS), some (.ref D), some (.int at_), some (.ref pw), some (.int (0 + (k : Int))), some (.str (sOf (zs bs at_ (0 + (k : Int)) j))), o7] ∧ Hj = Hk)
      ⟨o7, rfl, rfl⟩ (fun _ _ _ _ => trivial) (fun j σ' Hj hj hP => ?_) (fun σ' Hj hP => ?_)
    · obtain ⟨o7, rfl, rfl⟩ := hP
      have hj : j < bs.length := by simpa using hj
      walk_at "stp"
      have hb : atI (bs.map V.int) (0 + (j : Int)) = some (.int (bs.getD j 0)) := by
        obtain ⟨v, e1, e2⟩ := atI_lt (xs := bs.map V.int) (i := 0 + (j : Int)) (by omega) (by rw [List.length_map]; omega)
        rw [e1]
        rw [show (0 + (j : Int)).toNat = j by omega, List.getElem?_map, List.getElem?_eq_getElem hj] at e2
        rw [List.getD_eq_getElem?_getD, List.getElem?_eq_getElem hj]
        exact e2.symm
      refine mIx_l (SqL.of (sk _ _ (s3 _ _ kD))) hb ?_
      walk_at "stp"
      refine mMul_i (mulOk_left (by omega)) ?_
      walk_at "stp"
      refine mIx_s (ln (by decide +kernel)) (lt_at (Int.emod_nonneg _ (by decide)) (Int.emod_lt_of_pos _ (by decide))) ?_
      walk_at "stp"
      refine mAdd_s (ln (by rw [sOf_len, zs_len]; show j + 1 ≤ 100000; omega)) ?_
      walk_at "stp"
      refine ⟨some (.int (0 + (j : Int))), ?_, rfl⟩
      rw [sOf_snoc, zs_succ]
      simp only [Int.zero_add, Bool.false_xor, decide_eq_true_eq]
      rfl
    · obtain ⟨o7, rfl, rfl⟩ := hP
      have e0 : (bs.length : Int).toNat = bs.length := rfl
      rw [e0]
      have ez : (0 + (k : Int)) = (k : Int) := by omega
      rw [ez]
      walk_at "stp"
      refine ⟨ln (by show 3 ≤ 100000; decide), fun p5 hp5 => ?_⟩
      have s5 := same_new hp5 (.tup [.str (Str.ofString "keep"), .str (Str.ofString "not"), .str (Str.ofString "infix")])
      have k5 : (upd Hj p5 (.tup [.str (Str.ofString "keep"), .str (Str.ofString "not"), .str (Str.ofString "infix")])) p5 = some (.tup (bad3.map V.str)) := upd_same
      generalize upd Hj p5 (.tup [.str (Str.ofString "keep"), .str (Str.ofString "not"), .str (Str.ofString "infix")]) = H5 at s5 k5 ⊢
      walk_at "stp"
      refine in_strs bad3 (.inr (SqT.of k5)) ?_
      have fin : ∀ w : Str, w = sOf (fz (zs bs at_ (k : Int) bs.length)) → (Same H3 (upd H5 pw (.lst (((List.range k).map fun i : Nat => sOf (fz (zs bs at_ (i : Int) bs.length))).map V.str ++ [.str w]))) ∧ (upd H5 pw (.lst (((List.range k).map fun i : Nat => sOf (fz (zs bs at_ (i : Int) bs.length))).map V.str ++ [.str w]))) pw = some (.lst (((List.range (k + 1)).map fun i : Nat => sOf (fz (zs bs at_ (i : Int) bs.length))).map V.str))) := fun w e => by
        refine ⟨same_put (sk.trans s5) hpw, ?_⟩
        rw [upd_same, List.range_succ, e]
        simp
      walk_at "stp"
      refine iteB (fun e => ?_) (fun e => ?_)
      · have e : sOf (zs bs at_ (k : Int) bs.length) ∈ bad3 := of_decide_eq_true e
        walk_at "stp"
        refine mAdd_s (ln (by rw [sOf_len, zs_len]; show bs.length + 1 ≤ 100000; omega)) ?_
        walk_at "stp"
        refine ⟨.inl ⟨rfl, _, SqL.of (s5 _ _ kk)⟩, ?_⟩
        walk_at "stp"
        refine mAppend_i (s5 _ _ kk) (ln (by simp; omega)) ?_
        walk_at "stp"
        obtain ⟨f1, f2⟩ := fin (sOf (zs bs at_ (k : Int) bs.length) ++ Str.ofString "3") (by rw [fz_eq, if_pos e])
        exact ⟨_, _, _, rfl, f1, f2⟩
      · have e : ¬ sOf (zs bs at_ (k : Int) bs.length) ∈ bad3 := of_decide_eq_false e
        walk_at "stp"
        refine ⟨.inl ⟨rfl, _, SqL.of (s5 _ _ kk)⟩, ?_⟩
        walk_at "stp"
        refine mAppend_i (s5 _ _ kk) (ln (by simp; omega)) ?_
        walk_at "stp"
        obtain ⟨f1, f2⟩ := fin (sOf (zs bs at_ (k : Int) bs.length)) (by rw [fz_eq, if_neg e])
        exact ⟨_, _, _, rfl, f1, f2⟩
  · obtain ⟨o5, o6, o7, rfl, sk, kk⟩ := hP
    walk_at "stp"
    have kk : Hk pw = some (.lst (((List.range 5).map fun i : Nat => sOf (fz (zs bs at_ (i : Int) bs.length))).map V.str)) := kk
    refine h pw _ _ (s1.trans (si.trans (s3.trans sk))) kk (by simp) ?_ fun w hw => ?_
    · rw [List.nodup_iff_pairwise_ne, List.pairwise_map]
      refine (List.nodup_iff_pairwise_ne.mp List.nodup_range).imp_of_mem ?_
      intro i j hi hj hne e
      rw [List.mem_range] at hi hj
      refine hne ?_
      have := zs_inj (bs := bs) (j := bs.length) a0 (by omega) (i := (i : Int)) (k := (j : Int)) (by omega) (by omega) (fz_inj (by rw [zs_len, zs_len]) e)
      omega
    · obtain ⟨i, _, e⟩ := List.mem_map.mp hw
      rw [← e]
      exact wd_of (by rw [zs_len]; omega) (by rw [zs_len]; omega) zs_low
end
section
variable {P : Program} {w : World} {K : PySem.W.Frag} {mg : Str → Option Value} {base : Heap} {t : Ad}
theorem ok_l_rules (T : Txt K mg t) (G_l_pick : FnOk P w K mg base CX0 1 t.a_l_pick t.d_l_pick ["_law_cell", "_law_k", "_law_many"] (sp_l_pick)) (G_l_cell_at : FnOk P w K mg base CX0 1 t.a_l_cell_at t.d_l_cell_at ["_law_script", "_law_k"] (sp_l_cell_at K)) (G_l_word : FnOk P w K mg base CX0 2 t.a_l_word t.d_l_word ["_law_cell", "_law_k", "_law_words_here", "_law_low"] (sp_l_word)) (G_l_goal : FnOk P w K mg base CX0 1 t.a_l_goal t.d_l_goal ["_law_word_here"] (sp_l_goal)) : FnOk P w K mg base CX0 3 t.a_l_rules t.d_l_rules ["_law_script", "_law_words_here", "_law_way"] (sp_l_rules K) := by
  refine T.F_l_rules.ok sc_l_rules (fun vs H Q E h => ?_) (fun cdv A outer s H vs Q E hr h => ?_)
  · unfold sp_l_rules at h
    split at h
    · rfl
    · exact h.elim
  unfold sp_l_rules at h
  split at h
  rotate_left
  · exact h.elim
  refine ⟨_, (@QSs.pss _ _ _ (qss_cons (qs_of (ps_set (i := 3) (hs := sw_lst) sc_l_rules.nd rfl (by first | exact Or.inl rfl | exact Or.inr rfl) (pe_lst pa_nil))) (qss_cons (qs_for PassesOwn.never rfl (pi_range1 rfl T.n_range (pa_con (pe_call G_l_pick (hr.mono (by first | decide | omega)) rfl T.m_l_pick T.F_l_pick.kp T.b_l_pick .nil pass0 (pa_con (mv 2) (pa_con pe_int (pa_con pe_int pa_nil)))) pa_nil)) (pg_name (i := 4) sc_l_rules.nd rfl (by first | exact Or.inl rfl | exact Or.inr rfl)) (qss_cons (qs_of (ps_set (i := 5) (hs := sw_call) sc_l_rules.nd rfl (by first | exact Or.inl rfl | exact Or.inr rfl) (pe_call G_l_cell_at (hr.mono (by first | decide | omega)) rfl T.m_l_cell_at T.F_l_cell_at.kp T.b_l_cell_at .nil pass0 (pa_con (mv 0) (pa_con (pe_op (ko_add K rfl) pe_int (mv 4)) pa_nil))))) (qss_cons (qs_of (ps_set (i := 6) (hs := sw_call) sc_l_rules.nd rfl (by first | exact Or.inl rfl | exact Or.inr rfl) (pe_call G_l_pick (hr.mono (by first | decide | omega)) rfl T.m_l_pick T.F_l_pick.kp T.b_l_pick .nil pass0 (pa_con (mv 5) (pa_con pe_int (pa_con pe_int pa_nil)))))) (qss_cons (qs_of (ps_set (i := 7) (hs := sw_tup) sc_l_rules.nd rfl (by first | exact Or.inl rfl | exact Or.inr rfl) (pe_tup (pa_con (pe_ix (ki_seq K rfl) (mv 1) (mv 6) (fun _ _ => rfl)) (pa_con (pe_call G_l_pick (hr.mono (by first | decide | omega)) rfl T.m_l_pick T.F_l_pick.kp T.b_l_pick .nil pass0 (pa_con (mv 5) (pa_con pe_int (pa_con pe_int pa_nil)))) pa_nil))))) (qss_cons (qs_of (ps_set (i := 8) (hs := sw_lst) sc_l_rules.nd rfl (by first | exact Or.inl rfl | exact Or.inr rfl) (pe_lst pa_nil))) (qss_cons (qs_for PassesOwn.never rfl (pi_range1 rfl T.n_range (pa_con (pe_call G_l_pick (hr.mono (by first | decide | omega)) rfl T.m_l_pick T.F_l_pick.kp T.b_l_pick .nil pass0 (pa_con (mv 5) (pa_con pe_int (pa_con pe_int pa_nil)))) pa_nil)) (pg_name (i := 9) sc_l_rules.nd rfl (by first | exact Or.inl rfl | exact Or.inr rfl)) (qss_cons (qs_of (ps_set (i := 10) (hs := sw_call) sc_l_rules.nd rfl (by first | exact Or.inl rfl | exact Or.inr rfl) (pe_call G_l_pick (hr.mono (by first | decide | omega)) rfl T.m_l_pick T.F_l_pick.kp T.b_l_pick .nil pass0 (pa_con (pe_op mo_fdiv (mv 5) pe_int) (pa_con (pe_op (ko_add K rfl) pe_int (mv 9)) (pa_con pe_int pa_nil)))))) (qss_cons (qs_of (ps_set (i := 11) sc_l_rules.nd rfl (by first | exact Or.inl rfl | exact Or.inr rfl) pe_int)) (qss_cons (qs_if (mt_cmp mo_eq (pe_op mo_mod (mv 2) pe_int) pe_int (nomark _)) (qss_one (qs_of (ps_set (i := 11) (hs := sw_call) sc_l_rules.nd rfl (by first | exact Or.inl rfl | exact Or.inr rfl) (pe_callB (mc_min rfl) rfl T.n_min boot_min (pa_con pe_int (pa_con (pe_op (ko_add K rfl) (mv 6) (pe_callTy mc_int rfl T.n_int boot_int (pa_con (pe_cmpR mo_lt (mv 10) pe_int (nomark _)) pa_nil))) pa_nil)))))) qss_nil) (qss_cons (qs_of (ps_set (i := 12) (hs := sw_call) sc_l_rules.nd rfl (by first | exact Or.inl rfl | exact Or.inr rfl) (pe_call G_l_word (hr.mono (by first | decide | omega)) rfl T.m_l_word T.F_l_word.kp T.b_l_word .nil pass0 (pa_con (pe_op (ko_add K rfl) (pe_op mo_fdiv (mv 5) pe_int) (pe_op mo_mul pe_int (mv 9))) (pa_con (mv 9) (pa_con (mv 1) (pa_con (mv 11) pa_nil))))))) (qss_one (qs_if (PW.pt (pw_and (mt_cmp mo_lt (mv 10) pe_int (nomark _)) (pw_and1 (PW.pt (pw_or (mt_cmp mo_eq (pe_op mo_mod (mv 2) pe_int) pe_int (nomark _)) (pw_or1 (mt_cmp mo_lt (mv 6) pe_int (nomark _)))))))) (qss_one (qs_app K rfl (mv 8) (qe_tup (qa_con (qe_of pe_str) (qa_con (qe_of pe_str) (qa_con (qe_tup (qa_con (qe_of (pe_call G_l_goal (hr.mono (by first | decide | omega)) rfl T.m_l_goal T.F_l_goal.kp T.b_l_goal .nil pass0 (pa_con (mv 12) pa_nil))) qa_nil rfl)) qa_nil rfl) rfl) rfl)) rfl rfl rfl rfl rfl rfl)) (qss_one (qs_if (mt_cmp mo_eq (mv 10) pe_int (nomark _)) (qss_one (qs_app K rfl (mv 8) (qe_ix (ki_seq K rfl) (qe_lst (qa_con (qe_tup (qa_con (qe_of pe_str) (qa_con (qe_of pe_str) (qa_con (qe_tup qa_nil) qa_nil rfl) rfl) rfl)) (qa_con (qe_tup (qa_con (qe_of pe_str) (qa_con (qe_of pe_str) (qa_con (qe_tup (qa_con (qe_tup (qa_con (qe_of pe_str) (qa_con (qe_of pe_str) qa_nil rfl) rfl)) (qa_con (qe_tup (qa_con (qe_of pe_str) (qa_con (qe_of pe_int) qa_nil rfl) rfl)) qa_nil rfl) rfl)) qa_nil rfl) rfl) rfl)) qa_nil rfl) rfl)) (qe_of (pe_op mo_mod (mv 9) pe_int)) (fun _ _ => rfl)) rfl rfl rfl rfl rfl rfl)) (qss_one (qs_of (ps_expr (ke_bm K rfl PySem.F.plainAttrs_list PySem.F.slot_list_append PySem.F.type_list_append mm_append (mv 8) (pa_con (pe_call G_l_goal (hr.mono (by first | decide | omega)) rfl T.m_l_goal T.F_l_goal.kp T.b_l_goal .nil pass0 (pa_con (mv 12) pa_nil)) pa_nil))))))))))))) (fun _ => rfl)) (qss_one (qs_of (ps_expr (ke_bm K rfl PySem.F.plainAttrs_list PySem.F.slot_list_append PySem.F.type_list_append mm_append (mv 3) (pa_con (pe_tup (pa_con (pe_call G_l_goal (hr.mono (by first | decide | omega)) rfl T.m_l_goal T.F_l_goal.kp T.b_l_goal .nil pass0 (pa_con (mv 7) pa_nil)) (pa_con (pe_callTy (kc_tuple K rfl) rfl T.n_tuple boot_tuple (pa_con (mv 8) pa_nil)) pa_nil))) pa_nil)))))))))) (fun _ => rfl)) (qss_one (qs_of (ps_ret (mv 3))))))), ?_⟩
  rename_i a l way
  obtain ⟨ns, ws, hS, hl, h5, hw, q⟩ := h
  walk_at "stp"
  refine ⟨ln (by show 0 ≤ 100000; decide), fun pr hpr => ?_⟩
  have s1 := same_new hpr (.lst [])
  have k1 : (upd H pr (.lst [])) pr = some (.lst []) := upd_same
  generalize upd H pr (.lst []) = H1 at s1 k1 ⊢
  walk_at "stp"
  refine ⟨by decide, by decide, by decide, fun nr H2 n0 n1 s2 => ?_⟩
  walk_at "stp"
  refine ⟨nr, rfl, by omega, by omega, ?_⟩
  refine for_row (row_range 0 nr.toNat) (fun i σ' Hi => ∃ (o4 o5 o6 o7 o8 o9 o10 o11 o12 : Option V) (qs : List Addr) (R : List Ru), σ' = [some (.ref a), some (.ref l), some (.int way), some (.ref pr), o4, o5, o6, o7, o8, o9, o10, o11, o12] ∧ Same H Hi ∧ Hi pr = some (.lst (qs.map V.ref)) ∧ Each (RuAt Hi) qs R ∧ R.length = i ∧ (∀ r ∈ R, r.2.length ≤ 3) ∧ ∀ r ∈ R, ROk ws (way % 2 = 1) r)
    ⟨none, none, none, none, none, none, none, none, none, [], [], rfl, s1.trans s2, s2 _ _ k1, .nil, rfl, fun r hr => (by cases hr), fun r hr => by cases hr⟩ (fun _ _ _ _ => trivial) (fun i σ' Hi hi hP => ?_) (fun σ' Hi hP => ?_)
  · obtain ⟨o4, o5, o6, o7, o8, o9, o10, o11, o12, qs, R, rfl, si, ki, ei, hRl, h3, rok⟩ := hP
    have hi13 : i < 13 := by omega
    walk_at "stp"
    refine ⟨ns, si.seq hS, by omega, by omega, fun cell => ?_⟩
    walk_at "stp"
    refine ⟨by decide, by decide, by decide, fun av H3 a0 a1 s3 => ?_⟩
    obtain ⟨at_, rfl⟩ : ∃ n : Nat, av = (n : Int) := ⟨av.toNat, by omega⟩
    have hat : at_ ≤ 3 := by omega
    walk_at "stp"
    obtain ⟨hs, hws⟩ : ∃ s, ws[at_]? = some s := ⟨ws[at_], List.getElem?_eq_getElem (by omega)⟩
    obtain ⟨x, hx, hx2⟩ := atI_lt (xs := ws.map V.str) (i := (at_ : Int)) (by omega) (by rw [List.length_map, h5]; omega)
    rw [show ((at_ : Int)).toNat = at_ from rfl, List.getElem?_map, hws] at hx2
    cases hx2
    refine mIx_l (SqL.of ((si.trans s3) _ _ hl)) hx ?_
    walk_at "stp"
    refine ⟨by decide, by decide, by decide, fun hn H4 m0 m1 s4 => ?_⟩
    obtain ⟨n, rfl⟩ : ∃ n : Nat, hn = (n : Int) := ⟨hn.toNat, by omega⟩
    walk_at "stp"
    refine ⟨ln (by show 2 ≤ 100000; decide), fun ph hph => ?_⟩
    have s5 := same_new hph (.tup [.str hs, .int (n : Int)])
    have k5 : (upd H4 ph (.tup [.str hs, .int (n : Int)])) ph = some (.tup ((nd hs n).map kV)) := upd_same
    generalize upd H4 ph (.tup [.str hs, .int (n : Int)]) = H5 at s5 k5 ⊢
    walk_at "stp"
    refine ⟨ln (by show 0 ≤ 100000; decide), fun pg hpg => ?_⟩
    have s6 := same_new hpg (.lst [])
    have k6 : (upd H5 pg (.lst [])) pg = some (.lst []) := upd_same
    generalize upd H5 pg (.lst []) = H6 at s6 k6 ⊢
    have s05 : Same Hi H5 := s3.trans (s4.trans s5)
    walk_at "stp"
    refine ⟨by decide, by decide, by decide, fun ng H7 g0 g1 s7 => ?_⟩
    walk_at "stp"
    refine ⟨ng, rfl, by omega, by omega, ?_⟩
    refine for_row (row_range 0 ng.toNat) (fun j σ' Hj => ∃ (o9 o10 o11 o12 : Option V) (gas : List Addr) (gs : List Gk), σ' = [some (.ref a), some (.ref l), some (.int way), some (.ref pr), some (.int (0 + (i : Int))), some (.int cell), some (.int (at_ : Int)), some (.ref ph), some (.ref pg), o9, o10, o11, o12] ∧ Same H5 Hj ∧ Hj pg = some (.lst (gas.map V.ref)) ∧ Each (GkAt Hj) gas gs ∧ gs.length = j ∧ ∀ g ∈ gs, GOk ws (way % 2 = 1) at_ g)
      ⟨o9, o10, o11, o12, [], [], rfl, s6.trans s7, s7 _ _ k6, .nil, rfl, fun g hg => by cases hg⟩ (fun _ _ _ _ => trivial) (fun j σ' Hj hj hP => ?_) (fun σ' Hj hP => ?_)
    · obtain ⟨o9, o10, o11, o12, gas, gs, rfl, sj, kj, ej, hgl, gok⟩ := hP
      have hj3 : j < 3 := by omega
      have sH : Same H Hj := si.trans (s05.trans sj)
      walk_at "stp"
      refine ⟨by omega, by omega, by decide, fun kind H8 c0 c1 s8 => ?_⟩
      walk_at "stm"
      (with_reducible refine tSeq_i ?_)
      walk_at "stm"
      (with_reducible refine seq_rest (fun σ' J => ∃ lo : Nat, J = H8 ∧ σ' = [some (.ref a), some (.ref l), some (.int way), some (.ref pr), some (.int (0 + (i : Int))), some (.int cell), some (.int (at_ : Int)), some (.ref ph), some (.ref pg), some (.int (0 + (j : Int))), some (.int kind), some (.int (lo : Int)), o12] ∧ lo ≤ 3 ∧ (way % 2 = 1 → at_ ≤ lo ∧ (kind < 2 → at_ < 3 → at_ + 1 ≤ lo))) (fun σ' J hP => ?_) (fun k => ?_))
      rotate_left
      · walk_at "stm"
        refine iteB (fun e => ?_) (fun e => ?_)
        · walk_at "stm"
          have em : (if (at_ : Int) + (if decide (kind < 2) = true then 1 else 0) < 3 then (at_ : Int) + (if decide (kind < 2) = true then 1 else 0) else 3) = ((min 3 (at_ + (if kind < 2 then 1 else 0)) : Nat) : Int) := by
            by_cases hk2 : kind < 2
            · rw [if_pos (decide_eq_true hk2), if_pos hk2]; split <;> omega
            · rw [if_neg (show ¬ decide (kind < 2) = true by simpa using hk2), if_neg hk2]; split <;> omega
          rw [em]
          refine k _ _ ⟨min 3 (at_ + (if kind < 2 then 1 else 0)), rfl, rfl, by omega, fun _ => ⟨by omega, fun z z2 => ?_⟩⟩
          rw [if_pos z]
          omega
        · walk_at "stm"
          have e : ¬ way % 2 = 1 := of_decide_eq_false (xor_n e)
          exact k _ _ ⟨0, rfl, rfl, by omega, fun z => absurd z e⟩
      obtain ⟨lo, rfl, rfl, hlo, hodd⟩ := hP
      walk_at "stp"
      refine mMul_i (mulOk_left (by decide)) ?_
      walk_at "stp"
      refine ⟨ws, lo, (sH.trans s8) _ _ hl, h5, by omega, by omega, rfl, hlo, fun pw H9 wi wn wsr s9 w1 w2 w3 w4 k9 => ?_⟩
      have s89 := s8.trans s9
      have hwd : Wd wsr := hw wsr (List.mem_of_getElem? w3)
      walk_at "stp"
      refine iteB (fun e => ?_) (fun e => ?_)
      · have hk2 : kind < 2 := of_decide_eq_true e
        walk_at "stp"
        refine iteB (fun e2 => ?_) (fun e2 => ?_)
        · have e2 : way % 2 = 0 := of_decide_eq_true (by simpa using e2)
          refine iteT ?_
          walk_at "stp"
          refine ⟨.inl ⟨rfl, _, SqL.of (s89 _ _ kj)⟩, ?_⟩
          walk_at "stp"
          refine ⟨wsr, wn, k9, w4, fun pa G1 t1 ap => ?_⟩
          walk_at "stp"
          refine ⟨ln (by show 1 ≤ 100000; decide), fun p1 hp1 => ?_⟩
          have sp1 : Same G1 (upd G1 p1 (.tup [.ref pa])) := same_new hp1 _
          have kp1 : (upd G1 p1 (.tup [.ref pa])) p1 = some (.tup [.ref pa]) := upd_same
          generalize upd G1 p1 (.tup [.ref pa]) = G2 at sp1 kp1 ⊢
          walk_at "stp"
          refine ⟨ln (by show 3 ≤ 100000; decide), fun p2 hp2 => ?_⟩
          have sp2 : Same G2 (upd G2 p2 (.tup [.str (Str.ofString "app"), .str (Str.ofString "not"), .ref p1])) := same_new hp2 _
          have kp2 : (upd G2 p2 (.tup [.str (Str.ofString "app"), .str (Str.ofString "not"), .ref p1])) p2 = some (.tup [.str (Str.ofString "app"), .str (Str.ofString "not"), .ref p1]) := upd_same
          generalize upd G2 p2 (.tup [.str (Str.ofString "app"), .str (Str.ofString "not"), .ref p1]) = G3 at sp2 kp2 ⊢
          walk_at "stp"
          have sG := s89.trans (t1.trans (sp1.trans sp2))
          refine mAppend_i (sG _ _ kj) (ln (by rw [List.length_map, ej.1]; omega)) ?_
          walk_at "stp"
          refine ⟨_, _, _, _, gas ++ [p2], gs ++ [.neg wsr wn], rfl, same_put (sj.trans sG) hpg, by rw [upd_same, map_snoc], ?_, by rw [List.length_append, hgl]; rfl, fun g hg => ?_⟩
          · have tl := ts_lst (o := .lst (gas.map V.ref ++ [.ref p2])) (sG _ _ kj)
            refine (ej.imp fun _ _ z => z.mono ((TS.of sG).trans tl)).snoc ?_
            exact (show GkAt G3 p2 (.neg wsr wn) from ⟨hwd, p1, pa, kp2, sp2 _ _ kp1, ap.mono (.of (sp1.trans sp2))⟩).mono tl
          · rcases List.mem_append.mp hg with z | z
            · exact gok g z
            · rw [List.mem_singleton] at z
              rw [z]
              exact ⟨wi, w2, w3, w4, fun o => absurd o (by omega)⟩
        · have e2 : ¬ way % 2 = 0 := of_decide_eq_false (xor_n e2)
          walk_at "stp"
          refine iteB (fun e3 => ?_) (fun e3 => ?_)
          · have e3 : (at_ : Int) < 3 := of_decide_eq_true e3
            walk_at "stp"
            refine ⟨.inl ⟨rfl, _, SqL.of (s89 _ _ kj)⟩, ?_⟩
            walk_at "stp"
            refine ⟨wsr, wn, k9, w4, fun pa G1 t1 ap => ?_⟩
            walk_at "stp"
            refine ⟨ln (by show 1 ≤ 100000; decide), fun p1 hp1 => ?_⟩
            have sp1 : Same G1 (upd G1 p1 (.tup [.ref pa])) := same_new hp1 _
            have kp1 : (upd G1 p1 (.tup [.ref pa])) p1 = some (.tup [.ref pa]) := upd_same
            generalize upd G1 p1 (.tup [.ref pa]) = G2 at sp1 kp1 ⊢
            walk_at "stp"
            refine ⟨ln (by show 3 ≤ 100000; decide), fun p2 hp2 => ?_⟩
            have sp2 : Same G2 (upd G2 p2 (.tup [.str (Str.ofString "app"), .str (Str.ofString "not"), .ref p1])) := same_new hp2 _
            have kp2 : (upd G2 p2 (.tup [.str (Str.ofString "app"), .str (Str.ofString "not"), .ref p1])) p2 = some (.tup [.str (Str.ofString "app"), .str (Str.ofString "not"), .ref p1]) := upd_same
            generalize upd G2 p2 (.tup [.str (Str.ofString "app"), .str (Str.ofString "not"), .ref p1]) = G3 at sp2 kp2 ⊢
            walk_at "stp"
            have sG := s89.trans (t1.trans (sp1.trans sp2))
            refine mAppend_i (sG _ _ kj) (ln (by rw [List.length_map, ej.1]; omega)) ?_
            walk_at "stp"
            refine ⟨_, _, _, _, gas ++ [p2], gs ++ [.neg wsr wn], rfl, same_put (sj.trans sG) hpg, by rw [upd_same, map_snoc], ?_, by rw [List.length_append, hgl]; rfl, fun g hg => ?_⟩
            · have tl := ts_lst (o := .lst (gas.map V.ref ++ [.ref p2])) (sG _ _ kj)
              refine (ej.imp fun _ _ z => z.mono ((TS.of sG).trans tl)).snoc ?_
              exact (show GkAt G3 p2 (.neg wsr wn) from ⟨hwd, p1, pa, kp2, sp2 _ _ kp1, ap.mono (.of (sp1.trans sp2))⟩).mono tl
            · rcases List.mem_append.mp hg with z | z
              · exact gok g z
              · rw [List.mem_singleton] at z
                rw [z]
                exact ⟨wi, w2, w3, w4, fun o => Nat.le_trans ((hodd o).2 hk2 (by omega)) w1⟩
          · walk_at "stp"
            refine iteB (fun e4 => ?_) (fun e4 => ?_)
            · have e4 : kind = 2 := of_decide_eq_true (by simpa using e4)
              omega
            · walk_at "stp"
              refine ⟨.inl ⟨rfl, _, SqL.of (s89 _ _ kj)⟩, ?_⟩
              walk_at "stp"
              refine ⟨wsr, wn, k9, w4, fun pa G1 t1 ap => ?_⟩
              walk_at "stp"
              have sG := s89.trans t1
              refine mAppend_i (sG _ _ kj) (ln (by rw [List.length_map, ej.1]; omega)) ?_
              walk_at "stp"
              refine ⟨_, _, _, _, gas ++ [pa], gs ++ [.pos wsr wn], rfl, same_put (sj.trans sG) hpg, by rw [upd_same, map_snoc], ?_, by rw [List.length_append, hgl]; rfl, fun g hg => ?_⟩
              · have tl := ts_lst (o := .lst (gas.map V.ref ++ [.ref pa])) (sG _ _ kj)
                refine (ej.imp fun _ _ z => z.mono ((TS.of sG).trans tl)).snoc ?_
                exact (show GkAt G1 pa (.pos wsr wn) from ⟨hwd, ap⟩).mono tl
              · rcases List.mem_append.mp hg with z | z
                · exact gok g z
                · rw [List.mem_singleton] at z
                  rw [z]
                  exact ⟨wi, w2, w3, w4, fun o => Nat.le_trans (hodd o).1 w1⟩
      · refine iteF ?_
        walk_at "stp"
        refine iteB (fun e4 => ?_) (fun e4 => ?_)
        · walk_at "stp"
          refine ⟨.inl ⟨rfl, _, SqL.of (s89 _ _ kj)⟩, ?_⟩
          walk_at "stp"
          refine ⟨ln (by show 0 ≤ 100000; decide), fun p1 hp1 => ?_⟩
          have sp1 : Same H9 (upd H9 p1 (.tup [])) := same_new hp1 _
          have kp1 : (upd H9 p1 (.tup [])) p1 = some (.tup []) := upd_same
          generalize upd H9 p1 (.tup []) = G1 at sp1 kp1 ⊢
          walk_at "stp"
          refine ⟨ln (by show 3 ≤ 100000; decide), fun p2 hp2 => ?_⟩
          have sp2 : Same G1 (upd G1 p2 (.tup [.str (Str.ofString "app"), .str (Str.ofString "keep"), .ref p1])) := same_new hp2 _
          have kp2 : (upd G1 p2 (.tup [.str (Str.ofString "app"), .str (Str.ofString "keep"), .ref p1])) p2 = some (.tup [.str (Str.ofString "app"), .str (Str.ofString "keep"), .ref p1]) := upd_same
          generalize upd G1 p2 (.tup [.str (Str.ofString "app"), .str (Str.ofString "keep"), .ref p1]) = G2 at sp2 kp2 ⊢
          walk_at "stp"
          refine ⟨ln (by show 2 ≤ 100000; decide), fun p3 hp3 => ?_⟩
          have sp3 : Same G2 (upd G2 p3 (.tup [.str (Str.ofString "any"), .str (Str.ofString "X")])) := same_new hp3 _
          have kp3 : (upd G2 p3 (.tup [.str (Str.ofString "any"), .str (Str.ofString "X")])) p3 = some (.tup [.str (Str.ofString "any"), .str (Str.ofString "X")]) := upd_same
          generalize upd G2 p3 (.tup [.str (Str.ofString "any"), .str (Str.ofString "X")]) = G3 at sp3 kp3 ⊢
          walk_at "stp"
          refine ⟨ln (by show 2 ≤ 100000; decide), fun p4 hp4 => ?_⟩
          have sp4 : Same G3 (upd G3 p4 (.tup [.str (Str.ofString "num"), .int 1])) := same_new hp4 _
          have kp4 : (upd G3 p4 (.tup [.str (Str.ofString "num"), .int 1])) p4 = some (.tup [.str (Str.ofString "num"), .int 1]) := upd_same
          generalize upd G3 p4 (.tup [.str (Str.ofString "num"), .int 1]) = G4 at sp4 kp4 ⊢
          walk_at "stp"
          refine ⟨ln (by show 2 ≤ 100000; decide), fun p5 hp5 => ?_⟩
          have sp5 : Same G4 (upd G4 p5 (.tup [.ref p3, .ref p4])) := same_new hp5 _
          have kp5 : (upd G4 p5 (.tup [.ref p3, .ref p4])) p5 = some (.tup [.ref p3, .ref p4]) := upd_same
          generalize upd G4 p5 (.tup [.ref p3, .ref p4]) = G5 at sp5 kp5 ⊢
          walk_at "stp"
          refine ⟨ln (by show 3 ≤ 100000; decide), fun p6 hp6 => ?_⟩
          have sp6 : Same G5 (upd G5 p6 (.tup [.str (Str.ofString "app"), .str (Str.ofString "="), .ref p5])) := same_new hp6 _
          have kp6 : (upd G5 p6 (.tup [.str (Str.ofString "app"), .str (Str.ofString "="), .ref p5])) p6 = some (.tup [.str (Str.ofString "app"), .str (Str.ofString "="), .ref p5]) := upd_same
          generalize upd G5 p6 (.tup [.str (Str.ofString "app"), .str (Str.ofString "="), .ref p5]) = G6 at sp6 kp6 ⊢
          walk_at "stp"
          refine ⟨ln (by show 2 ≤ 100000; decide), fun p7 hp7 => ?_⟩
          have sp7 : Same G6 (upd G6 p7 (.lst [.ref p2, .ref p6])) := same_new hp7 _
          have kp7 : (upd G6 p7 (.lst [.ref p2, .ref p6])) p7 = some (.lst [.ref p2, .ref p6]) := upd_same
          generalize upd G6 p7 (.lst [.ref p2, .ref p6]) = G7 at sp7 kp7 ⊢
          walk_at "stp"
          have s67 := sp3.trans (sp4.trans (sp5.trans (sp6.trans sp7)))
          have sG := s89.trans (sp1.trans (sp2.trans s67))
          have hjj : (0 + (j : Int)) % 2 = 0 ∨ (0 + (j : Int)) % 2 = 1 := by omega
          rcases hjj with ej2 | ej2
          · rw [ej2]
            refine mIx_l (SqL.of kp7) (v := .ref p2) rfl ?_
            walk_at "stp"
            refine mAppend_i (sG _ _ kj) (ln (by rw [List.length_map, ej.1]; omega)) ?_
            walk_at "stp"
            refine ⟨_, _, _, _, gas ++ [p2], gs ++ [.keep], rfl, same_put (sj.trans sG) hpg, by rw [upd_same, map_snoc], ?_, by rw [List.length_append, hgl]; rfl, fun g hg => ?_⟩
            · have tl := ts_lst (o := .lst (gas.map V.ref ++ [.ref p2])) (sG _ _ kj)
              refine (ej.imp fun _ _ z => z.mono ((TS.of sG).trans tl)).snoc ?_
              exact (show GkAt G7 p2 .keep from ⟨p1, s67 _ _ kp2⟩).mono tl
            · rcases List.mem_append.mp hg with z | z
              · exact gok g z
              · rw [List.mem_singleton] at z
                rw [z]
                exact trivial
          · rw [ej2]
            refine mIx_l (SqL.of kp7) (v := .ref p6) rfl ?_
            walk_at "stp"
            refine mAppend_i (sG _ _ kj) (ln (by rw [List.length_map, ej.1]; omega)) ?_
            walk_at "stp"
            refine ⟨_, _, _, _, gas ++ [p6], gs ++ [.eqs], rfl, same_put (sj.trans sG) hpg, by rw [upd_same, map_snoc], ?_, by rw [List.length_append, hgl]; rfl, fun g hg => ?_⟩
            · have tl := ts_lst (o := .lst (gas.map V.ref ++ [.ref p6])) (sG _ _ kj)
              refine (ej.imp fun _ _ z => z.mono ((TS.of sG).trans tl)).snoc ?_
              exact (show GkAt G7 p6 .eqs from ⟨p5, sp7 _ _ kp6⟩).mono tl
            · rcases List.mem_append.mp hg with z | z
              · exact gok g z
              · rw [List.mem_singleton] at z
                rw [z]
                exact trivial
        · walk_at "stp"
          refine ⟨.inl ⟨rfl, _, SqL.of (s89 _ _ kj)⟩, ?_⟩
          walk_at "stp"
          refine ⟨wsr, wn, k9, w4, fun pa G1 t1 ap => ?_⟩
          walk_at "stp"
          have sG := s89.trans t1
          refine mAppend_i (sG _ _ kj) (ln (by rw [List.length_map, ej.1]; omega)) ?_
          walk_at "stp"
          refine ⟨_, _, _, _, gas ++ [pa], gs ++ [.pos wsr wn], rfl, same_put (sj.trans sG) hpg, by rw [upd_same, map_snoc], ?_, by rw [List.length_append, hgl]; rfl, fun g hg => ?_⟩
          · have tl := ts_lst (o := .lst (gas.map V.ref ++ [.ref pa])) (sG _ _ kj)
            refine (ej.imp fun _ _ z => z.mono ((TS.of sG).trans tl)).snoc ?_
            exact (show GkAt G1 pa (.pos wsr wn) from ⟨hwd, ap⟩).mono tl
          · rcases List.mem_append.mp hg with z | z
            · exact gok g z
            · rw [List.mem_singleton] at z
              rw [z]
              exact ⟨wi, w2, w3, w4, fun o => Nat.le_trans (hodd o).1 w1⟩
    · obtain ⟨o9, o10, o11, o12, gas, gs, rfl, sj, kj, ej, hgl, gok⟩ := hP
      have s5j := s05.trans sj
      have hg3 : gs.length ≤ 3 := by omega
      walk_at "stp"
      refine ⟨.inl ⟨rfl, _, SqL.of (s5j _ _ ki)⟩, ?_⟩
      walk_at "stp"
      refine ⟨hs, n, sj _ _ k5, by omega, fun pa G1 t1 ap => ?_⟩
      walk_at "stp"
      refine mTup_l (SqL.of (t1 _ _ kj)) fun pt hpt => ?_
      have t2 := same_new hpt (.tup (gas.map V.ref))
      have kt : (upd G1 pt (.tup (gas.map V.ref))) pt = some (.tup (gas.map V.ref)) := upd_same
      generalize upd G1 pt (.tup (gas.map V.ref)) = G2 at t2 kt ⊢
      walk_at "stp"
      refine ⟨ln (by show 2 ≤ 100000; decide), fun pq hpq => ?_⟩
      have t3 := same_new hpq (.tup [.ref pa, .ref pt])
      have kq : (upd G2 pq (.tup [.ref pa, .ref pt])) pq = some (.tup [.ref pa, .ref pt]) := upd_same
      generalize upd G2 pq (.tup [.ref pa, .ref pt]) = G3 at t3 kq ⊢
      have sG := s5j.trans (t1.trans (t2.trans t3))
      walk_at "stp"
      refine mAppend_i (sG _ _ ki) (ln (by rw [List.length_map, ei.1]; omega)) ?_
      walk_at "stp"
      have tl := ts_lst (o := .lst (qs.map V.ref ++ [.ref pq])) (sG _ _ ki)
      refine ⟨_, _, _, _, _, _, _, _, _, qs ++ [pq], R ++ [((hs, n), gs)], rfl, same_put (si.trans sG) hpr, by rw [upd_same, map_snoc], ?_, by rw [List.length_append, hRl]; rfl, fun r hr => ?_, fun r hr => ?_⟩
      · refine (ei.imp fun _ _ z => z.mono ((TS.of sG).trans tl)).snoc ?_
        exact RuAt.mono (H := G3) ⟨pa, pt, gas, kq, hw hs (List.mem_of_getElem? hws), ap.mono (.of (t2.trans t3)), t3 _ _ kt, ej.imp fun _ _ z => z.mono (.of (t1.trans (t2.trans t3)))⟩ tl
      · rcases List.mem_append.mp hr with z | z
        · exact h3 r z
        · rw [List.mem_singleton] at z
          rw [z]
          exact hg3
      · rcases List.mem_append.mp hr with z | z
        · exact rok r z
        · rw [List.mem_singleton] at z
          rw [z]
          exact ⟨at_, hat, hws, by show n ≤ 1; omega, gok⟩
  · obtain ⟨o4, o5, o6, o7, o8, o9, o10, o11, o12, qs, R, rfl, si, ki, ei, hRl, h3, rok⟩ := hP
    walk_at "stp"
    exact q pr qs R _ si ⟨ki, ei, by omega, h3⟩ rok
end
section
variable {P : Program} {w : World} {K : PySem.W.Frag} {mg : Str → Option Value} {base : Heap} {t : Ad}
theorem Chn.rch {L : List (Eg W)} {l : List W} (h : Chn L l) : ∀ a b, l.head? = some a → l.getLast? = some b → Rch L a b := by
  induction h with
  | one x =>
    intro a b h1 h2
    simp at h1 h2
    subst h1 h2
    exact .refl _
  | @cons x y r c e _ ih =>
    intro a b h1 h2
    simp at h1
    subst h1
    exact .step e (ih y b rfl (by rw [List.getLast?_cons_cons] at h2; exact h2))
theorem ed_of {R : List Ru} {u v : W} {c : Bool} (h : (u, v, c) ∈ eds R) : ∃ r ∈ R, ∃ g ∈ r.2, edG (hdR r) g = some (u, v, c) := by
  obtain ⟨r, hr, h2⟩ := List.mem_flatMap.mp h
  obtain ⟨g, hg, h3⟩ := List.mem_filterMap.mp h2
  exact ⟨r, hr, g, hg, h3⟩
theorem nd_of {ws : List Str} {odd : Prop} {R : List Ru} (ok : ∀ r ∈ R, ROk ws odd r) {x : W} (h : Nds (R.map hdR) (eds R) x) : ∃ i n s, i ≤ 3 ∧ ws[i]? = some s ∧ n ≤ 1 ∧ x = nd s n := by
  rcases h with h | ⟨u, c, h⟩
  · obtain ⟨r, hr, e⟩ := List.mem_map.mp h
    obtain ⟨i, h1, h2, h3, _⟩ := ok r hr
    exact ⟨i, _, _, h1, h2, h3, e.symm⟩
  · obtain ⟨r, hr, g, hg, e⟩ := ed_of h
    obtain ⟨i, _, _, _, h4⟩ := ok r hr
    have h5 := h4 g hg
    cases g with
    | pos s n =>
      obtain ⟨j, h6, h7, h8, _⟩ := h5
      cases e
      exact ⟨j, n, s, h6, h7, h8, rfl⟩
    | neg s n =>
      obtain ⟨j, h6, h7, h8, _⟩ := h5
      cases e
      exact ⟨j, n, s, h6, h7, h8, rfl⟩
    | keep => cases e
    | eqs => cases e
theorem few_nds {ws : List Str} {odd : Prop} {R : List Ru} (ok : ∀ r ∈ R, ROk ws odd r) {ks : List W} (hn : ks.Nodup) (hk : ∀ x ∈ ks, Nds (R.map hdR) (eds R) x) : ks.length ≤ 8 := by
  have h1 := nodup_len hn (m := (ws.take 4).flatMap fun s => [nd s 0, nd s 1]) fun x hx => by
    obtain ⟨i, n, s, h1, h2, h3, e⟩ := nd_of ok (hk x hx)
    refine List.mem_flatMap.mpr ⟨s, ?_, ?_⟩
    · have hi := (List.getElem?_eq_some_iff.mp h2)
      obtain ⟨hi, h4⟩ := hi
      exact List.mem_take_iff_getElem.mpr ⟨i, by omega, h4⟩
    · rw [e]
      have : n = 0 ∨ n = 1 := by omega
      rcases this with z | z
      · rw [z]; exact List.mem_cons_self ..
      · rw [z]; exact List.mem_cons_of_mem _ (List.mem_cons_self ..)
  have h2 : ∀ l : List Str, (l.flatMap fun s => [nd s 0, nd s 1]).length = 2 * l.length := fun l => by
    induction l with
    | nil => rfl
    | cons a l ih => rw [List.flatMap_cons, List.length_append, ih, List.length_cons]; simp; omega
  rw [h2, List.length_take] at h1
  omega
noncomputable def ixW (ws : List Str) : W → Nat
  | .inr s :: _ => ws.idxOf s
  | _ => 0
theorem idx_of {ws : List Str} (hn : ws.Nodup) {i : Nat} {s : Str} (h : ws[i]? = some s) : ws.idxOf s = i := by
  obtain ⟨hi, e⟩ := List.getElem?_eq_some_iff.mp h
  subst e
  exact hn.idxOf_getElem i hi
theorem layd_odd {ws : List Str} {odd : Prop} (o : odd) (hn : ws.Nodup) {R : List Ru} (ok : ∀ r ∈ R, ROk ws odd r) : Layd (eds R) := by
  refine layd_of (ixW ws) fun u v c h => ?_
  obtain ⟨r, hr, g, hg, e⟩ := ed_of h
  obtain ⟨i, _, h2, _, h4⟩ := ok r hr
  have h5 := h4 g hg
  cases g with
  | pos s n =>
    obtain ⟨j, _, h7, _, h9⟩ := h5
    cases e
    show ws.idxOf r.1.1 + 0 ≤ ws.idxOf s
    rw [idx_of hn h2, idx_of hn h7]
    exact h9 o
  | neg s n =>
    obtain ⟨j, _, h7, _, h9⟩ := h5
    cases e
    show ws.idxOf r.1.1 + 1 ≤ ws.idxOf s
    rw [idx_of hn h2, idx_of hn h7]
    exact h9 o
  | keep => cases e
  | eqs => cases e
theorem ok_law (T : Txt K mg t) (G_l_words : FnOk P w K mg base CX0 2 t.a_l_words t.d_l_words ["_law_cell"] (sp_l_words K)) (G_l_cell_at : FnOk P w K mg base CX0 1 t.a_l_cell_at t.d_l_cell_at ["_law_script", "_law_k"] (sp_l_cell_at K)) (G_l_rules : FnOk P w K mg base CX0 3 t.a_l_rules t.d_l_rules ["_law_script", "_law_words_here", "_law_way"] (sp_l_rules K)) (G_l_leanings : FnOk P w K mg base CX0 1 t.a_l_leanings t.d_l_leanings ["_law_rules_here"] (sp_l_leanings)) (G_l_layered : FnOk P w K mg base CX0 2 t.a_l_layered t.d_l_layered ["_law_leans", "_law_layers"] (sp_l_layered)) (G_layers_of : FnOk P w K mg base (CXo P w) 6 t.a_layers_of t.d_layers_of ["rules"] (sp_layers_of t.k_NotLayered)) (G_l_told_ring : FnOkN P w K mg base 1 t.a_l_told_ring t.d_l_told_ring ["_law_e"] (sp_l_told_ring t.k_NotLayered)) (G_l_ring : FnOk P w K mg base CX0 1 t.a_l_ring t.d_l_ring ["_law_leans", "_law_ring_here"] (sp_l_ring)) : FnOk P w K mg base CX0 7 t.a_law t.d_law ["_law_script"] (sp_law K) := by
  refine T.F_law.ok sc_law (fun vs H Q E h => ?_) (fun cdv A outer s H vs Q E hr h => ?_)
  · unfold sp_law at h
    split at h
    · rfl
    · exact h.elim
  unfold sp_law at h
  split at h
  rotate_left
  · exact h.elim
  refine ⟨_, (pss_cons (ps_set (i := 1) (hs := sw_call) sc_law.nd rfl (by first | exact Or.inl rfl | exact Or.inr rfl) (pe_call G_l_words (hr.mono (by first | decide | omega)) rfl T.m_l_words T.F_l_words.kp T.b_l_words .nil pass0 (pa_con (pe_call G_l_cell_at (hr.mono (by first | decide | omega)) rfl T.m_l_cell_at T.F_l_cell_at.kp T.b_l_cell_at .nil pass0 (pa_con (mv 0) (pa_con pe_int pa_nil))) pa_nil))) (pss_cons (ps_set (i := 2) (hs := sw_call) sc_law.nd rfl (by first | exact Or.inl rfl | exact Or.inr rfl) (pe_call G_l_cell_at (hr.mono (by first | decide | omega)) rfl T.m_l_cell_at T.F_l_cell_at.kp T.b_l_cell_at .nil pass0 (pa_con (mv 0) (pa_con pe_int pa_nil)))) (pss_cons (ps_set (i := 3) (hs := sw_call) sc_law.nd rfl (by first | exact Or.inl rfl | exact Or.inr rfl) (pe_call G_l_rules (hr.mono (by first | decide | omega)) rfl T.m_l_rules T.F_l_rules.kp T.b_l_rules .nil pass0 (pa_con (mv 0) (pa_con (mv 1) (pa_con (mv 2) pa_nil))))) (pss_cons (ps_set (i := 4) (hs := sw_call) sc_law.nd rfl (by first | exact Or.inl rfl | exact Or.inr rfl) (pe_call G_l_leanings (hr.mono (by first | decide | omega)) rfl T.m_l_leanings T.F_l_leanings.kp T.b_l_leanings .nil pass0 (pa_con (mv 3) pa_nil))) (pss_cons (ps_set (i := 5) (hs := sw_call) sc_law.nd rfl (by first | exact Or.inl rfl | exact Or.inr rfl) (pe_callTy (kc_list K rfl) rfl T.n_list boot_list (pa_con (mv 3) pa_nil))) (pss_cons (ps_set (i := 6) sc_law.nd rfl (by first | exact Or.inl rfl | exact Or.inr rfl) pe_non) (pss_cons (ps_set (i := 7) sc_law.nd rfl (by first | exact Or.inl rfl | exact Or.inr rfl) pe_non) (pss_cons (ps_tryset_as (n := 8) (i := 6) rfl rfl G_layers_of (hr.mono (by first | decide | omega)) rfl T.m_layers_of T.F_layers_of.kp T.b_layers_of .nil (pa_con (mv 5) pa_nil) sc_law.nd rfl (by first | exact Or.inl rfl | exact Or.inr rfl) rfl T.m_TrailError T.x_TrailError rfl rfl (by first | exact Or.inl rfl | exact Or.inr rfl) (fun ea => (pss_one (ps_set (i := 7) (hs := sw_call) sc_law.nd rfl (by first | exact Or.inl rfl | exact Or.inr rfl) (pe_callN G_l_told_ring ((hr.mono (by first | decide | omega)).marked _) rfl T.m_l_told_ring T.F_l_told_ring.kp T.b_l_told_ring .nil (pa_con (mv 8) pa_nil)))))) (pss_cons (ps_if (mt_cmp (ko_neSame K rfl (room150 hr)) (mv 5) (mv 3) (nomark _)) (pss_one (ps_ret pe_bl)) pss_nil) (pss_cons (ps_if (mt_cmp mo_notN (mv 7) pe_non (nomark _)) (pss_one (ps_ret (me_and (pe_cmpR mo_eq (pe_op mo_mod (mv 2) pe_int) pe_int (nomark _)) (pe_one (pe_call G_l_ring (hr.mono (by first | decide | omega)) rfl T.m_l_ring T.F_l_ring.kp T.b_l_ring .nil pass0 (pa_con (mv 4) (pa_con (mv 7) pa_nil))))))) pss_nil) (pss_one (ps_ret (pe_call G_l_layered (hr.mono (by first | decide | omega)) rfl T.m_l_layered T.F_l_layered.kp T.b_l_layered .nil pass0 (pa_con (mv 4) (pa_con (mv 6) pa_nil))))))))))))))), ?_⟩
  rename_i a
  obtain ⟨ns, hns, hlen, q⟩ := h
  walk_at "stp"
  refine ⟨ns, hns, by decide, by decide, fun v0 => ?_⟩
  walk_at "stp"
  refine fun pw ws H1 s1 kw hw5 hwn hww => ?_
  walk_at "stp"
  refine ⟨ns, s1.seq hns, by decide, by decide, fun way => ?_⟩
  walk_at "stp"
  refine ⟨ns, ws, s1.seq hns, kw, hw5, hww, fun pr qs R H2 s2 hR hok => ?_⟩
  walk_at "stp"
  refine ⟨qs, R, hR, fun p ks ad ik H3 s3 ktop hL mk => ?_⟩
  have hR3 := hR.mono s3
  have h8 : ks.length ≤ 8 := few_nds hok hL.nod fun x hx => (mk x).mp hx
  have htx : ∀ k ∈ ks, Txd k := fun x hx => by
    obtain ⟨i, n, s, _, _, _, e⟩ := nd_of hok ((mk x).mp hx)
    exact ⟨s, _, e⟩
  walk_at "stp"
  refine mLst_l (SqL.of hR3.ls) (fun ph hph => ?_)
  have s4 := same_new hph (.lst (qs.map V.ref))
  have k4 : (upd H3 ph (.lst (qs.map V.ref))) ph = some (.lst (qs.map V.ref)) := upd_same
  generalize upd H3 ph (.lst (qs.map V.ref)) = H4 at s4 k4 ⊢
  have hR4 := hR3.mono s4
  walk_at "stp"
  refine ⟨qs, R, ⟨k4, hR4.ea, hR4.few⟩, fun pd ls lam H5 s5 kd nod mkl stb lok => ?_, fun ea H5 p5 qr u v s5 i5 rg he ea' e' => ?_⟩
  · have s45 := s4.trans s5
    walk_at "stp"
    refine ⟨_, _, qs, rfl, rfl, SqL.of (s5 _ _ k4), SqL.of (s45 _ _ hR3.ls), ?_⟩
    walk_at "stp"
    refine iteF ?_
    walk_at "stp"
    refine iteF ?_
    walk_at "stp"
    exact ⟨_, ks, ad, ik, ls, lam, s45 _ _ ktop, hL.mono s45, kd, nod, fun x => (mk x).trans (mkl x).symm, h8, htx, stb, lok.pw, fun H6 s6 => q H6⟩
  · cases e'
    have i5' := i5
    obtain ⟨dx, x1, x2⟩ := i5
    refine ⟨t.k_NotLayered, some dx, _, rfl, x1, T.x_NotLayered, by simp, ?_⟩
    have s45 := s4.trans s5
    walk_at "stp"
    refine ⟨p5, i5', fun H6 s6 => ?_⟩
    have s46 := s45.trans s6
    walk_at "stp"
    refine ⟨_, _, qs, rfl, rfl, SqL.of ((s5.trans s6) _ _ k4), SqL.of (s46 _ _ hR3.ls), ?_⟩
    walk_at "stp"
    refine iteF ?_
    walk_at "stp"
    refine iteT ?_
    walk_at "stp"
    refine iteB (fun e => ?_) (fun e => ?_)
    · walk_at "stp"
      exact ⟨eds R, ks, ad, ik, qr, u, v, hL.mono s46, rg.mono s6, he, h8, htx, fun H7 s7 => q H7⟩
    · have o : way % 2 = 1 := by
        have e2 : ¬ way % 2 = 0 := by simpa using e
        omega
      exact absurd (rg.ch.rch _ _ rg.hd rg.la) (layd_odd o hwn hok _ _ he)
end
section
variable {P : Program} {w : World} {K : PySem.W.Frag} {mg : Str → Option Value} {base : Heap} {t : Ad}
theorem ok_all (T : Txt K mg t) : FnOk P w K mg base CX0 7 t.a_law t.d_law ["_law_script"] (sp_law K) := by
  have h_TrailError_init := ok_TrailError_init (P := P) (w := w) (base := base) T
  have h_is_inner := ok_is_inner (P := P) (w := w) (base := base) T
  have h_word_of := ok_word_of (P := P) (w := w) (base := base) T
  have h_row_between := ok_row_between (P := P) (w := w) (base := base) T
  have h_raise_layers := ok_raise_layers (P := P) (w := w) (base := base) T
  have h_l_cell_at := ok_l_cell_at (P := P) (w := w) (base := base) T
  have h_l_pick := ok_l_pick (P := P) (w := w) (base := base) T
  have h_l_goal := ok_l_goal (P := P) (w := w) (base := base) T
  have h_l_leanings := ok_l_leanings (P := P) (w := w) (base := base) T
  have h_l_ring := ok_l_ring (P := P) (w := w) (base := base) T
  have h_l_told_ring := ok_l_told_ring (P := P) (w := w) (base := base) T
  have h_l_least := ok_l_least (P := P) (w := w) (base := base) T
  have h_NotLayered_init := ok_NotLayered_init T h_TrailError_init
  have h_is_called := ok_is_called T h_is_inner
  have h_l_words := ok_l_words T h_l_pick
  have h_l_word := ok_l_word T h_l_pick
  have h_l_layered := ok_l_layered T h_l_least
  have h_is_word := ok_is_word T h_is_called
  have h_l_rules := ok_l_rules T h_l_pick h_l_cell_at h_l_word h_l_goal
  have h_is_named := ok_is_named T h_is_word
  have h_check_layered := ok_check_layered T h_row_between h_NotLayered_init
  have h_leanings_of := ok_leanings_of T h_is_named h_word_of
  have h_layers_of := ok_layers_of T h_leanings_of h_check_layered h_raise_layers h_word_of
  exact ok_law T h_l_words h_l_cell_at h_l_rules h_l_leanings h_l_layered h_layers_of h_l_told_ring h_l_ring
end
theorem txt_mk {K : PySem.W.Frag} {h : Heap} {mg : Str → Option Value} (X : K.In h) (G : h.Ns mainGlobals mg)
    {k_TrailError : Addr}
    {nm_TrailError q_TrailError : Str} {N_TrailError : Addr} {bs_TrailError : List Value} {sn_TrailError : List Str} {sub_TrailError : List Value} {ab_TrailError : Bool} {col_TrailError : Option Bool} {dd_TrailError : Option Addr} {k0_TrailError k1_TrailError k2_TrailError k3_TrailError k5_TrailError : Option Value}
    {k_NoText : Addr}
    {k_NoSign : Addr}
    {k_NoRule : Addr}
    {k_Big : Addr}
    {k_HasKeep : Addr}
    {k_NotLayered : Addr}
    {nm_NotLayered q_NotLayered : Str} {N_NotLayered : Addr} {bs_NotLayered : List Value} {sn_NotLayered : List Str} {sub_NotLayered : List Value} {ab_NotLayered : Bool} {col_NotLayered : Option Bool} {dd_NotLayered : Option Addr} {k0_NotLayered k1_NotLayered k2_NotLayered k3_NotLayered k5_NotLayered : Option Value}
    {k_Fault : Addr}
    {f0 : Addr} {od0 an0 : Option Addr} {sl0 : Array (Option Value)} {oc0 kV0 dc0 pm0 cd0 ct0 : Value}
    {v0 : Addr} {vd0 : Option Addr} {vn0 : Nat} {vs0 : Array (Option Value)} {w0_0 : Tok}
    {f1 : Addr} {od1 an1 : Option Addr} {sl1 : Array (Option Value)} {oc1 kV1 dc1 pm1 cd1 ct1 : Value}
    {v1 : Addr} {vd1 : Option Addr} {vn1 : Nat} {vs1 : Array (Option Value)} {w1_0 : Tok}
    {f2 : Addr} {od2 an2 : Option Addr} {sl2 : Array (Option Value)} {oc2 kV2 dc2 pm2 cd2 ct2 : Value}
    {f3 : Addr} {od3 an3 : Option Addr} {sl3 : Array (Option Value)} {oc3 kV3 dc3 pm3 cd3 ct3 : Value}
    {f4 : Addr} {od4 an4 : Option Addr} {sl4 : Array (Option Value)} {oc4 kV4 dc4 pm4 cd4 ct4 : Value}
    {f5 : Addr} {od5 an5 : Option Addr} {sl5 : Array (Option Value)} {oc5 kV5 dc5 pm5 cd5 ct5 : Value}
    {f6 : Addr} {od6 an6 : Option Addr} {sl6 : Array (Option Value)} {oc6 kV6 dc6 pm6 cd6 ct6 : Value}
    {f7 : Addr} {od7 an7 : Option Addr} {sl7 : Array (Option Value)} {oc7 kV7 dc7 pm7 cd7 ct7 : Value}
    {f8 : Addr} {od8 an8 : Option Addr} {sl8 : Array (Option Value)} {oc8 kV8 dc8 pm8 cd8 ct8 : Value}
    {f9 : Addr} {od9 an9 : Option Addr} {sl9 : Array (Option Value)} {oc9 kV9 dc9 pm9 cd9 ct9 : Value}
    {f10 : Addr} {od10 an10 : Option Addr} {sl10 : Array (Option Value)} {oc10 kV10 dc10 pm10 cd10 ct10 : Value}
    {f11 : Addr} {od11 an11 : Option Addr} {sl11 : Array (Option Value)} {oc11 kV11 dc11 pm11 cd11 ct11 : Value}
    {f12 : Addr} {od12 an12 : Option Addr} {sl12 : Array (Option Value)} {oc12 kV12 dc12 pm12 cd12 ct12 : Value}
    {f13 : Addr} {od13 an13 : Option Addr} {sl13 : Array (Option Value)} {oc13 kV13 dc13 pm13 cd13 ct13 : Value}
    {f14 : Addr} {od14 an14 : Option Addr} {sl14 : Array (Option Value)} {oc14 kV14 dc14 pm14 cd14 ct14 : Value}
    {f15 : Addr} {od15 an15 : Option Addr} {sl15 : Array (Option Value)} {oc15 kV15 dc15 pm15 cd15 ct15 : Value}
    {f16 : Addr} {od16 an16 : Option Addr} {sl16 : Array (Option Value)} {oc16 kV16 dc16 pm16 cd16 ct16 : Value}
    {f17 : Addr} {od17 an17 : Option Addr} {sl17 : Array (Option Value)} {oc17 kV17 dc17 pm17 cd17 ct17 : Value}
    {f18 : Addr} {od18 an18 : Option Addr} {sl18 : Array (Option Value)} {oc18 kV18 dc18 pm18 cd18 ct18 : Value}
    {f19 : Addr} {od19 an19 : Option Addr} {sl19 : Array (Option Value)} {oc19 kV19 dc19 pm19 cd19 ct19 : Value}
    {f20 : Addr} {od20 an20 : Option Addr} {sl20 : Array (Option Value)} {oc20 kV20 dc20 pm20 cd20 ct20 : Value}
    {f21 : Addr} {od21 an21 : Option Addr} {sl21 : Array (Option Value)} {oc21 kV21 dc21 pm21 cd21 ct21 : Value}
    {f22 : Addr} {od22 an22 : Option Addr} {sl22 : Array (Option Value)} {oc22 kV22 dc22 pm22 cd22 ct22 : Value}
    {f23 : Addr} {od23 an23 : Option Addr} {sl23 : Array (Option Value)} {oc23 kV23 dc23 pm23 cd23 ct23 : Value}
    {t_SMALL : Tok}
    {t_GREAT : Tok}
    {t_FIGURES : Tok}
    {t_MOST_LETTERS : Tok}
    {t_KEEP : Tok}
    {t_NOT : Tok}
    (ac_TrailError : PySem.W.nsIn K mainGlobals "TrailError" = some (some (.ref k_TrailError)))
    (oc_TrailError : K.lookup k_TrailError = some (excClassObj nm_TrailError q_TrailError k_TrailError N_TrailError bs_TrailError [.type "ValueError", .type "Exception", .type "BaseException", .type "object"] true sn_TrailError sub_TrailError ab_TrailError col_TrailError dd_TrailError k0_TrailError k1_TrailError k2_TrailError k3_TrailError k5_TrailError newS))
    (ga_TrailError : PySem.W.findIn K (.ref k_TrailError) "__getattribute__" = some (some (.builtin "BaseException.__getattribute__")))
    (gx_TrailError : PySem.W.findIn K (.ref k_TrailError) "__getattr__" = some none)
    (sa_TrailError : PySem.W.findIn K (.ref k_TrailError) "__setattr__" = some (some (.builtin "object.__setattr__")))
    (na_TrailError_row : PySem.W.findIn K (.ref k_TrailError) "row" = some none)
    (na_TrailError_ring : PySem.W.findIn K (.ref k_TrailError) "ring" = some none)
    (in_TrailError : PySem.W.findIn K (.ref k_TrailError) "__init__" = some (some (.ref f0)))
    (kc_TrailError : PySem.W.keepIn K (.ref k_TrailError) = true)
    (gm_TrailError : PySem.W.specialIn K (.ref k_TrailError) "__getattribute__" = some (some (.builtin "type.__getattribute__")))
    (rm_TrailError : PySem.W.readsIn K k_TrailError (.type "type") = true)
    (tm_TrailError : PySem.W.findCls K (.ref k_TrailError) (.type "type") "__init__" = some (.val (.ref f0)))
    (ac_NoText : PySem.W.nsIn K mainGlobals "NoText" = some (some (.ref k_NoText)))
    (ac_NoSign : PySem.W.nsIn K mainGlobals "NoSign" = some (some (.ref k_NoSign)))
    (ac_NoRule : PySem.W.nsIn K mainGlobals "NoRule" = some (some (.ref k_NoRule)))
    (ac_Big : PySem.W.nsIn K mainGlobals "Big" = some (some (.ref k_Big)))
    (ac_HasKeep : PySem.W.nsIn K mainGlobals "HasKeep" = some (some (.ref k_HasKeep)))
    (ac_NotLayered : PySem.W.nsIn K mainGlobals "NotLayered" = some (some (.ref k_NotLayered)))
    (oc_NotLayered : K.lookup k_NotLayered = some (excClassObj nm_NotLayered q_NotLayered k_NotLayered N_NotLayered bs_NotLayered [.ref k_TrailError, .type "ValueError", .type "Exception", .type "BaseException", .type "object"] true sn_NotLayered sub_NotLayered ab_NotLayered col_NotLayered dd_NotLayered k0_NotLayered k1_NotLayered k2_NotLayered k3_NotLayered k5_NotLayered newS))
    (ga_NotLayered : PySem.W.findIn K (.ref k_NotLayered) "__getattribute__" = some (some (.builtin "BaseException.__getattribute__")))
    (gx_NotLayered : PySem.W.findIn K (.ref k_NotLayered) "__getattr__" = some none)
    (sa_NotLayered : PySem.W.findIn K (.ref k_NotLayered) "__setattr__" = some (some (.builtin "object.__setattr__")))
    (na_NotLayered_row : PySem.W.findIn K (.ref k_NotLayered) "row" = some none)
    (na_NotLayered_ring : PySem.W.findIn K (.ref k_NotLayered) "ring" = some none)
    (in_NotLayered : PySem.W.findIn K (.ref k_NotLayered) "__init__" = some (some (.ref f1)))
    (kc_NotLayered : PySem.W.keepIn K (.ref k_NotLayered) = true)
    (ja_NotLayered : PySem.W.findIn K (.ref k_NotLayered) "__class__" = some (some (.builtin "object.__class__")))
    (jn_NotLayered : PySem.W.specialIn K (.builtin "object.__class__") "__get__" = some (some (.builtin "getset_descriptor.__get__")))
    (jt_NotLayered : PySem.W.takesIn K (.builtin "object.__class__") = some true)
    (jm_NotLayered : PySem.W.mroIn K k_NotLayered (.type "object") = some true)
    (ac_Fault : PySem.W.nsIn K mainGlobals "Fault" = some (some (.ref k_Fault)))
    (iz_NotLayered_NoText : PySem.W.kitOne K (.ref k_NotLayered) (.ref k_NoText) = some false)
    (iz_NotLayered_NoSign : PySem.W.kitOne K (.ref k_NotLayered) (.ref k_NoSign) = some false)
    (iz_NotLayered_Big : PySem.W.kitOne K (.ref k_NotLayered) (.ref k_Big) = some false)
    (iz_NotLayered_HasKeep : PySem.W.kitOne K (.ref k_NotLayered) (.ref k_HasKeep) = some false)
    (iz_NotLayered_Fault : PySem.W.kitOne K (.ref k_NotLayered) (.ref k_Fault) = some false)
    (iz_NotLayered_NoRule : PySem.W.kitOne K (.ref k_NotLayered) (.ref k_NoRule) = some false)
    (iz_NotLayered_NotLayered : PySem.W.kitOne K (.ref k_NotLayered) (.ref k_NotLayered) = some true)
    (iz_NotLayered_ValueError : PySem.W.kitOne K (.ref k_NotLayered) (.type "ValueError") = some true)
    (l0 : K.lookup f0 = some ⟨oc0, od0, .func (PySem.W.fnOf "__init__" "TrailError.__init__" (defArgs s_TrailError_init) (defBody s_TrailError_init) (defScope s_TrailError_init) (.ref v0) kV0 dc0 pm0 an0 cd0 ct0), sl0⟩)
    (c0 : PySem.W.codeIn K cd0 "TrailError.__init__" = true)
    (k0 : PySem.W.keepIn K (.ref f0) = true)
    (v0_ : K.lookup v0 = some ⟨.type "tuple", vd0, .seq #[.int 0 w0_0] vn0, vs0⟩)
    (fn0 : PySem.W.typeIn K (.ref f0) = some (.type "function"))
    (l1 : K.lookup f1 = some ⟨oc1, od1, .func (PySem.W.fnOf "__init__" "NotLayered.__init__" (defArgs s_NotLayered_init) (defBody s_NotLayered_init) (defScope s_NotLayered_init) (.ref v1) kV1 dc1 pm1 an1 cd1 ct1), sl1⟩)
    (c1 : PySem.W.codeIn K cd1 "NotLayered.__init__" = true)
    (k1 : PySem.W.keepIn K (.ref f1) = true)
    (v1_ : K.lookup v1 = some ⟨.type "tuple", vd1, .seq #[.int 0 w1_0] vn1, vs1⟩)
    (fn1 : PySem.W.typeIn K (.ref f1) = some (.type "function"))
    (a2 : PySem.W.nsIn K mainGlobals "is_inner" = some (some (.ref f2)))
    (l2 : K.lookup f2 = some ⟨oc2, od2, .func (PySem.W.fnOf "is_inner" "is_inner" (defArgs s_is_inner) (defBody s_is_inner) (defScope s_is_inner) .none kV2 dc2 pm2 an2 cd2 ct2), sl2⟩)
    (c2 : PySem.W.codeIn K cd2 "is_inner" = true)
    (k2 : PySem.W.keepIn K (.ref f2) = true)
    (a3 : PySem.W.nsIn K mainGlobals "is_called" = some (some (.ref f3)))
    (l3 : K.lookup f3 = some ⟨oc3, od3, .func (PySem.W.fnOf "is_called" "is_called" (defArgs s_is_called) (defBody s_is_called) (defScope s_is_called) .none kV3 dc3 pm3 an3 cd3 ct3), sl3⟩)
    (c3 : PySem.W.codeIn K cd3 "is_called" = true)
    (k3 : PySem.W.keepIn K (.ref f3) = true)
    (a4 : PySem.W.nsIn K mainGlobals "is_word" = some (some (.ref f4)))
    (l4 : K.lookup f4 = some ⟨oc4, od4, .func (PySem.W.fnOf "is_word" "is_word" (defArgs s_is_word) (defBody s_is_word) (defScope s_is_word) .none kV4 dc4 pm4 an4 cd4 ct4), sl4⟩)
    (c4 : PySem.W.codeIn K cd4 "is_word" = true)
    (k4 : PySem.W.keepIn K (.ref f4) = true)
    (a5 : PySem.W.nsIn K mainGlobals "is_named" = some (some (.ref f5)))
    (l5 : K.lookup f5 = some ⟨oc5, od5, .func (PySem.W.fnOf "is_named" "is_named" (defArgs s_is_named) (defBody s_is_named) (defScope s_is_named) .none kV5 dc5 pm5 an5 cd5 ct5), sl5⟩)
    (c5 : PySem.W.codeIn K cd5 "is_named" = true)
    (k5 : PySem.W.keepIn K (.ref f5) = true)
    (a6 : PySem.W.nsIn K mainGlobals "word_of" = some (some (.ref f6)))
    (l6 : K.lookup f6 = some ⟨oc6, od6, .func (PySem.W.fnOf "word_of" "word_of" (defArgs s_word_of) (defBody s_word_of) (defScope s_word_of) .none kV6 dc6 pm6 an6 cd6 ct6), sl6⟩)
    (c6 : PySem.W.codeIn K cd6 "word_of" = true)
    (k6 : PySem.W.keepIn K (.ref f6) = true)
    (a7 : PySem.W.nsIn K mainGlobals "leanings_of" = some (some (.ref f7)))
    (l7 : K.lookup f7 = some ⟨oc7, od7, .func (PySem.W.fnOf "leanings_of" "leanings_of" (defArgs s_leanings_of) (defBody s_leanings_of) (defScope s_leanings_of) .none kV7 dc7 pm7 an7 cd7 ct7), sl7⟩)
    (c7 : PySem.W.codeIn K cd7 "leanings_of" = true)
    (k7 : PySem.W.keepIn K (.ref f7) = true)
    (a8 : PySem.W.nsIn K mainGlobals "row_between" = some (some (.ref f8)))
    (l8 : K.lookup f8 = some ⟨oc8, od8, .func (PySem.W.fnOf "row_between" "row_between" (defArgs s_row_between) (defBody s_row_between) (defScope s_row_between) .none kV8 dc8 pm8 an8 cd8 ct8), sl8⟩)
    (c8 : PySem.W.codeIn K cd8 "row_between" = true)
    (k8 : PySem.W.keepIn K (.ref f8) = true)
    (a9 : PySem.W.nsIn K mainGlobals "check_layered" = some (some (.ref f9)))
    (l9 : K.lookup f9 = some ⟨oc9, od9, .func (PySem.W.fnOf "check_layered" "check_layered" (defArgs s_check_layered) (defBody s_check_layered) (defScope s_check_layered) .none kV9 dc9 pm9 an9 cd9 ct9), sl9⟩)
    (c9 : PySem.W.codeIn K cd9 "check_layered" = true)
    (k9 : PySem.W.keepIn K (.ref f9) = true)
    (a10 : PySem.W.nsIn K mainGlobals "raise_layers" = some (some (.ref f10)))
    (l10 : K.lookup f10 = some ⟨oc10, od10, .func (PySem.W.fnOf "raise_layers" "raise_layers" (defArgs s_raise_layers) (defBody s_raise_layers) (defScope s_raise_layers) .none kV10 dc10 pm10 an10 cd10 ct10), sl10⟩)
    (c10 : PySem.W.codeIn K cd10 "raise_layers" = true)
    (k10 : PySem.W.keepIn K (.ref f10) = true)
    (a11 : PySem.W.nsIn K mainGlobals "layers_of" = some (some (.ref f11)))
    (l11 : K.lookup f11 = some ⟨oc11, od11, .func (PySem.W.fnOf "layers_of" "layers_of" (defArgs s_layers_of) (defBody s_layers_of) (defScope s_layers_of) .none kV11 dc11 pm11 an11 cd11 ct11), sl11⟩)
    (c11 : PySem.W.codeIn K cd11 "layers_of" = true)
    (k11 : PySem.W.keepIn K (.ref f11) = true)
    (a12 : PySem.W.nsIn K mainGlobals "_law_cell_at" = some (some (.ref f12)))
    (l12 : K.lookup f12 = some ⟨oc12, od12, .func (PySem.W.fnOf "_law_cell_at" "_law_cell_at" (defArgs s_l_cell_at) (defBody s_l_cell_at) (defScope s_l_cell_at) .none kV12 dc12 pm12 an12 cd12 ct12), sl12⟩)
    (c12 : PySem.W.codeIn K cd12 "_law_cell_at" = true)
    (k12 : PySem.W.keepIn K (.ref f12) = true)
    (a13 : PySem.W.nsIn K mainGlobals "_law_pick" = some (some (.ref f13)))
    (l13 : K.lookup f13 = some ⟨oc13, od13, .func (PySem.W.fnOf "_law_pick" "_law_pick" (defArgs s_l_pick) (defBody s_l_pick) (defScope s_l_pick) .none kV13 dc13 pm13 an13 cd13 ct13), sl13⟩)
    (c13 : PySem.W.codeIn K cd13 "_law_pick" = true)
    (k13 : PySem.W.keepIn K (.ref f13) = true)
    (a14 : PySem.W.nsIn K mainGlobals "_law_words" = some (some (.ref f14)))
    (l14 : K.lookup f14 = some ⟨oc14, od14, .func (PySem.W.fnOf "_law_words" "_law_words" (defArgs s_l_words) (defBody s_l_words) (defScope s_l_words) .none kV14 dc14 pm14 an14 cd14 ct14), sl14⟩)
    (c14 : PySem.W.codeIn K cd14 "_law_words" = true)
    (k14 : PySem.W.keepIn K (.ref f14) = true)
    (a15 : PySem.W.nsIn K mainGlobals "_law_word" = some (some (.ref f15)))
    (l15 : K.lookup f15 = some ⟨oc15, od15, .func (PySem.W.fnOf "_law_word" "_law_word" (defArgs s_l_word) (defBody s_l_word) (defScope s_l_word) .none kV15 dc15 pm15 an15 cd15 ct15), sl15⟩)
    (c15 : PySem.W.codeIn K cd15 "_law_word" = true)
    (k15 : PySem.W.keepIn K (.ref f15) = true)
    (a16 : PySem.W.nsIn K mainGlobals "_law_goal" = some (some (.ref f16)))
    (l16 : K.lookup f16 = some ⟨oc16, od16, .func (PySem.W.fnOf "_law_goal" "_law_goal" (defArgs s_l_goal) (defBody s_l_goal) (defScope s_l_goal) .none kV16 dc16 pm16 an16 cd16 ct16), sl16⟩)
    (c16 : PySem.W.codeIn K cd16 "_law_goal" = true)
    (k16 : PySem.W.keepIn K (.ref f16) = true)
    (a17 : PySem.W.nsIn K mainGlobals "_law_rules" = some (some (.ref f17)))
    (l17 : K.lookup f17 = some ⟨oc17, od17, .func (PySem.W.fnOf "_law_rules" "_law_rules" (defArgs s_l_rules) (defBody s_l_rules) (defScope s_l_rules) .none kV17 dc17 pm17 an17 cd17 ct17), sl17⟩)
    (c17 : PySem.W.codeIn K cd17 "_law_rules" = true)
    (k17 : PySem.W.keepIn K (.ref f17) = true)
    (a18 : PySem.W.nsIn K mainGlobals "_law_leanings" = some (some (.ref f18)))
    (l18 : K.lookup f18 = some ⟨oc18, od18, .func (PySem.W.fnOf "_law_leanings" "_law_leanings" (defArgs s_l_leanings) (defBody s_l_leanings) (defScope s_l_leanings) .none kV18 dc18 pm18 an18 cd18 ct18), sl18⟩)
    (c18 : PySem.W.codeIn K cd18 "_law_leanings" = true)
    (k18 : PySem.W.keepIn K (.ref f18) = true)
    (a19 : PySem.W.nsIn K mainGlobals "_law_ring" = some (some (.ref f19)))
    (l19 : K.lookup f19 = some ⟨oc19, od19, .func (PySem.W.fnOf "_law_ring" "_law_ring" (defArgs s_l_ring) (defBody s_l_ring) (defScope s_l_ring) .none kV19 dc19 pm19 an19 cd19 ct19), sl19⟩)
    (c19 : PySem.W.codeIn K cd19 "_law_ring" = true)
    (k19 : PySem.W.keepIn K (.ref f19) = true)
    (a20 : PySem.W.nsIn K mainGlobals "_law_told_ring" = some (some (.ref f20)))
    (l20 : K.lookup f20 = some ⟨oc20, od20, .func (PySem.W.fnOf "_law_told_ring" "_law_told_ring" (defArgs s_l_told_ring) (defBody s_l_told_ring) (defScope s_l_told_ring) .none kV20 dc20 pm20 an20 cd20 ct20), sl20⟩)
    (c20 : PySem.W.codeIn K cd20 "_law_told_ring" = true)
    (k20 : PySem.W.keepIn K (.ref f20) = true)
    (a21 : PySem.W.nsIn K mainGlobals "_law_least" = some (some (.ref f21)))
    (l21 : K.lookup f21 = some ⟨oc21, od21, .func (PySem.W.fnOf "_law_least" "_law_least" (defArgs s_l_least) (defBody s_l_least) (defScope s_l_least) .none kV21 dc21 pm21 an21 cd21 ct21), sl21⟩)
    (c21 : PySem.W.codeIn K cd21 "_law_least" = true)
    (k21 : PySem.W.keepIn K (.ref f21) = true)
    (a22 : PySem.W.nsIn K mainGlobals "_law_layered" = some (some (.ref f22)))
    (l22 : K.lookup f22 = some ⟨oc22, od22, .func (PySem.W.fnOf "_law_layered" "_law_layered" (defArgs s_l_layered) (defBody s_l_layered) (defScope s_l_layered) .none kV22 dc22 pm22 an22 cd22 ct22), sl22⟩)
    (c22 : PySem.W.codeIn K cd22 "_law_layered" = true)
    (k22 : PySem.W.keepIn K (.ref f22) = true)
    (a23 : PySem.W.nsIn K mainGlobals "law" = some (some (.ref f23)))
    (l23 : K.lookup f23 = some ⟨oc23, od23, .func (PySem.W.fnOf "law" "law" (defArgs s_law) (defBody s_law) (defScope s_law) .none kV23 dc23 pm23 an23 cd23 ct23), sl23⟩)
    (c23 : PySem.W.codeIn K cd23 "law" = true)
    (k23 : PySem.W.keepIn K (.ref f23) = true)
    (z0 : PySem.W.nsIn K mainGlobals "ValueError" = some none)
    (z1 : PySem.W.nsIn K mainGlobals "all" = some none)
    (z2 : PySem.W.nsIn K mainGlobals "bool" = some none)
    (z3 : PySem.W.nsIn K mainGlobals "dict" = some none)
    (z4 : PySem.W.nsIn K mainGlobals "int" = some none)
    (z5 : PySem.W.nsIn K mainGlobals "isinstance" = some none)
    (z6 : PySem.W.nsIn K mainGlobals "len" = some none)
    (z7 : PySem.W.nsIn K mainGlobals "list" = some none)
    (z8 : PySem.W.nsIn K mainGlobals "min" = some none)
    (z9 : PySem.W.nsIn K mainGlobals "range" = some none)
    (z10 : PySem.W.nsIn K mainGlobals "set" = some none)
    (z11 : PySem.W.nsIn K mainGlobals "str" = some none)
    (z12 : PySem.W.nsIn K mainGlobals "tuple" = some none)
    (y0 : PySem.W.nsIn K mainGlobals "SMALL" = some (some (.str (PySem.Str.ofString "abcdefghijklmnopqrstuvwxyz") t_SMALL)))
    (y1 : PySem.W.nsIn K mainGlobals "GREAT" = some (some (.str (PySem.Str.ofString "ABCDEFGHIJKLMNOPQRSTUVWXYZ") t_GREAT)))
    (y2 : PySem.W.nsIn K mainGlobals "FIGURES" = some (some (.str (PySem.Str.ofString "0123456789") t_FIGURES)))
    (y3 : PySem.W.nsIn K mainGlobals "MOST_LETTERS" = some (some (.int 12 t_MOST_LETTERS)))
    (y4 : PySem.W.nsIn K mainGlobals "KEEP" = some (some (.str (PySem.Str.ofString "keep") t_KEEP)))
    (y5 : PySem.W.nsIn K mainGlobals "NOT" = some (some (.str (PySem.Str.ofString "not") t_NOT)))
    : ∃ t : Ad, Txt K mg t ∧ ∀ (s : Shared) (u : Value), BindsTo s t.d_law ⟨[u], []⟩ [("_law_script", u)] := by
  have F0 := funD_mk (st := s_TrailError_init) l0 c0 k0
  have F1 := funD_mk (st := s_NotLayered_init) l1 c1 k1
  have F2 := fun_mk (st := s_is_inner) l2 c2 k2
  have F3 := fun_mk (st := s_is_called) l3 c3 k3
  have F4 := fun_mk (st := s_is_word) l4 c4 k4
  have F5 := fun_mk (st := s_is_named) l5 c5 k5
  have F6 := fun_mk (st := s_word_of) l6 c6 k6
  have F7 := fun_mk (st := s_leanings_of) l7 c7 k7
  have F8 := fun_mk (st := s_row_between) l8 c8 k8
  have F9 := fun_mk (st := s_check_layered) l9 c9 k9
  have F10 := fun_mk (st := s_raise_layers) l10 c10 k10
  have F11 := fun_mk (st := s_layers_of) l11 c11 k11
  have F12 := fun_mk (st := s_l_cell_at) l12 c12 k12
  have F13 := fun_mk (st := s_l_pick) l13 c13 k13
  have F14 := fun_mk (st := s_l_words) l14 c14 k14
  have F15 := fun_mk (st := s_l_word) l15 c15 k15
  have F16 := fun_mk (st := s_l_goal) l16 c16 k16
  have F17 := fun_mk (st := s_l_rules) l17 c17 k17
  have F18 := fun_mk (st := s_l_leanings) l18 c18 k18
  have F19 := fun_mk (st := s_l_ring) l19 c19 k19
  have F20 := fun_mk (st := s_l_told_ring) l20 c20 k20
  have F21 := fun_mk (st := s_l_least) l21 c21 k21
  have F22 := fun_mk (st := s_l_layered) l22 c22 k22
  have F23 := fun_mk (st := s_law) l23 c23 k23
  exact ⟨⟨k_TrailError, k_NoText, k_NoSign, k_NoRule, k_Big, k_HasKeep, k_NotLayered, k_Fault, f0, _, v0, w0_0, f1, _, v1, w1_0, f2, _, f3, _, f4, _, f5, _, f6, _, f7, _, f8, _, f9, _, f10, _, f11, _, f12, _, f13, _, f14, _, f15, _, f16, _, f17, _, f18, _, f19, _, f20, _, f21, _, f22, _, f23, _, t_SMALL, t_GREAT, t_FIGURES, t_MOST_LETTERS, t_KEEP, t_NOT⟩, ⟨PySem.W.mg_of X G ac_TrailError,
    ⟨⟨nm_TrailError, q_TrailError, N_TrailError, bs_TrailError, sn_TrailError, sub_TrailError, ab_TrailError, col_TrailError, dd_TrailError, k0_TrailError, k1_TrailError, k2_TrailError, k3_TrailError, k5_TrailError, oc_TrailError⟩, by simp, by simp, by simp, by simp⟩,
    ⟨[], by simp, rfl⟩,
    ⟨ga_TrailError, gx_TrailError, sa_TrailError⟩,
    na_TrailError_row,
    na_TrailError_ring,
    ⟨⟨⟨nm_TrailError, q_TrailError, N_TrailError, bs_TrailError, sn_TrailError, sub_TrailError, ab_TrailError, col_TrailError, dd_TrailError, k0_TrailError, k1_TrailError, k2_TrailError, k3_TrailError, k5_TrailError, oc_TrailError⟩, by simp, by simp, by simp, by simp⟩, in_TrailError, fn0, kc_TrailError⟩,
    ⟨gm_TrailError, rm_TrailError, tm_TrailError, k0⟩,
    PySem.W.mg_of X G ac_NoText,
    PySem.W.mg_of X G ac_NoSign,
    PySem.W.mg_of X G ac_NoRule,
    PySem.W.mg_of X G ac_Big,
    PySem.W.mg_of X G ac_HasKeep,
    PySem.W.mg_of X G ac_NotLayered,
    ⟨⟨nm_NotLayered, q_NotLayered, N_NotLayered, bs_NotLayered, sn_NotLayered, sub_NotLayered, ab_NotLayered, col_NotLayered, dd_NotLayered, k0_NotLayered, k1_NotLayered, k2_NotLayered, k3_NotLayered, k5_NotLayered, oc_NotLayered⟩, by simp, by simp, by simp, by simp⟩,
    ⟨[.ref k_TrailError], by simp, rfl⟩,
    ⟨ga_NotLayered, gx_NotLayered, sa_NotLayered⟩,
    na_NotLayered_row,
    na_NotLayered_ring,
    ⟨⟨⟨nm_NotLayered, q_NotLayered, N_NotLayered, bs_NotLayered, sn_NotLayered, sub_NotLayered, ab_NotLayered, col_NotLayered, dd_NotLayered, k0_NotLayered, k1_NotLayered, k2_NotLayered, k3_NotLayered, k5_NotLayered, oc_NotLayered⟩, by simp, by simp, by simp, by simp⟩, in_NotLayered, fn1, kc_NotLayered⟩,
    ⟨ja_NotLayered, jn_NotLayered, jt_NotLayered, jm_NotLayered⟩,
    iz_NotLayered_NoText,
    iz_NotLayered_NoSign,
    iz_NotLayered_Big,
    iz_NotLayered_HasKeep,
    iz_NotLayered_Fault,
    iz_NotLayered_NoRule,
    iz_NotLayered_NotLayered,
    iz_NotLayered_ValueError,
    PySem.W.mg_of X G ac_Fault,
    F0,
    fun s us KX hl => by obtain ⟨_, _, _, rfl⟩ := L2.ex3 (show us.length = 3 by simpa using hl); exact .of_defaults (T := v0) rfl (KX _ _ v0_) rfl rfl rfl,
    fun s us KX hl => by obtain ⟨_, _, rfl⟩ := L2.ex2 (show us.length = 2 by simpa using hl); exact .of_defaults (T := v0) rfl (KX _ _ v0_) rfl rfl rfl,
    F1,
    fun s us KX hl => by obtain ⟨_, _, _, rfl⟩ := L2.ex3 (show us.length = 3 by simpa using hl); exact .of_defaults (T := v1) rfl (KX _ _ v1_) rfl rfl rfl,
    fun s us KX hl => by obtain ⟨_, _, rfl⟩ := L2.ex2 (show us.length = 2 by simpa using hl); exact .of_defaults (T := v1) rfl (KX _ _ v1_) rfl rfl rfl,
    F2,
    F2.binds (ps := ["sign"]) (fun _ _ _ _ _ _ us hl => L2.us1 (P := fun us => bindArgs _ ⟨us, []⟩ = pure ((["sign"] : List Str).zip us)) hl fun _ => rfl),
    PySem.W.mg_of X G a2,
    F3,
    F3.binds (ps := ["text", "firsts"]) (fun _ _ _ _ _ _ us hl => L2.us2 (P := fun us => bindArgs _ ⟨us, []⟩ = pure ((["text", "firsts"] : List Str).zip us)) hl fun _ _ => rfl),
    PySem.W.mg_of X G a3,
    F4,
    F4.binds (ps := ["text"]) (fun _ _ _ _ _ _ us hl => L2.us1 (P := fun us => bindArgs _ ⟨us, []⟩ = pure ((["text"] : List Str).zip us)) hl fun _ => rfl),
    PySem.W.mg_of X G a4,
    F5,
    F5.binds (ps := ["term"]) (fun _ _ _ _ _ _ us hl => L2.us1 (P := fun us => bindArgs _ ⟨us, []⟩ = pure ((["term"] : List Str).zip us)) hl fun _ => rfl),
    PySem.W.mg_of X G a5,
    F6,
    F6.binds (ps := ["goal"]) (fun _ _ _ _ _ _ us hl => L2.us1 (P := fun us => bindArgs _ ⟨us, []⟩ = pure ((["goal"] : List Str).zip us)) hl fun _ => rfl),
    PySem.W.mg_of X G a6,
    F7,
    F7.binds (ps := ["rules"]) (fun _ _ _ _ _ _ us hl => L2.us1 (P := fun us => bindArgs _ ⟨us, []⟩ = pure ((["rules"] : List Str).zip us)) hl fun _ => rfl),
    PySem.W.mg_of X G a7,
    F8,
    F8.binds (ps := ["first", "last", "leanings"]) (fun _ _ _ _ _ _ us hl => L2.us3 (P := fun us => bindArgs _ ⟨us, []⟩ = pure ((["first", "last", "leanings"] : List Str).zip us)) hl fun _ _ _ => rfl),
    PySem.W.mg_of X G a8,
    F9,
    F9.binds (ps := ["leanings"]) (fun _ _ _ _ _ _ us hl => L2.us1 (P := fun us => bindArgs _ ⟨us, []⟩ = pure ((["leanings"] : List Str).zip us)) hl fun _ => rfl),
    PySem.W.mg_of X G a9,
    F10,
    F10.binds (ps := ["layers", "leanings"]) (fun _ _ _ _ _ _ us hl => L2.us2 (P := fun us => bindArgs _ ⟨us, []⟩ = pure ((["layers", "leanings"] : List Str).zip us)) hl fun _ _ => rfl),
    PySem.W.mg_of X G a10,
    F11,
    F11.binds (ps := ["rules"]) (fun _ _ _ _ _ _ us hl => L2.us1 (P := fun us => bindArgs _ ⟨us, []⟩ = pure ((["rules"] : List Str).zip us)) hl fun _ => rfl),
    PySem.W.mg_of X G a11,
    F12,
    F12.binds (ps := ["_law_script", "_law_k"]) (fun _ _ _ _ _ _ us hl => L2.us2 (P := fun us => bindArgs _ ⟨us, []⟩ = pure ((["_law_script", "_law_k"] : List Str).zip us)) hl fun _ _ => rfl),
    PySem.W.mg_of X G a12,
    F13,
    F13.binds (ps := ["_law_cell", "_law_k", "_law_many"]) (fun _ _ _ _ _ _ us hl => L2.us3 (P := fun us => bindArgs _ ⟨us, []⟩ = pure ((["_law_cell", "_law_k", "_law_many"] : List Str).zip us)) hl fun _ _ _ => rfl),
    PySem.W.mg_of X G a13,
    F14,
    F14.binds (ps := ["_law_cell"]) (fun _ _ _ _ _ _ us hl => L2.us1 (P := fun us => bindArgs _ ⟨us, []⟩ = pure ((["_law_cell"] : List Str).zip us)) hl fun _ => rfl),
    PySem.W.mg_of X G a14,
    F15,
    F15.binds (ps := ["_law_cell", "_law_k", "_law_words_here", "_law_low"]) (fun _ _ _ _ _ _ us hl => L2.us4 (P := fun us => bindArgs _ ⟨us, []⟩ = pure ((["_law_cell", "_law_k", "_law_words_here", "_law_low"] : List Str).zip us)) hl fun _ _ _ _ => rfl),
    PySem.W.mg_of X G a15,
    F16,
    F16.binds (ps := ["_law_word_here"]) (fun _ _ _ _ _ _ us hl => L2.us1 (P := fun us => bindArgs _ ⟨us, []⟩ = pure ((["_law_word_here"] : List Str).zip us)) hl fun _ => rfl),
    PySem.W.mg_of X G a16,
    F17,
    F17.binds (ps := ["_law_script", "_law_words_here", "_law_way"]) (fun _ _ _ _ _ _ us hl => L2.us3 (P := fun us => bindArgs _ ⟨us, []⟩ = pure ((["_law_script", "_law_words_here", "_law_way"] : List Str).zip us)) hl fun _ _ _ => rfl),
    PySem.W.mg_of X G a17,
    F18,
    F18.binds (ps := ["_law_rules_here"]) (fun _ _ _ _ _ _ us hl => L2.us1 (P := fun us => bindArgs _ ⟨us, []⟩ = pure ((["_law_rules_here"] : List Str).zip us)) hl fun _ => rfl),
    PySem.W.mg_of X G a18,
    F19,
    F19.binds (ps := ["_law_leans", "_law_ring_here"]) (fun _ _ _ _ _ _ us hl => L2.us2 (P := fun us => bindArgs _ ⟨us, []⟩ = pure ((["_law_leans", "_law_ring_here"] : List Str).zip us)) hl fun _ _ => rfl),
    PySem.W.mg_of X G a19,
    F20,
    F20.binds (ps := ["_law_e"]) (fun _ _ _ _ _ _ us hl => L2.us1 (P := fun us => bindArgs _ ⟨us, []⟩ = pure ((["_law_e"] : List Str).zip us)) hl fun _ => rfl),
    PySem.W.mg_of X G a20,
    F21,
    F21.binds (ps := ["_law_leans", "_law_layers", "_law_word_here"]) (fun _ _ _ _ _ _ us hl => L2.us3 (P := fun us => bindArgs _ ⟨us, []⟩ = pure ((["_law_leans", "_law_layers", "_law_word_here"] : List Str).zip us)) hl fun _ _ _ => rfl),
    PySem.W.mg_of X G a21,
    F22,
    F22.binds (ps := ["_law_leans", "_law_layers"]) (fun _ _ _ _ _ _ us hl => L2.us2 (P := fun us => bindArgs _ ⟨us, []⟩ = pure ((["_law_leans", "_law_layers"] : List Str).zip us)) hl fun _ _ => rfl),
    PySem.W.mg_of X G a22,
    F23,
    F23.binds (ps := ["_law_script"]) (fun _ _ _ _ _ _ us hl => L2.us1 (P := fun us => bindArgs _ ⟨us, []⟩ = pure ((["_law_script"] : List Str).zip us)) hl fun _ => rfl),
    PySem.W.mg_of X G a23,
    PySem.W.mg_none_of X G z0,
    PySem.W.mg_none_of X G z1,
    PySem.W.mg_none_of X G z2,
    PySem.W.mg_none_of X G z3,
    PySem.W.mg_none_of X G z4,
    PySem.W.mg_none_of X G z5,
    PySem.W.mg_none_of X G z6,
    PySem.W.mg_none_of X G z7,
    PySem.W.mg_none_of X G z8,
    PySem.W.mg_none_of X G z9,
    PySem.W.mg_none_of X G z10,
    PySem.W.mg_none_of X G z11,
    PySem.W.mg_none_of X G z12,
    PySem.W.mg_of X G y0,
    PySem.W.mg_of X G y1,
    PySem.W.mg_of X G y2,
    PySem.W.mg_of X G y3,
    PySem.W.mg_of X G y4,
    PySem.W.mg_of X G y5⟩, fun s u => .of_eq rfl⟩
noncomputable def cO (n q : Str) (a b c : Tok) (l m f : Int) (r : Addr) (x : Int) (s : Addr) (v w : Value) (u : Addr) (y : Int) (d : Tok) : Obj := .mk (.type "code") none (.fields (List.toArray ((.str n a) :: (.str q b) :: (.str "/claim/cut.py" c) :: (.int l 0) :: (.int m 0) :: (.int 0 0) :: (.int 0 0) :: (.int f 0) :: (.ref r) :: (.bool true) :: (.int x 0) :: (.ref s) :: .none :: v :: w :: (.ref u) :: (.int y 0) :: (.int l 0) :: (.str "/claim/cut.py" d) :: []))) #[]
noncomputable def fO (n q : Str) (s : Stmt) (m : Value) (c : Addr) : Obj := .mk (.type "function") none (.func (PySem.W.fnOf n q (defArgs s) (defBody s) (defScope s) .none .none .none m none (.ref c) .none)) #[]
noncomputable def kb2 (P : Params) : Obj := .mk .none none (.dict #[] 0) #[]
noncomputable def kb3 (P : Params) : Obj := .mk (.type "dict") none (.dict (List.toArray ((.mk (PyData.keyHash P "__name__") (.str "__name__" 165) (.str "law_goaltrail_k60_layers_or_a_ring" 459)) :: (.mk (PyData.keyHash P "__doc__") (.str "__doc__" 166) .none) :: (.mk (PyData.keyHash P "__package__") (.str "__package__" 167) .none) :: (.mk (PyData.keyHash P "__loader__") (.str "__loader__" 168) (.builtin "__main__.__loader__#opaque")) :: (.mk (PyData.keyHash P "__spec__") (.str "__spec__" 169) .none) :: (.mk (PyData.keyHash P "__annotations__") (.str "__annotations__" 170) (.ref 6)) :: (.mk (PyData.keyHash P "__builtins__") (.str "__builtins__" 171) (.ref 4)) :: (.mk (PyData.keyHash P "__file__") (.str "__file__" 173) (.str "/claim/cut.py" 172)) :: (.mk (PyData.keyHash P "__cached__") (.str "__cached__" 174) .none) :: (.mk (PyData.keyHash P "TrailError") (.str "TrailError" 217) (.ref 32)) :: (.mk (PyData.keyHash P "NoText") (.str "NoText" 233) (.ref 45)) :: (.mk (PyData.keyHash P "NoSign") (.str "NoSign" 249) (.ref 57)) :: (.mk (PyData.keyHash P "NoRule") (.str "NoRule" 265) (.ref 69)) :: (.mk (PyData.keyHash P "Big") (.str "Big" 281) (.ref 81)) :: (.mk (PyData.keyHash P "HasKeep") (.str "HasKeep" 297) (.ref 93)) :: (.mk (PyData.keyHash P "NotLayered") (.str "NotLayered" 324) (.ref 113)) :: (.mk (PyData.keyHash P "Fault") (.str "Fault" 351) (.ref 133)) :: (.mk (PyData.keyHash P "SMALL") (.str "SMALL" 355) (.str "abcdefghijklmnopqrstuvwxyz" 354)) :: (.mk (PyData.keyHash P "GREAT") (.str "GREAT" 357) (.str "ABCDEFGHIJKLMNOPQRSTUVWXYZ" 356)) :: (.mk (PyData.keyHash P "FIGURES") (.str "FIGURES" 359) (.str "0123456789" 358)) :: (.mk (PyData.keyHash P "MOST_LETTERS") (.str "MOST_LETTERS" 361) (.int 12 360)) :: (.mk (PyData.keyHash P "is_inner") (.str "is_inner" 368) (.ref 142)) :: (.mk (PyData.keyHash P "is_called") (.str "is_called" 374) (.ref 147)) :: (.mk (PyData.keyHash P "is_word") (.str "is_word" 381) (.ref 154)) :: (.mk (PyData.keyHash P "KEEP") (.str "KEEP" 385) (.str "keep" 384)) :: (.mk (PyData.keyHash P "NOT") (.str "NOT" 387) (.str "not" 386)) :: (.mk (PyData.keyHash P "is_named") (.str "is_named" 394) (.ref 161)) :: (.mk (PyData.keyHash P "word_of") (.str "word_of" 401) (.ref 168)) :: (.mk (PyData.keyHash P "leanings_of") (.str "leanings_of" 413) (.ref 175)) :: (.mk (PyData.keyHash P "row_between") (.str "row_between" 427) (.ref 182)) :: (.mk (PyData.keyHash P "check_layered") (.str "check_layered" 436) (.ref 189)) :: (.mk (PyData.keyHash P "raise_layers") (.str "raise_layers" 447) (.ref 196)) :: (.mk (PyData.keyHash P "layers_of") (.str "layers_of" 458) (.ref 203)) :: (.mk (PyData.keyHash P "_law_cell_at") (.str "_law_cell_at" 468) (.ref 210)) :: (.mk (PyData.keyHash P "_law_pick") (.str "_law_pick" 478) (.ref 217)) :: (.mk (PyData.keyHash P "_law_words") (.str "_law_words" 484) (.ref 222)) :: (.mk (PyData.keyHash P "_law_word") (.str "_law_word" 495) (.ref 229)) :: (.mk (PyData.keyHash P "_law_goal") (.str "_law_goal" 502) (.ref 236)) :: (.mk (PyData.keyHash P "_law_rules") (.str "_law_rules" 521) (.ref 243)) :: (.mk (PyData.keyHash P "_law_leanings") (.str "_law_leanings" 535) (.ref 250)) :: (.mk (PyData.keyHash P "_law_ring") (.str "_law_ring" 546) (.ref 257)) :: (.mk (PyData.keyHash P "_law_told_ring") (.str "_law_told_ring" 554) (.ref 264)) :: (.mk (PyData.keyHash P "_law_least") (.str "_law_least" 566) (.ref 271)) :: (.mk (PyData.keyHash P "_law_layered") (.str "_law_layered" 576) (.ref 278)) :: (.mk (PyData.keyHash P "law") (.str "law" 591) (.ref 285)) :: [])) 45) #[]
noncomputable def kb22 (P : Params) : Obj := .mk (.type "tuple") none (.seq #[(.int 0 201)] 0) #[]
noncomputable def kb28 (P : Params) : Obj := cO "__init__" "TrailError.__init__" 202 203 204 4 3 3 23 181 24 (.ref 25) (.ref 26) 27 208 209
noncomputable def kb29 (P : Params) : Obj := .mk (.type "function") none (.func (PySem.W.fnOf "__init__" "TrailError.__init__" (defArgs s_TrailError_init) (defBody s_TrailError_init) (defScope s_TrailError_init) (.ref 22) .none .none (.str "goaltrail.errors" 187) none (.ref 28) .none)) #[]
noncomputable def kb31 (P : Params) : Obj := .mk (.type "dict") none (.dict (List.toArray ((.mk (PyData.keyHash P "__module__") (.str "__module__" 196) (.str "goaltrail.errors" 187)) :: (.mk (PyData.keyHash P "__firstlineno__") (.str "__firstlineno__" 200) (.int 2 199)) :: (.mk (PyData.keyHash P "__init__") (.str "__init__" 210) (.ref 29)) :: (.mk (PyData.keyHash P "__static_attributes__") (.str "__static_attributes__" 212) (.ref 30)) :: (.mk (PyData.keyHash P "__weakref__") (.str "__weakref__" 214) (.ref 33)) :: (.mk (PyData.keyHash P "__doc__") (.str "__doc__" 215) .none) :: [])) 3) #[]
noncomputable def kb32 (P : Params) : Obj := .mk (.type "type") none (.cls (.mk "TrailError" [(.type "ValueError")] [(.ref 32), (.type "ValueError"), (.type "Exception"), (.type "BaseException"), (.type "object")] 31 "TrailError" Bool.true [] [(.ref 45), (.ref 57), (.ref 69), (.ref 81), (.ref 93), (.ref 113), (.ref 133)] Bool.false none Bool.false)) (List.toArray ((some (.ref 15)) :: none :: (some (.str "TrailError" 189)) :: (some (.str "TrailError" 197)) :: (some (.builtin "ValueError.__new__")) :: (some (.bool true)) :: []))
noncomputable def kb44 (P : Params) : Obj := .mk (.type "dict") none (.dict #[(.mk (PyData.keyHash P "__module__") (.str "__module__" 225) (.str "goaltrail.errors" 187)), (.mk (PyData.keyHash P "__firstlineno__") (.str "__firstlineno__" 229) (.int 7 228)), (.mk (PyData.keyHash P "__static_attributes__") (.str "__static_attributes__" 230) (.ref 43)), (.mk (PyData.keyHash P "__doc__") (.str "__doc__" 231) .none)] 2) #[]
noncomputable def kb45 (P : Params) : Obj := .mk (.type "type") none (.cls (.mk "NoText" [(.ref 32)] [(.ref 45), (.ref 32), (.type "ValueError"), (.type "Exception"), (.type "BaseException"), (.type "object")] 44 "NoText" Bool.true [] [] Bool.false none Bool.false)) (List.toArray ((some (.ref 36)) :: none :: (some (.str "NoText" 218)) :: (some (.str "NoText" 226)) :: (some (.builtin "ValueError.__new__")) :: (some (.bool true)) :: []))
noncomputable def kb56 (P : Params) : Obj := .mk (.type "dict") none (.dict #[(.mk (PyData.keyHash P "__module__") (.str "__module__" 241) (.str "goaltrail.errors" 187)), (.mk (PyData.keyHash P "__firstlineno__") (.str "__firstlineno__" 245) (.int 9 244)), (.mk (PyData.keyHash P "__static_attributes__") (.str "__static_attributes__" 246) (.ref 55)), (.mk (PyData.keyHash P "__doc__") (.str "__doc__" 247) .none)] 2) #[]
noncomputable def kb57 (P : Params) : Obj := .mk (.type "type") none (.cls (.mk "NoSign" [(.ref 32)] [(.ref 57), (.ref 32), (.type "ValueError"), (.type "Exception"), (.type "BaseException"), (.type "object")] 56 "NoSign" Bool.true [] [] Bool.false none Bool.false)) (List.toArray ((some (.ref 48)) :: none :: (some (.str "NoSign" 234)) :: (some (.str "NoSign" 242)) :: (some (.builtin "ValueError.__new__")) :: (some (.bool true)) :: []))
noncomputable def kb68 (P : Params) : Obj := .mk (.type "dict") none (.dict #[(.mk (PyData.keyHash P "__module__") (.str "__module__" 257) (.str "goaltrail.errors" 187)), (.mk (PyData.keyHash P "__firstlineno__") (.str "__firstlineno__" 261) (.int 11 260)), (.mk (PyData.keyHash P "__static_attributes__") (.str "__static_attributes__" 262) (.ref 67)), (.mk (PyData.keyHash P "__doc__") (.str "__doc__" 263) .none)] 2) #[]
noncomputable def kb69 (P : Params) : Obj := .mk (.type "type") none (.cls (.mk "NoRule" [(.ref 32)] [(.ref 69), (.ref 32), (.type "ValueError"), (.type "Exception"), (.type "BaseException"), (.type "object")] 68 "NoRule" Bool.true [] [] Bool.false none Bool.false)) (List.toArray ((some (.ref 60)) :: none :: (some (.str "NoRule" 250)) :: (some (.str "NoRule" 258)) :: (some (.builtin "ValueError.__new__")) :: (some (.bool true)) :: []))
noncomputable def kb80 (P : Params) : Obj := .mk (.type "dict") none (.dict #[(.mk (PyData.keyHash P "__module__") (.str "__module__" 273) (.str "goaltrail.errors" 187)), (.mk (PyData.keyHash P "__firstlineno__") (.str "__firstlineno__" 277) (.int 13 276)), (.mk (PyData.keyHash P "__static_attributes__") (.str "__static_attributes__" 278) (.ref 79)), (.mk (PyData.keyHash P "__doc__") (.str "__doc__" 279) .none)] 2) #[]
noncomputable def kb81 (P : Params) : Obj := .mk (.type "type") none (.cls (.mk "Big" [(.ref 32)] [(.ref 81), (.ref 32), (.type "ValueError"), (.type "Exception"), (.type "BaseException"), (.type "object")] 80 "Big" Bool.true [] [] Bool.false none Bool.false)) (List.toArray ((some (.ref 72)) :: none :: (some (.str "Big" 266)) :: (some (.str "Big" 274)) :: (some (.builtin "ValueError.__new__")) :: (some (.bool true)) :: []))
noncomputable def kb92 (P : Params) : Obj := .mk (.type "dict") none (.dict #[(.mk (PyData.keyHash P "__module__") (.str "__module__" 289) (.str "goaltrail.errors" 187)), (.mk (PyData.keyHash P "__firstlineno__") (.str "__firstlineno__" 293) (.int 15 292)), (.mk (PyData.keyHash P "__static_attributes__") (.str "__static_attributes__" 294) (.ref 91)), (.mk (PyData.keyHash P "__doc__") (.str "__doc__" 295) .none)] 2) #[]
noncomputable def kb93 (P : Params) : Obj := .mk (.type "type") none (.cls (.mk "HasKeep" [(.ref 32)] [(.ref 93), (.ref 32), (.type "ValueError"), (.type "Exception"), (.type "BaseException"), (.type "object")] 92 "HasKeep" Bool.true [] [] Bool.false none Bool.false)) (List.toArray ((some (.ref 84)) :: none :: (some (.str "HasKeep" 282)) :: (some (.str "HasKeep" 290)) :: (some (.builtin "ValueError.__new__")) :: (some (.bool true)) :: []))
noncomputable def kb103 (P : Params) : Obj := .mk (.type "tuple") none (.seq #[(.int 0 310)] 0) #[]
noncomputable def kb109 (P : Params) : Obj := cO "__init__" "NotLayered.__init__" 311 312 313 19 3 3 104 181 105 (.ref 106) (.ref 107) 108 317 318
noncomputable def kb110 (P : Params) : Obj := .mk (.type "function") none (.func (PySem.W.fnOf "__init__" "NotLayered.__init__" (defArgs s_NotLayered_init) (defBody s_NotLayered_init) (defScope s_NotLayered_init) (.ref 103) .none .none (.str "goaltrail.errors" 187) none (.ref 109) .none)) #[]
noncomputable def kb112 (P : Params) : Obj := .mk (.type "dict") none (.dict (List.toArray ((.mk (PyData.keyHash P "__module__") (.str "__module__" 305) (.str "goaltrail.errors" 187)) :: (.mk (PyData.keyHash P "__firstlineno__") (.str "__firstlineno__" 309) (.int 17 308)) :: (.mk (PyData.keyHash P "__init__") (.str "__init__" 319) (.ref 110)) :: (.mk (PyData.keyHash P "__static_attributes__") (.str "__static_attributes__" 321) (.ref 111)) :: (.mk (PyData.keyHash P "__doc__") (.str "__doc__" 322) .none) :: [])) 2) #[]
noncomputable def kb113 (P : Params) : Obj := .mk (.type "type") none (.cls (.mk "NotLayered" [(.ref 32)] [(.ref 113), (.ref 32), (.type "ValueError"), (.type "Exception"), (.type "BaseException"), (.type "object")] 112 "NotLayered" Bool.true [] [] Bool.false none Bool.false)) (List.toArray ((some (.ref 96)) :: none :: (some (.str "NotLayered" 298)) :: (some (.str "NotLayered" 306)) :: (some (.builtin "ValueError.__new__")) :: (some (.bool true)) :: []))
noncomputable def kb132 (P : Params) : Obj := .mk (.type "dict") none (.dict (List.toArray ((.mk (PyData.keyHash P "__module__") (.str "__module__" 332) (.str "goaltrail.errors" 187)) :: (.mk (PyData.keyHash P "__firstlineno__") (.str "__firstlineno__" 336) (.int 22 335)) :: (.mk (PyData.keyHash P "__init__") (.str "__init__" 346) (.ref 130)) :: (.mk (PyData.keyHash P "__static_attributes__") (.str "__static_attributes__" 348) (.ref 131)) :: (.mk (PyData.keyHash P "__doc__") (.str "__doc__" 349) .none) :: [])) 2) #[]
noncomputable def kb133 (P : Params) : Obj := .mk (.type "type") none (.cls (.mk "Fault" [(.ref 32)] [(.ref 133), (.ref 32), (.type "ValueError"), (.type "Exception"), (.type "BaseException"), (.type "object")] 132 "Fault" Bool.true [] [] Bool.false none Bool.false)) (List.toArray ((some (.ref 116)) :: none :: (some (.str "Fault" 325)) :: (some (.str "Fault" 333)) :: (some (.builtin "ValueError.__new__")) :: (some (.bool true)) :: []))
noncomputable def kb141 (P : Params) : Obj := cO "is_inner" "is_inner" 362 363 364 32 1 3 136 181 137 (.ref 138) (.ref 139) 140 366 367
noncomputable def kb142 (P : Params) : Obj := fO "is_inner" "is_inner" s_is_inner (.str "goaltrail.terms" 352) 141
noncomputable def kb146 (P : Params) : Obj := cO "is_called" "is_called" 369 370 371 34 2 3 143 181 144 .none .none 145 372 373
noncomputable def kb147 (P : Params) : Obj := fO "is_called" "is_called" s_is_called (.str "goaltrail.terms" 352) 146
noncomputable def kb153 (P : Params) : Obj := cO "is_word" "is_word" 375 376 377 38 1 3 148 181 149 (.ref 150) (.ref 151) 152 379 380
noncomputable def kb154 (P : Params) : Obj := fO "is_word" "is_word" s_is_word (.str "goaltrail.terms" 352) 153
noncomputable def kb160 (P : Params) : Obj := cO "is_named" "is_named" 388 389 390 43 1 3 155 181 156 (.ref 157) (.ref 158) 159 392 393
noncomputable def kb161 (P : Params) : Obj := fO "is_named" "is_named" s_is_named (.str "goaltrail.rules" 382) 160
noncomputable def kb167 (P : Params) : Obj := cO "word_of" "word_of" 395 396 397 45 1 3 162 181 163 (.ref 164) (.ref 165) 166 399 400
noncomputable def kb168 (P : Params) : Obj := fO "word_of" "word_of" s_word_of (.str "goaltrail.rules" 382) 167
noncomputable def kb174 (P : Params) : Obj := cO "leanings_of" "leanings_of" 404 405 406 48 1 3 169 181 170 (.ref 171) (.ref 172) 173 411 412
noncomputable def kb175 (P : Params) : Obj := fO "leanings_of" "leanings_of" s_leanings_of (.str "goaltrail.layers" 402) 174
noncomputable def kb181 (P : Params) : Obj := cO "row_between" "row_between" 414 415 416 57 3 3 176 181 177 (.ref 178) (.ref 179) 180 425 426
noncomputable def kb182 (P : Params) : Obj := fO "row_between" "row_between" s_row_between (.str "goaltrail.layers" 402) 181
noncomputable def kb188 (P : Params) : Obj := cO "check_layered" "check_layered" 428 429 430 70 1 3 183 181 184 (.ref 185) (.ref 186) 187 434 435
noncomputable def kb189 (P : Params) : Obj := fO "check_layered" "check_layered" s_check_layered (.str "goaltrail.layers" 402) 188
noncomputable def kb195 (P : Params) : Obj := cO "raise_layers" "raise_layers" 437 438 439 76 2 3 190 181 191 (.ref 192) (.ref 193) 194 445 446
noncomputable def kb196 (P : Params) : Obj := fO "raise_layers" "raise_layers" s_raise_layers (.str "goaltrail.layers" 402) 195
noncomputable def kb202 (P : Params) : Obj := cO "layers_of" "layers_of" 448 449 450 84 1 3 197 181 198 (.ref 199) (.ref 200) 201 456 457
noncomputable def kb203 (P : Params) : Obj := fO "layers_of" "layers_of" s_layers_of (.str "goaltrail.layers" 402) 202
noncomputable def kb209 (P : Params) : Obj := cO "_law_cell_at" "_law_cell_at" 461 462 463 96 2 3 204 181 205 (.ref 206) (.ref 207) 208 466 467
noncomputable def kb210 (P : Params) : Obj := fO "_law_cell_at" "_law_cell_at" s_l_cell_at (.str "law_goaltrail_k60_layers_or_a_ring" 459) 209
noncomputable def kb216 (P : Params) : Obj := cO "_law_pick" "_law_pick" 469 470 471 100 3 3 211 181 212 (.ref 213) (.ref 214) 215 476 477
noncomputable def kb217 (P : Params) : Obj := fO "_law_pick" "_law_pick" s_l_pick (.str "law_goaltrail_k60_layers_or_a_ring" 459) 216
noncomputable def kb221 (P : Params) : Obj := cO "_law_words" "_law_words" 479 480 481 103 1 3 218 181 219 .none .none 220 482 483
noncomputable def kb222 (P : Params) : Obj := fO "_law_words" "_law_words" s_l_words (.str "law_goaltrail_k60_layers_or_a_ring" 459) 221
noncomputable def kb228 (P : Params) : Obj := cO "_law_word" "_law_word" 485 486 487 116 4 3 223 181 224 (.ref 225) (.ref 226) 227 493 494
noncomputable def kb229 (P : Params) : Obj := fO "_law_word" "_law_word" s_l_word (.str "law_goaltrail_k60_layers_or_a_ring" 459) 228
noncomputable def kb235 (P : Params) : Obj := cO "_law_goal" "_law_goal" 496 497 498 119 1 3 230 181 231 (.ref 232) (.ref 233) 234 500 501
noncomputable def kb236 (P : Params) : Obj := fO "_law_goal" "_law_goal" s_l_goal (.str "law_goaltrail_k60_layers_or_a_ring" 459) 235
noncomputable def kb242 (P : Params) : Obj := cO "_law_rules" "_law_rules" 503 504 505 121 3 3 237 181 238 (.ref 239) (.ref 240) 241 519 520
noncomputable def kb243 (P : Params) : Obj := fO "_law_rules" "_law_rules" s_l_rules (.str "law_goaltrail_k60_layers_or_a_ring" 459) 242
noncomputable def kb249 (P : Params) : Obj := cO "_law_leanings" "_law_leanings" 522 523 524 142 1 3 244 181 245 (.ref 246) (.ref 247) 248 533 534
noncomputable def kb250 (P : Params) : Obj := fO "_law_leanings" "_law_leanings" s_l_leanings (.str "law_goaltrail_k60_layers_or_a_ring" 459) 249
noncomputable def kb256 (P : Params) : Obj := cO "_law_ring" "_law_ring" 536 537 538 155 2 3 251 181 252 (.ref 253) (.ref 254) 255 544 545
noncomputable def kb257 (P : Params) : Obj := fO "_law_ring" "_law_ring" s_l_ring (.str "law_goaltrail_k60_layers_or_a_ring" 459) 256
noncomputable def kb263 (P : Params) : Obj := cO "_law_told_ring" "_law_told_ring" 547 548 549 165 1 3 258 181 259 (.ref 260) (.ref 261) 262 552 553
noncomputable def kb264 (P : Params) : Obj := fO "_law_told_ring" "_law_told_ring" s_l_told_ring (.str "law_goaltrail_k60_layers_or_a_ring" 459) 263
noncomputable def kb270 (P : Params) : Obj := cO "_law_least" "_law_least" 555 556 557 171 3 3 265 181 266 (.ref 267) (.ref 268) 269 564 565
noncomputable def kb271 (P : Params) : Obj := fO "_law_least" "_law_least" s_l_least (.str "law_goaltrail_k60_layers_or_a_ring" 459) 270
noncomputable def kb277 (P : Params) : Obj := cO "_law_layered" "_law_layered" 567 568 569 181 2 3 272 181 273 (.ref 274) (.ref 275) 276 574 575
noncomputable def kb278 (P : Params) : Obj := fO "_law_layered" "_law_layered" s_l_layered (.str "law_goaltrail_k60_layers_or_a_ring" 459) 277
noncomputable def kb284 (P : Params) : Obj := cO "law" "law" 577 578 579 193 1 3 279 181 280 (.ref 281) (.ref 282) 283 589 590
noncomputable def kb285 (P : Params) : Obj := fO "law" "law" s_law (.str "law_goaltrail_k60_layers_or_a_ring" 459) 284
noncomputable def KK : Params → PySem.W.Frag := fun P => (nat_lit 2, kb2 P) :: (nat_lit 3, kb3 P) :: (nat_lit 22, kb22 P) :: (nat_lit 28, kb28 P) :: (nat_lit 29, kb29 P) :: (nat_lit 31, kb31 P) :: (nat_lit 32, kb32 P) :: (nat_lit 44, kb44 P) :: (nat_lit 45, kb45 P) :: (nat_lit 56, kb56 P) :: (nat_lit 57, kb57 P) :: (nat_lit 68, kb68 P) :: (nat_lit 69, kb69 P) :: (nat_lit 80, kb80 P) :: (nat_lit 81, kb81 P) :: (nat_lit 92, kb92 P) :: (nat_lit 93, kb93 P) :: (nat_lit 103, kb103 P) :: (nat_lit 109, kb109 P) :: (nat_lit 110, kb110 P) :: (nat_lit 112, kb112 P) :: (nat_lit 113, kb113 P) :: (nat_lit 132, kb132 P) :: (nat_lit 133, kb133 P) :: (nat_lit 141, kb141 P) :: (nat_lit 142, kb142 P) :: (nat_lit 146, kb146 P) :: (nat_lit 147, kb147 P) :: (nat_lit 153, kb153 P) :: (nat_lit 154, kb154 P) :: (nat_lit 160, kb160 P) :: (nat_lit 161, kb161 P) :: (nat_lit 167, kb167 P) :: (nat_lit 168, kb168 P) :: (nat_lit 174, kb174 P) :: (nat_lit 175, kb175 P) :: (nat_lit 181, kb181 P) :: (nat_lit 182, kb182 P) :: (nat_lit 188, kb188 P) :: (nat_lit 189, kb189 P) :: (nat_lit 195, kb195 P) :: (nat_lit 196, kb196 P) :: (nat_lit 202, kb202 P) :: (nat_lit 203, kb203 P) :: (nat_lit 209, kb209 P) :: (nat_lit 210, kb210 P) :: (nat_lit 216, kb216 P) :: (nat_lit 217, kb217 P) :: (nat_lit 221, kb221 P) :: (nat_lit 222, kb222 P) :: (nat_lit 228, kb228 P) :: (nat_lit 229, kb229 P) :: (nat_lit 235, kb235 P) :: (nat_lit 236, kb236 P) :: (nat_lit 242, kb242 P) :: (nat_lit 243, kb243 P) :: (nat_lit 249, kb249 P) :: (nat_lit 250, kb250 P) :: (nat_lit 256, kb256 P) :: (nat_lit 257, kb257 P) :: (nat_lit 263, kb263 P) :: (nat_lit 264, kb264 P) :: (nat_lit 270, kb270 P) :: (nat_lit 271, kb271 P) :: (nat_lit 277, kb277 P) :: (nat_lit 278, kb278 P) :: (nat_lit 284, kb284 P) :: (nat_lit 285, kb285 P) :: []
noncomputable def prog : Program := PySem.Challenge.pw_goaltrail_k60_layers_or_a_ring
noncomputable def Q : Program := PySem.W.view prog [1, 2, 3, 4, 5, 6, 7, 8, 10, 11, 12, 13, 14, 15, 16, 18, 19, 20, 21, 23, 24, 25, 26, 27, 29, 30, 31, 32, 33, 34, 35, 36, 37, 38, 39, 40]
noncomputable def loose : List Str := ["TrailError", "NotLayered", "Fault"]
noncomputable def Xt (s : Shared) : Bool := PySem.W.xlAt Q [] s && PySem.W.recOk [] s
lay_quick prog Q loose Xt KK
noncomputable def ads : List Addr := [2, 3, 22, 28, 29, 31, 32, 44, 45, 56, 57, 68, 69, 80, 81, 92, 93, 103, 109, 110, 112, 113, 132, 133, 141, 142, 146, 147, 153, 154, 160, 161, 167, 168, 174, 175, 181, 182, 188, 189, 195, 196, 202, 203, 209, 210, 216, 217, 221, 222, 228, 229, 235, 236, 242, 243, 249, 250, 256, 257, 263, 264, 270, 271, 277, 278, 284, 285]
theorem run1 : ∀ w : World, (fun os => (PySem.W.segRunT treeTable prog w 11 (some (.ref 6)) 0 2614 (bootS w os) (PySem.W.topStub prog)).map fun r => looks prog Q loose Xt (fun s => ads.map s.heap.get?) true (PySem.W.boot_heap w.params) r.2.1.abs) = fun _ => some (true, PySem.W.openGood Q loose, (KK w.params).map fun p => some p.2) := by
  intro w
  rw [PySem.W.Fast.te10110043849684766642, PySem.W.Fast.te14364793385576792824, PySem.W.Fast.te2530740449226627131, PySem.W.Fast.te3486900944545009338, PySem.W.Fast.te10845986317416049621, PySem.W.Fast.te5655336392911312201, PySem.W.Fast.te2269092192922489660, PySem.W.Fast.te11443658404787768991, PySem.W.Fast.te8497152684455178732, PySem.W.Fast.te18048671565189718596, PySem.W.Fast.te6894247980046229166]
  kernel_rfl
theorem left1 : PySem.W.LeftO prog Q loose Xt (fun s => ads.map s.heap.get?) (fun w => (KK w.params).map fun p => some p.2) 2614 := left_of (by kernel_rfl) (by decide) (fun _ => by kernel_rfl) boot_size (by decide) run1
theorem walk {l : PySem.W.OpenLaw} {q : Program} {loose : List Str} {XP : (Str → Option Value) → Heap → Prop} {YP : World → Heap → Prop} {d : DefRec} {K : Params → PySem.W.Frag} (hn : l.most = some 63) (hdf : d.params.defaults = [])
    (hY : ∀ (w : World) (h : Heap), YP w h → (K w.params).In h)
    (F : ∀ (w : World) (mg : Str → Option Value) (fa : Addr) (h : Heap), (K w.params).In h → h.Ns mainGlobals mg → mg d.name = some (.ref fa) →
      ∃ fd : FuncData, (∀ (s : Shared) (u : Value), BindsTo s fd ⟨[u], []⟩ [("_law_script", u)]) ∧ ∀ base : Heap, (K w.params).In base → base.Ns mainGlobals mg → FnOk l.prog w (K w.params) mg base CX0 7 fa fd ["_law_script"] (sp_law (K w.params))) :
    PySem.W.WalkO q loose XP YP l.row.toRowW d [] (fun f vs => PySem.call f vs) :=
  L2.walk_of (n := 63) (k := 7) (x := "_law_script") (CX := fun _ => CX0) (sp := fun w => sp_law (K w.params)) hn (by decide) hdf ⟨rfl, by decide, by decide⟩ hY F (fun _ _ a ns hl hO hS => ⟨ns, hS, hl, fun _ => rfl⟩) fun _ _ _ _ _ z => z
end My
open PySem PySem.W PyProof.Rows
set_option maxRecDepth 100000 in
set_option maxHeartbeats 0 in
theorem PySem.Challenge.cw_goaltrail_k60_layers_or_a_ring_holds : PySem.Challenge.rw_goaltrail_k60_layers_or_a_ring.Holds := by
  w_on; o_law
  refine PySem.W.holds_open (q := My.Q) (loose := My.loose) (Xt := My.Xt) (XP := PySem.W.XL My.Q []) (Yf := fun s => My.ads.map s.heap.get?) (Ya := fun w => (My.KK w.params).map fun (p : Addr × Obj) => some p.2) (YP := PySem.W.InK My.KK) (N := 2614) My.left1 (PySem.W.InK.of (fun _ => by kernel_rfl)) PySem.W.InK.keeps (fun s e => PySem.W.xl_of s (Bool.and_eq_true_iff.mp e).1) PySem.W.XL.keeps (by rfl) (by rfl) (by rfl) (fun s e => PySem.W.recFacts_of (Bool.and_eq_true_iff.mp e).2) (by rfl) (by assumption) (by decide +kernel) ⟨rfl, rfl, rfl, rfl, rfl, by decide +kernel⟩ ?hw ?hc
  (case hw => w_witness2)
  k_fill
  refine My.walk (l := PySem.Challenge.rw_goaltrail_k60_layers_or_a_ring) rfl rfl (fun w h Y => Y) ?F
  case F =>
    intro w mg fa h KX G hmg
    have TT : ∃ t : My.Ad, My.Txt (L2.KOf KX) mg t ∧ ∀ (s : Shared) (u : Value), BindsTo s t.d_law ⟨[u], []⟩ [("_law_script", u)] := by
      dsimp only [L2.KOf]
      refine' My.txt_mk KX G ?ac_TrailError ?oc_TrailError ?ga_TrailError ?gx_TrailError ?sa_TrailError ?na_TrailError_row ?na_TrailError_ring ?in_TrailError ?kc_TrailError ?gm_TrailError ?rm_TrailError ?tm_TrailError ?ac_NoText ?ac_NoSign ?ac_NoRule ?ac_Big ?ac_HasKeep ?ac_NotLayered ?oc_NotLayered ?ga_NotLayered ?gx_NotLayered ?sa_NotLayered ?na_NotLayered_row ?na_NotLayered_ring ?in_NotLayered ?kc_NotLayered ?ja_NotLayered ?jn_NotLayered ?jt_NotLayered ?jm_NotLayered ?ac_Fault ?iz_NotLayered_NoText ?iz_NotLayered_NoSign ?iz_NotLayered_Big ?iz_NotLayered_HasKeep ?iz_NotLayered_Fault ?iz_NotLayered_NoRule ?iz_NotLayered_NotLayered ?iz_NotLayered_ValueError ?l0 ?c0 ?k0 ?v0_ ?fn0 ?l1 ?c1 ?k1 ?v1_ ?fn1 ?a2 ?l2 ?c2 ?k2 ?a3 ?l3 ?c3 ?k3 ?a4 ?l4 ?c4 ?k4 ?a5 ?l5 ?c5 ?k5 ?a6 ?l6 ?c6 ?k6 ?a7 ?l7 ?c7 ?k7 ?a8 ?l8 ?c8 ?k8 ?a9 ?l9 ?c9 ?k9 ?a10 ?l10 ?c10 ?k10 ?a11 ?l11 ?c11 ?k11 ?a12 ?l12 ?c12 ?k12 ?a13 ?l13 ?c13 ?k13 ?a14 ?l14 ?c14 ?k14 ?a15 ?l15 ?c15 ?k15 ?a16 ?l16 ?c16 ?k16 ?a17 ?l17 ?c17 ?k17 ?a18 ?l18 ?c18 ?k18 ?a19 ?l19 ?c19 ?k19 ?a20 ?l20 ?c20 ?k20 ?a21 ?l21 ?c21 ?k21 ?a22 ?l22 ?c22 ?k22 ?a23 ?l23 ?c23 ?k23 ?z0 ?z1 ?z2 ?z3 ?z4 ?z5 ?z6 ?z7 ?z8 ?z9 ?z10 ?z11 ?z12 ?y0 ?y1 ?y2 ?y3 ?y4 ?y5
      (case ac_TrailError => k_is)
      (case oc_TrailError => k_is)
      (case ga_TrailError => k_is)
      (case gx_TrailError => k_is)
      (case sa_TrailError => k_is)
      (case na_TrailError_row => k_is)
      (case na_TrailError_ring => k_is)
      (case in_TrailError => k_is)
      (case kc_TrailError => k_is)
      (case gm_TrailError => k_is)
      (case rm_TrailError => k_is)
      (case tm_TrailError => k_is)
      (case ac_NoText => k_is)
      (case ac_NoSign => k_is)
      (case ac_NoRule => k_is)
      (case ac_Big => k_is)
      (case ac_HasKeep => k_is)
      (case ac_NotLayered => k_is)
      (case oc_NotLayered => k_is)
      (case ga_NotLayered => k_is)
      (case gx_NotLayered => k_is)
      (case sa_NotLayered => k_is)
      (case na_NotLayered_row => k_is)
      (case na_NotLayered_ring => k_is)
      (case in_NotLayered => k_is)
      (case kc_NotLayered => k_is)
      (case ja_NotLayered => k_is)
      (case jn_NotLayered => k_is)
      (case jt_NotLayered => k_is)
      (case jm_NotLayered => k_is)
      (case ac_Fault => k_is)
      (case iz_NotLayered_NoText => kit_is)
      (case iz_NotLayered_NoSign => kit_is)
      (case iz_NotLayered_Big => kit_is)
      (case iz_NotLayered_HasKeep => kit_is)
      (case iz_NotLayered_Fault => kit_is)
      (case iz_NotLayered_NoRule => kit_is)
      (case iz_NotLayered_NotLayered => kit_is)
      (case iz_NotLayered_ValueError => kit_is)
      (case l0 => k_is)
      (case c0 => k_is)
      (case k0 => k_is)
      (case v0_ => k_is)
      (case fn0 => k_is)
      (case l1 => k_is)
      (case c1 => k_is)
      (case k1 => k_is)
      (case v1_ => k_is)
      (case fn1 => k_is)
      (case a2 => k_is)
      (case l2 => k_is)
      (case c2 => k_is)
      (case k2 => k_is)
      (case a3 => k_is)
      (case l3 => k_is)
      (case c3 => k_is)
      (case k3 => k_is)
      (case a4 => k_is)
      (case l4 => k_is)
      (case c4 => k_is)
      (case k4 => k_is)
      (case a5 => k_is)
      (case l5 => k_is)
      (case c5 => k_is)
      (case k5 => k_is)
      (case a6 => k_is)
      (case l6 => k_is)
      (case c6 => k_is)
      (case k6 => k_is)
      (case a7 => k_is)
      (case l7 => k_is)
      (case c7 => k_is)
      (case k7 => k_is)
      (case a8 => k_is)
      (case l8 => k_is)
      (case c8 => k_is)
      (case k8 => k_is)
      (case a9 => k_is)
      (case l9 => k_is)
      (case c9 => k_is)
      (case k9 => k_is)
      (case a10 => k_is)
      (case l10 => k_is)
      (case c10 => k_is)
      (case k10 => k_is)
      (case a11 => k_is)
      (case l11 => k_is)
      (case c11 => k_is)
      (case k11 => k_is)
      (case a12 => k_is)
      (case l12 => k_is)
      (case c12 => k_is)
      (case k12 => k_is)
      (case a13 => k_is)
      (case l13 => k_is)
      (case c13 => k_is)
      (case k13 => k_is)
      (case a14 => k_is)
      (case l14 => k_is)
      (case c14 => k_is)
      (case k14 => k_is)
      (case a15 => k_is)
      (case l15 => k_is)
      (case c15 => k_is)
      (case k15 => k_is)
      (case a16 => k_is)
      (case l16 => k_is)
      (case c16 => k_is)
      (case k16 => k_is)
      (case a17 => k_is)
      (case l17 => k_is)
      (case c17 => k_is)
      (case k17 => k_is)
      (case a18 => k_is)
      (case l18 => k_is)
      (case c18 => k_is)
      (case k18 => k_is)
      (case a19 => k_is)
      (case l19 => k_is)
      (case c19 => k_is)
      (case k19 => k_is)
      (case a20 => k_is)
      (case l20 => k_is)
      (case c20 => k_is)
      (case k20 => k_is)
      (case a21 => k_is)
      (case l21 => k_is)
      (case c21 => k_is)
      (case k21 => k_is)
      (case a22 => k_is)
      (case l22 => k_is)
      (case c22 => k_is)
      (case k22 => k_is)
      (case a23 => k_is)
      (case l23 => k_is)
      (case c23 => k_is)
      (case k23 => k_is)
      (case z0 => k_is)
      (case z1 => k_is)
      (case z2 => k_is)
      (case z3 => k_is)
      (case z4 => k_is)
      (case z5 => k_is)
      (case z6 => k_is)
      (case z7 => k_is)
      (case z8 => k_is)
      (case z9 => k_is)
      (case z10 => k_is)
      (case z11 => k_is)
      (case z12 => k_is)
      (case y0 => k_is)
      (case y1 => k_is)
      (case y2 => k_is)
      (case y3 => k_is)
      (case y4 => k_is)
      (case y5 => k_is)
    obtain ⟨t, T, e1⟩ := TT
    have e0 := hmg.symm.trans T.m_law
    cases e0
    exact ⟨t.d_law, e1, fun base kb nb => My.ok_all T⟩
